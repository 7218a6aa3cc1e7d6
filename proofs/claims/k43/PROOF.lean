import PyProof.Rows.All
import Wide.All
import OpenK.AllK
import Wide.FinOn
import Lean
import PyProof.EqAt
import PyProof.EqKinds
import PyProof.TupleCall
import PyProof.Rows.SumAny
import PyProof.StationsW
import PyProof.ExcClass3
import OpenK.KOwn
import KE.KTryDeep
import KE.KIsAll
import PyProof.ExcAttrAll.ValueError
import PyProof.ExcBaseAll.ValueError
import PyProof.InstStoreFacts
import PyProof.RulesTry
import PyProof.Rows.SortStr
import PyProof.TupleOfSeq
import KE.KxWritten
import PyProof.Conv_bool
import KE.KStrOpen
import PyProof.Rows.FStr
import PyProof.SetRoads
import PyProof.DictKinds
import PyProof.Rows.Range3
import PyProof.FactsAll.tuple_2
import PyProof.CollectIter
import PyProof.TupleOfGen
import KE.KSortTup
import PyProof.StrOps
import PyProof.StrLawsIn
import KE.KMinKey
import PyProof.AttrMissHeap
import KE.KDictOf
import PyProof.StrOps2
import PyProof.DictWalks
import KE.KDictList
import PyProof.Rows.ZipGen
import PySem.Challenge.RW_orderkeep_k43_rings_of_groups
namespace PySem.W.Fast
def tw3634465730737846979:=Nat
def tw17107832661699152052:=Nat
def tw6612359968293993718:=Nat
def tw16696049439533960808:=Nat
def tw13559590666003924600:=Nat
def tw15977852806262183771:=Nat
def tw8921032669046617498:=Nat
def tw7291902508740256069:=Nat
def tw6148191439338561176:=Nat
def tw14851065006710003810:=Nat
def tw3993881474873335467:=Nat
def tw15551620656933518406:=Nat
def tw11286252142232314952:=Nat
def tw1697657215588334000:=Nat
def tw5084472113706027501:=Nat
def tw12730546456266718984:=Nat
def tw5236961026510696866:=Nat
def tw11783303266973162742:=Nat
def tw14878216622990208557:=Nat
def tw12452831039038732232:=Nat
def tw2552629563385619699:=Nat
def tw10801681419252813102:=Nat
def tw7725534516200194680:=Nat
def tw17462513028023514366:=Nat
def tw1601042235570579822:=Nat
def tw6927872018945393089:=Nat
def tw4339124636335641366:=Nat
def tw15175917886267058313:=Nat
def tw14672439993609334126:=Nat
def tw8498278272572210854:=Nat
def tw9586535287601991031:=Nat
def tw2826237086441666323:=Nat
def tw15795123979132795424:=Nat
def tw17160873706558142452:=Nat
def tw9736099938195233101:=Nat
def tw3264888859989655161:=Nat
def tw8805854672713590709:=Nat
def tw10882214229957742613:=Nat
def tw3397031320106645006:=Nat
def tw15481707915552190789:=Nat
def tw6326232229135065605:=Nat
def tw1631019677351560094:=Nat
def tw15705107582597110438:=Nat
def tw11500020309111960289:=Nat
def tw7587785623339480880:=Nat
def tw17765157096336210952:=Nat
def tw18362314938950280681:=Nat
def tw8962558708497888077:=Nat
def tw1777244103613593887:=Nat
def tw4819918694690435672:=Nat
def tw4316086005645460836:=Nat
def tw18095694994881350663:=Nat
def tw4736675336011056233:=Nat
def tw7255164808929685571:=Nat
def tw17504840010291798591:=Nat
def tw12236207164911165847:=Nat
def tw13451436110199737730:=Nat
def tw4816196705503110115:=Nat
def tw14811521756840624180:=Nat
def tw13262329360995291126:=Nat
def tw14290587728547051659:=Nat
def tw7289621021337465067:=Nat
def tw9043798174812216941:=Nat
def tw12356055051610625992:=Nat
def tw14196538527312979885:=Nat
def tw13077009807557422063:=Nat
def tw8050668331649305899:=Nat
def tw8027311905898548058:=Nat
def tw7001576800229107631:=Nat
def tw17184106035406217436:=Nat
def tw2428783486368153142:=Nat
def tw7844518122333574116:=Nat
def tw4151553141456357381:=Nat
def tw11487762785985308228:=Nat
def tw2176208627055361814:=Nat
def tw12887797389226860098:=Nat
def tw440203042944416635:=Nat
def tw4978987645154236310:=Nat
def tw16156283509469023218:=Nat
def tw421942218960424055:=Nat
def tw5586339920294937446:=Nat
def tw4822497073524675511:=Nat
def tw14058965996823182480:=Nat
def tw10436266350278148741:=Nat
def tw5200155325737427807:=Nat
def tw9992120678641104872:=Nat
def tw4027859893865980538:=Nat
def tw11149663379142418367:=Nat
def tw2474729310821788347:=Nat
def tw9401748193684643550:=Nat
def tw6560751398613068915:=Nat
def tw10244727144528731665:=Nat
def tw5909213053428054539:=Nat
def tw789130958518130217:=Nat
def tw3296825469704962929:=Nat
def tw6058334910048938121:=Nat
def tw2099668942751990265:=Nat
def tw933261870498330095:=Nat
def tw1815276008810613479:=Nat
def tw7177149696662947949:=Nat
def tw2249936611144647175:=Nat
def tw13270784949300172063:=Nat
def tw15030845048937226568:=Nat
def tw17777193364798728712:=Nat
def tw14959016135263602757:=Nat
def tw17111340623209195229:=Nat
def tw17950319350096099723:=Nat
def tw12575794719497962806:=Nat
def tw16506852101258908407:=Nat
def tw17555860320011084628:=Nat
def tw4485655498572890140:=Nat
def tw4870741631128797898:=Nat
def tw11122505167319666516:=Nat
def tw3007875319508084633:=Nat
def tw14967630436445566102:=Nat
def tw5616148889957680785:=Nat
def tw8573231265376528924:=Nat
def tw1922560174352124387:=Nat
def tw10353513662154858183:=Nat
def tw2577631488651067760:=Nat
def tw12259746166552563830:=Nat
def tw5255131637282204192:=Nat
def tw15692251015677628040:=Nat
def tw4226388607467036403:=Nat
def tw14540855166035885082:=Nat
def tw6457971968294675640:=Nat
def tw18069178013430427835:=Nat
def tw5071344105117945027:=Nat
def tw15393713246643110898:=Nat
def tw14831653067520882698:=Nat
def tw2805261965361780333:=Nat
def tw2754625293416719694:=Nat
def tw1420901608435233979:=Nat
def tw1920930321255040768:=Nat
def tw15915647343944514449:=Nat
def tw15407533716779339106:=Nat
def tw6243091839167930644:=Nat
def tw5534771627839357660:=Nat
def tw4243733602448375114:=Nat
def tw11044123561860587136:=Nat
def tw14530027624904461155:=Nat
def tw7551434266573903703:=Nat
def tw5850140098128691803:=Nat
def tw5634721451372887677:=Nat
def tw4566405970279033213:=Nat
def tw10793412073883120669:=Nat
def tw3190411704246791204:=Nat
def tw17966684053777921036:=Nat
def tw5506946813833544769:=Nat
def tw15793571808882569545:=Nat
def tw13368981034144129775:=Nat
def tw4493476768851219149:=Nat
def tw9364581864537649934:=Nat
def tw6260427858262210238:=Nat
def tw4661330735714214658:=Nat
def tw5482188389919459192:=Nat
def tw11537847973425443663:=Nat
def tw9160975725346910940:=Nat
def tw10809049477970054135:=Nat
def tw1729824104649855736:=Nat
def tw15625368945106186252:=Nat
def tw5963429797634284450:=Nat
def tw7150819394375900657:=Nat
def tw13747118129142836265:=Nat
def tw6824485894845705663:=Nat
def tw2807518482604875809:=Nat
def tw6555223360017422494:=Nat
def tw10934042999984389691:=Nat
def tw12777402603393178774:=Nat
def tw12554172228404169020:=Nat
def tw7736567159172782994:=Nat
def tw1539656609647927657:=Nat
def tw7915434505161662228:=Nat
def tw9244439594712120485:=Nat
def tw424219275838468232:=Nat
def tw7438235997294272035:=Nat
def tw16935334879771489986:=Nat
def tw3873268227355351728:=Nat
def tw9747886104435566479:=Nat
def tw16796117672587717855:=Nat
def tw10236410492425419405:=Nat
def tw2574326919611839725:=Nat
def tw213295597092512965:=Nat
def tw2205448692195257189:=Nat
def tw14280861311873572896:=Nat
def tw16135535867281702781:=Nat
def tw9693416694330464691:=Nat
def tw6381581466801412379:=Nat
def tw14411174891919458690:=Nat
def tw947652240988868662:=Nat
def tw18007205143381001943:=Nat
def tw4754060096801885358:=Nat
def tw10950417986668794486:=Nat
def tw5811298540851230969:=Nat
def tw2992655482451551849:=Nat
def tw17698308280221272511:=Nat
def tw2796128735335477035:=Nat
def tw11640136748645195662:=Nat
def tw18033205453581763663:=Nat
def tw7918731325633019774:=Nat
def tw9068840426029137348:=Nat
def tw12311819927236409074:=Nat
def tw12651727152492078117:=Nat
def tw18193108999881222303:=Nat
def tw16655348453606669141:=Nat
def tw5989979406109762747:=Nat
def tw15354324921290025899:=Nat
def tw8606600844962357809:=Nat
def tw17403701316677791588:=Nat
def tw8044506727424518627:=Nat
def tw1485016802529372399:=Nat
def tw9826729678335827118:=Nat
end PySem.W.Fast
section
open PySem PySem.Spec PyProof.Rows
abbrev wq:=@wpAny_bind
abbrev wr:=@Nat.le_refl
abbrev wt:=@List.length_map
abbrev wu:=@wpAny_pure
abbrev wv:=@List.getElem?_eq_some_iff
abbrev ww:=@List.mem_map
abbrev wy:=@List.map_append
abbrev wz:=@Heap.lt_size
abbrev wA:=@Option.some.inj
abbrev wB:=@List.length_append
abbrev wC:=@List.length_cons
abbrev wD:=@Heap.get?_push_of_some
abbrev wE:=@List.mem_of_getElem?
abbrev wF:=@decide_eq_true
abbrev wG:=@List.take_add_one
abbrev wH:=@List.mem_cons
abbrev wI:=@List.take_of_length_le
abbrev wJ:=@Nat.ne_of_lt
abbrev wK:=@of_decide_eq_true
abbrev wM:=@Nat.le_trans
abbrev wN:=@List.getElem?_map
abbrev wO:=@List.mem_singleton
abbrev wP:=@List.getElem?_eq_getElem
abbrev wQ:=@Heap.get?_push_size
abbrev wR:=@List.mem_append
abbrev wS:=@List.mem_append_right
abbrev wT:=@List.size_toArray
abbrev wV:=@List.mem_filter
abbrev wW:=@Nat.zero_le
abbrev wX:=@decide_eq_false
abbrev wY:=@List.mem_cons_of_mem
abbrev wZ:=@Bool.false_ne_true
abbrev w6:=@List.getD_eq_getElem?_getD
abbrev w8:=@Nat.lt_of_lt_of_le
abbrev xa:=@List.append_nil
abbrev xb:=@List.map_cons
abbrev xc:=@Int.eq_ofNat_of_zero_le
abbrev xf:=@List.nodup_cons
abbrev xg:=@wpAny_field
abbrev xh:=@wpAny_holding
abbrev xi:=@List.length_take
abbrev xj:=@Bool.and_eq_true
abbrev xk:=@List.length_nil
abbrev xl:=@wpAny_mono
abbrev xm:=@List.filter_append
abbrev xn:=@List.length_filter_le
abbrev xo:=@List.lookup_cons
abbrev xp:=@Nat.lt_irrefl
abbrev xq:=@List.mem_range
abbrev xr:=@Bool.eq_iff_iff
abbrev xt:=@wpAny_seqItems
abbrev xu:=@List.length_range
abbrev xv:=@List.filter_cons
abbrev xw:=@List.filter_nil
abbrev xx:=@List.length_zip
abbrev xy:=@List.getElem?_zip_eq_some
abbrev xz:=@List.append_assoc
abbrev xA:=@Nat.le_of_lt
abbrev xB:=@List.nodup_append
abbrev xC:=@List.any_cons
abbrev xD:=@List.find?_cons
abbrev xE:=@Nat.le_of_not_lt
abbrev xF:=@wpAny_setField_rec
abbrev xG:=@List.idxOf_lt_length_of_mem
abbrev xH:=@List.mem_flatMap
abbrev xI:=@List.mem_cons_self
abbrev xJ:=@List.mem_append_left
abbrev xK:=@Nat.ne_of_gt
abbrev xL:=@wpAny_pyIter_tuple
abbrev xM:=@List.mem_filterMap
abbrev xN:=@Option.isSome_iff_exists
abbrev xO:=@List.length_drop
abbrev xP:=@List.nodup_nil
abbrev xQ:=@Bool.false_eq_true
abbrev xR:=@List.getElem_mem
abbrev xS:=@Int.emod_nonneg
abbrev xT:=@List.drop_eq_getElem_cons
abbrev xU:=@List.take_append_drop
abbrev xV:=@List.map_drop
abbrev xW:=@Array.length_toList
abbrev xX:=@List.getElem?_append_right
abbrev xY:=@List.getElem?_append_left
abbrev xZ:=@Int.toNat_natCast
abbrev x3:=@List.forIn_cons
abbrev x4:=@List.all_eq_true
abbrev x6:=@Heap.size_push
abbrev x8:=@Array.toList_append
abbrev ya:=@List.drop_of_length_le
abbrev yb:=@List.length_singleton
abbrev yc:=@List.any_eq_true
abbrev yd:=@Int.emod_lt_of_pos
abbrev ye:=@List.flatMap_append
abbrev yf:=@Nat.eq_zero_or_pos
abbrev yg:=@Nat.succ_le_succ
abbrev yh:=@List.pairwise_lt_range
abbrev yi:=@List.getElem?_of_mem
abbrev yj:=@List.mem_of_mem_drop
abbrev yk:=@List.getElem?_eq_none
abbrev ym:=@List.drop_append_of_le_length
abbrev yn:=@List.exists_cons_of_length_eq_add_one
end
noncomputable section
set_option autoImplicit true
set_option Elab.async false
set_option linter.all false
set_option maxRecDepth 100000
namespace L2
open PySem PySem.Spec PyProof.Rows
abbrev _root_.LS:=List Str
abbrev _root_.QS:=Value->Shared->Prop
abbrev _root_.MS:=Str->Option Value
abbrev _root_.AO_:=List (Addr × Obj)
abbrev _root_.OV:=Option Value
abbrev Key:=Sum Int Str
def gW:Key->Value->Bool
 | .inl k,v=>Value.isInt k v
 | .inr x,v=>Value.isStrOf x v
def keyH (w:World):Key->Int
 | .inl k=>hashInt k
 | .inr x=>hashStr w x
theorem bV:∀ {k:Key}{v:Value},gW k v=true->(∃i t,k=Sum.inl i/\v=Value.int i t)∨(∃x t,k=Sum.inr x/\v=Value.str x t)
 | .inl i,v,h=>by
  obtain⟨t,e⟩:=Value.isInt_shape (k:=i) (v:=v) h;exact .inl ⟨i,t,rfl,e⟩
 | .inr x,v,h=>by
  obtain⟨t,e⟩:=Value.isStrOf_shape (x:=x) (v:=v) h;exact .inr ⟨x,t,rfl,e⟩
theorem oy (i:Int) (t:Tok):gW (.inl i) (.int i t)=true:=by simp[gW,Value.isInt]
theorem pJ (x:Str) (t:Tok):gW (.inr x) (.str x t)=true:=by simp[gW,Value.isStrOf]
theorem uk (a b:Int):decide ((Sum.inl a:Key)=Sum.inl b)=(a==b):=by
 by_cases e:a=b
 ·subst e;simp
 ·have h:¬ (Sum.inl a:Key)=Sum.inl b:=λq=>e (Sum.inl.inj q);rw[wX h];exact(beq_eq_false_iff_ne.mpr e).symm
theorem vn (a b:Str):decide ((Sum.inr a:Key)=Sum.inr b)=decide (a=b):=by
 by_cases e:a=b
 ·subst e;simp
 ·have h:¬ (Sum.inr a:Key)=Sum.inr b:=λq=>e (Sum.inr.inj q);rw[wX h,wX e]
theorem ux (a:Int) (b:Str):decide ((Sum.inl a:Key)=Sum.inr b)=false:=wX (λq=>nomatch q)
theorem uu (a:Str) (b:Int):decide ((Sum.inr a:Key)=Sum.inl b)=false:=wX (λq=>nomatch q)
def bM (prog:Program) (w:World):PySem.KeyKind prog w Key where
 is:=gW
 hash:=keyH w
 inj:=λv a b ha hb=>by
  rcases bV ha with⟨i,t,rfl,rfl⟩ | ⟨x,t,rfl,rfl⟩
  ·rcases bV hb with⟨j,u,rfl,e⟩ | ⟨y,u,rfl,e⟩
   ·injection e with e1 _;rw[e1]
   ·exact nomatch e
  ·rcases bV hb with⟨j,u,rfl,e⟩ | ⟨y,u,rfl,e⟩
   ·exact nomatch e
   ·injection e with e1 _;rw[e1]
 byValue:=λk v h=>by rcases bV h with⟨i,t,rfl,rfl⟩ | ⟨x,t,rfl,rfl⟩ <;> rfl
 pyHash:=λhv h=>by
  rcases bV hv with⟨i,t,rfl,rfl⟩ | ⟨x,t,rfl,rfl⟩
  ·exact wpAny_pyHash_int h
  ·exact wpAny_pyHash_str h
 eqBool:=λhu hv h=>by
  rcases bV hu with⟨i,t,rfl,rfl⟩ | ⟨x,t,rfl,rfl⟩
  ·rcases bV hv with⟨j,u,rfl,rfl⟩ | ⟨y,u,rfl,rfl⟩
   ·rw[uk] at h;exact wpAny_eqBool_int h
   ·rw[ux] at h;exact SeqAt.EqAt.int_str i t y u _ _ _ _ h
  ·rcases bV hv with⟨j,u,rfl,rfl⟩ | ⟨y,u,rfl,rfl⟩
   ·rw[uu] at h;exact SeqAt.EqAt.str_int x t j u _ _ _ _ h
   ·rw[vn] at h;exact wpAny_eqBool_str h
 «strs»:=λk x t v h=>by
  rcases bV h with⟨i,u,rfl,e⟩ | ⟨y,u,rfl,e⟩
  ·exact nomatch e
  ·injection e with e1 _;subst e1;cases v <;> rfl
theorem lI (prog:Program) (w:World) (i:Int) (t:Tok):(bM prog w).is (.inl i) (.int i t)=true:=oy i t
theorem lO (prog:Program) (w:World) (x:Str) (t:Tok):(bM prog w).is (.inr x) (.str x t)=true:=pJ x t
inductive V where
 | non | bl (b:Bool) | int (i:Int) | str (x:Str) | byt (b:Array UInt8) | flt (b:UInt64) | ref (a:Addr) | ty (n:String)
 deriving DecidableEq
abbrev _root_.LV:=List V
abbrev _root_.KV_:=List (Key × V)
def RelV:V->Value->Prop
 | .non,u=>u=Value.none
 | .bl b,u=>u=Value.bool b
 | .int i,u=>∃t,u=Value.int i t
 | .str x,u=>∃t,u=Value.str x t
 | .byt b,u=>∃t,u=Value.bytes b t
 | .flt b,u=>∃t,u=Value.float b t
 | .ref a,u=>u=Value.ref a
 | .ty n,u=>u=Value.type n
abbrev Vals:LV->List Value->Prop:=Paired RelV
theorem Vals.length (r:Vals xs us):xs.length=us.length:=Paired.length r
theorem Vals.get:∀ {xs:LV}{us:List Value}{i:Nat}{x:V},Vals xs us->xs[i]? = some x->∃u,us[i]? = some u/\RelV x u
 | _,_,_,_,.nil,e=>by simp at e
 | _,_,0,_,.cons r _,e=>by simp at e;subst e;exact⟨_,rfl,r⟩
 | _,_,i+1,x,.cons _ t,e=>by
  obtain⟨u,h1,h2⟩:=Vals.get (i:=i) (x:=x) t (by simpa using e);exact⟨u,by simpa using h1,h2⟩
theorem Vals.set (r:RelV x u):∀ {xs:LV}{us:List Value}(i:Nat),Vals xs us->Vals (xs.set i x) (us.set i u)
 | _,_,_,.nil=>.nil
 | _,_,0,.cons _ t=>.cons r t
 | _,_,i+1,.cons q t=>.cons q (Vals.set r i t)
theorem Vals.append:∀ {xs ys:LV}{us ws:List Value},Vals xs us->Vals ys ws->Vals (xs++ys) (us++ws)
 | _,_,_,_,.nil,s=>s
 | _,_,_,_,.cons r t,s=>.cons r (Vals.append t s)
theorem Vals.take:∀ {xs:LV}{us:List Value}(n:Nat),Vals xs us->Vals (xs.take n) (us.take n)
 | _,_,0,_=>.nil
 | _,_,_+1,.nil=>.nil
 | _,_,n+1,.cons r t=>.cons r (Vals.take n t)
theorem Vals.drop:∀ {xs:LV}{us:List Value}(n:Nat),Vals xs us->Vals (xs.drop n) (us.drop n)
 | _,_,0,r=>r
 | _,_,_+1,.nil=>.nil
 | _,_,n+1,.cons _ t=>Vals.drop n t
def RelO:Option V->OV->Prop
 | some v,some u=>RelV v u
 | none,none=>True
 | _,_=>False
def KV:List (κ × V)->List (κ × Value)->Prop:=Paired λ(p:κ × V) (q:κ × Value)=>p.1=q.1/\RelV p.2 q.2
def kV:Key->V
 | .inl i=>.int i
 | .inr x=>.str x
inductive HO where
    | lst (xs:LV)
    | tup (xs:LV)
    | dK (kvs:KV_) | dT (kvs:List (List Key × V))
    | set (S:Int->Bool) (n:Nat)
    | ins (C dx:Addr) (fs:List (Str × V))
    | own (x:Addr)
    | xd (fs:List (Str × V))
    | met (f x:Addr)
    | rng (lo hi:Int)
    | frz (o:Obj) (u:HO)
    | tbl (ps:Array Value)
    | ext (φ:Heap->Prop)
abbrev Hp:=Addr->Option HO
def upd (H:Hp) (a:Addr) (o:HO):Hp:=λb=>if b=a then some o else H b
theorem ac:upd H a o a=some o:=by unfold upd;rw[if_pos rfl]
theorem ag (h:b≠a):upd H a o b=H b:=by unfold upd;rw[if_neg h]
theorem lT:upd (upd H a o) a u=upd H a u:=by
 funext b;unfold upd;split <;> rfl
theorem bP {H:Hp}{a b:Addr}{o u:HO}(h:H a=some o) (h':H b=some u) (d:o≠u):a≠b:=by
 intro e;subst e;rw[h] at h';exact d (wA h')
theorem av {H:Hp}{a b:Addr}{o:HO}(h:H a=some o) (h':H b=none):a≠b:=by
 intro e;subst e;rw[h] at h';cases h'
def TupN (h:Heap) (a:Addr) (items:Array Value):Prop:=∃o,h.get? a=some o/\o.cls=.type "tuple"/\∃n,o.data=.seq items n/\o.dict=none
theorem TupN.tup (x:TupN h a items):IsTup h a items:=let ⟨o,e,c,n,d,_⟩:=x;⟨o,e,c,n,d⟩
theorem TupN.new (h:Heap) (items:Array Value):TupN (h.push { cls:=.type "tuple",data:=.seq items }) h.objs.size items:=⟨_,wQ _ rfl,rfl,_,rfl,rfl⟩
section
variable (P:Program) (w:World)
def ObjOk (H:Hp) (h:Heap) (a:Addr):HO -> Prop
 | .lst xs=>xs.length<=sizeLine/\∃(its:List Value) (n:Nat),Vals xs its/\h.get? a=some { cls:=.type "list",data:=.seq its.toArray n }
 | .tup xs=>xs.length<=sizeLine/\∃its:List Value,Vals xs its/\TupN h a its.toArray
 | .dK kvs=>kvs.length<=sizeLine/\(a==sysModules)=false/\∃vs,KV kvs vs/\h.DictOf (bM P w) a vs
 | .dT kvs=>kvs.length<=sizeLine/\(a==sysModules)=false/\∃xs:List (List Key × Addr × Value),
     Paired (λ(p:List Key × V) (q:List Key × Addr × Value)=>p.1=q.1/\H q.2.1=some (.tup (p.1.map kV))/\RelV p.2 q.2.2) kvs xs /\
     ∃o es ep,h.get? a=some o/\o.ExactDict/\o.data=.dict es ep/\es.toList=xs.map (entryOfKey (tupleKind (bM P w)))/\(xs.map (·.1)).Nodup
 | .set S n=>h.SetOf (intKind P w) a S n
 | .ins C dx fs=>H dx=some (.own a)/\fs.length<=1000/\dx≠a/\h.get? a=some (W.instObj C dx) /\
     ∃mA,h.Ns1 dx mA/\(∀f,RelO (fs.lookup f) (mA f))/\PySem.Within mA (fs.map (·.1))
 | .own _=>∃o,h.get? a=some o
 | .xd fs=>∃mA,h.Ns1 a mA/\∀f,RelO (fs.lookup f) (mA f)
 | .rng lo hi=>∃t u v,h.get? a=some { cls:=.type "range",data:=.fields #[.int lo t,.int hi u,.int 1 v] }
 | .frz o u=>h.get? a=some o/\ObjOk H h a u
 | .tbl ps=>h.get? a=some { cls:=.none,data:=.fields ps }
 | .met f x=>h.get? a=some (W.methodObj (.ref f) (.ref x))
 | .ext φ=>φ h/\(∃o,h.get? a=some o)/\∀h1 h2:Heap,φ h1->(∀o,h1.get? a=some o->h2.get? a=some o)->φ h2
def HOk (H:Hp) (h:Heap):Prop:=∀a o,H a=some o->ObjOk P w H h a o
end
section
variable {P:Program}{w:World}{H H':Hp}{h h':Heap}{a:Addr}{o:HO}
theorem ObjOk.lt (x:ObjOk P w H h a o):a<h.objs.size:=by
 cases o with
 | lst xs=>obtain⟨_,_,_,_,e⟩:=x;exact wz e
 | tup xs=>obtain⟨_,_,_,p⟩:=x;exact p.tup.lt
 | dK kvs=>obtain⟨_,_,_,_,o,_,_,e,_⟩:=x;exact wz e
 | dT kvs=>obtain⟨_,_,_,_,o,_,_,e,_⟩:=x;exact wz e
 | set S n=>obtain⟨o,_,_,_,e,_⟩:=x;exact wz e
 | ins C dx fs=>obtain⟨_,_,_,e,_⟩:=x;exact wz e
 | own y=>obtain⟨_,e⟩:=x;exact wz e
 | xd fs=>obtain⟨_,⟨_,_,_,e,_⟩,_⟩:=x;exact wz e
 | rng lo hi=>obtain⟨_,_,_,e⟩:=x;exact wz e
 | frz ob u=>obtain⟨e,_⟩:=x;exact wz e
 | tbl ps=>exact wz (show h.get? a=some _ from x)
 | met f y=>exact wz (show h.get? a=some _ from x)
 | ext φ=>obtain⟨_,⟨_,e⟩,_⟩:=x;exact wz e
theorem Paired.mapP:∀ {l₁:List α}{l₂:List β},Paired F l₁ l₂->(∀a b,F a b->G a b)->Paired G l₁ l₂
 | _,_,.nil,_=>.nil
 | _,_,.cons r t,f=>.cons (f _ _ r) (Paired.mapP t f)
theorem ObjOk.stay (x:ObjOk P w H h a o) (k:∀b u,(b=a∨H b=some (.own a))->h.get? b=some u->h'.get? b=some u)
    (B:∀b,H b=some (.own a)->H' b=some (.own a)) (D:∀b xs,H b=some (.tup xs)->H' b=some (.tup xs)):ObjOk P w H' h' a o:=by
 induction o with
 | lst xs=>obtain⟨z,l,n,r,e⟩:=x;exact⟨z,l,n,r,k _ _ (.inl rfl) e⟩
 | tup xs=>obtain⟨z,l,r,g,e,c⟩:=x;exact⟨z,l,r,g,k _ _ (.inl rfl) e,c⟩
 | dK kvs=>obtain⟨z,y,G,r,g,i,j,e,c⟩:=x;exact⟨z,y,G,r,g,i,j,k _ _ (.inl rfl) e,c⟩
 | dT kvs =>
  obtain⟨z,y,xs,r,g,i,j,e,c⟩:=x;exact⟨z,y,xs,Paired.mapP r λp q z=>⟨z.1,D _ _ z.2.1,z.2.2⟩,g,i,j,k _ _ (.inl rfl) e,c⟩
 | set S n=>obtain⟨g,i,j,t,e,c⟩:=x;exact⟨g,i,j,t,k _ _ (.inl rfl) e,c⟩
 | ins C dx fs =>
  obtain⟨d,z,F,e,m,⟨s,i,j,E,c⟩,r⟩:=x;exact⟨B _ d,z,F,k _ _ (.inl rfl) e,m,⟨s,i,j,k _ _ (.inr d) E,c⟩,r⟩
 | own y=>obtain⟨g,e⟩:=x;exact⟨g,k _ _ (.inl rfl) e⟩
 | xd fs=>obtain⟨m,⟨s,i,j,e,c⟩,r⟩:=x;exact⟨m,⟨s,i,j,k _ _ (.inl rfl) e,c⟩,r⟩
 | rng lo hi=>obtain⟨t,u,v,e⟩:=x;exact⟨t,u,v,k _ _ (.inl rfl) e⟩
 | frz g u ih=>obtain⟨e,q⟩:=x;exact⟨k _ _ (.inl rfl) e,ih q⟩
 | tbl ps =>
  have e:h.get? a=some { cls:=.none,data:=.fields ps }:=x;show h'.get? a=some { cls:=.none,data:=.fields ps };exact k a _ (.inl rfl) e
 | met f y =>
  have e:h.get? a=some (W.methodObj (.ref f) (.ref y)):=x;show h'.get? a=some (W.methodObj (.ref f) (.ref y));exact k a _ (.inl rfl) e
 | ext φ=>obtain⟨p,⟨o,e⟩,A⟩:=x;exact⟨A _ _ p λo q=>k _ _ (.inl rfl) q,⟨o,k _ _ (.inl rfl) e⟩,A⟩
theorem HOk.lt (x:HOk P w H h) (e:H a=some o):a<h.objs.size:=(x a o e).lt
theorem HOk.fresh (x:HOk P w H h) (e:h.objs.size<=a):H a=none:=by
 cases q:H a with
 | none=>rfl
 | some u=>exact absurd (w8 (x.lt q) e) (xp _)
theorem HOk.kept (x:HOk P w H h) (k:∀b u,h.get? b=some u->h'.get? b=some u):HOk P w H h':=λa o e =>
 (x a o e).stay (λb u _ q=>k b u q) (λ_ q=>q) λ_ _ q=>q
theorem HOk.laid (x:HOk P w H h) (k:∀b u,h.get? b=some u->h'.get? b=some u) (i:h.objs.size<=a) (d:ObjOk P w (upd H a o) h' a o):HOk P w (upd H a o) h':=λb u e=>by
 have f:=x.fresh i;by_cases g:b=a
 ·subst g;rw[ac] at e;cases e;exact d
 ·rw[ag g] at e;exact(x b u e).stay (λc v _ q=>k c v q) (λc q=>by rw[ag (av q f)];exact q) λc j q=>by rw[ag (av q f)];exact q
end
def Rd (H:Hp) (a:Addr) (u:HO):Prop:=H a=some u∨∃o,H a=some (.frz o u)
theorem Rd.ok (r:Rd H a u) (x:HOk P w H h):ObjOk P w H h a u:=by
 rcases r with r | ⟨o,r⟩
 ·exact x a u r
 ·obtain⟨_,q⟩:=x a _ r;exact q
def Mut:Option HO->Prop
 | some (.lst _)=>True
 | some (.dK _)=>True
 | some (.dT _)=>True
 | some (.set _ _)=>True
 | some (.ins _ _ _)=>True
 | some (.ext _)=>True
 | _=>False
section
variable {P:Program}{w:World}{H:Hp}{h h':Heap}{x e:Addr}{o':HO}
theorem HOk.write (s:HOk P w H h) (g:Mut (H x)) (he:e=x ∨ H e=some (.own x)) (k:∀b u, b ≠ e -> h.get? b=some u -> h'.get? b=some u) (m:∃u, h'.get? e=some u)
    (n:ObjOk P w (upd H x o') h' x o'):HOk P w (upd H x o') h':=λb u q=>by
 have d:∀c y,H c=some (.own y)->c≠x:=λc y r z=>by subst z;rw[r] at g;exact g
 have f:∀c i,H c=some (.tup i)->c≠x:=λc i r z=>by subst z;rw[r] at g;exact g
 by_cases l:b=x
 ·subst l;rw[ac] at q;cases q;exact n
 ·rw[ag l] at q;by_cases a:b=e
  ·have o:H b=some (.own x):=by
      rcases he with z | z
      ·exact absurd (a.trans z) l
      ·rw[a];exact z
   rw[q] at o;cases o;obtain⟨v,p⟩:=m;exact⟨v,by rw[a];exact p⟩
  ·refine(s b u q).stay (λc v j r=>k c v ?_ r) (λc r=>by rw[ag (d c b r)];exact r) λc i r=>by rw[ag (f c i r)];exact r
   rcases j with rfl | j
   ·exact a
   ·rintro rfl;rcases he with z | z
    ·exact d c b j z
    ·rw[j] at z;cases z;exact l rfl
end
structure Un (fs ex:List Addr) (H H':Hp) (h h':Heap):Prop where
 keep:∀b o,h.get? b=some o->H b=none->b∉fs->b∉ex->h'.get? b=some o
 slot:∀b o,h.get? b=some o->H b=none->b∈fs->b∉ex->∃sl,h'.get? b=some { o with slots:=sl }
 free:∀b o,h.get? b=some o->H b=none->b∉ex->H' b=none
 there:∀b o,h.get? b=some o->b∉ex->∃o',h'.get? b=some o'
 tups:∀b xs,H b=some (.tup xs)->H' b=some (.tup xs)
 frzs:∀b o u,H b=some (.frz o u)->H' b=some (.frz o u)
 tbls:∀b ps,H b=some (.tbl ps)->∃more,H' b=some (.tbl (ps++more))
section
variable {fs fs' ex ex':List Addr}{H H1 H2:Hp}{h h1 h2 h':Heap}{a x e:Addr}{o:HO}
theorem Un.any (u:Un fs ex H H1 h h1) (q:h.get? b=some z) (n:H b=none) (c:b∉ex):∃sl,h1.get? b=some { z with slots:=sl }:=by
 by_cases a:b∈fs
 ·exact u.slot b z q n a c
 ·exact⟨z.slots,u.keep b z q n a c⟩
theorem Un.kept (k:∀b u,h.get? b=some u->h'.get? b=some u):Un fs ex H H h h' :=
 ⟨λb a q _ _ _=>k b a q,λb a q _ _ _=>⟨a.slots,k b a q⟩,λ_ _ _ n _=>n,λb a q _=>⟨a,k b a q⟩,λ_ _ q=>q,λ_ _ _ q=>q,λ_ c q=>⟨#[],by rw[q];simp⟩⟩
theorem Un.refl:Un fs ex H H h h:=Un.kept λ_ _ q=>q
theorem Un.laid (k:∀b u,h.get? b=some u->h'.get? b=some u) (hp:h.objs.size<=a) (hn:H a=none):Un fs ex H (upd H a o) h h' where
 keep:=λb u q _ _ _=>k b u q
 slot:=λb u q _ _ _=>⟨u.slots,k b u q⟩
 free:=λb u q n _=>by rw[ag (wJ (w8 (wz q) hp))];exact n
 there:=λb u q _=>⟨u,k b u q⟩
 tups:=λb xs q=>by rw[ag (av q hn)];exact q
 frzs:=λb u xs q=>by rw[ag (av q hn)];exact q
 tbls:=λb ps q=>⟨#[],by rw[ag (av q hn),q];simp⟩
theorem Un.write (c:Mut (H x)) (he:e=x∨H e=some (.own x)) (k:∀b u,b≠e->h.get? b=some u->h'.get? b=some u) (d:∃u,h'.get? e=some u):Un fs ex H (upd H x o) h h':=by
 have i:∀b,H b=none->b≠x:=λb n z=>by subst z;rw[n] at c;exact c
 have g:∀b,H b=none->b≠e:=λb n z=>by
  subst z;rcases he with r | r
  ·exact i b n r
  ·rw[n] at r;cases r
 have f:∀b u,H b=some u->¬ Mut (some u)->b≠x:=λb u q l z=>by subst z;rw[q] at c;exact l c
 refine⟨λb u q n _ _=>k b u (g b n) q,λb u q n _ _=>⟨u.slots,k b u (g b n) q⟩,λb u q n _=>by rw[ag (i b n)];exact n,λb u q _=>?_,
  λb j q=>by rw[ag (f b _ q λz=>z)];exact q,λb u j q=>by rw[ag (f b _ q λz=>z)];exact q,λb m q=>⟨#[],by rw[ag (f b _ q λz=>z),q];simp⟩⟩
 by_cases a:b=e
 ·subst a;exact d
 ·exact⟨u,k b u a q⟩
end
def trk (h:Heap) (H:Hp):List Addr:=(List.range h.objs.size).filter λa=>(H a).isSome
def fO (h:Heap) (H:Hp):Heap:=W.hideAll h (trk h H)
theorem oZ (h:Heap) (H:Hp):(fO h H).objs.size=h.objs.size:=W.hideAll_size _ _
theorem rG (e:h.get? b=some o) (n:H b=none):(fO h H).get? b=some o :=
 W.hideAll_get _ e λa=>by
  have q:(H b).isSome=true:=(wV.mp a).2;rw[n] at q;simp at q
theorem sg (e:(fO h H).get? b=some o):h.get? b=some o/\H b=none:=by
 have a:h.get? b=some o:=W.of_hideAll (trk h H) e;refine⟨a,?_⟩;cases q:H b with
 | none=>rfl
 | some x =>
  have c:b∈trk h H:=wV.mpr ⟨xq.mpr (wz a),by simp[q]⟩;have z:(fO h H).get? b=none:=W.hideAll_none (trk h H) c;rw[z] at e;cases e
def rY (g h:Heap) (L:Addr):AO_:=(List.range h.objs.size).filterMap λa=>if a=L∨(g.get? a).isSome=true then none else (h.get? a).map λo=>(a,o)
def aU (g h:Heap) (L d:Addr):AO_:=(rY g h L).filter λp=>decide (p.1≠d)
structure Mod (K:W.Frag) (mg:MS) (base:Heap):Prop where
 kin:K.In base
 glob:base.Ns mainGlobals mg
 blt:∃mb,base.Ns builtinsNs mb/\∀x:Str,x≠"__name__"->mb x=bootBuiltins x
 nolimit:base.NoLimit
structure Cx where
 prog:Program
 w:World
 K:W.Frag
 mg:MS
 base:Heap
 A:Around
 N:LS
 s₀:Shared
 H₀:Hp
 env:Env
 outer:List Env
 stack:List Env
 ex:List Addr
 fn:Str->Bool
 calm:Bool
 pn:AO_
 xe:QS
def frs (l:List Env):List Addr:=l.filterMap (·.frame)
abbrev Cx.fs (X:Cx):List Addr:=frs X.outer
def Vis (sc:Scope) (x:Str):Prop:=sc.names.lookup x=some .local∨sc.names.lookup x=some .cell∨sc.names.lookup x=some .free
def Loc (sc:Scope) (x:Str):Prop:=sc.names.lookup x=some .local∨sc.names.lookup x=some .cell
def Look (env:Env) (h:Heap) (m:MS) (x:Str) (u:Value):Prop :=
 (env.kindOf x=some .local/\m x=some u)∨((env.kindOf x=some .cell∨env.kindOf x=some .free)/\∃c,env.cells.lookup x=some c/\h.IsCell c (some u))
structure Cx.Ok (X:Cx):Prop where
 mod:Mod X.K X.mg X.base
 kind:X.env.scope.kind=.function
 glob:X.env.globals=mainGlobals
 blt:X.env.builtins=builtinsNs
 above:X.s₀.heap.objs.size<=X.env.locals
 inj:∀x y c,X.env.cells.lookup x=some c->X.env.cells.lookup y=some c->x=y
 has:∀x,(X.env.kindOf x=some .cell∨X.env.kindOf x=some .free)->∃c,X.env.cells.lookup x=some c
 cab:∀x c,X.fn x=true->X.env.cells.lookup x=some c->X.s₀.heap.objs.size<=c
 hd:X.calm=true->X.A.handled=none
 frames:X.A.frames=some X.stack
 stk:X.stack=X.outer∨(X.stack=X.env::X.outer/\X.env.frame=some X.env.locals)
 exf:∀b∈X.ex,b≠X.env.locals/\∀x c,X.env.cells.lookup x=some c->c≠b
 bs:∀b o,X.base.get? b=some o->X.s₀.heap.get? b=some o/\X.H₀ b=none
 bsz:X.base.objs.size<=X.s₀.heap.objs.size
 noex:∀b o,X.base.get? b=some o->b∉X.ex
 exfs:∀b∈X.ex,b∉X.fs
 funs:X.s₀.heap.FunFrames X.base X.outer
 frf:∀b∈X.fs,X.H₀ b=none
structure Inv (X:Cx) (pins:AO_) (σ:List (Option V)) (H:Hp) (s:Shared):Prop where
 ok:X.Ok
 os:s.os=X.s₀.os
 bare:AllBare s.gens
 base:Un X.fs X.ex X.H₀ H X.s₀.heap s.heap
 loc:∃m,s.heap.Ns X.env.locals m/\∀(i:Nat) (x:Str) (v:V),X.N[i]? = some x->σ[i]? = some (some v)->Vis X.env.scope x->∃u,RelV v u/\Look X.env s.heap m x u
 cell:∀x c,X.env.cells.lookup x=some c->∃v,s.heap.IsCell c v
 free:H X.env.locals=none
 freeC:∀x c,X.env.cells.lookup x=some c->H c=none
 pin:∀p∈X.pn++pins,s.heap.get? p.1=some p.2/\H p.1=none/\p.1≠X.env.locals/\p.1∉X.fs/\∀v,p.2.data≠.cell v
 hok:HOk X.prog X.w H s.heap
 len:σ.length=X.N.length
section
variable {X:Cx}{pins:AO_}{σ:List (Option V)}{H H':Hp}{s:Shared}{h':Heap}
theorem Cx.Ok.nofr (a:X.Ok) (e:X.base.get? b=some o):b∉X.fs:=λc=>by
 have:=(a.funs.mem c).1;rw[e] at this;cases this
theorem Inv.bs (I:Inv X pins σ H s):∀b o,X.base.get? b=some o->s.heap.get? b=some o/\H b=none:=λb o e =>
 ⟨I.base.keep b o (I.ok.bs b o e).1 (I.ok.bs b o e).2 (I.ok.nofr e) (I.ok.noex b o e),I.base.free b o (I.ok.bs b o e).1 (I.ok.bs b o e).2 (I.ok.noex b o e)⟩
theorem Inv.bk (I:Inv X pins σ H s):∀b o,X.base.get? b=some o->s.heap.get? b=some o:=λb o e=>(I.bs b o e).1
theorem Inv.mod (I:Inv X pins σ H s):Mod X.K X.mg X.base:=I.ok.mod
theorem Inv.kIn (I:Inv X pins σ H s):X.K.In s.heap:=I.ok.mod.kin.keeps I.bk
theorem Inv.lt (I:Inv X pins σ H s):X.env.locals<s.heap.objs.size:=let ⟨_,a,_⟩:=I.loc;a.lt
theorem Inv.sz (I:Inv X pins σ H s):X.s₀.heap.objs.size<=s.heap.objs.size:=wM I.ok.above (xA I.lt)
theorem Inv.nofs (I:Inv X pins σ H s) (h:s.heap.objs.size<=a):a∉X.fs:=λc=>by
 obtain⟨_,o,b,_⟩:=I.ok.funs.mem c;exact absurd (w8 (wz b) (wM I.sz h)) (xp _)
theorem Inv.cne (I:Inv X pins σ H s):∀x c,X.env.cells.lookup x=some c->c≠X.env.locals:=λx c e z=>by
 obtain⟨v,o,d,f⟩:=I.cell x c e;obtain⟨m,⟨h,g,i,a,b,_⟩,_⟩:=I.loc;rw[z,a] at d;cases d;rw[b] at f;cases f
theorem Inv.funs (I:Inv X pins σ H s):s.heap.FunFrames X.base X.outer := by
 have c:∀(l:List Env),(∀b∈frs l,b∈X.fs)->X.s₀.heap.FunFrames X.base l->s.heap.FunFrames X.base l:=by
  intro l
  induction l with
  | nil=>intro _ _;trivial
  | cons env r ih =>
   intro g j;obtain⟨n,⟨L,o,a,k,h,i⟩,m⟩:=j;have f:L∈X.fs:=g L (by unfold frs;rw[List.filterMap_cons,a];exact xI);obtain⟨p,e⟩:=I.base.slot L o h (I.ok.frf L f) f λz=>I.ok.exfs L z f;exact⟨n,⟨L,_,a,k,e,i⟩,ih (λb d=>g b (by unfold frs;rw[List.filterMap_cons,a];exact wY _ d)) m⟩
 exact c X.outer (λ_ d=>d) I.ok.funs
theorem Inv.stack (I:Inv X pins σ H s):s.heap.FunFrames X.base X.stack:=by
 rcases I.ok.stk with e | ⟨e,b⟩
 ·rw[e];exact I.funs
 ·rw[e];obtain⟨m,a,_⟩:=I.loc;refine .cons (by rw[I.ok.kind];decide) b a ?_ I.funs;exact Heap.get?_none_of_le (wM I.ok.bsz I.ok.above)
theorem Inv.stkSub (I:Inv X pins σ H s):∀b∈frs X.stack,b∈X.env.locals::X.fs:=λb a=>by
 rcases I.ok.stk with e | ⟨e,c⟩
 ·rw[e] at a;exact wY _ a
 ·rw[e] at a;unfold frs at a;rw[List.filterMap_cons,c] at a;exact a
theorem Inv.stkFree (I:Inv X pins σ H s):∀b∈frs X.stack,H b=none:=λb a=>by
 rcases wH.mp (I.stkSub b a) with e | a
 ·rw[e];exact I.free
 ·obtain⟨_,o,c,_⟩:=I.ok.funs.mem a;exact I.base.free b o c (I.ok.frf b a) λz=>I.ok.exfs b z a
theorem Inv.step {g':Array GenState}{t':Nat}{d':Drawn}{ch:List Addr}(I:Inv X pins σ H s)
    (j:∀b∈ch,(b∈X.ex∨X.s₀.heap.objs.size<=b)/\b≠X.env.locals/\(∀x c,X.env.cells.lookup x=some c->c≠b)/\∀p∈X.pn++pins,p.1≠b)
    (h:∀b o,b≠X.env.locals->b∉X.fs->b∉ch->s.heap.get? b=some o->H b=none->h'.get? b=some o)
    (A:∀b o,b≠X.env.locals->b∈X.fs->b∉ch->s.heap.get? b=some o->H b=none->∃sl,h'.get? b=some { o with slots:=sl }) (f:∀b o,b∉ch->s.heap.get? b=some o->H b=none->H' b=none)
    (C:∀b o,b∉ch->s.heap.get? b=some o->∃o',h'.get? b=some o')
    (J:∀b xs,H b=some (.tup xs)->H' b=some (.tup xs)) (L:∀b o u,H b=some (.frz o u)->H' b=some (.frz o u)) (K:∀b ps,H b=some (.tbl ps)->∃G,H' b=some (.tbl (ps++G)))
    (ns:∀m,s.heap.Ns X.env.locals m->h'.Ns X.env.locals m) (O:HOk X.prog X.w H' h') (Y:AllBare g') :
    Inv X pins σ H' { s with heap:=h',gens:=g',drawn:=d',toks:=t' }:=by
 have E:∀b o,X.s₀.heap.get? b=some o->b≠X.env.locals:=λb o e=>wJ (w8 (wz e) I.ok.above);have w:∀b o,X.s₀.heap.get? b=some o->b∉X.ex->b∉ch:=λb o e a B=>by
  rcases (j b B).1 with z | z
  ·exact a z
  ·exact absurd (w8 (wz e) z) (xp _)
 have g:∀x c,X.env.cells.lookup x=some c->∀v,s.heap.IsCell c v->h'.IsCell c v:=λx c e v ⟨o,D,M⟩=>by
  have t:c∉ch:=λz=>(j c z).2.2.1 x c e rfl;by_cases R:c∈X.fs
  ·obtain⟨sl,q⟩:=A c o (I.cne x c e) R t D (I.freeC x c e);exact⟨_,q,M⟩
  ·exact⟨o,h c o (I.cne x c e) R t D (I.freeC x c e),M⟩
 refine⟨I.ok,I.os,Y,⟨λb o e n B a=>?_,λb o e n B a=>?_,λb o e n a=>?_,λb o e a=>?_,λb xs e=>J b xs (I.base.tups b xs e),λb o xs e=>L b o xs (I.base.frzs b o xs e),λb ps e=>?_⟩,?_,λx c e=>?_,?_,λx c e=>?_,λp P=>?_,O,I.len⟩
 ·exact h b o (E b o e) B (w b o e a) (I.base.keep b o e n B a) (I.base.free b o e n a)
 ·obtain⟨sl,y⟩:=I.base.slot b o e n B a;obtain⟨N,F⟩:=A b _ (E b o e) B (w b o e a) y (I.base.free b o e n a);exact⟨N,F⟩
 ·obtain⟨o',y⟩:=I.base.there b o e a;exact f b o' (w b o e a) y (I.base.free b o e n a)
 ·obtain⟨o',y⟩:=I.base.there b o e a;exact C b o' (w b o e a) y
 ·obtain⟨W,y⟩:=I.base.tbls b ps e;obtain⟨T,F⟩:=K b _ y;exact⟨W++T,by rw[F,Array.append_assoc]⟩
 ·obtain⟨m,V,U⟩:=I.loc;refine⟨m,ns m V,λi x v y F Z=>?_⟩;obtain⟨u,r,l⟩:=U i x v y F Z;refine⟨u,r,?_⟩;rcases l with l | ⟨k,c,e,z⟩
  ·exact .inl l
  ·exact .inr ⟨k,c,e,g x c e _ z⟩
 ·obtain⟨v,z⟩:=I.cell x c e;exact⟨v,g x c e v z⟩
 ·obtain⟨m,⟨o,_,_,D,_⟩,_⟩:=I.loc;exact f _ o (λz=>(j _ z).2.1 rfl) D I.free
 ·obtain⟨v,o,D,M⟩:=I.cell x c e;exact f c o (λz=>(j c z).2.2.1 x c e rfl) D (I.freeC x c e)
 ·obtain⟨e,n,Q,S,d⟩:=I.pin p P;have t:p.1∉ch:=λz=>(j p.1 z).2.2.2 p P rfl;exact⟨h p.1 p.2 Q S t e n,f p.1 p.2 t e n,Q,S,d⟩
theorem Inv.un {t':Nat}(I:Inv X pins σ H s) (u:Un X.fs [] H H' s.heap h') (g:HOk X.prog X.w H' h'):Inv X pins σ H' { s with heap:=h',toks:=t' }:=by
 obtain⟨m,⟨o,q,v,h,r⟩,_⟩:=id I.loc;obtain⟨t,k⟩:=u.any h I.free (by simp);exact I.step (g':=s.gens) (d':=s.drawn) (ch:=[]) (λ_ z=>nomatch z) (λb o _ c _ e n=>u.keep b o e n c (by simp)) (λb o _ c _ e n=>u.slot b o e n c (by simp)) (λb o _ e n=>u.free b o e n (by simp)) (λb o _ e=>u.there b o e (by simp)) u.tups u.frzs u.tbls (λl j=>by
  obtain⟨p,d,f,a,i⟩:=j;rw[h] at a;cases a;exact⟨_,d,f,k,i⟩) g I.bare
theorem Inv.call {g':Array GenState}{t':Nat}{d':Drawn}{ch:List Addr}(I:Inv X pins σ H s) (u:Un (frs X.stack) ch H H' s.heap h') (j:HOk X.prog X.w H' h') (t:AllBare g')
    (d:∀b∈ch,(b∈X.ex∨X.s₀.heap.objs.size<=b)/\b≠X.env.locals/\(∀x c,X.env.cells.lookup x=some c->c≠b)/\∀p∈X.pn++pins,p.1≠b) :
    Inv X pins σ H' { s with heap:=h',gens:=g',drawn:=d',toks:=t' }:=by
 obtain⟨m,⟨o,A,C,k,r⟩,_⟩:=id I.loc;obtain⟨B,h⟩:=u.any k I.free λz=>(d _ z).2.1 rfl;exact I.step (ch:=ch) d (λb o h v a e n=>u.keep b o e n (λz=>(wH.mp (I.stkSub b z)).elim h v) a) (λb o _ _ a e n=>u.any e n a) (λb o a e n=>u.free b o e n a) (λb o a e=>u.there b o e a) u.tups u.frzs u.tbls (λw q=>by
  obtain⟨y,g,i,f,l⟩:=q;rw[k] at f;cases f;exact⟨_,g,i,h,l⟩) j t
theorem Inv.turned {t':Nat}(I:Inv X pins σ H s) (k:∀b o,b≠it->s.heap.get? b=some o->h'.get? b=some o) (i:H it=none) (f:it≠X.env.locals)
    (h:it∈X.ex∨X.s₀.heap.objs.size<=it) (h2:∀x c,X.env.cells.lookup x=some c->c≠it) (w:∀p∈X.pn++pins,p.1≠it):Inv X pins σ H { s with heap:=h',toks:=t' }:=by
 have d:∀b u,H b=some u->b≠it:=λb u e z=>by rw[z,i] at e;cases e
 refine I.step (g':=s.gens) (d':=s.drawn) (ch:=[it]) (λb t=>?_) (λb o _ _ a e _=>k b o (λz=>a (by simp[z])) e) (λb o _ _ a e _=>⟨o.slots,k b o (λz=>a (by simp[z])) e⟩) (λ_ _ _ _ n=>n)
  (λb o a e=>⟨o,k b o (λz=>a (by simp[z])) e⟩) (λ_ _ e=>e) (λ_ _ _ e=>e) (λb A e=>⟨#[],by rw[e];simp⟩) (λm j=>?_) (λb u e=>?_) I.bare
 ·have e:b=it:=by simpa using t
  subst e;exact⟨h,f,h2,w⟩
 ·obtain⟨o,l,y,g,r⟩:=j;exact⟨o,l,y,k _ o (Ne.symm f) g,r⟩
 ·refine(I.hok b u e).stay (λc v a q=>k c v ?_ q) (λ_ q=>q) λ_ _ q=>q;rcases a with z | z
  ·rw[z];exact d b u e
  ·exact d c _ z
theorem Inv.tok (I:Inv X pins σ H s) (t:Nat):Inv X pins σ H { s with toks:=t }:=I.un (h':=s.heap) (t':=t) Un.refl I.hok
theorem Inv.kept (I:Inv X pins σ H s) (k:∀b u,s.heap.get? b=some u->h'.get? b=some u):Inv X pins σ H { s with heap:=h',toks:=t' }:=I.un (Un.kept k) (I.hok.kept k)
theorem Inv.laid (I:Inv X pins σ H s) (k:∀b u,s.heap.get? b=some u->h'.get? b=some u) (c:s.heap.objs.size<=a) (d:ObjOk X.prog X.w (upd H a o) h' a o) :
    Inv X pins σ (upd H a o) { s with heap:=h',toks:=t' }:=I.un (Un.laid k c (I.hok.fresh c)) (I.hok.laid k c d)
theorem Inv.write (I:Inv X pins σ H s) (d:Mut (H x)) (he:e=x∨H e=some (.own x)) (k:∀b u,b≠e->s.heap.get? b=some u->h'.get? b=some u) (a:∃u,h'.get? e=some u)
    (c:ObjOk X.prog X.w (upd H x o) h' x o):Inv X pins σ (upd H x o) { s with heap:=h',toks:=t' }:=I.un (Un.write d he k a) (I.hok.write d he k a c)
theorem Inv.pins_of (I:Inv X pins σ H s) (h:∀p∈q,s.heap.get? p.1=some p.2/\H p.1=none/\p.1≠X.env.locals/\p.1∉X.fs/\∀v,p.2.data≠.cell v):Inv X q σ H s :=
 ⟨I.ok,I.os,I.bare,I.base,I.loc,I.cell,I.free,I.freeC,λp a=>(wR.mp a).elim (λz=>I.pin p (xJ _ z)) (h p),I.hok,I.len⟩
theorem ky {N:LS}(d:N.Nodup) {i j:Nat}{x:Str}(a:N[i]? = some x) (b:N[j]? = some x):i=j:=by
 obtain⟨f,e⟩:=wv.mp a;obtain⟨g,c⟩:=wv.mp b;exact(List.getElem_inj d).mp (e.trans c.symm)
theorem jN {M:Model}{i:Nat}{x:Str}{Q:Unit -> Shared -> Prop}(I:Inv X pins σ H s) (hN:X.N.Nodup) (S:X.N[i]? = some x) (w:Loc X.env.scope x) (r:RelV v u)
    (h:∀s',Inv X pins (σ.set i (some v)) H s'->(∃a,Heap.SameBut a s.heap s'.heap/\(a=X.env.locals∨X.env.cells.lookup x=some a))->Q () s') (hf:X.fn x=true∨X.env.scope.names.lookup x=some .local:=by first | exact .inl rfl | exact .inr rfl | assumption):wpAny M A (storeName X.env x u) Q E s:=by
 obtain⟨m,hn,hl⟩:=id I.loc;have P:(X.env.scope.kind==.class||(X.env.scope.kind==.module&&X.env.locals != X.env.globals))=false:=by rw[I.ok.kind];rfl
 have F:i<σ.length:=by rw[I.len];exact(wv.mp S).1
 have G:=I.cne;have l:∀ {a:Addr} {N:Heap},(∃o,s.heap.get? a=some o/\H a=none)->Heap.SameBut a s.heap N->HOk X.prog X.w H N:=λ{a N} ha f b ob e=>by
  obtain⟨_,_,B⟩:=ha;refine(I.hok b ob e).stay (λc W t q=>(f.2 c ?_).trans q) (λ_ q=>q) λ_ _ q=>q;rintro rfl;rcases t with rfl | t
  ·rw[B] at e;cases e
  ·rw[B] at t;cases t
 rcases w with D | D
 ·refine wpAny_storeName_local D hn (λN a1 f => ?_) P;obtain⟨oL,_,_,a0,_⟩:=id hn;refine h _ ⟨I.ok,I.os,I.bare,⟨λb o e n K w=>?_,λb o e n K w=>?_,I.base.free,λb o e w=>?_,I.base.tups,I.base.frzs,I.base.tbls⟩,⟨_,a1,λj y v' g C e3=>?_⟩,λy c e=>?_,I.free,I.freeC,λp Z=>?_,l ⟨oL,a0,I.free⟩ f,by simpa using I.len⟩ ⟨_,f,.inl rfl⟩
  ·exact(f.2 b (wJ (w8 (wz e) I.ok.above))).trans (I.base.keep b o e n K w)
  ·obtain⟨sl,g⟩:=I.base.slot b o e n K w;exact⟨sl,(f.2 b (wJ (w8 (wz e) I.ok.above))).trans g⟩
  ·obtain⟨o',g⟩:=I.base.there b o e w;exact⟨o',(f.2 b (wJ (w8 (wz e) I.ok.above))).trans g⟩
  ·by_cases L:j=i
   ·subst L;rw[S] at g;cases g;rw[List.getElem?_set_self F] at C;cases C;exact⟨u,r,.inl ⟨D,by simp⟩⟩
   ·rw[List.getElem?_set_ne (Ne.symm L)] at C;obtain⟨u',r',q⟩:=hl j y v' g C e3;refine⟨u',r',?_⟩;rcases q with⟨k,e⟩ | ⟨k,c,e,z⟩
    ·refine .inl ⟨k,?_⟩;have:y≠x:=λe=>L (ky hN g (e ▸ S));simp[this,e]
    ·exact .inr ⟨k,c,e,z.sameBut f (G y c e)⟩
  ·obtain⟨W,z⟩:=I.cell y c e;exact⟨W,z.sameBut f (G y c e)⟩
  ·obtain⟨e,n,V,nf,d⟩:=I.pin p Z;exact⟨(f.2 p.1 V).trans e,n,V,nf,d⟩
 ·have J:X.fn x=true := by
     rcases hf with z | z
     ·exact z
     ·rw[z] at D;cases D
  obtain⟨c,t⟩:=I.ok.has x (.inl D);obtain⟨W,z⟩:=I.cell x c t;refine wpAny_storeName_cell I.ok.kind D t z (λN O f=>?_);obtain⟨oc,U,T⟩:=id z;refine h { s with heap:=N } ⟨I.ok,I.os,I.bare,⟨λb o e n K w=>?_,λb o e n K w=>?_,I.base.free,λb o e w=>?_,I.base.tups,I.base.frzs,I.base.tbls⟩,⟨m,hn.sameBut f (Ne.symm (G x c t)),λj y v' g C e3=>?_⟩,λy Y e=>?_,I.free,I.freeC,λp Z=>?_,l ⟨oc,U,I.freeC x c t⟩ f,by simpa using I.len⟩ ⟨c,f,.inr t⟩
  ·exact(f.2 b (wJ (w8 (wz e) (I.ok.cab x c J t)))).trans (I.base.keep b o e n K w)
  ·obtain⟨sl,g⟩:=I.base.slot b o e n K w;exact⟨sl,(f.2 b (wJ (w8 (wz e) (I.ok.cab x c J t)))).trans g⟩
  ·obtain⟨o',g⟩:=I.base.there b o e w;exact⟨o',(f.2 b (wJ (w8 (wz e) (I.ok.cab x c J t)))).trans g⟩
  ·by_cases L:j=i
   ·subst L;rw[S] at g;cases g;rw[List.getElem?_set_self F] at C;cases C;exact⟨u,r,.inr ⟨.inl D,c,t,O⟩⟩
   ·rw[List.getElem?_set_ne (Ne.symm L)] at C;obtain⟨u',r',q⟩:=hl j y v' g C e3;refine⟨u',r',?_⟩;rcases q with q | ⟨k,Y,e,z'⟩
    ·exact .inl q
    ·refine .inr ⟨k,Y,e,z'.sameBut f ?_⟩;rintro rfl;exact L (ky hN g (I.ok.inj _ _ _ e t ▸ S))
  ·by_cases R:Y=c
   ·subst R;exact⟨_,O⟩
   ·obtain⟨w2,z2⟩:=I.cell y Y e;exact⟨w2,z2.sameBut f R⟩
  ·obtain⟨e,n,V,nf,d⟩:=I.pin p Z;refine⟨(f.2 p.1 ?_).trans e,n,V,nf,d⟩;intro q;rw[q,U] at e;have q':oc=p.2:=wA e;exact d W (by rw[<- q'];exact T)
theorem gs (I:Inv X pins σ H s) (d:X.N.Nodup) (a:X.N[i]? = some x) (b:Loc X.env.scope x) (r:RelV v u)
    (h:∀s',Inv X pins (σ.set i (some v)) H s'->Q () s') (c:X.fn x=true∨X.env.scope.names.lookup x=some .local:=by first | exact .inl rfl | exact .inr rfl | assumption):wpAny M A (storeName X.env x u) Q E s :=
 jN I d a b r (λs' e _=>h s' e) c
theorem Inv.call' (I:Inv X pins σ H s) (f:s'.os=s.os) (u:Un (frs X.stack) ch H H' s.heap s'.heap) (d:HOk X.prog X.w H' s'.heap) (h:AllBare s'.gens)
    (a:∀b∈ch,(b∈X.ex∨X.s₀.heap.objs.size<=b)/\b≠X.env.locals/\(∀x c,X.env.cells.lookup x=some c->c≠b)/\∀p∈X.pn++pins,p.1≠b):Inv X pins σ H' s':=by
 obtain⟨i,g',d',t',g⟩:=s';have e:g=s.os:=f;subst e;exact I.call (g':=g') (t':=t') (d':=d') u d h a
end
abbrev XK:=Value->Option Addr->Hp->Prop
abbrev St:=List (Option V)
abbrev _root_.SH:=St->Hp->Prop
abbrev VK:=V->Hp->Prop
abbrev TE:=St->Hp->VK->Prop
abbrev TT:=St->Hp->(Bool->Hp->Prop)->Prop
abbrev TA:=St->Hp->(LV->Hp->Prop)->Prop
structure Ends where
 nx:SH
 rt:VK
 bk:SH:=λ_ _=>False
 ct:SH:=λ_ _=>False
abbrev TS:=Ends->SH
def EP (X:Cx) (pins:AO_) (σ:St) (Q:VK) (u:Value) (s':Shared):Prop:=∃v H',Inv X pins σ H' s'/\RelV v u/\Q v H'
def TP (X:Cx) (pins:AO_) (σ:St) (Q:Bool->Hp->Prop) (b:Bool) (s':Shared):Prop:=∃H',Inv X pins σ H' s'/\Q b H'
def AP (X:Cx) (pins:AO_) (σ:St) (Q:LV->Hp->Prop) (us:List Value) (s':Shared):Prop:=∃vs H',Inv X pins σ H' s'/\Vals vs us/\Q vs H'
def SP (X:Cx) (pins:AO_) (D:Ends) (f:Flow) (s':Shared):Prop :=
 match f with
 | .next=>∃σ' H',Inv X pins σ' H' s'/\D.nx σ' H'
 | .brk=>∃σ' H',Inv X pins σ' H' s'/\D.bk σ' H'
 | .cont=>∃σ' H',Inv X pins σ' H' s'/\D.ct σ' H'
 | .ret u=>∃v σ' H',Inv X pins σ' H' s'/\RelV v u/\D.rt v H'
def PE (X:Cx) (e:Expr) (t:TE):Prop :=
 ∀(pins:AO_) (s:Shared) (σ:St) (H:Hp) (Q:VK),Inv X pins σ H s->t σ H Q->wpAny (model X.prog X.w) X.A (eval e X.env) (EP X pins σ Q) X.xe s
def PT (X:Cx) (e:Expr) (t:TT):Prop :=
 ∀(pins:AO_) (s:Shared) (σ:St) (H:Hp) (Q:Bool->Hp->Prop),Inv X pins σ H s->t σ H Q->wpAny (model X.prog X.w) X.A (isTrue e X.env (eval e X.env)) (TP X pins σ Q) X.xe s
def PW (X:Cx) (e:Expr) (t:TT):Prop :=
 ∀(whole:Sem Value) (pins:AO_) (s:Shared) (σ:St) (H:Hp) (Q:Bool->Hp->Prop),Inv X pins σ H s->t σ H Q->wpAny (model X.prog X.w) X.A (isTrue e X.env whole) (TP X pins σ Q) X.xe s
theorem PW.pt (h:PW X e t):PT X e t:=h _
def PA (X:Cx) (es:List Expr) (t:TA):Prop :=
 ∀(pos:Pos) (pins:AO_) (s:Shared) (σ:St) (H:Hp) (Q:LV->Hp->Prop),Inv X pins σ H s->t σ H Q->wpAny (model X.prog X.w) X.A (spliced (backTo pos (starEach es X.env))) (AP X pins σ Q) X.xe s
def PS (X:Cx) (st:Stmt) (t:TS):Prop :=
 ∀(pins:AO_) (s:Shared) (σ:St) (H:Hp) (D:Ends),Inv X pins σ H s->t D σ H->wpAny (model X.prog X.w) X.A (exec st X.env) (SP X pins D) X.xe s
def PSs (X:Cx) (st:List Stmt) (t:TS):Prop :=
 ∀(pins:AO_) (s:Shared) (σ:St) (H:Hp) (D:Ends),Inv X pins σ H s->t D σ H->wpAny (model X.prog X.w) X.A (execs st X.env) (SP X pins D) X.xe s
theorem thn (h:wpAny M A t Q E s) (b:∀a s,Q a s->q a s):wpAny M A t q E s:=xl h b λ_ _ x=>x
section
variable {X:Cx}
def uW (i:Nat):TE:=λσ H Q=>∃v,σ[i]? = some (some v)/\Q v H
def tC (v:V):TE:=λ_ H Q=>Q v H
theorem uq (q:X.N[i]? = some x) (t:Vis X.env.scope x) (g:(x==("__debug__":Str))=false:=by decide) (j:(x==("__classdict__":Str))=false:=by decide):PE X (.Name x pos) (uW i):=by
 intro f s w H Q I h;obtain⟨v,e,h⟩:=h;obtain⟨m,o,n⟩:=I.loc;obtain⟨u,r,l⟩:=n i x v q e t;have d:EP X f w Q u s:=⟨v,H,I,r,h⟩
 rcases l with⟨b,p⟩ | ⟨b,c,k,a⟩
 ·exact wpAny_Name (wpAny_loadName_local I.ok.kind b o p d) g
 ·rcases b with b | b
  ·exact wpAny_Name (wpAny_loadName_cell I.ok.kind b k a d) g
  ·exact wpAny_Name (wpAny_loadName_free I.ok.kind b k a d j) g
theorem af {i j pos}:PE X (.Constant (.int i) j pos) (tC (.int i)):=λ_ _ _ H _ I h=>wpAny_Constant_int ⟨.int i,H,I.tok _,⟨_,rfl⟩,h⟩
theorem rV {b j pos}:PE X (.Constant (.bool b) j pos) (tC (.bl b)):=λ_ _ _ H _ I h=>Constant_bool ⟨.bl b,H,I,rfl,h⟩
theorem eM {j pos}:PE X (.Constant .none j pos) (tC .non):=λ_ _ _ H _ I h=>Constant_none ⟨.non,H,I,rfl,h⟩
theorem aM {x j pos}:PE X (.Constant (.str x) j pos) (tC (.str x)):=λ_ _ _ H _ I h=>Calls.Constant_str ⟨.str x,H,I.tok _,⟨_,rfl⟩,h⟩
def Gl (X:Cx) (x:Str):Prop:=X.env.kindOf x=some .globalImplicit
theorem sx (I:Inv X pins σ H s) (b:Gl X x) (a:X.mg x=some u) (h:Q u s)
    (c:(x==("__debug__":Str))=false:=by decide):wpAny (model X.prog X.w) X.A (eval (.Name x pos) X.env) Q E s :=
 Calls.Name_function_global I.ok.kind b (Calls.loadGlobal_global (by rw[I.ok.glob];exact I.mod.glob.keeps I.bk) a h) c
theorem dE (I:Inv X pins σ H s) (f:Gl X x) (d:X.mg x=none) (e:bootBuiltins x=some u) (h:Q u s)
    (b:x≠"__name__":=by decide) (c:(x==("__debug__":Str))=false:=by decide):wpAny (model X.prog X.w) X.A (eval (.Name x pos) X.env) Q E s:=by
 obtain⟨i,a,g⟩:=I.mod.blt;exact Calls.Name_function_global I.ok.kind f (Calls.loadGlobal_builtin (by rw[I.ok.glob];exact I.mod.glob.keeps I.bk) d (by rw[I.ok.blt];exact a.keeps I.bk) ((g x b).trans e) h) c
theorem sv (e:Gl X x) (b:X.mg x=none) (d:bootBuiltins x=some u) (r:RelV v u) (a:x≠"__name__":=by decide) (c:(x==("__debug__":Str))=false:=by decide):PE X (.Name x pos) (tC v) :=
 λ_ _ _ H _ I h=>dE I e b d ⟨v,H,I,r,h⟩ a c
variable {a b:Expr}{ta tb:TE}{pos:Pos}
def tB (t:TE):TT:=λσ H Q=>t σ H λx H1=>∃c,x=.bl c/\Q c H1
theorem uO (h:PE X e t) (he:∀z,isTrue e X.env z=(do let v ← z;standAt e.pos;holding [v] (truthy v)):=by intro _;rfl):PT X e (tB t):=by
 intro a s f H Q I b;refine isTrue_plain (thn (h a s f H _ I b) λv k ⟨x,g,c,i,j⟩=>?_) (he _);obtain⟨d,rfl,q⟩:=j;cases i;exact wpAny_truthy_bool ⟨g,c,q⟩
variable {tA tB':TT}{aU:List Expr}
def tAnd (t u:TT):TT:=λσ H Q=>t σ H λc H1=>if c=true then u σ H1 Q else Q false H1
def tOr (t u:TT):TT:=λσ H Q=>t σ H λc H1=>if c=true then Q true H1 else u σ H1 Q
theorem bw (f:PT X a tA):PW X (.BoolOp .And [a] pos) tA:=by
 intro i b s d H Q I h;refine isTrue_and (thn (f b s d H Q I h) λc g e=>?_);cases c with
 | true=>exact isTrue_and_nil e
 | false=>exact e
theorem vf (f:PT X a tA):PW X (.BoolOp .Or [a] pos) tA:=by
 intro i b s d H Q I h;refine isTrue_or (thn (f b s d H Q I h) λc g e=>?_);cases c with
 | false=>exact isTrue_or_nil e
 | true=>exact e
theorem bR (k:PT X a tA) (j:PW X (.BoolOp .And (b::aU) pos) tB'):PW X (.BoolOp .And (a::b::aU) pos) (tAnd tA tB'):=by
 intro m d s f H Q I h;refine isTrue_and (thn (k d s f H _ I h) λc l ⟨g,e,i⟩=>?_);cases c with
 | true=>exact j m d l f g Q e i
 | false=>exact⟨g,e,i⟩
theorem vH (k:PT X a tA) (j:PW X (.BoolOp .Or (b::aU) pos) tB'):PW X (.BoolOp .Or (a::b::aU) pos) (tOr tA tB'):=by
 intro m d s f H Q I h;refine isTrue_or (thn (k d s f H _ I h) λc l ⟨g,e,i⟩=>?_);cases c with
 | true=>exact⟨g,e,i⟩
 | false=>exact j m d l f g Q e i
def tIf (t:TT) (ta tb:TE):TE:=λσ H Q=>t σ H λc H1=>if c=true then ta σ H1 Q else tb σ H1 Q
theorem qO (l:PT X c tA) (n:PE X a ta) (m:PE X b tb):PE X (.IfExp c a b pos) (tIf tA ta tb):=by
 intro e s f H Q I h;refine wpAny_IfExp (thn (l e s f H _ I h) λd k ⟨i,g,j⟩=>?_);cases d with
 | true=>exact n e k f i Q g j
 | false=>exact m e k f i Q g j
end
def SqL (K:W.Frag) (H:Hp) (a:Addr) (xs:LV):Prop :=
 Rd H a (.lst xs) ∨
  ∃(o:Obj) (its:Array Value) (n:Nat),K.lookup a=some o/\o.cls=.type "list"/\o.dict=none/\o.data=.seq its n/\its.size<=sizeLine/\Vals xs its.toList
def SqT (K:W.Frag) (H:Hp) (a:Addr) (xs:LV):Prop :=
 Rd H a (.tup xs) ∨
  ∃(o:Obj) (its:Array Value) (n:Nat),K.lookup a=some o/\o.cls=.type "tuple"/\o.data=.seq its n/\its.size<=sizeLine/\Vals xs its.toList
def absV:Value->Option V
 | .none=>some .non
 | .bool b=>some (.bl b)
 | .int i _=>some (.int i)
 | .str x _=>some (.str x)
 | .bytes b _=>some (.byt b)
 | .float b _=>some (.flt b)
 | .ref a=>some (.ref a)
 | .type n=>some (.ty n)
 | _=>none
theorem RelV.abs (r:RelV x u):absV u=some x:=by
 cases x with
 | non=>cases r;rfl
 | bl _=>cases r;rfl
 | int _=>obtain⟨t,rfl⟩:=r;rfl
 | str _=>obtain⟨t,rfl⟩:=r;rfl
 | byt _=>obtain⟨t,rfl⟩:=r;rfl
 | flt _=>obtain⟨t,rfl⟩:=r;rfl
 | ref _=>cases r;rfl
 | ty _=>cases r;rfl
theorem RelV.inj (r:RelV x u) (q:RelV y u):x=y:=wA (r.abs.symm.trans q.abs)
theorem Vals.inj:∀ {xs ys:LV}{us:List Value},Vals xs us->Vals ys us->xs=ys
 | _,_,_,.nil,.nil=>rfl
 | _,_,_,.cons r t,.cons r' t'=>by rw[r.inj r',Vals.inj t t']
section
variable {X:Cx}{pins:AO_}{σ:St}{H:Hp}{s:Shared}{a:Addr}{xs ys:LV}
theorem SqL.of {K:W.Frag}(h:H a=some (.lst xs)):SqL K H a xs:=.inl (.inl h)
theorem SqT.of {K:W.Frag}(h:H a=some (.tup xs)):SqT K H a xs:=.inl (.inl h)
theorem Inv.list (I:Inv X pins σ H s) (h:SqL X.K H a xs):∃q:List Value,Vals xs q/\PlainL s.heap a q.toArray/\xs.length<=sizeLine:=by
 rcases h with h | ⟨o,q,n,f,c,b,d,g,r⟩
 ·obtain⟨z,q,n,r,e⟩:=h.ok I.hok;exact⟨q,r,⟨_,n,e,rfl,rfl,rfl⟩,z⟩
 ·refine⟨q.toList,r,⟨o,n,I.kIn a o f,c,b,by simpa using d⟩,?_⟩;have e:=r.length;simp only[xW] at e;omega
theorem Inv.tuple (I:Inv X pins σ H s) (h:SqT X.K H a xs):∃q:List Value,Vals xs q/\IsTup s.heap a q.toArray/\xs.length<=sizeLine:=by
 rcases h with h | ⟨o,q,n,d,b,c,f,r⟩
 ·obtain⟨z,q,r,p⟩:=h.ok I.hok;exact⟨q,r,p.tup,z⟩
 ·refine⟨q.toList,r,⟨o,I.kIn a o d,b,n,by simpa using c⟩,?_⟩;have e:=r.length;simp only[xW] at e;omega
theorem Inv.list_inj (I:Inv X pins σ H s) (h:SqL X.K H a xs) (h':SqL X.K H a ys):xs=ys:=by
 obtain⟨c,r,⟨o,n,e,_,_,d⟩,_⟩:=I.list h;obtain⟨b,i,⟨l,k,f,_,_,g⟩,_⟩:=I.list h';rw[e] at f;cases f;rw[d] at g;injection g with j _;have:c=b:=by simpa using congrArg Array.toList j
 subst this;exact r.inj i
theorem Inv.tuple_inj (I:Inv X pins σ H s) (h:SqT X.K H a xs) (h':SqT X.K H a ys):xs=ys:=by
 obtain⟨c,r,⟨o,e,_,n,d⟩,_⟩:=I.tuple h;obtain⟨b,i,⟨l,f,_,k,g⟩,_⟩:=I.tuple h';rw[e] at f;cases f;rw[d] at g;injection g with j _;have:c=b:=by simpa using congrArg Array.toList j
 subst this;exact r.inj i
end
abbrev Cx.wish (X:Cx) (E:QS):Cx:={ X with xe:=E }
abbrev Cx.nox (X:Cx):Cx:=X.wish λ_ _=>False
theorem Cx.Ok.wish {X:Cx}(a:X.Ok) (E:QS):(X.wish E).Ok :=
 ⟨a.mod,a.kind,a.glob,a.blt,a.above,a.inj,a.has,a.cab,a.hd,a.frames,a.stk,a.exf,a.bs,a.bsz,a.noex,a.exfs,a.funs,a.frf⟩
theorem Cx.Ok.unwish {X:Cx}{E:QS}(a:(X.wish E).Ok):X.Ok :=
 ⟨a.mod,a.kind,a.glob,a.blt,a.above,a.inj,a.has,a.cab,a.hd,a.frames,a.stk,a.exf,a.bs,a.bsz,a.noex,a.exfs,a.funs,a.frf⟩
section
variable {X:Cx}{pins:AO_}{σ:St}{H:Hp}{s:Shared}{E:QS}
theorem Inv.wish (I:Inv X pins σ H s) (E:QS):Inv (X.wish E) pins σ H s:=⟨I.ok.wish E,I.os,I.bare,I.base,I.loc,I.cell,I.free,I.freeC,I.pin,I.hok,I.len⟩
theorem Inv.unwish (I:Inv (X.wish E) pins σ H s):Inv X pins σ H s:=⟨I.ok.unwish,I.os,I.bare,I.base,I.loc,I.cell,I.free,I.freeC,I.pin,I.hok,I.len⟩
theorem SP.unwish (h:SP (X.wish E) pins D f s'):SP X pins D f s':=by
 cases f with
 | next=>obtain⟨a,b,I,q⟩:=h;exact⟨a,b,I.unwish,q⟩
 | brk=>obtain⟨a,b,I,q⟩:=h;exact⟨a,b,I.unwish,q⟩
 | cont=>obtain⟨a,b,I,q⟩:=h;exact⟨a,b,I.unwish,q⟩
 | ret u=>obtain⟨v,a,b,I,r,q⟩:=h;exact⟨v,a,b,I.unwish,r,q⟩
theorem PSs.nox {st:List Stmt}{t:TS}(h:PSs X.nox st t):PSs X st t:=λa s c H D I b =>
 xl (h a s c H D (I.wish _) b) (λ_ _ q=>q.unwish) λ_ _ z=>False.elim z
end
section
variable {X:Cx}{st:Stmt}{aU:List Stmt}{t u:TS}{e:Expr}{te:TE}{pos:Pos}
def vV:TS:=λD σ H=>D.nx σ H
def ut (t u:TS):TS:=λD σ H=>t { D with nx:=u D } σ H
theorem aK:PSs X [] vV:=λ_ _ a H _ I h=>wpAny_execs_nil ⟨a,H,I,h⟩
theorem ae (d:PS X st t) (h2:PSs X aU u):PSs X (st::aU) (ut t u):=by
 intro a s e H D I h;refine wpAny_execs_cons (thn (d a s e H { D with nx:=u D } I h) λf g q=>?_);cases f with
 | next =>
  obtain⟨b,c,i,q⟩:=q;exact h2 a g b c D i q
 | ret v=>exact q
 | brk=>exact q
 | cont=>exact q
theorem ah (b:PS X st t):PSs X [st] t:=by
 intro a s c H D I h;refine wpAny_execs_cons (thn (b a s c H D I h) λf d q=>?_);cases f with
 | next=>exact wpAny_execs_nil q
 | ret v=>exact q
 | brk=>exact q
 | cont=>exact q
theorem Inv.quiet (I:Inv X pins σ H s):interactive X.env=false:=by simp[interactive,I.ok.kind]
def vR (te:TE):TS:=λD σ H=>te σ H λ_ H1=>D.nx σ H1
theorem be (he:PE X e te) (c:swapsWith e none pos.line X.env=pure false:=by rfl):PS X (.Expr e pos) (vR te):=by
 intro a s b H D I h;exact wpAny_Expr_any (thn (he a s b H _ I h) λv j ⟨x,f,d,i,g⟩=>⟨b,f,d,g⟩) I.quiet c
def tRet (te:TE):TS:=λD σ H=>te σ H D.rt
theorem aC (he:PE X e te):PS X (.Return (some e) pos) (tRet te):=by
 intro a s b H D I h;exact wpAny_Return_some (thn (he a s b H _ I h) λv i ⟨x,d,c,f,g⟩=>⟨x,b,d,c,f,g⟩)
def tIfS (c:TT) (t u:TS):TS:=λD σ H=>c σ H λb H1=>if b=true then t D σ H1 else u D σ H1
theorem aZ (l:PT X c tc) (n:PSs X a t) (m:PSs X b u):PS X (.If c a b pos) (tIfS tc t u):=by
 intro e s f H D I h;refine wpAny_If (thn (l e s f H _ I h) λd k ⟨i,g,j⟩=>?_);cases d with
 | true=>exact n e k f i D g j
 | false=>exact m e k f i D g j
end
abbrev TG:=V->St->Hp->(SH)->Prop
abbrev TGs:=LV->St->Hp->(SH)->Prop
def PG (X:Cx) (target:Expr) (t:TG):Prop :=
 ∀(pins:AO_) (s:Shared) (σ:St) (H:Hp) (v:V) (u:Value) (Q:SH),Inv X pins σ H s->RelV v u->t v σ H Q ->
  wpAny (model X.prog X.w) X.A (assign target X.env u) (λ_ s'=>∃σ' H',Inv X pins σ' H' s'/\Q σ' H') X.xe s
def PGs (X:Cx) (ts:List Expr) (t:TGs):Prop :=
 ∀(pins:AO_) (s:Shared) (σ:St) (H:Hp) (vs:LV) (us:List Value) (Q:SH),Inv X pins σ H s->Vals vs us->t vs σ H Q ->
  wpAny (model X.prog X.w) X.A (assignInOrder ((assignEach ts X.env).map (·.2)) us) (λ_ s'=>∃σ' H',Inv X pins σ' H' s'/\Q σ' H') X.xe s
abbrev uB:=V->V->V->Hp->(Hp->Prop)->Prop
def q7 (X:Cx) (t:uB):Prop :=
 ∀(pins:AO_) (s:Shared) (σ:St) (H:Hp) (o i v:V) (ov iv u:Value) (Q:Hp->Prop),Inv X pins σ H s->RelV o ov->RelV i iv->RelV v u->t o i v H Q ->
  wpAny (model X.prog X.w) X.A (setItem ov iv u) (λ_ s'=>∃H',Inv X pins σ H' s'/\Q H') X.xe s
section
variable {X:Cx}{pos:Pos}
def bp (i:Nat):TG:=λv σ H Q=>Q (σ.set i (some v)) H
theorem az (d:X.N.Nodup) (b:X.N[i]? = some x) (c:Loc X.env.scope x) (e:X.fn x=true∨X.env.scope.names.lookup x=some .local:=by first | exact .inl rfl | exact .inr rfl | assumption):PG X (.Name x pos) (bp i):=by
 intro a s g H v u Q I r h;exact wpAny_assign_Name (gs I d b c r (λj f=>⟨_,H,f,h⟩) e)
def vr:TGs:=λvs σ H Q=>vs=[]/\Q σ H
def og (t:TG) (u:TGs):TGs:=λvs σ H Q=>∃v r,vs=v::r/\t v σ H λσ' H'=>u r σ' H' Q
theorem ci:PGs X [] vr:=by
 intro a s b H c d Q I r h;obtain⟨e,h⟩:=h;subst e;cases r;exact assignInOrder_nil ⟨b,H,I,h⟩
theorem aO (g:PG X e t) (h2:PGs X es u)
    (c:(assignEach (e::es) X.env).map (·.2)=assign e X.env::(assignEach es X.env).map (·.2):=by rfl):PGs X (e::es) (og t u):=by
 intro a s j H o m Q I r h;obtain⟨v,n,k,h⟩:=h;subst k;cases r with
 | cons r rr =>
  rw[c];refine assignInOrder_cons (thn (g a s j H _ _ _ I r h) λ_ f ⟨b,d,i,l⟩=>?_);exact h2 a f b d _ _ Q i rr l
def qq (K:W.Frag) (n:Nat) (t:TGs):TG:=λv σ H Q=>∃a xs,v=.ref a/\SqT K H a xs/\xs.length=n/\t xs σ H Q
theorem vq (x:X.calm=true) (h:PGs X es t)
    (m:(assignEach es X.env).length=n:=by rfl) (f:(assignEach es X.env).findIdx? (·.1)=none:=by rfl):PG X (.Tuple es k pos) (qq X.K n t):=by
 intro c s g H v u Q I r d;obtain⟨a,w,A,y,j,d⟩:=d;subst A;cases r;obtain⟨B,i,l,C⟩:=I.tuple y;refine assign_Tuple_tuple (I.ok.hd x) l (by simp[m,<- j,i.length]) f λq p=>?_;have z:Inv X c g H { s with heap:=q }:=I.kept (t':=s.toks) λb o e=>p b o (wJ (wz e)) e;exact h c _ g H w _ Q z (by simpa using i) d
def gSub (to ti:TE) (t:uB):TG:=λv σ H Q=>to σ H λo H1=>ti σ H1 λi H2=>t o i v H2 λH3=>Q σ H3
theorem df (c:PE X o to) (g:PE X i B) (d:q7 X t)
    (E:∀v,assign (.Subscript o i pos) X.env v=(do
     let q ← holding [v] (eval o X.env)
     let z ← holding [v,q] (eval i X.env)
     standAt pos
     holding [v,q,z] (setItem q z v)
     release [v,q,z] []):=by intro _;rfl):PG X (.Subscript o i pos) (gSub to B t):=by
 intro a s b H v u Q I r h;rw[E];refine wq (xh (thn (c a s b H _ I h) λq f ⟨x,e,m,n,w⟩=>?_));refine wq (xh (thn (g a f b e _ m w) λz C ⟨y,p,l,D,k⟩=>?_));refine wq (wpAny_standAt (wq (xh (thn (d a C b p x y v q z u _ l n D r k) λ_ G ⟨F,j,A⟩=>?_))));exact wpAny_release ⟨b,F,j,A⟩
def qg (te:TE) (g:TG):TS:=λD σ H=>te σ H λx H1=>g x σ H1 D.nx
theorem cR (he:PE X e te) (k:PG X tg g) (d:swapsWithSole [tg] e pos.line X.env=pure false:=by rfl) (c:swappedStores [tg] e X.env=pure none:=by rfl)
    (j:(assignEach [tg] X.env).map (·.2)=[assign tg X.env]:=by rfl):PS X (.Assign [tg] e pos) (qg te g):=by
 intro a s b H D I h;refine wpAny_Assign_stores (thn (he a s b H _ I h) λv i ⟨x,f,l,m,n⟩=>?_) d c;rw[j];exact thn (k a i b f x v _ l m n) λ_ o q=>q
theorem ak (j:X.N.Nodup) (d:X.N[i]? = some x) (f:Loc X.env.scope x) (he:PE X e te) (b:swapsWith e (some (.Name x q)) pos.line X.env=pure false:=by rfl) (g:X.fn x=true∨X.env.scope.names.lookup x=some .local:=by first | exact .inl rfl | exact .inr rfl | assumption) :
    PS X (.Assign [.Name x q] e pos) (qg te (bp i)):=by
 intro a s m H D I h;refine wpAny_Assign_Name (thn (he a s m H _ I h) λv p ⟨y,c,l,n,o⟩=>?_) b;exact gs l j d f n (λr k=>⟨_,c,k,o⟩) g
def tPar (i j:Nat) (ta:TA):TS:=λD σ H=>ta σ H λvs H1=>∃v w,vs=[v,w]/\D.nx ((σ.set i (some v)).set j (some w)) H1
theorem u5 {G B z}(Q:X.calm=true) (C:X.N.Nodup) (M:X.N[i]? = some x) (V:X.N[j]? = some y) (n:i ≠ j)
    (A:X.env.scope.names.lookup x=some .local) (t:X.env.scope.names.lookup y=some .local) (Y:PA X [a,b] ta)
    (F:swappedStores [.Tuple [.Name x px,.Name y J] G O] (.Tuple [a,b] B z) X.env=pure (some [x,y]))
    (K:swapsWithSole [.Tuple [.Name x px,.Name y J] G O] (.Tuple [a,b] B z) pos.line X.env=pure false:=by rfl) :
    PS X (.Assign [.Tuple [.Name x px,.Name y J] G O] (.Tuple [a,b] B z) pos) (tPar i j ta):=by
 intro c s E H D I h;rw[exec_Assign_arm];refine wq (wpAny_standAt ?_);rw[K];refine wq (wu ?_);rw[if_neg (by decide)];refine wq (Tuple_ (thn (Y _ c s E H _ I h) λL d ⟨Z,r,R,S,m⟩=>?_));obtain⟨v,w,T,m⟩:=m;subst T;obtain⟨f, g, rfl, U, k⟩:∃f g, L=[f, g] /\ RelV v f /\ RelV w g := by
  cases S with
  | cons p q =>
   cases q with
   | cons p' q' =>
    cases q';exact⟨_,_,rfl,p,p'⟩
 refine wpAny_newObj_type ?_ (by show 2<=sizeLine;decide);have P:Inv X c E r { d with heap:=d.heap.push { cls:=.type "tuple",data:=.seq [f,g].toArray } }:=R.kept (t':=d.toks) λb o e=>wD _ e;rw[F];refine wq (wu ?_);show wpAny (model X.prog X.w) X.A (do rule "assign.swapped-stores";let items ← unpackItems (.ref d.heap.objs.size) 2 none;assignInOrder [λv=>bindName X.env y v,λv=>bindName X.env x v] items.reverse;pure Flow.next) _ _ _;refine wq (wpAny_rule (wq (unpackItems_tuple (items:=#[f,g]) (I.ok.hd Q) (IsTup.new d.heap _) λh' l=>?_)));have N:=P.kept (h':=h') (t':=d.toks) λb o e=>l b o (wJ (wz e)) e;show wpAny _ _ (assignInOrder [λv=>bindName X.env y v,λv=>bindName X.env x v] [g,f] >>= λ_=>pure Flow.next) _ _ _;refine wq (assignInOrder_cons (wpAny_bindName (gs N C V (.inl t) k (λs2 W=>?_) (.inr t))));refine assignInOrder_cons (wpAny_bindName (gs W C M (.inl A) U (λs3 u=>assignInOrder_nil (wu ?_)) (.inr A)));rw[List.set_comm _ _ (Ne.symm n)] at u;exact⟨_,r,u,m⟩
end
section
variable {X:Cx}{pos:Pos}
def uR (c:TT) (tb:TS):TS:=λD σ H=>∃W:Nat->SH,(∃m,W m σ H)/\∀m σ H,W m σ H ->
 c σ H λb H1=>if b=true then ∃N:SH,(∀σ' H',N σ' H'->∃m',m'<m/\W m' σ' H')/\tb { D with nx:=N,ct:=N,bk:=D.nx } σ H1 else D.nx σ H1
theorem du (t:PassesOwn (model X.prog X.w) X.A X.env X.xe) (C:PT X c tc) (F:PSs X q tb):PS X (.While c q [] pos) (uR tc tb) := by
 intro d s J H D I h;obtain⟨W,⟨K,A⟩,i⟩:=h;refine wpAny_While (codeAny_whileLoop (λn B=>∃σ' H',Inv X d σ' H' B/\W n σ' H') ?_ K ⟨J,H,I,A⟩);rintro n z ⟨e,u,G,E⟩;refine wpAny_passesOwn t (thn (C d z e u _ G (i n e u E)) λb L ⟨y,x,j⟩=>?_);cases b with
 | true =>
  obtain⟨N,w,j⟩:=j;rw[if_pos rfl];refine wpAny_passesOwn t (thn (F d L e y _ x j) λf M k=>?_);cases f with
  | next =>
   obtain⟨a,g,p,m⟩:=k;obtain⟨l,o,r⟩:=w a g m;exact⟨l,o,a,g,p,r⟩
  | cont =>
   obtain⟨a,g,p,m⟩:=k;obtain⟨l,o,r⟩:=w a g m;exact⟨l,o,a,g,p,r⟩
  | brk=>exact k
  | ret v=>exact k
 | false =>
  rw[if_neg wZ];exact wpAny_execs_nil ⟨e,y,x,j⟩
end
structure It where
 go:Nat->Hp->Prop
 yld:Nat->Hp->V->Hp->Prop
 stop:Nat->Hp->Prop
def FpOk (X:Cx) (pins:AO_) (H:Hp) (b:Addr):Prop :=
 H b=none/\b≠X.env.locals/\b∉X.fs/\(b∈X.ex∨X.s₀.heap.objs.size<=b)/\(∀x c,X.env.cells.lookup x=some c->c≠b)/\∀p∈X.pn++pins,p.1≠b
theorem Inv.fpOk (I:Inv X pins σ H s) (a:s.heap.objs.size<=b) (d:H' b=none):FpOk X pins H' b:=by
 refine⟨d,xK (w8 I.lt a),I.nofs a,.inr (wM I.sz a),λx c e z=>?_,λp f z=>?_⟩
 ·obtain⟨v,q⟩:=I.cell x c e;exact absurd (w8 q.lt (by rw[z];exact a)) (xp _)
 ·exact absurd (w8 (wz (I.pin p f).1) (by rw[z];exact a)) (xp _)
structure Turn (P:Program) (w:World) (K:W.Frag) (tg:Expr) (J:It) (fp:List Addr) (it:Addr) (tn:Nat -> Heap -> Prop):Prop where
 mem:it∈fp
 obj:∀i h,tn i h->∀b∈fp,∃o,h.get? b=some o/\∀v,o.data≠.cell v
 keep:∀i h h',tn i h->(∀b∈fp,∀o,h.get? b=some o->h'.get? b=some o)->tn i h'
 item:∀(X:Cx),X.prog=P->X.w=w->X.K=K->X.calm=true->∀(i:Nat) (pins:AO_) (s:Shared) (σ:St) (H:Hp) (E:QS),Inv X pins σ H s->(∀b∈fp,FpOk X pins H b)->tn i s.heap->J.go i H ->
  wpAny (model P w) X.A (pyNext (.ref it)) (λr s1=>∃u,r=some u /\
   wpAny (model P w) X.A (letOwnedTupleGo tg (.ref it) u) (λ_ s2=>∃x H',Inv X pins σ H' s2/\RelV x u/\J.yld i H x H'/\tn (i+1) s2.heap/\∀b∈fp,H' b=none) E s1) E s
 done:∀(X:Cx),X.prog=P->X.w=w->X.K=K->X.calm=true->∀(i:Nat) (pins:AO_) (s:Shared) (σ:St) (H:Hp) (E:QS),Inv X pins σ H s->(∀b∈fp,FpOk X pins H b)->tn i s.heap->J.stop i H ->
  wpAny (model P w) X.A (pyNext (.ref it)) (λr s1=>r=none/\Inv X pins σ H s1) E s
 self:∀(A:Around) (i:Nat) (s:Shared) (Q:QS) (E:QS),tn i s.heap->Q (.ref it) s->wpAny (model P w) A (pyIter (.ref it)) Q E s
abbrev TI:=St->Hp->(It->Hp->Prop)->Prop
def PIE (X:Cx) (pins:AO_) (σ:St) (tg:Expr) (R:It->Hp->Prop) (itv:Value) (s2:Shared):Prop :=
 ∃(it:Addr) (fp:List Addr) (tn:Nat->Heap->Prop) (J:It) (H':Hp),itv=.ref it/\Inv X pins σ H' s2/\Turn X.prog X.w X.K tg J fp it tn/\tn 0 s2.heap/\(∀b∈fp,FpOk X pins H' b)/\R J H'
def PI (X:Cx) (tg iter:Expr) (wi:TI):Prop :=
 ∀(pins:AO_) (s:Shared) (σ:St) (H:Hp) (R:It->Hp->Prop),Inv X pins σ H s->wi σ H R ->
  wpAny (model X.prog X.w) X.A (eval iter X.env) (λv s1=>wpAny (model X.prog X.w) X.A (pyIter v) (PIE X pins σ tg R) X.xe s1) X.xe s
theorem nC (b:s.heap.get? it=some o) (e:o.cls=.type n) (d:o.data=.fields q)
    (c:["enumerate","zip","dict_itemiterator","dict_reverseitemiterator","odict_iterator","itertools.zip_longest","itertools.pairwise"].contains n=false) (a:Q () s):wpAny M A (letOwnedTupleGo tg (.ref it) u) Q E s:=by
 unfold letOwnedTupleGo;cases tg <;> first
  | exact wu a
  | (cases u <;> first
      | exact wu a
      | (refine wq (wpAny_load b ?_)
         rw[e,d];show wpAny M A (if (["enumerate","zip","dict_itemiterator","dict_reverseitemiterator","odict_iterator","itertools.zip_longest","itertools.pairwise"].contains n&&q[0]?==some (rawInt _))=true then _ else _) Q E s;rw[if_neg (by intro h;rw[c,Bool.false_and] at h;cases h)];exact wu a))
def Itl (K:W.Frag) (a:Addr):It :=
 ⟨λi H=>∃xs x,SqL K H a xs/\xs[i]? = some x,λi H x H'=>H'=H/\∀xs,SqL K H a xs->xs[i]? = some x,λi H=>∃xs,SqL K H a xs/\xs.length<=i⟩
def Itt (K:W.Frag) (a:Addr):It :=
 ⟨λi H=>∃xs x,SqT K H a xs/\xs[i]? = some x,λi H x H'=>H'=H/\∀xs,SqT K H a xs->xs[i]? = some x,λi H=>∃xs,SqT K H a xs/\xs.length<=i⟩
def Itr (lo:Int) (n:Nat):It:=⟨λi _=>i<n,λi H x H'=>H'=H/\x=.int (lo+i),λi _=>n<=i⟩
theorem gA {P:Program}{w:World}{K:W.Frag}{tg:Expr}(a it:Addr):Turn P w K tg (Itl K a) [it] it (λi h=>h.IsListIter it a i) where
 mem:=by simp
 obj:=λi h st b hb=>by
  have e:b=it:=by simpa using hb
  subst e;obtain⟨o,e,c,d⟩:=st;exact⟨o,e,λv z=>by rw[d] at z;cases z⟩
 keep:=λi h h' st k=>st.at λo e=>k it (by simp) o e
 item:=by
  intro X hP hw hK hc i pins s σ H E I hf st hg;subst hP hw hK;obtain⟨xs,x,hq,hx⟩:=hg;obtain⟨its,rv,p,hz⟩:=I.list hq;obtain⟨u,hu,ru⟩:=rv.get hx;obtain⟨f0,f1,f2,f3,f4,f5⟩:=hf it (by simp);refine wpAny_pyNext_list_item st p.isList (x:=u) (by simpa using hu) λh' st' sb=>?_;have I1:Inv X pins σ H { s with heap:=h' }:=I.turned (t':=s.toks) (λb o hb e=>(sb.2 b hb).trans e) f0 f1 f3 f4 f5;obtain⟨o,e,c,d⟩:=id st';exact⟨u,rfl,nC (s:={ s with heap:=h' }) e c d (by decide) ⟨x,H,I1,ru,⟨rfl,λys hy=>by rw[I.list_inj hy hq];exact hx⟩,st',λb hb=>(hf b hb).1⟩⟩
 done:=by
  intro X hP hw hK hc i pins s σ H E I hf st hg;subst hP hw hK;obtain⟨xs,hq,hx⟩:=hg;obtain⟨its,rv,p,hz⟩:=I.list hq;obtain⟨f0,f1,f2,f3,f4,f5⟩:=hf it (by simp);have hl:=rv.length;exact wpAny_pyNext_list_end (I.ok.hd hc) st p.isList (by simp;omega) λh' eb=>⟨rfl,I.turned (t':=s.toks) (λb o hb e=>eb b o hb e) f0 f1 f3 f4 f5⟩
 self:=λ_ _ _ _ _ st h=>wpAny_pyIter_listiter st h
theorem gi {P:Program}{w:World}{K:W.Frag}{tg:Expr}(a it:Addr):Turn P w K tg (Itt K a) [it] it (λi h=>h.IsTupleIter it a i) where
 mem:=by simp
 obj:=λi h st b hb=>by
  have e:b=it:=by simpa using hb
  subst e;obtain⟨o,e,c,d⟩:=st;exact⟨o,e,λv z=>by rw[d] at z;cases z⟩
 keep:=λi h h' st k=>st.at λo e=>k it (by simp) o e
 item:=by
  intro X hP hw hK hc i pins s σ H E I hf st hg;subst hP hw hK;obtain⟨xs,x,hq,hx⟩:=hg;obtain⟨its,rv,p,hz⟩:=I.tuple hq;obtain⟨u,hu,ru⟩:=rv.get hx;obtain⟨f0,f1,f2,f3,f4,f5⟩:=hf it (by simp);refine wpAny_pyNext_tuple_item st (show s.heap.IsTuple a its.toArray from p) (x:=u) (by simpa using hu) λh' st' sb=>?_;have I1:Inv X pins σ H { s with heap:=h' }:=I.turned (t':=s.toks) (λb o hb e=>(sb.2 b hb).trans e) f0 f1 f3 f4 f5;obtain⟨o,e,c,d⟩:=id st';exact⟨u,rfl,nC (s:={ s with heap:=h' }) e c d (by decide) ⟨x,H,I1,ru,⟨rfl,λys hy=>by rw[I.tuple_inj hy hq];exact hx⟩,st',λb hb=>(hf b hb).1⟩⟩
 done:=by
  intro X hP hw hK hc i pins s σ H E I hf st hg;subst hP hw hK;obtain⟨xs,hq,hx⟩:=hg;obtain⟨its,rv,p,hz⟩:=I.tuple hq;obtain⟨f0,f1,f2,f3,f4,f5⟩:=hf it (by simp);have hl:=rv.length;exact wpAny_pyNext_tuple_end (I.ok.hd hc) st (show s.heap.IsTuple a its.toArray from p) (by simp;omega) λh' eb=>⟨rfl,I.turned (t':=s.toks) (λb o hb e=>eb b o hb e) f0 f1 f3 f4 f5⟩
 self:=λ_ _ _ _ _ st h=>wpAny_pyIter_tupleiter st h
theorem nF {P:Program}{w:World}{K:W.Frag}{tg:Expr}(it:Addr) (lo:Int) (n:Nat):Turn P w K tg (Itr lo n) [it] it (λi h => IsRangeIter h it (lo+(i:Nat) * 1) ((n:Int)-(i:Nat)) 1) where
 mem:=by simp
 obj:=λi h st b hb=>by
  have e:b=it:=by simpa using hb
  subst e;exact⟨_,st,λv z=>by
   have z':Data.fields _=Data.cell v:=z;cases z'⟩
 keep:=λi h h' st k=>k it (by simp) _ st
 item:=by
  intro X hP hw hK hc i pins s σ H E I hf st hg;subst hP hw hK;obtain⟨f0,f1,f2,f3,f4,f5⟩:=hf it (by simp);have W:=Walks.range (prog:=X.prog) (w:=X.w) (I.ok.hd hc) it lo 1 n;refine W.item i s _ _ hg st λv h' tk hv st' kk=>?_;obtain⟨t,rfl⟩:=hv;have I1:Inv X pins σ H { s with heap:=h',toks:=tk }:=I.turned (λb o hb e=>kk b o (by simpa using hb) e) f0 f1 f3 f4 f5;refine⟨_,rfl,nC (s:={ s with heap:=h',toks:=tk }) (n:="range_iterator") st' rfl rfl (by decide) ⟨.int (lo+i),H,I1,⟨t,?_⟩,⟨rfl,rfl⟩,st',λb hb=>(hf b hb).1⟩⟩;rw[Int.mul_one]
 done:=by
  intro X hP hw hK hc i pins s σ H E I hf st hg;subst hP hw hK;obtain⟨f0,f1,f2,f3,f4,f5⟩:=hf it (by simp);exact wpAny_pyNext_range_end (I.ok.hd hc) st (by have:n<=i:=hg;omega) λh' eb=>⟨rfl,I.turned (t':=s.toks) (λb o hb e=>eb b o hb e) f0 f1 f3 f4 f5⟩
 self:=λ_ _ _ _ _ st h=>wpAny_pyIter_rangeiter st h
section
variable {X:Cx}{tg:Expr}
def rX (K:W.Frag) (tl:TE):TI:=λσ H R=>tl σ H λx H1=>∃a,x=.ref a/\(∃xs,SqL K H1 a xs)/\R (Itl K a) H1
def u7 (K:W.Frag) (tl:TE):TI:=λσ H R=>tl σ H λx H1=>∃a,x=.ref a/\(∃xs,SqT K H1 a xs)/\R (Itt K a) H1
theorem tL {l:Expr}{tl:TE}(g:PE X l tl):PI X tg l (rX X.K tl):=by
 intro c s m H R I h;refine thn (g c s m H _ I h) λv d ⟨x,i,f,n,r⟩=>?_;obtain⟨a,e,⟨w,k⟩,q⟩:=r;subst e;cases n;obtain⟨t,y,p,u⟩:=f.list k;refine wpAny_pyIter_list p.isList ?_;refine⟨d.heap.objs.size,[d.heap.objs.size],_,_,i,rfl,f.kept (t':=d.toks) λb o e=>wD _ e,gA a _,⟨_,wQ _ rfl,rfl,rfl⟩,λb j=>?_,q⟩;have e:b=d.heap.objs.size:=by simpa using j
 subst e;exact f.fpOk (wr _) (f.hok.fresh (wr _))
theorem uZ {l:Expr}{tl:TE}(i:PE X l tl):PI X tg l (u7 X.K tl):=by
 intro d s n H R I h;refine thn (i d s n H _ I h) λv c ⟨x,j,f,r,t⟩=>?_;obtain⟨a,e,⟨w,m⟩,q⟩:=t;subst e;cases r;obtain⟨g,y,p,u⟩:=f.tuple m;refine xL (show c.heap.IsTuple a g.toArray from p) ?_;refine⟨c.heap.objs.size,[c.heap.objs.size],_,_,j,rfl,f.kept (t':=c.toks) λb o e=>wD _ e,gi a _,⟨_,wQ _ rfl,rfl,rfl⟩,λb k=>?_,q⟩;have e:b=c.heap.objs.size:=by simpa using k
 subst e;exact f.fpOk (wr _) (f.hok.fresh (wr _))
theorem qQ {R:It->Hp->Prop}{lo hi:Int}{tk:Nat}(I:Inv X pins σ H s) (c:-(2 ^ 62)<=lo) (h2:lo<2 ^ 62) (h:-(2 ^ 62)<=hi) (d:hi<2 ^ 62)
    (q:R (Itr lo (hi-lo).toNat) H):wpAny (model X.prog X.w) X.A (pyIter (.ref s.heap.objs.size)) (PIE X pins σ tg R) E { s with heap:=s.heap.push { cls:=.type "range",data:=.fields #[.int lo t,.int hi u,.int 1 v] },toks:=tk }:=by
 refine wpAny_pyIter_range (IsRange.new ..) (small_one c h2 h d) ?_;have a:Inv X pins σ H { s with heap:=s.heap.push { cls:=.type "range",data:=.fields #[.int lo t,.int hi u,.int 1 v] },toks:=tk }:=I.kept λb o e=>wD _ e;refine⟨(s.heap.push { cls:=.type "range",data:=.fields #[.int lo t,.int hi u,.int 1 v] }).objs.size,[(s.heap.push { cls:=.type "range",data:=.fields #[.int lo t,.int hi u,.int 1 v] }).objs.size],_,_,H,rfl,
  a.kept (t':=tk) λb o e=>wD _ e,nF _ lo (hi-lo).toNat,?_,λb g=>?_,q⟩
 ·have i:lo+((0:Nat):Int) * 1=lo:=by simp
  have f:(((hi-lo).toNat:Nat):Int)-((0:Nat):Int)=Builtin.Range.rangeSize lo hi 1:=by rw[rangeSize_one];split <;> omega
  show IsRangeIter _ _ (lo+((0:Nat):Int) * 1) ((((hi-lo).toNat:Nat):Int)-((0:Nat):Int)) 1;rw[i,f];exact wQ _ rfl
 ·have e:b=(s.heap.push { cls:=.type "range",data:=.fields #[.int lo t,.int hi u,.int 1 v] }).objs.size:=by simpa using g
  subst e;exact a.fpOk (wr _) (a.hok.fresh (wr _))
def vP (ta:TA):TI:=λσ H R=>ta σ H λvs H1=>∃j:Int,vs=[.int j]/\-(2 ^ 62)<=j/\j<2 ^ 62/\R (Itr 0 j.toNat) H1
theorem cG (g:Gl X "range") (f:X.mg "range"=none) (n:PA X [a] ta) (d:starEach [a] X.env=[(false,eval a X.env)]:=by rfl):PI X tg (.Call (.Name "range" p) [a] [] pos) (vP ta):=by
 intro b s l H R I h;refine Call_ (dE I g f boot_range (PyProof.Rows.callWith_type1 (thn (n pos b s l H _ I h) λo v ⟨w,u,k,m,c⟩=>?_) d rfl));obtain⟨j,e,c,i,q⟩:=c;subst e;cases m with
 | cons r rr =>
  cases rr;obtain⟨t,rfl⟩:=r;exact call_range_1 (qQ k (by omega) (by omega) c i (by simpa using q))
def tFor (wi:TI) (g:TG) (tb:TS):TS:=λD σ H=>wi σ H λJ H1=>∃W:Nat->Nat->SH,(∃m,W 0 m σ H1)/\∀i m σ H,W i m σ H ->
 (J.stop i H/\D.nx σ H)∨(J.go i H/\∃N:SH,(∀σ' H',N σ' H'->∃m',m'<m/\W (i+1) m' σ' H')/\∀x H',J.yld i H x H'->g x σ H' λσ2 H2=>tb { D with nx:=N,ct:=N,bk:=D.nx } σ2 H2)
def gM (fp:List Addr) (h:Heap):AO_:=fp.filterMap λb=>(h.get? b).map λo=>(b,o)
theorem cL (a:b∈q) (e:h.get? b=some o):(b,o)∈gM q h:=xM.mpr ⟨b,a,by rw[e];rfl⟩
theorem oK (c:p∈gM z h):p.1∈z/\h.get? p.1=some p.2:=by
 obtain⟨b,d,e⟩:=xM.mp c;cases q:h.get? b with
 | none=>rw[q] at e;cases e
 | some o =>
  rw[q] at e;have a:(b,o)=p:=wA e;subst a;exact⟨d,q⟩
theorem Inv.pinned (I:Inv X pins σ H s) (k:∀b∈q,FpOk X pins H b) (g:∀b∈q,∃o,s.heap.get? b=some o/\∀v,o.data≠.cell v):Inv X (pins++gM q s.heap) σ H s :=
 I.pins_of λp h=>(wR.mp h).elim (λz=>I.pin p (wS _ z)) λz=>by
  obtain⟨c,e⟩:=oK z;obtain⟨i,f,j,_⟩:=k p.1 c;obtain⟨o,a,d⟩:=g p.1 c;rw[e] at a;cases a;exact⟨e,i,f,j,d⟩
theorem Inv.unpinned (I:Inv X (pins++q) σ H s):Inv X pins σ H s:=I.pins_of λp a=>I.pin p (wS _ (xJ _ a))
theorem aV (A:PassesOwn (model X.prog X.w) X.A X.env X.xe) (Y:X.calm=true) (hi:PI X tg iter wi) (hg:PG X tg g) (p:PSs X O tb)
    (hs:∀x,foldedSetIterable iter X.env x=pure x:=by intro _;rfl):PS X (.For tg iter O [] pos) (tFor wi g tb):=by
 intro a s σ H D I h;refine wpAny_For (thn (hi a s σ H _ I h) λv s1 h1=>thn h1 λa0 s2 h2=>?_) hs;obtain⟨it,G,Z,J,H2,e,I2,T,Q,f2,W,⟨m0,w0⟩,K⟩:=h2;subst e;have j:∀ {H':Hp},(∀b∈G,H' b=none)->∀b∈G,FpOk X a H' b:=λhn b p=>⟨hn b p,(f2 b p).2⟩
 refine codeAny_forLoop_any (λn s'=>∃i σ' H',Inv X a σ' H' s'/\Z i s'.heap/\(∀b∈G,H' b=none)/\W i n σ' H') ?_ m0 ⟨0,σ,H2,I2,Q,λb p=>(f2 b p).1,w0⟩;rintro n s3 ⟨i,k,L,V,C,z,w3⟩;rcases K i n k L w3 with⟨F,qn⟩ | ⟨go,N,hN,E⟩
 ·refine wpAny_passesOwn A (thn (T.done X rfl rfl rfl Y i a s3 k L X.xe V (j z) C F) λr s4 ⟨P,I4⟩=>?_);subst P;exact wpAny_execs_nil ⟨k,L,I4,qn⟩
 ·refine wpAny_passesOwn A (thn (T.item X rfl rfl rfl Y i a s3 k L X.xe V (j z) C go) λr s4 ⟨u,P,h4⟩=>?_);subst P;refine wpAny_passesOwn A (thn h4 λ_ s5 ⟨x,H5,I5,r5,y5,y,S⟩=>?_);have U:=I5.pinned (j S) (T.obj _ _ y);refine wpAny_passesOwn A (thn (hg _ s5 k H5 x u _ U r5 (E x H5 y5)) λ_ s6 ⟨R,H6,I6,q6⟩=>?_);refine wpAny_passesOwn A (thn (p _ s6 R H6 _ I6 q6) λf M w=>?_);have t:∀ {c:St} {q:Hp},Inv X (a++gM G s5.heap) c q M->N c q->∃m,m<n/\∃i σ' H',Inv X a σ' H' M/\Z i M.heap/\(∀b∈G,H' b=none)/\W i m σ' H':=λ{c q} l B=>by
   obtain⟨m',hm,w7⟩:=hN c q B;refine⟨m',hm,i+1,c,q,l.unpinned,T.keep _ _ _ y λb p o e=>(l.pin (b,o) (wS _ (wS _ (cL p e)))).1,λb p=>?_,w7⟩;obtain⟨o,e,d⟩:=T.obj _ _ y b p;exact(l.pin (b,o) (wS _ (wS _ (cL p e)))).2.1
  cases f with
  | next=>obtain⟨c,q,l,B⟩:=w;exact t l B
  | cont=>obtain⟨c,q,l,B⟩:=w;exact t l B
  | brk=>obtain⟨c,q,l,w⟩:=w;exact⟨c,q,l.unpinned,w⟩
  | ret v=>obtain⟨x7,c,q,l,r7,w⟩:=w;exact⟨x7,c,q,l.unpinned,r7,w⟩
end
theorem li {K:W.Frag}{a:Addr}{xs:LV}{g:TG}{tb:TS}{D:Ends}{σ:St}{H:Hp}(Pv:Nat -> St -> Hp -> Prop) (c:Pv 0 σ H) (h:∀i σ H, i <= xs.length -> Pv i σ H -> SqL K H a xs)
    (j:∀i x σ H,xs[i]? = some x->Pv i σ H->g x σ H λσ2 H2=>tb { D with nx:=Pv (i+1),ct:=Pv (i+1),bk:=D.nx } σ2 H2) (d:∀σ H,Pv xs.length σ H->D.nx σ H) :
    ∃W:Nat->Nat->SH,(∃m,W 0 m σ H)/\∀i m σ H,W i m σ H ->
     ((Itl K a).stop i H/\D.nx σ H)∨((Itl K a).go i H/\∃N:SH,(∀σ' H',N σ' H'->∃z,z<m/\W (i+1) z σ' H')/\∀x H',(Itl K a).yld i H x H'->g x σ H' λσ2 H2=>tb { D with nx:=N,ct:=N,bk:=D.nx } σ2 H2):=by
 refine⟨λi m σ H=>m=xs.length-i/\i<=xs.length/\Pv i σ H,⟨xs.length,by simp,wW _,c⟩,?_⟩;rintro i m σ H ⟨rfl,f,p⟩;have q:=h i σ H f p;by_cases b:i<xs.length
 ·refine .inr ⟨⟨xs,xs[i],q,by simp[b]⟩,Pv (i+1),λσ' H' k=>⟨xs.length-(i+1),by omega,rfl,b,k⟩,λx H' y=>?_⟩;obtain⟨e,y⟩:=y;subst e;exact j i x σ _ (y xs q) p
 ·have e:i=xs.length:=by omega
  subst e;exact .inl ⟨⟨xs,q,wr _⟩,d σ H p⟩
theorem mC {K:W.Frag}{a:Addr}{xs:LV}{g:TG}{tb:TS}{D:Ends}{σ:St}{H:Hp}(Pv:Nat -> St -> Hp -> Prop) (c:Pv 0 σ H) (h:∀i σ H, i <= xs.length -> Pv i σ H -> SqT K H a xs)
    (j:∀i x σ H,xs[i]? = some x->Pv i σ H->g x σ H λσ2 H2=>tb { D with nx:=Pv (i+1),ct:=Pv (i+1),bk:=D.nx } σ2 H2) (d:∀σ H,Pv xs.length σ H->D.nx σ H) :
    ∃W:Nat->Nat->SH,(∃m,W 0 m σ H)/\∀i m σ H,W i m σ H ->
     ((Itt K a).stop i H/\D.nx σ H)∨((Itt K a).go i H/\∃N:SH,(∀σ' H',N σ' H'->∃z,z<m/\W (i+1) z σ' H')/\∀x H',(Itt K a).yld i H x H'->g x σ H' λσ2 H2=>tb { D with nx:=N,ct:=N,bk:=D.nx } σ2 H2):=by
 refine⟨λi m σ H=>m=xs.length-i/\i<=xs.length/\Pv i σ H,⟨xs.length,by simp,wW _,c⟩,?_⟩;rintro i m σ H ⟨rfl,f,p⟩;have q:=h i σ H f p;by_cases b:i<xs.length
 ·refine .inr ⟨⟨xs,xs[i],q,by simp[b]⟩,Pv (i+1),λσ' H' k=>⟨xs.length-(i+1),by omega,rfl,b,k⟩,λx H' y=>?_⟩;obtain⟨e,y⟩:=y;subst e;exact j i x σ _ (y xs q) p
 ·have e:i=xs.length:=by omega
  subst e;exact .inl ⟨⟨xs,q,wr _⟩,d σ H p⟩
theorem pM {lo:Int}{n:Nat}{g:TG}{tb:TS}{D:Ends}{σ:St}{H:Hp}(Pv:Nat -> St -> Hp -> Prop) (b:Pv 0 σ H)
    (d:∀i σ H,i<n->Pv i σ H->g (.int (lo+i)) σ H λσ2 H2=>tb { D with nx:=Pv (i+1),ct:=Pv (i+1),bk:=D.nx } σ2 H2) (c:∀σ H,Pv n σ H->D.nx σ H) :
    ∃W:Nat->Nat->SH,(∃m,W 0 m σ H)/\∀i m σ H,W i m σ H ->
     ((Itr lo n).stop i H/\D.nx σ H)∨((Itr lo n).go i H/\∃N:SH,(∀σ' H',N σ' H'->∃q,q<m/\W (i+1) q σ' H')/\∀x H',(Itr lo n).yld i H x H'->g x σ H' λσ2 H2=>tb { D with nx:=N,ct:=N,bk:=D.nx } σ2 H2):=by
 refine⟨λi m σ H=>m=n-i/\i<=n/\Pv i σ H,⟨n,by simp,wW _,b⟩,?_⟩;rintro i m σ H ⟨rfl,h,p⟩;by_cases a:i<n
 ·refine .inr ⟨a,Pv (i+1),λσ' H' f=>⟨n-(i+1),by omega,rfl,a,f⟩,λx H' y=>?_⟩;obtain⟨e,y⟩:=y;subst e y;exact d i σ _ a p
 ·have e:i=n:=by omega
  subst e;exact .inl ⟨wr _,c σ H p⟩
abbrev R2:=V->V->Hp->VK->Prop
def OpR (X:Cx) (f:Value->Value->Sem Value) (r:R2):Prop :=
 ∀(pins:AO_) (s:Shared) (σ:St) (H:Hp) (x y:V) (v u:Value) (Q:VK),Inv X pins σ H s->RelV x v->RelV y u->r x y H Q ->
  wpAny (model X.prog X.w) X.A (f v u) (EP X pins σ Q) X.xe s
def UnR (X:Cx) (f:Value->Sem Value) (r:V->Hp->VK->Prop):Prop :=
 ∀(pins:AO_) (s:Shared) (σ:St) (H:Hp) (x:V) (v:Value) (Q:VK),Inv X pins σ H s->RelV x v->r x H Q ->
  wpAny (model X.prog X.w) X.A (f v) (EP X pins σ Q) X.xe s
def dS (X:Cx) (f:Value) (r:LV->Hp->VK->Prop):Prop :=
 ∀(pins:AO_) (s:Shared) (σ:St) (H:Hp) (xs:LV) (us:List Value) (Q:VK),Inv X pins σ H s->Vals xs us->r xs H Q ->
  wpAny (model X.prog X.w) X.A (call f us) (EP X pins σ Q) X.xe s
def tOp (r:R2) (ta tb:TE):TE:=λσ H Q=>ta σ H λx H1=>tb σ H1 λy H2=>r x y H2 Q
def tUn (r:V->Hp->VK->Prop) (ta:TE):TE:=λσ H Q=>ta σ H λx H1=>r x H1 Q
def rI (C:Int->Int->Prop) (g:Int->Int->V):R2:=λx y H Q=>∃i j,x=.int i/\y=.int j/\C i j/\Q (g i j) H
def rI0 (g:Int->Int->V):R2:=λx y H Q=>∃i j,x=.int i/\y=.int j/\Q (g i j) H
def rU (g:Int->V):V->Hp->VK->Prop:=λx H Q=>∃i,x=.int i/\Q (g i) H
section
variable {X:Cx}{a b c:Expr}{ta tb tc:TE}{pos:Pos}
theorem qp (l:PE X a ta) (e:PE X b tb) {R:V->V->Hp->Prop}(I:Inv X pins σ H s)
    (h:ta σ H λx H1=>tb σ H1 λy H2=>R x y H2) {f:Value->Value->Sem Value}
    (k:∀v u B x y H2,Inv X pins σ H2 B->RelV x v->RelV y u->R x y H2->wpAny (model X.prog X.w) X.A (f v u) Q X.xe B) :
    wpAny (model X.prog X.w) X.A (eval a X.env) (λv q=>wpAny (model X.prog X.w) X.A (eval b X.env) (λu z=>wpAny (model X.prog X.w) X.A (f v u) Q X.xe z) X.xe q) X.xe s:=by
 refine thn (l pins s σ H _ I h) λv n ⟨x,H1,i,j,m⟩=>?_;refine thn (e pins n σ H1 _ i m) λu B ⟨y,H2,d,g,c⟩=>?_;exact k v u B x y H2 d j g c
theorem aD {op:Operator}{r:R2}(d:OpR X (binaryOp op) r) (m:PE X a ta) (i:PE X b tb):PE X (.BinOp a op b pos) (tOp r ta tb):=by
 intro c s j H Q I h;exact wpAny_BinOp (qp m i I h λv u l x y k g f e q=>d c l j k x y v u Q g f e q)
theorem fK (d:UnR X (unaryOp op) r) (i:PE X a ta):PE X (.UnaryOp op a pos) (tUn r ta):=by
 intro b s c H Q I h;exact UnaryOp_ (thn (i b s c H _ I h) λv k ⟨x,f,e,g,j⟩=>d b k c f x v Q e g j)
theorem opI {f:Value->Value->Sem Value}{C:Int->Int->Prop}{g:Int->Int->Int}
    (a:∀(i j:Int) (t u:Tok) (s:Shared) (Q:QS) (E:QS),C i j->Q (.int (g i j) s.toks) { s with toks:=s.toks+1 }->wpAny (model X.prog X.w) X.A (f (.int i t) (.int j u)) Q E s) :
    OpR X f (rI C λi j=>.int (g i j)):=by
 intro b s l H x y v u Q I c k h;obtain⟨i,j,rfl,rfl,e,q⟩:=h;obtain⟨t,rfl⟩:=c;obtain⟨d,rfl⟩:=k;exact a i j t d s _ _ e ⟨.int (g i j),H,I.tok _,⟨_,rfl⟩,q⟩
theorem u9 {f:Value->Value->Sem Value}{g:Int->Int->Int}
    (a:∀(i j:Int) (t u:Tok) (s:Shared) (Q:QS) (E:QS),Q (.int (g i j) s.toks) { s with toks:=s.toks+1 }->wpAny (model X.prog X.w) X.A (f (.int i t) (.int j u)) Q E s) :
    OpR X f (rI0 λi j=>.int (g i j)):=by
 intro b s k H x y v u Q I c e h;obtain⟨i,j,rfl,rfl,q⟩:=h;obtain⟨t,rfl⟩:=c;obtain⟨d,rfl⟩:=e;exact a i j t d s _ _ ⟨.int (g i j),H,I.tok _,⟨_,rfl⟩,q⟩
theorem qS {f:Value->Value->Sem Value}{g:Int->Int->Bool}
    (a:∀(i j:Int) (t u:Tok) (s:Shared) (Q:QS) (E:QS),Q (.bool (g i j)) s->wpAny (model X.prog X.w) X.A (f (.int i t) (.int j u)) Q E s) :
    OpR X f (rI0 λi j=>.bl (g i j)):=by
 intro b s k H x y v u Q I c e h;obtain⟨i,j,rfl,rfl,q⟩:=h;obtain⟨t,rfl⟩:=c;obtain⟨d,rfl⟩:=e;exact a i j t d s _ _ ⟨.bl (g i j),H,I,rfl,q⟩
def CDiv (i j:Int):Prop:=0<j/\j<1073741824
def CPow (i j:Int):Prop:=0<=j/\j<=1000000/\i.natAbs<2 ^ 64
def CMul (i j:Int):Prop:=(-(2 ^ 64)<i/\i<2 ^ 64)∨(-(2 ^ 64)<j/\j<2 ^ 64)
theorem CMul.ok (h:CMul i j):IntMulOk i j:=by
 rcases h with⟨a,b⟩ | ⟨a,b⟩
 ·exact .of_left (intBits_le_64 a b)
 ·exact .of_right (intBits_le_64 a b)
theorem uY:OpR X (binaryOp .Add) (rI0 λi j=>.int (i+j)):=u9 λ_ _ _ _ _ _ _ q=>add_int q
theorem pi:OpR X (binaryOp .Sub) (rI0 λi j=>.int (i-j)):=u9 λ_ _ _ _ _ _ _ q=>sub_int q
theorem fq:OpR X (binaryOp .Mult) (rI CMul λi j=>.int (i * j)):=opI λ_ _ _ _ _ _ _ a q=>mul_int q a.ok
theorem gZ:OpR X (binaryOp .FloorDiv) (rI CDiv λi j=>.int (i / j)):=opI λi j _ _ _ _ _ a q=>by
 have b:(0:Int)<j:=a.1;have c:j<1073741824:=a.2;exact floordiv_int (by omega) (by rw[Int.fdiv_eq_ediv_of_nonneg i (by omega)];exact q) (.inl (PyProof.noPylong_small (by omega)))
theorem cH:OpR X (binaryOp .Mod) (rI (λ_ j=>0<j) λi j=>.int (i % j)):=opI λi j _ _ _ _ _ a q=>by
 have b:(0:Int)<j:=a;exact mod_int' (by omega) (by rw[Int.fmod_eq_emod_of_nonneg i (by omega)];exact q)
theorem u0:OpR X (binaryOp .Pow) (rI CPow λi j=>.int (i ^ j.toNat)):=opI λ_ _ _ _ _ _ _ a q=>pow_int_small a.1 a.2.1 a.2.2 q
theorem unI {f:Value->Sem Value}{g:Int->Int}
    (a:∀(i:Int) (t:Tok) (s:Shared) (Q:QS) (E:QS),Q (.int (g i) s.toks) { s with toks:=s.toks+1 }->wpAny (model X.prog X.w) X.A (f (.int i t)) Q E s) :
    UnR X f (rU λi=>.int (g i)):=by
 intro b s d H x v Q I c h;obtain⟨i,rfl,q⟩:=h;obtain⟨t,rfl⟩:=c;exact a i t s _ _ ⟨.int (g i),H,I.tok _,⟨_,rfl⟩,q⟩
theorem eN:UnR X (unaryOp .USub) (rU λi=>.int (-i)):=unI λ_ _ _ _ _ q=>neg_int q
end
def qI:V->V->Bool
 | .non,.non=>true | .non,.int _=>true | .int _,.non=>true | .non,.bl _=>true | .bl _,.non=>true | .non,.str _=>true | .str _,.non=>true
 | .int _,.int _=>true | .bl _,.bl _=>true | .str _,.str _=>true | .byt _,.byt _=>true
 | .int _,.str _=>true | .str _,.int _=>true | .bl _,.str _=>true | .str _,.bl _=>true
 | _,_=>false
def rEq:R2:=λx y H Q=>qI x y=true/\Q (.bl (decide (x=y))) H
def rNe:R2:=λx y H Q=>qI x y=true/\Q (.bl (!decide (x=y))) H
theorem mi:decide (V.int i=V.int j)=(i==j):=by
 rw[xr];simp
theorem oY:decide (V.bl i=V.bl j)=(i==j):=by
 rw[xr];simp
theorem my:decide (V.str i=V.str j)=(i==j):=by
 rw[xr];simp
theorem ma:decide (V.byt i=V.byt j)=(i.toList==j.toList):=by
 rw[xr];cases i;cases j;simp
section
variable {X:Cx}{a b c:Expr}{ta tb tc:TE}{pos:Pos}
theorem aR (I:Inv X pins σ H s) (q:Q (.bl k) H) (e:k=z):EP X pins σ Q (.bool z) s:=by
 subst e;exact⟨.bl k,H,I,rfl,q⟩
theorem vx:OpR X (compareOp .Eq) rEq:=by
 intro e s f H x y v u Q I d a h;obtain⟨c,q⟩:=h;cases x with
 | non =>
  cases d;cases y with
  | non=>cases a;exact PySem.EqNone.eq_none_none (aR I q (by simp))
  | bl j=>cases a;exact PySem.EqNone.eq_none_bool (aR I q (by simp))
  | int j=>obtain⟨b,rfl⟩:=a;exact PySem.EqNone.eq_none_int (aR I q (by simp))
  | str j=>obtain⟨b,rfl⟩:=a;exact PySem.EqNone.eq_none_str (aR I q (by simp))
  | _=>exact absurd (show false=true from c) wZ
 | bl i =>
  cases d;cases y with
  | non=>cases a;exact PySem.EqNone.eq_bool_none (aR I q (by simp))
  | bl j=>cases a;exact eq_bool (aR I q oY)
  | str j=>obtain⟨b,rfl⟩:=a;exact PySem.EqMixed.eq_bool_str (aR I q (by simp))
  | _=>exact absurd (show false=true from c) wZ
 | int i =>
  obtain⟨t,rfl⟩:=d;cases y with
  | non=>cases a;exact PySem.EqNone.eq_int_none (aR I q (by simp))
  | int j=>obtain⟨b,rfl⟩:=a;exact eq_int (aR I q mi)
  | str j=>obtain⟨b,rfl⟩:=a;exact PySem.EqMixed.eq_int_str (aR I q (by simp))
  | _=>exact absurd (show false=true from c) wZ
 | str i =>
  obtain⟨t,rfl⟩:=d;cases y with
  | non=>cases a;exact PySem.EqNone.eq_str_none (aR I q (by simp))
  | bl j=>cases a;exact PySem.EqMixed.eq_str_bool (aR I q (by simp))
  | int j=>obtain⟨b,rfl⟩:=a;exact PySem.EqMixed.eq_str_int (aR I q (by simp))
  | str j=>obtain⟨b,rfl⟩:=a;exact eq_str (aR I q my)
  | _=>exact absurd (show false=true from c) wZ
 | byt i =>
  obtain⟨t,rfl⟩:=d;cases y with
  | byt j=>obtain⟨b,rfl⟩:=a;exact W.eq_bytes (aR I q ma)
  | _=>exact absurd (show false=true from c) wZ
 | _=>cases y <;> exact absurd (show false=true from c) wZ
theorem vK:OpR X (compareOp .NotEq) rNe:=by
 intro e s f H x y v u Q I d a h;obtain⟨c,q⟩:=h;cases x with
 | non =>
  cases d;cases y with
  | non=>cases a;exact PySem.EqNone.ne_none_none (aR I q (by simp))
  | bl j=>cases a;exact PySem.EqNone.ne_none_bool (aR I q (by simp))
  | int j=>obtain⟨b,rfl⟩:=a;exact PySem.EqNone.ne_none_int (aR I q (by simp))
  | str j=>obtain⟨b,rfl⟩:=a;exact PySem.EqNone.ne_none_str (aR I q (by simp))
  | _=>exact absurd (show false=true from c) wZ
 | bl i =>
  cases d;cases y with
  | non=>cases a;exact PySem.EqNone.ne_bool_none (aR I q (by simp))
  | bl j=>cases a;exact ne_bool (aR I q (congrArg not oY))
  | str j=>obtain⟨b,rfl⟩:=a;exact PySem.EqMixed.ne_bool_str (aR I q (by simp))
  | _=>exact absurd (show false=true from c) wZ
 | int i =>
  obtain⟨t,rfl⟩:=d;cases y with
  | non=>cases a;exact PySem.EqNone.ne_int_none (aR I q (by simp))
  | int j=>obtain⟨b,rfl⟩:=a;exact ne_int (aR I q (congrArg not mi))
  | str j=>obtain⟨b,rfl⟩:=a;exact PySem.EqMixed.ne_int_str (aR I q (by simp))
  | _=>exact absurd (show false=true from c) wZ
 | str i =>
  obtain⟨t,rfl⟩:=d;cases y with
  | non=>cases a;exact PySem.EqNone.ne_str_none (aR I q (by simp))
  | bl j=>cases a;exact PySem.EqMixed.ne_str_bool (aR I q (by simp))
  | int j=>obtain⟨b,rfl⟩:=a;exact PySem.EqMixed.ne_str_int (aR I q (by simp))
  | str j=>obtain⟨b,rfl⟩:=a;exact ne_str (aR I q (congrArg not my))
  | _=>exact absurd (show false=true from c) wZ
 | byt i =>
  obtain⟨t,rfl⟩:=d;cases y with
  | byt j=>obtain⟨b,rfl⟩:=a;exact W.ne_bytes (aR I q (congrArg not ma))
  | _=>exact absurd (show false=true from c) wZ
 | _=>cases y <;> exact absurd (show false=true from c) wZ
theorem vN:OpR X (compareOp .Lt) (rI0 λi j=>.bl (decide (i<j))):=qS λ_ _ _ _ _ _ _ q=>lt_int q
theorem eU:OpR X (compareOp .Gt) (rI0 λi j=>.bl (decide (j<i))):=qS λ_ _ _ _ _ _ _ q=>gt_int q
theorem wg:OpR X (compareOp .GtE) (rI0 λi j=>.bl (decide (j<=i))):=qS λ_ _ _ _ _ _ _ q=>ge_int q
theorem oW:OpR X (compareOp .Lt) (λx y H Q=>∃i j,x=.str i/\y=.str j/\Q (.bl (decide (i.cps.toList<j.cps.toList))) H):=by
 intro a s e H x y v u Q I b c h;obtain⟨i,j,rfl,rfl,q⟩:=h;obtain⟨t,rfl⟩:=b;obtain⟨d,rfl⟩:=c;exact lt_str (aR I q rfl)
theorem uv:OpR X (compareOp .Is) (λx y H Q=>y=.non/\Q (.bl (decide (x=.non))) H):=by
 intro a s d H x y v u Q I b c h;obtain⟨rfl,q⟩:=h;cases c;refine is_none_gen (aR I q ?_);cases x <;> first
  | (cases b;rfl)
  | (obtain⟨t,rfl⟩:=b;rfl)
theorem uc:OpR X (compareOp .IsNot) (λx y H Q=>y=.non/\Q (.bl (!decide (x=.non))) H):=by
 intro a s d H x y v u Q I b c h;obtain⟨rfl,q⟩:=h;cases c;refine isnot_none_gen (aR I q ?_);cases x <;> first
  | (cases b;rfl)
  | (obtain⟨t,rfl⟩:=b;rfl)
theorem aB (b:Expr) (h:op≠.In:=by decide) (h2:op≠.NotIn:=by decide):behindInMarks op b=false:=by
 have a:(op==CmpOp.In)=false:=by cases op <;> first | rfl | exact absurd rfl h
 have c:(op==CmpOp.NotIn)=false:=by cases op <;> first | rfl | exact absurd rfl h2
 cases b <;> simp[behindInMarks,a,c]
theorem jk {op:CmpOp}{r:R2}(d:OpR X (compareOp op) r) (n:PE X a ta) (j:PE X b tb) (f:behindInMarks op b=false):PE X (.Compare a [op] [b] pos) (tOp r ta tb):=by
 intro c s k H Q I h;exact wpAny_Compare1 (qp n j I h λv u m x y l i g e q=>d c m k l x y v u Q i g e q) f
def wh (t:TE):TT:=λσ H Q=>t σ H λx H'=>∃k,x=.bl k/\Q k H'
theorem ao (g:OpR X (compareOp op) r) (F:PE X a ta) (q:PE X b tb) (m:behindInMarks op b=false):PT X (.Compare a [op] [b] pos) (wh (tOp r ta tb)):=by
 intro d s f H Q I h;refine wpAny_isTrue_Compare1 (thn (F d s f H _ I h) λv l ⟨x,j,t,w,B⟩=>thn (q d l f j _ t B) λu D ⟨y,A,p,E,o⟩ =>
  thn (g d D f A x y v u _ p w E o) λc J ⟨z,G,n,i,k,e,C⟩=>?_) m
 subst e;cases i;exact wpAny_truthy_bool ⟨G,n,C⟩
theorem fS:(sizeLine:Nat)<2 ^ 63:=by rw[sizeLine_eq];decide
theorem oh:OpR X (binaryOp .Add) (λx y H Q=>∃i j,x=.str i/\y=.str j/\i.length+j.length<=sizeLine/\Q (.str (i++j)) H):=by
 intro a s g H x y v u Q I b d h;obtain⟨i,j,rfl,rfl,e,q⟩:=h;obtain⟨t,rfl⟩:=b;obtain⟨c,rfl⟩:=d;exact add_str (λc f=>⟨.str (i++j),H,I.tok _,⟨_,rfl⟩,q⟩) e
theorem cK (r:Vals [x] us):∃u,us=[u]/\RelV x u:=by
 cases r with
 | cons r1 r2=>cases r2;exact⟨_,rfl,r1⟩
theorem fF (r:Vals [x,y] us):∃u q,us=[u,q]/\RelV x u/\RelV y q:=by
 cases r with
 | cons r1 r2 =>
  cases r2 with
  | cons r3 r4=>cases r4;exact⟨_,_,rfl,r1,r3⟩
theorem qW:dS X (.builtin "abs") (λxs H Q=>∃i,xs=[.int i]/\Q (.int (if i<0 then -i else i)) H):=by
 intro a s d H xs c Q I r h;obtain⟨i,rfl,q⟩:=h;obtain⟨u,rfl,t,rfl⟩:=cK r;exact call_abs_int λu b=>⟨.int (if i<0 then -i else i),H,I.tok _,⟨_,rfl⟩,q⟩
theorem pC (c:X.calm=true):dS X (.builtin "min") (λxs H Q=>∃i j,xs=[.int i,.int j]/\Q (.int (if j<i then j else i)) H):=by
 intro b s l H xs f Q I r h;obtain⟨i,j,rfl,q⟩:=h;obtain⟨u,g,rfl,⟨t,rfl⟩,⟨e,rfl⟩⟩:=fF r;refine min_two_ints (I.ok.hd c) λm d k=>⟨_,H,I.kept k,?_,q⟩
 by_cases a:j<i
 ·rw[if_pos a,if_pos a];exact⟨_,rfl⟩
 ·rw[if_neg a,if_neg a];exact⟨_,rfl⟩
theorem jK:dS X (.type "int") (λxs H Q=>(∃i,xs=[.int i]/\Q (.int i) H)∨∃k,xs=[.bl k]/\Q (.int (if k then 1 else 0)) H):=by
 intro a s d H xs c Q I r h;rcases h with⟨i,rfl,q⟩ | ⟨k,rfl,q⟩
 ·obtain⟨u,rfl,t,rfl⟩:=cK r;exact call_int_int ⟨.int i,H,I,⟨_,rfl⟩,q⟩
 ·obtain⟨u,rfl,b⟩:=cK r;cases b;exact call_int_bool ⟨.int (if k then 1 else 0),H,I.tok _,⟨_,rfl⟩,q⟩
def qV (K:W.Frag) (x:V) (H:Hp) (n:Nat):Prop :=
 match x with
 | .str y=>y.length<=sizeLine/\n=y.length
 | .byt y=>y.size<=sizeLine/\n=y.size
 | .ref p=>(∃xs,SqL K H p xs/\n=xs.length)∨∃xs,SqT K H p xs/\n=xs.length
 | _=>False
theorem qm:dS X (.builtin "len") (λxs H Q => ∃x n, xs=[x] /\ qV X.K x H n /\ Q (.int n) H) := by
 intro j s w H xs v Q I r h;obtain⟨x,n,rfl,e,q⟩:=h;obtain⟨u,rfl,f⟩:=cK r;have m:=fS;have o:sizeLine=16777216:=sizeLine_eq;cases x with
 | str y =>
  obtain⟨t,rfl⟩:=f;obtain⟨k,b⟩:y.length<=sizeLine/\n=y.length:=e;subst b;exact len_str (by omega) ⟨.int _,H,I.tok _,⟨_,rfl⟩,q⟩
 | byt y =>
  obtain⟨t,rfl⟩:=f;obtain⟨k,b⟩:y.size<=sizeLine/\n=y.size:=e;subst b;exact W.len_bytes (by omega) ⟨.int _,H,I.tok _,⟨_,rfl⟩,q⟩
 | ref p =>
  cases f;have b:(∃xs,SqL X.K H p xs/\n=xs.length)∨∃xs,SqT X.K H p xs/\n=xs.length:=e;rcases b with⟨xs,d,b⟩ | ⟨xs,d,b⟩
  ·subst b;obtain⟨g,c,i,l⟩:=I.list d;have a:=c.length;exact Calls.call_len_list i.isList (by simp only[wT];omega) ⟨.int xs.length,H,I.tok _,⟨_,by simp only[wT];rw[a]⟩,q⟩
  ·subst b;obtain⟨g,c,i,l⟩:=I.tuple d;have a:=c.length;exact len_tuple i (by simp only[wT];omega) ⟨.int xs.length,H,I.tok _,⟨_,by simp only[wT];rw[a]⟩,q⟩
 | _=>exact(show False from e).elim
end
structure ObjM (h:Heap) (x dx C:Addr) (mA:MS):Prop where
 obj:h.get? x=some (W.instObj C dx)
 ns:h.Ns1 dx mA
 ne:dx≠x
theorem oF {h:Heap}{dx:Addr}{B:Str -> OV}(n:h.Ns1 dx B):∃od, h.get? dx=some od /\ ∀name, W.lookIn name od=some (B name) := by
 obtain⟨o,c,l,d,f,k,_,g⟩:=n;refine⟨o,d,λname=>?_⟩;have e:=g name;unfold nsFind findBy at e;rw[<- Array.find?_toList] at e;unfold W.lookIn;rw[f];dsimp only
 split
 ·rename_i y q
  rw[q] at e;exact congrArg some e
 ·rename_i q
  rw[q] at e;have a:c.toList.any (·.refKey)=false:=by
   rw[List.any_eq_false];intro y i;obtain⟨z,t,b⟩:=k y (Array.mem_toList_iff.mp i);simp[DictEntry.refKey,b]
  have j:¬ c.toList.any (·.refKey)=true:=by rw[a];exact wZ
  rw[if_neg j];exact congrArg some e
theorem ObjM.look (I:ObjM h x dx C q):∃od,W.InstAt h x (W.instObj C dx) C (some od)/\∀name,W.lookIn name od=some (q name) :=
 let ⟨od,a,b⟩:=oF I.ns
 ⟨od,⟨I.obj,rfl,rfl,a⟩,b⟩
theorem RelO.some_of (r:RelO (some v) o):∃u,o=some u/\RelV v u:=by
 cases o with
 | none=>exact(show False from r).elim
 | some u=>exact⟨u,rfl,r⟩
section
variable {P:Program}{w:World}{H H':Hp}{h h':Heap}{a C dx:Addr}{fs fs':List (Str × V)}
theorem tD (b:HOk P w H h) (e:H a=some (.ins C dx fs)):∃B,ObjM h a dx C B/\(∀f,RelO (fs.lookup f) (B f))/\PySem.Within B (fs.map (·.1))/\fs.length<=1000/\H dx=some (.own a):=by
 obtain⟨d,z,c,g,B,n,r,q⟩:=(show ObjOk P w H h a (.ins C dx fs) from b a _ e)
 exact⟨B,⟨g,n,c⟩,r,q,z,d⟩
end
structure Cls (K:W.Frag) (C:Addr):Prop where
 pg:W.plainGet K C Str.empty=true
 hd:W.hasDictIn K C=true
 po:W.plainOver K C=true
 sa:W.findIn K (.ref C) "__setattr__"=some (some (.builtin "object.__setattr__"))
theorem Cls.get {K:W.Frag}{C:Addr}(c:Cls K C) (f:Str):W.plainGet K C f=true:=c.pg
section
variable {X:Cx}{pins:AO_}{σ:St}{H:Hp}{s:Shared}{A:Around}{E:QS}{Q:QS}{c:Value}{b:Bool}
inductive TyOf (K:W.Frag) (H:Hp):V -> Value -> Prop where
 | non:TyOf K H .non (.type "NoneType")
 | bl (x:Bool):TyOf K H (.bl x) (.type "bool")
 | int (i:Int):TyOf K H (.int i) (.type "int")
 | str (x:Str):TyOf K H (.str x) (.type "str")
 | flt (x:UInt64):TyOf K H (.flt x) (.type "float")
 | lst {a:Addr} {xs:LV} (e:H a=some (.lst xs)):TyOf K H (.ref a) (.type "list")
 | frz {a:Addr} {o:Obj} {xs:LV} (e:H a=some (.frz o (.lst xs))):TyOf K H (.ref a) (.type "list")
 | tup {a:Addr} {xs:LV} (e:H a=some (.tup xs)):TyOf K H (.ref a) (.type "tuple")
 | dK {a:Addr} {kvs:KV_} (e:H a=some (.dK kvs)):TyOf K H (.ref a) (.type "dict")
 | dT {a:Addr} {kvs:List (List Key × V)} (e:H a=some (.dT kvs)):TyOf K H (.ref a) (.type "dict")
 | ins {a C dx:Addr} {fs:List (Str × V)} (e:H a=some (.ins C dx fs)) (cl:Cls K C) (ha:W.findIn K (.ref C) "__class__"=some (some (.builtin "object.__class__")))
     (hn:W.specialIn K (.builtin "object.__class__") "__get__"=some (some (.builtin "getset_descriptor.__get__"))) (htk:W.takesIn K (.builtin "object.__class__")=some true)
     (hm:W.mroIn K C (.type "object")=some true):TyOf K H (.ref a) (.ref C)
theorem pO (I:Inv X pins σ H s) (d:RelV x u) (k:TyOf X.K H x t) (e:W.kitOne X.K t c=some b) (h:∀tk,Q (.bool b) { s with toks:=tk }) :
    wpAny (model X.prog X.w) A (call (.builtin "isinstance") [u,c]) Q E s:=by
 cases k with
 | non=>cases (show u=Value.none from d);exact W.kia_one W.kitx_none I.kIn True.intro e (λz=>nomatch z) h
 | bl y=>cases (show u=Value.bool y from d);exact W.kia_one W.kitx_bool I.kIn True.intro e (λz=>nomatch z) h
 | int i=>obtain⟨t,q⟩:=(show ∃t,u=Value.int i t from d);cases q;exact W.kia_one W.kitx_int I.kIn True.intro e (λz=>nomatch z) h
 | str y=>obtain⟨t,q⟩:=(show ∃t,u=Value.str y t from d);cases q;exact W.kia_one W.kitx_str I.kIn True.intro e (λz=>nomatch z) h
 | flt y=>obtain⟨t,q⟩:=(show ∃t,u=Value.float y t from d);cases q;exact W.kia_one W.kitx_float I.kIn True.intro e (λz=>nomatch z) h
 | @lst a g ea =>
  cases (show u=Value.ref a from d);obtain⟨_,_,n,_,f⟩:=(show ObjOk X.prog X.w H s.heap a (.lst g) from I.hok a _ ea)
  exact W.kia_one W.kitx_list I.kIn ⟨_,f,rfl⟩ e (λz=>nomatch z) h
 | @frz a ob g ea =>
  cases (show u=Value.ref a from d);obtain⟨_,_,_,n,_,f⟩:=(show ObjOk X.prog X.w H s.heap a (.frz ob (.lst g)) from I.hok a _ ea)
  exact W.kia_one W.kitx_list I.kIn ⟨_,f,rfl⟩ e (λz=>nomatch z) h
 | @tup a g ea =>
  cases (show u=Value.ref a from d);obtain⟨_,_,_,p⟩:=(show ObjOk X.prog X.w H s.heap a (.tup g) from I.hok a _ ea)
  obtain⟨o,f,j,_⟩:=p;exact W.kia_one W.kitx_tuple I.kIn ⟨o,f,j⟩ e (λz=>nomatch z) h
 | @dK a kvs ea =>
  cases (show u=Value.ref a from d);obtain⟨_,_,v,_,p⟩:=(show ObjOk X.prog X.w H s.heap a (.dK kvs) from I.hok a _ ea)
  obtain⟨o,l,m,f,j,_⟩:=p;exact W.kia_one W.kitx_dict I.kIn ⟨o,f,j.1⟩ e (λz=>nomatch z) h
 | @dT a kvs ea =>
  cases (show u=Value.ref a from d);obtain⟨_,_,g,_,o,l,m,f,j,_⟩:=(show ObjOk X.prog X.w H s.heap a (.dT kvs) from I.hok a _ ea)
  exact W.kia_one W.kitx_dict I.kIn ⟨o,f,j.1⟩ e (λz=>nomatch z) h
 | @ins a C dx fs ea cl ha hn htk hm =>
  cases (show u=Value.ref a from d);obtain⟨r,O,_⟩:=tD I.hok ea;obtain⟨w,J,_⟩:=O.look;exact W.kia_one (W.kitx_own (cl.get _) cl.hd ha hn htk hm) I.kIn J e (λz=>nomatch z) h
end
structure Room (k:Nat) (A:Around):Prop where
 hd:A.handled=none
 dp:A.depth+3 * k+5<recursionLimit
 un:A.units+16 * k+200<cLine
 gd:A.guards=some []
theorem Room.mono (r:Room k A) (h:j<=k):Room j A:=⟨r.hd,by have:=r.dp;omega,by have:=r.un;omega,r.gd⟩
theorem Room.deeper (r:Room (k+1) A) (env:Env):Room k (A.deeper env) :=
 ⟨r.hd,by have:=r.dp;show A.depth+1+3 * k+5<_;omega,by have:=r.un;show A.units+3+16 * k+200<_;omega,r.gd⟩
theorem Room.in1 (r:Room (k+1) A):Room k A.in1 :=
 ⟨r.hd,by have:=r.dp;show A.depth+3 * k+5<_;omega,by have:=r.un;show A.units+1+16 * k+200<_;omega,r.gd⟩
theorem Room.depth (r:Room k A):A.depth<recursionLimit:=by have:=r.dp;omega
theorem Room.units (r:Room k A):A.units+64<cLine:=by have:=r.un;omega
def gH:TA:=λ_ H Q=>Q [] H
def cq (ta:TE) (tr:TA):TA:=λσ H Q=>ta σ H λx H1=>tr σ H1 λxs H2=>Q (x::xs) H2
section
variable {X:Cx}{e:Expr}{es:List Expr}{te:TE}{t:TA}{pos:Pos}
theorem ab:PA X [] gH:=λ_ _ _ _ H Q I h=>Calls.spliced_nil ⟨[],H,I,.nil,h⟩
theorem aa (r:PE X e te) (i:PA X es t) (d:starEach (e::es) X.env=(false,eval e X.env)::starEach es X.env:=by rfl):PA X (e::es) (cq te t):=by
 intro b a s c H Q I h;rw[d];show wpAny _ _ (spliced ((false,eval e X.env)::backTo b (starEach es X.env))) _ _ s;refine Calls.spliced_cons (thn (r a s c H _ I h) λu g ⟨x,f,m,n,p⟩=>?_);exact thn (i b a g c f _ m p) λv w ⟨l,o,k,q,j⟩=>⟨x::l,o,k,.cons n q,j⟩
def tTup (t:TA):TE:=λσ H Q=>t σ H λxs H1=>xs.length<=sizeLine/\∀p,H1 p=none->Q (.ref p) (upd H1 p (.tup xs))
def uK (t:TA):TE:=λσ H Q=>t σ H λxs H1=>xs.length<=sizeLine/\∀p,H1 p=none->Q (.ref p) (upd H1 p (.lst xs))
theorem aN {x1}(h:PA X es t):PE X (.Tuple es x1 pos) (tTup t):=by
 intro a s l H Q I k;refine wpAny_Tuple_spliced (thn (h pos a s l H _ I k) λg c ⟨j,d,f,r,z,q⟩=>⟨by rw[<- r.length];exact z,?_⟩);have i:d c.heap.objs.size=none:=f.hok.fresh (wr _);refine⟨.ref c.heap.objs.size,upd d c.heap.objs.size (.tup j),f.laid (t':=c.toks) (λb u e=>wD _ e) (wr _) ?_,rfl,q _ i⟩;exact⟨z,g,r,⟨_,wQ _ rfl,rfl,_,rfl,rfl⟩⟩
theorem bh (h:PA X es t):PE X (.List es pos) (uK t):=by
 intro a s l H Q I k;refine wpAny_List_spliced (thn (h pos a s l H _ I k) λg c ⟨j,d,f,r,z,q⟩=>⟨by rw[<- r.length];exact z,?_⟩);have i:d c.heap.objs.size=none:=f.hok.fresh (wr _);refine⟨.ref c.heap.objs.size,upd d c.heap.objs.size (.lst j),f.laid (t':=c.toks) (λb u e=>wD _ e) (wr _) ?_,rfl,q _ i⟩;exact⟨z,g,0,r,wQ _ rfl⟩
end
abbrev Sp:=LV->Hp->VK->XK->Prop
abbrev CXT:=List Env->Hp->Shared->XK->QS
structure Env0 (P:Program) (w:World) (K:W.Frag) (mg:MS) (base:Heap) (A:Around) (outer:List Env) (s:Shared) (H:Hp):Prop where
 frames:A.frames=some outer
 mod:Mod K mg base
 bs:∀b o,base.get? b=some o->s.heap.get? b=some o/\H b=none
 bsz:base.objs.size<=s.heap.objs.size
 funs:s.heap.FunFrames base outer
 frf:∀b∈frs outer,H b=none
 hok:HOk P w H s.heap
 bare:AllBare s.gens
def CE (outer:List Env) (P:Program) (w:World) (H:Hp) (s:Shared) (Q:VK) (u:Value) (s':Shared):Prop :=
 ∃v H',s'.os=s.os/\AllBare s'.gens/\Un (frs outer) [] H H' s.heap s'.heap/\HOk P w H' s'.heap/\RelV v u/\Q v H'
def CR (CX:CXT) (outer:List Env) (P:Program) (w:World) (H:Hp) (s:Shared) (Q:VK) (E:XK) (r:Result) (s':Shared):Prop :=
 match r with
 | .ok (.ret u)=>CE outer P w H s Q u s'
 | .ok _=>False
 | .error e=>CX outer H s E e s'
structure FnOk (P:Program) (w:World) (K:W.Frag) (mg:MS) (base:Heap) (CX:CXT) (k:Nat) (f:Addr) (fd:FuncData) (ps:LS) (sp:Sp):Prop where
 len:∀vs H Q E,sp vs H Q E->vs.length=ps.length
 run:∀(A:Around) (outer:List Env) (s:Shared) (H:Hp) (args:Args) (us:List Value) (vs:LV) (Q:VK) (E:XK),Room k A->Env0 P w K mg base A outer s H->BindsTo s fd args (ps.zip us)->Vals vs us->sp vs H Q E ->
  codeAny (model P w) A (.call (.ref f) args) (CR CX outer P w H s Q E) s
theorem Env0.in1 {P:Program}{w:World}{K:W.Frag}{mg:MS}{base:Heap}{A:Around}{q:List Env}{s:Shared}{H:Hp}(e:Env0 P w K mg base A q s H) :
    Env0 P w K mg base A.in1 q s H:=⟨e.frames,e.mod,e.bs,e.bsz,e.funs,e.frf,e.hok,e.bare⟩
section
variable {X:Cx}{pins:AO_}{σ:St}{H:Hp}{s s':Shared}
theorem Inv.env0 (I:Inv X pins σ H s):Env0 X.prog X.w X.K X.mg X.base X.A X.stack s H :=
 ⟨I.ok.frames,I.ok.mod,I.bs,wM I.ok.bsz I.sz,I.stack,I.stkFree,I.hok,I.bare⟩
theorem Inv.after (I:Inv X pins σ H s) (h:CE X.stack X.prog X.w H s Q u s'):EP X pins σ Q u s':=by
 obtain⟨v,f,j,a,k,c,r,q⟩:=h;obtain⟨i,g,d,t,e⟩:=s';obtain rfl:e=s.os:=j;exact⟨v,f,I.call (h':=i) (g':=g) (d':=d) (t':=t) (ch:=[]) k c a (λb z=>absurd z (by simp)),r,q⟩
end
def oj (sp:Sp) (dvs:LV) (E:XK) (t:TA):TE:=λσ H Q=>t σ H λvs H1=>sp (vs++dvs) H1 Q E
def Binds (K:W.Frag) (fd:FuncData) (ps:LS) (ds:List Value):Prop :=
 ∀(s:Shared) (us:List Value),K.In s.heap->(us++ds).length=ps.length->BindsTo s fd ⟨us,[]⟩ (ps.zip (us++ds))
theorem Binds.all {K:W.Frag}{fd:FuncData}{ps:LS}(h:∀us:List Value,us.length=ps.length->bindArgs fd ⟨us,[]⟩=pure (ps.zip us)):Binds K fd ps []:=λs us _ a=>by
 rw[xa] at a ⊢;exact .of_eq (h us a)
def kX (CX:CXT) (X:Cx) (E:XK):Prop:=∀(pins:AO_) (σ:St) (H:Hp) (s:Shared) (e:Value) (s':Shared),Inv X pins σ H s->CX X.stack H s E e s'->X.xe e s'
section
variable {X:Cx}{CX:CXT}{k:Nat}{f C:Addr}{fd:FuncData}{ps:LS}{sp:Sp}{dvs:LV}{ds:List Value}{E:XK}{x m:Str}{p pos apos:Pos}{e o:Expr}{es:List Expr}{ta:TE}{t:TA}
theorem uM (F:FnOk X.prog X.w X.K X.mg X.base CX k f fd ps sp) (i:Room k X.A) (g:Binds X.K fd ps ds) (c:Vals dvs ds) (j:kX CX X E)
    (I:Inv X pins σ H s) (r:Vals q us) (h:sp (q++dvs) H Q E):wpAny (model X.prog X.w) X.A (call (.ref f) us) (EP X pins σ Q) X.xe s:=by
 have b:Vals (q++dvs) (us++ds):=r.append c;have d:(us++ds).length=ps.length:=by rw[<- b.length];exact F.len _ _ _ _ h
 refine wpAny_call (codeAny_mono (F.run X.A X.stack s H ⟨us,[]⟩ (us++ds) (q++dvs) Q E i I.env0 (g s us I.kIn d) b h) λr l a=>?_);cases r with
 | error e=>exact j pins σ H s e l I a
 | ok fl =>
  cases fl with
  | ret u=>exact I.after a
  | next=>exact False.elim a
  | brk=>exact False.elim a
  | cont=>exact False.elim a
theorem tH (F:FnOk X.prog X.w X.K X.mg X.base CX k f fd ps sp) (g:Room k X.A) (j:Gl X x) (d:X.mg x=some (.ref f)) (n:W.keepIn X.K (.ref f)=true) (l:Binds X.K fd ps ds) (c:Vals dvs ds) (i:kX CX X E)
    (o:PA X (e::es) t) (hdb:(x==("__debug__":Str))=false:=by decide) (he:starEach (e::es) X.env=(false,eval e X.env)::starEach es X.env:=by rfl) (hpl:(backTo pos (starEach es X.env)).any (·.1)=false:=by rfl) :
    PE X (.Call (.Name x p) (e::es) [] pos) (oj sp dvs E t):=by
 intro a s m H Q I h;refine wpAny_Call_Name_kw (sx I j d ?_ hdb);refine W.callWith_K (h₀:=X.base) I.ok.mod.kin n (thn (o pos a s m H _ I h) λu w ⟨y,v,b,r,q⟩=>⟨b.kIn,?_⟩) he hpl;exact uM F g l c i b r q
end
def PK (X:Cx) (kws:List Keyword) (t:TA):Prop :=
 ∀(pos:Pos) (pins:AO_) (s:Shared) (σ:St) (H:Hp) (Q:LV->Hp->Prop),Inv X pins σ H s->t σ H Q->wpAny (model X.prog X.w) X.A (evalAll ((backToKw pos (keywordEach kws X.env)).map (·.2))) (AP X pins σ Q) X.xe s
section
variable {X:Cx}{CX:CXT}{k:Nat}{f C:Addr}{fd:FuncData}{ps ks:LS}{sp:Sp}{E:XK}{x m:Str}{p pos apos kpos:Pos}{e o:Expr}{es:List Expr}{kws:List Keyword}{te ta:TE}{t tk:TA}{nm:Option Str}
theorem vk:PK X [] gH:=λ_ _ _ _ H Q I h=>wpAny_evalAll_nil ⟨[],H,I,.nil,h⟩
theorem sG (q:PE X e te) (g:PK X kws t):PK X (⟨nm,e,kpos⟩::kws) (cq te t):=by
 intro b a s c H Q I h;show wpAny _ _ (evalAll ((do let v ← eval e X.env;standAt b;pure v)::(backToKw b (keywordEach kws X.env)).map (·.2))) _ _ s;refine wpAny_evalAll_cons (wq (thn (q a s c H _ I h) λu f ⟨x,d,l,m,o⟩=>wq (wpAny_standAt (wu ?_))));exact thn (g b a f c d _ l o) λr w ⟨k,n,j,p,i⟩=>⟨x::k,n,j,.cons m p,i⟩
variable {g:List Value->List Value->List Value}{gV:LV->LV->LV}
end
structure FnScope (N P:LS) (sc:Scope):Prop where
 kind:sc.kind=.function
 co:sc.isCoroutine=false
 gen:sc.isGenerator=false
 nd:N.Nodup
 pre:N.take P.length=P
 par:∀x∈P,sc.names.lookup x=some .local∨sc.names.lookup x=some .cell
 nofree:∀y∈sc.names,y.2≠.free
theorem jY {kindOf:Str -> Option NameKind}{x:Str}:∀ {binds:List (Str × Value)}{m:Str -> OV}, (∀v, (x, v) ∉ binds) -> bindL kindOf binds m x=m x
 | [],_,_=>rfl
 | (n,v)::r,m,h=>by
  unfold bindL;rw[jY λw hw=>h w (wY _ hw)]
  split
  ·have:x≠n:=by rintro rfl;exact h v xI
   simp[this]
  ·rfl
theorem jT {kindOf:Str -> Option NameKind}{x:Str}:∀ {binds:List (Str × Value)}{m:Str -> OV}, (∀v, (x, v) ∉ binds) -> bindC kindOf binds m x=m x
 | [],_,_=>rfl
 | (n,v)::r,m,h=>by
  unfold bindC;rw[jT λw hw=>h w (wY _ hw)]
  split
  ·rfl
  ·have:x≠n:=by rintro rfl;exact h v xI
   simp[this]
theorem jV {kindOf:Str->Option NameKind}{x:Str}:∀ {P:LS}{vs:List Value}{i:Nat}{m:MS},P.Nodup->P[i]? = some x->vs[i]? = some v->kindOf x=some .local ->
    bindL kindOf (P.zip vs) m x=some v
 | [],_,_,_,_,h,_,_=>by simp at h
 | _::_,[],_,_,_,_,h,_=>by simp at h
 | p::P,w::vs,0,m,nd,h1,h2,hk=>by
  simp at h1 h2;subst h1;subst h2;show bindL kindOf ((p,w)::P.zip vs) m p=_;unfold bindL;rw[jY λv hv=>(xf.mp nd).1 (List.of_mem_zip hv).1,if_pos hk];simp
 | p::P,w::vs,i+1,m,nd,h1,h2,hk=>by
  show bindL kindOf ((p,w)::P.zip vs) m x=_;unfold bindL;exact jV (i:=i) (xf.mp nd).2 (by simpa using h1) (by simpa using h2) hk
theorem jD {kindOf:Str->Option NameKind}{x:Str}:∀ {P:LS}{vs:List Value}{i:Nat}{m:MS},P.Nodup->P[i]? = some x->vs[i]? = some v->kindOf x≠some .local ->
    bindC kindOf (P.zip vs) m x=some v
 | [],_,_,_,_,h,_,_=>by simp at h
 | _::_,[],_,_,_,_,h,_=>by simp at h
 | p::P,w::vs,0,m,nd,h1,h2,hk=>by
  simp at h1 h2;subst h1;subst h2;show bindC kindOf ((p,w)::P.zip vs) m p=_;unfold bindC;rw[jT λv hv=>(xf.mp nd).1 (List.of_mem_zip hv).1,if_neg hk];simp
 | p::P,w::vs,i+1,m,nd,h1,h2,hk=>by
  show bindC kindOf ((p,w)::P.zip vs) m x=_;unfold bindC;exact jD (i:=i) (xf.mp nd).2 (by simpa using h1) (by simpa using h2) hk
def start (N:LS) (vs:LV):St:=vs.map some++List.replicate (N.length-vs.length) none
def ie (CX:CXT) (P:Program) (w:World) (K:W.Frag) (mg:MS) (base:Heap) (N:LS) (qual:Str) (scope:Scope) (f:Addr) (cd:Value) (A:Around) (outer:List Env) (s:Shared) (H:Hp) (E:XK):Cx where
 prog:=P
 w:=w
 K:=K
 mg:=mg
 base:=base
 A:=A.deeper (envOfC qual scope s.heap.objs.size f cd)
 N:=N
 s₀:=s
 H₀:=H
 env:=envOfC qual scope s.heap.objs.size f cd
 outer:=outer
 stack:=envOfC qual scope s.heap.objs.size f cd::outer
 ex:=[]
 calm:=true
 fn:=λ_=>true
 pn:=[]
 xe:=λe s'=>wpAny (model P w) (A.deeper (envOfC qual scope s.heap.objs.size f cd)) (leaving (envOfC qual scope s.heap.objs.size f cd) e) (λ_ s''=>CX outer H s E e s'') (λe' s''=>CX outer H s E e' s'') s'
theorem ir {sc:Scope}{n:Nat}{x:Str}(h:sc.names.lookup x=some .cell):∃c,(cellsFrom n sc.names []).lookup x=some c:=by
 have q:=W.cellsFrom_some sc.names n [] (.inl h);exact xN.mp q
theorem oU {CX:CXT}{P:Program}{w:World}{K:W.Frag}{mg:Str -> OV}{base:Heap}{N ps:LS}{qual:Str}{scope:Scope}{f:Addr}{cd:Value}{A:Around}{B:List Env}{s s1:Shared}{H:Hp}{E:XK}{us:List Value}{G:LV}
    (S:FnScope N ps scope) (I:A.handled=none) (g:Env0 P w K mg base A B s H) (O:G.length=ps.length) (r:Vals G us)
    (x:InCallC s s.heap.objs.size (bindL (envOfC qual scope s.heap.objs.size f cd).kindOf (ps.zip us) λ_=>none) (cellsFrom (s.heap.objs.size+1) scope.names []) (bindC (envOfC qual scope s.heap.objs.size f cd).kindOf (ps.zip us) λ_=>none) s1) :
    Inv (ie CX P w K mg base N qual scope f cd A B s H E) [] (start N G) H s1:=by
 have J:ps.length<=N.length:=by have:=congrArg List.length S.pre;rw[xi] at this;omega
 obtain⟨t,Q,rfl,F⟩:=x.done;have l:∀b:Addr,b∉(ie CX P w K mg base N qual scope f cd A B s H E).ex:=λb z=>absurd (show b∈([]:List Addr) from z) (by simp);refine⟨⟨g.mod,S.kind,rfl,rfl,wr _,λy z c t d=>?_,λy j=>?_,λy c _ h=>?_,λ_=>I,Around.frames_deeper g.frames,.inr ⟨rfl,rfl⟩,λb z=>absurd z (l b),g.bs,g.bsz,λb _ _=>l b,λb z=>absurd z (l b),g.funs,g.frf⟩,
  rfl,g.bare,Un.kept F,⟨_,x.toInCall.ns,λi y v t d R=>?_⟩,λy c h=>⟨_,x.cell y c h⟩,g.hok.fresh (wr _),λy c h=>?_,λp m=>absurd (show p∈([]:AO_) from m) (by simp),g.hok.kept F,?_⟩
 ·exact name_of_addr x.apart (PySem.mem_of_lookup t) (PySem.mem_of_lookup d)
 ·have j:scope.names.lookup y=some .cell∨scope.names.lookup y=some .free:=j;rcases j with j | j
  ·exact ir j
  ·exact absurd rfl (S.nofree _ (PySem.mem_of_lookup j))
 ·exact xA (x.above y c (PySem.mem_of_lookup h))
 ·have C:i<G.length := by
     unfold start at d;by_cases C:i<G.length
     ·exact C
     ·rw[xX (by simpa using C)] at d;rw[List.getElem?_replicate] at d
      split at d <;> cases d
  have M:G[i]? = some v:=by
   unfold start at d;rw[xY (by simpa using C),wN] at d;cases e:G[i]? with
   | none=>rw[e] at d;cases d
   | some a=>rw[e] at d;cases d;rfl
  obtain⟨u,D,L⟩:=r.get M;have m:ps[i]? = some y:=by rw[<- S.pre,List.getElem?_take_of_lt (by omega)];exact t
  have o:ps.Nodup:=by rw[<- S.pre];exact S.nd.sublist (List.take_sublist _ _)
  refine⟨u,L,?_⟩;rcases S.par y (wE m) with k | k
  ·exact .inl ⟨k,jV o m D k⟩
  ·obtain⟨c,e⟩:=ir (n:=s.heap.objs.size+1) k;refine .inr ⟨.inl k,c,e,?_⟩;have q:=x.cell y c e;rw[jD o m D (by show scope.names.lookup y≠_;rw[k];decide)] at q;exact q
 ·exact g.hok.fresh (xA (x.above y c (PySem.mem_of_lookup h)))
 ·unfold start;show _=N.length;rw[wB,wt,List.length_replicate];omega
theorem rQ {CX:CXT}{P:Program}{w:World}{K:W.Frag}{mg:Str -> OV}{base:Heap}{k:Nat}{f:Addr}{name qual:Str}{G:Arguments}{O:List Stmt}{scope:Scope}{dV kV Y pm B ct oc:Value}{an od:Option Addr}
    {a0:Array (OV)} {N ps:LS} {sp:Sp} (lk:K.lookup f=some ⟨oc,od,.func (W.fnOf name qual G O scope dV kV Y pm an B ct),a0⟩) (p:W.codeIn K B qual=true) (S:FnScope N ps scope)
    (h:∀U H Q E,sp U H Q E->U.length=ps.length)
    (c:∀(A:Around) (z:List Env) (s:Shared) (H:Hp) (U:LV) (Q:VK) (E:XK),Room k (A.deeper (envOfC qual scope s.heap.objs.size f B))->sp U H Q E ->
     ∃t,PSs (ie CX P w K mg base N qual scope f B A z s H E) O t/\t { nx:=λ_ H'=>Q .non H',rt:=Q } (start N U) H) :
    FnOk P w K mg base CX (k+1) f (W.fnOf name qual G O scope dV kV Y pm an B ct) ps sp:=by
 refine⟨h,λA z s H R X U Q E m i hb r l=>?_⟩;have T:=h _ _ _ _ l;have M:K.In s.heap:=i.mod.kin.keeps λb o e=>(i.bs b o e).1;have D:s.heap.NoLimit:=i.mod.nolimit.keeps λb o e=>(i.bs b o e).1;have d:∀y∈ps.zip X,scope.names.lookup y.1=some .local∨(scope.names.lookup y.1=some .cell/\((cellsFrom (s.heap.objs.size+1) scope.names []).lookup y.1).isSome=true):=λ⟨n,v⟩ hy=>by
  rcases S.par n (List.of_mem_zip hy).1 with q | q
  ·exact .inl q
  ·exact .inr ⟨q,W.cellsFrom_some _ _ _ (.inl q)⟩
 refine codeAny_call_function m.depth (M _ _ lk) rfl S.co S.gen rfl (W.codeRec_of M p) (hb _ _ _ _ ?_);refine wpAny_newFunctionEnv_cells S.kind d λa1 he L x=>?_;subst he;refine⟨D.keeps x.toInCall.keep,codeAny_func ?_⟩;obtain⟨t,Z,hq⟩:=c A z s H U Q E (m.deeper _) l;have I:Inv (ie CX P w K mg base N qual scope f B A z s H E) [] (start N U) H L:=oU S m.hd i T r x;refine xl (Z [] L (start N U) H _ I hq) (λfl C g=>?_) λe C g=>g;have j:∀ {a:St} {H':Hp} {v:V} {u:Value},Inv (ie CX P w K mg base N qual scope f B A z s H E) [] a H' C->RelV v u->Q v H'->CE z P w H s Q u C :=
  λ{a H' v u} J F q=>⟨v,H',J.os,J.bare,J.base,J.hok,F,q⟩
 cases fl with
 | ret u =>
  obtain⟨v,a,H',J,F,q⟩:=g;exact j J F q
 | next =>
  obtain⟨a,H',J,q⟩:=g;exact j (v:=V.non) (u:=Value.none) J rfl q
 | brk =>
  obtain⟨_,_,_,q⟩:=g;exact False.elim q
 | cont =>
  obtain⟨_,_,_,q⟩:=g;exact False.elim q
section
variable {X:Cx}{x:Str}{p pos:Pos}{e:Expr}{es:List Expr}{t:TA}{id T:String}{r:LV->Hp->VK->Prop}
def tCB (r:LV->Hp->VK->Prop) (t:TA):TE:=λσ H Q=>t σ H λvs H1=>r vs H1 Q
theorem fD (k:dS X (.builtin id) r) (j:Gl X x) (i:X.mg x=none) (l:bootBuiltins x=some (.builtin id)) (u:PA X (e::es) t) (g:x≠"__name__":=by decide) (hdb:(x==("__debug__":Str))=false:=by decide)
    (he:starEach (e::es) X.env=(false,eval e X.env)::starEach es X.env:=by rfl) (hpl:(backTo pos (starEach es X.env)).any (·.1)=false:=by rfl):PE X (.Call (.Name x p) (e::es) [] pos) (tCB r t):=by
 intro a s b H Q I h;refine wpAny_Call_Name_kw (dE I j i l ?_ g hdb);exact PyProof.Rows.callWith_builtin1 (thn (u pos a s b H _ I h) λc f ⟨q,d,m,n,o⟩=>k a f b d q c Q m n o) he hpl
theorem eR (k:dS X (.type T) r) (j:Gl X x) (i:X.mg x=none) (l:bootBuiltins x=some (.type T)) (u:PA X (e::es) t) (g:x≠"__name__":=by decide) (hdb:(x==("__debug__":Str))=false:=by decide)
    (he:starEach (e::es) X.env=(false,eval e X.env)::starEach es X.env:=by rfl) (hpl:(backTo pos (starEach es X.env)).any (·.1)=false:=by rfl):PE X (.Call (.Name x p) (e::es) [] pos) (tCB r t):=by
 intro a s b H Q I h;refine wpAny_Call_Name_kw (dE I j i l ?_ g hdb);exact PyProof.Rows.callWith_type1 (thn (u pos a s b H _ I h) λc f ⟨q,d,m,n,o⟩=>k a f b d q c Q m n o) he hpl
end
end L2
namespace HT
open PySem PyProof.Rows
def lexLt:List Int->List Int->Bool
 | [],[]=>false
 | [],_::_=>true
 | _::_,[]=>false
 | x::xs,y::ys=>if x=y then lexLt xs ys else decide (x<y)
theorem lexLt_cons (x y:Int) (xs ys:List Int):lexLt (x::xs) (y::ys)=if x=y then lexLt xs ys else decide (x<y):=rfl
theorem jZ:lexLt [] []=false:=rfl
theorem jd (y:Int) (ys:List Int):lexLt [] (y::ys)=true:=rfl
theorem jn (x:Int) (xs:List Int):lexLt (x::xs) []=false:=rfl
theorem qY (A:Around) (s:Shared) (a:Int) (t:Tok) (c:Int) (u:Tok):∃e,SeqAt.EqAt A s (.int a t) (.int c u) e/\(e=true ↔ a=c) :=
 ⟨(a==c),SeqAt.EqAt.int_int a t c u,by simp⟩
theorem qL (A:Around) (s:Shared) (a:Int) (t:Tok) (c:Int) (u:Tok) (prog:Program) (w:World) (E:QS) (Q:QS) (h:Q (.bool (decide (a<c))) s) :
    wpAny (model prog w) A (richCompare .Lt (.int a t) (.int c u)) Q E s :=
 (PyProof.Rows.lt_int h:wpAny (model prog w) A (compareOp .Lt (.int a t) (.int c u)) Q E s)
section
open PySem.SeqAt
open PySem.AutoSeq1 (wpAny_loadPart')
open PySem.MeetsSeq PySem.MeetsSeq2 PySem.MeetsSeq3
theorem ke (l b:Addr) (items items2:Array Value) (n n2:Nat) (dd dd2:Option Addr) (sl sl2:Array (OV)) (ns G:List Int) (L:IntsAre items.toList ns) (N:IntsAre items2.toList G) :
    Meets (Builtin.«tuple.__lt__» ⟨[.ref l,.ref b],[]⟩)
     (λ_ R s=>s.heap.get? l=some { cls:=.type "tuple",dict:=dd,data:=.seq items n,slots:=sl }/\s.heap.get? b=some { cls:=.type "tuple",dict:=dd2,data:=.seq items2 n2,slots:=sl2 } /\
      R (.ok (.ret (.bool (lexLt ns G)))) s) :=
 .of_wp λr w A R s h => by
  obtain⟨D,g,d,F,E⟩:=s;obtain⟨O,S,h⟩:=h;have W:=AutoSeq1.sub_tuple_tuple;have V:items.size=ns.length:=by rw[<- L.length];simp
  have U:items2.size=G.length:=by rw[<- N.length];simp
  wp_walk using wpAny_loadPart' O,wpAny_loadPart' S,wpAny_forIn_list _ (λaU b J=>b.1=none/\J=⟨D,g,d,F,E⟩/\∃(H C:List Value) (i j:List Int),aU=H.zip C /\
   IntsAre H i/\IntsAre C j/\i.length+items2.size=j.length+items.size/\R (.ok (.ret (.bool (lexLt i j)))) ⟨D,g,d,F,E⟩) _
  case turn =>
   rintro⟨y,x⟩ aU b J ⟨z,rfl,H,C,i,j,k,v,m,f,o⟩;cases v with
   | nil=>rw[List.zip_nil_left] at k;cases k
   | cons a t hvi' =>
    cases m with
    | nil=>rw[List.zip_nil_right] at k;cases k
    | cons c u hwi' =>
     rw[List.zip_cons_cons] at k;injection k with I B;injection I with P Q;subst P Q;rw[lexLt_cons] at o;simp only[wC] at f;obtain⟨e,T,p⟩:=qY A.in1 ⟨D,g,d,F,E⟩ a t c u;refine wq (T r w _ _ ?_);cases e with
     | true =>
      rw[if_pos (p.mp rfl)] at o
      wp_walk
      exact⟨rfl,rfl,_,_,_,_,B,hvi',hwi',by omega,o⟩
     | false =>
      rw[if_neg (λq=>absurd (p.mpr q) wZ)] at o;have K:=qL A.in1 ⟨D,g,d,F,E⟩ a t c u r w
      wp_walk using K
      exact⟨_,rfl,by simpa using o⟩
  case fin =>
   rintro⟨Y,X⟩ J ⟨z,rfl,H,C,i,j,k,v,m,f,o⟩;simp only at z;subst z;have M:lexLt i j=decide (items.size<items2.size) := by
    cases v with
    | nil =>
     cases m with
     | nil =>
      simp only[xk] at f;rw[jZ];exact(wX (by omega)).symm
     | cons c u hw =>
      simp only[xk,wC] at f;rw[jd];exact(wF (by omega)).symm
    | cons a t M =>
     cases m with
     | nil =>
      simp only[xk,wC] at f;rw[jn];exact(wX (by omega)).symm
     | cons c u hw =>
      rw[List.zip_cons_cons] at k;cases k
   rw[M] at o
   wp_walk
   exact⟨_,rfl,by simpa [Builtin.Tuple.tupleCompareSizes] using o⟩
  case h =>
   exact⟨rfl,rfl,items.toList,items2.toList,ns,G,rfl,L,N,by omega,h⟩
end
section
variable {prog:Program}{w:World}{A:Around}{E:QS}{s:Shared}
theorem lt_tupInts (p:IsTup s.heap l items) (B:IsTup s.heap b q) (u:IntsAre items.toList ns) (C:IntsAre q.toList z)
    (v:A.units<cLine) (h:Q (.bool (lexLt ns z)) s):wpAny (model prog w) A (compareOp .Lt (.ref l) (.ref b)) Q E s:=by
 obtain⟨⟨t,y,o,D⟩,i,m,n,k⟩:=id p;obtain⟨⟨j,f,g,e⟩,d,c,r,a⟩:=id B;simp only at m k c a;subst m k c a;exact richCompare_meets_room (op:=.Lt) ⟨_,i,rfl⟩ ⟨_,d,rfl⟩ PySem.F.slot_tuple_lt PySem.F.entry_tuple_lt (PySem.F.args_tuple_lt_2 _ _) (ke l b items q n r y f D e ns z u C)
  ⟨i,d,show Value.bool (lexLt ns z)≠Value.notImplemented/\Q (.bool (lexLt ns z)) s from⟨(λx=>nomatch x),h⟩⟩ v
theorem cat_tup (u:IsTup s.heap t vs.toArray) (x:IsTup s.heap b ws.toArray) (q:vs ≠ [])
    (v:ws=[]->Q (.ref t) s) (h2:ws≠[]->Q (.ref s.heap.objs.size) { s with heap:=s.heap.push { cls:=.type "tuple",data:=.seq (vs++ws).toArray } })
    (hsz:vs.length+ws.length<=sizeLine):wpAny (model prog w) A (binaryOp .Add (.ref t) (.ref b)) Q E s:=by
 obtain⟨⟨cls,o,data,r⟩,i,p,n,l⟩:=id u;obtain⟨⟨k,g,j,f⟩,a,d,m,c⟩:=id x;simp only at p l d c;subst p l d c;have e:vs.toArray++ws.toArray=(vs++ws).toArray:=by simp
 by_cases h:ws=[]
 ·exact concat_meets ⟨_,i,rfl⟩ ⟨_,a,rfl⟩ noFill_tuple_add seq_tuple_add PySem.F.slot_tuple_add PySem.F.entry_tuple_add (PySem.F.args_tuple_add_2 _ _)
     (tuple_addW1 t b vs.toArray ws.toArray n m o g r f (by simpa using q) (by simp[h])) ⟨i,a,v h⟩
 ·refine concat_meets ⟨_,i,rfl⟩ ⟨_,a,rfl⟩ noFill_tuple_add seq_tuple_add PySem.F.slot_tuple_add PySem.F.entry_tuple_add (PySem.F.args_tuple_add_2 _ _)
     (tuple_addW2 t b vs.toArray ws.toArray n m o g r f (by simpa using q) (by simpa using h) (by rw[wT,wT];exact hsz)) ⟨i,a,?_⟩
  rw[e];exact h2 h
def sIx (n d:Nat):Option Int->Nat
 | none=>d
 | some v=>if v<0 then (v+(n:Int)).toNat else min v.toNat n
theorem sIx_none (n d:Nat):sIx n d none=d:=rfl
theorem sIx_nat (n d k:Nat):sIx n d (some (k:Int))=min k n:=by
 show (if (k:Int)<0 then ((k:Int)+(n:Int)).toNat else min (k:Int).toNat n)=min k n;rw[if_neg (by omega),xZ]
theorem vo (n d:Nat) (b:d<=n) (o:Option Int):sIx n d o<=n:=by
 cases o with
 | none=>exact b
 | some v =>
  show (if v<0 then (v+(n:Int)).toNat else min v.toNat n)<=n;by_cases a:v<0
  ·rw[if_pos a];omega
  ·rw[if_neg a];exact Nat.min_le_right _ _
theorem mI (v:Int) (n d:Nat):(if v<0 then max (v+(n:Int)) 0 else min v (n:Int))=((sIx n d (some v):Nat):Int):=by
 show (if v<0 then max (v+(n:Int)) 0 else min v (n:Int))=(((if v<0 then (v+(n:Int)).toNat else min v.toNat n):Nat):Int)
 by_cases a:v<0
 ·simp only[if_pos a];omega
 ·simp only[if_neg a];omega
theorem oo (a b:Option Int) (n:Nat):Builtin.Slice.sliceAdjust a b 1 (n:Int)=(((sIx n 0 a:Nat):Int),((sIx n n b:Nat):Int)):=by
 have c:¬ ((1:Int)<0):=by omega
 unfold Builtin.Slice.sliceAdjust;simp only[c,if_false];refine Prod.ext ?_ ?_
 ·cases a with
  | none=>rfl
  | some v=>exact mI v n 0
 ·cases b with
  | none=>rfl
  | some v=>exact mI v n n
theorem nH (i j:Nat):Builtin.Slice.slicePlaces (i:Int) (j:Int) 1=j-i:=by
 unfold Builtin.Slice.slicePlaces;have a:(1:Int) > 0:=by omega
 simp only[a,if_true,Int.ediv_one]
 split <;> omega
theorem iJ (p:IsPart v o) (h:Q o s):wpAny (model prog w) A (Builtin.Slice.slicePartIndex v) Q E s:=by
 cases p with
 | none=>exact slicePart_none h
 | int i t=>exact slicePart_int h
theorem fE {lo hi:Option Int}{n:Nat}{Q:Int × Int × Nat->Shared->Prop}(c:s.heap.IsSliceOf B z q .none) (f:IsPart z lo) (e:IsPart q hi)
    (h:Q (((sIx n 0 lo:Nat):Int),1,sIx n n hi-sIx n 0 lo) s):wpAny (model prog w) A (Builtin.Slice.sliceApplied (.ref B) (pure (n:Int))) Q E s:=by
 obtain⟨g,a,d,b⟩:=id c;unfold Builtin.Slice.sliceApplied Builtin.Slice.sliceFields;refine wq (wq (xg a b (x:=z) rfl (wq (xg a b (x:=q) rfl (wq (xg a b (x:=.none) rfl (wu ?_)))))));refine wq (slicePart_none ?_);show wpAny _ _ (if ((1:Int)==0)=true then _ else _) _ _ s;rw[if_neg (by decide)];refine wq (iJ f (wq (iJ e (wq (wu ?_)))));show wpAny _ _ (match Builtin.Slice.sliceAdjust lo hi 1 (n:Int) with | (lo,hi)=>pure (lo,(1:Int),Builtin.Slice.slicePlaces lo hi 1)) _ _ s;rw[oo lo hi n];show wpAny _ _ (pure (((sIx n 0 lo:Nat):Int),(1:Int),Builtin.Slice.slicePlaces ((sIx n 0 lo:Nat):Int) ((sIx n n hi:Nat):Int) 1)) _ _ s;rw[nH];exact wu h
theorem qP (xs:Array Value) (i k:Nat):((List.range k).filterMap λ(m:Nat)=>xs[((i:Int)+(m:Int) * 1).toNat]?).toArray=((xs.toList.drop i).take k).toArray:=by
 have e:(λ(m:Nat)=>xs[((i:Int)+(m:Int) * 1).toNat]?)=λm=>xs[i+m]?:=by
  funext m
  have:((i:Int)+(m:Int) * 1).toNat=i+m:=by omega
  rw[this]
 rw[e];have:=pick_run xs i k;rw[List.filterMap_map] at this;have a:((λx=>xs[x]?) ∘ λx=>i+x)=λm=>xs[i+m]?:=rfl;rw[a] at this;rw[this]
theorem getItem_tuple_cut {items:Array Value}{lo hi:Option Int}(b:IsTup s.heap t items) (g:s.heap.IsSliceOf z G B .none) (n:IsPart G lo) (k:IsPart B hi)
    (i:¬ (sIx items.size 0 lo=0/\sIx items.size items.size hi=items.size))
    (h:Q (.ref s.heap.objs.size) { s with heap:=s.heap.push { cls:=.type "tuple",data:=.seq ((items.toList.drop (sIx items.size 0 lo)).take (sIx items.size items.size hi-sIx items.size 0 lo)).toArray } })
    (hsz:items.size<=sizeLine):wpAny (model prog w) A (getItem (.ref t) (.ref z)) Q E s:=by
 have a:sizeOk (.seq ((items.toList.drop (sIx items.size 0 lo)).take (sIx items.size items.size hi-sIx items.size 0 lo)).toArray):=by
  show ((items.toList.drop (sIx items.size 0 lo)).take (sIx items.size items.size hi-sIx items.size 0 lo)).toArray.size<=sizeLine;rw[wT,xi,xO,xW];omega
 have r:sIx items.size items.size hi<=items.size:=vo _ _ (wr _) hi;obtain⟨l,c,e,j⟩:=id g;have f:s.TypeIs (.ref z) "slice":=⟨l,c,e⟩
 unfold getItem
 try with_reducible refine xh ?_
 first | refine wq (wu ?_) | skip
 refine wq (wpAny_sequenceKey b.typeIs (by decide) ?_);refine wq (wpAny_callSpecial?_slot (name:=Str.ofString "__getitem__") b.typeIs PyProof.Rows.slot_tuple_getitem
  (wpAny_call_entry PyProof.Rows.slot_tuple_getitem b.typeIs entry_tuple_getitem ?_ (args_tuple_getitem _ _)))
 show wpAny _ _ (Builtin.Tuple.tupleItemsOf (.ref t) >>= _) _ _ s;refine wq (tupleItemsOf_ b ?_);refine wq (wpAny_typeOf f ?_);rw[if_pos (by decide)];refine wq (fE g n k ?_);have d:¬ ((((sIx items.size 0 lo:Nat):Int)==0&&(1:Int)==1&&(sIx items.size items.size hi-sIx items.size 0 lo)==items.size)=true):=by
  intro q;rw[xj,xj] at q;have p:((sIx items.size 0 lo:Nat):Int)=0:=eq_of_beq q.1.1;have o:sIx items.size items.size hi-sIx items.size 0 lo=items.size:=eq_of_beq q.2;exact i ⟨by omega,by omega⟩
 show wpAny _ _ (if (((sIx items.size 0 lo:Nat):Int)==0&&(1:Int)==1&&(sIx items.size items.size hi-sIx items.size 0 lo)==items.size)=true then _ else _) _ _ s;rw[if_neg d,qP]
 first
  | exact wq (m:=Builtin.Tuple.tupleExact _) (wpAny_newObj_type (wu ⟨_,rfl,wu h⟩) a)
  | exact wq (m:=Builtin.Tuple.tupleExact _) (wpAny_newObj_type (wq (wu (wu ⟨_,rfl,wu h⟩))) a)
  | exact wq (wq (m:=Builtin.Tuple.tupleExact _) (wpAny_newObj_type (wu (wu ⟨_,rfl,wu h⟩)) a))
  | exact wq (wq (m:=Builtin.Tuple.tupleExact _) (wpAny_newObj_type (wu ⟨_,rfl,wu h⟩) a))
end
end HT
namespace L2
open PySem PySem.Spec PyProof.Rows
abbrev TO:=St->Hp->(Option Int->Hp->Prop)->Prop
def PO (X:Cx) (e:Option Expr) (t:TO):Prop :=
 ∀(pins:AO_) (s:Shared) (σ:St) (H:Hp) (Q:Option Int->Hp->Prop),Inv X pins σ H s->t σ H Q ->
  wpAny (model X.prog X.w) X.A (evalPart e X.env) (λu s'=>∃o H',Inv X pins σ H' s'/\IsPart u o/\Q o H') X.xe s
def sI:TO:=λ_ H Q=>Q none H
def vY (t:TE):TO:=λσ H Q=>t σ H λx H1=>∃i,x=.int i/\Q (some i) H1
theorem iN:∀ {us:List Value}, Vals (ns.map V.int) us -> IntsAre us ns := by
 induction ns with
 | nil=>intro us r;rw[List.map_nil] at r;cases r;exact .nil
 | cons n ns ih =>
  intro us r;rw[xb] at r;cases r with
  | cons r1 r2 =>
   obtain⟨t,e⟩:=r1;subst e;exact .cons n t (ih r2)
section
variable {X:Cx}{e:Expr}{te:TE}{lo hi:Option Expr}{tl th:TO}{pos p2:Pos}
theorem dN:PO X none sI:=by
 intro a s b H Q I h;rw[evalPart_none];exact wu ⟨none,H,I,.none,h⟩
theorem cv (h:PE X e te):PO X (some e) (vY te):=by
 intro a s d H Q I b;rw[evalPart_some];refine thn (h a s d H _ I b) λu k ⟨x,f,c,g,j⟩=>?_;obtain⟨i,rfl,q⟩:=j;obtain⟨t,rfl⟩:=g;exact⟨some i,f,c,.int i t,q⟩
def SlR (X:Cx) (r:V->Option Int->Option Int->Hp->VK->Prop):Prop :=
 ∀(pins:AO_) (s:Shared) (σ:St) (H:Hp) (x:V) (v vl vu:Value) (lo hi:Option Int) (sl:Addr) (Q:VK),Inv X pins σ H s->RelV x v->s.heap.IsSliceOf sl vl vu .none->IsPart vl lo->IsPart vu hi->r x lo hi H Q ->
  ∃T id,typeLookup (.type T) "__getitem__"=pure (some (.builtin id))/\s.TypeIs v T/\wpAny (model X.prog X.w) X.A (getItem v (.ref sl)) (EP X pins σ Q) X.xe s
def tSl (r:V->Option Int->Option Int->Hp->VK->Prop) (te:TE) (tl th:TO):TE:=λσ H Q=>te σ H λx H1=>tl σ H1 λl H2=>th σ H2 λu H3=>r x l u H3 Q
theorem cN (t:SlR X r) (he:PE X e te) (j:PO X lo tl) (p:PO X hi th):PE X (.Subscript e (.Slice lo hi none p2) pos) (tSl r te tl th):=by
 intro a s d H Q I h;refine Subscript_ (thn (he a s d H _ I h) λv o ⟨x,m,C,D,F⟩=>?_);refine wpAny_Slice (thn (j a o d m _ C F) λg J ⟨l,E,A,L,z⟩=>thn (p a J d E _ A z) λf c ⟨u,i,w,B,G⟩=>?_);rw[evalPart_none];refine wu ?_;have K:Inv X a d i { c with heap:=c.heap.push { cls:=.type "slice",data:=.fields #[g,f,.none] } }:=w.kept (t':=c.toks) λb N q=>wD _ q;obtain⟨T,M,k,n,y⟩:=t a { c with heap:=c.heap.push { cls:=.type "slice",data:=.fields #[g,f,.none] } } d i x v g f l u c.heap.objs.size Q K D (Heap.IsSliceOf.new ..) L B G;show wpAny (model X.prog X.w) X.A (subscriptTail e (.Slice lo hi none p2) v (.ref c.heap.objs.size)) (EP X a d Q) X.xe { c with heap:=c.heap.push { cls:=.type "slice",data:=.fields #[g,f,.none] } };exact tail_any (ops:=[.ref c.heap.objs.size,v]) n k y (by with_unfolding_all rfl)
def eI (xs:LV) (lo hi:Option Int):LV:=(xs.drop (HT.sIx xs.length 0 lo)).take (HT.sIx xs.length xs.length hi-HT.sIx xs.length 0 lo)
theorem hW (xs:LV) (a b:Option Int):(eI xs a b).length<=xs.length:=by
 unfold eI;rw[xi,xO];omega
def rSlT (K:W.Frag):V->Option Int->Option Int->Hp->VK->Prop:=λx lo hi H Q=>∃a xs,x=.ref a/\SqT K H a xs /\
 ¬ (HT.sIx xs.length 0 lo=0/\HT.sIx xs.length xs.length hi=xs.length)/\∀p,H p=none->Q (.ref p) (upd H p (.tup (eI xs lo hi)))
theorem ly:SlR X (rSlT X.K):=by
 intro j s A H x v z w e f B Q I p m u t h;obtain⟨a,d,rfl,n,l,q⟩:=h;cases p;obtain⟨g,r,i,k⟩:=I.tuple n;have c:g.toArray.size=d.length:=by rw[wT];exact r.length.symm
 refine⟨"tuple",_,PyProof.Rows.slot_tuple_getitem.lookup,i.typeIs,?_⟩;refine HT.getItem_tuple_cut i m u t (by rw[c];exact l) ?_ (by rw[c];exact k);rw[c];refine⟨.ref s.heap.objs.size,_,I.laid (t':=s.toks) (o:=.tup (eI d e f)) (λb y q=>wD _ q) (wr _) ?_,rfl,q _ (I.hok.fresh (wr _))⟩;exact⟨wM (hW d e f) k,_,(r.drop (HT.sIx d.length 0 e)).take (HT.sIx d.length d.length f-HT.sIx d.length 0 e),TupN.new _ _⟩
def vz (K:W.Frag):R2:=λx y H Q=>∃a b xs ys,x=.ref a/\y=.ref b/\SqT K H a xs/\SqT K H b ys/\xs≠[]/\xs.length+ys.length<=sizeLine /\
 (ys=[]->Q (.ref a) H)/\(ys≠[]->∀p,H p=none->Q (.ref p) (upd H p (.tup (xs++ys))))
theorem Vals.nil_iff (r:Vals xs us):us=[] ↔ xs=[]:=by
 cases r with
 | nil=>simp
 | cons _ _=>simp
theorem tK:OpR X (binaryOp .Add) (vz X.K):=by
 intro e s C H x y v u Q I m i h;obtain⟨a,b,n,k,rfl,rfl,A,p,j,g,r,l⟩:=h;cases m;cases i;obtain⟨t,d,p1,_⟩:=I.tuple A;obtain⟨f,c,p2,_⟩:=I.tuple p;refine HT.cat_tup p1 p2 (λz=>j (d.nil_iff.mp z)) (λz=>⟨.ref a,H,I,rfl,r (c.nil_iff.mp z)⟩) (λz=>?_) (by rw[<- d.length,<- c.length];exact g);refine⟨.ref s.heap.objs.size,_,I.laid (t':=s.toks) (o:=.tup (n++k)) (λb B q=>wD _ q) (wr _) ?_,rfl,l (λw=>z (c.nil_iff.mpr w)) _ (I.hok.fresh (wr _))⟩;exact⟨by rw[wB];exact g,_,d.append c,TupN.new _ _⟩
end
def ixN (n:Nat) (i:Int):Option Nat:=if 0<=i then (if i<n then some i.toNat else none) else if -(n:Int)<=i then some (i+n).toNat else none
def atI {α:Type}(xs:List α) (i:Int):Option α:=(ixN xs.length i).bind λj=>xs[j]?
theorem mG (h:ixN n i=some j):seqIndex? i n=some j /\ j<n /\ -(n:Int) <= i /\ i<n := by
 unfold ixN at h;by_cases b:0<=i
 ·rw[if_pos b] at h;by_cases a:i<n
  ·rw[if_pos a] at h;have e:i.toNat=j:=wA h;exact⟨by rw[seqIndex_of b a,e],by omega,by omega,a⟩
  ·rw[if_neg a] at h;cases h
 ·rw[if_neg b] at h;by_cases a:-(n:Int)<=i
  ·rw[if_pos a] at h;have e:(i+n).toNat=j:=wA h;exact⟨by rw[seqIndex_neg (by omega) a,e],by omega,a,by omega⟩
  ·rw[if_neg a] at h;cases h
theorem ju (h:atI xs i=some v):∃j,seqIndex? i xs.length=some j/\xs[j]? = some v/\j<xs.length/\-(xs.length:Int)<=i/\i<xs.length:=by
 unfold atI at h;cases e:ixN xs.length i with
 | none=>rw[e] at h;cases h
 | some j =>
  rw[e] at h;obtain⟨b,c,d,a⟩:=mG e;exact⟨j,b,h,c,d,a⟩
theorem cF {α:Type}{xs:List α}{j:Nat}{v:α}(h:xs[j]? = some v):atI xs (j:Int)=some v:=by
 have a:j<xs.length:=(wv.mp h).1;have e:ixN xs.length (j:Int)=some j:=by
  unfold ixN;rw[if_pos (by omega),if_pos (by omega)];simp
 unfold atI;rw[e];exact h
theorem im (xs:List α) (v:α):atI (xs++[v]) (-1)=some v:=by
 have a:(xs++[v]).length=xs.length+1:=by simp
 have e:ixN (xs++[v]).length (-1)=some xs.length:=by
  unfold ixN;rw[a,if_neg (by decide),if_pos (by omega)];congr 1;omega
 unfold atI;rw[e];show (xs++[v])[xs.length]? = some v;simp
def mu (b:Expr):Prop:=∀o i,subscripted b false o i=operate [o,i] (getItem o i)
def IxR (X:Cx) (r:R2):Prop :=
 ∀(value slice:Expr) (pins:AO_) (s:Shared) (σ:St) (H:Hp) (x y:V) (v u:Value) (Q:VK),Inv X pins σ H s->RelV x v->RelV y u->r x y H Q ->
  subscripted slice false v u=operate [v,u] (getItem v u)->wpAny (model X.prog X.w) X.A (subscriptTail value slice v u) (EP X pins σ Q) X.xe s
def MtR (X:Cx) (id:String) (r:V->LV->Hp->VK->Prop):Prop :=
 ∀(pins:AO_) (s:Shared) (σ:St) (H:Hp) (x:V) (xs:LV) (v:Value) (us:List Value) (Q:VK),Inv X pins σ H s->RelV x v->Vals xs us->r x xs H Q ->
  wpAny (model X.prog X.w) X.A (call (.builtin id) (v::us)) (EP X pins σ Q) X.xe s
section
variable {X:Cx}{a b:Expr}{ta tb:TE}{pos:Pos}
theorem ai (f:IxR X r) (n:PE X a ta) (j:PE X b tb) (d:mu b):PE X (.Subscript a b pos) (tOp r ta tb):=by
 intro c s k H Q I h;exact Subscript_ (qp n j I h λv u m x y l i g e q=>f a b c m k l x y v u Q i g e q (d _ _))
def rIxL (K:W.Frag):R2:=λx y H Q=>∃p xs i v,x=.ref p/\y=.int i/\SqL K H p xs/\atI xs i=some v/\Q v H
def rIxT (K:W.Frag):R2:=λx y H Q=>∃p xs i v,x=.ref p/\y=.int i/\SqT K H p xs/\atI xs i=some v/\Q v H
def rIxS:R2:=λx y H Q=>∃z i c,x=.str z/\y=.int i/\z.length<=sizeLine/\atI z.cps.toList i=some c/\Q (.str ⟨#[c]⟩) H
theorem sU:IxR X (rIxL X.K) := by
 intro k e a s A H x y v u Q I J D h n;obtain⟨p,O,i,z,rfl,rfl,K,L,q⟩:=h;cases J;obtain⟨t,rfl⟩:=D;obtain⟨f,r,l,N⟩:=I.list K;obtain⟨j,c,G,P,E,C⟩:=ju L;obtain⟨w,m,d⟩:=r.get G;have B:=r.length;have M:=fS;have b:EP X a A Q w s:=⟨z,H,I,d,q⟩
 by_cases o:0<=i
 ·have g:i.toNat=j:=by
     rw[seqIndex_of o C] at c;exact wA c
  exact item_listR l.isList o (by omega) (by rw[g];simpa using m) b n
 ·have g:(i+(f.toArray.size:Int)).toNat=j:=by
     rw[seqIndex_neg (by omega) E] at c;rw[wT,<- B];exact wA c
  exact subscriptTail_builtinR (x:=w) l.isList.typeIs slot_list_getitem.lookup
   (wpAny_getItem_list_neg (Q:=λr F=>r=w/\EP X a A Q r F) l.isList (by omega) (by rw[wT] <;> omega) (by omega) (by rw[g];simpa using m) ⟨rfl,b⟩) n
theorem uy:IxR X (rIxT X.K):=by
 intro e c a s f H x y v u Q I C n h m;obtain⟨p,M,i,z,rfl,rfl,D,F,q⟩:=h;cases C;obtain⟨t,rfl⟩:=n;obtain⟨E,r,g,L⟩:=I.tuple D;obtain⟨j,o,B,N,J,G⟩:=ju F;obtain⟨w,k,b⟩:=r.get B;have l:=r.length;have K:=fS;have d:EP X a f Q w s:=⟨z,H,I,b,q⟩
 exact subscriptTail_builtinR (x:=w) g.typeIs slot_tuple_getitem.lookup
  (getItem_tuple (j:=j) (Q:=λr A=>r=w/\EP X a f Q r A) g (by omega) (by omega) (by rw[wT,<- l];exact o) (by simpa using k) ⟨rfl,d⟩) m
theorem uT:IxR X rIxS:=by
 intro b a e s E H x y v u Q I p l h g;obtain⟨z,i,c,rfl,rfl,B,w,q⟩:=h;obtain⟨t,rfl⟩:=p;obtain⟨C,rfl⟩:=l;obtain⟨j,d,o,D,m,k⟩:=ju w;have f:z.cps.toList.length=z.length:=by simp[Str.length]
 rw[f] at d m k;have A:=fS;exact tail_any (typeIs_str s z t) slot_str_getitem.lookup (getItem_str (c:=c) (by
  have r:decide (i < -(2 ^ 63:Int))=false:=wX (by omega);have n:decide (i ≥ 2 ^ 63)=false:=wX (by omega);rw[r,n,Bool.or_false]) (by rw[d];simpa using o) ⟨.str ⟨#[c]⟩,H,I.tok _,⟨_,rfl⟩,q⟩) g
theorem nk (its:List Value) (n j:Nat) (u:Value):Obj.mapSeq (·.setIfInBounds j u) { cls:=.type "list",data:=.seq its.toArray n }={ cls:=.type "list",data:=.seq (its.set j u).toArray n }:=by
 simp[Obj.mapSeq]
theorem Inv.lst (I:Inv X pins σ H s) (h:H p=some (.lst xs)) :
    ∃(its:List Value) (n:Nat),Vals xs its/\s.heap.get? p=some { cls:=.type "list",data:=.seq its.toArray n }/\xs.length<=sizeLine:=by
 obtain⟨z,its,n,r,e⟩:=I.hok p _ h;exact⟨its,n,r,e,z⟩
theorem Inv.lstUpd {xs ys:LV}{its its':List Value}{n n':Nat}{f:Obj->Obj}(I:Inv X pins σ H s) (h:H p=some (.lst xs))
    (c:s.heap.get? p=some { cls:=.type "list",data:=.seq its.toArray n }) (a:f { cls:=.type "list",data:=.seq its.toArray n }={ cls:=.type "list",data:=.seq its'.toArray n' }) (r:Vals ys its') (g:ys.length<=sizeLine) (t:Nat) :
    Inv X pins σ (upd H p (.lst ys)) { s with heap:=s.heap.update p f,toks:=t }:=by
 have e:(s.heap.update p f).get? p=some { cls:=.type "list",data:=.seq its'.toArray n' }:=by rw[Heap.get?_update_self f c (by rw[a] <;> rfl),a]
 refine I.write (x:=p) (e:=p) (by rw[h];trivial) (.inl rfl) (λb u d q=>(Heap.get?_update_other _ _ (Ne.symm d)).trans q) ⟨_,e⟩ ?_;exact⟨g,its',n',r,e⟩
def vv:V->V->V->Hp->(Hp->Prop)->Prop:=λo i v H Q=>∃p xs k j,o=.ref p/\i=.int k/\H p=some (.lst xs)/\ixN xs.length k=some j/\Q (upd H p (.lst (xs.set j v)))
theorem rD:q7 X vv := by
 intro a s C H o i v F K u Q I z y D h;obtain⟨p,B,k,j,rfl,rfl,g,E,q⟩:=h;cases z;obtain⟨t,rfl⟩:=y;obtain⟨b,n,r,d,A⟩:=I.lst g;obtain⟨c,J,w,l⟩:=mG E;have e:=r.length;have G:=fS;have x:Inv X a C (upd H p (.lst (B.set j v))) { s with heap:=s.heap.update p (Obj.mapSeq (·.setIfInBounds j u)) } :=
  I.lstUpd g d (nk b n j u) (r.set D j) (by rw[List.length_set];exact A) s.toks
 by_cases m:0<=k
 ·have f:k.toNat=j:=by
     rw[seqIndex_of m l] at c;exact wA c
  exact W.ki_setAt d m (by omega) (by rw[wT,<- e];exact l) (by rw[f];exact⟨_,x,q⟩)
 ·have f:(k+(b.toArray.size:Int)).toNat=j:=by
     rw[seqIndex_neg (by omega) w] at c;rw[wT,<- e];exact wA c
  exact W.ki_setBack d (by omega) (by rw[wT,<- e];exact w) (by omega) (by rw[f];exact⟨_,x,q⟩)
theorem kN (a b:Option Int) (n:Nat):(sliceBounds a b none n).1=((HT.sIx n 0 a:Nat):Int) /\ (sliceBounds a b none n).2.1=((HT.sIx n n b:Nat):Int) /\ (sliceBounds a b none n).2.2=1 := by
 refine⟨?_,?_,rfl⟩
 ·cases a with
  | none=>simp[sliceBounds,HT.sIx]
  | some i =>
   simp only[sliceBounds,HT.sIx,Option.getD_none,show (1:Int) > 0 by decide,if_true];by_cases h:i<0
   ·simp only[h,if_true] <;> omega
   ·simp only[h,if_false] <;> omega
 ·cases b with
  | none=>simp[sliceBounds,HT.sIx]
  | some i =>
   simp only[sliceBounds,HT.sIx,Option.getD_none,show (1:Int) > 0 by decide,if_true];by_cases h:i<0
   ·simp only[h,if_true] <;> omega
   ·simp only[h,if_false] <;> omega
theorem kb (a:List Value) (b c:Option Int):slicePick a.toArray b c none=((a.drop (HT.sIx a.length 0 b)).take (HT.sIx a.length a.length c-HT.sIx a.length 0 b)).toArray:=by
 obtain⟨d,f,e⟩:=kN b c a.toArray.size;unfold slicePick;rw[d,f,e];simp only[sliceRange_one,pick_run,wT] <;> rfl
def rSlL (K:W.Frag):V->Option Int->Option Int->Hp->VK->Prop:=λx lo hi H Q=>∃a xs,x=.ref a/\SqL K H a xs/\∀p,H p=none->Q (.ref p) (upd H p (.lst (eI xs lo hi)))
theorem tS:SlR X (rSlL X.K):=by
 intro i s z H x v y u e f A Q I m j t n h;obtain⟨a,c,rfl,k,q⟩:=h;cases m;obtain⟨p,r,g,l⟩:=I.list k;have d:=r.length;refine⟨"list",_,slot_list_getitem.lookup,g.isList.typeIs,?_⟩;refine wpAny_getItem_list_slice g.isList j t n .none (by simp) ?_ (by rw[wT] <;> omega);rw[kb,<- d];refine⟨.ref s.heap.objs.size,_,I.laid (t':=s.toks) (o:=.lst (eI c e f)) (λb w q=>wD _ q) (wr _) ?_,rfl,q _ (I.hok.fresh (wr _))⟩;exact⟨wM (hW c e f) l,_,0,(r.drop (HT.sIx c.length 0 e)).take (HT.sIx c.length c.length f-HT.sIx c.length 0 e),wQ _ rfl⟩
def dB:V->Bool
 | .non=>true
 | .bl _=>true
 | .int _=>true
 | .str _=>true
 | _=>false
def eqV:V->V->Bool
 | .non,.non=>true
 | .bl a,.bl b=>a==b
 | .bl a,.int b=>(if a then 1 else 0)==b
 | .int a,.bl b=>a==(if b then 1 else 0)
 | .int a,.int b=>a==b
 | .str a,.str b=>a==b
 | _,_=>false
theorem uo (e:RelV y u) (c:RelV x v) (g:dB y=true) (f:dB x=true):SeqAt.EqAt A s u v (eqV y x):=by
 cases y with
 | non =>
  cases e;cases x with
  | non=>cases c;exact SeqAt.EqAt.same _
  | bl b=>cases c;exact SeqAt.EqAt.none_bool b
  | int b=>obtain⟨t,rfl⟩:=c;exact SeqAt.EqAt.none_int b t
  | str b=>obtain⟨t,rfl⟩:=c;exact SeqAt.EqAt.none_str b t
  | _=>exact absurd (show false=true from f) wZ
 | bl a =>
  cases e;cases x with
  | non=>cases c;exact SeqAt.EqAt.bool_none a
  | bl b=>cases c;exact SeqAt.EqAt.bool_bool a b
  | int b=>obtain⟨t,rfl⟩:=c;exact SeqAt.EqAt.bool_int a b t
  | str b=>obtain⟨t,rfl⟩:=c;exact SeqAt.EqAt.bool_str a b t
  | _=>exact absurd (show false=true from f) wZ
 | int a =>
  obtain⟨d,rfl⟩:=e;cases x with
  | non=>cases c;exact SeqAt.EqAt.int_none a d
  | bl b=>cases c;exact SeqAt.EqAt.int_bool a d b
  | int b=>obtain⟨t,rfl⟩:=c;exact SeqAt.EqAt.int_int a d b t
  | str b=>obtain⟨t,rfl⟩:=c;exact SeqAt.EqAt.int_str a d b t
  | _=>exact absurd (show false=true from f) wZ
 | str a =>
  obtain⟨d,rfl⟩:=e;cases x with
  | non=>cases c;exact SeqAt.EqAt.str_none a d
  | bl b=>cases c;exact SeqAt.EqAt.str_bool a d b
  | int b=>obtain⟨t,rfl⟩:=c;exact SeqAt.EqAt.str_int a d b t
  | str b=>obtain⟨t,rfl⟩:=c;exact SeqAt.EqAt.str_str a d b t
  | _=>exact absurd (show false=true from f) wZ
 | _=>exact absurd (show false=true from g) wZ
def eqU (x:V) (u:Value):Bool:=match u with
 | .none=>eqV .non x
 | .bool b=>eqV (.bl b) x
 | .int i _=>eqV (.int i) x
 | .str z _=>eqV (.str z) x
 | _=>false
theorem kZ (r:RelV y u) (f:dB y=true):eqU x u=eqV y x:=by
 cases y with
 | non=>cases r;rfl
 | bl b=>cases r;rfl
 | int i=>obtain⟨t,rfl⟩:=r;rfl
 | str z=>obtain⟨t,rfl⟩:=r;rfl
 | _=>exact absurd (show false=true from f) wZ
theorem fQ:∀ {xs:LV}{us:List Value},Vals xs us->xs.all dB=true->us.any (eqU x)=xs.any λy=>eqV y x
 | _,_,.nil,_=>rfl
 | y::xs,u::us,.cons r t,f=>by
  rw[List.all_cons,xj] at f;rw[xC,xC,kZ r f.1,fQ t f.2]
theorem ef (rx:RelV x v) (fx:dB x=true):∀ {xs:LV}{us:List Value},Vals xs us->xs.all dB=true->∀u∈us,SeqAt.EqAt A s u v (eqU x u)
 | _,_,.nil,_=>λu hu=>by cases hu
 | y::xs,u::us,.cons r t,f=>λu' hu=>by
  rw[List.all_cons,xj] at f;rcases wH.mp hu with rfl | hu
  ·rw[kZ r f.1];exact uo r rx f.1 fx
  ·exact ef rx fx t f.2 u' hu
def inV (x:V) (xs:LV):Bool:=xs.any λy=>eqV y x
def rIn (K:W.Frag) (neg:Bool):R2:=λx y H Q=>∃p xs,y=.ref p/\(SqL K H p xs∨SqT K H p xs)/\dB x=true/\xs.all dB=true/\Q (.bl (if neg then !inV x xs else inV x xs)) H
theorem pu:OpR X (compareOp .In) (rIn X.K false):=by
 intro g s m H x y v u Q I i j h;obtain⟨p,l,rfl,b,f,c,q⟩:=h;cases j;rcases b with b | b
 ·obtain⟨a,r,e,k⟩:=I.list b;refine SeqAt.in_listAt (eqU x) e.isList (λw d=>ef i f r c w (by simpa using d)) ⟨.bl _,H,I,rfl,?_⟩;rw[show a.toArray.any (eqU x)=a.any (eqU x) by simp,fQ r c];exact q
 ·obtain⟨a,r,e,k⟩:=I.tuple b;refine SeqAt.in_tupleAt (eqU x) e (λw d=>ef i f r c w (by simpa using d)) ⟨.bl _,H,I,rfl,?_⟩;rw[show a.toArray.any (eqU x)=a.any (eqU x) by simp,fQ r c];exact q
theorem kC:OpR X (compareOp .NotIn) (rIn X.K true):=by
 intro g s m H x y v u Q I i j h;obtain⟨p,l,rfl,b,f,c,q⟩:=h;cases j;rcases b with b | b
 ·obtain⟨a,r,e,k⟩:=I.list b;refine SeqAt.notIn_listAt (eqU x) e.isList (λw d=>ef i f r c w (by simpa using d)) ⟨.bl _,H,I,rfl,?_⟩;rw[show a.toArray.any (eqU x)=a.any (eqU x) by simp,fQ r c];exact q
 ·obtain⟨a,r,e,k⟩:=I.tuple b;refine SeqAt.notIn_tupleAt (eqU x) e (λw d=>ef i f r c w (by simpa using d)) ⟨.bl _,H,I,rfl,?_⟩;rw[show a.toArray.any (eqU x)=a.any (eqU x) by simp,fQ r c];exact q
theorem kz:dS X (.type "list") (λxs H Q => ∃p ys, xs=[.ref p] /\ (SqL X.K H p ys ∨ SqT X.K H p ys) /\ ∀l, H l=none -> Q (.ref l) (upd H l (.lst ys))) := by
 intro i s A H xs B Q I r h;obtain⟨p,ys,rfl,k,q⟩:=h;obtain⟨u,rfl,z⟩:=cK r;cases z;have m:∀(a:List Value),Vals ys a->ys.length<=sizeLine->∀(c:Heap) (f:Nat),(∀b o',s.heap.get? b=some o'->c.get? b=some o') ->
     c.get? s.heap.objs.size=some { cls:=.type "list",dict:=none,data:=.seq a.toArray f,slots:=#[] }->EP X i A Q (.ref s.heap.objs.size) { s with heap:=c }:=λa d j c f t e =>
  ⟨.ref s.heap.objs.size,_,I.laid (t':=s.toks) t (wr _) (show ObjOk X.prog X.w _ c _ (.lst ys) from⟨j,a,f,d,e⟩),rfl,q _ (I.hok.fresh (wr _))⟩
 rcases k with k | k
 ·obtain⟨a,d,y,j⟩:=I.list k;have g:=d.length;obtain⟨o,v,x,n,w⟩:=y.isList;exact call_list_seq p (.inl rfl) v x w (λc f t e=>m a d j c f t e) (by simp only[wT] <;> omega)
 ·obtain⟨a,d,y,j⟩:=I.tuple k;have g:=d.length;obtain⟨o,v,x,n,w⟩:=y;exact call_list_seq p (.inr rfl) v x w (λc f t e=>m a d j c f t e) (by simp only[wT] <;> omega)
theorem kd:dS X (.type "tuple") (λxs H Q => ∃p ys, xs=[.ref p] /\ ((SqL X.K H p ys /\ ∀l, H l=none -> Q (.ref l) (upd H l (.tup ys))) ∨ (SqT X.K H p ys /\ Q (.ref p) H))) := by
 intro a s n H xs x Q I r h;obtain⟨p,ys,rfl,h⟩:=h;obtain⟨u,rfl,t⟩:=cK r;cases t;rcases h with⟨g,q⟩ | ⟨g,q⟩
 ·obtain⟨c,f,i,k⟩:=I.list g;have j:=f.length;refine call_tuple_list i.isList (λd w=>?_) (by simp only[wT] <;> omega);have m:Inv X a n H { s with heap:=d }:=I.kept (t':=s.toks) w;have v:Inv X a n (upd H d.objs.size (.tup ys)) { s with heap:=d.push { cls:=.type "tuple",data:=.seq c.toArray } } :=
   m.laid (t':=s.toks) (λb o e=>wD _ e) (wr _) (show ObjOk X.prog X.w _ _ _ (.tup ys) from⟨k,c,f,TupN.new _ _⟩)
  exact⟨.ref d.objs.size,_,v,rfl,q _ (m.hok.fresh (wr _))⟩
 ·obtain⟨c,f,i,k⟩:=I.tuple g;exact call_tuple_same i ⟨.ref p,H,I,rfl,q⟩
def tyV (K:W.Frag) (T:String) (x:V) (H:Hp):Prop := match x with
 | .str _=>T="str"
 | .int _=>T="int"
 | .ref p=>(T="list"/\∃xs,SqL K H p xs)∨(T="tuple"/\∃o,K.lookup p=some o/\o.cls=.type "tuple"/\o.dict=none) ∨
     (T="dict"/\((∃kvs,H p=some (.dK kvs))∨∃kvs,H p=some (.dT kvs)))∨(T="set"/\∃S n,H p=some (.set S n))
 | _=>False
theorem pq (I:Inv X pins σ H s) (r:RelV x v) (f:tyV X.K T x H) :
    s.TypeIs v T/\∀a,v=.ref a->∃q,s.heap.get? a=some q/\q.dict=none:=by
 cases x with
 | str z =>
  obtain⟨t,rfl⟩:=r;cases (show T="str" from f);exact⟨typeIs_str s z t,λ_ e=>nomatch e⟩
 | int i =>
  obtain⟨t,rfl⟩:=r;cases (show T="int" from f);exact⟨typeIs_int s i t,λ_ e=>nomatch e⟩
 | ref p =>
  cases r;rcases f with⟨rfl,w,m⟩ | ⟨rfl,o,b,l,g⟩ | ⟨rfl,b⟩ | ⟨rfl,S,n,b⟩
  ·obtain⟨u,_,k,_⟩:=I.list m;refine⟨k.isList.typeIs,λa e=>?_⟩;cases e;obtain⟨o,n,e,c,g,_⟩:=k;exact⟨o,e,g⟩
  ·refine⟨⟨o,I.kIn p o b,l⟩,λa e=>?_⟩;cases e;exact⟨o,I.kIn _ o b,g⟩
  ·have z:∃o, s.heap.get? p=some o /\ o.ExactDict := by
      rcases b with⟨j,b⟩ | ⟨j,b⟩
      ·obtain⟨_,_,_,_,o,_,_,e,d,_⟩:=I.hok p _ b;exact⟨o,e,d⟩
      ·obtain⟨_,_,_,_,o,_,_,e,d,_⟩:=I.hok p _ b;exact⟨o,e,d⟩
   obtain⟨o,e,d⟩:=z;refine⟨⟨o,e,d.1⟩,λa h=>?_⟩;cases h;exact⟨o,e,d.2.1⟩
  ·obtain⟨o,_,_,_,e,d,_⟩:=I.hok p _ b;refine⟨⟨o,e,d.1⟩,λa h=>?_⟩;cases h;exact⟨o,e,d.2.1⟩
 | _=>exact False.elim f
def ui (K:W.Frag) (T:String) (r:V->LV->Hp->VK->Prop) (to:TE):TE:=λσ H Q=>to σ H λx H1=>tyV K T x H1/\r x [] H1 Q
def tBM (K:W.Frag) (T:String) (r:V->LV->Hp->VK->Prop) (to:TE) (t:TA):TE:=λσ H Q=>to σ H λx H1=>tyV K T x H1/\t σ H1 λxs H2=>r x xs H2 Q
variable {o e:Expr}{es:List Expr}{to:TE}{t:TA}{name:Str}{apos cpos:Pos}{T id:String}{r:V->LV->Hp->VK->Prop}
theorem uQ (p:PlainAttrs T) (d:Slot T name id) (e:typeOf (.builtin id)=pure (.type "method_descriptor")) (n:MtR X id r) (j:PE X o to)
    (b:attributeBase o name X.env (eval o X.env)=eval o X.env:=by rfl) (c:(apos.endLine==cpos.line)=true:=by rfl):PE X (.Call (.Attribute o name apos) [] [] cpos) (ui X.K T r to):=by
 intro a s g H Q I h;refine wpAny_Call_method0_late b c (thn (j a s g H _ I h) λv l ⟨x,k,f,i,t,u⟩=>?_);obtain⟨m,q⟩:=pq f i t;exact⟨T,id,p,d,e,m,q,Calls.callWith_builtin rfl (PySem.evalArgs_none (n a l g k x [] v [] Q f i .nil u))⟩
theorem ki (A:PlainAttrs T) (f:Slot T name id) (i:typeOf (.builtin id)=pure (.type "method_descriptor")) (z:MtR X id r) (n:PE X o to) (M:PA X (e :: es) t)
    (c:attributeBase o name X.env (eval o X.env)=eval o X.env:=by rfl)
    (g:((backTo cpos (starEach (e::es) X.env)).all (λx=>!x.1)&&(backToKw cpos (keywordEach [] X.env)).all (λx=>x.1.isSome)
     && decide ((e::es).length+([]:List Keyword).length+(if ([]:List Keyword).isEmpty then 0 else 1)<30))=true:=by rfl)
    (d:(apos.endLine==cpos.line)=true:=by rfl) (p:starEach (e::es) X.env=(false,eval e X.env)::starEach es X.env:=by rfl) (b:(backTo cpos (starEach es X.env)).any (·.1)=false:=by rfl) :
    PE X (.Call (.Attribute o name apos) (e::es) [] cpos) (tBM X.K T r to t):=by
 intro a s j H Q I h;refine wpAny_Call_method_late c g d rfl (thn (n a s j H _ I h) λv w ⟨x,u,l,m,E,G⟩=>?_);obtain⟨y,B⟩:=pq l m E;refine⟨T,id,A,f,i,y,B,?_⟩;have k:=M cpos a w j u _ l G;rw[p] at k ⊢;refine Calls.callWith_builtin (by show (false||(backTo cpos (starEach es X.env)).any (·.1))=false;rw[b] <;> rfl) (Calls.evalArgs_plain ?_);exact thn k λq K ⟨J,F,D,L,C⟩=>z a K j F x J v q Q D m L C
end
def MtM (X:Cx) (id:String) (r:V->LV->Hp->VK->Prop):Prop :=
 ∀(pins:AO_) (s:Shared) (σ:St) (H:Hp) (x:V) (xs:LV) (v:Value) (us:List Value) (Q:VK),Inv X pins σ H s->RelV x v->Vals xs us->r x xs H Q ->
  wpAny (model X.prog X.w) X.A (call (.builtin id) (v::us)) (EP X pins σ Q) X.xe s
theorem Vals.one:∀ {x:V}{us:List Value},Vals [x] us->∃u,us=[u]/\RelV x u
 | _,_,.cons r .nil=>⟨_,rfl,r⟩
theorem Vals.zero:∀ {us:List Value},Vals [] us->us=[]
 | _,.nil=>rfl
theorem Vals.reverse (h:Vals xs us):Vals xs.reverse us.reverse:=by
 induction h with
 | nil=>exact .nil
 | cons r t ih=>rw[List.reverse_cons,List.reverse_cons];exact Vals.append ih (.cons r .nil)
section
variable {X:Cx}{pins:AO_}{σ:St}{H:Hp}{s:Shared}{l b:Addr}{xs ys zs:LV}
theorem Inv.lset {its its':List Value}{n:Nat}{f:Array Value->Array Value}{t':Nat}(I:Inv X pins σ H s) (g:H l=some (.lst xs))
    (e:s.heap.get? l=some { cls:=.type "list",data:=.seq its.toArray n }) (d:f its.toArray=its'.toArray) (c:Vals ys its') (h:ys.length<=sizeLine) :
    Inv X pins σ (upd H l (.lst ys)) { s with heap:=s.heap.update l (Obj.mapSeq f),toks:=t' }:=by
 have q:=PySem.IsL.update e f;rw[d] at q;refine I.write (x:=l) (e:=l) (by rw[g];exact trivial) (.inl rfl) (λi u a b=>(Heap.get?_update_other s.heap (Obj.mapSeq f) (Ne.symm a)).trans b) ⟨_,q⟩ ?_;exact⟨h,its',_,c,q⟩
theorem Inv.lnew (I:Inv X pins σ H s) (b:Vals ys its) (a:ys.length<=sizeLine) :
    Inv X pins σ (upd H s.heap.objs.size (.lst ys)) { s with heap:=s.heap.push { cls:=.type "list",data:=.seq its.toArray },toks:=t' } :=
 I.laid (λ_ _ q=>wD _ q) (wr _) ⟨a,its,0,b,wQ _ rfl⟩
theorem Inv.fresh (I:Inv X pins σ H s):H s.heap.objs.size=none:=I.hok.fresh (wr _)
theorem Inv.lstM (I:Inv X pins σ H s) (a:H l=some (.lst xs)):xs.length<=sizeLine/\∃(its:List Value) (n:Nat),Vals xs its/\xs.length=its.length/\s.heap.get? l=some { cls:=.type "list",data:=.seq its.toArray n }:=by
 obtain⟨z,its,n,r,e⟩:=I.hok l _ a;exact⟨z,its,n,r,r.length,e⟩
theorem q4 (h:n<=sizeLine):Builtin.List.listTooLong n=false:=by
 unfold Builtin.List.listTooLong;exact wX (by omega)
end
section
variable {X:Cx}
def mM:V->LV->Hp->VK->Prop:=λx vs H Q=>∃l xs y,x=.ref l/\vs=[y]/\H l=some (.lst xs)/\xs.length<sizeLine/\Q .non (upd H l (.lst (xs++[y])))
theorem jJ:MtM X "list.append" mM:=by
 intro b s o H x p v j Q I f g h;obtain⟨l,m,y,rfl,rfl,c,k,q⟩:=h;cases f;obtain⟨u,rfl,d⟩:=g.one;obtain⟨z,a,n,r,i,e⟩:=I.lstM c;refine call_meets F.slot_list_append ⟨_,e,rfl⟩ F.entry_list_append (F.args_list_append_2 _ _) (PySem.list_append l a.toArray n u (by rw[wT];omega)) ⟨e,?_⟩;refine⟨.non,_,I.lset (its':=a++[u]) c e (by simp) (r.append (.cons d .nil)) ?_,rfl,q⟩;rw[wB,yb];omega
def ja:V->LV->Hp->VK->Prop:=λx vs H Q=>∃l b xs zs,x=.ref l/\vs=[.ref b]/\H l=some (.lst xs)/\H b=some (.lst zs)/\xs.length+zs.length<=sizeLine/\Q .non (upd H l (.lst (xs++zs)))
theorem oB:MtM X "list.extend" ja:=by
 intro i s J H x K v C Q I t w h;obtain⟨l,b,G,D,rfl,rfl,g,m,E,q⟩:=h;cases t;obtain⟨u,rfl,p⟩:=w.one;cases p;obtain⟨z,c,n,r,A,e⟩:=I.lstM g;obtain⟨B,a,j,y,o,k⟩:=I.lstM m;have f:c.toArray.size+a.toArray.size<=sizeLine:=by rw[wT,wT];omega
 have d:¬ (!c.toArray.isEmpty&&Builtin.List.listTooLong (c.toArray.size+a.toArray.size))=true:=by
  rw[q4 f,Bool.and_false];exact wZ
 refine call_meets F.slot_list_extend ⟨_,e,rfl⟩ F.entry_list_extend (F.args_list_extend_2 _ _)
  (AutoSeq1.list_extend_list_list_0 l c.toArray n b a.toArray j d (by rw[wT];omega) (by omega)) ⟨e,k,?_⟩
 refine⟨.non,_,I.lset (its':=c++a) g e (by simp) (r.append y) ?_,rfl,q⟩;rw[wB];omega
def io:V->LV->Hp->VK->Prop:=λx vs H Q=>∃l xs,x=.ref l/\vs=[]/\H l=some (.lst xs)/\Q .non (upd H l (.lst xs.reverse))
theorem na:MtM X "list.reverse" io:=by
 intro c s m H x o v j Q I f g h;obtain⟨l,k,rfl,rfl,d,q⟩:=h;cases f;have b:=g.zero;subst b;obtain⟨z,a,n,r,i,e⟩:=I.lstM d;refine call_meets F.slot_list_reverse ⟨_,e,rfl⟩ F.entry_list_reverse (F.args_list_reverse_1 _) (AutoSeq1.list_reverse_list_0 l a.toArray n (by rw[wT];omega)) ⟨e,?_⟩;refine⟨.non,_,I.lset (its':=a.reverse) d e (by simp) r.reverse ?_,rfl,q⟩;rw[List.length_reverse];omega
def rCat:R2:=λx y H Q=>∃l b xs zs,x=.ref l/\y=.ref b/\H l=some (.lst xs)/\H b=some (.lst zs)/\xs.length+zs.length<=sizeLine/\∀p,H p=none->Q (.ref p) (upd H p (.lst (xs++zs)))
theorem uz:OpR X (binaryOp .Add) rCat:=by
 intro d s E H x y v u Q I m g h;obtain⟨l,b,D,B,rfl,rfl,f,j,C,q⟩:=h;cases m;cases g;obtain⟨z,c,n,r,t,e⟩:=I.lstM f;obtain⟨w,a,A,o,k,i⟩:=I.lstM j;refine PySem.P.add_list e i ?_ (by rw[wT,wT];omega);have p:c.toArray++a.toArray=(c++a).toArray:=by simp
 rw[p];exact⟨.ref _,_,I.lnew (t':=s.toks) (r.append o) (by rw[wB];omega),rfl,q _ I.fresh⟩
end
section
variable {κ:Type} [DecidableEq κ]
def aG (kvs:List (κ × V)) (k:κ):Option V:=(kvs.find? λkv=>decide (kv.1=k)).map (·.2)
def aY (kvs:List (κ × V)) (k:κ) (v:V):List (κ × V) :=
 if (kvs.any λkv=>decide (kv.1=k))=true then kvs.map (λkv=>if kv.1=k then (kv.1,v) else kv) else kvs++[(k,v)]
theorem rH:aG ([]:List (κ × V)) k=none:=rfl
theorem cm {p:κ × V}{r:List (κ × V)}{k:κ}(e:p.1=k):aG (p::r) k=some p.2:=by simp[aG,xD,e]
theorem cp {p:κ × V}{r:List (κ × V)}{k:κ}(e:¬ p.1=k):aG (p::r) k=aG r k:=by simp[aG,xD,e]
theorem eg (k:κ):∀kvs:List (κ × V),(kvs.any λkv=>decide (kv.1=k))=(aG kvs k).isSome
 | []=>rfl
 | p::r=>by
  rw[xC];by_cases e:p.1=k
  ·simp only[cm e,wF e,Bool.true_or,Option.isSome_some]
  ·rw[cp e,wX e,Bool.false_or];exact eg k r
theorem kK (k j:κ) (y:V):∀kvs:List (κ × V), aG (kvs.map λkv => if kv.1=k then (kv.1, y) else kv) j=(aG kvs j).map λx => if j=k then y else x
 | []=>rfl
 | p::r=>by
  have ih:=kK k j y r;rw[xb];by_cases h:p.1=k
  ·rw[if_pos h];by_cases e:p.1=j
   ·rw[cm (p:=(p.1,y)) e,cm e,Option.map_some,if_pos (e.symm.trans h)]
   ·rw[cp (p:=(p.1,y)) e,cp e,ih]
  ·rw[if_neg h];by_cases e:p.1=j
   ·rw[cm (p:=p) e,cm e,Option.map_some,if_neg (λz=>h (e.trans z))]
   ·rw[cp (p:=p) e,cp e,ih]
theorem jB (k j:κ) (y:V):∀kvs:List (κ × V),aG kvs k=none->aG (kvs++[(k,y)]) j=if j=k then some y else aG kvs j
 | [],_=>by
  by_cases e:k=j
  ·rw[if_pos e.symm];exact cm (p:=(k,y)) e
  ·rw[if_neg (λz=>e z.symm)];exact cp (p:=(k,y)) e
 | p::r,hn=>by
  rw[List.cons_append];have hk:¬ p.1=k:=λz=>by rw[cm z] at hn;cases hn
  rw[cp hk] at hn;have ih:=jB k j y r hn;by_cases e:p.1=j
  ·rw[cm e,cm e,if_neg (λz=>hk (e.trans z))]
  ·rw[cp e,cp e,ih]
theorem dr (kvs:List (κ × V)) (k j:κ) (y:V):aG (aY kvs k y) j=if j=k then some y else aG kvs j := by
 unfold aY;by_cases a:(kvs.any λb=>decide (b.1=k))=true
 ·rw[if_pos a,kK];rw[eg] at a;by_cases e:j=k
  ·obtain⟨x,c⟩:=xN.mp a;rw[if_pos e,e,c,Option.map_some,if_pos rfl]
  ·rw[if_neg e];cases aG kvs j with
   | none=>rfl
   | some x=>rw[Option.map_some,if_neg e]
 ·rw[if_neg a];refine jB k j y kvs ?_;rw[eg] at a;cases q:aG kvs k with
  | none=>rfl
  | some x=>rw[q] at a;exact(a rfl).elim
theorem bv (kvs:List (κ × V)) (k:κ) (v:V):(aY kvs k v).length<=kvs.length+1:=by
 unfold aY
 split
 ·rw[wt];omega
 ·rw[wB,wC,xk];omega
theorem lD {kvs:List (κ × V)}{k:κ}(v:V) (h:aG kvs k=none):aY kvs k v=kvs++[(k,v)]:=by
 unfold aY;rw[eg,h];exact if_neg (by decide)
theorem RelO.isSome_eq (r:RelO o u):o.isSome=u.isSome:=by
 cases o with
 | none=>cases u with
  | none=>rfl
  | some _=>exact(show False from r).elim
 | some _=>cases u with
  | none=>exact(show False from r).elim
  | some _=>rfl
theorem KV.val {kvs:List (κ × V)}{B:List (κ × Value)}(r:KV kvs B) (k:κ):RelO (aG kvs k) (valueAt B k) := by
 unfold KV at r
 induction r with
 | nil=>exact True.intro
 | @cons p q ps qs h t ih =>
  obtain⟨c,d⟩:=h;by_cases e:p.1=k
  ·have a:q.1=k:=c.symm.trans e;have b:valueAt (q::qs) k=some q.2:=by simp[valueAt,xD,a]
   rw[cm e,b];exact d
  ·have a:¬ q.1=k:=λz=>e (c.trans z);have b:valueAt (q::qs) k=valueAt qs k:=by simp[valueAt,xD,a]
   rw[cp e,b];exact ih
theorem KV.any (r:KV kvs z) (k:κ):(kvs.any λq=>decide (q.1=k))=z.any λq=>decide (q.1=k):=by
 unfold KV at r
 induction r with
 | nil=>rfl
 | cons h t ih=>rw[xC,xC,ih,h.1]
theorem KV.repl (r:KV kvs G) (k:κ) (b:RelV y u) :
    KV (kvs.map λB=>if B.1=k then (B.1,y) else B) (G.map λB=>if B.1=k then (B.1,u) else B):=by
 unfold KV at r ⊢
 induction r with
 | nil=>exact .nil
 | @cons p q ps qs h t ih =>
  rw[xb,xb];refine .cons ?_ ih;obtain⟨a,c⟩:=h;by_cases e:p.1=k
  ·rw[if_pos e,if_pos (a.symm.trans e)];exact⟨a,b⟩
  ·rw[if_neg e,if_neg (λz=>e (a.trans z))];exact⟨a,c⟩
theorem KV.put (r:KV kvs q) (k:κ) (a:RelV y u):KV (aY kvs k y) (stored q k u):=by
 unfold aY stored;rw[r.any k];by_cases e:(q.any λb=>decide (b.1=k))=true
 ·rw[if_pos e,if_pos e];exact r.repl k a
 ·rw[if_neg e,if_neg e];exact Paired.snoc r ⟨rfl,a⟩
theorem KV.length (r:KV kvs q):kvs.length=q.length:=Paired.length r
end
theorem gf (r:RelV (kV k) u):(bM P w).is k u=true:=by
 cases k with
 | inl i=>obtain⟨t,e⟩:=(show ∃t,u=Value.int i t from r);subst e;exact lI P w i t
 | inr x=>obtain⟨t,e⟩:=(show ∃t,u=Value.str x t from r);subst e;exact lO P w x t
theorem jF:∀ {ks:List Key}{us:List Value},Vals (ks.map kV) us->ItemsAre (bM P w) ks us
 | [],_,r=>by rw[List.map_nil] at r;cases r;exact .nil
 | k::ks,_,r=>by
  rw[xb] at r;cases r with
  | cons h t=>exact .cons (gf h) (jF t)
abbrev KT (H:Hp):List (List Key × V)->List (List Key × Addr × Value)->Prop:=Paired λp q=>p.1=q.1/\H q.2.1=some (.tup (p.1.map kV))/\RelV p.2 q.2.2
theorem KT.val {kvs:List (List Key × V)}{xs:List (List Key × Addr × Value)}(r:KT H kvs xs) (k:List Key):RelO (aG kvs k) ((atKey xs k).map (·.2)) := by
 induction r with
 | nil=>exact True.intro
 | @cons p q ps qs h t ih =>
  obtain⟨c,_,d⟩:=h;by_cases e:p.1=k
  ·have a:q.1=k:=c.symm.trans e;have b:atKey (q::qs) k=some q.2:=by simp[atKey,xD,a]
   rw[cm e,b];exact d
  ·have a:¬ q.1=k:=λz=>e (c.trans z);have b:atKey (q::qs) k=atKey qs k:=by simp[atKey,xD,a]
   rw[cp e,b];exact ih
theorem KT.repl (r:KT H kvs xs) (k:List Key) (d:RelV y u) :
    KT H (kvs.map λB=>if B.1=k then (B.1,y) else B) (xs.map (putAt k u)):=by
 induction r with
 | nil=>exact .nil
 | @cons p q ps qs h t ih =>
  rw[xb,xb];refine .cons ?_ ih;obtain⟨a,b,c⟩:=h;unfold putAt;by_cases e:p.1=k
  ·rw[if_pos e,if_pos (a.symm.trans e)];exact⟨a,b,d⟩
  ·rw[if_neg e,if_neg (λz=>e (a.trans z))];exact⟨a,b,c⟩
theorem KT.put (r:KT H kvs xs) (k:List Key) (d:H b=some (.tup (k.map kV))) (a:RelV y u) :
    KT H (aY kvs k y) (storedH xs k b u):=by
 have e:(kvs.any λc=>decide (c.1=k))=(atKey xs k).isSome:=by rw[eg,(r.val k).isSome_eq,Option.isSome_map]
 unfold aY storedH;rw[e];by_cases q:(atKey xs k).isSome=true
 ·rw[if_pos q,if_pos q];exact r.repl k a
 ·rw[if_neg q,if_neg q];exact Paired.snoc r ⟨rfl,d,a⟩
theorem KT.keeps (r:KT H kvs xs) (a:∀b ys,H b=some (.tup ys)->H' b=some (.tup ys)):KT H' kvs xs :=
 Paired.mapP r λ_ _ z=>⟨z.1,a _ _ z.2.1,z.2.2⟩
section
variable {P:Program}{w:World}{H:Hp}{h:Heap}{a:Addr}
theorem rT (b:HOk P w H h) (e:Rd H a u):ObjOk P w H h a u:=e.ok b
theorem iW (b:HOk P w H h) (e:Rd H a (.dK kvs)):kvs.length<=sizeLine/\(a==sysModules)=false/\∃q,KV kvs q/\h.DictOf (bM P w) a q :=
 show ObjOk P w H h a (.dK kvs) from rT b e
theorem nX (b:HOk P w H h) (e:H a=some (.dK kvs)):kvs.length<=sizeLine/\(a==sysModules)=false/\∃q,KV kvs q/\h.DictOf (bM P w) a q:=iW b (.inl e)
theorem fP (f:HOk P w H h) (e:H a=some (.tup (ks.map kV))):(tupleKind (bM P w)).is h ks a:=by
 obtain⟨_,b,r,o,c,g,n,d,_⟩:=(show ObjOk P w H h a (.tup (ks.map kV)) from f a _ e)
 exact⟨o,b.toArray,n,c,g,d,by simpa using jF r⟩
theorem iR (d:HOk P w H h) (e:Rd H a (.dT kvs)):kvs.length <= sizeLine /\ (a==sysModules)=false /\
    ∃xs,KT H kvs xs/\h.DictOfH (tupleKind (bM P w)) a xs:=by
 obtain⟨z,y,xs,r,o,i,s,f,n,j,g,k⟩:=(show ObjOk P w H h a (.dT kvs) from rT d e)
 refine⟨z,y,xs,r,o,i,s,f,n,j,g,λx b=>?_,k⟩;have c:∀ {l:List (List Key × V)} {m:List (List Key × Addr × Value)}, KT H l m -> ∀x ∈ m, (tupleKind (bM P w)).is h x.1 x.2.1 := by
  intro l m q
  induction q with
  | nil=>intro x b;exact nomatch b
  | @cons p q ps qs hq t ih =>
   intro x b;rcases wH.mp b with e | b
   ·subst e;exact fP d (by rw[<- hq.1];exact hq.2.1)
   ·exact ih x b
 exact c r x b
theorem rP (b:HOk P w H h) (e:H a=some (.dT kvs)):kvs.length<=sizeLine/\(a==sysModules)=false /\
    ∃xs,KT H kvs xs/\h.DictOfH (tupleKind (bM P w)) a xs:=iR b (.inl e)
end
def DGet (H:Hp) (a:Addr) (y:V) (r:Option V):Prop :=
 (∃kvs k,Rd H a (.dK kvs)/\y=kV k/\r=aG kvs k)∨∃kvs k b,Rd H a (.dT kvs)/\y=.ref b/\H b=some (.tup (k.map kV))/\r=aG kvs k
def DPut (H:Hp) (a:Addr) (y v:V) (H':Hp):Prop :=
 (∃kvs k,H a=some (.dK kvs)/\y=kV k/\kvs.length<sizeLine/\H'=upd H a (.dK (aY kvs k v))) ∨
 ∃kvs k b,H a=some (.dT kvs)/\y=.ref b/\H b=some (.tup (k.map kV))/\kvs.length<sizeLine/\H'=upd H a (.dT (aY kvs k v))
theorem DGet.k {kvs:KV_}{k:Key}(e:H a=some (.dK kvs)):DGet H a (kV k) (aG kvs k):=.inl ⟨kvs,k,.inl e,rfl,rfl⟩
theorem DPut.k {kvs:KV_}{k:Key}(e:H a=some (.dK kvs)) (b:kvs.length<sizeLine):DPut H a (kV k) v (upd H a (.dK (aY kvs k v))):=.inl ⟨kvs,k,e,rfl,b,rfl⟩
theorem DPut.t {kvs:List (List Key × V)}{k:List Key}(e:H a=some (.dT kvs)) (c:H b=some (.tup (k.map kV))) (d:kvs.length<sizeLine) :
    DPut H a (.ref b) v (upd H a (.dT (aY kvs k v))):=.inr ⟨kvs,k,b,e,rfl,c,d,rfl⟩
section
variable {X:Cx}{pins:AO_}{σ:St}{H:Hp}{s:Shared}{a:Addr}{y v:V}{u r:Value}{o:Option V}{A:Around}{E:QS}
theorem Inv.big (I:Inv X pins σ H s):sysModules<s.heap.objs.size:=by
 have h:mainGlobals<s.heap.objs.size:=(I.mod.glob.keeps I.bk).lt;exact Nat.lt_trans (by decide) h
theorem pW (x:A.units+1<cLine) (I:Inv X pins σ H s) (g:DGet H a y (some v)) (r:RelV y u) (h:∀q s',Inv X pins σ H s'->RelV v q->Q q s') :
    wpAny (model X.prog X.w) A (getItem (.ref a) u) Q E s:=by
 rcases g with⟨j,k,e,n,l⟩ | ⟨j,k,b,e,n,D,l⟩
 ·subst n;obtain⟨z,t,C,d,i⟩:=iW I.hok e;obtain⟨q,f,c⟩:=RelO.some_of (v:=v) (o:=valueAt C k) (by rw[l];exact d.val k);exact wpAny_getItem_of (gf r) i.mapOf f (h q _ (I.tok _) c)
 ·subst n;cases (show u=Value.ref b from r);obtain⟨z,t,B,d,i⟩:=iR I.hok e;obtain⟨q,f,c⟩:=RelO.some_of (v:=v) (o:=(atKey B k).map (·.2)) (by rw[l];exact d.val k);obtain⟨p,w,m⟩:=Option.map_eq_some_iff.mp f;refine wpAny_getItem_heap (tupleKind_room_in1 x) (fP I.hok D) i w ?_;rw[m];exact h q _ (I.tok _) c
theorem d_in (p:A.units+1<cLine) (I:Inv X pins σ H s) (g:DGet H a y o) (m:RelV y u) (h:∀s',Inv X pins σ H s'->Q (.bool o.isSome) s') :
    wpAny (model X.prog X.w) A (compareOp .In u (.ref a)) Q E s:=by
 rcases g with⟨d,k,e,i,l⟩ | ⟨d,k,b,e,i,n,l⟩
 ·subst i;obtain⟨z,f,r,c,j⟩:=iW I.hok e;refine wpAny_in_of (gf m) f j.mapOf ?_;rw[<- (c.val k).isSome_eq,<- l];exact h _ (I.tok _)
 ·subst i;cases (show u=Value.ref b from m);obtain⟨z,f,t,c,j⟩:=iR I.hok e;refine wpAny_in_heap (tupleKind_room_in1 p) (fP I.hok n) f j ?_;have q:=(c.val k).isSome_eq;rw[Option.isSome_map] at q;rw[<- q,<- l];exact h _ (I.tok _)
theorem ud (p:A.units+1<cLine) (I:Inv X pins σ H s) (g:DGet H a y o) (m:RelV y u) (h:∀s',Inv X pins σ H s'->Q (.bool (!o.isSome)) s') :
    wpAny (model X.prog X.w) A (compareOp .NotIn u (.ref a)) Q E s:=by
 rcases g with⟨d,k,e,i,l⟩ | ⟨d,k,b,e,i,n,l⟩
 ·subst i;obtain⟨z,f,r,c,j⟩:=iW I.hok e;refine wpAny_notIn_of (gf m) f j.mapOf ?_;rw[<- (c.val k).isSome_eq,<- l];exact h _ (I.tok _)
 ·subst i;cases (show u=Value.ref b from m);obtain⟨z,f,t,c,j⟩:=iR I.hok e;refine wpAny_notIn_heap (tupleKind_room_in1 p) (fP I.hok n) f j ?_;have q:=(c.val k).isSome_eq;rw[Option.isSome_map] at q;rw[<- q,<- l];exact h _ (I.tok _)
theorem fX (I:Inv X pins σ H s) (d:Mut (H a)) (g:Heap.SameBut a s.heap h') (he:∃q,h'.get? a=some q) (c:ObjOk X.prog X.w (upd H a B) h' a B) :
    Inv X pins σ (upd H a B) { s with heap:=h',toks:=t' } :=
 I.write (x:=a) (e:=a) d (.inl rfl) (λb q f z=>(g.2 b f).trans z) he c
theorem lc (z:kvs.length<=sizeLine) (c:(a==sysModules)=false) (b:KV kvs q) (d:h'.DictOf (bM P w) a q) :
    ObjOk P w H' h' a (.dK kvs):=⟨z,c,q,b,d⟩
theorem ph (N:A.units+1<cLine) (I:Inv X pins σ H s) (g:DPut H a y v H') (B:RelV y u) (F:RelV v r) (h:∀s',Inv X pins σ H' s'->Q () s') :
    wpAny (model X.prog X.w) A (setItem (.ref a) u r) Q E s:=by
 rcases g with⟨f,k,e,x,l,w⟩ | ⟨f,k,b,e,x,G,l,w⟩
 ·subst x w;obtain⟨z,m,S,d,t⟩:=nX I.hok e;have p:S.length<=sizeLine:=by rw[<- d.length];exact z
  have n:(aY f k v).length<=sizeLine:=by have:=bv f k v;omega
  refine wpAny_setItem_pairs (hsz:=p) (gf B) t λD i o=>h _ ?_;have T:∃q,D.get? a=some q:=let ⟨q,_,_,j,_⟩:=i;⟨q,j⟩;exact fX I (by rw[e];exact True.intro) o T (lc n m (d.put k F) i)
 ·subst x w;cases (show u=Value.ref b from B);obtain⟨z,m,P,d,t⟩:=rP I.hok e;have p:P.length<=sizeLine:=by rw[<- Paired.length d];exact z
  have n:(aY f k v).length<=sizeLine:=by have:=bv f k v;omega
  refine wpAny_setItem_heap (hsz:=p) (tupleKind_room_in1 N) (fP I.hok G) t λD i o=>h _ ?_;obtain⟨q,L,M,j,O,R,K,_,J⟩:=i;refine fX I (by rw[e];exact True.intro) o ⟨q,j⟩ ⟨n,m,_,(d.put k G F).keeps λc U C=>?_,q,L,M,j,O,R,K,J⟩;rw[ag (bP C e (λz=>nomatch z))];exact C
end
theorem lK (I:Inv X pins σ H s) (g:DGet H a y o):s.TypeIs (.ref a) "dict":=by
 rcases g with⟨c,k,e,_,_⟩ | ⟨c,k,b,e,_,_,_⟩
 ·obtain⟨_,_,f,_,d⟩:=iW I.hok e;exact d.typeIs
 ·obtain⟨_,_,h,_,d⟩:=iR I.hok e;exact d.typeIs
theorem il (h:Heap) (a:sysModules<h.objs.size):ObjOk P w H (h.push { cls:=.type "dict",data:=.dict #[] }) h.objs.size (.dK []) :=
 ⟨wW _,beq_eq_false_iff_ne.mpr (Ne.symm (wJ a)),[],.nil,Heap.DictOf.new h⟩
theorem qH (h:Heap) (a:sysModules<h.objs.size):ObjOk P w H (h.push { cls:=.type "dict",data:=.dict #[] }) h.objs.size (.dT []) :=
 ⟨wW _,beq_eq_false_iff_ne.mpr (Ne.symm (wJ a)),[],.nil,_,#[],0,wQ _ rfl,⟨rfl,rfl,rfl⟩,rfl,rfl,xP⟩
def u3:TE:=λ_ H Q=>∀p,H p=none->Q (.ref p) (upd H p (.dK []))
def uH:TE:=λ_ H Q=>∀p,H p=none->Q (.ref p) (upd H p (.dT []))
section
variable {X:Cx}{pos:Pos}
theorem er:PE X (.Dict [] [] pos) u3:=λb s c H Q I h =>
 wpAny_Dict_empty ⟨.ref s.heap.objs.size,_,I.laid (a:=s.heap.objs.size) (o:=.dK []) (t':=s.toks) (λ_ _ q=>wD _ q) (wr _) (il s.heap I.big),rfl,h _ (I.hok.fresh (wr _))⟩
theorem qb:PE X (.Dict [] [] pos) uH:=λb s c H Q I h =>
 wpAny_Dict_empty ⟨.ref s.heap.objs.size,_,I.laid (a:=s.heap.objs.size) (o:=.dT []) (t':=s.toks) (λ_ _ q=>wD _ q) (wr _) (qH s.heap I.big),rfl,h _ (I.hok.fresh (wr _))⟩
end
def lB:List (TE × TE)->St->Hp->(List (V × V)->Hp->Prop)->Prop
 | [],_,H,Q=>Q [] H
 | (tk,tv)::r,σ,H,Q=>tk σ H λx H1=>tv σ H1 λy H2=>lB r σ H2 λps H3=>Q ((x,y)::ps) H3
abbrev VV:List (V × V)->List (Value × Value)->Prop:=Paired λp q=>RelV p.1 q.1/\RelV p.2 q.2
def PPs (X:Cx) (pos:Pos) (keys:List (Option Expr)) (values:List Expr) (trs:List (TE × TE)):Prop :=
 ∀(pins:AO_) (s:Shared) (σ:St) (H:Hp) (Q:List (V × V)->Hp->Prop),Inv X pins σ H s->lB trs σ H Q ->
  wpAny (model X.prog X.w) X.A (evalPairs (pairTrees keys values X.env pos)) (λvs s'=>∃ps H',Inv X pins σ H' s'/\VV ps vs/\Q ps H') X.xe s
theorem t6:PPs X pos [] [] []:=λa s b H Q I h=>pairTrees_nil_walk ⟨[],H,I,.nil,h⟩
theorem qu (w:PE X k tk) (o:PE X v z) (i:PPs X pos ks B q) :
    PPs X pos (some k::ks) (v::B) ((tk,z)::q):=λa s c H Q I h =>
 pairTrees_cons_walk (thn (w a s c H _ I h) λu g ⟨x,f,p,m,t⟩=>thn (o a g c f _ p t) λF C ⟨y,r,n,e,l⟩ =>
  thn (i a C c r _ n l) λE G ⟨d,D,j,b,A⟩=>⟨(x,y)::d,D,j,.cons ⟨m,e⟩ b,A⟩)
def eO (kvs more:KV_):KV_:=more.foldl (λacc kv=>aY acc kv.1 kv.2) kvs
theorem KV.merge:∀ {z:KV_}{G:List (Key × Value)}{kvs:KV_}{B:List (Key × Value)}, KV z G -> KV kvs B -> KV (eO kvs z) (merged B G) := by
 intro z G kvs B r;unfold KV at r
 induction r generalizing kvs B with
 | nil=>intro q;exact q
 | @cons p q ps qs h t ih =>
  intro a;have e:KV (aY kvs p.1 p.2) (stored B q.1 q.2):=by
   have:=a.put p.1 h.2;rw[<- h.1];exact this
  exact ih e
theorem gt:∀(more kvs:KV_),(eO kvs more).length<=kvs.length+more.length
 | [],kvs=>by show kvs.length<=kvs.length+0;omega
 | p::r,kvs=>by
  have h1:=gt r (aY kvs p.1 p.2);have h2:=bv kvs p.1 p.2;show (eO (aY kvs p.1 p.2) r).length<=_;rw[wC];omega
theorem iE:∀ {kvs:KV_}{ws:List (Value × Value)}, VV (kvs.map λkv => (kV kv.1, kv.2)) ws -> ∃rs, Carries (bM P w) ws rs /\ KV kvs rs
 | [],_,r=>by rw[List.map_nil] at r;cases r;exact⟨[],True.intro,.nil⟩
 | p::kvs,_,r=>by
  rw[xb] at r;cases r with
  | @cons a b as bs h t =>
   obtain⟨rs,c,q⟩:=iE (P:=P) (w:=w) t;obtain⟨b1,b2⟩:=b;exact⟨(p.1,b2)::rs,⟨gf h.1,rfl,c⟩,.cons ⟨rfl,h.2⟩ q⟩
def wc (trs:List (TE × TE)):TE:=λσ H Q=>∀p,H p=none->lB trs σ (upd H p (.dK [])) λps H2=>H2 p=some (.dK [])/\∃kvs:KV_,ps=kvs.map (λkv=>(kV kv.1,kv.2))/\kvs.length<=15/\Q (.ref p) (upd H2 p (.dK (eO [] kvs)))
theorem tJ (h:PPs X pos B G J) (g:B.all (·.isSome)=true) (m:B.length=G.length) (E:B≠[])
    (j:B.length<=15):PE X (.Dict B G pos) (wc J):=by
 intro b s L H Q I q;have u:=I.hok.fresh (wr s.heap.objs.size);have K:=I.laid (a:=s.heap.objs.size) (o:=.dK []) (h':=s.heap.push { cls:=.type "dict",data:=.dict #[] }) (t':=s.toks) (λ_ _ q=>wD _ q) (wr _) (il s.heap I.big);refine wpAny_Dict_walk (knd:=bM X.prog X.w) g m E j (thn (h b _ L _ _ K (q _ u)) λN T ⟨O,S,k,i,e,d,v,R,D⟩=>?_);subst v;obtain⟨p,c,x⟩:=iE (P:=X.prog) (w:=X.w) i;obtain⟨z,l,r,A,C⟩:=nX k.hok e;cases A;refine⟨p,c,C,λh' f n=>⟨.ref s.heap.objs.size,_,?_,rfl,D⟩⟩;have y:(eO [] d).length<=sizeLine:=by
  have t:=gt d [];rw[xk] at t;rw[sizeLine_eq];omega
 have M:∃q,h'.get? s.heap.objs.size=some q:=let ⟨q,_,_,F,_⟩:=f;⟨q,F⟩;exact fX k (by rw[e];exact True.intro) n M (lc y l (x.merge .nil) f)
end L2
namespace Att
open PySem PySem.W PySem.Calls PyProof.Rows
theorem iP:∀(ns:List Int) (q:List Value), WellAll P h q (ns.map WData.int) -> IntsAre q ns := by
 intro ns
 induction ns with
 | nil =>
  intro q w;rw[List.map_nil] at w;cases w;exact .nil
 | cons n ns ih =>
  intro q w;rw[xb] at w;cases w with
  | cons a b =>
   cases a;exact .cons _ _ (ih _ b)
theorem pA {l:OpenLaw}{n:Nat}(m:l.most=some n) {P:Params}{args:List WData}{z:List Value}
    (b:l.row.toRowW.claim.pre args=true) (g:WellAll P h z args) :
    ∃a vs ns,z=[Value.ref a]/\args=[WData.list (ns.map WData.int)]/\h.get? a=some { cls:=.type "list",data:=.seq vs.toArray }/\IntsAre vs ns/\ns.length<=n:=by
 have i:WShape.hasAll [] args [.list .int]=true:=(pre_splitW b).1;have j:l.pre.holds [] { args:=args }=true:=(pre_splitW b).2;obtain⟨d,r,rfl,k,s⟩:=hasAllW_cons i;obtain rfl:=hasAllW_nil s;obtain⟨t,rfl,o⟩:=hasW_list k;obtain⟨ns,rfl⟩:=items_int o;have c:ns.length<=n:=by
  unfold OpenLaw.pre at j;have e:(WTm.not (.lt (.lit (.int (n:Int))) (.len (.arg 0)))).holds [] { args:=[.list (ns.map .int)] }=true:=by
   have e:=(holds_andW j).1;rw[m] at e;exact e
  have f:=condW_of e (w_not (w_lt w_lit (w_len_list (w_arg rfl))));rw[wt] at f;refine xE λq=>?_;have p:(n:Int)<((ns.length:Nat):Int):=by omega
  first
   | (rw[wF p] at f;exact absurd f (by decide))
   | (simp at f;omega)
 cases g with
 | cons w1 w2 =>
  cases w2;cases w1 with
  | list ho hall=>exact⟨_,_,ns,rfl,rfl,ho,iP ns _ hall,c⟩
theorem oS (l:OpenLaw) (args:List WData):l.row.toRowW.claim.post args (.bool true) args=true :=
 postW_of (r:=l.row.toRowW) (X:=(true==true))
  (show WShape.has [] (.bool true) .bool=true by first | rfl | decide | simp[WShape.has,WShape.arms,WShape.armsAll])
  (show (WTm.eq .res (.lit (.bool true))).value [] { args:=args,res:=some (.bool true),after:=args }=some (.bool (true==true)) from w_eq_bool (w_res rfl) w_lit) rfl
theorem attach_call {l:OpenLaw}{n:Nat}{B:LS}{XP:(Str -> OV) -> Heap -> Prop}{YP:World -> Heap -> Prop}{d:DefRec}
    (E:l.most=some n) (m:d.params.defaults=[])
    (c:∀(w:World) (I z:Shared) (mg mb:MS) (O:Addr) (o:Obj) (U cd J:Value) (a:Addr) (vs:List Value) (ns:List Int),
     Ground q B [] XP w I mg mb z.heap->YP w z.heap ->
     z.heap.get? O=some o->o.data=.func (docDef d.name d.params d.body d.scope U cd J)->z.heap.CodeRec cd d.name->mg d.name=some (.ref O) ->
     z.heap.get? a=some { cls:=.type "list",data:=.seq vs.toArray }->IntsAre vs ns->ns.length<=n->z.gens=#[] ->
     codeAny (model l.prog w) callerA (.call (.ref O) ⟨[.ref a],[]⟩) (λr s'=>r=.ok (.ret (.bool true))/\OldK z.heap s'.heap/\s'.os=z.os/\AllBare s'.gens) z) :
    WalkO q B XP YP l.row.toRowW d [] (λf vs=>PySem.call f vs):=by
 intro w I z mg mb G Y O o U cd J C kV v A i p j H t s N h u y k x;obtain rfl:C=.none:=Dflts.none p m;obtain rfl:kV=.none:=Dflts.noKw p;obtain⟨a,vs,ns,rfl,rfl,e,b,g⟩:=pA E h k;refine enter_call (codeAny_mono (c w I z mg mb O o U cd J a vs ns G Y v (fd_plain A) i j e b g H) λr s' M=>?_);obtain⟨rfl,K,L,D⟩:=M;exact⟨.inl ⟨.bool true,.bool true,[],rfl,λ_=>rfl,.bool true,oS l _,λ_=>⟨List.Pairwise.nil,λ_ F=>(nomatch F)⟩⟩,K,L,D⟩
end Att
namespace L2
open PySem PySem.Spec PyProof.Rows
theorem jz:∀ {vs:List Value}{ns:List Int},IntsAre vs ns->Vals (ns.map V.int) vs
 | _,_,.nil=>.nil
 | _,_,.cons n t h=>.cons ⟨t,rfl⟩ (jz h)
def dO (s:Stmt):Arguments:=match s with
 | .FunctionDef _ a _ _ _ _ _ _ _ _=>a
 | _=>{ posonlyargs:=[],args:=[],vararg:=none,kwonlyargs:=[],kw_defaults:=[],kwarg:=none,defaults:=[] }
def bY (s:Stmt):List Stmt:=match s with
 | .FunctionDef _ _ b _ _ _ _ _ _ _=>b
 | _=>[]
def aj (s:Stmt):Scope:=match s with
 | .FunctionDef _ _ _ _ _ _ sc _ _ _=>sc
 | _=>{ kind:=.function,names:=[],isGenerator:=false,isCoroutine:=false }
abbrev CX0:CXT:=λ_ _ _ _ _ _=>False
abbrev E0:XK:=λ_ _ _=>False
theorem vT:kX CX0 X E0:=λ_ _ _ _ _ _ _ h=>h.elim
structure Fun (K:W.Frag) (x qual:Str) (st:Stmt) (f:Addr) (fd:FuncData):Prop where
 ex:∃(oc:Value) (od:Option Addr) (kV doc pm:Value) (an:Option Addr) (cdv ct:Value) (osl:Array (OV)),
  fd=W.fnOf x qual (dO st) (bY st) (aj st) .none kV doc pm an cdv ct/\K.lookup f=some ⟨oc,od,.func fd,osl⟩/\W.codeIn K cdv qual=true
 kp:W.keepIn K (.ref f)=true
section
variable {P:Program}{w:World}{K:W.Frag}{mg:MS}{base:Heap}
theorem Fun.ok {x qual:Str}{st:Stmt}{f:Addr}{fd:FuncData}{N ps:LS}{k:Nat}{sp:Sp}(F:Fun K x qual st f fd) (S:FnScope N ps (aj st)) (d:∀G H Q E, sp G H Q E -> G.length=ps.length)
    (a:∀(B:Value) (A:Around) (z:List Env) (s:Shared) (H:Hp) (G:LV) (Q:VK) (E:XK),Room k (A.deeper (envOfC qual (aj st) s.heap.objs.size f B))->sp G H Q E ->
     ∃t,PSs (ie CX0 P w K mg base N qual (aj st) f B A z s H E).nox (bY st) t/\t { nx:=λ_ H'=>Q .non H',rt:=Q } (start N G) H):FnOk P w K mg base CX0 (k+1) f fd ps sp:=by
 obtain⟨l,p,kV,g,m,o,B,n,e,rfl,j,b⟩:=F.ex;refine rQ j b S d λA z s H G Q E i c=>?_;obtain⟨t,h,q⟩:=a B A z s H G Q E i c;exact⟨t,h.nox,q⟩
theorem Fun.binds {x qual:Str}{st:Stmt}{f:Addr}{fd:FuncData}{ps:LS}(F:Fun K x qual st f fd)
    (h:∀(kV z B:Value) (G:Option Addr) (q ct:Value) (us:List Value),us.length=ps.length->bindArgs (W.fnOf x qual (dO st) (bY st) (aj st) .none kV z B G q ct) ⟨us,[]⟩=pure (ps.zip us)):Binds K fd ps []:=by
 obtain⟨c,e,kV,z,B,G,q,ct,b,rfl,d,a⟩:=F.ex;exact .all (h kV z B G q ct)
theorem vg {x qual:Str}{st:Stmt}{f:Addr}{J:Value}{od G:Option Addr}{B:Array (OV)}{kV z I q ct:Value}(l:K.lookup f=some ⟨J,od,.func (W.fnOf x qual (dO st) (bY st) (aj st) .none kV z I G q ct),B⟩)
    (c:W.codeIn K q qual=true) (k:W.keepIn K (.ref f)=true):Fun K x qual st f (W.fnOf x qual (dO st) (bY st) (aj st) .none kV z I G q ct):=⟨⟨J,od,kV,z,I,G,q,ct,B,rfl,l,c⟩,k⟩
end
theorem aw (h:n<=1000):n<sizeLine:=Nat.lt_of_le_of_lt h (by decide)
section
variable {X:Cx}
theorem pv (i:Nat) (d:X.N[i]? = some x:=by rfl) (b:Vis X.env.scope x:=by first | exact Or.inl rfl | exact Or.inr (Or.inl rfl) | exact Or.inr (Or.inr rfl)) (c:(x==("__debug__":Str))=false:=by decide)
    (a:(x==("__classdict__":Str))=false:=by decide):PE X (.Name x pos) (uW i):=uq d b c a
end
theorem cY {A B:Prop}(h:B):if false=true then A else B:=by
 rw[if_neg wZ];exact h
theorem rq {A B:Prop}(h:A):if true=true then A else B:=by
 rw[if_pos rfl];exact h
theorem aF {c A B:Prop} [Decidable c] (a:c->A) (h2:¬ c->B):if c then A else B:=by
 by_cases h:c
 ·rw[if_pos h];exact a h
 ·rw[if_neg h];exact h2 h
def Same (H H':Hp):Prop:=∀b o,H b=some o->H' b=some o
theorem Same.refl (H:Hp):Same H H:=λ_ _ h=>h
theorem Same.trans (a:Same H H1) (b:Same H1 H2):Same H H2:=λc o h=>b c o (a c o h)
section
variable {κ:Type} [DecidableEq κ]
theorem qe {kvs:List (κ × V)}{k:κ}(h:aG kvs k=none):¬ k∈kvs.map (·.1):=by
 intro m;obtain⟨p,b,e⟩:=ww.mp m;have q:(kvs.any λa=>decide (a.1=k))=true:=yc.mpr ⟨p,b,wF e⟩;rw[eg,h] at q;exact absurd q (by simp)
theorem mV:∀ {l:List κ}{k:κ},l.Nodup->¬ k∈l->(l++[k]).Nodup
 | [],k,_,_=>by simp
 | a::r,k,h,hk=>by
  obtain⟨h1,h2⟩:=xf.mp h;show (a::(r++[k])).Nodup;refine xf.mpr ⟨λm=>?_,mV h2 λm=>hk (wH.mpr (Or.inr m))⟩;rcases wR.mp m with q | q
  ·exact h1 q
  ·exact hk (wH.mpr (Or.inl (wO.mp q).symm))
theorem tP {kvs:List (κ × V)}{k:κ}(v:V) (a:(kvs.map (·.1)).Nodup) (h:aG kvs k=none):((aY kvs k v).map (·.1)).Nodup:=by
 rw[lD v h,wy];exact mV a (qe h)
end
end L2
set_option maxHeartbeats 4000000
namespace L2
open PySem PySem.Spec PyProof.Rows
theorem jp {env:Env}{f:Str × NameKind -> List (Str × Addr) -> Sem (ForInStep (List (Str × Addr)))}
    (f1:∀n k r,k≠NameKind.free->f (n,k) r=pure (.yield r))
    (f2:∀n c r,env.cells.lookup n=some c->f (n,NameKind.free) r=pure (.yield ((n,c)::r))) :
    ∀(names:List (Str × NameKind)) (acc:List (Str × Addr)),
    (∀y∈names,y.2=NameKind.free->∃c,env.cells.lookup y.1=some c) ->
    (∀x c,acc.lookup x=some c->env.cells.lookup x=some c) ->
    ∃cl,forIn names acc f=(pure cl:Sem (List (Str × Addr)))/\(∀x c,cl.lookup x=some c->env.cells.lookup x=some c) /\
     (∀x,(acc.lookup x).isSome=true->(cl.lookup x).isSome=true)/\∀y∈names,y.2=NameKind.free->(cl.lookup y.1).isSome=true
 | [],acc,_,h=>⟨acc,by rw[List.forIn_nil],h,λ_ q=>q,λy hy=>nomatch hy⟩
 | (n, k) :: r, acc, hn, h => by
  by_cases hk:k=NameKind.free
  ·subst hk;obtain⟨c,hc⟩:=hn (n,.free) xI rfl;have hc':env.cells.lookup n=some c:=hc;obtain⟨cl,e,a,b,d⟩:=jp f1 f2 r ((n,c)::acc) (λy hy=>hn y (wY _ hy)) (λx c' q=>by
    rw[xo] at q;cases e:x==n with
    | true =>
     rw[e] at q;cases q;rw[show x=n from LawfulBEq.eq_of_beq e];exact hc'
    | false =>
     rw[e] at q;exact h x c' q)
   refine⟨cl,?_,a,λx q=>b x ?_,λy hy hf=>?_⟩
   ·rw[x3,f2 n c acc hc',pure_bind];exact e
   ·rw[xo];cases x==n with
    | true=>rfl
    | false=>exact q
   ·rcases wH.mp hy with rfl | hy
    ·refine b _ ?_;rw[xo];simp
    ·exact d y hy hf
  ·obtain⟨cl,e,a,b,d⟩:=jp f1 f2 r acc (λy hy=>hn y (wY _ hy)) h;refine⟨cl,?_,a,b,λy hy hf=>?_⟩
   ·rw[x3,f1 n k acc hk,pure_bind];exact e
   ·rcases wH.mp hy with rfl | hy
    ·exact absurd hf hk
    ·exact d y hy hf
theorem jr {scope:Scope}{env:Env}(i:∀y ∈ scope.names, y.2=NameKind.free -> ∃c, env.cells.lookup y.1=some c) :
    ∃B,closureFor scope env=pure B/\(∀x c,B.lookup x=some c->env.cells.lookup x=some c) /\
     ∀y∈scope.names,y.2=NameKind.free->∃c,B.lookup y.1=some c:=by
 have g:=jp (env:=env) (f:=λ(x:Str × NameKind) (r:List (Str × Addr))=>match x with
     | (name,kind)=>if (kind==NameKind.free)=true then do let c ← cellOf env name;pure (ForInStep.yield ((name,c)::r)) else pure (ForInStep.yield r))
  (λn k r j=>by
   have z:(k==NameKind.free)=false:=by simpa using j
   simp only[z,xQ,if_false])
  (λn c r b=>by simp only[beq_self_eq_true,if_true,cellOf,b,pure_bind])
  scope.names [] i (λx c q=>by cases q)
 obtain⟨B,e,a,_,d⟩:=g;refine⟨B,?_,a,λy h z=>xN.mp (d y h z)⟩;simp only[closureFor]
 first
  | exact e
  | (simp only[bind_pure];exact e)
  | (refine Eq.trans ?_ e;simp only[bind_pure])
def cxC (X:Cx) (scope:Scope) (N:LS) (cl:List (Str × Addr)) (C:Addr) (s₀:Shared) (H₀:Hp) (ex:List Addr):Cx where
 prog:=X.prog
 w:=X.w
 K:=X.K
 mg:=X.mg
 base:=X.base
 A:=X.A
 N:=N
 s₀:=s₀
 H₀:=H₀
 env:=compEnvC scope cl C X.env
 outer:=X.stack
 stack:=X.stack
 ex:=ex
 fn:=λ_=>false
 calm:=X.calm
 pn:=[]
 xe:=λ_ _=>False
def fv (k:Nat) (fr:List Nat) (σ:St):St:=List.replicate k none++fr.map λi=>(σ[i]?).join
def uV (osc scope:Scope) (NX:LS) (fr:List Nat):Bool:=fr.all λi=>match NX[i]? with
 | some x=>(decide (osc.names.lookup x=some .cell)||decide (osc.names.lookup x=some .free))&&decide (scope.names.lookup x=some .free)
 | none=>false
structure CompSc (osc scope:Scope) (NX own:LS) (fr:List Nat) (N:LS):Prop where
 kind:scope.kind=.function
 nocell:∀y∈scope.names,y.2≠NameKind.cell
 loc:∀y∈scope.names,y.2=NameKind.local->scope.names.lookup y.1=some .local
 free:∀y∈scope.names,y.2=NameKind.free->osc.names.lookup y.1=some .cell∨osc.names.lookup y.1=some .free
 names:N.map some=own.map some++fr.map λi=>NX[i]?
 outer:uV osc scope NX fr=true
def gE (osc scope:Scope) (NX own:LS) (fr:List Nat) (N:LS):Bool :=
 decide (scope.kind=.function)&&(scope.names.all (λy=>decide (y.2≠NameKind.cell))&&(scope.names.all (λy=>decide (y.2=NameKind.local->scope.names.lookup y.1=some .local)) &&
  (scope.names.all (λy=>decide (y.2=NameKind.free->(osc.names.lookup y.1=some .cell∨osc.names.lookup y.1=some .free)))&&(decide (N.map some=own.map some++fr.map λi=>NX[i]?)&&uV osc scope NX fr))))
theorem CompSc.of (h:gE z scope B q fr N=true):CompSc z scope B q fr N:=by
 unfold gE at h;simp only[xj,decide_eq_true_eq,x4] at h;obtain⟨b,f,d,a,e,c⟩:=h;exact⟨b,f,d,a,e,c⟩
theorem CompSc.len (S:CompSc z scope B q fr N):N.length=q.length+fr.length:=by
 have h:=congrArg List.length S.names;simpa using h
theorem dY {env:Env}:∀ {names:List (Str × NameKind)}{x:Str}, names.lookup x=some .free ->
    (names.map λ(n,k)=>if (k==NameKind.free&&env.scope.kind==.function&&env.kindOf n==some .cell) then (n,NameKind.cell) else (n,k)).lookup x=some .cell ∨
    (names.map λ(n,k)=>if (k==NameKind.free&&env.scope.kind==.function&&env.kindOf n==some .cell) then (n,NameKind.cell) else (n,k)).lookup x=some .free
 | [],_,h=>by simp at h
 | (n,k)::r,x,h=>by
  have ih:=@dY env r x;cases hx:x==n with
  | true =>
   simp only[xo,hx] at h;cases h;simp only[xb]
   split
   ·left;simp[xo,hx]
   ·right;simp[xo,hx]
  | false =>
   simp only[xo,hx] at h;simp only[xb]
   split
   ·simp only[xo,hx];exact ih h
   ·simp only[xo,hx];exact ih h
theorem iS {env:Env}:∀ {names:List (Str × NameKind)}{x:Str}{k':NameKind},
    (names.map λ(n,k)=>if (k==NameKind.free&&env.scope.kind==.function&&env.kindOf n==some .cell) then (n,NameKind.cell) else (n,k)).lookup x=some k' ->
    k'=.cell∨k'=.free->(∀y∈names,y.2≠NameKind.cell)->∃y∈names,y.1=x/\y.2=.free
 | [],_,_,h,_,_=>by simp at h
 | (n, k) :: r, x, k', h, hk, nc => by
  have ih:=@iS env r x k';simp only[xb] at h;cases hx:x==n with
  | true =>
   have ex:x=n:=LawfulBEq.eq_of_beq hx;refine⟨(n,k),xI,ex.symm,?_⟩;have nck:k≠.cell:=nc (n,k) xI;by_cases z:k=.free
   ·exact z
   ·have zb:(k==NameKind.free)=false:=by simpa using z
    simp only[zb,Bool.false_and,xQ,if_false,xo,hx] at h;cases h;rcases hk with q | q
    ·exact absurd q nck
    ·exact absurd q z
  | false =>
   have h':(r.map λ(n,k)=>if (k==NameKind.free&&env.scope.kind==.function&&env.kindOf n==some .cell) then (n,NameKind.cell) else (n,k)).lookup x=some k':=by
    split at h
    ·simpa only[xo,hx] using h
    ·simpa only[xo,hx] using h
   obtain⟨y,hy,a,b⟩:=ih h' hk λz hz=>nc z (wY _ hz);exact⟨y,wY _ hy,a,b⟩
section
variable {X:Cx}{pins:AO_}{σ:St}{H:Hp}{s:Shared}
def PTs (X:Cx) (ifs:List Expr) (t:TT):Prop :=
 ∀(pins:AO_) (s:Shared) (σ:St) (H:Hp) (Q:Bool->Hp->Prop),Inv X pins σ H s->t σ H Q ->
  wpAny (model X.prog X.w) X.A (forIn ifs true λc r=>if r=true then do let ok ← isTrue c X.env (eval c X.env);pure (ForInStep.yield ok) else pure (ForInStep.yield r)) (TP X pins σ Q) X.xe s
def nJ:TT:=λ_ H Q=>Q true H
theorem dh:PTs X [] nJ:=λ_ _ _ H _ I h=>wpAny_tests_nil ⟨H,I,h⟩
theorem bS (h:PT X c t):PTs X [c] t:=λa s b H Q I q=>wpAny_tests_one (h a s b H Q I q)
theorem nx (h:wpAny M A t Q (λ_ _=>False) s) (b:∀a s,Q a s->q a s):wpAny M A t q E s :=
 xl h b λ_ _ f=>f.elim
theorem pT {scope:Scope}{B:LS}{fr:List Nat}{N:LS}{G:List (Str × Addr)}{s3 s4:Shared}{I:Hp}{Y:List Addr}{m:Str -> OV}
    (hc:X.calm=true) (S:CompSc X.env.scope scope X.N B fr N)
    (t:∀x c,G.lookup x=some c->X.env.cells.lookup x=some c) (W:∀y∈scope.names,y.2=NameKind.free->∃c,G.lookup y.1=some c)
    (a:Inv X pins σ I s3) (P:∀b∈Y,FpOk X pins I b/\b<s3.heap.objs.size)
    (J:∀b o,s3.heap.get? b=some o->s4.heap.get? b=some o) (hn:s4.heap.Ns s3.heap.objs.size m) (Z:s4.os=s3.os) (hg:s4.gens=s3.gens) :
    Inv (cxC X scope N G s3.heap.objs.size s3 I Y) [] (fv B.length fr σ) I s4:=by
 have s:(compEnvC scope G s3.heap.objs.size X.env).scope.kind=.function:=by
  show (relabel scope X.env).kind=.function;exact S.kind
 refine⟨⟨a.ok.mod,s,a.ok.glob,a.ok.blt,wr _,?_,?_,?_,a.ok.hd,a.ok.frames,.inl rfl,?_,?_,?_,?_,?_,a.stack,a.stkFree⟩,Z,?_,Un.kept J,⟨m,hn,?_⟩,?_,?_,?_,?_,a.hok.kept J,?_⟩
 ·exact λx y c n d=>a.ok.inj x y c (t x c n) (t y c d)
 ·intro x hx;have L:(relabel scope X.env).names.lookup x=some .cell∨(relabel scope X.env).names.lookup x=some .free:=hx;obtain⟨E,Q,T⟩:∃E,(relabel scope X.env).names.lookup x=some E/\(E=NameKind.cell∨E=NameKind.free):=by
   rcases L with q | q
   ·exact⟨_,q,.inl rfl⟩
   ·exact⟨_,q,.inr rfl⟩
  obtain⟨y,hy,e,hf⟩:=iS (env:=X.env) Q T S.nocell;subst e;exact W y hy hf
 ·exact λx c h=>by cases h
 ·intro b C;obtain⟨f,K⟩:=P b C;refine⟨wJ K,λx c h=>f.2.2.2.2.1 x c (t x c h)⟩
 ·exact λb o e=>a.bs b o e
 ·exact wM a.ok.bsz a.sz
 ·intro b o e C;obtain⟨f,K⟩:=P b C;rcases f.2.2.2.1 with z | z
  ·exact a.ok.noex b o e z
  ·exact absurd (w8 (wz e) (wM a.ok.bsz z)) (xp _)
 ·intro b C;obtain⟨f,K⟩:=P b C;show b∉frs X.stack;intro z;rcases wH.mp (a.stkSub b z) with q | q
  ·exact f.2.1 q
  ·exact f.2.2.1 q
 ·rw[hg];exact a.bare
 ·intro i x v n d h3;have n:N[i]? = some x:=n;obtain⟨m0,a0,O⟩:=a.loc;have hi:B.length<=i:=by
   refine xE λq=>?_;unfold fv at d;rw[xY (by simpa using q),List.getElem?_replicate] at d
   split at d <;> cases d
  obtain⟨j,rfl⟩:=Nat.exists_eq_add_of_le hi;have g:(fr.map λi=>(σ[i]?).join)[j]? = some (some v):=by
   unfold fv at d;rw[xX (by simp)] at d;simpa using d
  rw[wN] at g;cases ej:fr[j]? with
  | none=>rw[ej] at g;cases g
  | some k =>
   rw[ej] at g;have D:(σ[k]?).join=some v:=wA g;have R:σ[k]? = some (some v):=by
    cases q:σ[k]? with
    | none=>rw[q] at D;cases D
    | some o=>rw[q] at D;exact congrArg some D
   have V:X.N[k]? = some x:=by
    have q:=congrArg (λl=>l[B.length+j]?) S.names;simp only[wN,n,xX (show (B.map some).length<=B.length+j by simp),wt,Nat.add_sub_cancel_left,ej,Option.map_some] at q;exact(wA q).symm
   have U:=x4.mp S.outer k (wE ej);rw[V] at U;simp only[xj,Bool.or_eq_true,decide_eq_true_eq] at U;obtain⟨A,w⟩:=U;have M:Vis X.env.scope x:=.inr A;obtain⟨u,r,l⟩:=O k x v V R M;refine⟨u,r,?_⟩;rcases l with⟨l,_⟩ | ⟨_,c,e,z⟩
   ·have l:X.env.scope.names.lookup x=some .local:=l;rcases A with q | q
    ·rw[l] at q;cases q
    ·rw[l] at q;cases q
   ·obtain⟨H,F⟩:=W (x,.free) (PySem.mem_of_lookup w) rfl;have F:G.lookup x=some H:=F;have ec:H=c:=wA ((t x H F).symm.trans e);subst ec;refine .inr ⟨dY (env:=X.env) w,H,F,?_⟩;obtain⟨o,n,d⟩:=z;exact⟨o,J _ _ n,d⟩
 ·intro x c e;obtain⟨v,o,n,d⟩:=a.cell x c (t x c e);exact⟨v,o,J _ _ n,d⟩
 ·exact a.hok.fresh (wr _)
 ·exact λx c e=>a.freeC x c (t x c e)
 ·intro p hp;exact absurd hp (by simp[cxC])
 ·show (fv B.length fr σ).length=N.length;rw[S.len];simp[fv]
end
section
variable {prog:Program}{w:World}{A:Around}{R:Result->Shared->Prop}{s:Shared}
theorem oz (J:Nat -> Shared -> Prop)
    (a:∀k s, J k s -> ∀E:Value -> Shared -> Prop, wpAny (model prog w) A (pyNext it) (λr s1 => match r with
     | none=>R (.ok .next) s1
     | some v => wpAny (model prog w) A (letOwnedTupleGo tg it v) (λ_ G => wpAny (model prog w) A (assign tg env v) (λ_ s3 =>
         wpAny (model prog w) A (forIn ifs true λc r=>if r=true then do let q ← isTrue c env (eval c env);pure (ForInStep.yield q) else pure (ForInStep.yield r)) (λq s4 =>
          if q=true then wpAny (model prog w) A (eval elt env) (λx B=>wpAny (model prog w) A (call (.builtin "list.append") [z,x]) (λ_ I=>∃m,m<k/\J m I) E B) E s4
          else ∃m,m<k/\J m s4) E s3) E G) E s1) E s)
    (k:Nat) (h:J k s):codeAny (model prog w) A (.compLoop (.ListComp elt [⟨tg,iter,ifs,0⟩] scope pos) 0 it z env) R s:=by
 refine codeAny_loop rfl J (λk s j=>?_) k h;show wpAny _ A ((compTurn (.ListComp elt [⟨tg,iter,ifs,0⟩] scope pos) 0 it z env).onRaise (λe=>do noteFrame e env;theTreesLotGoes e)) _ _ s;refine wpAny_noted ?_;rw[compTurn_list];refine wq (wpAny_standAt (wq (thn (a k s j _) λr s1 d=>?_)));cases r with
 | none=>exact wu d
 | some v =>
  refine wq (thn d λ_ G l=>wq (thn l λ_ s3 g=>wq (thn g λq s4 b=>?_)));cases q with
  | false=>exact wu ⟨rfl,b⟩
  | true=>exact wq (wq (thn b λx B i=>wq (thn i λ_ I f=>wu (wu ⟨rfl,f⟩))))
end
def ft (k:Nat) (fr:List Nat) (g:TG) (tc:TT) (te:TE) (J:It) (σ:St) (H1:Hp) (Q:VK):Prop :=
 ∀D,H1 D=none->∃W:Nat->Nat->LV->SH,(∃m,W 0 m [] (fv k fr σ) (upd H1 D (.lst [])))/\∀i m acc σ' H',W i m acc σ' H'->H' D=some (.lst acc) ->
  (J.stop i H'/\Q (.ref D) H')∨(J.go i H'/\∃N:LV->SH,(∀acc' σ2 H2,N acc' σ2 H2->∃m',m'<m/\W (i+1) m' acc' σ2 H2)/\∀x H2,J.yld i H' x H2->g x σ' H2 λσ2 H3=>tc σ2 H3 λb H4 =>
   if b=true then te σ2 H4 λy H5=>H5 D=some (.lst acc)/\acc.length<sizeLine/\N (acc++[y]) σ2 (upd H5 D (.lst (acc++[y])))
   else H4 D=some (.lst acc)/\N acc σ2 H4)
def nt (k:Nat) (fr:List Nat) (wi:TI) (g:TG) (tc:TT) (te:TE):TE:=λσ H Q=>wi σ H λJ H1=>ft k fr g tc te J σ H1 Q
section
variable {X:Cx}{pins:AO_}{σ:St}{H:Hp}{s:Shared}{tg elt iter:Expr}{ifs:List Expr}{scope:Scope}{pos:Pos}
theorem iy {a3:LS}{fr:List Nat}{N:LS}{Y:List (Str × Addr)}{O:List Addr}{J:It}{tn:Nat -> Heap -> Prop}{POST:Value -> Addr -> Result -> Shared -> Prop}
    (hc:X.calm=true) (S:CompSc X.env.scope scope X.N a3 fr N)
    (c1:∀x c,Y.lookup x=some c->X.env.cells.lookup x=some c) (c2:∀y∈scope.names,y.2=NameKind.free->∃c,Y.lookup y.1=some c)
    (hg:∀C U I ex,PG (cxC X scope N Y C U I ex) tg g) (ht:∀C U I ex,PTs (cxC X scope N Y C U I ex) ifs tc) (he:∀C U I ex,PE (cxC X scope N Y C U I ex) elt te)
    (I2:Inv X pins σ H2 B) (T:Turn X.prog X.w X.K tg J O it tn) (t2:tn 0 B.heap) (A:∀b∈O,FpOk X pins H2 b) (q:ft a3.length fr g tc te J σ H2 Q)
    (b2:∀D C s' H' m,Inv X pins σ H' s'->FpOk X pins H' C->s'.heap.Ns C m->Q (.ref D) H'->POST (.ref D) C (.ok .next) s') :
    wpAny (model X.prog X.w) X.A (newList []) (λG s3=>wpAny (model X.prog X.w) X.A (newFunctionEnv scope X.env.globals Y [] X.env.qual none .none (some X.env)) (λa0 s4 =>
     codeAny (model X.prog X.w) X.A (.compStart (.ListComp elt [⟨tg,iter,ifs,0⟩] scope pos) 0 (.ref it) G { a0 with scope:=relabel scope X.env }) (POST G a0.locals) s4) E s3) E B:=by
 refine wpAny_newObj_type (wpAny_newFunctionEnv S.nocell (by intro y hy;simp at hy) (λh4 a5 a8=>?_) S.kind);dsimp only at a5 a8 ⊢;have hD:H2 B.heap.objs.size=none:=I2.hok.fresh (wr _);obtain⟨W,⟨m0,w0⟩,a9⟩:=q B.heap.objs.size hD;have I3:Inv X pins σ (upd H2 B.heap.objs.size (.lst [])) { B with heap:=B.heap.push { cls:=.type "list",dict:=none,data:=.seq ([]:List Value).toArray },toks:=B.toks } :=
  I2.laid (λb u q=>wD _ q) (wr _) ⟨wW _,[],_,.nil,wQ _ rfl⟩
 generalize a6:B.heap.push { cls:=.type "list",dict:=none,data:=.seq ([]:List Value).toArray }=f at *;have z3:f.objs.size=B.heap.objs.size+1:=by rw[<- a6,x6]
 have a7:∀b o,B.heap.get? b=some o->f.get? b=some o:=λb o e=>by rw[<- a6];exact wD _ e
 have F:∀b o,f.get? b=some o->h4.get? b=some o:=λb o e=>a8.extBut b o (wJ (wz e)) (wD _ e);have K:∀b∈O,b<B.heap.objs.size:=λb a=>by
  obtain⟨o,e,_⟩:=T.obj _ _ t2 b a;exact wz e
 have f3:∀b∈O,FpOk X pins (upd H2 B.heap.objs.size (.lst [])) b/\b<f.objs.size:=λb a=>by
  refine⟨⟨?_,(A b a).2⟩,by rw[z3];exact Nat.lt_succ_of_lt (K b a)⟩;rw[ag (wJ (K b a))];exact(A b a).1
 generalize s:({ B with heap:=f,toks:=B.toks }:Shared)=s3 at I3;have l:s3.heap=f:=by rw[<- s]
 have c4:({ B with heap:=f }:Shared)=s3:=s;have I4:=pT (s3:=s3) (s4:={ s3 with heap:=h4,toks:=s3.toks+([]:List (Str × Value)).length }) hc S c1 c2 I3 (by rw[l];exact f3) (by rw[l];exact F) (m:=λx=>([]:List (Str × Value)).reverse.lookup x) (by rw[l];exact a5) rfl rfl;rw[l] at I4;have j:∀ {H':Hp} {s':Shared} {d:St} {pl:AO_},Inv (cxC X scope N Y f.objs.size s3 (upd H2 B.heap.objs.size (.lst [])) O) pl d H' s'->(∀p∈pl,p.1∉O)->(∀b∈O,H' b=none)->∀b∈O,FpOk (cxC X scope N Y f.objs.size s3 (upd H2 B.heap.objs.size (.lst [])) O) pl H' b:=λ{H' s' d pl} I' b8 hn b a=>by
  refine⟨hn b a,wJ (f3 b a).2,I'.ok.exfs b a,.inl a,λx c e=>(A b a).2.2.2.2.1 x c (c1 x c e),λp hp=>?_⟩;intro z;exact b8 p (by simpa [cxC] using hp) (z ▸ a)
 have w:∀s4:Shared, s4={ s3 with heap := h4, toks := s3.toks+([]:List (Str × Value)).length } ->
     codeAny (model X.prog X.w) X.A (.compLoop (.ListComp elt [⟨tg,iter,ifs,0⟩] scope pos) 0 (.ref it) (.ref B.heap.objs.size) (compEnvC scope Y f.objs.size X.env)) (POST (.ref B.heap.objs.size) f.objs.size) s4:=by
  rintro s4 rfl;refine oz (λn s'=>∃i G d H',Inv (cxC X scope N Y f.objs.size s3 (upd H2 B.heap.objs.size (.lst [])) O) [] d H' s'/\tn i s'.heap/\(∀b∈O,H' b=none)/\H' B.heap.objs.size=some (.lst G)/\W i n G d H') ?_ m0
   ⟨0,[],_,_,I4,T.keep _ _ _ t2 λb a o e=>F b o (a7 b o e),λb a=>(f3 b a).1.1,ac,w0⟩
  rintro n s5 ⟨i,G,t,P,I5,t5,V,d5,w5⟩ E';rcases a9 i n G t P w5 d5 with⟨a4,qn⟩ | ⟨go,NN,M,Z⟩
  ·refine thn (T.done (cxC X scope N Y f.objs.size s3 (upd H2 B.heap.objs.size (.lst [])) O) rfl rfl rfl hc i [] s5 t P E' I5 (j I5 (by simp) V) t5 a4) λr s6 ⟨hr,H⟩=>?_;subst hr;obtain⟨m6,n6,_⟩:=id H.loc;have J6:Inv X pins σ P s6:=I3.call' (ch:=O) H.os H.base H.hok H.bare λb a=>⟨(A b a).2.2.2.1,(A b a).2.1,(A b a).2.2.2.2.1,(A b a).2.2.2.2.2⟩
   exact b2 _ _ s6 P m6 J6 (I2.fpOk (by rw[z3];exact Nat.le_succ _) H.free) n6 qn
  ·refine thn (T.item (cxC X scope N Y f.objs.size s3 (upd H2 B.heap.objs.size (.lst [])) O) rfl rfl rfl hc i [] s5 t P E' I5 (j I5 (by simp) V) t5 go) λr s6 ⟨u,hr,h6⟩=>?_;subst hr;refine thn h6 λ_ s7 ⟨x,H7,I7,r7,y7,t7,b9⟩=>?_;have b5:=I7.pinned (j I7 (by simp) b9) (T.obj _ _ t7);have h:∀ {s':Shared} {H':Hp} {d:St},Inv (cxC X scope N Y f.objs.size s3 (upd H2 B.heap.objs.size (.lst [])) O) ([]++gM O s7.heap) d H' s'->tn (i+1) s'.heap/\∀b∈O,H' b=none:=λ{s' H' d} I'=>by
    refine⟨T.keep _ _ _ t7 λb a o e=>(I'.pin (b,o) (wS _ (wS _ (cL a e)))).1,λb a=>?_⟩;obtain⟨o,e,_⟩:=T.obj _ _ t7 b a;exact(I'.pin (b,o) (wS _ (wS _ (cL a e)))).2.1
   refine nx (hg _ _ _ _ _ s7 t H7 x u _ b5 r7 (Z x H7 y7)) λ_ s8 ⟨k,H8,I8,q8⟩=>?_;refine nx (ht _ _ _ _ _ s8 k H8 _ I8 q8) λok s9 ⟨H9,I9,q9⟩=>?_;cases ok with
   | false =>
    obtain⟨d9,n9⟩:=q9;obtain⟨m',hm,w9⟩:=M _ _ _ n9;obtain⟨a1,a2⟩:=h I9;exact⟨m',hm,i+1,G,k,H9,I9.unpinned,a1,a2,d9,w9⟩
   | true =>
    rw[if_pos rfl];refine nx (he _ _ _ _ _ s9 k H9 _ I9 q9) λy b7 ⟨v,L,b1,b0,b3,b6,c0⟩=>?_;obtain⟨m',hm,b4⟩:=M _ _ _ c0;refine nx (jJ _ b7 k L (.ref B.heap.objs.size) [v] (.ref B.heap.objs.size) [y] (λ_ H'=>H'=upd L B.heap.objs.size (.lst (G++[v]))) b1 rfl (.cons b0 .nil) ⟨_,G,v,rfl,rfl,b3,b6,rfl⟩) λ_ c6 ⟨_,c5,R,_,c3⟩=>?_;subst c3;obtain⟨a1,a2⟩:=h R;exact⟨m',hm,i+1,_,k,_,R.unpinned,a1,a2,ac,b4⟩
 exact codeAny_compStart_list (w _ (by rw[<- s])) (T.self _ 0 _ _ _ (T.keep _ _ _ t2 λb a o e=>F b o (a7 b o e)) (w _ (by rw[<- s])))
theorem gT (d:Scope) (n c:LS) (l:List Nat) (N:LS) (hc:X.calm=true)
    (O:PI X tg iter wi) (Y:∀G C B z ex,PG (cxC X scope N G C B z ex) tg g) (F:∀G C B z ex,PTs (cxC X scope N G C B z ex) ifs tc) (he:∀G C B z ex,PE (cxC X scope N G C B z ex) elt te)
    (w:∀x,foldedSetIterable iter X.env x=pure x:=by intro _;rfl) (f:X.env.scope=d:=by rfl) (j:X.N=n:=by rfl) (hS:gE d scope n c l N=true:=by decide +kernel) :
    PE X (.ListComp elt [⟨tg,iter,ifs,0⟩] scope pos) (nt c.length l wi g tc te):=by
 intro a s p H Q I h;have S:CompSc X.env.scope scope X.N c l N:=by rw[f,j];exact CompSc.of hS
 obtain⟨G,i,R,c2⟩:=jr (scope:=scope) (env:=X.env) λy P U=>I.ok.has y.1 (S.free y P U);rw[eval_ListComp];refine wpAny_comprehension_free (use:=none) rfl w i S.kind S.loc (thn (O a s p H _ I h) λv s1 M=>thn M λE s2 W=>?_);obtain⟨it,fp,tn,J,H2,e,I2,T,Z,f2,q⟩:=W;subst e;refine iy (POST:=λk C=>compPost (model X.prog X.w) X.A X.xe none (EP X a p Q) k C) hc S R c2 (Y G) (F G) (he G) I2 T Z f2 q λD C V t m I' fC ns q'=>?_;refine⟨m,ns,λh' r=>⟨.ref D,t,?_,rfl,q'⟩⟩;obtain⟨L,A,_,u,K,g5⟩:=fC;exact I'.turned (t':=V.toks) (λb o hb e=>(r.2 b hb).trans e) L A u K g5
theorem eH (hN:X.N.Nodup) (p:X.N[i]? = some x) (L:X.env.scope.names.lookup x=some .local)
    (n:swapsWith (.ListComp elt [⟨tg,iter,ifs,0⟩] scope pos) (some (.Name x px)) U.line X.env=pure true)
    (j:Scope) (P d:LS) (F:List Nat) (N:LS) (hc:X.calm=true)
    (hi:PI X tg iter wi) (hg:∀O C G B ex,PG (cxC X scope N O C G B ex) tg g) (Y:∀O C G B ex,PTs (cxC X scope N O C G B ex) ifs tc) (he:∀O C G B ex,PE (cxC X scope N O C G B ex) elt te)
    (hs:∀x,foldedSetIterable iter X.env x=pure x:=by intro _;rfl) (k:X.env.scope=j:=by rfl) (u:X.N=P:=by rfl) (hS:gE j scope P d F N=true:=by decide +kernel) :
    PS X (.Assign [.Name x px] (.ListComp elt [⟨tg,iter,ifs,0⟩] scope pos) U) (qg (nt d.length F wi g tc te) (bp i)):=by
 intro c s σ H D I h;have S:CompSc X.env.scope scope X.N d F N:=by rw[k,u];exact CompSc.of hS
 obtain⟨O,l,c1,c2⟩:=jr (scope:=scope) (env:=X.env) λy hy hf=>I.ok.has y.1 (S.free y hy hf);rw[exec_Assign_Name_used _ _ _ _ n];refine wq (wpAny_standAt (wq ?_));show wpAny _ X.A (do let _ ← comprehension (.ListComp elt [⟨tg,iter,ifs,0⟩] scope pos) scope X.env _ (newList []) false (eval iter X.env) (some (assign (.Name x px) X.env))) _ _ s;refine wq (thn (wpAny_comprehension_free (use:=some (assign (.Name x px) X.env)) (Q:=λ_ f=>SP X c D .next f) rfl hs l S.kind S.loc (thn (hi c s σ H _ I h) λv s1 h1=>thn h1 λV s2 h2=>?_)) λ_ f hq=>wu (wu hq));obtain⟨it,fp,tn,J,H2,e,I2,T,t2,f2,q⟩:=h2;subst e;refine iy (POST:=λE C=>compPost (model X.prog X.w) X.A X.xe (some (assign (.Name x px) X.env)) (λ_ f=>SP X c D .next f) E C) hc S c1 c2 (hg O) (Y O) (he O) I2 T t2 f2 q λA C f R m I' fC ns q'=>?_;show wpAny _ X.A (assign (.Name x px) X.env (.ref A)) _ _ f;refine wpAny_assign_Name (jN I' hN p (.inl L) (show RelV (.ref A) (.ref A) from rfl) (λs3 I3 t=>?_) (.inr L));obtain⟨a,t,ha⟩:=t;obtain⟨Z,K,g2,g3,M,g5⟩:=fC;have W:C≠a:=by
  rcases ha with z | z
  ·rw[z];exact K
  ·exact λw=>M x a z w.symm
 refine⟨m,ns.sameBut t W,λh' r=>⟨_,R,?_,q'⟩⟩;exact I3.turned (t':=s3.toks) (λb o hb e=>(r.2 b hb).trans e) Z K g3 M g5
end
def Ite (K:W.Frag) (a:Addr):It :=
 ⟨λi H=>∃xs x,SqL K H a xs/\xs[i]? = some x,λi H v H'=>∃p x,H p=none/\v=.ref p/\(∀xs,SqL K H a xs->xs[i]? = some x)/\H'=upd H p (.tup [.int i,x]),λi H=>∃xs,SqL K H a xs/\xs.length<=i⟩
theorem jA {P:Program}{w:World}{K:W.Frag}{elts:List Expr}{k:Nat}{tp:Pos}(a e it:Addr) (hne:e ≠ it) :
    Turn P w K (.Tuple elts k tp) (Ite K a) [e,it] e (λi h=>(∃old,IsEnum h e it i old)/\h.IsListIter it a i) where
 mem:=by simp
 obj:=λi h st b hb=>by
  obtain⟨⟨old,he⟩,hit⟩:=st;have hb:b=e∨b=it:=by simpa using hb
  rcases hb with z | z
  ·subst z;exact⟨_,he,λv z=>by cases z⟩
  ·subst z;obtain⟨o,e1,c,d⟩:=hit;exact⟨o,e1,λv z=>by rw[d] at z;cases z⟩
 keep:=λi h h' st kk=>by
  obtain⟨⟨old,he⟩,hit⟩:=st;exact⟨⟨old,kk e (by simp) _ he⟩,hit.at λo q=>kk it (by simp) o q⟩
 item := by
  intro X hP hw hK hc i pins s σ H E I hf st hg;subst hP hw hK;obtain⟨⟨old,he⟩,hit⟩:=st;obtain⟨xs,x,hq,hx⟩:=hg;obtain⟨its,rv,p,hz⟩:=I.list hq;obtain⟨u,hu,ru⟩:=rv.get hx;obtain⟨f0,f1,f2,f3,f4,f5⟩:=hf e (by simp);obtain⟨g0,g1,g2,g3,g4,g5⟩:=hf it (by simp);refine wpAny_pyNext_enum_item he hit p.isList (x:=u) (by simpa using hu) hne λh1 ho hit1 ht1 hz1 k1=>?_;have hel:e<s.heap.objs.size:=wz he;have hil:it<s.heap.objs.size:=by obtain⟨o,q,_⟩:=hit;exact wz q
  refine⟨_,rfl,wpAny_letOwnedTupleGo_enum ho λh2 he2 sb2=>?_⟩;have sb2:Heap.SameBut e h1 h2:=sb2;have T2:h2.get? s.heap.objs.size=some { cls:=.type "tuple",data:=.seq #[.int i s.toks,u] }:=(sb2.2 _ (xK hel)).trans ht1;have hp:H s.heap.objs.size=none:=I.hok.fresh (wr _);have nit:∀b v,H b=some v->b≠e/\b≠it:=λb v q=>⟨λz=>(by rw[z,f0] at q;cases q),λz=>(by rw[z,g0] at q;cases q)⟩
  have kk:∀b o,b≠e->b≠it->s.heap.get? b=some o->h2.get? b=some o:=λb o n1 n2 q=>(sb2.2 b n1).trans (k1 b o n1 n2 q);have up:∀b v,H b=some v->upd H s.heap.objs.size (.tup [.int i,x]) b=some v:=λb v q=>by rw[ag (av q hp)];exact q
  have I1:Inv X pins σ (upd H s.heap.objs.size (.tup [.int i, x])) { s with heap := h2, gens := s.gens, drawn := s.drawn, toks := s.toks+1 } := by
   refine I.step (g':=s.gens) (d':=s.drawn) (ch:=[e,it]) (λb hb=>?_) (λb o _ _ hb q _=>kk b o (λz=>hb (by simp[z])) (λz=>hb (by simp[z])) q) (λb o _ _ hb q _=>⟨o.slots,kk b o (λz=>hb (by simp[z])) (λz=>hb (by simp[z])) q⟩) (λb o _ q n=>?_)
    (λb o hb q=>⟨o,kk b o (λz=>hb (by simp[z])) (λz=>hb (by simp[z])) q⟩) (λb ys q=>up b _ q) (λb o v q=>up b _ q) (λb ps q=>⟨#[],by rw[up b _ q];simp⟩) (λm hm=>?_) (λb v q=>?_) I.bare
   ·have hb:b=e∨b=it:=by simpa using hb
    rcases hb with z | z
    ·subst z;exact⟨f3,f1,f4,f5⟩
    ·subst z;exact⟨g3,g1,g4,g5⟩
   ·rw[ag (wJ (wz q))];exact n
   ·obtain⟨o,es,ep,ho,r⟩:=hm;exact⟨o,es,ep,kk _ o (Ne.symm f1) (Ne.symm g1) ho,r⟩
   ·by_cases hb:b=s.heap.objs.size
    ·subst hb;rw[ac] at q;have q':HO.tup [V.int i,x]=v:=wA q;subst q';exact⟨by show 2<=sizeLine;decide,[.int i s.toks,u],.cons ⟨_,rfl⟩ (.cons ru .nil),⟨_,T2,rfl,_,rfl,rfl⟩⟩
    ·rw[ag hb] at q;refine(I.hok b v q).stay (λc v' hc q'=>?_) (λc q=>up c _ q) λc ys q=>up c _ q;rcases hc with z | z
     ·rw[z] at q' ⊢;exact kk b v' (nit b v q).1 (nit b v q).2 q'
     ·exact kk c v' (nit c _ z).1 (nit c _ z).2 q'
  refine⟨.ref s.heap.objs.size,upd H s.heap.objs.size (.tup [.int i,x]),I1,rfl,⟨_,x,hp,rfl,λys hy=>by rw[I.list_inj hy hq];exact hx,rfl⟩,⟨⟨u,?_⟩,?_⟩,λb hb=>?_⟩
  ·exact(by simpa using he2)
  ·exact hit1.at λo q=>(sb2.2 it (Ne.symm hne)).trans q
  ·have hb:b=e∨b=it:=by simpa using hb
   rcases hb with z | z
   ·rw[z,ag (wJ hel)];exact f0
   ·rw[z,ag (wJ hil)];exact g0
 done:=by
  intro X hP hw hK hc i pins s σ H E I hf st hg;subst hP hw hK;obtain⟨⟨old,he⟩,hit⟩:=st;obtain⟨xs,hq,hx⟩:=hg;obtain⟨its,rv,p,hz⟩:=I.list hq;obtain⟨g0,g1,g2,g3,g4,g5⟩:=hf it (by simp);have hl:=rv.length;exact wpAny_pyNext_enum_end (I.ok.hd hc) he hit p.isList (by simp;omega) λh' eb=>⟨rfl,I.turned (t':=s.toks) (λb o hb q=>eb b o hb q) g0 g1 g3 g4 g5⟩
 self:=λ_ _ _ _ _ st h=>by
  obtain⟨⟨old,he⟩,_⟩:=st;exact wpAny_pyIter_enum he h
def rR (K:W.Frag) (ta:TA):TI:=λσ H R=>ta σ H λvs H1=>∃a,vs=[.ref a]/\(∃xs,SqL K H1 a xs)/\R (Ite K a) H1
theorem tz {X:Cx}{elts:List Expr}{k:Nat}{tp:Pos}{a:Expr}{ta:TA}{p pos:Pos}(t:Gl X "enumerate") (o:X.mg "enumerate"=none) (D:PA X [a] ta) (l:starEach [a] X.env=[(false,eval a X.env)]:=by rfl) :
    PI X (.Tuple elts k tp) (.Call (.Name "enumerate" p) [a] [] pos) (rR X.K ta):=by
 intro f s y H R I h;refine Call_ (dE I t o boot_enumerate (PyProof.Rows.callWith_type1 (thn (D pos f s y H _ I h) λF c ⟨K,n,d,A,B⟩=>?_) l rfl));obtain⟨a,e,⟨J,x⟩,q⟩:=B;subst e;obtain⟨u,rfl,w⟩:=cK A;cases w;obtain⟨C,L,E,G⟩:=d.list x;refine call_enumerate_list E.isList λv j i m r=>?_;refine wpAny_pyIter_enum (s:={ c with heap:=v }) j ?_;refine⟨_,[c.heap.objs.size+1,c.heap.objs.size],_,_,n,rfl,d.kept (t':=c.toks) r,jA a _ _ (Nat.succ_ne_self _),⟨⟨_,j⟩,i⟩,λb g=>?_,q⟩;have g:b=c.heap.objs.size+1∨b=c.heap.objs.size:=by simpa using g
 rcases g with z | z
 ·subst z;exact d.fpOk (Nat.le_succ _) (d.hok.fresh (Nat.le_succ _))
 ·subst z;exact d.fpOk (wr _) (d.hok.fresh (wr _))
mutual
inductive Rep (H:Hp):V->PyData->Prop
 | non:Rep H .non .none
 | bl (b:Bool):Rep H (.bl b) (.bool b)
 | int (i:Int):Rep H (.int i) (.int i)
 | str (x:Str):Rep H (.str x) (.str x)
 | lst {a:Addr} {xs:LV} {ds:List PyData}:H a=some (.lst xs)->RepAll H xs ds->Rep H (.ref a) (.list ds)
 | tup {a:Addr} {xs:LV} {ds:List PyData}:H a=some (.tup xs)->RepAll H xs ds->Rep H (.ref a) (.tuple ds)
inductive RepAll (H:Hp):LV->List PyData->Prop
 | nil:RepAll H [] []
 | cons {x:V} {xs:LV} {d:PyData} {ds:List PyData}:Rep H x d->RepAll H xs ds->RepAll H (x::xs) (d::ds)
end
mutual
theorem Rep.reads (ok:HOk P w H h):∀ {v:V}{d:PyData}{u:Value},Rep H v d->RelV v u->∃as,Reads h u d as
 | _,_,_,.non,r=>by cases r;exact⟨_,.none⟩
 | _,_,_,.bl b,r=>by cases r;exact⟨_,.bool b⟩
 | _,_,_,.int i,r=>by obtain⟨t,rfl⟩:=r;exact⟨_,.int i t⟩
 | _,_,_,.str x,r=>by obtain⟨t,rfl⟩:=r;exact⟨_,.str x t⟩
 | _,_,_,.lst (a:=a) (xs:=xs) e rs,r=>by
  cases r;obtain⟨_,its,n,rv,eh⟩:=(show ObjOk P w H h a (.lst xs) from ok a _ e)
  obtain⟨as,z⟩:=RepAll.reads ok rs rv;exact⟨_,.list eh rfl rfl (by simpa using z)⟩
 | _,_,_,.tup (a:=a) (xs:=xs) e rs,r=>by
  cases r;obtain⟨_,its,rv,o,eh,hc,n,hd,_⟩:=(show ObjOk P w H h a (.tup xs) from ok a _ e)
  obtain⟨as,z⟩:=RepAll.reads ok rs rv;exact⟨_,.tuple eh hc hd (by simpa using z)⟩
theorem RepAll.reads (ok:HOk P w H h):∀ {vs:LV}{ds:List PyData}{us:List Value}, RepAll H vs ds -> Vals vs us -> ∃as, ReadsAll h us ds as
 | _,_,_,.nil,r=>by cases r;exact⟨_,.nil⟩
 | _,_,_,.cons q qs,r=>by
  cases r with
  | cons r1 r2 =>
   obtain⟨as,z⟩:=Rep.reads ok q r1;obtain⟨bs,zs⟩:=RepAll.reads ok qs r2;exact⟨_,.cons z zs⟩
end
mutual
theorem Rep.same (s:Same H H'):∀ {v:V}{d:PyData},Rep H v d->Rep H' v d
 | _,_,.non=>.non
 | _,_,.bl b=>.bl b
 | _,_,.int i=>.int i
 | _,_,.str x=>.str x
 | _,_,.lst e rs=>.lst (s _ _ e) (rs.same s)
 | _,_,.tup e rs=>.tup (s _ _ e) (rs.same s)
theorem RepAll.same (s:Same H H'):∀ {vs:LV}{ds:List PyData},RepAll H vs ds->RepAll H' vs ds
 | _,_,.nil=>.nil
 | _,_,.cons q qs=>.cons (q.same s) (qs.same s)
end
section
variable {X:Cx}
def shp (d:PyData):Prop:=SeqAt.shaped d=true
def rEqD:R2:=λx y H Q=>∃da db,Rep H x da/\Rep H y db/\shp da/\shp db/\Q (.bl (PyData.eqv da db)) H
def rNeD:R2:=λx y H Q=>∃da db,Rep H x da/\Rep H y db/\shp da/\shp db/\Q (.bl (!PyData.eqv da db)) H
theorem u4 (g:X.A.units+64<cLine):OpR X (compareOp .Eq) rEqD:=by
 intro a s n H x y v u Q I j c h;obtain⟨l,o,k,i,d,b,q⟩:=h;obtain⟨m,e⟩:=k.reads I.hok j;obtain⟨p,f⟩:=i.reads I.hok c;exact eq_dataH e f d b g ⟨.bl _,H,I,rfl,q⟩
theorem uX (g:X.A.units+64<cLine):OpR X (compareOp .NotEq) rNeD:=by
 intro a s n H x y v u Q I j c h;obtain⟨l,o,k,i,d,b,q⟩:=h;obtain⟨m,e⟩:=k.reads I.hok j;obtain⟨p,f⟩:=i.reads I.hok c;exact ne_dataH e f d b g ⟨.bl _,H,I,rfl,q⟩
theorem mz:∀ {ys:LS}{us:List Value}, Vals (ys.map V.str) us -> StrsAre us ys
 | [],us,r=>by cases r;exact .nil
 | y::ys,us,r=>by
  cases r with
  | cons r1 r2 =>
   obtain⟨t,rfl⟩:=r1;exact .cons y t (mz r2)
def rO:V->LV->Hp->VK->Prop:=λx xs H Q=>∃z p ys,x=.str z/\xs=[.ref p]/\H p=some (.lst (List.map V.str ys))/\(ys.map (·.length)).sum+ys.length * z.length<=16777216/\Q (.str (Txt.join z ys)) H
theorem ue:MtR X "str.join" rO:=by
 intro c s r H x o v m Q I j b h;obtain⟨z,p,f,rfl,rfl,e,g,q⟩:=h;obtain⟨t,rfl⟩:=j;obtain⟨u,rfl,i⟩:=cK b;cases i;obtain⟨_,a,n,b,d⟩:=(show ObjOk X.prog X.w H s.heap p (.lst (List.map V.str f)) from I.hok p _ e)
 exact join_list (D:=p) (items:=a.toArray) ⟨_,d,rfl,n,rfl⟩ (by simpa using mz b) g λl k=>⟨.str _,H,I.tok k,⟨l,rfl⟩,q⟩
def rSlS:V->Option Int->Option Int->Hp->VK->Prop:=λx lo hi H Q=>∃z,x=.str z/\z.length<=sizeLine/\Q (.str (Txt.slice z lo hi)) H
theorem uL:SlR X rSlS:=by
 intro b s w H x v C B y p D Q I r n A m h;obtain⟨z,rfl,d,q⟩:=h;obtain⟨t,rfl⟩:=r;refine⟨"str",_,PySem.F.slot_str_getitem.lookup,typeIs_str _ _ _,?_⟩;obtain⟨o,c,e,f⟩:=n;have a:∀g k,EP X b w Q (.str (Txt.slice z y p) g) { s with toks:=k }:=λg k=>⟨.str _,H,I.tok k,⟨g,rfl⟩,q⟩
 cases A with
 | none=>cases m with
  | none=>exact wpAny_getItem_str_slice (l:=none) (u:=none) (st:=none) ⟨o,c,e,f⟩ rfl (post_val_or_str ⟨wM (Txt.slice_le z _ _) d,a⟩)
  | int j tj=>exact wpAny_getItem_str_slice (l:=none) (u:=some (j,tj)) (st:=none) ⟨o,c,e,f⟩ rfl (post_val_or_str ⟨wM (Txt.slice_le z _ _) d,a⟩)
 | int i ti=>cases m with
  | none=>exact wpAny_getItem_str_slice (l:=some (i,ti)) (u:=none) (st:=none) ⟨o,c,e,f⟩ rfl (post_val_or_str ⟨wM (Txt.slice_le z _ _) d,a⟩)
  | int j tj=>exact wpAny_getItem_str_slice (l:=some (i,ti)) (u:=some (j,tj)) (st:=none) ⟨o,c,e,f⟩ rfl (post_val_or_str ⟨wM (Txt.slice_le z _ _) d,a⟩)
def uf (K:W.Frag) (c:String):LV->Hp->VK->Prop:=λxs H Q=>∃x t b,xs=[x,.ty c]/\TyOf K H x t/\W.kitOne K t (.type c)=some b/\Q (.bl b) H
theorem qt (c:String):dS X (.builtin "isinstance") (uf X.K c):=by
 intro d s m H l j Q I r h;obtain⟨x,t,b,rfl,i,e,q⟩:=h;obtain⟨u,k,rfl,g,a⟩:=fF r;cases a;exact pO I g i e λf=>⟨.bl b,H,I.tok f,rfl,q⟩
def wf:LV->Hp->VK->Prop:=λxs H Q=>∃x d,xs=[x]/\Rep H x d/\d.showable=true/\d.hasDict=false/\d.depth<=16/\d.shown.length<=sizeLine/\Q (.str d.shown) H
theorem jf (n:X.A.guards=some []) (C:X.A.units+64<cLine):dS X (.builtin "repr") wf:=by
 intro g s o H E z Q I r h;obtain⟨x,d,rfl,j,k,m,p,l,q⟩:=h;obtain⟨u,rfl,f⟩:=cK r;have rd:=j.reads I.hok f;have c:∀a,u=.ref a->wpAny (model X.prog X.w) X.A (call (.builtin "repr") [.ref a]) (EP X g o Q) X.xe s:=λa e=>by
  subst e;obtain⟨B,rd⟩:=rd;exact repr_of_reads' rd k (PyData.noDict_hsm m) n (by omega) (λ_ _ e=>e) (λD w A v=>⟨.str _,H,I.kept v,⟨w,rfl⟩,q⟩) l
 cases j with
 | non=>cases f;exact PySem.P.repr_of_none ⟨.str _,H,I.tok _,⟨_,rfl⟩,q⟩
 | bl b=>cases f;exact PySem.P.repr_of_bool ⟨.str _,H,I.tok _,⟨_,rfl⟩,q⟩
 | int i =>
  obtain⟨t,rfl⟩:=f;exact PySem.P.repr_of_int (by simpa [PyData.showable] using k) ⟨.str _,H,I.tok _,⟨_,rfl⟩,q⟩
 | str y =>
  obtain⟨t,rfl⟩:=f;exact PySem.P.repr_of_str ⟨.str _,H,I.tok _,⟨_,rfl⟩,q⟩ l
 | lst e rs=>cases f;exact c _ rfl
 | tup e rs=>cases f;exact c _ rfl
def qZ:V->Bool
 | .non | .bl _ | .int _ | .str _=>true
 | _=>false
def flD:V->PyData
 | .bl b=>.bool b
 | .int i=>.int i
 | .str x=>.str x
 | _=>.none
theorem qz (f:qZ v=true) (r:RelV v u):Reads h u (flD v) []:=by
 cases v with
 | non=>cases r;exact .none
 | bl b=>cases r;exact .bool b
 | int i=>obtain⟨t,rfl⟩:=r;exact .int i t
 | str x=>obtain⟨t,rfl⟩:=r;exact .str x t
 | _=>cases f
theorem kO:∀ {kvs:KV_}{vs:List (Key × Value)}{es:List DictEntry}, KV kvs vs -> Pairs (bM P w) es vs -> kvs.all (λp => qZ p.2)=true ->
    ReadsAll h (es.map (·.key)) ((kvs.map λp=>(flD (kV p.1),flD p.2)).map (·.1)) []/\ReadsAll h (es.map (·.val)) ((kvs.map λp=>(flD (kV p.1),flD p.2)).map (·.2)) []
 | [],_,_,r,q,_=>by
  cases r;cases q;exact⟨.nil,.nil⟩
 | p :: kvs, vs, es, r, q, f => by
  cases r with
  | @cons _ b _ vs' r1 r2 =>
   cases q with
   | cons qk qv q2 =>
    rw[List.all_cons,xj] at f;obtain⟨a1,a2⟩:=kO r2 q2 f.2
    rename_i en es'
    have k1:Reads h en.key (flD (kV p.1)) []:=by
     have hk:=qk;rw[<- r1.1] at hk;rcases bV hk with⟨i,t,e1,e2⟩ | ⟨x,t,e1,e2⟩
     ·rw[e1,e2];exact .int i t
     ·rw[e1,e2];exact .str x t
    have v1:Reads h en.val (flD p.2) []:=by
     rw[qv];exact qz f.1 r1.2
    exact⟨.cons k1 a1,.cons v1 a2⟩
def iA (kvs:KV_):PyData:=.dict (kvs.map λp=>(flD (kV p.1),flD p.2))
inductive ReprR (H:Hp):V->VK->Prop
 | tr {x:V} {d:PyData} {Q:VK}:Rep H x d->d.showable=true->d.hasDict=false->d.depth<=16->d.shown.length<=sizeLine->Q (.str d.shown) H->ReprR H x Q
 | dc {a:Addr} {kvs:KV_} {Q:VK}:H a=some (.dK kvs)->kvs.all (λp=>qZ p.2)=true->(iA kvs).showable=true->(iA kvs).depth<=16->(iA kvs).shown.length<=sizeLine->Q (.str (iA kvs).shown) H->ReprR H (.ref a) Q
def pE:LV->Hp->VK->Prop:=λxs H Q=>∃x,xs=[x]/\ReprR H x Q
theorem on (d:X.A.guards=some []) (m:X.A.units+64<cLine):dS X (.builtin "repr") pE:=by
 intro c s w H E g Q I r h;obtain⟨x,rfl,h⟩:=h;cases h with
 | tr rep hs hd hdp hz q=>exact jf d m c s w H _ g Q I r ⟨_,_,rfl,rep,hs,hd,hdp,hz,q⟩
 | @dc a kvs _ e f hs hdp hz q =>
  obtain⟨u,rfl,p⟩:=cK r;cases p;obtain⟨_,b,F,z,o,C,G,j,n,t,_,i,_⟩:=(show ObjOk X.prog X.w H s.heap a (.dK kvs) from I.hok a _ e)
  obtain⟨v,k⟩:=kO (h:=s.heap) z i f;have rd:Reads s.heap (.ref a) (iA kvs) (a::[]++[]):=.dict j n.1 t v k;refine repr_of_reads' rd hs (λ_ l=>?_) d (by omega) (λ_ _ e=>e) (λD A B y=>⟨.str _,H,I.kept y,⟨A,rfl⟩,q⟩) hz;have:sysModules=a:=by simpa using l
  rw[this] at b;simp at b
theorem eV (ok:HOk P w H h):∀ {xs:LV}{ds:List PyData}{us:List Value}, RepAll H xs ds -> Vals xs us -> PyData.canLayAll0 ds=true -> us.any (λu => PyData.eqv (SeqAt.readOf h u) d)=ds.any λe => PyData.eqv e d
 | _,_,_,.nil,r,_=>by cases r;rfl
 | _,_,_,.cons q qs,r,hl=>by
  cases r with
  | cons r1 r2 =>
   have hl':=Bool.and_eq_true_iff.mp (show (PyData.canLay0 _&&PyData.canLayAll0 _)=true from hl);obtain⟨as,z⟩:=q.reads ok r1;rw[xC,xC,SeqAt.readOf_eq hl'.1 z,eV ok qs r2 hl'.2]
theorem eX {P:Program}{w:World}{H:Hp}{A:Around}{s:Shared}(ok:HOk P w H s.heap) {d:PyData}{x:V}{v:Value}{bs:List Addr}(zx:Reads s.heap v d bs) (hd:d.canLay0=true) (hu:A.units+d.depth<cLine) :
    ∀ {xs:LV} {ds:List PyData} {us:List Value},RepAll H xs ds->Vals xs us->PyData.canLayAll0 ds=true->∀u∈us,SeqAt.EqAt A s u v (PyData.eqv (SeqAt.readOf s.heap u) d)
 | _,_,_,.nil,r,_=>by cases r;intro u hu;cases hu
 | _, _, _, .cons q qs, r, hl => by
  cases r with
  | cons r1 r2 =>
   have hl':=Bool.and_eq_true_iff.mp (show (PyData.canLay0 _&&PyData.canLayAll0 _)=true from hl);intro u hm;rcases wH.mp hm with rfl | hm
   ·obtain⟨as,z⟩:=q.reads ok r1;rw[SeqAt.readOf_eq hl'.1 z];exact SeqAt.eqAt_reads _ _ _ _ _ _ _ _ z zx hl'.1 hd (Nat.lt_of_le_of_lt (Nat.add_le_add_left (Nat.min_le_right _ _) _) hu)
   ·exact eX (x:=x) ok zx hd hu qs r2 hl'.2 u hm
def vj (neg:Bool):R2:=λx y H Q=>∃p xs ds d,y=.ref p/\H p=some (.lst xs)/\RepAll H xs ds/\Rep H x d/\PyData.canLayAll0 ds=true/\d.canLay0=true/\d.depth<=16 /\
 Q (.bl (if neg then !(ds.any λe=>PyData.eqv e d) else ds.any λe=>PyData.eqv e d)) H
theorem vi (A:X.A.units+64<cLine):OpR X (compareOp .In) (vj false):=by
 intro f s B H x y v u Q I o k h;obtain⟨p,t,z,d,rfl,e,b,r,i,c,dp,q⟩:=h;cases k;obtain⟨_,a,n,g,l⟩:=(show ObjOk X.prog X.w H s.heap p (.lst t) from I.hok p _ e)
 obtain⟨C,m⟩:=r.reads I.hok o;refine SeqAt.in_listAt (λu=>PyData.eqv (SeqAt.readOf s.heap u) d) ⟨_,l,rfl,n,rfl⟩ (λw j=>eX (x:=x) I.hok m c (by show X.A.units+1+d.depth<cLine;omega) b g i w (by simpa using j)) ⟨.bl _,H,I,rfl,?_⟩;rw[show a.toArray.any (λu=>PyData.eqv (SeqAt.readOf s.heap u) d)=a.any (λu=>PyData.eqv (SeqAt.readOf s.heap u) d) by simp,eV I.hok b g i];exact q
theorem oM (A:X.A.units+64<cLine):OpR X (compareOp .NotIn) (vj true):=by
 intro f s B H x y v u Q I o k h;obtain⟨p,t,z,d,rfl,e,b,r,i,c,dp,q⟩:=h;cases k;obtain⟨_,a,n,g,l⟩:=(show ObjOk X.prog X.w H s.heap p (.lst t) from I.hok p _ e)
 obtain⟨C,m⟩:=r.reads I.hok o;refine SeqAt.notIn_listAt (λu=>PyData.eqv (SeqAt.readOf s.heap u) d) ⟨_,l,rfl,n,rfl⟩ (λw j=>eX (x:=x) I.hok m c (by show X.A.units+1+d.depth<cLine;omega) b g i w (by simpa using j)) ⟨.bl _,H,I,rfl,?_⟩;rw[show a.toArray.any (λu=>PyData.eqv (SeqAt.readOf s.heap u) d)=a.any (λu=>PyData.eqv (SeqAt.readOf s.heap u) d) by simp,eV I.hok b g i];exact q
end
structure Cal (P:Program) (w:World) (K:W.Frag) (mg:MS) (base:Heap) (k:Nat) (x:Str) (ps:LS) (sp:Sp):Prop where
 ex:∃(f:Addr) (fd:FuncData),FnOk P w K mg base CX0 k f fd ps sp/\mg x=some (.ref f)/\W.keepIn K (.ref f)=true/\Binds K fd ps []
section
variable {X:Cx}{x:Str}{ps:LS}{sp:Sp}{k j:Nat}{p pos:Pos}{e:Expr}{es:List Expr}{t:TA}
theorem au (c:Cal X.prog X.w X.K X.mg X.base k x ps sp) (g:Room k X.A) (j:Gl X x) (i:PA X (e::es) t)
    (d:starEach (e::es) X.env=(false,eval e X.env)::starEach es X.env:=by rfl) (hpl:(backTo pos (starEach es X.env)).any (·.1)=false:=by rfl) (hdb:(x==("__debug__":Str))=false:=by decide) :
    PE X (.Call (.Name x p) (e::es) [] pos) (oj sp [] E0 t):=by
 obtain⟨f,l,G,h,a,b⟩:=c.ex;exact tH G g j h a b .nil vT i (hdb:=hdb) (he:=d) (hpl:=hpl)
end
section
variable {X:Cx}
inductive AddR (H:Hp):V->V->VK->Prop
 | int {i j:Int} {Q:VK}:Q (.int (i+j)) H->AddR H (.int i) (.int j) Q
 | str {i j:Str} {Q:VK}:i.length+j.length<=sizeLine->Q (.str (i++j)) H->AddR H (.str i) (.str j) Q
 | lst {l b:Addr} {xs zs:LV} {Q:VK}:H l=some (.lst xs)->H b=some (.lst zs)->xs.length+zs.length<=sizeLine->(∀p,H p=none->Q (.ref p) (upd H p (.lst (xs++zs))))->AddR H (.ref l) (.ref b) Q
theorem aL:OpR X (binaryOp .Add) (λx y H Q=>AddR H x y Q):=by
 intro a s d H x y v u Q I b c h;cases h with
 | int q=>exact uY a s d H _ _ v u Q I b c ⟨_,_,rfl,rfl,q⟩
 | str hz q=>exact oh a s d H _ _ v u Q I b c ⟨_,_,rfl,rfl,hz,q⟩
 | lst h1 h2 hz q=>exact uz a s d H _ _ v u Q I b c ⟨_,_,_,_,rfl,rfl,h1,h2,hz,q⟩
inductive EqR (neg:Bool) (H:Hp):V->V->VK->Prop
 | sc {x y:V} {Q:VK}:qI x y=true->Q (.bl (if neg then !decide (x=y) else decide (x=y))) H->EqR neg H x y Q
 | tr {x y:V} {da db:PyData} {Q:VK}:Rep H x da->Rep H y db->shp da->shp db->Q (.bl (if neg then !PyData.eqv da db else PyData.eqv da db)) H->EqR neg H x y Q
theorem bn (e:X.A.units+64<cLine):OpR X (compareOp .Eq) (λx y H Q=>EqR false H x y Q):=by
 intro a s d H x y v u Q I b c h;cases h with
 | sc h q=>exact vx a s d H _ _ v u Q I b c ⟨h,q⟩
 | tr ra rb sa sb q=>exact u4 e a s d H _ _ v u Q I b c ⟨_,_,ra,rb,sa,sb,q⟩
theorem eS (e:X.A.units+64<cLine):OpR X (compareOp .NotEq) (λx y H Q=>EqR true H x y Q):=by
 intro a s d H x y v u Q I b c h;cases h with
 | sc h q=>exact vK a s d H _ _ v u Q I b c ⟨h,q⟩
 | tr ra rb sa sb q=>exact uX e a s d H _ _ v u Q I b c ⟨_,_,ra,rb,sa,sb,q⟩
inductive SlX (K:W.Frag) (H:Hp):V->Option Int->Option Int->VK->Prop
 | str {z:Str} {lo hi:Option Int} {Q:VK}:z.length<=sizeLine->Q (.str (Txt.slice z lo hi)) H->SlX K H (.str z) lo hi Q
 | lst {a:Addr} {xs:LV} {lo hi:Option Int} {Q:VK}:SqL K H a xs->(∀p,H p=none->Q (.ref p) (upd H p (.lst (eI xs lo hi))))->SlX K H (.ref a) lo hi Q
theorem sl_X:SlR X (λx lo hi H Q=>SlX X.K H x lo hi Q):=by
 intro a s g H x v e d lo hi i Q I b c j f h;cases h with
 | str hz q=>exact uL a s g H _ v e d lo hi i Q I b c j f ⟨_,rfl,hz,q⟩
 | lst h1 q=>exact tS a s g H _ v e d lo hi i Q I b c j f ⟨_,_,rfl,h1,q⟩
end
section
variable {X:Cx}
inductive CmR (f:Int->Int->Bool) (g:Str->Str->Bool) (H:Hp):V->V->VK->Prop
 | int {i j:Int} {Q:VK}:Q (.bl (f i j)) H->CmR f g H (.int i) (.int j) Q
 | str {i j:Str} {Q:VK}:Q (.bl (g i j)) H->CmR f g H (.str i) (.str j) Q
theorem dt:OpR X (compareOp .Lt) (λx y H Q=>CmR (λi j=>decide (i<j)) (λi j=>decide (i.cps.toList<j.cps.toList)) H x y Q):=by
 intro a s d H x y v u Q I b c h;cases h with
 | int q=>exact vN a s d H _ _ v u Q I b c ⟨_,_,rfl,rfl,q⟩
 | str q=>exact oW a s d H _ _ v u Q I b c ⟨_,_,rfl,rfl,q⟩
inductive IsB (neg:Bool) (H:Hp):V->V->VK->Prop
 | int {i:Int} {b:Bool} {Q:VK}:Q (.bl neg) H->IsB neg H (.int i) (.bl b) Q
 | bl {c b:Bool} {Q:VK}:Q (.bl (if neg then !decide (c=b) else decide (c=b))) H->IsB neg H (.bl c) (.bl b) Q
 | non {x:V} {Q:VK}:Q (.bl (if neg then !decide (x=.non) else decide (x=.non))) H->IsB neg H x .non Q
theorem jX:OpR X (compareOp .IsNot) (λx y H Q=>IsB true H x y Q):=by
 intro a s f H x y v u Q I d e h;cases h with
 | int q =>
  obtain⟨t,rfl⟩:=d;cases e;exact wpAny_isNot_other (by rfl) (by intro z;cases z) ⟨.bl _,H,I,rfl,q⟩
 | @bl c b _ q =>
  cases d;cases e;exact wpAny_isNot_plain (by rfl) (aR I q (by cases c <;> cases b <;> rfl))
 | non q=>exact uc a s f H _ _ v u Q I d e ⟨rfl,q⟩
theorem vc:OpR X (compareOp .Is) (λx y H Q=>IsB false H x y Q):=by
 intro a s f H x y v u Q I d e h;cases h with
 | int q =>
  obtain⟨t,rfl⟩:=d;cases e;exact wpAny_is_other (by rfl) (by intro z;cases z) ⟨.bl _,H,I,rfl,q⟩
 | @bl c b _ q =>
  cases d;cases e;exact wpAny_is_plain (by rfl) (aR I q (by cases c <;> cases b <;> rfl))
 | non q=>exact uv a s f H _ _ v u Q I d e ⟨rfl,q⟩
theorem vh (K:W.Frag) (f:PE X o to) (h:PA X [e] t)
    (b:attributeBase o "join" X.env (eval o X.env)=eval o X.env:=by rfl)
    (d:((backTo cpos (starEach [e] X.env)).all (λx=>!x.1)&&(backToKw cpos (keywordEach [] X.env)).all (λx=>x.1.isSome)
     && decide ([e].length+([]:List Keyword).length+(if ([]:List Keyword).isEmpty then 0 else 1)<30))=true:=by rfl)
    (c:(apos.endLine==cpos.line)=true:=by rfl) (g:starEach [e] X.env=(false,eval e X.env)::starEach [] X.env:=by rfl) (a:(backTo cpos (starEach [] X.env)).any (·.1)=false:=by rfl) (i:X.K=K:=by rfl) :
    PE X (.Call (.Attribute o "join" apos) [e] [] cpos) (tBM K "str" rO to t):=i ▸ ki PySem.F.plainAttrs_str PySem.F.slot_str_join PySem.F.type_str_join ue f h b d c g a
theorem bZ (K:W.Frag) (f:PE X o to) (h:PA X [e] t)
    (b:attributeBase o "append" X.env (eval o X.env)=eval o X.env:=by rfl)
    (d:((backTo cpos (starEach [e] X.env)).all (λx=>!x.1)&&(backToKw cpos (keywordEach [] X.env)).all (λx=>x.1.isSome)
     && decide ([e].length+([]:List Keyword).length+(if ([]:List Keyword).isEmpty then 0 else 1)<30))=true:=by rfl)
    (c:(apos.endLine==cpos.line)=true:=by rfl) (g:starEach [e] X.env=(false,eval e X.env)::starEach [] X.env:=by rfl) (a:(backTo cpos (starEach [] X.env)).any (·.1)=false:=by rfl) (i:X.K=K:=by rfl) :
    PE X (.Call (.Attribute o "append" apos) [e] [] cpos) (tBM K "list" mM to t):=i ▸ ki PySem.F.plainAttrs_list PySem.F.slot_list_append PySem.F.type_list_append jJ f h b d c g a
theorem ic (K:W.Frag) (a:X.K=K:=by rfl):SlR X (λx lo hi H Q=>SlX K H x lo hi Q):=a ▸ sl_X
theorem bt (K:W.Frag) (a:PE X l tl) (b:X.K=K:=by rfl):PI X tg l (rX K tl):=b ▸ tL a
theorem bd (K:W.Frag) (a:PE X l tl) (b:X.K=K:=by rfl):PI X tg l (u7 K tl):=b ▸ uZ a
end
theorem gI {i:Nat}{A B:SH}(h:A (σ.set i (some v)) H):bp i v σ H λσ2 z=>nJ σ2 z λb q=>if b=true then A σ2 q else B σ2 q:=by
 show (if true=true then A (σ.set i (some v)) H else B (σ.set i (some v)) H);rw[if_pos rfl];exact h
section
variable {K:W.Frag}{k:Nat}{fr:List Nat}{g:TG}{tc:TT}{te:TE}{σ:St}{H1:Hp}{Q:VK}
theorem gc (xs:LV) (f:Hp -> Prop) (n:∀i H, f H -> i<xs.length -> J.go i H) (l:∀i H x H', f H -> i<xs.length -> J.yld i H x H' -> H'=H /\ xs[i]? = some x) (j:∀H, f H -> J.stop xs.length H)
    (c:Addr->Nat->LV->SH)
    (h:∀D,H1 D=none->c D 0 [] (fv k fr σ) (upd H1 D (.lst []))/\(∀i q σ' H',i<=xs.length->c D i q σ' H'->H' D=some (.lst q)->f H') /\
     (∀i q σ' H' x,xs[i]? = some x->c D i q σ' H'->H' D=some (.lst q)->g x σ' H' λσ2 G=>tc σ2 G λb z =>
      if b=true then te σ2 z λy B=>B D=some (.lst q)/\q.length<sizeLine/\c D (i+1) (q++[y]) σ2 (upd B D (.lst (q++[y]))) else z D=some (.lst q)/\c D (i+1) q σ2 z) /\
     ∀q σ' H',c D xs.length q σ' H'->H' D=some (.lst q)->Q (.ref D) H'):ft k fr g tc te J σ H1 Q:=by
 intro D w;obtain⟨E,s,v,u⟩:=h D w;refine⟨λi m q σ' H'=>m=xs.length-i/\i<=xs.length/\c D i q σ' H',⟨xs.length,by simp,wW _,E⟩,?_⟩;rintro i m q σ' H' ⟨rfl,A,p⟩ a;have r:=s i q σ' H' A p a;by_cases d:i<xs.length
 ·refine .inr ⟨n i H' r d,c D (i+1),λt σ2 o F=>⟨xs.length-(i+1),by omega,rfl,d,F⟩,λx o y=>?_⟩;obtain⟨e,C⟩:=l i H' x o r d y;subst e;exact v i q σ' o x C p a
 ·have e:i=xs.length:=by omega
  subst e;exact .inl ⟨j H' r,u q σ' H' p a⟩
def ew (n:Nat):LV:=(List.range n).map λi=>V.int (0+(i:Nat))
theorem dX (f:Addr -> Nat -> LV -> St -> Hp -> Prop)
    (h:∀D,H1 D=none->f D 0 [] (fv k fr σ) (upd H1 D (.lst [])) /\
     (∀i q σ' H',i<n->f D i q σ' H'->H' D=some (.lst q)->g (.int (0+(i:Nat))) σ' H' λσ2 G=>tc σ2 G λb z =>
      if b=true then te σ2 z λy B=>B D=some (.lst q)/\q.length<sizeLine/\f D (i+1) (q++[y]) σ2 (upd B D (.lst (q++[y]))) else z D=some (.lst q)/\f D (i+1) q σ2 z) /\
     ∀q σ' H',f D n q σ' H'->H' D=some (.lst q)->Q (.ref D) H'):ft k fr g tc te (Itr 0 n) σ H1 Q:=by
 have j:(ew n).length=n:=by simp[ew]
 refine gc (ew n) (λ_=>True) (λi H _ d=>by rw[j] at d;exact d) (λi H x H' _ d y=>⟨y.1,?_⟩) (λH _=>by show n<=(ew n).length;rw[j];exact wr _) f λD o=>?_
 ·rw[j] at d;rw[y.2];simp[ew,d]
 ·obtain⟨a,b,c⟩:=h D o;refine⟨a,λ_ _ _ _ _ _ _=>trivial,λi q σ' H' x m p l=>?_,by rw[j];exact c⟩;have d:i<n:=by rw[<- j];exact(wv.mp m).1
  have e:x=V.int (0+(i:Nat)):=by
   simp[ew,d] at m;rw[<- m];simp
  subst e;exact b i q σ' H' d p l
theorem cU (xs:LV) (c:Addr -> Nat -> LV -> St -> Hp -> Prop)
    (h:∀D,H1 D=none->c D 0 [] (fv k fr σ) (upd H1 D (.lst []))/\(∀i z σ' H',i<=xs.length->c D i z σ' H'->H' D=some (.lst z)->SqL K H' a xs) /\
     (∀i z σ' H' x,xs[i]? = some x->c D i z σ' H'->H' D=some (.lst z)->g x σ' H' λσ2 I=>tc σ2 I λb B =>
      if b=true then te σ2 B λy G=>G D=some (.lst z)/\z.length<sizeLine/\c D (i+1) (z++[y]) σ2 (upd G D (.lst (z++[y]))) else B D=some (.lst z)/\c D (i+1) z σ2 B) /\
     ∀z σ' H',c D xs.length z σ' H'->H' D=some (.lst z)->Q (.ref D) H'):ft k fr g tc te (Itl K a) σ H1 Q :=
 gc xs (λH=>SqL K H a xs) (λi H q d=>⟨xs,xs[i],q,by simp[d]⟩) (λi H x H' q d y=>⟨y.1,y.2 xs q⟩) (λH q=>⟨xs,q,wr _⟩) c h
theorem ck (xs:LV) (c:Addr -> Nat -> LV -> St -> Hp -> Prop)
    (h:∀D,H1 D=none->c D 0 [] (fv k fr σ) (upd H1 D (.lst []))/\(∀i z σ' H',i<=xs.length->c D i z σ' H'->H' D=some (.lst z)->SqT K H' a xs) /\
     (∀i z σ' H' x,xs[i]? = some x->c D i z σ' H'->H' D=some (.lst z)->g x σ' H' λσ2 I=>tc σ2 I λb B =>
      if b=true then te σ2 B λy G=>G D=some (.lst z)/\z.length<sizeLine/\c D (i+1) (z++[y]) σ2 (upd G D (.lst (z++[y]))) else B D=some (.lst z)/\c D (i+1) z σ2 B) /\
     ∀z σ' H',c D xs.length z σ' H'->H' D=some (.lst z)->Q (.ref D) H'):ft k fr g tc te (Itt K a) σ H1 Q :=
 gc xs (λH=>SqT K H a xs) (λi H q d=>⟨xs,xs[i],q,by simp[d]⟩) (λi H x H' q d y=>⟨y.1,y.2 xs q⟩) (λH q=>⟨xs,q,wr _⟩) c h
end
def But (p:Addr) (H H':Hp):Prop:=∀b o,b≠p->H b=some o->H' b=some o
theorem But.refl (p:Addr) (H:Hp):But p H H:=λ_ _ _ h=>h
theorem But.trans (a:But p H H1) (b:But p H1 H2):But p H H2:=λc o n h=>b c o n (a c o n h)
theorem But.upd:But p H (upd H p o):=λb a n h=>by rw[ag n];exact h
theorem But.of_same (s:Same H H'):But p H H':=λb o _ h=>s b o h
theorem Same.new (h:H p=none):Same H (upd H p o):=λb a e=>by rw[ag (av e h)];exact e
theorem Rd.but (b:But p H H') (n:a≠p) (h:Rd H a u):Rd H' a u:=by
 rcases h with h | ⟨o,h⟩
 ·exact .inl (b _ _ n h)
 ·exact .inr ⟨o,b _ _ n h⟩
theorem SqL.but {K:W.Frag}{p:Addr}{H H':Hp}(b:But p H H') {a:Addr}{xs:LV}(n:a≠p) (h:SqL K H a xs):SqL K H' a xs:=by
 rcases h with h | h
 ·exact .inl (h.but b n)
 ·exact .inr h
structure Blt (mg:MS):Prop where
 len:mg "len"=none
 range:mg "range"=none
 abs:mg "abs"=none
 all:mg "all"=none
 repr:mg "repr"=none
 isinstance:mg "isinstance"=none
 str:mg "str"=none
 int:mg "int"=none
 bool:mg "bool"=none
 enumerate:mg "enumerate"=none
 list:mg "list"=none
 tuple:mg "tuple"=none
 dict:mg "dict"=none
 min:mg "min"=none
 max:mg "max"=none
section
variable {X:Cx}{p pos:Pos}{e f:Expr}{t:TA}
def rLen (K:W.Frag):LV->Hp->VK->Prop:=λxs H Q=>∃x n,xs=[x]/\qV K x H n/\Q (.int n) H
def rAbs:LV->Hp->VK->Prop:=λxs H Q=>∃i,xs=[.int i]/\Q (.int (if i<0 then -i else i)) H
theorem ba (K:W.Frag) (B:Blt X.mg) (a:PA X [e] t) (b:Gl X "len":=by rfl) (he:starEach [e] X.env=(false,eval e X.env)::starEach [] X.env:=by rfl) (hpl:(backTo pos (starEach [] X.env)).any (·.1)=false:=by rfl) (c:X.K=K:=by rfl):PE X (.Call (.Name "len" p) [e] [] pos) (tCB (rLen K) t) :=
 c ▸ fD qm b B.len PySem.boot_len a (by decide) (by decide) he hpl
theorem mX (B:Blt X.mg) (a:PA X [e] t) (b:Gl X "abs":=by rfl) (he:starEach [e] X.env=(false,eval e X.env)::starEach [] X.env:=by rfl) (hpl:(backTo pos (starEach [] X.env)).any (·.1)=false:=by rfl):PE X (.Call (.Name "abs" p) [e] [] pos) (tCB rAbs t) :=
 fD qW b B.abs boot_abs a (by decide) (by decide) he hpl
theorem iX (gd:X.A.guards=some []) (a:X.A.units+64<cLine) (B:Blt X.mg) (b:PA X [e] t) (c:Gl X "repr":=by rfl) (he:starEach [e] X.env=(false,eval e X.env)::starEach [] X.env:=by rfl) (hpl:(backTo pos (starEach [] X.env)).any (·.1)=false:=by rfl):PE X (.Call (.Name "repr" p) [e] [] pos) (tCB pE t) :=
 fD (on gd a) c B.repr boot_repr b (by decide) (by decide) he hpl
theorem vX (K:W.Frag) (c:String) (B:Blt X.mg) (a:PA X [e,f] t) (b:Gl X "isinstance":=by rfl) (he:starEach [e,f] X.env=(false,eval e X.env)::starEach [f] X.env:=by rfl) (hpl:(backTo pos (starEach [f] X.env)).any (·.1)=false:=by rfl) (d:X.K=K:=by rfl):PE X (.Call (.Name "isinstance" p) [e,f] [] pos) (tCB (uf K c) t) :=
 d ▸ fD (qt c) b B.isinstance boot_isinstance a (by decide) (by decide) he hpl
theorem uh (B:Blt X.mg) (a:Gl X "list":=by rfl):PE X (.Name "list" p) (tC (.ty "list")):=sv a B.list (show bootBuiltins "list"=some (.type "list") by decide +kernel) rfl
end
end L2
namespace L2
open PySem PySem.Spec PyProof.Rows PySem.Builtin PySem.Builtin.Str
def Asc (z:Str):Prop:=∀c∈z.cps.toList,c<128
theorem bi (x y:Str):(x++y).length=x.length+y.length:=by
 show (x.cps++y.cps).size=x.cps.size+y.cps.size;rw[Array.size_append]
theorem uE {ys:LS}{n:Nat}(h:∀y∈ys,y.length<=n):(ys.map (·.length)).sum<=ys.length * n:=by
 induction ys with
 | nil=>simp
 | cons y r ih =>
  have b:=h y (by simp);have c:=ih λz a=>h z (wY _ a);simp only[xb,List.sum_cons,wC];rw[Nat.succ_mul];omega
theorem vW {α:Type}{xs:List α}{j:Int}(b:0<=j) (c:j<xs.length):∃v,atI xs j=some v/\v∈xs:=by
 obtain⟨k,rfl⟩:=xc b;have a:k<xs.length:=by omega
 exact⟨xs[k],cF (by simp[a]),xR a⟩
theorem uD {ns:List Int}{j:Int}(b:0<=j) (a:j<(ns.map V.int).length):∃c,atI (ns.map V.int) j=some (.int c):=by
 obtain⟨v,e,m⟩:=vW b a;obtain⟨c,_,rfl⟩:=ww.mp m;exact⟨c,e⟩
theorem jO (x:Int):-(2 ^ 64)<x % 2147483647/\x % 2147483647<2 ^ 64:=by
 have a:=xS x (show (2147483647:Int)≠0 by decide);have b:=yd x (show (0:Int)<2147483647 by decide);omega
def PenV (H:Hp) (p a:Addr):Prop:=∃(i n:Int),H p=some (.lst [.ref a,.int i,.int n])/\0<=i/\0<=n
def Pen (K:W.Frag) (H:Hp) (p a:Addr):Prop:=(∃ns:List Int,∀H',But p H H'->SqL K H' a (ns.map V.int))/\PenV H p a
theorem Pen.but {K:W.Frag}{H H':Hp}{p a:Addr}(h:Pen K H p a) (b:But p H H') (v:PenV H' p a):Pen K H' p a:=⟨let ⟨e,q⟩:=h.1;⟨e,λc d=>q c (b.trans d)⟩,v⟩
theorem Pen.new {K:W.Frag}{H:Hp}{p a:Addr}{ns:List Int}{o:HO}(h:SqL K H a (ns.map V.int)) (d:H p=none) (v:PenV (upd H p o) p a):Pen K (upd H p o) p a := by
 refine⟨⟨ns,λi b=>?_⟩,v⟩;rcases h with h | h
 ·have n:a≠p:=by
     rcases h with h | ⟨j,h⟩
     ·exact av h d
     ·exact av h d
  have s:Same H (upd H p o):=Same.new d;exact SqL.but (λc f g e=>b c f g (s c f e)) n (.inl h)
 ·exact .inr h
theorem PenV.upd (h:PenV H p a) (n:p≠D):PenV (L2.upd H D o) p a:=let ⟨i,m,e,q⟩:=h;⟨i,m,by rw[ag n];exact e,q⟩
theorem PenV.ne (h:PenV H p a) (e:H D=none):p≠D:=let ⟨_,_,q,_⟩:=h;av q e
theorem But.at (b:But p H H') (a:H D=none):But p H (L2.upd H' D o):=λc d n h=>by rw[ag (av h a)];exact b c d n h
theorem But.of_eq (h:∀b,b≠p->H' b=H b):But p H H':=λb o n e=>(h b n).trans e
theorem But.free (b:But p H H') (n:D≠p) (h:H' D=none):H D=none:=by
 cases e:H D with
 | none=>rfl
 | some o=>rw[b D o n e] at h;cases h
def dR (K:W.Frag):Sp:=λvs H Q _=>∃(p a:Addr) (m:Int),vs=[.ref p,.int m]/\Pen K H p a/\0<m/\m<1073741824/\∀r H',0<=r->r<m->PenV H' p a->(∀b,b≠p->H' b=H b)->Q (.int r) H'
end L2
namespace L2
open PySem PySem.Spec PyProof.Rows
section
variable {X:Cx}
inductive InR (K:W.Frag) (neg:Bool) (H:Hp):V -> V -> VK -> Prop
 | dic {a:Addr} {y:V} {o:Option V} {Q:VK}:DGet H a y o->Q (.bl (if neg then !o.isSome else o.isSome)) H->InR K neg H y (.ref a) Q
 | seq {p:Addr} {x:V} {xs:LV} {Q:VK}:(SqL K H p xs∨SqT K H p xs)->dB x=true->xs.all dB=true->Q (.bl (if neg then !inV x xs else inV x xs)) H->InR K neg H x (.ref p) Q
 | tr {p:Addr} {x:V} {xs:LV} {ds:List PyData} {d:PyData} {Q:VK}:H p=some (.lst xs)->RepAll H xs ds->Rep H x d->PyData.canLayAll0 ds=true->d.canLay0=true->d.depth<=16 ->
     Q (.bl (if neg then !(ds.any λe=>PyData.eqv e d) else ds.any λe=>PyData.eqv e d)) H->InR K neg H x (.ref p) Q
theorem dw (K:W.Frag) (i:X.A.units+64<cLine) (j:X.K=K:=by rfl):OpR X (compareOp .In) (λx y H Q=>InR K false H x y Q):=by
 subst j;intro a s f H x y v u Q I b d h;cases h with
 | dic g q =>
  cases d;exact d_in (by omega) I g b λl k=>⟨.bl _,H,k,rfl,q⟩
 | seq hq fx fs q=>exact pu a s f H _ _ v u Q I b d ⟨_,_,rfl,hq,fx,fs,q⟩
 | tr e rs r cs c dp q=>exact vi i a s f H _ _ v u Q I b d ⟨_,_,_,_,rfl,e,rs,r,cs,c,dp,q⟩
theorem bU (K:W.Frag) (i:X.A.units+64<cLine) (j:X.K=K:=by rfl):OpR X (compareOp .NotIn) (λx y H Q=>InR K true H x y Q):=by
 subst j;intro a s f H x y v u Q I b d h;cases h with
 | dic g q =>
  cases d;exact ud (by omega) I g b λl k=>⟨.bl _,H,k,rfl,q⟩
 | seq hq fx fs q=>exact kC a s f H _ _ v u Q I b d ⟨_,_,rfl,hq,fx,fs,q⟩
 | tr e rs r cs c dp q=>exact oM i a s f H _ _ v u Q I b d ⟨_,_,_,_,rfl,e,rs,r,cs,c,dp,q⟩
inductive IxX (K:W.Frag) (H:Hp):V->V->VK->Prop
 | lst {p:Addr} {xs:LV} {i:Int} {v:V} {Q:VK}:SqL K H p xs->atI xs i=some v->Q v H->IxX K H (.ref p) (.int i) Q
 | tup {p:Addr} {xs:LV} {i:Int} {v:V} {Q:VK}:SqT K H p xs->atI xs i=some v->Q v H->IxX K H (.ref p) (.int i) Q
 | str {z:Str} {i:Int} {c:Nat} {Q:VK}:z.length<=sizeLine->atI z.cps.toList i=some c->Q (.str ⟨#[c]⟩) H->IxX K H (.str z) (.int i) Q
 | dic {a:Addr} {y v:V} {Q:VK}:DGet H a y (some v)->Q v H->IxX K H (.ref a) y Q
theorem ap (K:W.Frag) (o:X.A.units+64<cLine) (m:X.K=K:=by rfl):IxR X (λx y H Q=>IxX K H x y Q):=by
 subst m;intro a b c s k H x y v u Q I d i h f;cases h with
 | lst hq e q=>exact sU a b c s k H _ _ v u Q I d i ⟨_,_,_,_,rfl,rfl,hq,e,q⟩ f
 | tup hq e q=>exact uy a b c s k H _ _ v u Q I d i ⟨_,_,_,_,rfl,rfl,hq,e,q⟩ f
 | str hz e q=>exact uT a b c s k H _ _ v u Q I d i ⟨_,_,_,rfl,rfl,hz,e,q⟩ f
 | dic g q =>
  cases d;exact tail_any (lK I g) PySem.F.slot_dict_getitem.lookup (pW (by omega) I g i λp n l j=>⟨_,H,l,j,q⟩) f
inductive SetX (H:Hp):V->V->V->(Hp->Prop)->Prop
 | lst {p:Addr} {xs:LV} {k:Int} {j:Nat} {v:V} {Q:Hp->Prop}:H p=some (.lst xs)->ixN xs.length k=some j->Q (upd H p (.lst (xs.set j v)))->SetX H (.ref p) (.int k) v Q
 | dic {a:Addr} {y v:V} {H':Hp} {Q:Hp->Prop}:DPut H a y v H'->Q H'->SetX H (.ref a) y v Q
theorem dG (m:X.A.units+64<cLine):q7 X (λo i v H Q=>SetX H o i v Q):=by
 intro a s j H o i v k f u Q I d c b h;cases h with
 | lst e ej q=>exact rD a s j H _ _ _ k f u Q I d c b ⟨_,_,_,_,rfl,rfl,e,ej,q⟩
 | dic g q =>
  cases d;exact ph (by omega) I g c b λn l=>⟨_,l,q⟩
theorem cj (K:W.Frag) (b:X.calm=true) (h:PGs X es t)
    (d:(assignEach es X.env).length=n:=by rfl) (a:(assignEach es X.env).findIdx? (·.1)=none:=by rfl) (c:X.K=K:=by rfl):PG X (.Tuple es k pos) (qq K n t):=c ▸ vq b h d a
theorem kU (K:W.Frag) (f:Gl X "enumerate") (c:X.mg "enumerate"=none) (e:PA X [a] ta) (d:starEach [a] X.env=[(false,eval a X.env)]:=by rfl) (b:X.K=K:=by rfl) :
    PI X (.Tuple elts k tp) (.Call (.Name "enumerate" p) [a] [] pos) (rR K ta):=b ▸ tz f c e d
variable {p pos p2 pos2:Pos}{e f:Expr}{t:TA}
end
section
variable {X:Cx}{p pos p2 pos2:Pos}{e f:Expr}{t:TA}
def rK (K:W.Frag):LV->Hp->VK->Prop:=λxs H Q=>∃a ys,xs=[.ref a]/\SqL K H a ys/\∀l,H l=none->Q (.ref l) (upd H l (.tup ys))
theorem cQ (K:W.Frag) (B:Blt X.mg) (j:PA X [e] t) (c:Gl X "tuple":=by rfl) (he:starEach [e] X.env=(false,eval e X.env)::starEach [] X.env:=by rfl) (hpl:(backTo pos (starEach [] X.env)).any (·.1)=false:=by rfl) (k:X.K=K:=by rfl) :
    PE X (.Call (.Name "tuple" p) [e] [] pos) (tCB (rK K) t):=by
 subst k;refine eR (r:=rK X.K) (λb s g H l f Q I r h=>?_) c B.tuple (show bootBuiltins "tuple"=some (.type "tuple") by decide +kernel) j (by decide) (by decide) he hpl;obtain⟨a,i,rfl,d,q⟩:=h;exact kd b s g H _ f Q I r ⟨a,i,rfl,.inl ⟨d,q⟩⟩
inductive LstR (K:W.Frag) (H:Hp):V->VK->Prop
 | seq {a:Addr} {ys:LV} {Q:VK}:(SqL K H a ys∨SqT K H a ys)->(∀l,H l=none->Q (.ref l) (upd H l (.lst ys)))->LstR K H (.ref a) Q
 | rng {a:Addr} {n:Nat} {Q:VK}:H a=some (.rng 0 (n:Int))->n<=1000->(∀l,H l=none->Q (.ref l) (upd H l (.lst (ew n))))->LstR K H (.ref a) Q
def u6 (K:W.Frag):LV->Hp->VK->Prop:=λxs H Q=>∃x,xs=[x]/\LstR K H x Q
theorem qN (c:q.length=n) (h:∀i v, q[i]? = some v -> ∃t, v=Value.int (0+(i:Nat) * 1) t):Vals (ew n) q := by
 subst c;have b:∀(q:List Value) (k:Nat), (∀i v, q[i]? = some v -> ∃t, v=Value.int (0+((k+i:Nat):Int)) t) -> Vals ((List.range' k q.length).map λi => V.int (0+(i:Nat))) q := by
  intro q
  induction q with
  | nil=>intro k _;exact .nil
  | cons u r ih =>
   intro k h;rw[wC,List.range'_succ,xb];refine .cons ?_ (ih (k+1) λi v e=>?_)
   ·obtain⟨t,e⟩:=h 0 u rfl;exact⟨t,by rw[e,Nat.add_zero]⟩
   ·obtain⟨t,a⟩:=h (i+1) v (by simpa using e);exact⟨t,by rw[a,show ((k+(i+1):Nat):Int)=((k+1+i:Nat):Int) by omega]⟩
 have:=b q 0 λi v e=>by
  obtain⟨t,a⟩:=h i v e;exact⟨t,by rw[a,Int.mul_one,Nat.zero_add]⟩
 rw[ew,List.range_eq_range'];exact this
theorem gy (K:W.Frag) (w:X.calm=true) (B:Blt X.mg) (D:PA X [e] t) (l:Gl X "list":=by rfl) (he:starEach [e] X.env=(false,eval e X.env)::starEach [] X.env:=by rfl) (hpl:(backTo pos (starEach [] X.env)).any (·.1)=false:=by rfl) (j:X.K=K:=by rfl) :
    PE X (.Call (.Name "list" p) [e] [] pos) (tCB (u6 K) t):=by
 subst j;refine eR (r:=u6 X.K) (λc s A H L g Q I r h=>?_) l B.list (show bootBuiltins "list"=some (.type "list") by decide +kernel) D (by decide) (by decide) he hpl;obtain⟨x,rfl,h⟩:=h;cases h with
 | seq hq q=>exact kz c s A H _ g Q I r ⟨_,_,rfl,hq,q⟩
 | @rng a n _ ea hn q =>
  obtain⟨u,rfl,m⟩:=cK r;cases m;obtain⟨J,G,M,k⟩:=(show ObjOk X.prog X.w H s.heap a (.rng 0 (n:Int)) from I.hok a _ ea)
  refine call_list_range (n:=n) (I.ok.hd w) k (small_one (by decide) (by decide) (by omega) (by omega)) (by rw[rangeSize_one];split <;> omega) (by omega) λF E b y C f d=>?_;have z:Vals (ew n) b.toList:=qN (by simpa using d.1) λi v e=>d.2 i v (by simpa using e);refine⟨.ref _,_,I.laid (o:=.lst (ew n)) C (wr _) ⟨?_,b.toList,y,z,by simpa using f⟩,rfl,q _ (I.hok.fresh (wr _))⟩;have:(ew n).length=n:=by simp[ew]
  rw[this];exact xA (aw hn)
theorem km (c:X.calm=true) (B:Blt X.mg) (a:PA X [e,f] t) (b:Gl X "min":=by rfl) (he:starEach [e,f] X.env=(false,eval e X.env)::starEach [f] X.env:=by rfl) (hpl:(backTo pos (starEach [f] X.env)).any (·.1)=false:=by rfl) :
    PE X (.Call (.Name "min" p) [e,f] [] pos) (tCB (λxs H Q=>∃i j,xs=[.int i,.int j]/\Q (.int (if j<i then j else i)) H) t) :=
 fD (pC c) b B.min (show bootBuiltins "min"=some (.builtin "min") by decide +kernel) a (by decide) (by decide) he hpl
theorem va {q:List Value}{k:Nat}{x:Int}(a:x=(k:Int)) (b:k<=q.length) :
    (λxs:Array Value=>have k:=if x<0 then (x+(xs.size:Int)).toNat else min x.toNat xs.size;(xs.extract 0 k).push u++xs.extract k) q.toArray=(q.take k++u::q.drop k).toArray:=by
 subst a;simp only[wT];rw[if_neg (by omega),xZ,Nat.min_eq_left b];simp[List.extract_eq_drop_take];exact wI (by rw[xO];omega)
def mU:V->LV->Hp->VK->Prop:=λx vs H Q=>∃l xs i k y,x=.ref l/\vs=[.int i,y]/\i=((k:Nat):Int)/\H l=some (.lst xs)/\k<=xs.length/\xs.length<sizeLine/\Q .non (upd H l (.lst (xs.take k++y::xs.drop k)))
theorem pF:MtR X "list.insert" mU:=by
 intro d s J H x L v C Q I o u h;obtain⟨l,G,i,k,y,rfl,rfl,m,c,K,E,q⟩:=h;cases o;obtain⟨D,f,rfl,p,A⟩:=fF u;obtain⟨t,rfl⟩:=p;obtain⟨z,a,n,r,B,e⟩:=I.lstM c;have g:a.length<=sizeLine:=by omega
 have b:Builtin.List.listFitsIndex i=true:=by
  have j:i<2 ^ 63:=by have:=fS;omega
  exact fitsIndex_both (by omega) j
 have w:=PySem.AutoSeq1.list_insert_list_int_val_1 l a.toArray n i t f (by simp[b]) (by rw[wT];exact g);refine call_meets F.slot_list_insert ⟨_,e,rfl⟩ F.entry_list_insert (F.args_list_insert_3 _ _ _) w ⟨e,?_⟩;refine⟨.non,_,I.lset (its':=a.take k++f::a.drop k) c e (va m (by omega)) (Vals.append (r.take k) (.cons A (r.drop k))) ?_,rfl,q⟩;simp only[wB,wC,xi,xO];omega
theorem em (K:W.Frag) (g:PE X o to) (i:PA X [e, f] t)
    (b:attributeBase o "insert" X.env (eval o X.env)=eval o X.env:=by rfl)
    (d:((backTo cpos (starEach [e,f] X.env)).all (λx=>!x.1)&&(backToKw cpos (keywordEach [] X.env)).all (λx=>x.1.isSome)
     && decide ([e,f].length+([]:List Keyword).length+(if ([]:List Keyword).isEmpty then 0 else 1)<30))=true:=by rfl)
    (c:(apos.endLine==cpos.line)=true:=by rfl) (h:starEach [e,f] X.env=(false,eval e X.env)::starEach [f] X.env:=by rfl) (a:(backTo cpos (starEach [f] X.env)).any (·.1)=false:=by rfl) (j:X.K=K:=by rfl) :
    PE X (.Call (.Attribute o "insert" apos) [e,f] [] cpos) (tBM K "list" mU to t):=j ▸ ki PySem.F.plainAttrs_list PySem.F.slot_list_insert PySem.F.type_list_insert pF g i b d c h a
end
def Nm (s:Str):Prop:=1<=s.length/\s.length<=8/\∀c∈s.cps.toList,97<=c/\c<=122
theorem Nm.asc (h:Nm s):Asc s:=λc a=>by have:=h.2.2 c a;omega
def aA (e:Str × Str):PyData:=.tuple [.str e.1,.str e.2]
section
variable {H H':Hp}
theorem Rep.tupI (h:Rep H v (.tuple ds)):∃a xs,v=.ref a/\H a=some (.tup xs)/\RepAll H xs ds:=by
 cases h with
 | tup e r=>exact⟨_,_,rfl,e,r⟩
theorem Rep.strI (h:Rep H v (.str s)):v=.str s:=by cases h;rfl
theorem RepAll.nilI (h:RepAll H xs []):xs=[]:=by cases h;rfl
theorem RepAll.consI (h:RepAll H xs (d::ds)):∃y ys,xs=y::ys/\Rep H y d/\RepAll H ys ds:=by
 cases h with
 | cons a b=>exact⟨_,_,rfl,a,b⟩
theorem RepAll.strs:∀ {xs:LV}{ss:LS},RepAll H xs (ss.map PyData.str)->xs=ss.map V.str
 | _,[],h=>by rw[h.nilI];rfl
 | _,s::ss,h=>by
  obtain⟨y,ys,rfl,a,b⟩:=RepAll.consI h;rw[a.strI,RepAll.strs b];rfl
theorem RepAll.of_strs:∀(ss:LS),RepAll H (ss.map V.str) (ss.map PyData.str)
 | []=>.nil
 | s::ss=>.cons (.str s) (RepAll.of_strs ss)
theorem RepAll.len (h:RepAll H xs ds):xs.length=ds.length:=by
 induction ds generalizing xs with
 | nil=>rw[h.nilI];rfl
 | cons d ds ih =>
  obtain⟨y,c,rfl,a,b⟩:=h.consI;simp[ih b]
theorem RepAll.get {xs:LV}{ds:List PyData}(h:RepAll H xs ds) {i:Nat}(e:xs[i]? = some x):∃d,ds[i]? = some d/\Rep H x d:=by
 induction ds generalizing xs i with
 | nil=>rw[h.nilI] at e;simp at e
 | cons d ds ih =>
  obtain⟨y,c,rfl,a,b⟩:=h.consI;cases i with
  | zero=>simp at e;subst e;exact⟨d,rfl,a⟩
  | succ i=>simpa using ih b (by simpa using e)
theorem RepAll.append (h:RepAll H xs ds) (g:RepAll H ys es):RepAll H (xs++ys) (ds++es):=by
 induction ds generalizing xs with
 | nil=>rw[h.nilI];exact g
 | cons d ds ih =>
  obtain⟨y,c,rfl,a,b⟩:=h.consI;exact .cons a (ih b)
theorem RepAll.take (h:RepAll H xs ds):∀k,RepAll H (xs.take k) (ds.take k):=by
 induction ds generalizing xs with
 | nil=>intro k;rw[h.nilI];simp;exact .nil
 | cons d ds ih =>
  obtain⟨y,c,rfl,a,b⟩:=h.consI;intro k;cases k with
  | zero=>exact .nil
  | succ k=>exact .cons a (ih b k)
theorem RepAll.drop (h:RepAll H xs ds):∀k,RepAll H (xs.drop k) (ds.drop k):=by
 induction ds generalizing xs with
 | nil=>intro k;rw[h.nilI];simp;exact .nil
 | cons d ds ih =>
  obtain⟨y,c,rfl,a,b⟩:=h.consI;intro k;cases k with
  | zero=>exact .cons a b
  | succ k=>exact ih b k
theorem mF (h:Rep H v (aA e)):∃a,v=.ref a/\H a=some (.tup [.str e.1,.str e.2]):=by
 obtain⟨a,g,rfl,b,r⟩:=Rep.tupI h;obtain⟨y,j,rfl,d,r⟩:=r.consI;obtain⟨z,i,rfl,c,r⟩:=r.consI;have f:=RepAll.nilI r;subst f;rw[d.strI,c.strI] at b;exact⟨a,rfl,b⟩
theorem br (h:H a=some (.tup [.str s,.str t])):Rep H (.ref a) (aA (s,t)):=.tup h (.cons (.str _) (.cons (.str _) .nil))
end
end L2
namespace MG
variable {α:Type}
def nP (R:α->α->Prop):Nat->α->α->Prop
 | 0,x,y=>x=y
 | n+1,x,y=>∃z,nP R n x z/\R z y
def Dst (R:α->α->Prop) (x:α) (d:Nat) (y:α):Prop:=nP R d x y/\∀k,k<d->¬ nP R k x y
variable {R:α->α->Prop}{x:α}
end MG
namespace L2
open PySem PySem.Spec PyProof.Rows
theorem cS (h:Nm s):PyData.canLay0 (.str s)=true:=by
 show (s.cps.all (·<0x110000))=true;rw[<- Array.all_toList,x4];intro c a;have:=h.2.2 c a;exact wF (by omega)
theorem iL:∀ss:LS,PyData.depthAll (ss.map PyData.str)=0
 | []=>rfl
 | s::ss=>by
  show max (PyData.depth (.str s)) (PyData.depthAll (ss.map PyData.str))=0;rw[iL ss];rfl
theorem hJ:∀(ts:LS) (k:Nat) (acc:Str), (∀t ∈ ts, t.length <= n) -> (textFrom k acc ts).length <= acc.length+ts.length * (n+2)
 | [],k,acc,_=>by show acc.length<=acc.length+0 * _;omega
 | t::r,k,acc,h=>by
  have h1:=hJ r (k+1) (acc++(if k > 0 then ", " else "":String)++t) λu hu=>h u (wY _ hu);have h2:=h t (by simp);have e:(acc++(if k > 0 then ", " else "":String)++t).length<=acc.length+2+t.length:=by
   rw[bi,bi];have:(Str.ofString (if k > 0 then ", " else "":String)).length<=2:=by split <;> decide
   show acc.length+(Str.ofString (if k > 0 then ", " else "":String)).length+t.length<=_;omega
  show (textFrom (k+1) (acc++(if k > 0 then ", " else "":String)++t) r).length<=acc.length+(r.length+1) * (n+2);rw[Nat.succ_mul];omega
theorem Nm.repr (h:Nm s):(reprText s).length<=82:=by
 have:=StrLaws.reprText_len s λc a=>Nat.lt_trans (h.asc c a) (by decide);have:=h.2.1;omega
structure Shw (d:PyData):Prop where
 sh:shp d
 sb:d.showable=true
 hd:d.hasDict=false
 dp:d.depth<=16
 ln:d.shown.length<=sizeLine
theorem lz {K:W.Frag}{a:Addr}{xs:LV}{g:TG}{tb:TS}{D:Ends}{σ:St}{H:Hp}(Pv:Nat -> St -> Hp -> Prop) (c:Pv 0 σ H) (h:∀i σ H, i <= xs.length -> Pv i σ H -> SqL K H a xs)
    (j:∀i x σ H p,xs[i]? = some x->Pv i σ H->H p=none->g (.ref p) σ (upd H p (.tup [.int i,x])) λσ2 H2=>tb { D with nx:=Pv (i+1),ct:=Pv (i+1),bk:=D.nx } σ2 H2) (d:∀σ H,Pv xs.length σ H->D.nx σ H) :
    ∃W:Nat->Nat->SH,(∃m,W 0 m σ H)/\∀i m σ H,W i m σ H ->
     ((Ite K a).stop i H/\D.nx σ H)∨((Ite K a).go i H/\∃N:SH,(∀σ' H',N σ' H'->∃B,B<m/\W (i+1) B σ' H')/\∀x H',(Ite K a).yld i H x H'->g x σ H' λσ2 H2=>tb { D with nx:=N,ct:=N,bk:=D.nx } σ2 H2):=by
 refine⟨λi m σ H=>m=xs.length-i/\i<=xs.length/\Pv i σ H,⟨xs.length,by simp,wW _,c⟩,?_⟩;rintro i m σ H ⟨rfl,f,p⟩;have q:=h i σ H f p;by_cases b:i<xs.length
 ·refine .inr ⟨⟨xs,xs[i],q,by simp[b]⟩,Pv (i+1),λσ' H' n=>⟨xs.length-(i+1),by omega,rfl,b,n⟩,λx H' y=>?_⟩;obtain⟨r,z,k,rfl,l,rfl⟩:=y;exact j i z σ H r (l xs q) p k
 ·have e:i=xs.length:=by omega
  subst e;exact .inl ⟨⟨xs,q,wr _⟩,d σ H p⟩
def Tab (H:Hp) (d:Addr) (ss:LS) (f:Str->LS):Prop:=∃kvs,H d=some (.dK kvs)/\∀s∈ss,∃l,aG kvs (.inr s)=some (.ref l)/\H l=some (.lst (List.map V.str (f s)))
def Ner (ss:LS) (f:Str->LS) (a b:Str):Prop:=a∈ss/\b∈f a
def spSteps:Sp:=λvs H Q _=>∃d s ss f,vs=[.ref d,.str s]/\Tab H d ss f/\s∈ss/\ss.length<=60/\(∀t∈ss,∀u∈f t,u∈ss) /\
 ∀e kvs H',Same H H'->H e=none->H' e=some (.dK kvs)->(∀t v,aG kvs (.inr t)=some v ↔ ∃k:Nat,v=.int k/\MG.Dst (Ner ss f) s k t)->Q (.ref e) H'
theorem bu (s:Same H H') (h:H' b=none):H b=none:=by
 cases q:H b with
 | none=>rfl
 | some o=>rw[s _ _ q] at h;cases h
theorem aQ (s:Same H H') (h:H b=none):Same H (upd H' b o):=λc d a=>by
 rw[ag (av a h)];exact s _ _ a
theorem aI (s:Same H H') (v:PenV H p a):PenV H' p a:=let ⟨i,m,e,q⟩:=v;⟨i,m,s _ _ e,q⟩
section
variable {X:Cx}{p pos p2 pos2:Pos}{e f:Expr}{t:TA}
theorem qy {xs:LV}{us:List Value}(r:Vals xs us) {j:Nat}(e:us[j]? = some u):∃x,xs[j]? = some x/\RelV x u:=by
 induction r generalizing j with
 | nil=>simp at e
 | @cons a b as bs h t ih =>
  cases j with
  | zero=>simp at e;subst e;exact⟨a,rfl,h⟩
  | succ j=>simpa using ih (by simpa using e)
end
end L2
namespace MG
section
variable {α:Type} [DecidableEq α]
def ix:List α->α->Nat
 | [],_=>0
 | a::r,x=>if a=x then 0 else ix r x+1
theorem mW (a:α) (r:List α):ix (a::r) a=0:=by show (if a=a then 0 else _)=0;rw[if_pos rfl]
theorem lV (r:List α) (h:a≠x):ix (a::r) x=ix r x+1:=by show (if a=x then 0 else _)=_;rw[if_neg h]
theorem ix_at (d:l.Nodup):∀ {i:Nat}{x:α}, l[i]? = some x -> ix l x=i := by
 induction l with
 | nil=>intro i x e;simp at e
 | cons a r ih =>
  intro i x e;have ⟨c,g⟩:=xf.mp d;cases i with
  | zero=>simp at e;subst e;exact mW a r
  | succ i =>
   have b:r[i]? = some x:=by simpa using e
   have f:=wE b;rw[lV r (λq:a=x=>c (q ▸ f)),ih g b]
theorem at_ix {l:List α}{x:α}(h:x ∈ l):l[ix l x]? = some x := by
 induction l with
 | nil=>cases h
 | cons a r ih =>
  by_cases q:a=x
  ·subst q;rw[mW];rfl
  ·rw[lV r q];rcases wH.mp h with h | h
   ·exact absurd h.symm q
   ·simpa using ih h
theorem ix_lt {l:List α}{x:α}(h:x∈l):ix l x<l.length:=(wv.mp (at_ix h)).1
end
variable {es:List (Nat × Nat)}
theorem nv (r:Nat -> Nat):∀(l:List Nat), l ≠ [] -> ∃k ∈ l, ∀j ∈ l, r k <= r j
 | [],h=>absurd rfl h
 | [a],_=>⟨a,by simp,λj hj=>by rw[wO.mp hj];exact wr _⟩
 | a::b::l,_=>by
  obtain⟨k,hk,h⟩:=nv r (b::l) (by simp);by_cases q:r a<=r k
  ·refine⟨a,by simp,λj hj=>?_⟩;rcases wH.mp hj with rfl | hj
   ·exact wr _
   ·exact wM q (h j hj)
  ·refine⟨k,wY _ hk,λj hj=>?_⟩;rcases wH.mp hj with rfl | hj
   ·omega
   ·exact h j hj
end MG
namespace L2
open PySem PySem.Spec PyProof.Rows
open PySem.AutoSeq1 (wpAny_loadPart')
section
variable {prog:Program}{w:World}{A:Around}{E:QS}{s:Shared}
theorem iV (c:s.heap.IsTupleIter z q i) (d:s.heap.IsTuple q B) (j:B[i]? = some y)
    (g:∀h',h'.IsTupleIter z q (i+1)->Heap.SameBut z s.heap h'->Q y { s with heap:=h' }):wpAny (model prog w) A (Builtin.SmallTypes.nextOf (.ref z)) Q E s:=by
 obtain⟨l,a,f,b⟩:=id c;obtain⟨m,e,_,k,h⟩:=d;unfold Builtin.SmallTypes.nextOf;refine wq (wpAny_callSpecial?_slot (name:=Str.ofString "__next__") c.typeIs F.slot_tuple_iterator_next (wpAny_call_entry F.slot_tuple_iterator_next c.typeIs F.entry_tuple_iterator_next ?_ (F.args_tuple_iterator_next_1 _)));show wpAny _ _ (field (.ref z) 0 >>= _) _ _ s;refine wq (xg a b (x:=.ref q) rfl ?_);show wpAny _ _ (if (Value.ref q==Value.none)=true then _ else _) _ _ s;rw[if_neg (show ¬ ((Value.ref q==Value.none)=true) from wZ)];show wpAny _ _ (field (.ref z) 1 >>= _) _ _ s;refine wq (xg a b (x:=.int i 0) rfl (wq (xt e h ?_)));simp only[xZ,j];refine wq (wpAny_setField a b (by simp) (wu ⟨y,rfl,wu (g _ ?_ (Heap.SameBut.update ..))⟩));exact⟨_,Heap.get?_update_self _ a (Obj.isFreed_of_fields (Obj.data_mapFields b _)),(Obj.cls_mapFields ..).trans f,by rw[Obj.data_mapFields b];simp[rawInt]⟩
theorem gK (h:A.handled=none) (c:s.heap.IsTupleIter z q i) (d:s.heap.IsTuple q B) (l:B[i]? = none)
    (k:∀h' e,Heap.ExtBut z s.heap h'->(∃o,h'.get? e=some o/\o.cls=.type "StopIteration")->E (.ref e) { s with heap:=h' }):wpAny (model prog w) A (Builtin.SmallTypes.nextOf (.ref z)) Q E s:=by
 obtain⟨t,b,n,f⟩:=id c;obtain⟨r,g,_,p,j⟩:=d;unfold Builtin.SmallTypes.nextOf;refine wq (wpAny_callSpecial?_slot (name:=Str.ofString "__next__") c.typeIs F.slot_tuple_iterator_next (wpAny_call_entry F.slot_tuple_iterator_next c.typeIs F.entry_tuple_iterator_next ?_ (F.args_tuple_iterator_next_1 _)));show wpAny _ _ (field (.ref z) 0 >>= _) _ _ s;refine wq (xg b f (x:=.ref q) rfl ?_);show wpAny _ _ (if (Value.ref q==Value.none)=true then _ else _) _ _ s;rw[if_neg (show ¬ ((Value.ref q==Value.none)=true) from wZ)];show wpAny _ _ (field (.ref z) 1 >>= _) _ _ s;refine wq (xg b f (x:=.int i 0) rfl (wq (xt g j ?_)));simp only[xZ,l];refine wq (wpAny_rule (wq (wpAny_setField b f (by simp) ?_)));show wpAny _ _ (newExc (.type "StopIteration") [] >>= _) _ _ _;refine wq ?_;simp only[newExc,newTuple];refine wq (wpAny_newObj_type (wq (m:=firstArgMember _ _) (wpAny_of_eq (a:=Value.none) (by first | rfl | (simp only[firstArgMember];rfl)) ?_)) (by size_fits));refine wpAny_newObj_type ?_ (by size_fits);simp only[raiseNew];refine wq (wpAny_handled ?_)
 first | rw[show A.in1.handled=none from h] | rw[h]
 refine wq (wu (wpAny_throw (k _ _ (((Heap.SameBut.update ..).extBut.push _).push _) ⟨_,wQ _ rfl,rfl⟩)))
theorem uU (hh:A.handled=none) (jt tt:Addr) (hne:tt≠jt) (its:Array Value) :
    Draws prog w A jt [jt,tt] its.size (λi y=>its[i]? = some y) (λi h=>h.IsTupleIter jt tt i/\h.IsTuple tt its) where
 live:=λi h st=>let ⟨o,e,_⟩:=st.1;⟨o,e⟩
 frame:=λi h h' st k=>⟨let ⟨o,e,r⟩:=st.1;⟨o,k jt (by simp) o e,r⟩,let ⟨o,e,r⟩:=st.2;⟨o,k tt (by simp) o e,r⟩⟩
 item:=λi s Q E hi st hQ=>iV st.1 st.2 (y:=its[i]) (by simp[hi]) λh' j' sb=>hQ _ h' s.toks (by simp[hi]) ⟨j',st.2.extBut sb.extBut hne⟩ sb
 done:=λs Q E st hE=>gK hh st.1 st.2 (by simp) hE
set_option maxHeartbeats 1000000 in
theorem lJ (l:Addr) (its:Array Value) (n:Nat) (dct:Option Addr) (sl:Array (OV)) :
    Meets (Builtin.«enumerate.__new__» ⟨[.type "enumerate",.ref l],[]⟩) (λ_ R s=>s.heap.get? l=some { cls:=.type "tuple",dict:=dct,data:=.seq its n,slots:=sl } /\
     R (.ok (.ret (.ref (s.heap.push { cls:=.type "tuple_iterator",data:=.fields #[.ref l,.int 0 0] }).objs.size)))
      { s with heap:=(s.heap.push { cls:=.type "tuple_iterator",data:=.fields #[.ref l,.int 0 0] }).push { cls:=.type "enumerate",data:=.fields #[.none,.bool false,.ref s.heap.objs.size,rawInt 0,.none,.none] } }) :=
 .of_wp λe w A R s h => by
  obtain⟨i,g,j,k,d⟩:=s;obtain⟨a,h⟩:=h;have f:=sub_enumerate;have b:Heap.IsTuple (Shared.heap ⟨i,g,j,k,d⟩) l its:=⟨_,a,rfl,n,rfl⟩
  wp_walk using wpAny_loadPart' a
  refine wpAny_stack_any λm=>wu ?_
  split
  ·rename_i c _ _ _ _ _
   cases (c==Value.type "enumerate")
   ·wp_walk using wpAny_loadPart' a,xL b
    exact⟨_,rfl,h⟩
   ·wp_walk using wpAny_loadPart' a,xL b
    exact⟨_,rfl,h⟩
  ·wp_walk using wpAny_loadPart' a,xL b
   exact⟨_,rfl,h⟩
theorem om (m:s.heap.IsTuple l q)
    (h:∀h',IsEnum h' (s.heap.objs.size+1) s.heap.objs.size 0 .none->h'.IsTupleIter s.heap.objs.size l 0->(∀b o,s.heap.get? b=some o->h'.get? b=some o)->Q (.ref (s.heap.objs.size+1)) { s with heap:=h' }) :
    wpAny (model prog w) A (call (.type "enumerate") [.ref l]) Q E s:=by
 obtain⟨⟨c,f,j,p⟩,k,e,n,d⟩:=m
 replace e:c=.type "tuple":=e
 replace d:j=.seq q n:=d
 subst e d;refine callType_new F.called_enumerate (by decide) (F.typeCall_enumerate_1 _) (F.newCall_enumerate_1 _) (λa=>F.args_object_init_2 a _) F.entry_enumerate_new (lJ l q n f p) ⟨k,?_⟩;have g:(s.heap.push { cls:=.type "tuple_iterator",data:=.fields #[.ref l,.int 0 0] }).objs.size=s.heap.objs.size+1:=x6 ..;show _/\_;rw[g];have i:IsEnum ((s.heap.push { cls:=.type "tuple_iterator",data:=.fields #[.ref l,.int 0 0] }).push { cls:=.type "enumerate",data:=.fields #[.none,.bool false,.ref s.heap.objs.size,rawInt 0,.none,.none] }) (s.heap.objs.size+1) s.heap.objs.size 0 .none:=by
  have:=wQ (s.heap.push { cls:=.type "tuple_iterator",data:=.fields #[.ref l,.int 0 0] }) (o:={ cls:=.type "enumerate",data:=.fields #[.none,.bool false,.ref s.heap.objs.size,rawInt 0,.none,.none] }) rfl;rw[g] at this;exact this
 exact⟨⟨_,i,rfl⟩,h _ i ⟨_,wD _ (wQ _ rfl),rfl,rfl⟩ λb o x=>wD _ (wD _ x)⟩
end
def kH (K:W.Frag) (a:Addr):It :=
 ⟨λi H=>∃xs x,SqT K H a xs/\xs[i]? = some x,λi H v H'=>∃p x,H p=none/\v=.ref p/\(∀xs,SqT K H a xs->xs[i]? = some x)/\H'=upd H p (.tup [.int i,x]),λi H=>∃xs,SqT K H a xs/\xs.length<=i⟩
theorem nG {P:Program}{w:World}{K:W.Frag}{elts:List Expr}{k:Nat}{tp:Pos}(a e it:Addr) (hne:e ≠ it) :
    Turn P w K (.Tuple elts k tp) (kH K a) [e,it] e (λi h=>(∃old,IsEnum h e it i old)/\h.IsTupleIter it a i) where
 mem:=by simp
 obj:=λi h st b hb=>by
  obtain⟨⟨old,he⟩,hit⟩:=st;have hb:b=e∨b=it:=by simpa using hb
  rcases hb with z | z
  ·subst z;exact⟨_,he,λv z=>by cases z⟩
  ·subst z;obtain⟨o,e1,c,d⟩:=hit;exact⟨o,e1,λv z=>by rw[d] at z;cases z⟩
 keep:=λi h h' st kk=>by
  obtain⟨⟨old,he⟩,hit⟩:=st;exact⟨⟨old,kk e (by simp) _ he⟩,let ⟨o,q,r⟩:=hit;⟨o,kk it (by simp) o q,r⟩⟩
 item := by
  intro X hP hw hK hc i pins s σ H E I hf st hg;subst hP hw hK;obtain⟨⟨old,he⟩,hit⟩:=st;obtain⟨xs,x,hq,hx⟩:=hg;obtain⟨its,rv,p,hz⟩:=I.tuple hq;obtain⟨u,hu,ru⟩:=rv.get hx;obtain⟨f0,f1,f2,f3,f4,f5⟩:=hf e (by simp);obtain⟨g0,g1,g2,g3,g4,g5⟩:=hf it (by simp);have hel:e<s.heap.objs.size:=wz he;have hil:it<s.heap.objs.size:=by obtain⟨o,q,_⟩:=hit;exact wz q
  have hae:a≠e:=λz=>by
   obtain⟨o,q,c,_⟩:=p;rw[z,he] at q;cases q;simp at c
  have hai:a≠it:=λz=>by
   obtain⟨o,q,c,_⟩:=p;obtain⟨o',q',c',_⟩:=hit;rw[z,q'] at q;cases q;rw[c] at c';simp at c'
  have hul:=(wv.mp hu).1;refine wpAny_pyNext_enum_itemD (uU (A:=X.A.in1) (show X.A.in1.handled=none from I.ok.hd hc) it a hai its.toArray) he ⟨hit,p⟩ (by simpa using hul) hne (by simp[hne,Ne.symm hae]) λu' h1 tk hu' ho hit1 ht1 hz1 k1=>?_;have eu:u'=u:=by
   have:its[i]? = some u':=by simpa using hu'
   rw[hu] at this;exact(wA this).symm
  subst eu;refine⟨_,rfl,wpAny_letOwnedTupleGo_enum ho λh2 he2 sb2=>?_⟩;have sb2:Heap.SameBut e h1 h2:=sb2;have T2:h2.get? s.heap.objs.size=some { cls:=.type "tuple",data:=.seq #[.int i tk,u'] }:=(sb2.2 _ (xK hel)).trans ht1;have hp:H s.heap.objs.size=none:=I.hok.fresh (wr _);have nit:∀b v,H b=some v->b≠e/\b≠it:=λb v q=>⟨λz=>(by rw[z,f0] at q;cases q),λz=>(by rw[z,g0] at q;cases q)⟩
  have kk:∀b o,b≠e->b≠it->s.heap.get? b=some o->h2.get? b=some o:=λb o n1 n2 q=>(sb2.2 b n1).trans (k1 b o n1 n2 q);have up:∀b v,H b=some v->upd H s.heap.objs.size (.tup [.int i,x]) b=some v:=λb v q=>by rw[ag (av q hp)];exact q
  have I1:Inv X pins σ (upd H s.heap.objs.size (.tup [.int i, x])) { s with heap := h2, gens := s.gens, drawn := s.drawn, toks := tk+1 } := by
   refine I.step (g':=s.gens) (d':=s.drawn) (ch:=[e,it]) (λb hb=>?_) (λb o _ _ hb q _=>kk b o (λz=>hb (by simp[z])) (λz=>hb (by simp[z])) q) (λb o _ _ hb q _=>⟨o.slots,kk b o (λz=>hb (by simp[z])) (λz=>hb (by simp[z])) q⟩) (λb o _ q n=>?_)
    (λb o hb q=>⟨o,kk b o (λz=>hb (by simp[z])) (λz=>hb (by simp[z])) q⟩) (λb ys q=>up b _ q) (λb o v q=>up b _ q) (λb ps q=>⟨#[],by rw[up b _ q];simp⟩) (λm hm=>?_) (λb v q=>?_) I.bare
   ·have hb:b=e∨b=it:=by simpa using hb
    rcases hb with z | z
    ·subst z;exact⟨f3,f1,f4,f5⟩
    ·subst z;exact⟨g3,g1,g4,g5⟩
   ·rw[ag (wJ (wz q))];exact n
   ·obtain⟨o,es,ep,ho,r⟩:=hm;exact⟨o,es,ep,kk _ o (Ne.symm f1) (Ne.symm g1) ho,r⟩
   ·by_cases hb:b=s.heap.objs.size
    ·subst hb;rw[ac] at q;have q':HO.tup [V.int i,x]=v:=wA q;subst q';exact⟨by show 2<=sizeLine;decide,[.int i tk,u'],.cons ⟨_,rfl⟩ (.cons ru .nil),⟨_,T2,rfl,_,rfl,rfl⟩⟩
    ·rw[ag hb] at q;refine(I.hok b v q).stay (λc v' hc q'=>?_) (λc q=>up c _ q) λc ys q=>up c _ q;rcases hc with z | z
     ·rw[z] at q' ⊢;exact kk b v' (nit b v q).1 (nit b v q).2 q'
     ·exact kk c v' (nit c _ z).1 (nit c _ z).2 q'
  refine⟨.ref s.heap.objs.size,upd H s.heap.objs.size (.tup [.int i,x]),I1,rfl,⟨_,x,hp,rfl,λys hy=>by rw[I.tuple_inj hy hq];exact hx,rfl⟩,⟨⟨u',?_⟩,?_⟩,λb hb=>?_⟩
  ·exact(by simpa using he2)
  ·obtain⟨o,q,r⟩:=hit1.1;exact⟨o,(sb2.2 it (Ne.symm hne)).trans q,r⟩
  ·have hb:b=e∨b=it:=by simpa using hb
   rcases hb with z | z
   ·rw[z,ag (wJ hel)];exact f0
   ·rw[z,ag (wJ hil)];exact g0
 done:=by
  intro X hP hw hK hc i pins s σ H E I hf st hg;subst hP hw hK;obtain⟨⟨old,he⟩,hit⟩:=st;obtain⟨xs,hq,hx⟩:=hg;obtain⟨its,rv,p,hz⟩:=I.tuple hq;obtain⟨g0,g1,g2,g3,g4,g5⟩:=hf it (by simp);have hl:=rv.length;have hT:s.TypeIs (.ref e) "enumerate":=⟨_,he,rfl⟩
  unfold pyNext;refine wq (wpAny_attempt (wpAny_callSpecial?_slot (name:=Str.ofString "__next__") hT F.slot_enumerate_next (wpAny_call_entry F.slot_enumerate_next hT F.entry_enumerate_next ?_ (F.args_enumerate_next_1 _))));show wpAny _ _ (field (.ref e) 2 >>= _) _ _ _;refine wq (xg he rfl (x:=.ref it) rfl (wq (gK (I.ok.hd hc) hit p (by simp;omega) λh' x he' hx'=>?_)));obtain⟨o,ho,hc'⟩:=hx';refine wq (wpAny_isInstance (T:="StopIteration") (b:=true) ⟨o,ho,hc'⟩ isSubtype_stop ?_);exact wu ⟨rfl,I.turned (t':=s.toks) (λb o hb q=>he' b o hb q) g0 g1 g3 g4 g5⟩
 self:=λ_ _ _ _ _ st h=>by
  obtain⟨⟨old,he⟩,_⟩:=st;exact wpAny_pyIter_enum he h
inductive EnmR (K:W.Frag) (H:Hp):V->(It->Hp->Prop)->Prop
 | lst {a:Addr} {xs:LV} {R:It->Hp->Prop}:SqL K H a xs->R (Ite K a) H->EnmR K H (.ref a) R
 | tup {a:Addr} {xs:LV} {R:It->Hp->Prop}:SqT K H a xs->R (kH K a) H->EnmR K H (.ref a) R
def uJ (K:W.Frag) (ta:TA):TI:=λσ H R=>ta σ H λvs H1=>∃x,vs=[x]/\EnmR K H1 x R
theorem qi (K:W.Frag) {X:Cx}{elts:List Expr}{k:Nat}{tp:Pos}{a:Expr}{ta:TA}{p pos:Pos}(D:Gl X "enumerate") (B:X.mg "enumerate"=none) (L:PA X [a] ta) (w:starEach [a] X.env=[(false,eval a X.env)]:=by rfl) (A:X.K=K:=by rfl) :
    PI X (.Tuple elts k tp) (.Call (.Name "enumerate" p) [a] [] pos) (uJ K ta):=by
 subst A;intro d s E H R I h;refine Call_ (dE I D B boot_enumerate (PyProof.Rows.callWith_type1 (thn (L pos d s E H _ I h) λM c ⟨N,m,f,F,G⟩=>?_) w rfl));obtain⟨x,e,q⟩:=G;subst e;obtain⟨u,rfl,v⟩:=cK F;have j:∀b,b=c.heap.objs.size+1∨b=c.heap.objs.size->FpOk X d m b:=λb i=>by
  rcases i with z | z
  ·subst z;exact f.fpOk (Nat.le_succ _) (f.hok.fresh (Nat.le_succ _))
  ·subst z;exact f.fpOk (wr _) (f.hok.fresh (wr _))
 cases q with
 | lst hq q =>
  cases v;obtain⟨r,J,t,C⟩:=f.list hq;refine call_enumerate_list t.isList λo l g y n=>wpAny_pyIter_enum (s:={ c with heap:=o }) l ?_;exact⟨_,[c.heap.objs.size+1,c.heap.objs.size],_,_,m,rfl,f.kept (t':=c.toks) n,jA _ _ _ (Nat.succ_ne_self _),⟨⟨_,l⟩,g⟩,λb i=>j b (by simpa using i),q⟩
 | tup hq q =>
  cases v;obtain⟨r,J,t,C⟩:=f.tuple hq;refine om t λo l g n=>wpAny_pyIter_enum (s:={ c with heap:=o }) l ?_;exact⟨_,[c.heap.objs.size+1,c.heap.objs.size],_,_,m,rfl,f.kept (t':=c.toks) n,nG _ _ _ (Nat.succ_ne_self _),⟨⟨_,l⟩,g⟩,λb i=>j b (by simpa using i),q⟩
theorem oA {K:W.Frag}{a:Addr}{xs:LV}{g:TG}{tb:TS}{D:Ends}{σ:St}{H:Hp}(Pv:Nat -> St -> Hp -> Prop) (c:Pv 0 σ H) (h:∀i σ H, i <= xs.length -> Pv i σ H -> SqT K H a xs)
    (j:∀i x σ H p,xs[i]? = some x->Pv i σ H->H p=none->g (.ref p) σ (upd H p (.tup [.int i,x])) λσ2 H2=>tb { D with nx:=Pv (i+1),ct:=Pv (i+1),bk:=D.nx } σ2 H2) (d:∀σ H,Pv xs.length σ H->D.nx σ H) :
    ∃W:Nat->Nat->SH,(∃m,W 0 m σ H)/\∀i m σ H,W i m σ H ->
     ((kH K a).stop i H/\D.nx σ H)∨((kH K a).go i H/\∃N:SH,(∀σ' H',N σ' H'->∃B,B<m/\W (i+1) B σ' H')/\∀x H',(kH K a).yld i H x H'->g x σ H' λσ2 H2=>tb { D with nx:=N,ct:=N,bk:=D.nx } σ2 H2):=by
 refine⟨λi m σ H=>m=xs.length-i/\i<=xs.length/\Pv i σ H,⟨xs.length,by simp,wW _,c⟩,?_⟩;rintro i m σ H ⟨rfl,f,p⟩;have q:=h i σ H f p;by_cases b:i<xs.length
 ·refine .inr ⟨⟨xs,xs[i],q,by simp[b]⟩,Pv (i+1),λσ' H' n=>⟨xs.length-(i+1),by omega,rfl,b,n⟩,λx H' y=>?_⟩;obtain⟨r,z,k,rfl,l,rfl⟩:=y;exact j i z σ H r (l xs q) p k
 ·have e:i=xs.length:=by omega
  subst e;exact .inl ⟨⟨xs,q,wr _⟩,d σ H p⟩
end L2
namespace L2
open PySem PySem.Spec PyProof.Rows
abbrev Zp (h:Heap) (z TI TO:Addr) (f0:Value) (f1:Bool):Prop:=h.get? z=some { cls:=.type "zip",dict:=none,data:=.fields #[f0,.bool f1,.bool false,.ref TI,.ref TO],slots:=#[] }
def F0 (f0:Value):Prop:=f0=.none∨∃T:Nat,f0=rawInt (T:Int)
def ItI:Bool->Heap->Addr->Addr->Nat->Prop
 | true,h,i,l,k=>h.IsTupleIter i l k
 | false,h,i,l,k=>h.IsListIter i l k
def SqI:Bool->Heap->Addr->Array Value->Prop
 | true,h,l,xs=>h.IsTuple l xs
 | false,h,l,xs=>h.IsList l xs
theorem ItI.at (j:ItI t h i l k) (f:∀o,h.get? i=some o->h'.get? i=some o):ItI t h' i l k:=by
 cases t
 ·exact Heap.IsListIter.at (h:=h) j f
 ·exact Heap.IsTupleIter.at (h:=h) j f
theorem SqI.at (j:SqI t h l xs) (f:∀o,h.get? l=some o->h'.get? l=some o):SqI t h' l xs:=by
 cases t
 ·exact Heap.IsList.at (h:=h) j f
 ·exact Heap.IsTuple.at (h:=h) j f
section
variable {prog:Program}{w:World}{A:Around}{E:QS}{s:Shared}
theorem pQ (h:Q (s.heap.get? a) s):wpAny (model prog w) A (loadIfAlive a) Q E s:=λ_ _ _=>h
theorem mJ {z TI TO:Addr}{G:Value}{q:Bool}(f:F0 G) (a:Zp s.heap z TI TO G q) {Q:Bool -> Shared -> Prop}(h:∀b B h', Zp h' z TI TO G B -> Heap.SameBut z s.heap h' -> Q b { s with heap := h' }) :
    wpAny (model prog w) A (Builtin.SmallTypes.ownedTupleIsFree (.ref z)) Q E s:=by
 unfold Builtin.SmallTypes.ownedTupleIsFree;rcases f with rfl | ⟨T,rfl⟩
 ·exact wq (xg a rfl (x:=.none) rfl (wu (h true q s.heap a (Heap.SameBut.refl ..))))
 ·refine wq (xg a rfl (x := rawInt (T:Int)) rfl ?_);refine wq (pQ ?_);cases s.heap.get? (T:Int).toNat with
  | none=>exact wu (h true q s.heap a (Heap.SameBut.refl ..))
  | some o =>
   show wpAny _ _ (field (.ref z) 1 >>= _) _ _ _;refine wq (xg a rfl (x:=.bool q) rfl ?_);cases q with
   | true=>exact wu (h false true s.heap a (Heap.SameBut.refl ..))
   | false =>
    show wpAny _ _ (setField (.ref z) 1 (.bool true) >>= _) _ _ _;exact wq (xF a (by simp) λe c d=>wu (h false true e c d))
theorem dy (c:ItI t s.heap z B i) (a:SqI t s.heap B q) (d:q[i]? = some y)
    (b:∀h',ItI t h' z B (i+1)->Heap.SameBut z s.heap h'->Q y { s with heap:=h' }):wpAny (model prog w) A (Builtin.SmallTypes.nextOf (.ref z)) Q E s:=by
 cases t
 ·exact wpAny_nextOf_list_item c a d b
 ·exact iV c a d b
theorem fG (f:A.handled=none) (b:ItI t s.heap z B i) (a:SqI t s.heap B q) (c:q[i]? = none)
    (d:∀h' e,Heap.ExtBut z s.heap h'->(∃o,h'.get? e=some o/\o.cls=.type "StopIteration")->E (.ref e) { s with heap:=h' }):wpAny (model prog w) A (Builtin.SmallTypes.nextOf (.ref z)) Q E s:=by
 cases t
 ·exact wpAny_nextOf_list_end f b a c d
 ·exact gK f b a c d
theorem qx {t1 t2:Bool}{z TI TO B G U l2:Addr}{k1 k2:Nat}{f0:Value}{f1:Bool}{xs ys:Array Value}{x y a b:Value}{Q:Value -> Shared -> Prop}(D:ZipApart z TI TO B G U l2) (hf:F0 f0)
    (hz:Zp s.heap z TI TO f0 f1) (a2:IsPair s.heap TI (.ref B) (.ref G)) (T:IsPair s.heap TO a b)
    (h1:ItI t1 s.heap B U k1) (h2:ItI t2 s.heap G l2 k2) (X:SqI t1 s.heap U xs) (S:SqI t2 s.heap l2 ys) (hx:xs[k1]? = some x) (hy:ys[k2]? = some y)
    (hQ:∀h' Y q,F0 Y->Zp h' z TI TO Y q->(∃a b,IsPair h' TO a b)->ItI t1 h' B U (k1+1)->ItI t2 h' G l2 (k2+1)->IsPair h' s.heap.objs.size x y ->
     (∀c o,c≠z->c≠TO->c≠B->c≠G->s.heap.get? c=some o->h'.get? c=some o)->Q (.ref s.heap.objs.size) { s with heap:=h' }) :
    wpAny (model prog w) A (Builtin.«zip.__next__» ⟨[.ref z],[]⟩) (λa4 s'=>∃v,a4=.done (.ret v)/\Q v s') E s:=by
 show wpAny _ _ (field (.ref z) 2 >>= _) _ _ _;refine wq (xg hz rfl (x:=.bool false) rfl ?_);show wpAny _ _ (field (.ref z) 3 >>= _) _ _ _;refine wq (xg hz rfl (x:=.ref TI) rfl (wq (xt a2 rfl ?_)));refine wq (mJ hf hz λa1 q N J L=>?_);have R:N.objs.size=s.heap.objs.size:=L.1;cases a1 with
 | true =>
  simp only[if_true];refine wq (wpAny_rule ?_);refine wq (xg (s:={ s with heap:=N }) J rfl (x:=.ref TO) rfl ?_);refine wq (xF (s:={ s with heap:=N }) J (by simp) λg1 M O=>?_)
  replace M:Zp g1 z TI TO .ellipsis q:=M
  refine wq ?_;simp only[List.zipIdx_cons,List.zipIdx_nil,x3,List.forIn_nil];refine wq (wq (wpAny_onRaise ?_));show wpAny _ _ (Builtin.SmallTypes.nextOf (.ref B) >>= _) _ _ _;have up1:∀c o,c≠z->s.heap.get? c=some o->g1.get? c=some o:=λc o n e=>O.extBut _ _ n (L.extBut _ _ n e);refine wq (dy (h1.at λo e=>up1 _ o D.i1z e) (X.at λo e=>up1 _ o D.l1z e) hx λg2 j1 f=>wu ?_);have F:IsPair g2 TO a b:=f.extBut _ _ D.TOi1 (up1 _ _ D.TOz T);refine wq (xt F rfl (wq (wpAny_updateSeq_pair F λg3 j p=>?_)))
  replace j:IsPair g3 TO x b:=j
  refine wq (wpAny_letGo (wu (wq (wq (wpAny_onRaise ?_)))));show wpAny _ _ (Builtin.SmallTypes.nextOf (.ref G) >>= _) _ _ _;have I:∀c o,c≠z->c≠B->c≠TO->s.heap.get? c=some o->g3.get? c=some o:=λc o n1 n2 n3 e=>p.extBut _ _ n3 (f.extBut _ _ n2 (up1 _ _ n1 e));refine wq (dy (h2.at λo e=>I _ o D.i2z D.i12.symm D.TOi2.symm e) (S.at λo e=>I _ o D.l2z D.l2i1 D.l2TO e) hy λl j2 d=>wu ?_);have u:IsPair l TO x b:=d.extBut _ _ D.TOi2 j;refine wq (xt u rfl (wq (wpAny_updateSeq_pair u λh g k=>?_)))
  replace g:IsPair h TO x y:=g
  refine wq (wpAny_letGo (wu (wu ?_)));refine wq (xt g rfl (wq (wpAny_newTuple ?_)));have K:h.objs.size=s.heap.objs.size:=by rw[k.1,d.1,p.1,f.1,O.1,R]
  have V:Zp h z TI TO .ellipsis q:=k.extBut _ _ D.TOz.symm (d.extBut _ _ D.i2z.symm (p.extBut _ _ D.TOz.symm (f.extBut _ _ D.i1z.symm M)));have a5:ItI t1 h B U (k1+1):=j1.at λo e=>k.extBut _ _ D.TOi1.symm (d.extBut _ _ D.i12 (p.extBut _ _ D.TOi1.symm e));have a6:ItI t2 h G l2 (k2+1):=j2.at λo e=>k.extBut _ _ D.TOi2.symm e;have a3:∀c o,c≠z->c≠TO->c≠B->c≠G->s.heap.get? c=some o->h.get? c=some o:=λc o m c2 P c4 e=>k.extBut _ _ c2 (d.extBut _ _ c4 (I _ _ m P c2 e));have C:z<h.objs.size:=wz V;show wpAny _ _ (Builtin.SmallTypes.ownedTupleHandOut (.ref z) (.ref h.objs.size) >>= _) _ _ _;refine wq ?_;unfold Builtin.SmallTypes.ownedTupleHandOut;have a7:Zp (h.push { cls:=.type "tuple",data:=.seq #[x,y] }) z TI TO .ellipsis q:=wD _ V;refine wq (xF a7 (by simp) λg7 H Z=>?_)
  replace H:Zp g7 z TI TO (rawInt h.objs.size) q:=H
  refine xF H (by simp) λg8 t a0=>?_
  replace t:Zp g8 z TI TO (rawInt h.objs.size) false:=t
  have up:∀c o,c≠z->h.get? c=some o->g8.get? c=some o:=λc o m e=>a0.extBut _ _ m (Z.extBut _ _ m (wD _ e));have i:IsPair g8 h.objs.size x y:=a0.extBut _ _ (xK C) (Z.extBut _ _ (xK C) (wQ _ rfl));refine wu ⟨_,rfl,?_⟩;show Q (.ref h.objs.size) _;rw[K] at t i ⊢;exact hQ g8 _ _ (.inr ⟨_,rfl⟩) t ⟨x,y,up _ _ D.TOz g⟩ (a5.at λo e=>up _ o D.i1z e) (a6.at λo e=>up _ o D.i2z e) i λc o m c2 P c4 e=>up c o m (a3 c o m c2 P c4 e)
 | false =>
  simp only[xQ,if_false];refine wq ?_;rw[<- Array.forIn_toList];simp only[x3,List.forIn_nil];refine wq (wq (xh ?_));show wpAny _ _ (Builtin.SmallTypes.nextOf (.ref B) >>= _) _ _ _;have up1:∀c o,c≠z->s.heap.get? c=some o->N.get? c=some o:=λc o n e=>L.extBut _ _ n e;refine wq (dy (s:={ s with heap:=N }) (h1.at λo e=>up1 _ o D.i1z e) (X.at λo e=>up1 _ o D.l1z e) hx λg2 j1 f=>wu ?_)
  replace f:Heap.SameBut B N g2:=f
  refine wu (wq (wq (xh ?_)));show wpAny _ _ (Builtin.SmallTypes.nextOf (.ref G) >>= _) _ _ _;have r:∀c o,c≠z->c≠B->s.heap.get? c=some o->g2.get? c=some o:=λc o n1 n2 e=>f.extBut _ _ n2 (up1 _ _ n1 e);refine wq (dy (h2.at λo e=>r _ o D.i2z D.i12.symm e) (S.at λo e=>r _ o D.l2z D.l2i1 e) hy λl j2 d=>wu ?_)
  replace d:Heap.SameBut G g2 l:=d
  refine wu (wu ?_);show wpAny _ _ (newTuple [x,y] >>= _) _ _ _;refine wq (wpAny_newTuple (wu ⟨_,rfl,?_⟩));have K:l.objs.size=s.heap.objs.size:=by rw[d.1,f.1,R]
  show Q (.ref l.objs.size) _;have W:∀c o,l.get? c=some o->(l.push { cls:=.type "tuple",data:=.seq #[x,y] }).get? c=some o:=λc o e=>wD _ e;have i:IsPair (l.push { cls:=.type "tuple",data:=.seq #[x,y] }) l.objs.size x y:=wQ _ rfl;rw[K] at i ⊢;exact hQ _ _ _ hf (W _ _ (d.extBut _ _ D.i2z.symm (f.extBut _ _ D.i1z.symm J))) ⟨a,b,W _ _ (d.extBut _ _ D.TOi2 (r _ _ D.TOz D.TOi1 T))⟩ (j1.at λo e=>W _ o (d.extBut _ _ D.i12 e)) (j2.at λo e=>W _ o e) i λc o m c2 P c4 e=>W _ _ (d.extBut _ _ c4 (r _ _ m P e))
theorem tO {t1 t2:Bool}{z TI TO B I l1 l2:Addr}{Y U:Nat}{f0:Value}{f1:Bool}{xs ys:Array Value}{a b:Value}{Q:Fin -> Shared -> Prop}(O:A.handled=none) (D:ZipApart z TI TO B I l1 l2) (hf:F0 f0)
    (hz:Zp s.heap z TI TO f0 f1) (a0:IsPair s.heap TI (.ref B) (.ref I)) (a1:IsPair s.heap TO a b)
    (P:ItI t1 s.heap B l1 Y) (h2:ItI t2 s.heap I l2 U) (k:SqI t1 s.heap l1 xs) (M:SqI t2 s.heap l2 ys) (p:xs[Y]? = none∨ys[U]? = none)
    (R:∀h' e,(∀c o,c≠z->c≠TO->c≠B->c≠I->s.heap.get? c=some o->h'.get? c=some o)->(∃o,h'.get? e=some o/\o.cls=.type "StopIteration")->E (.ref e) { s with heap:=h' }) :
    wpAny (model prog w) A (Builtin.«zip.__next__» ⟨[.ref z],[]⟩) Q E s:=by
 show wpAny _ _ (field (.ref z) 2 >>= _) _ _ _;refine wq (xg hz rfl (x:=.bool false) rfl ?_);show wpAny _ _ (field (.ref z) 3 >>= _) _ _ _;refine wq (xg hz rfl (x:=.ref TI) rfl (wq (xt a0 rfl ?_)));refine wq (mJ hf hz λT v G H K=>?_);cases T with
 | true =>
  simp only[if_true];refine wq (wpAny_rule ?_);refine wq (xg (s:={ s with heap:=G }) H rfl (x:=.ref TO) rfl ?_);refine wq (xF (s:={ s with heap:=G }) H (by simp) λg1 j Z=>?_)
  replace j:Zp g1 z TI TO .ellipsis v:=j
  refine wq ?_;simp only[List.zipIdx_cons,List.zipIdx_nil,x3,List.forIn_nil];refine wq (wq (wpAny_onRaise ?_));show wpAny _ _ (Builtin.SmallTypes.nextOf (.ref B) >>= _) _ _ _;have up1:∀c o,c≠z->s.heap.get? c=some o->g1.get? c=some o:=λc o n e=>Z.extBut _ _ n (K.extBut _ _ n e);cases hx:xs[Y]? with
  | none =>
   refine wq (fG O (P.at λo e=>up1 _ o D.i1z e) (k.at λo e=>up1 _ o D.l1z e) hx λr e d F=>?_);obtain⟨oe,f,h⟩:=F;have N:Zp r z TI TO .ellipsis v:=d _ _ D.i1z.symm j;have y:e≠z:=λq=>by subst q;rw[N] at f;cases f;simp at h
   exact xF N (by simp) λS _ g=>R S e (λc o i _ u _ q=>g.extBut _ _ i (d _ _ u (up1 _ _ i q))) ⟨oe,g.extBut _ _ y f,h⟩
  | some x =>
   have hy:ys[U]? = none:=by rcases p with q | q;rw[hx] at q;cases q;exact q
   refine wq (dy (P.at λo e=>up1 _ o D.i1z e) (k.at λo e=>up1 _ o D.l1z e) hx λr j1 d=>wu ?_);have m:IsPair r TO a b:=d.extBut _ _ D.TOi1 (up1 _ _ D.TOz a1);refine wq (xt m rfl (wq (wpAny_updateSeq_pair m λS a2 g=>?_)));refine wq (wpAny_letGo (wu (wq (wq (wpAny_onRaise ?_)))));show wpAny _ _ (Builtin.SmallTypes.nextOf (.ref I) >>= _) _ _ _;have t:∀c o,c≠z->c≠B->c≠TO->s.heap.get? c=some o->S.get? c=some o:=λc o V W n3 e=>g.extBut _ _ n3 (d.extBut _ _ W (up1 _ _ V e));refine wq (fG O (h2.at λo e=>t _ o D.i2z D.i12.symm D.TOi2.symm e) (M.at λo e=>t _ o D.l2z D.l2i1 D.l2TO e) hy λX e l F=>?_);obtain⟨oe,f,h⟩:=F;have L:Zp X z TI TO .ellipsis v:=l _ _ D.i2z.symm (g.extBut _ _ D.TOz.symm (d.extBut _ _ D.i1z.symm j));have y:e≠z:=λq=>by subst q;rw[L] at f;cases f;simp at h
   exact xF L (by simp) λg5 _ J=>R g5 e (λc o i c2 u c4 q=>J.extBut _ _ i (l _ _ c4 (t _ _ i u c2 q))) ⟨oe,J.extBut _ _ y f,h⟩
 | false =>
  simp only[xQ,if_false];refine wq ?_;rw[<- Array.forIn_toList];simp only[x3,List.forIn_nil];refine wq (wq (xh ?_));show wpAny _ _ (Builtin.SmallTypes.nextOf (.ref B) >>= _) _ _ _;have up1:∀c o,c≠z->s.heap.get? c=some o->G.get? c=some o:=λc o n e=>K.extBut _ _ n e;cases hx:xs[Y]? with
  | none =>
   refine wq (fG (s:={ s with heap:=G }) O (P.at λo e=>up1 _ o D.i1z e) (k.at λo e=>up1 _ o D.l1z e) hx λr e d F=>?_);exact R r e (λc o i _ u _ q=>d _ _ u (up1 _ _ i q)) F
  | some x =>
   have hy:ys[U]? = none:=by rcases p with q | q;rw[hx] at q;cases q;exact q
   refine wq (dy (s:={ s with heap:=G }) (P.at λo e=>up1 _ o D.i1z e) (k.at λo e=>up1 _ o D.l1z e) hx λr j1 d=>wu ?_)
   replace d:Heap.SameBut B G r:=d
   refine wu (wq (wq (xh ?_)));show wpAny _ _ (Builtin.SmallTypes.nextOf (.ref I) >>= _) _ _ _;have C:∀c o,c≠z->c≠B->s.heap.get? c=some o->r.get? c=some o:=λc o V W e=>d.extBut _ _ W (up1 _ _ V e);refine wq (fG O (h2.at λo e=>C _ o D.i2z D.i12.symm e) (M.at λo e=>C _ o D.l2z D.l2i1 e) hy λX e l F=>?_);exact R X e (λc o i c2 u c4 q=>l _ _ c4 (C _ _ i u q)) F
end
theorem fV (c:s.TypeIs (.ref z) "zip")
    (h:wpAny (model prog w) A.in1 (Builtin.«zip.__next__» ⟨[.ref z],[]⟩) (λB s'=>∃v,B=.done (.ret v)/\Q (some v) s') (λe s'=>(∃o,s'.heap.get? (match e with | .ref a=>a | _=>0)=some o/\o.cls=.type "StopIteration")/\(∃a,e=.ref a)/\Q none s') s) :
    wpAny (model prog w) A (pyNext (.ref z)) Q E s:=by
 unfold pyNext;refine wq (wpAny_attempt (wpAny_callSpecial?_slot (name:=Str.ofString "__next__") c F.slot_zip_next (wpAny_call_entry F.slot_zip_next c F.entry_zip_next (xl h (λB s' ⟨v,e,q⟩=>⟨v,e,wu q⟩) λe s' q=>?_) (F.args_zip_next_1 _))));obtain⟨⟨o,d,f⟩,⟨a,rfl⟩,q⟩:=q;exact wq (wpAny_isInstance (T:="StopIteration") (b:=true) ⟨o,d,f⟩ isSubtype_stop (wu q))
def SqK:Bool->W.Frag->Hp->Addr->LV->Prop
 | true,K,H,a,xs=>SqT K H a xs
 | false,K,H,a,xs=>SqL K H a xs
theorem ItI.obj (j:ItI t h i l k):∃o,h.get? i=some o/\∀v,o.data≠.cell v:=by
 cases t
 ·obtain⟨o,e,_,d⟩:Heap.IsListIter h i l k:=j;exact⟨o,e,λv q=>by rw[d] at q;cases q⟩
 ·obtain⟨o,e,_,d⟩:Heap.IsTupleIter h i l k:=j;exact⟨o,e,λv q=>by rw[d] at q;cases q⟩
theorem Inv.sqK (I:Inv X pins σ H s) (h:SqK t X.K H a xs):∃q:List Value,Vals xs q/\SqI t s.heap a q.toArray:=by
 cases t
 ·obtain⟨q,r,p,_⟩:=I.list h;exact⟨q,r,p.isList⟩
 ·obtain⟨q,r,p,_⟩:=I.tuple h;exact⟨q,r,p⟩
theorem Inv.sqK_inj (I:Inv X pins σ H s) (h:SqK t X.K H a xs) (h':SqK t X.K H a ys):xs=ys:=by
 cases t
 ·exact I.list_inj h h'
 ·exact I.tuple_inj h h'
def Itg (t1 t2:Bool) (K:W.Frag) (a b:Addr):It :=
 ⟨λi H=>∃xs ys x y,SqK t1 K H a xs/\SqK t2 K H b ys/\xs[i]? = some x/\ys[i]? = some y,
  λi H v H'=>∃p x y,H p=none/\v=.ref p/\(∀xs,SqK t1 K H a xs->xs[i]? = some x)/\(∀ys,SqK t2 K H b ys->ys[i]? = some y)/\H'=upd H p (.tup [x,y]),
  λi H=>∃xs ys,SqK t1 K H a xs/\SqK t2 K H b ys/\(xs.length<=i∨ys.length<=i)⟩
theorem jW {t1 t2:Bool}{P:Program}{w:World}{K:W.Frag}{nm:Str}{tp:Pos}(a b z TI TO i1 i2:Addr) (D:ZipApart z TI TO i1 i2 a b) :
    Turn P w K (.Name nm tp) (Itg t1 t2 K a b) [z,TI,TO,i1,i2] z (λi h=>(∃f0 f1,F0 f0/\Zp h z TI TO f0 f1)/\IsPair h TI (.ref i1) (.ref i2)/\(∃c d,IsPair h TO c d)/\ItI t1 h i1 a i/\ItI t2 h i2 b i) where
 mem:=by simp
 obj:=λi h st c hc=>by
  obtain⟨⟨f0,f1,_,hz⟩,hTI,⟨u,v,hTO⟩,h1,h2⟩:=st;obtain⟨o1,e1,d1⟩:=h1.obj;obtain⟨o2,e2,d2⟩:=h2.obj;have hc:c=z∨c=TI∨c=TO∨c=i1∨c=i2:=by simpa using hc
  rcases hc with rfl | rfl | rfl | rfl | rfl
  ·exact⟨_,hz,λv q=>by cases q⟩
  ·exact⟨_,hTI,λv q=>by cases q⟩
  ·exact⟨_,hTO,λv q=>by cases q⟩
  ·exact⟨_,e1,d1⟩
  ·exact⟨_,e2,d2⟩
 keep:=λi h h' st k=>by
  obtain⟨⟨f0,f1,hf,hz⟩,hTI,⟨u,v,hTO⟩,h1,h2⟩:=st;exact⟨⟨f0,f1,hf,k z (by simp) _ hz⟩,k TI (by simp) _ hTI,⟨u,v,k TO (by simp) _ hTO⟩,h1.at λo e=>k i1 (by simp) o e,h2.at λo e=>k i2 (by simp) o e⟩
 item := by
  intro X hP hw hK hc i pins s σ H E I hf st hg;subst hP hw hK;obtain⟨⟨f0,f1,hf0,hz⟩,hTI,⟨ta,tb,hTO⟩,h1,h2⟩:=st;obtain⟨xs,ys,x,y,hqa,hqb,hx,hy⟩:=hg;obtain⟨its,rv,pa⟩:=I.sqK hqa;obtain⟨jts,rw',pb⟩:=I.sqK hqb;obtain⟨u,hu,ru⟩:=rv.get hx;obtain⟨v,hv,rv'⟩:=rw'.get hy;refine fV ⟨_,hz,rfl⟩ (qx D hf0 hz hTI hTO h1 h2 pa pb (x:=u) (y:=v) (by simpa using hu) (by simpa using hv) λh' f0' f1' hf' hz' hTO' j1 j2 hpr k=>⟨_,rfl,?_⟩);refine wu (s:={ s with heap:=h' }) ?_;have hp:H s.heap.objs.size=none:=I.hok.fresh (wr _);have fr:∀c∈[z,TI,TO,i1,i2],H c=none:=λc hc=>(hf c hc).1;have nit:∀c o,H c=some o->c≠z/\c≠TO/\c≠i1/\c≠i2:=λc o q=>by refine⟨?_,?_,?_,?_⟩ <;> (intro e;rw[e,fr _ (by simp)] at q;cases q)
  have up:∀c o,H c=some o->upd H s.heap.objs.size (.tup [x,y]) c=some o:=λc o q=>by rw[ag (av q hp)];exact q
  have kk:∀c o,c∉[z,TO,i1,i2]->s.heap.get? c=some o->h'.get? c=some o:=λc o n q=>k c o (λe=>n (by simp[e])) (λe=>n (by simp[e])) (λe=>n (by simp[e])) (λe=>n (by simp[e])) q;have mem5:∀c∈[z,TO,i1,i2],c∈[z,TI,TO,i1,i2]:=λc hc=>by simp at hc ⊢;rcases hc with e | e | e | e <;> simp[e]
  have hlt:∀c∈[z,TI,TO,i1,i2],c<s.heap.objs.size:=λc hc=>by
   have hc:c=z∨c=TI∨c=TO∨c=i1∨c=i2:=by simpa using hc
   rcases hc with rfl | rfl | rfl | rfl | rfl
   ·exact wz hz
   ·exact wz hTI
   ·exact wz hTO
   ·obtain⟨o,e,_⟩:=h1.obj;exact wz e
   ·obtain⟨o,e,_⟩:=h2.obj;exact wz e
  have I1:Inv X pins σ (upd H s.heap.objs.size (.tup [x, y])) { s with heap := h', gens := s.gens, drawn := s.drawn, toks := s.toks } := by
   refine I.step (g':=s.gens) (d':=s.drawn) (ch:=[z,TO,i1,i2]) (λc hc=>?_) (λc o _ _ n q _=>kk c o n q) (λc o _ _ n q _=>⟨o.slots,kk c o n q⟩) (λc o _ q n=>?_) (λc o n q=>⟨o,kk c o n q⟩) (λc ys q=>up c _ q) (λc o v q=>up c _ q) (λc ps q=>⟨#[],by rw[up c _ q];simp⟩) (λm hm=>?_) (λc o q=>?_) I.bare
   ·obtain⟨_,g1,_,g3,g4,g5⟩:=hf c (mem5 c hc);exact⟨g3,g1,g4,g5⟩
   ·rw[ag (wJ (wz q))];exact n
   ·obtain⟨o,es,ep,ho,r⟩:=hm;refine⟨o,es,ep,kk _ o (λn=>?_) ho,r⟩;exact(hf _ (mem5 _ n)).2.1 rfl
   ·by_cases hb:c=s.heap.objs.size
    ·subst hb;rw[ac] at q;have q':HO.tup [x,y]=o:=wA q;subst q';exact⟨by show 2<=sizeLine;decide,[u,v],.cons ru (.cons rv' .nil),⟨_,hpr,rfl,_,rfl,rfl⟩⟩
    ·rw[ag hb] at q;refine(I.hok c o q).stay (λd o' hd q'=>?_) (λd q=>up d _ q) λd ys q=>up d _ q;rcases hd with e | e
     ·rw[e] at q' ⊢;obtain⟨n1,n2,n3,n4⟩:=nit c o q;exact k c o' n1 n2 n3 n4 q'
     ·obtain⟨n1,n2,n3,n4⟩:=nit d _ e;exact k d o' n1 n2 n3 n4 q'
  refine⟨.ref s.heap.objs.size,upd H s.heap.objs.size (.tup [x,y]),I1,rfl,⟨_,x,y,hp,rfl,λzs hz=>by rw[I.sqK_inj hz hqa];exact hx,λzs hz=>by rw[I.sqK_inj hz hqb];exact hy,rfl⟩,⟨⟨f0',f1',hf',hz'⟩,?_,hTO',j1,j2⟩,λc hc=>?_⟩
  ·exact k TI _ D.TIz D.TITO D.TIi1 D.TIi2 hTI
  ·rw[ag (wJ (hlt c hc))];exact fr c hc
 done:=by
  intro X hP hw hK hc i pins s σ H E I hf st hg;subst hP hw hK;obtain⟨⟨f0,f1,hf0,hz⟩,hTI,⟨ta,tb,hTO⟩,h1,h2⟩:=st;obtain⟨xs,ys,hqa,hqb,hxy⟩:=hg;obtain⟨its,rv,pa⟩:=I.sqK hqa;obtain⟨jts,rw',pb⟩:=I.sqK hqb;have l1:=rv.length;have l2:=rw'.length;have hend:its.toArray[i]? = none∨jts.toArray[i]? = none:=by
   rcases hxy with q | q
   ·exact .inl (by simp;omega)
   ·exact .inr (by simp;omega)
  refine fV ⟨_,hz,rfl⟩ (tO (A:=X.A.in1) (show X.A.in1.handled=none from I.ok.hd hc) D hf0 hz hTI hTO h1 h2 pa pb hend λh' e k he=>⟨he,⟨e,rfl⟩,rfl,?_⟩);have fr:∀c∈[z,TI,TO,i1,i2],H c=none:=λc hc=>(hf c hc).1;have nit:∀c o,H c=some o->c≠z/\c≠TO/\c≠i1/\c≠i2:=λc o q=>by refine⟨?_,?_,?_,?_⟩ <;> (intro e;rw[e,fr _ (by simp)] at q;cases q)
  have kk:∀c o,c∉[z,TO,i1,i2]->s.heap.get? c=some o->h'.get? c=some o:=λc o n q=>k c o (λe=>n (by simp[e])) (λe=>n (by simp[e])) (λe=>n (by simp[e])) (λe=>n (by simp[e])) q;have mem5:∀c∈[z,TO,i1,i2],c∈[z,TI,TO,i1,i2]:=λc hc=>by simp at hc ⊢;rcases hc with e | e | e | e <;> simp[e]
  refine I.step (h':=h') (g':=s.gens) (d':=s.drawn) (t':=s.toks) (ch:=[z,TO,i1,i2]) (λc hc=>?_) (λc o _ _ n q _=>kk c o n q) (λc o _ _ n q _=>⟨o.slots,kk c o n q⟩) (λc o _ q n=>n) (λc o n q=>⟨o,kk c o n q⟩) (λc ys q=>q) (λc o v q=>q) (λc ps q=>⟨#[],by rw[q];simp⟩) (λm hm=>?_) (λc o q=>?_) I.bare
  ·obtain⟨_,g1,_,g3,g4,g5⟩:=hf c (mem5 c hc);exact⟨g3,g1,g4,g5⟩
  ·obtain⟨o,es,ep,ho,r⟩:=hm;refine⟨o,es,ep,kk _ o (λn=>?_) ho,r⟩;exact(hf _ (mem5 _ n)).2.1 rfl
  ·refine(I.hok c o q).stay (λd o' hd q'=>?_) (λd q=>q) λd ys q=>q;rcases hd with e | e
   ·rw[e] at q' ⊢;obtain⟨n1,n2,n3,n4⟩:=nit c o q;exact k c o' n1 n2 n3 n4 q'
   ·obtain⟨n1,n2,n3,n4⟩:=nit d _ e;exact k d o' n1 n2 n3 n4 q'
 self:=λA i s Q E st h=>by
  obtain⟨⟨f0,f1,hf0,hz⟩,_⟩:=st;have hT:s.TypeIs (.ref z) "zip":=⟨_,hz,rfl⟩
  refine wpAny_pyIter_slot hT F.slot_zip_iter (wpAny_call_entry F.slot_zip_iter hT F.entry_zip_iter ?_ (F.args_zip_iter_1 _));show wpAny _ _ (ret (.ref z)) _ _ s;exact wu ⟨_,rfl,"zip",_,hT,F.slot_zip_next.lookup,h⟩
def Itz (K:W.Frag) (a b:Addr):It :=
 ⟨λi H=>∃xs ys x y,SqL K H a xs/\SqL K H b ys/\xs[i]? = some x/\ys[i]? = some y,
  λi H v H'=>∃p x y,H p=none/\v=.ref p/\(∀xs,SqL K H a xs->xs[i]? = some x)/\(∀ys,SqL K H b ys->ys[i]? = some y)/\H'=upd H p (.tup [x,y]),
  λi H=>∃xs ys,SqL K H a xs/\SqL K H b ys/\(xs.length<=i∨ys.length<=i)⟩
theorem qd {P:Program}{w:World}{K:W.Frag}{nm:Str}{tp:Pos}(a b z TI TO f e:Addr) (D:ZipApart z TI TO f e a b) :
    Turn P w K (.Name nm tp) (Itz K a b) [z,TI,TO,f,e] z (λi h=>(∃q B,F0 q/\Zp h z TI TO q B)/\IsPair h TI (.ref f) (.ref e)/\(∃c d,IsPair h TO c d)/\h.IsListIter f a i/\h.IsListIter e b i) :=
 jW (t1:=false) (t2:=false) a b z TI TO f e D
def uI (K:W.Frag) (ta:TA):TI:=λσ H R=>ta σ H λvs H1=>∃a b xs ys,vs=[.ref a,.ref b]/\SqL K H1 a xs/\SqL K H1 b ys/\R (Itz K a b) H1
theorem pk (K:W.Frag) {X:Cx}{nm:Str}{tp:Pos}{a b:Expr}{ta:TA}{p pos:Pos}(M:Gl X "zip") (J:X.mg "zip"=none) (Z:PA X [a,b] ta) (E:starEach [a,b] X.env=(false,eval a X.env)::starEach [b] X.env:=by rfl) (hpl:(backTo pos (starEach [b] X.env)).any (·.1)=false:=by rfl) (G:X.K=K:=by rfl) :
    PI X (.Name nm tp) (.Call (.Name "zip" p) [a,b] [] pos) (uI K ta):=by
 subst G;intro i s O H R I h;refine Call_ (dE I M J (show bootBuiltins "zip"=some (.type "zip") by decide +kernel) (PyProof.Rows.callWith_type1 (thn (Z pos i s O H _ I h) λus f ⟨vs,F,k,v,S⟩=>?_) E hpl));obtain⟨n,u,xs,ys,e,o,y,q⟩:=S;subst e;obtain⟨u1,u2,rfl,v,Y⟩:=fF v;cases v;cases Y;obtain⟨V,rv,z,_⟩:=k.list o;obtain⟨N,D,A,_⟩:=k.list y;have C:n<f.heap.objs.size:=by obtain⟨_,e,_⟩:=z.isList;exact wz e
 have Q:u<f.heap.objs.size:=by obtain⟨_,e,_⟩:=A.isList;exact wz e
 refine call_zip_2 z.isList A.isList λg L m r l x _ U=>?_;have T:=qd (P:=X.prog) (w:=X.w) (K:=X.K) (nm:=nm) (tp:=tp) n u _ _ _ _ _ (zipApart_new C Q);have B:(∃f0 f1,F0 f0/\Zp g (f.heap.objs.size+4) (f.heap.objs.size+2) (f.heap.objs.size+3) f0 f1)/\IsPair g (f.heap.objs.size+2) (.ref f.heap.objs.size) (.ref (f.heap.objs.size+1))/\(∃c d,IsPair g (f.heap.objs.size+3) c d)/\g.IsListIter f.heap.objs.size n 0/\g.IsListIter (f.heap.objs.size+1) u 0:=⟨⟨_,_,.inl rfl,L⟩,m,⟨_,_,r⟩,l,x⟩
 refine T.self X.A 0 { f with heap:=g } _ _ B ?_;refine⟨_,_,_,_,F,rfl,k.kept (t':=f.toks) U,T,B,λb t=>?_,q⟩;have t:b=f.heap.objs.size+4∨b=f.heap.objs.size+2∨b=f.heap.objs.size+3∨b=f.heap.objs.size∨b=f.heap.objs.size+1:=by simpa using t
 have j:f.heap.objs.size<=b:=by rcases t with e | e | e | e | e <;> rw[e] <;> first | exact wr _ | exact Nat.le_add_right _ _
 exact k.fpOk j (k.hok.fresh j)
theorem kD {K:W.Frag}{k:Nat}{fr:List Nat}{g:TG}{tc:TT}{te:TE}{σ:St}{H1:Hp}{Q:VK}{a b:Addr}(xs ys:LV) (d:Addr -> Nat -> LV -> St -> Hp -> Prop)
    (h:∀D,H1 D=none->d D 0 [] (fv k fr σ) (upd H1 D (.lst []))/\(∀i z σ' H',i<=(xs.zip ys).length->d D i z σ' H'->H' D=some (.lst z)->SqL K H' a xs/\SqL K H' b ys) /\
     (∀i z σ' H' x y p,(xs.zip ys)[i]? = some (x,y)->d D i z σ' H'->H' D=some (.lst z)->H' p=none->g (.ref p) σ' (upd H' p (.tup [x,y])) λσ2 J=>tc σ2 J λb B =>
      if b=true then te σ2 B λy G=>G D=some (.lst z)/\z.length<sizeLine/\d D (i+1) (z++[y]) σ2 (upd G D (.lst (z++[y]))) else B D=some (.lst z)/\d D (i+1) z σ2 B) /\
     ∀z σ' H',d D (xs.zip ys).length z σ' H'->H' D=some (.lst z)->Q (.ref D) H'):ft k fr g tc te (Itz K a b) σ H1 Q:=by
 intro D t;obtain⟨E,n,s,r⟩:=h D t;refine⟨λi m z σ' H'=>m=(xs.zip ys).length-i/\i<=(xs.zip ys).length/\d D i z σ' H',⟨(xs.zip ys).length,by simp,wW _,E⟩,?_⟩;rintro i m z σ' H' ⟨rfl,u,p⟩ c;obtain⟨f,j⟩:=n i z σ' H' u p c;have L:(xs.zip ys).length=min xs.length ys.length:=xx;by_cases l:i<(xs.zip ys).length
 ·refine .inr ⟨⟨xs,ys,xs[i]'(by omega),ys[i]'(by omega),f,j,by simp,by simp⟩,d D (i+1),λo σ2 H I=>⟨(xs.zip ys).length-(i+1),by omega,rfl,l,I⟩,λv H A=>?_⟩;obtain⟨q,x,y,F,rfl,C,w,rfl⟩:=A;refine s i z σ' H' x y q ?_ p c F;rw[xy];exact⟨C xs f,w ys j⟩
 ·have e:i=(xs.zip ys).length:=by omega
  subst e;exact .inl ⟨⟨xs,ys,f,j,by omega⟩,r z σ' H' p c⟩
def kg (c:Nat):Bool:=decide (97<=c)&&decide (c<=122)
def uP:V->Bool
 | .str z=>decide (1<=z.length)&&(decide (z.length<=8)&&z.cps.toList.all kg)
 | _=>false
theorem isNm_iff:uP (.str z)=true ↔ Nm z:=by
 show (decide (1<=z.length)&&(decide (z.length<=8)&&z.cps.toList.all kg))=true ↔ _;rw[xj,xj,decide_eq_true_iff,decide_eq_true_iff,x4];unfold Nm
 constructor
 ·rintro⟨a,e,d⟩;refine⟨a,e,λc b=>?_⟩;have h:=d c b;unfold kg at h;rw[xj,decide_eq_true_iff,decide_eq_true_iff] at h;exact h
 ·rintro⟨a,e,d⟩;refine⟨a,e,λc b=>?_⟩;unfold kg;rw[xj,decide_eq_true_iff,decide_eq_true_iff];exact d c b
def pK (e:Str × Str):List Key:=[.inr e.1,.inr e.2]
theorem ur (h:pK e=pK f):e=f:=by
 unfold pK at h;have a:=List.cons.inj h;have b:=List.cons.inj a.2;exact Prod.ext (Sum.inr.inj a.1) (Sum.inr.inj b.1)
section
variable {X:Cx}{p pos p2 pos2:Pos}{e f:Expr}{t:TA}
inductive IntR (H:Hp):V->VK->Prop
 | int {i:Int} {Q:VK}:Q (.int i) H->IntR H (.int i) Q
 | bl {b:Bool} {Q:VK}:Q (.int (if b then 1 else 0)) H->IntR H (.bl b) Q
theorem nz (B:Blt X.mg) (d:PA X [e] t) (f:Gl X "int":=by rfl) (he:starEach [e] X.env=(false,eval e X.env)::starEach [] X.env:=by rfl) (hpl:(backTo pos (starEach [] X.env)).any (·.1)=false:=by rfl) :
    PE X (.Call (.Name "int" p) [e] [] pos) (tCB (λxs H Q=>∃x,xs=[x]/\IntR H x Q) t):=by
 refine eR (r:=λxs H Q=>∃x,xs=[x]/\IntR H x Q) (λa s c H xs b Q I r h=>?_) f B.int PyProof.Rows.boot_int d (by decide) (by decide) he hpl;obtain⟨x,rfl,h⟩:=h;cases h with
 | int q=>exact jK a s c H _ b Q I r (.inl ⟨_,rfl,q⟩)
 | bl q=>exact jK a s c H _ b Q I r (.inr ⟨_,rfl,q⟩)
end
end L2
namespace L2
open PySem PySem.Spec PyProof.Rows PySem.Builtin PySem.Builtin.Str
theorem tV (i j n:Nat):(strSliceIndices (some (i:Int)) (some (j:Int)) 1 n).length<=j-i:=by
 unfold strSliceIndices sliceRange;simp only[show (1:Int) > 0 by decide,if_true,wt,xu]
 split <;> (try simp only[Int.ediv_one]) <;> (repeat' split) <;> (try simp only[wt,xu,Int.ediv_one,xk]) <;> omega
theorem gD (z:Str) (i j:Nat):(Txt.slice z (some (i:Int)) (some (j:Int))).length<=j-i:=by
 unfold Txt.slice;have h:=tV i j z.length
 split
 ·rename_i q
  have q:(strSliceIndices (some (i:Int)) (some (j:Int)) 1 z.length).length=z.length:=by simpa using q
  omega
 ·show (List.filterMap _ _).toArray.size<=_;rw[wT];exact wM (List.length_filterMap_le _ _) h
theorem fw {z:Str}{j:Nat}(h:j<=z.length):(Txt.slice z none (some (j:Int))).length=j:=by
 have e:Txt.slice z none (some (j:Int))=StrLaws.sliceText z none (some (j:Int)):=rfl;rw[e,StrLaws.sliceText_to ⟨by omega,by simp[Str.length] at h ⊢;omega⟩];show (List.take _ _).toArray.size=j;rw[wT];simp[Str.length] at h ⊢;omega
theorem jH (z:Str) (j:Nat):(Txt.slice z none (some (j:Int))).length<=j:=by
 by_cases h:j<=z.length
 ·exact Nat.le_of_eq (fw h)
 ·exact wM (Txt.slice_le z _ _) (by omega)
theorem so (h:(x++⟨#[c]⟩++y:Str)=x++⟨#[d]⟩++y):c=d:=by
 have h:(x.cps++#[c]++y.cps).toList=(x.cps++#[d]++y.cps).toList:=congrArg (λs:Str=>s.cps.toList) h;simp only[x8,xz,List.append_cancel_left_eq] at h;simpa using h
theorem qo (h:(x++⟨#[c]⟩++⟨#[d]⟩++y:Str)=x++⟨#[c']⟩++⟨#[d']⟩++y):c=c'/\d=d':=by
 have h:(x.cps++#[c]++#[d]++y.cps).toList=(x.cps++#[c']++#[d']++y.cps).toList:=congrArg (λs:Str=>s.cps.toList) h;simp only[x8,xz,List.append_cancel_left_eq] at h;simpa using h
def Lo (t:Str):Prop:=∀x∈t.cps.toList,97<=x/\x<=122
theorem Lo.nil:Lo "":=λc a=>by
 have a:c∈("":Str).cps.toList:=a;rw[show ("":Str).cps.toList=[] by decide +kernel] at a;cases a
theorem Lo.one (h:97<=c/\c<=122):Lo ⟨#[c]⟩:=λd a=>by
 have:d=c:=by simpa using a
 omega
theorem Lo.app (d:Lo x) (b:Lo y):Lo (x++y):=λc a=>by
 have a:c∈(x.cps++y.cps).toList:=a;rw[x8] at a;rcases wR.mp a with h | h
 ·exact d c h
 ·exact b c h
theorem Lo.slice (h:Lo x) (l u:Option Int):Lo (Txt.slice x l u):=by
 unfold Txt.slice
 split
 ·exact h
 ·intro c a;have a:c∈(List.filterMap (x.cps[·]?) (strSliceIndices l u 1 x.length)).toArray.toList:=a;rw[List.toList_toArray] at a;obtain⟨i,_,e⟩:=xM.mp a;exact h c (by simpa using Array.mem_of_getElem? e)
theorem Lo.joinS (hs:Lo sep):∀ {ys:LS},(∀y∈ys,Lo y)->Lo (Str.join sep ys)
 | [],_=>λc hc=>by
  have hc:c∈(#[]:Array Nat).toList:=hc;simp at hc
 | [y],h=>h y (by simp)
 | y::z::r,h=>by
  show Lo (y++sep++Str.join sep (z::r));exact((h y (by simp)).app hs).app (Lo.joinS hs λx hx=>h x (wY _ hx))
theorem Lo.join (a:Lo q) (h:∀y∈ys,Lo y):Lo (Txt.join q ys):=by
 unfold Txt.join;rw[StrLaws.glued_eq_join];exact Lo.joinS a h
theorem Lo.nm (h:Lo z) (a:1<=z.length) (h2:z.length<=8):Nm z:=⟨a,h2,h⟩
def abc (j:Int):Str:=⟨#[97+j.toNat]⟩
theorem iC (b:0<=j) (a:j<26):Lo (abc j):=Lo.one (by omega)
theorem di (j:Int):(abc j).length=1:=rfl
theorem ll (b:0<=j) (c:j<26):atI ("abcdefghijklmnopqrstuvwxyz":Str).cps.toList j=some (97+j.toNat):=by
 obtain⟨k,rfl⟩:=xc b;have a:k<26:=by omega
 exact(by decide +kernel:∀k:Nat,k<26->atI ("abcdefghijklmnopqrstuvwxyz":Str).cps.toList (k:Int)=some (97+(k:Int).toNat)) k a
theorem q1 (h:∀y∈ys,y.length=1):(Txt.join "" ys).length=ys.length:=by
 have a:("":Str).length=0:=by decide +kernel
 unfold Txt.join;rw[size_glued,a,Nat.mul_zero,Nat.add_zero]
 induction ys with
 | nil=>rfl
 | cons y r ih =>
  have c:=h y (by simp);have d:=ih λz b=>h z (wY _ b);simp only[xb,List.sum_cons,wC];omega
theorem gr (f:Nat->α) (m:Nat) (h:∀i j,i<j->j<m->f i≠f j):((List.range m).map f).Nodup:=by
 rw[List.nodup_iff_pairwise_ne,List.pairwise_map];refine List.Pairwise.imp_of_mem ?_ (yh (n:=m));intro a b e d c;exact h a b c (xq.mp d)
theorem dW (f:Nat->α) (i:Nat):(List.range (i+1)).map f=(List.range i).map f++[f i]:=by rw[List.range_succ,wy];rfl
theorem iz (h:x∈(List.range m).map f):∃i,i<m/\x=f i:=by
 obtain⟨i,a,e⟩:=ww.mp h;exact⟨i,xq.mp a,e.symm⟩
theorem qM (a:LS) (c:a.Nodup) (d:i<a.length) (b:j<a.length) (h:a.getD i ""=a.getD j ""):i=j:=by
 rw[w6,w6,wP d,wP b] at h;exact(List.getElem_inj c).mp h
theorem ce:starEach (.Constant c j p::es) env=(false,eval (.Constant c j p) env)::starEach es env:=rfl
end L2
namespace L2
open PySem PySem.Spec PyProof.Rows
def SqA (H:Hp) (a:Addr) (xs:LV):Prop:=H a=some (.lst xs)∨H a=some (.tup xs)
theorem SqA.same (h:SqA H a xs) (s:Same H H'):SqA H' a xs:=by
 rcases h with h | h
 ·exact .inl (s _ _ h)
 ·exact .inr (s _ _ h)
theorem SqA.len {K:W.Frag}{H:Hp}{a:Addr}{xs:LV}(h:SqA H a xs):qV K (.ref a) H xs.length:=by
 rcases h with h | h
 ·exact .inl ⟨xs,.of h,rfl⟩
 ·exact .inr ⟨xs,.of h,rfl⟩
theorem fA:∀ds:List PyData,PyData.shownAll ds=ds.map PyData.shown
 | []=>rfl
 | d::ds=>by
  show PyData.shown d::PyData.shownAll ds=_;rw[fA ds];rfl
structure Sw (d:PyData) (n k:Nat):Prop where
 lay:d.canLay0=true
 sb:d.showable=true
 dp:d.depth<=k
 ln:d.shown.length<=n
theorem Sw.mono (h:Sw d n k) (a:n<=z) (b:k<=q):Sw d z q:=⟨h.lay,h.sb,wM h.dp b,wM h.ln a⟩
theorem Sw.all:∀ {ds:List PyData}, (∀d ∈ ds, Sw d n k) -> PyData.canLayAll0 ds=true /\ PyData.showableAll ds=true /\ PyData.depthAll ds <= k
 | [],_=>⟨rfl,rfl,wW _⟩
 | d::ds,h=>by
  obtain⟨a,b,c⟩:=Sw.all λx hx=>h x (wY _ hx);have q:=h d (by simp);refine⟨?_,?_,?_⟩
  ·show (PyData.canLay0 d&&PyData.canLayAll0 ds)=true;rw[q.lay,a];rfl
  ·show (PyData.showable d&&PyData.showableAll ds)=true;rw[q.sb,b];rfl
  ·show max (PyData.depth d) (PyData.depthAll ds)<=k;have:=q.dp;omega
theorem Sw.list (h:∀d∈ds,Sw d n k):Sw (.list ds) (2+ds.length * (n+2)) (k+1):=by
 obtain⟨a,b,c⟩:=Sw.all h;refine⟨a,b,(by show PyData.depthAll ds+1<=k+1;omega),?_⟩;show (listText (PyData.shownAll ds)).length<=_;rw[fA];have f:=hJ (n:=n) (ds.map PyData.shown) 0 "[" λt g=>by
  obtain⟨e,i,rfl⟩:=ww.mp g;exact(h e i).ln
 rw[wt] at f;have l:(Str.ofString "[").length=1:=rfl;have j:(Str.ofString "]").length=1:=rfl;have f:(textFrom 0 (Str.ofString "[") (ds.map PyData.shown)).length<=(Str.ofString "[").length+ds.length * (n+2):=f;show (textFrom 0 "[" (ds.map PyData.shown)++"]").length<=_;rw[bi];show (textFrom 0 (Str.ofString "[") (ds.map PyData.shown)).length+(Str.ofString "]").length<=_;omega
theorem Sw.shw (h:Sw d n k) (c:k<=16) (b:n<=sizeLine):Shw d:=by
 have a:shp d:=by
  show (PyData.canLay0 d&&decide (PyData.depth d<=64))=true;have:=h.dp;rw[h.lay,wF (by omega)];rfl
 exact⟨a,h.sb,PyData.hasDict_of_canLay _ (SeqAt.canLay_of_shaped a),wM h.dp c,wM h.ln b⟩
theorem Sw.nm (h:Nm s):Sw (.str s) 82 0:=⟨cS h,rfl,wr 0,h.repr⟩
theorem mh:∀(ts:LS),(∀t∈ts,t.length<=n)->(Str.join ", " ts).length<=ts.length * (n+2)
 | [],_=>wW _
 | [y],h=>by
  have:=h y (by simp);show y.length<=1 * (n+2);omega
 | y::z::r,h=>by
  have h1:=mh (z::r) λt ht=>h t (wY _ ht);have h2:=h y (by simp);have h3:(Str.ofString ", ").length=2:=rfl;show (y++", "++Str.join ", " (z::r)).length<=((z::r).length+1) * (n+2);rw[bi,bi,Nat.succ_mul];show y.length+(Str.ofString ", ").length+_<=_;omega
theorem Sw.tuple (h:∀d∈ds,Sw d n k):Sw (.tuple ds) (3+ds.length * (n+2)) (k+1):=by
 obtain⟨a,b,c⟩:=Sw.all h;refine⟨a,b,(by show PyData.depthAll ds+1<=k+1;omega),?_⟩;show (tupleText (PyData.shownAll ds)).length<=_;rw[fA];have f:=mh (n:=n) (ds.map PyData.shown) λt i=>by
  obtain⟨e,j,rfl⟩:=ww.mp i;exact(h e j).ln
 rw[wt] at f;have l:(Str.ofString "(").length=1:=rfl;have g:∀b:Bool,(Str.ofString (if b then ",)" else ")":String)).length<=2:=by intro b;cases b <;> decide
 show (("(":Str)++Str.join ", " (ds.map PyData.shown)++(if (ds.map PyData.shown).length==1 then ",)" else ")":String)).length<=_;rw[bi,bi];have m:=g ((ds.map PyData.shown).length==1);show (Str.ofString "(").length+_+(Str.ofString (if (ds.map PyData.shown).length==1 then ",)" else ")":String)).length<=_;omega
def ik (b:Bool) (ds:List PyData):PyData:=if b then .list ds else .tuple ds
theorem Sw.seq (b:Bool) (h:∀d∈ds,Sw d n k) (a:ds.length<=m):Sw (ik b ds) (3+m * (n+2)) (k+1):=by
 have:=Nat.mul_le_mul_right (n+2) a;cases b with
 | true=>exact(Sw.list h).mono (by omega) (wr _)
 | false=>exact(Sw.tuple h).mono (by omega) (wr _)
theorem SqA.seq (h:SqA H a xs):∃b:Bool,∀ {H':Hp}{ds:List PyData},Same H H'->RepAll H' xs ds->Rep H' (.ref a) (ik b ds):=by
 rcases h with h | h
 ·exact⟨true,λs r=>.lst (s _ _ h) r⟩
 ·exact⟨false,λs r=>.tup (s _ _ h) r⟩
section
variable {X:Cx}{p pos p2 pos2:Pos}{e f:Expr}{t:TA}
theorem nO:MtR X "list.extend" ja:=oB
theorem lG:MtR X "list.reverse" io:=na
theorem lC (K:W.Frag) (f:PE X o to) (h:PA X [e] t)
    (b:attributeBase o "extend" X.env (eval o X.env)=eval o X.env:=by rfl)
    (d:((backTo cpos (starEach [e] X.env)).all (λx=>!x.1)&&(backToKw cpos (keywordEach [] X.env)).all (λx=>x.1.isSome)
     && decide ([e].length+([]:List Keyword).length+(if ([]:List Keyword).isEmpty then 0 else 1)<30))=true:=by rfl)
    (c:(apos.endLine==cpos.line)=true:=by rfl) (g:starEach [e] X.env=(false,eval e X.env)::starEach [] X.env:=by rfl) (a:(backTo cpos (starEach [] X.env)).any (·.1)=false:=by rfl) (i:X.K=K:=by rfl) :
    PE X (.Call (.Attribute o "extend" apos) [e] [] cpos) (tBM K "list" ja to t):=i ▸ ki PySem.F.plainAttrs_list PySem.F.slot_list_extend PySem.F.type_list_extend nO f h b d c g a
theorem pD (K:W.Frag) (c:PE X o to) (a:attributeBase o "reverse" X.env (eval o X.env)=eval o X.env:=by rfl) (b:(apos.endLine==cpos.line)=true:=by rfl) (d:X.K=K:=by rfl) :
    PE X (.Call (.Attribute o "reverse" apos) [] [] cpos) (ui K "list" io to):=d ▸ uQ PySem.F.plainAttrs_list PySem.F.slot_list_reverse PySem.F.type_list_reverse lG c a b
end
theorem jE (xs:LV) (k:Nat):eI xs (some (k:Int)) none=xs.drop k:=by
 unfold eI;rw[HT.sIx_nat,HT.sIx_none];by_cases h:k<=xs.length
 ·rw[Nat.min_eq_left h,wI (by rw[xO];omega)]
 ·rw[Nat.min_eq_right (by omega),ya (wr _),ya (by omega)];simp
theorem gb {α:Type}{M:Model}{m:Sem (Option α)}{P:α->Shared->Prop}
    (h:wpAny M A m (λr s1=>∃u,r=some u/\wpAny M A (pure ():Sem Unit) (λ_ B=>P u B) E s1) E s):wpAny M A m (λr s1=>∃u,r=some u/\P u s1) E s:=by
 intro b p a;exact Sem.wp_mono M b m (λr c s1 ⟨u,e,q⟩=>⟨u,e,q b c a⟩) (λ_ _ _ z=>z) p s (h b p a)
theorem Inv.atA (I:Inv X pins σ H s) (A':Around) (a:A'.handled=X.A.handled) (h2:A'.frames=X.A.frames):Inv { X with A:=A' } pins σ H s :=
 ⟨⟨I.ok.mod,I.ok.kind,I.ok.glob,I.ok.blt,I.ok.above,I.ok.inj,I.ok.has,I.ok.cab,λc=>a.trans (I.ok.hd c),h2.trans I.ok.frames,I.ok.stk,I.ok.exf,I.ok.bs,I.ok.bsz,I.ok.noex,I.ok.exfs,I.ok.funs,I.ok.frf⟩,
  I.os,I.bare,I.base,I.loc,I.cell,I.free,I.freeC,I.pin,I.hok,I.len⟩
theorem Inv.ofA (a:X.Ok) (I:Inv { X with A:=A' } pins σ H s):Inv X pins σ H s :=
 ⟨a,I.os,I.bare,I.base,I.loc,I.cell,I.free,I.freeC,I.pin,I.hok,I.len⟩
theorem iO:typeLookup (.type "tuple") "keys"=pure none:=am_miss_of_fast (by decide +kernel)
section
variable {prog:Program}{w:World}{A:Around}{E:QS}{s:Shared}
theorem kE 
    (n:s.heap.get? a=some o) (p:o.cls=.type "tuple") (f:o.data=.seq xs k) (l:o.dict=none) (u:A.handled=none)
    (h:∀h' tk,(∀b q,s.heap.get? b=some q->h'.get? b=some q)->Q none { s with heap:=h',toks:=tk }) :
    wpAny (model prog w) A (getAttr? (.ref a) "keys") Q E s:=by
 obtain⟨c,y,v,x⟩:=o;simp only at p f l;subst p f l;obtain⟨r,g,d,tk,t⟩:=s;have m:∀j,(⟨r,g,d,j,t⟩:Shared).TypeIs (.ref a) "tuple":=λ_=>⟨_,n,rfl⟩
 have z:=sub_AttributeError;have C:=F.slot_tuple_getattribute.lookup;have G:=F.slot_tuple_getattribute.bind (.ref a);have D:=am_tuple_getattr_none;unfold getAttr? getAttrBy? getAttrBy
 repeat (any_goals (first | assumption | exact m _ | ((with_reducible show wpAny _ _ (call (Value.builtin "tuple.__getattribute__") _ _) _ _ _);refine call_meets F.slot_tuple_getattribute (m _) am_entry_tuple_getattribute (F.args_tuple_getattribute_2 _ _) (meets_getattribute_miss_tuple a xs k x "keys" _ iO (by decide +kernel)) ⟨n,u,λh' j e i=>?_⟩) | wp_step))
 obtain⟨B,H,I⟩:=i.there;show wpAny _ _ (getattributeRaised _ _ _ _ _ _ _) _ _ _;unfold getattributeRaised
 repeat (any_goals (first | assumption | wp_step))
 exact h _ _ i.keeps
end
namespace DU
theorem entry_loop:entryFor table "dict.update.loop"=some Builtin.«dict.update.loop»:=entryFor_of_fast (by kernel_rfl)
theorem plain_loop:plainId "dict.update.loop"=true:=by decide +kernel
end DU
section
variable {X:Cx}{pins:AO_}{σ:St}{H:Hp}{s:Shared}{a:Addr}{y v:V}{u r:Value}{A:Around}{E:QS}
theorem pI (O:A.units<cLine) (I:Inv X pins σ H s) (g:DPut H a y v H') (D:RelV y u) (J:RelV v r) (h:∀s',Inv X pins σ H' s'->(∀b o,b≠a->s.heap.get? b=some o->s'.heap.get? b=some o)->Q () s') :
    wpAny (model X.prog X.w) A (dictSet a u r) Q E s:=by
 rcases g with⟨f,k,e,C,l,B⟩ | ⟨f,k,b,e,C,K,l,B⟩
 ·subst C B;obtain⟨z,p,U,d,x⟩:=nX I.hok e;have w:U.length<=sizeLine:=by rw[<- d.length];exact z
  have t:(aY f k v).length<=sizeLine:=by have:=bv f k v;omega
  refine wpAny_dictSet_pairs (hsz:=w) (gf D) x λG i j=>h _ ?_ λb o n q=>j.extBut _ _ n q;have T:∃q,G.get? a=some q:=let ⟨q,_,_,m,_⟩:=i;⟨q,m⟩;exact fX I (by rw[e];exact True.intro) j T (lc t p (d.put k J) i)
 ·subst C B;cases (show u=Value.ref b from D);obtain⟨z,p,R,d,x⟩:=rP I.hok e;have w:R.length<=sizeLine:=by rw[<- Paired.length d];exact z
  have t:(aY f k v).length<=sizeLine:=by have:=bv f k v;omega
  refine wpAny_dictSet_heap (hsz:=w) O (fP I.hok K) x λG i j=>h _ ?_ λb o n q=>j.extBut _ _ n q;obtain⟨q,N,V,m,P,S,M,_,L⟩:=i;refine fX I (by rw[e];exact True.intro) j ⟨q,m⟩ ⟨t,p,_,(d.put k K J).keeps λc W F=>?_,q,N,V,m,P,S,M,L⟩;rw[ag (bP F e (λz=>nomatch z))];exact F
theorem DPut.at_ (g:DPut H a y v H'):(∃o,H a=some o)/\∀b,b≠a->H' b=H b:=by
 rcases g with⟨c,k,e,f,l,d⟩ | ⟨c,k,b,e,f,h,l,d⟩
 ·exact⟨⟨_,e⟩,λb n=>by rw[d,ag n]⟩
 ·exact⟨⟨_,e⟩,λb n=>by rw[d,ag n]⟩
end
theorem pV (T:Turn X.prog X.w X.K (.Name nm tp) J O it Y) (N:X.calm=true) (hu:X.A.units+64<cLine) (d:Addr) (n:Nat) (f:Nat -> Hp -> Prop)
    (W:∀i H,i<n->f i H->J.go i H/\∀x H1,J.yld i H x H1->∃b k v H2,x=.ref b/\SqT X.K H1 b [k,v]/\DPut H1 d k v H2/\f (i+1) H2)
    (h:∀H,f n H->J.stop n H):∀(k i:Nat) (j:Int) (s:Shared) (H:Hp),n-i=k->i<=n->Inv X pins σ H s->(∀b∈O,FpOk X pins H b)->Y i s.heap->f i H ->
     (∀H' s',Inv X pins σ H' s'->f n H'->R (.ok (.ret .none)) s')->codeAny (model X.prog X.w) X.A.in1 (.builtin "dict.update.loop" ⟨[.ref d,.ref it,rawInt j,.none],[]⟩) R s:=by
 intro k
 induction k with
 | zero =>
  intro i j s H hk U I p y l w;have C:i=n:=by omega
  subst C;refine codeAny_builtin DU.entry_loop ?_;rw[Around.under_plainId DU.plain_loop _];show wpAny _ X.A.in1.in1 (pyNext (.ref it) >>= _) _ _ s;refine wq (xl (T.done { X with A:=X.A.in1.in1 } rfl rfl rfl N i pins s σ H _ (I.atA _ rfl rfl) p y (h H l)) (λr L ⟨e,c⟩=>?_) λ_ _ z=>z);subst e;show wpAny _ _ (Builtin.Dict.addKeywords d [] >>= _) _ _ _;exact wq (wu (wu (w H L (Inv.ofA I.ok c) l)))
 | succ k ih =>
  intro i j s H hk U I p y l w;have g:i<n:=by omega
  obtain⟨hg,V⟩:=W i H g l;refine codeAny_builtin DU.entry_loop ?_;rw[Around.under_plainId DU.plain_loop _];show wpAny _ X.A.in1.in1 (pyNext (.ref it) >>= _) _ _ s;refine wq (xl (gb (T.item { X with A:=X.A.in1.in1 } rfl rfl rfl N i pins s σ H _ (I.atA _ rfl rfl) p y hg)) (λr L ⟨u,e,x,H1,c,rx,Z,t1,K⟩=>?_) λ_ _ z=>z);subst e
  replace c:=Inv.ofA I.ok c
  obtain⟨b,kk,v,H2,ex,sq,dp,dv⟩:=V x H1 Z;subst ex;cases (show u=Value.ref b from rx);obtain⟨a0,rv,pt,hz⟩:=c.tuple sq;obtain⟨M,Q,S,r1,r2⟩:=fF rv;subst S;obtain⟨o,F,D,m,E⟩:=pt;show wpAny _ _ (holding [Value.ref b] _ >>= _) _ _ _;refine wq (xh ?_);show wpAny _ _ (Sem.tryCatch (Builtin.Dict.pairItems (Value.ref b)) _ >>= _) _ _ _;refine wq (wpAny_tryCatch ?_);unfold Builtin.Dict.pairItems;refine wq (wpAny_typeOf (T:="tuple") ⟨o,F,D⟩ ?_);simp only[show ((Value.type "tuple"==Value.type "list")||(Value.type "tuple"==Value.type "tuple"))=true from rfl,if_true];unfold seqItems?;refine wq (wq (wpAny_load F ?_));rw[E];refine wu (wu ?_);show wpAny _ _ (holding [M,Q] (dictSet d M Q)) _ _ _;have B:X.A.in1.in1.units<cLine:=by show X.A.units+1+1<cLine;omega
  refine xh (pI B c dp r1 r2 λs2 I2 t=>?_);have G:∀b∈O,b≠d:=λb a q=>by
   obtain⟨o,P⟩:=dp.at_.1;rw[<- q,K b a] at P;cases P
  refine wu ⟨plainId_quiet DU.plain_loop _,ih (i+1) (j+1) s2 H2 (by omega) g I2 (λb a=>?_) (T.keep _ _ _ t1 λb a o q=>t b o (G b a) q) dv w⟩;obtain⟨_,f1,f2,f3,f4,f5⟩:=p b a;exact⟨(dp.at_.2 b (G b a)).trans (K b a),f1,f2,f3,f4,f5⟩
theorem Rd.fresh (r:Rd H a u) (b:H l=none):Rd (upd H l o) a u:=by
 have n:a≠l:=λe=>by subst e;rcases r with r | ⟨_,r⟩ <;> rw[b] at r <;> cases r
 unfold Rd;rw[ag n];exact r
theorem SqT.fresh {K:W.Frag}{H:Hp}{a l:Addr}{xs:LV}{o:HO}(r:SqT K H a xs) (b:H l=none):SqT K (upd H l o) a xs:=by
 rcases r with r | r
 ·exact Or.inl (r.fresh b)
 ·exact Or.inr r
theorem qF [DecidableEq κ]:∀(ps:List (κ × V)) (m:List (κ × V)),(ps.foldl (λm q=>aY m q.1 q.2) m).length<=m.length+ps.length:=by
 intro ps
 induction ps with
 | nil=>intro m;exact wr _
 | cons q r ih =>
  intro m;have a:=ih (aY m q.1 q.2);have b:=bv m q.1 q.2;rw[List.foldl_cons,wC];omega
def mkK [DecidableEq κ] (ps:List (κ × V)):List (κ × V):=ps.foldl (λm q=>aY m q.1 q.2) []
theorem vb [DecidableEq κ] (ps:List (κ × V)):(mkK ps).length<=ps.length:=by
 have:=qF ps [];rw[xk,Nat.zero_add] at this;exact this
theorem qc [DecidableEq κ] (ps:List (κ × V)) (i:Nat) (q:κ × V) (h:ps[i]? = some q):mkK (ps.take (i+1))=aY (mkK (ps.take i)) q.1 q.2:=by
 unfold mkK;rw[wG,h,List.foldl_append]
 rfl
namespace SP
open PySem.Builtin PySem.Builtin.Str PySem.StrLaws
abbrev one (c:Nat):Str:=⟨#[c]⟩
end SP
end L2
set_option maxHeartbeats 400000
namespace L2
open PySem PySem.Spec PyProof.Rows
section
variable {X:Cx}
def wd (neg:Bool):V->V->Hp->VK->Prop:=λx y H Q=>∃p xs ds d,y=.ref p/\H p=some (.tup xs)/\RepAll H xs ds/\Rep H x d/\PyData.canLayAll0 ds=true/\d.canLay0=true/\d.depth<=16/\Q (.bl (if neg then !(ds.any λe=>PyData.eqv e d) else ds.any λe=>PyData.eqv e d)) H
theorem jq (z:X.A.units+64<cLine):OpR X (compareOp .In) (wd false):=by
 intro g s A H x y v u Q I n l h;obtain⟨p,xs,t,d,rfl,e,f,r,j,c,dp,q⟩:=h;cases l;obtain⟨b,i,o,_⟩:=I.tuple (a:=p) (xs:=xs) (.of e);obtain⟨B,m⟩:=r.reads I.hok n;refine SeqAt.in_tupleAt (λu=>PyData.eqv (SeqAt.readOf s.heap u) d) o (λw k=>eX (x:=x) I.hok m c (by show X.A.units+1+d.depth<cLine;omega) f i j w (by simpa using k)) ⟨.bl _,H,I,rfl,?_⟩;rw[show b.toArray.any (λu=>PyData.eqv (SeqAt.readOf s.heap u) d)=b.any (λu=>PyData.eqv (SeqAt.readOf s.heap u) d) by simp,eV I.hok f i j];exact q
end
end L2
set_option maxHeartbeats 4000000
namespace L2
open PySem PySem.Spec PyProof.Rows
section
variable {prog:Program}{w:World}{A:Around}{E:QS}{s:Shared}
abbrev zq1 (h:Heap) (l:Addr):Heap:=h.push { cls:=.type "tuple_iterator",data:=.fields #[.ref l,.int 0 0] }
abbrev zq2 (h:Heap) (l m:Addr):Heap:=(zq1 h l).push { cls:=.type "list_iterator",data:=.fields #[.ref m,.int 0 0] }
abbrev zq3 (h:Heap) (l m:Addr):Heap:=(zq2 h l m).push { cls:=.type "tuple",data:=.seq #[.ref h.objs.size,.ref (zq1 h l).objs.size] }
abbrev zq4 (h:Heap) (l m:Addr):Heap:=(zq3 h l m).push { cls:=.type "tuple",data:=.seq #[.none,.none] }
abbrev zq5 (h:Heap) (l m:Addr):Heap:=(zq4 h l m).push { cls:=.type "zip",data:=.fields #[.none,.bool false,.bool false,.ref (zq2 h l m).objs.size,.ref (zq3 h l m).objs.size] }
theorem ny (l m:Addr) (xs ys:Array Value):Meets (Builtin.«zip.__new__» ⟨[.type "zip",.ref l,.ref m],[]⟩) (λ_ R s=>s.heap.IsTuple l xs/\s.heap.IsList m ys/\R (.ok (.ret (.ref (zq4 s.heap l m).objs.size))) { s with heap:=zq5 s.heap l m }) :=
 .of_wp λd w A R s h=>by
  obtain⟨c,b,f,g,a⟩:=s;obtain⟨k,j,h⟩:=h;have e:=sub_zip;have n:Heap.IsTuple (Shared.heap ⟨c,b,f,g,a⟩) l xs:=k;have i:Heap.IsList (Shared.heap ⟨zq1 c l,b,f,g,a⟩) m ys:=Heap.IsList.push j _
  wp_walk using xL n,wpAny_pyIter_list i
  exact⟨_,rfl,h⟩
theorem pj (v:s.heap.IsTuple l xs) (t:s.heap.IsList m ys)
    (h:∀h',Zp h' (s.heap.objs.size+4) (s.heap.objs.size+2) (s.heap.objs.size+3) .none false->IsPair h' (s.heap.objs.size+2) (.ref s.heap.objs.size) (.ref (s.heap.objs.size+1))->IsPair h' (s.heap.objs.size+3) .none .none ->
     h'.IsTupleIter s.heap.objs.size l 0->h'.IsListIter (s.heap.objs.size+1) m 0->(∀c o,s.heap.get? c=some o->h'.get? c=some o)->Q (.ref (s.heap.objs.size+4)) { s with heap:=h' }) :
    wpAny (model prog w) A (call (.type "zip") [.ref l,.ref m]) Q E s:=by
 have a:(zq1 s.heap l).objs.size=s.heap.objs.size+1:=x6 ..;have e:(zq2 s.heap l m).objs.size=s.heap.objs.size+2:=(x6 ..).trans (by rw[a]);have b:(zq3 s.heap l m).objs.size=s.heap.objs.size+3:=(x6 ..).trans (by rw[e]);have n:(zq4 s.heap l m).objs.size=s.heap.objs.size+4:=(x6 ..).trans (by rw[b]);have i:∀ {c:Addr} {o:Obj},(zq4 s.heap l m).get? c=some o->(zq5 s.heap l m).get? c=some o:=λq=>wD _ q;have j:∀ {c:Addr} {o:Obj},(zq3 s.heap l m).get? c=some o->(zq5 s.heap l m).get? c=some o:=λq=>i (wD _ q);have k:∀ {c:Addr} {o:Obj},(zq2 s.heap l m).get? c=some o->(zq5 s.heap l m).get? c=some o:=λq=>j (wD _ q);have g:∀ {c:Addr} {o:Obj},(zq1 s.heap l).get? c=some o->(zq5 s.heap l m).get? c=some o:=λq=>k (wD _ q);have d:(zq5 s.heap l m).get? (zq4 s.heap l m).objs.size=some { cls:=.type "zip",data:=.fields #[.none,.bool false,.bool false,.ref (zq2 s.heap l m).objs.size,.ref (zq3 s.heap l m).objs.size] }:=wQ _ rfl;have f:=i (wQ (zq3 s.heap l m) (o:={ cls:=.type "tuple",data:=.seq #[.none,.none] }) rfl);have r:=j (wQ (zq2 s.heap l m) (o:={ cls:=.type "tuple",data:=.seq #[.ref s.heap.objs.size,.ref (zq1 s.heap l).objs.size] }) rfl);have p:=k (wQ (zq1 s.heap l) (o:={ cls:=.type "list_iterator",data:=.fields #[.ref m,.int 0 0] }) rfl);have u:=g (wQ s.heap (o:={ cls:=.type "tuple_iterator",data:=.fields #[.ref l,.int 0 0] }) rfl);rw[e,b,n] at d;rw[b] at f;rw[a,e] at r;rw[a] at p;refine callType_new F.called_zip (by decide) (F.typeCall_zip_2 _ _) (F.newCall_zip_2 _ _) (λx=>F.args_object_init_3 x _ _) F.entry_zip_new (ny l m xs ys) ⟨v,t,?_⟩;show _/\_;rw[n];exact⟨⟨_,d,rfl⟩,h _ d r f ⟨_,u,rfl,rfl⟩ ⟨_,p,rfl,rfl⟩ λc o q=>g (wD _ q)⟩
end
def lj (K:W.Frag) (a b:Addr):It :=
 ⟨λi H=>∃xs ys x y,SqT K H a xs/\SqL K H b ys/\xs[i]? = some x/\ys[i]? = some y,
  λi H v H'=>∃p x y,H p=none/\v=.ref p/\(∀xs,SqT K H a xs->xs[i]? = some x)/\(∀ys,SqL K H b ys->ys[i]? = some y)/\H'=upd H p (.tup [x,y]),
  λi H=>∃xs ys,SqT K H a xs/\SqL K H b ys/\(xs.length<=i∨ys.length<=i)⟩
theorem Rd.same' (r:Rd H a u) (s:Same H H'):Rd H' a u:=by
 rcases r with r | ⟨o,r⟩
 ·exact .inl (s _ _ r)
 ·exact .inr ⟨o,s _ _ r⟩
theorem SqL.same' {K:W.Frag}{H H':Hp}{a:Addr}{xs:LV}(r:SqL K H a xs) (s:Same H H'):SqL K H' a xs:=by
 rcases r with r | r
 ·exact .inl (r.same' s)
 ·exact .inr r
def dD (ks:LS) (ys:LV):KV_:=(ks.map Sum.inr).zip ys
theorem oI {kvs:KV_}{k:Key}(h:k∉kvs.map (·.1)):aY kvs k v=kvs++[(k,v)]:=by
 unfold aY;rw[if_neg];intro z;obtain⟨b,a,e⟩:=yc.mp z;exact h (ww.mpr ⟨b,a,wK e⟩)
theorem tF:∀(ks:LS) (ys:LV), ks.Nodup -> mkK (dD ks ys)=dD ks ys := by
 have a:∀(ks:LS) (ys:LV) (m:KV_), ks.Nodup -> (∀k ∈ ks, (Sum.inr k:Key) ∉ m.map (·.1)) -> (dD ks ys).foldl (λm q => aY m q.1 q.2) m=m ++ dD ks ys := by
  intro ks
  induction ks with
  | nil=>intro ys m _ _;unfold dD;simp
  | cons k ks ih =>
   intro ys m b c;cases ys with
   | nil=>unfold dD;simp
   | cons y ys =>
    obtain⟨f,g⟩:=xf.mp b;have e:dD (k::ks) (y::ys)=(.inr k,y)::dD ks ys:=rfl;rw[e,List.foldl_cons];show List.foldl _ (aY m (.inr k) y) _=_;rw[oI (c k (by simp)),ih ys _ g (λx d=>?_)]
    ·simp
    ·rw[wy,wR];rintro (z | z)
     ·exact c x (wY _ d) z
     ·have:(Sum.inr x:Key)=Sum.inr k:=by simpa using z
      exact f (Sum.inr.inj this ▸ d)
 intro ks ys b;unfold mkK;rw[a ks ys [] b (λk _ h=>by cases h)]
 rfl
theorem lq:∀ {ks:LS}{ys:LV}{i:Nat}{k:Str}{y:V},ks.Nodup->ks[i]? = some k->ys[i]? = some y->aG (dD ks ys) (.inr k)=some y
 | [],_,_,_,_,_,h,_=>by simp at h
 | k::ks,[],_,_,_,_,_,h=>by simp at h
 | k::ks,y::ys,0,k',y',nd,h1,h2=>by
  have e1:k=k':=by simpa using h1
  have e2:y=y':=by simpa using h2
  subst e1 e2;exact cm (p:=(Sum.inr k,y)) rfl
 | k::ks,y::ys,i+1,k',y',nd,h1,h2=>by
  obtain⟨n1,n2⟩:=xf.mp nd;have h1:ks[i]? = some k':=by simpa using h1
  have h2:ys[i]? = some y':=by simpa using h2
  have ne:¬ (Sum.inr k:Key)=Sum.inr k':=λz=>n1 (by rw[Sum.inr.inj z];exact wE h1);show aG ((Sum.inr k,y)::dD ks ys) _=_;rw[cp ne];exact lq n2 h1 h2
theorem ug {G T:Prop}(m:T->G) (t:T):G:=m t
end L2
namespace MG
def mx:List Int->Int
 | []=>0
 | x::l=>max x (mx l)
def dp (es:List (Nat × Nat)) (W:Nat->Int):Nat->Nat->Int
 | 0,_=>0
 | k+1,v=>W v+mx ((es.filter λe=>decide (e.2=v)).map λe=>dp es W k e.1)
end MG
namespace L2
open PySem PySem.Spec PyProof.Rows
section
variable {X:Cx}
def uw (K:W.Frag):R2:=λx y H Q=>∃a b xs ys,x=.ref a/\y=.ref b/\SqT K H a xs/\SqT K H b ys/\xs.length+ys.length<=sizeLine /\
 (xs=[]->Q (.ref b) H)/\(xs≠[]->ys=[]->Q (.ref a) H)/\(xs≠[]->ys≠[]->∀p,H p=none->Q (.ref p) (upd H p (.tup (xs++ys))))
theorem lg (K:W.Frag) (E:X.K=K:=by rfl):OpR X (binaryOp .Add) (uw K):=by
 subst E;intro d s P H x y v u Q I t r h;obtain⟨a,b,w,J,rfl,rfl,C,A,L,O,T,N⟩:=h;by_cases g:w=[]
 ·cases t;cases r;obtain⟨i,R,p1,_⟩:=I.tuple C;obtain⟨f,V,p2,_⟩:=I.tuple A;have S:i=[]:=R.nil_iff.mpr g;obtain⟨⟨G,M,B,U⟩,o,z,n,q⟩:=id p1;obtain⟨⟨p,l,m,k⟩,j,e,D,c⟩:=id p2;simp only at z q e c;subst z q e c;exact concat_meets ⟨_,o,rfl⟩ ⟨_,j,rfl⟩ noFill_tuple_add seq_tuple_add F.slot_tuple_add F.entry_tuple_add (F.args_tuple_add_2 _ _) (tuple_addW0 a b i.toArray f.toArray n D M l U k (by simp[S])) ⟨o,j,⟨.ref b,H,I,rfl,O g⟩⟩
 ·exact tK d s P H _ _ v u Q I t r ⟨a,b,w,J,rfl,rfl,C,A,g,L,T g,N g⟩
end
section
variable {prog:Program}{w:World}{A:Around}{E:QS}{s:Shared}
theorem r0 {elts:List Expr}{x1}{pos:Pos}{z TI TO T:Addr}{B:Value}{G:Bool}{Q:Unit->Shared->Prop}(e:F0 B) (b:Zp s.heap z TI TO B G)
    (c:∀h' q,F0 q->Zp h' z TI TO q G->Heap.SameBut z s.heap h'->Q () { s with heap:=h' }):wpAny (model prog w) A (letOwnedTupleGo (.Tuple elts x1 pos) (.ref z) (.ref T)) Q E s:=by
 unfold letOwnedTupleGo;refine wq (wpAny_load b ?_);show wpAny _ A (if (["enumerate","zip","dict_itemiterator","dict_reverseitemiterator","odict_iterator","itertools.zip_longest","itertools.pairwise"].contains "zip"&&_)=true then _ else _) Q E s
 split
 ·refine wq (wpAny_rule ?_);show wpAny _ A (setField (.ref z) 0 .none) Q E s;exact xF b (by simp) λh' a d=>c h' _ (.inl rfl) a d
 ·exact wu (c s.heap B e b (Heap.SameBut.refl _ _))
end
theorem iM {t1 t2:Bool}{P:Program}{w:World}{K:W.Frag}{elts:List Expr}{x1}{tp:Pos}(a b z TI TO g j:Addr) (D:ZipApart z TI TO g j a b) :
    Turn P w K (.Tuple elts x1 tp) (Itg t1 t2 K a b) [z,TI,TO,g,j] z (λi h=>(∃B G,F0 B/\Zp h z TI TO B G)/\IsPair h TI (.ref g) (.ref j)/\(∃c d,IsPair h TO c d)/\ItI t1 h g a i/\ItI t2 h j b i):=by
 have T:=jW (t1:=t1) (t2:=t2) (P:=P) (w:=w) (K:=K) (nm:="x") (tp:=tp) a b z TI TO g j D;refine⟨T.mem,T.obj,T.keep,?_,T.done,T.self⟩;intro X hP hw hK t i k s σ H E I J st hg;refine thn (T.item X hP hw hK t i k s σ H E I J st hg) λr s1 ⟨u,hr,h⟩=>⟨u,hr,?_⟩
 have N:wpAny (model P w) X.A (letOwnedTupleGo (.Name "x" tp) (.ref z) u >>= λ_=>letOwnedTupleGo (.Tuple elts x1 tp) (.ref z) u) (λ_ f=>∃x y,Inv X k σ y f/\RelV x u/\(Itg t1 t2 K a b).yld i H x y/\((∃B G,F0 B/\Zp f.heap z TI TO B G)/\IsPair f.heap TI (.ref g) (.ref j)/\(∃c d,IsPair f.heap TO c d)/\ItI t1 f.heap g a (i+1)/\ItI t2 f.heap j b (i+1))/\∀c∈[z,TI,TO,g,j],y c=none) E s1:=by
  refine wq (thn h λ_ f ⟨x,y,S,rx,Y,tn,V⟩=>?_);obtain⟨p,x0,y0,hp,rfl,a1,a0,rfl⟩:=id Y;cases rx;obtain⟨⟨B,G,C,hz⟩,F,⟨ta,tb,L⟩,h1,h2⟩:=tn;refine r0 C hz λh' O M R sb=>?_;have l:∀c o,c≠z->f.heap.get? c=some o->h'.get? c=some o:=λc o n e=>sb.extBut c o n e;have Z:∀c o,upd H p (.tup [x0,y0]) c=some o->c≠z:=λc o q e=>by rw[e,V z (by simp)] at q;cases q
  refine⟨.ref p,_,?_,rfl,Y,⟨⟨O,G,M,R⟩,l _ _ D.TIz F,⟨ta,tb,l _ _ D.TOz L⟩,h1.at λo e=>l _ o D.i1z e,h2.at λo e=>l _ o D.i2z e⟩,V⟩;have A:∀c o,c∉[z]->f.heap.get? c=some o->h'.get? c=some o:=λc o n e=>l c o (λq=>n (by simp[q])) e;refine S.step (h':=h') (g':=f.gens) (d':=f.drawn) (t':=f.toks) (ch:=[z]) (λc t=>?_) (λc o _ _ n q _=>A c o n q) (λc o _ _ n q _=>⟨o.slots,A c o n q⟩) (λc o _ q n=>n) (λc o n q=>⟨o,A c o n q⟩) (λc ys q=>q) (λc o v q=>q) (λc ps q=>⟨#[],by rw[q];simp⟩) (λm hm=>?_) (λc o q=>?_) S.bare
  ·have t:c=z:=by simpa using t
   subst t;obtain⟨_,g1,_,g3,g4,g5⟩:=J c (by simp);exact⟨g3,g1,g4,g5⟩
  ·obtain⟨o,es,ep,ho,r⟩:=hm;refine⟨o,es,ep,A _ o (λn=>?_) ho,r⟩;exact(J _ (by rw[wO.mp n];simp)).2.1 rfl
  ·refine(S.hok c o q).stay (λd U hd Q=>?_) (λd q=>q) λd ys q=>q;rcases hd with e | e
   ·rw[e] at Q ⊢;exact l c U (Z c o q) Q
   ·exact l d U (Z d _ e) Q
 exact N
theorem oX {P:Program}{w:World}{K:W.Frag}{elts:List Expr}{x1}{tp:Pos}(a b z TI TO f e:Addr) (D:ZipApart z TI TO f e a b) :
    Turn P w K (.Tuple elts x1 tp) (Itz K a b) [z,TI,TO,f,e] z (λi h=>(∃q B,F0 q/\Zp h z TI TO q B)/\IsPair h TI (.ref f) (.ref e)/\(∃c d,IsPair h TO c d)/\h.IsListIter f a i/\h.IsListIter e b i) :=
 iM (t1:=false) (t2:=false) a b z TI TO f e D
theorem si (K:W.Frag) {X:Cx}{elts:List Expr}{x1}{tp:Pos}{a b:Expr}{ta:TA}{p pos:Pos}(M:Gl X "zip") (J:X.mg "zip"=none) (Z:PA X [a,b] ta) (E:starEach [a,b] X.env=(false,eval a X.env)::starEach [b] X.env:=by rfl) (hpl:(backTo pos (starEach [b] X.env)).any (·.1)=false:=by rfl) (G:X.K=K:=by rfl) :
    PI X (.Tuple elts x1 tp) (.Call (.Name "zip" p) [a,b] [] pos) (uI K ta):=by
 subst G;intro i s O H R I h;refine Call_ (dE I M J (show bootBuiltins "zip"=some (.type "zip") by decide +kernel) (PyProof.Rows.callWith_type1 (thn (Z pos i s O H _ I h) λus f ⟨vs,F,k,v,S⟩=>?_) E hpl));obtain⟨n,u,xs,ys,e,o,y,q⟩:=S;subst e;obtain⟨u1,u2,rfl,v,Y⟩:=fF v;cases v;cases Y;obtain⟨V,rv,z,_⟩:=k.list o;obtain⟨N,D,A,_⟩:=k.list y;have C:n<f.heap.objs.size:=by obtain⟨_,e,_⟩:=z.isList;exact wz e
 have Q:u<f.heap.objs.size:=by obtain⟨_,e,_⟩:=A.isList;exact wz e
 refine call_zip_2 z.isList A.isList λg L m r l x _ U=>?_;have T:=oX (P:=X.prog) (w:=X.w) (K:=X.K) (elts:=elts) (x1:=x1) (tp:=tp) n u _ _ _ _ _ (zipApart_new C Q);have B:(∃f0 f1,F0 f0/\Zp g (f.heap.objs.size+4) (f.heap.objs.size+2) (f.heap.objs.size+3) f0 f1)/\IsPair g (f.heap.objs.size+2) (.ref f.heap.objs.size) (.ref (f.heap.objs.size+1))/\(∃c d,IsPair g (f.heap.objs.size+3) c d)/\g.IsListIter f.heap.objs.size n 0/\g.IsListIter (f.heap.objs.size+1) u 0:=⟨⟨_,_,.inl rfl,L⟩,m,⟨_,_,r⟩,l,x⟩
 refine T.self X.A 0 { f with heap:=g } _ _ B ?_;refine⟨_,_,_,_,F,rfl,k.kept (t':=f.toks) U,T,B,λb t=>?_,q⟩;have t:b=f.heap.objs.size+4∨b=f.heap.objs.size+2∨b=f.heap.objs.size+3∨b=f.heap.objs.size∨b=f.heap.objs.size+1:=by simpa using t
 have j:f.heap.objs.size<=b:=by rcases t with e | e | e | e | e <;> rw[e] <;> first | exact wr _ | exact Nat.le_add_right _ _
 exact k.fpOk j (k.hok.fresh j)
theorem ub {K:W.Frag}{a b:Addr}{xs ys:LV}{g:TG}{tb:TS}{D:Ends}{σ:St}{H:Hp}(Pv:Nat -> St -> Hp -> Prop) (f:Pv 0 σ H) (j:∀i σ H, i <= (xs.zip ys).length -> Pv i σ H -> SqL K H a xs /\ SqL K H b ys)
    (k:∀i x y p σ H,(xs.zip ys)[i]? = some (x,y)->Pv i σ H->H p=none->g (.ref p) σ (upd H p (.tup [x,y])) λσ2 H2=>tb { D with nx:=Pv (i+1),ct:=Pv (i+1),bk:=D.nx } σ2 H2) (h:∀σ H,Pv (xs.zip ys).length σ H->D.nx σ H) :
    ∃W:Nat->Nat->SH,(∃m,W 0 m σ H)/\∀i m σ H,W i m σ H ->
     ((Itz K a b).stop i H/\D.nx σ H)∨((Itz K a b).go i H/\∃N:SH,(∀σ' H',N σ' H'->∃z,z<m/\W (i+1) z σ' H')/\∀x H',(Itz K a b).yld i H x H'->g x σ H' λσ2 H2=>tb { D with nx:=N,ct:=N,bk:=D.nx } σ2 H2):=by
 refine⟨λi m σ H=>m=(xs.zip ys).length-i/\i<=(xs.zip ys).length/\Pv i σ H,⟨(xs.zip ys).length,by simp,wW _,f⟩,?_⟩;rintro i m σ H ⟨rfl,s,p⟩;obtain⟨c,d⟩:=j i σ H s p;have w:(xs.zip ys).length=min xs.length ys.length:=xx;by_cases o:i<(xs.zip ys).length
 ·have r:i<xs.length:=by omega
  have A:i<ys.length:=by omega
  refine .inr ⟨⟨xs,ys,xs[i],ys[i],c,d,wP r,wP A⟩,Pv (i+1),λσ' H' q=>⟨(xs.zip ys).length-(i+1),by omega,rfl,by omega,q⟩,?_⟩;rintro x H' ⟨q,u,v,l,rfl,t,n,rfl⟩;exact k i u v q σ H (by rw[xy];exact⟨t xs c,n ys d⟩) p l
 ·have e:i=(xs.zip ys).length:=by omega
  refine .inl ⟨⟨xs,ys,c,d,by omega⟩,h σ H (e ▸ p)⟩
end L2
namespace L2
open PySem
theorem mY {os:LS}(d:os.Nodup) {j:Nat}{s:Str}(h:os[j]? = some s):os.idxOf s=j:=by
 have c:=(wv.mp h).1;have b:=wE h;have a:=xG b;have e:os[os.idxOf s]? = some s:=by rw[wP a,List.getElem_idxOf]
 exact((List.getElem?_inj c d).mp (h.trans e.symm)).symm
theorem wm {os:LS}{s:Str}(b:s∈os):os[os.idxOf s]? = some s:=by
 have a:=xG b;rw[wP a,List.getElem_idxOf]
theorem dC {os:LS}{s:Str}(a:s∈os):os.getD (os.idxOf s) ""=s:=by rw[w6,wm a];rfl
end L2
namespace L2
open PySem PySem.Spec PyProof.Rows
section
open PySem.W PySem.Calls Builtin Builtin.ObjectAttr Builtin.Getset_descriptor
variable {K:Frag}{x C:Addr}{h:Heap}{M:Model}
variable {prog:Program}{w:World}{A:Around}{E:QS}{s:Shared}
end
section
open PySem.W Builtin Builtin.ObjectAttr
variable {prog:Program}{w:World}{A:Around}{E:QS}{s:Shared}{K:Frag}{x C t:Addr}{f:Str}{v:Value}
end
section
open PySem.W PySem.Calls Builtin Builtin.ObjectAttr
variable {K:Frag}{x C:Addr}{h:Heap}{M:Model}{prog:Program}{w:World}{A:Around}{E:QS}{s:Shared}{ox od:Obj}{f:Str}{u:Value}
end
end L2
namespace L2
open PySem
theorem cT {R J:SH}{G:Prop}(a:(∀σ H,J σ H->R σ H)->G) (aU:∀σ H,J σ H->R σ H):G:=a aU
end L2
namespace L2
open PySem PySem.Spec PyProof.Rows PySem.W
def up1 (c:Nat):Nat:=if 97<=c/\c<=122 then c-32 else c
end L2
namespace L2
open PySem PySem.Spec PyProof.Rows
namespace SU
theorem entry_loop:entryFor table "set.update.loop"=some Builtin.«set.update.loop»:=entryFor_of_tree (by kernel_rfl)
theorem plain_loop:plainId "set.update.loop"=true:=by decide +kernel
end SU
def iSeq (K:W.Frag) (tl:TE):TI:=λσ H R=>tl σ H λx H1=>∃a,x=.ref a/\((∃xs,SqL K H1 a xs)/\R (Itl K a) H1∨(∃xs,SqT K H1 a xs)/\R (Itt K a) H1)
theorem tN (K:W.Frag) (m:PE X l tl) (n:X.K=K:=by rfl):PI X tg l (iSeq K tl):=by
 subst n;intro d s w H R I h;refine thn (m d s w H _ I h) λv c ⟨x,i,f,y,z⟩=>?_;obtain⟨a,e,q⟩:=z;subst e;cases y;have k:∀b∈[c.heap.objs.size],FpOk X d i b:=λb u=>by
  have e:b=c.heap.objs.size:=by simpa using u
  subst e;exact f.fpOk (wr _) (f.hok.fresh (wr _))
 rcases q with⟨⟨t,j⟩,q⟩ | ⟨⟨t,j⟩,q⟩
 ·obtain⟨g,A,p,r⟩:=f.list j;exact wpAny_pyIter_list p.isList ⟨c.heap.objs.size,[c.heap.objs.size],_,_,i,rfl,f.kept (t':=c.toks) λb o e=>wD _ e,gA a _,⟨_,wQ _ rfl,rfl,rfl⟩,k,q⟩
 ·obtain⟨g,A,p,r⟩:=f.tuple j;exact xL (show c.heap.IsTuple a g.toArray from p) ⟨c.heap.objs.size,[c.heap.objs.size],_,_,i,rfl,f.kept (t':=c.toks) λb o e=>wD _ e,gi a _,⟨_,wQ _ rfl,rfl,rfl⟩,k,q⟩
end L2
open PySem
namespace PySem.SeqAt
theorem tuple_indexAt (l:Addr) (items:Array Value) (n:Nat) (dd:Option Addr) (sl:Array (OV)) (x:Value) (e:Value -> Bool) (j:Nat) (I:j<items.size)
    (p:e items[j]=true) (o:∀m (z:m<items.size),m<j->e items[m]=false) :
    Meets (Builtin.«tuple.index» ⟨[.ref l,x],[]⟩)
     (λA R s=>s.heap.get? l=some { cls:=.type "tuple",dict:=dd,data:=.seq items n,slots:=sl }/\(∀y,y∈items->EqAt A.in1 s y x (e y))/\R (.ok (.ret (.int j s.toks))) { s with toks:=s.toks+1 }) :=
 .of_wp λa w A R s h => by
  obtain⟨t,g,d,B,v⟩:=s;obtain⟨u,H,h⟩:=h;unfold Builtin.«tuple.index»;simp only[Std.Legacy.Range.forIn_eq_forIn_range']
  wp_walk using wpAny_loadPart' u,wpAny_forIn_list _ (λaU b f=>b.1=none/\f=⟨t,g,d,B,v⟩/\∃i,i<=j/\aU=List.range' i (items.size-i)) _
  ·rintro i aU ⟨G,E⟩ f ⟨D,rfl,k,F,c⟩;have r:0<items.size-k:=by omega
   obtain⟨m,z⟩:∃m,items.size-k=m+1:=⟨_,(Nat.succ_pred_eq_of_pos r).symm⟩
   rw[z,List.range'_succ] at c;obtain⟨rfl,rfl⟩:=List.cons.inj c;have C:items[i]? = some (items[i]'(by omega)):=by simp
   rw[C];refine wq (H _ (Array.getElem_mem (by omega)) a w _ _ ?_);by_cases q:i=j
   ·subst q;rw[p]
    wp_walk
    exact⟨_,rfl,h⟩
   ·rw[o i (by omega) (by omega)]
    wp_walk
    refine⟨rfl,rfl,i+1,by omega,?_⟩;rw[show items.size-(i+1)=m by omega]
  ·rintro⟨G,E⟩ f ⟨D,rfl,k,F,c⟩;exfalso;have:=congrArg List.length c;simp at this;omega
  ·refine⟨rfl,rfl,0,wW _,?_⟩;rw[Std.Legacy.Range.size];simp
end PySem.SeqAt
namespace HT
open PySem PySem.Spec PyProof.Rows
variable {prog:Program}{w:World}{A:Around}{E:QS}{s:Shared}
theorem pair_back (g:IsTup s.heap t #[a,b]) (l:s.heap.IsSliceOf q .none .none (.int (-1) k))
    (h:Q (.ref s.heap.objs.size) { s with heap:=s.heap.push { cls:=.type "tuple",data:=.seq #[b,a] } }):wpAny (model prog w) A (getItem (.ref t) (.ref q)) Q E s:=by
 obtain⟨o,d,i,f⟩:=id l;have n:s.TypeIs (.ref q) "slice":=⟨o,d,i⟩
 have c:sizeOk (.seq #[b,a]):=by show (2:Nat)<=sizeLine;decide
 unfold getItem
 try with_reducible refine xh ?_
 first | refine wq (wu ?_) | skip
 refine wq (wpAny_sequenceKey g.typeIs (by decide) (wq (wpAny_callSpecial?_slot (name:=Str.ofString "__getitem__") g.typeIs slot_tuple_getitem (wpAny_call_entry slot_tuple_getitem g.typeIs entry_tuple_getitem ?_ (args_tuple_getitem _ _)))));show wpAny _ _ (Builtin.Tuple.tupleItemsOf (.ref t) >>= _) _ _ s;refine wq (tupleItemsOf_ g (wq (wpAny_typeOf n ?_)));rw[if_pos (by decide)];refine wq ?_;unfold Builtin.Slice.sliceApplied Builtin.Slice.sliceFields;refine wq (wq (xg d f (x:=.none) rfl (wq (xg d f (x:=.none) rfl (wq (xg d f (x:=.int (-1) k) rfl (wu ?_)))))));refine wq (slicePart_int ?_);show wpAny _ _ (if ((-1:Int)==0)=true then _ else _) _ _ s;rw[if_neg (by decide)];refine wq (slicePart_none (wq (slicePart_none (wq (wu ?_)))));refine wu ?_;have p:((-1:Int)<0)=True:=by simp
 have j:Builtin.Slice.slicePlaces (((#[a,b]:Array Value).size:Int)-1) (-1) (-1)=2:=by show Builtin.Slice.slicePlaces (2-1) (-1) (-1)=2;decide
 simp only[Option.getD_some,p,if_true];rw[j];have e:(List.filterMap (λk:Nat=>(#[a,b]:Array Value)[((1:Int)+(k:Int) * (-1)).toNat]?) (List.range 2)).toArray=#[b,a]:=rfl;show wpAny _ _ (if ((1:Int)==0&&(-1:Int)==1&&(2:Nat)==2)=true then _ else (do let x ← Builtin.Tuple.tupleExact (List.filterMap (λk:Nat=>(#[a,b]:Array Value)[((1:Int)+(k:Int) * (-1)).toNat]?) (List.range 2)).toArray;ret x)) _ _ s;rw[if_neg (by decide),e]
 first
  | exact wq (m:=Builtin.Tuple.tupleExact _) (wpAny_newObj_type (wu ⟨_,rfl,wu h⟩) c)
  | exact wq (m:=Builtin.Tuple.tupleExact _) (wpAny_newObj_type (wq (wu (wu ⟨_,rfl,wu h⟩))) c)
  | exact wq (wq (m:=Builtin.Tuple.tupleExact _) (wpAny_newObj_type (wu (wu ⟨_,rfl,wu h⟩)) c))
  | exact wq (wq (m:=Builtin.Tuple.tupleExact _) (wpAny_newObj_type (wu ⟨_,rfl,wu h⟩) c))
end HT
namespace L2
open PySem PySem.Spec PyProof.Rows
section
variable {X:Cx}
def vS (K:W.Frag) (te:TE) (ts:TO):TE:=λσ H Q=>te σ H λx H1=>ts σ H1 λi H2=>∃a y z,i=some (-1)/\x=.ref a/\SqT K H2 a [y,z]/\∀l,H2 l=none->Q (.ref l) (upd H2 l (.tup [z,y]))
theorem tI (K:W.Frag) {e st:Expr}{te:TE}{ts:TO}{B pos:Pos}(he:PE X e te) (g:PO X (some st) ts) (p:X.K=K:=by rfl):PE X (.Subscript e (.Slice none none (some st) B) pos) (vS K te ts):=by
 subst p;intro c s f H Q I h;refine Subscript_ (thn (he c s f H _ I h) λv w ⟨x,n,G,j,L⟩=>wpAny_Slice ?_);rw[evalPart_none];refine wu (wu (thn (g c w f n _ G L) λN d ⟨i,J,F,A,E⟩=>?_));obtain⟨a,y,z,rfl,rfl,C,q⟩:=E;cases j;obtain⟨k,rfl⟩:∃k,N=.int (-1) k:=by
  cases A with
  | int i t=>exact⟨_,rfl⟩
 have l:Inv X c f J { d with heap:=d.heap.push { cls:=.type "slice",data:=.fields #[.none,.none,.int (-1) k] } }:=F.kept (t':=d.toks) λb u q=>wD _ q;obtain⟨M,r,m,R⟩:=l.tuple C;obtain⟨D,O,rfl,j,P⟩:=fF r;show wpAny (model X.prog X.w) X.A (subscriptTail e (.Slice none none (some st) B) (.ref a) (.ref d.heap.objs.size)) (EP X c f Q) X.xe { d with heap:=d.heap.push { cls:=.type "slice",data:=.fields #[.none,.none,.int (-1) k] } };refine tail_any (ops:=[.ref a,.ref d.heap.objs.size]) m.typeIs slot_tuple_getitem.lookup ?_ (by with_unfolding_all rfl);refine HT.pair_back m (Heap.IsSliceOf.new ..) ?_;refine⟨.ref _,_,l.laid (t':=d.toks) (o:=.tup [z,y]) (λb u q=>wD _ q) (wr _) ?_,rfl,q _ (l.hok.fresh (wr _))⟩;exact⟨by show (2:Nat)<=sizeLine;decide,[O,D],.cons P (.cons j .nil),TupN.new _ _⟩
def jx:V->LV->Hp->VK->Prop:=λx vs H Q=>∃l xs y j z,x=.ref l/\vs=[y]/\H l=some (.tup xs)/\dB y=true/\xs.all dB=true/\xs[j]? = some z/\eqV z y=true/\(∀(m:Nat) z',m<j->xs[m]? = some z'->eqV z' y=false)/\Q (.int ((j:Nat):Int)) H
theorem gz (a b:Value):argsOk "tuple.index" ⟨[a,b],[]⟩:=by
 unfold argsOk;rw[signature?_of (id:="tuple.index") (n:=['x','e','d','n','i']) (o:=['e','l','p','u','t']) (by kernel_rfl) F.owner_tuple];kernel_rfl
theorem oQ:MtR X "tuple.index" jx:=by
 intro D s σ H x vs v Z Q I S V h;obtain⟨l,E,y,j,z,rfl,rfl,M,N,J,K,P,t,q⟩:=h;cases S;obtain⟨u,rfl,R⟩:=cK V;obtain⟨zz,a,r,⟨oc,od,W,U⟩,e,G,n,B,_⟩:=(show ObjOk X.prog X.w H s.heap l (.tup E) from I.hok l _ M)
 simp only at G B;subst G B;have T:=(wv.mp K).1;have C:=r.length;have d:∀m (i:m<a.length),∃c,E[m]? = some c/\eqU y a[m]=eqV c y:=λm i=>by
  obtain⟨c,f,O⟩:=qy r (wP i);exact⟨c,f,kZ O (x4.mp J c (wE f))⟩
 have k:j<a.toArray.size:=by simpa using (by omega:j<a.length)
 refine call_meets F.slot_tuple_index ⟨_,e,rfl⟩ F.entry_tuple_index (gz _ _) (SeqAt.tuple_indexAt l a.toArray n _ _ u (eqU y) j k ?_ ?_) ⟨e,λw L=>ef R N r J w (by simpa using L),⟨.int _,H,?_,⟨_,rfl⟩,q⟩⟩
 ·obtain⟨c,g,p⟩:=d j (by omega);rw[K] at g;cases g;simpa using p.trans P
 ·intro m i A;obtain⟨c,g,p⟩:=d m (by simpa using i);simpa using p.trans (t m c A g)
 ·exact I.kept λb o Y=>Y
end
theorem np (G:X.calm=true) (O:X.A.units+64<cLine) {xs:LV}{oi:Nat->HO}(I:Inv X pins σ H s) (w:H p=some (.tup xs)) (R:oi 0=.dK [])
    (u:∀(i:Nat) (x:V),xs[i]? = some x->∃b k v,x=V.ref b/\SqT X.K H b [k,v]/\∀l,H l=none->DPut (upd H l (oi i)) l k v (upd H l (oi (i+1)))) (q:∀l,H l=none->Q (.ref l) (upd H l (oi xs.length))) :
    wpAny (model X.prog X.w) X.A (call (.type "dict") [.ref p]) (EP X pins σ Q) X.xe s:=by
 refine callType_codes (Q₁:=λf c=>f=.ref s.heap.objs.size/\c={ s with heap:=s.heap.push { cls:=.type "dict",data:=.dict #[] } }) F.kt_called_dict (F.kt_typeCall_dict_1 _) F.entry_dict_init (kt_code_dict_new _ ⟨rfl,rfl⟩) ?_;rintro f c ⟨rfl,rfl⟩;have r:H s.heap.objs.size=none:=I.hok.fresh (wr _);have j:p≠s.heap.objs.size:=av w r;have J:Inv X pins σ (upd H s.heap.objs.size (oi 0)) { s with heap:=s.heap.push { cls:=.type "dict",data:=.dict #[] } }:=by
  refine I.laid (a:=s.heap.objs.size) (o:=oi 0) (t':=s.toks) (λ_ _ q=>wD _ q) (wr _) ?_;rw[R];exact il s.heap I.big
 have E:(⟨s.heap.push { cls:=.type "dict",data:=.dict #[] },s.gens,s.drawn,s.toks,s.os⟩:Shared).TypeIs (.ref s.heap.objs.size) "dict":=⟨_,wQ _ rfl,rfl⟩
 refine⟨E,F.args_dict_init_2 _ _,?_⟩;unfold Builtin.«dict.__init__» Builtin.Dict.selfAndRest;refine wq (wq (wpAny_notOrdered_dict E ?_));show wpAny _ _ (pure (s.heap.objs.size,[Value.ref p])) _ _ _;refine wu ?_;show wpAny _ _ (Builtin.Dict.updateFrom "dict.__init__" s.heap.objs.size (.ref p) [] .none) _ _ _;unfold Builtin.Dict.updateFrom;have M:X.A.in1.in1.handled=none:=I.ok.hd G;have g:upd H s.heap.objs.size (oi 0) p=some (.tup xs):=by rw[ag j];exact w
 obtain⟨hz,Y,rv,o,B,h,n,z,y⟩:=(show ObjOk X.prog X.w _ _ p (.tup xs) from J.hok p _ g)
 refine wq (wpAny_typeOf (T:="tuple") ⟨o,B,h⟩ ?_);rw[if_pos (by decide)];refine wq (kE B h z y M λh' C Z=>?_);have t:=J.kept (h':=h') (t':=C) Z;refine wq (wpAny_rule (wq ?_));obtain⟨D,K,A,S⟩:=t.tuple (SqT.of g);refine xL A ?_;refine wu ⟨plainId_quiet DU.plain_loop _,?_⟩;have d:∀i,SqT X.K (upd H s.heap.objs.size (oi i)) p xs:=λi=>.of (by rw[ag j];exact w);refine pV (nm:="x") (tp:=default) (gi p h'.objs.size) G O s.heap.objs.size xs.length (λi m=>m=upd H s.heap.objs.size (oi i)) (λi m N e=>?_) (λm e=>?_) _ 0 0 _ _ rfl (wW _) (t.kept (t':=C) λb o e=>wD _ e) (λb U=>?_) ⟨_,wQ _ rfl,rfl,rfl⟩ rfl λm s' I' e=>?_
 ·subst e;refine⟨⟨xs,xs[i],d i,wP N⟩,λx H1 ⟨W,L⟩=>?_⟩;subst W;obtain⟨b,k,v,P,sq,dp⟩:=u i x (L xs (d i));exact⟨b,k,v,_,P,sq.fresh r,dp _ r,rfl⟩
 ·subst e;exact⟨xs,d _,wr _⟩
 ·have e:b=h'.objs.size:=by simpa using U
  subst e;exact t.fpOk (wr _) (t.hok.fresh (wr _))
 ·subst e;exact⟨rfl,.ref _,_,I',rfl,q _ r⟩
def kG (K:W.Frag):LV->Hp->VK->Prop:=λvs H Q=>∃p xs,∃ps:KV_,vs=[.ref p]/\H p=some (.tup xs)/\xs.length=ps.length/\xs.length<=1000 /\
 (∀(i:Nat) (q:Key × V) (x:V),ps[i]? = some q->xs[i]? = some x->∃b,x=V.ref b/\SqT K H b [kV q.1,q.2])/\∀l,H l=none->Q (.ref l) (upd H l (.dK (mkK ps)))
section
variable {X:Cx}{p pos:Pos}{e:Expr}{t:TA}
theorem fY (K:W.Frag) (E:X.calm=true) (y:X.A.units+64<cLine) (B:Blt X.mg) (J:PA X [e] t) (A:Gl X "dict":=by rfl) (he:starEach [e] X.env=(false,eval e X.env)::starEach [] X.env:=by rfl) (hpl:(backTo pos (starEach [] X.env)).any (·.1)=false:=by rfl) (w:X.K=K:=by rfl) :
    PE X (.Call (.Name "dict" p) [e] [] pos) (tCB (kG K) t):=by
 subst w;refine eR (r:=kG X.K) (λj s N H D L Q I r h=>?_) A B.dict (show bootBuiltins "dict"=some (.type "dict") by decide +kernel) J (by decide) (by decide) he hpl;obtain⟨p,D,c,rfl,F,g,M,o,q⟩:=h;obtain⟨u,rfl,C⟩:=cK r;cases C;have O:1000<sizeLine:=by decide
 refine np E y (oi:=λi=>.dK (mkK (c.take i))) I F rfl (λi x n=>?_) λl f=>?_
 ·have m:i<c.length:=by rw[<- g];exact(wv.mp n).1
  obtain⟨b,z,G⟩:=o i c[i] x (wP m) n;refine⟨b,kV c[i].1,c[i].2,z,G,λl f=>?_⟩;have d:=DPut.k (H:=upd H l (.dK (mkK (c.take i)))) (a:=l) (kvs:=mkK (c.take i)) (k:=c[i].1) (v:=c[i].2) ac (by have:=vb (c.take i);rw[xi] at this;omega);rw[lT,<- qc c i c[i] (wP m)] at d;exact d
 ·rw[g,List.take_length];exact q l f
end
end L2
namespace L2
open PySem
abbrev Kn:=List (Str × LS)
def bg (ks:Kn):LS:=ks.flatMap (·.2)
def bx (ks:Kn) (u:Str):Str:=((ks.find? λk=>decide (u∈k.2)).map (·.1)).getD ""
theorem dg {xs ys:LS}(a:xs.Nodup) (h:∀x∈xs,x∈ys):xs.length<=ys.length:=by
 induction xs generalizing ys with
 | nil=>exact wW _
 | cons x xs ih =>
  rw[xf] at a;have c:=h x (by simp);have p:=(List.perm_cons_erase c).length_eq;rw[wC] at p ⊢;have:=ih (ys:=ys.erase x) a.2 λz b=>(List.mem_erase_of_ne (λq:z=x=>a.1 (q ▸ b))).mpr (h z (wY _ b));omega
structure Tre (us:LS) (ks:Kn):Prop where
 perm:(bg ks).Perm us
 nd:us.Nodup
 nm:∀u∈us,Nm u
 len:us.length<=60
 top:("":Str)∈ks.map (·.1)
 kn:(ks.map (·.1)).Nodup
 sub:∀k∈ks,k.1=""∨k.1∈us
 up:∀k∈ks,∀u∈k.2,k.1=""∨MG.ix us k.1<MG.ix us u
section
variable {us:LS}{ks:Kn}
theorem Tre.knd (T:Tre us ks):(bg ks).Nodup:=T.perm.nodup_iff.mpr T.nd
theorem Tre.has (T:Tre us ks) (h:u∈us):∃k∈ks,u∈k.2:=by
 have:=T.perm.mem_iff.mpr h;exact xH.mp this
theorem Tre.isIn (T:Tre us ks) (b:k∈ks) (a:u∈k.2):u∈us:=T.perm.mem_iff.mp (xH.mpr ⟨k,b,a⟩)
theorem gB:∀ {ks:Kn}, (bg ks).Nodup -> ∀ {k k':Str × LS}{u:Str}, k ∈ ks -> k' ∈ ks -> u ∈ k.2 -> u ∈ k'.2 -> k=k'
 | [],_,_,_,_,h,_,_,_=>by cases h
 | q :: ks, nd, k, k', u, h, h', hu, hu' => by
  have nd:(q.2++bg ks).Nodup:=nd;rw[xB] at nd;obtain⟨_,n2,n3⟩:=nd;rcases wH.mp h with e | g
  ·rcases wH.mp h' with e' | g'
   ·rw[e,e']
   ·subst e;exact absurd rfl (n3 u hu u (xH.mpr ⟨k',g',hu'⟩))
  ·rcases wH.mp h' with e' | g'
   ·subst e';exact absurd rfl (n3 u hu' u (xH.mpr ⟨k,g,hu⟩))
   ·exact gB n2 g g' hu hu'
theorem lS:∀ {ks:Kn}, (ks.map (·.1)).Nodup -> ∀ {k k':Str × LS}, k ∈ ks -> k' ∈ ks -> k.1=k'.1 -> k=k'
 | [],_,_,_,h,_,_=>by cases h
 | q :: ks, nd, k, k', h, h', e0 => by
  rw[xb,xf] at nd;rcases wH.mp h with e | g
  ·rcases wH.mp h' with e' | g'
   ·rw[e,e']
   ·subst e;exact absurd (e0 ▸ ww.mpr ⟨k',g',rfl⟩) nd.1
  ·rcases wH.mp h' with e' | g'
   ·subst e';exact absurd (e0 ▸ ww.mpr ⟨k,g,rfl⟩) nd.1
   ·exact lS nd.2 g g' e0
theorem Tre.par (T:Tre us ks) (b:k∈ks) (a:u∈k.2):bx ks u=k.1:=by
 unfold bx;cases q:ks.find? λk=>decide (u∈k.2) with
 | none =>
  have:=List.find?_eq_none.mp q k b;exact absurd (wF a) this
 | some k' =>
  have c:=List.find?_some q;have d:=List.mem_of_find?_eq_some q;rw[gB T.knd b d a (wK c)];rfl
theorem Tre.par_in (T:Tre us ks) (h:u∈us):(bx ks u=""∨bx ks u∈us)/\bx ks u∈ks.map (·.1):=by
 obtain⟨k,a,b⟩:=T.has h;rw[T.par a b];exact⟨T.sub k a,ww.mpr ⟨k,a,rfl⟩⟩
theorem Tre.kid (T:Tre us ks) (h:u∈us) (d:(bx ks u,c)∈ks):u∈c:=by
 obtain⟨k,a,b⟩:=T.has h;rw[T.par a b] at d;have:k=(k.1,c):=lS T.kn a d rfl;rw[this] at b;exact b
theorem Tre.few (T:Tre us ks):ks.length<=61:=by
 have:=dg (ys:=""::us) T.kn λx a=>by
  obtain⟨k,b,rfl⟩:=ww.mp a;rcases T.sub k b with q | q
  ·rw[q];simp
  ·exact wY _ q
 rw[wt,wC] at this;have:=T.len;omega
def rkU (us:LS) (u:Str):Nat:=if u="" then 0 else MG.ix us u+1
theorem Tre.nn (T:Tre us ks) (h:u∈us):u≠"":=λz=>by
 have:=(T.nm u h).1;rw[z] at this;exact absurd this (by decide)
theorem Tre.rk (T:Tre us ks) (h:u∈us):rkU us (bx ks u)<rkU us u:=by
 obtain⟨k,b,a⟩:=T.has h;rw[T.par b a];unfold rkU;rw[if_neg (T.nn h)];rcases T.up k b u a with q | q
 ·rw[if_pos q];omega
 ·split
  ·omega
  ·omega
theorem Tre.rk60 (T:Tre us ks) (h:u∈us):rkU us u<=60:=by
 unfold rkU;rw[if_neg (T.nn h)];have:=MG.ix_lt h;have:=T.len;omega
def ii (par:Str->Str):Nat->Str->LS
 | 0,_=>[]
 | n+1,u=>if u="" then [] else ii par n (par u)++[u]
theorem Tre.stable (T:Tre us ks):∀(n m:Nat) (u:Str), u="" ∨ u ∈ us -> rkU us u<n -> rkU us u<m -> ii (bx ks) n u=ii (bx ks) m u
 | 0,_,_,_,h,_=>absurd h (Nat.not_lt_zero _)
 | _,0,_,_,_,h=>absurd h (Nat.not_lt_zero _)
 | n+1,m+1,u,hu,h1,h2=>by
  show (if u="" then [] else ii (bx ks) n (bx ks u)++[u])=(if u="" then [] else ii (bx ks) m (bx ks u)++[u])
  by_cases q:u=""
  ·rw[if_pos q,if_pos q]
  ·have hu:u∈us:=hu.resolve_left q;have:=T.rk hu;rw[if_neg q,if_neg q,T.stable n m (bx ks u) (T.par_in hu).1 (by omega) (by omega)]
def lin (ks:Kn) (u:Str):LS:=ii (bx ks) 100 u
theorem tU:lin ks ""=[]:=rfl
theorem Tre.lin (T:Tre us ks) (h:u∈us):lin ks u=L2.lin ks (bx ks u)++[u]:=by
 have a:=T.rk h;have b:=T.rk60 h;show (if u="" then [] else ii (bx ks) 99 (bx ks u)++[u])=_;rw[if_neg (T.nn h),T.stable 99 100 (bx ks u) (T.par_in h).1 (by omega) (by omega)];rfl
theorem Tre.lin_ind (T:Tre us ks) {P:Str -> Prop}(c:P "") (b:∀u ∈ us, P (bx ks u) -> P u):∀u:Str, u="" ∨ u ∈ us -> P u := by
 have d:∀n u, rkU us u<n -> u="" ∨ u ∈ us -> P u := by
  intro n
  induction n with
  | zero=>intro u h;omega
  | succ n ih =>
   intro u h a;by_cases q:u=""
   ·rw[q];exact c
   ·have a:=a.resolve_left q;have:=T.rk a;exact b u a (ih _ (by omega) (T.par_in a).1)
 intro u a;exact d _ u (Nat.lt_succ_self _) a
theorem Tre.lin_in (T:Tre us ks):∀u:Str,u=""∨u∈us->∀z∈L2.lin ks u,z∈us:=by
 refine T.lin_ind (P:=λu=>∀z∈L2.lin ks u,z∈us) (λz a=>by cases a) λu b c z a=>?_;rw[T.lin b] at a;rcases wR.mp a with q | q
 ·exact c z q
 ·rw[wO.mp q];exact b
theorem Tre.lin_len (T:Tre us ks):∀u:Str,u=""∨u∈us->(L2.lin ks u).length<=rkU us u:=by
 refine T.lin_ind (P:=λu=>(L2.lin ks u).length<=rkU us u) (wW _) λu a b=>?_;rw[T.lin a,wB];have:=T.rk a;show _+1<=_;omega
def Chn (par:Str->Str):Str->LS->Prop
 | _,[]=>True
 | k,x::r=>par x=k/\Chn par x r
theorem Chn.snoc:∀ {k:Str}{l:LS},Chn par k l->par u=(l.getLast?).getD k->Chn par k (l++[u])
 | k,[],_,h=>⟨h,trivial⟩
 | k,[x],c,h=>⟨c.1,h,trivial⟩
 | k,x::y::r,c,h=>⟨c.1,Chn.snoc (l:=y::r) c.2 (by rw[List.getLast?_cons_cons] at h;rw[h];cases q:(y::r).getLast? with | none=>simp at q | some z=>rfl)⟩
theorem Tre.lin_last (T:Tre us ks):∀u:Str,u=""∨u∈us->((L2.lin ks u).getLast?).getD ""=u:=by
 refine T.lin_ind (P:=λu=>((L2.lin ks u).getLast?).getD ""=u) rfl λu a _=>?_;rw[T.lin a];simp
theorem Tre.lin_chn (T:Tre us ks):∀u:Str,u=""∨u∈us->Chn (bx ks) "" (L2.lin ks u):=by
 refine T.lin_ind (P:=λu=>Chn (bx ks) "" (L2.lin ks u)) trivial λu a b=>?_;rw[T.lin a];exact b.snoc (T.lin_last _ (T.par_in a).1).symm
def prt:Str->LS->LS->Option (Str × Str × Str)
 | k,x::a,y::b=>if x=y then prt x a b else some (k,x,y)
 | _,_,_=>none
theorem kL:∀ {k:Str}{a b:LS}{q x y:Str}, Chn par k a -> Chn par k b -> prt k a b=some (q, x, y) -> par x=q /\ par y=q /\ x ∈ a /\ y ∈ b /\ x ≠ y
 | k,[],_,_,_,_,_,_,h=>by simp[prt] at h
 | k,_::_,[],_,_,_,_,_,h=>by simp[prt] at h
 | k,u::a,v::b,q,x,y,ca,cb,h=>by
  have h:(if u=v then prt u a b else some (k,u,v))=some (q,x,y):=h;by_cases e:u=v
  ·rw[if_pos e] at h;rw[<- e] at cb;obtain⟨h1,h2,h3,h4,h5⟩:=kL ca.2 cb.2 h;exact⟨h1,h2,wY _ h3,wY _ h4,h5⟩
  ·rw[if_neg e] at h;injection h with h;injection h with h1 h;injection h with h2 h3;subst h1 h2 h3;exact⟨ca.1,cb.1,by simp,by simp,e⟩
theorem lA:∀(k:Str) (a b:LS), prt k b a=(prt k a b).map λt => (t.1, t.2.2, t.2.1)
 | k,[],b=>by cases b <;> rfl
 | k,x::a,[]=>rfl
 | k,x::a,y::b=>by
  show (if y=x then prt y b a else some (k,y,x))=(if x=y then prt x a b else some (k,x,y)).map _;by_cases e:x=y
  ·subst e;rw[if_pos rfl,if_pos rfl];exact lA x a b
  ·rw[if_neg (λz=>e z.symm),if_neg e];rfl
def bc (ks:Kn) (u v:Str):Option (Str × Str × Str):=prt "" (lin ks u) (lin ks v)
theorem Tre.part (T:Tre us ks) (a:u∈us) (b:v∈us) (h:bc ks u v=some (q,x,y)):bx ks x=q/\bx ks y=q/\x∈us/\y∈us/\x≠y:=by
 obtain⟨d,g,e,c,f⟩:=kL (T.lin_chn u (.inr a)) (T.lin_chn v (.inr b)) h;exact⟨d,g,T.lin_in u (.inr a) x e,T.lin_in v (.inr b) y c,f⟩
abbrev tp (a:LS):LS:=("":Str)::a
def Gon (a b:LS) (i:Nat):Prop:=i=0∨(1<=i/\prt "" a b=prt ((tp a).getD (i-1) "") ((tp a).drop i) ((tp b).drop i))
theorem Gon.step (g:Gon a b i) (c:(tp a)[i]? = some x) (h2:(tp b)[i]? = some x):Gon a b (i+1):=by
 right
 refine⟨by omega,?_⟩;rcases g with rfl | ⟨h,g⟩
 ·rfl
 ·have f:=(wv.mp c)
  have d:=(wv.mp h2)
  have e:(tp a).getD (i+1-1) ""=x:=by rw[Nat.add_sub_cancel,w6,c];rfl
  rw[g,xT f.1,xT d.1,f.2,d.2,e];show (if x=x then _ else _)=_;rw[if_pos rfl]
theorem Gon.stop (g:Gon a b i) (h:i=min (a.length+1) (b.length+1)):prt "" a b=none := by
 rcases g with rfl | ⟨c,g⟩
 ·omega
 ·rw[g];by_cases q:a.length<=b.length
  ·rw[ya (l:=tp a) (by rw[wC];omega)];rfl
  ·rw[ya (l:=tp b) (by rw[wC];omega)];cases (tp a).drop i <;> rfl
theorem Gon.part (g:Gon a b i) (c:(tp a)[i]? = some x) (h2:(tp b)[i]? = some y) (d:x≠y):1<=i/\prt "" a b=some ((tp a).getD (i-1) "",x,y):=by
 rcases g with rfl | ⟨h,g⟩
 ·exfalso;injection c with c;injection h2 with h2;exact d (c.symm.trans h2)
 ·have f:=(wv.mp c)
  have e:=(wv.mp h2)
  refine⟨h,?_⟩;rw[g,xT f.1,xT e.1,f.2,e.2];show (if x=y then _ else _)=_;rw[if_neg d]
end
def dH (k:Str × LS):PyData:=.tuple [.str k.1,.tuple (k.2.map PyData.str)]
def cZ (ks:Kn):PyData:=.tuple (ks.map dH)
def cC (ps:List (Str × Str)):PyData:=.tuple (ps.map aA)
def aX (ks:Kn) (ts ws wn:List (Str × Str)):PyData:=.tuple [cZ ks,cC ts,cC ws,cC wn]
section
variable {H H':Hp}
theorem gR (h:Rep H v (dH k)):∃ta B,v=.ref ta/\H ta=some (.tup [.str k.1,.ref B])/\H B=some (.tup (k.2.map V.str)):=by
 obtain⟨q,o,rfl,j,f⟩:=Rep.tupI h;obtain⟨y,s,rfl,l,a⟩:=f.consI;obtain⟨z,r,rfl,n,c⟩:=a.consI;have m:=RepAll.nilI c;subst m;have g:=Rep.strI l;subst g;obtain⟨b,p,rfl,i,e⟩:=Rep.tupI n;have d:=RepAll.strs e;subst d;exact⟨q,b,rfl,j,i⟩
theorem iq {z:LV}{ks:Kn}(c:RepAll H z (ks.map dH)) {i:Nat}{x:V}(g:z[i]? = some x):∃k ta B,ks[i]? = some k/\x=.ref ta/\H ta=some (.tup [.str k.1,.ref B])/\H B=some (.tup (k.2.map V.str)):=by
 obtain⟨d,a,rd⟩:=c.get g;rw[wN] at a;cases q:ks[i]? with
 | none=>rw[q] at a;cases a
 | some e =>
  rw[q] at a;have a:dH e=d:=wA a;rw[<- a] at rd;obtain⟨ta,B,b,h,f⟩:=gR rd;exact⟨e,ta,B,rfl,b,h,f⟩
theorem eJ (h:Rep H v (cZ ks)):∃a q,v=.ref a/\H a=some (.tup q)/\RepAll H q (ks.map dH):=Rep.tupI h
theorem cu (h:Rep H v (cC ps)):∃a q,v=.ref a/\H a=some (.tup q)/\RepAll H q (ps.map aA):=Rep.tupI h
theorem bW (h:Rep H v (aX ks ts B wn)):∃q a b c d,v=.ref q/\H q=some (.tup [.ref a,.ref b,.ref c,.ref d])/\Rep H (.ref a) (cZ ks)/\Rep H (.ref b) (cC ts)/\Rep H (.ref c) (cC B)/\Rep H (.ref d) (cC wn):=by
 obtain⟨q,A,rfl,n,m⟩:=Rep.tupI h;obtain⟨y,w,rfl,g,j⟩:=m.consI;obtain⟨z,u,rfl,i,l⟩:=j.consI;obtain⟨t,s,rfl,e,r⟩:=l.consI;obtain⟨x,o,rfl,f,k⟩:=r.consI;have p:=RepAll.nilI k;subst p;obtain⟨a,_,rfl,_⟩:=Rep.tupI g;obtain⟨b,_,rfl,_⟩:=Rep.tupI i;obtain⟨c,_,rfl,_⟩:=Rep.tupI e;obtain⟨d,_,rfl,_⟩:=Rep.tupI f;exact⟨q,a,b,c,d,rfl,n,g,i,e,f⟩
theorem gw (e:H q=some (.tup [.ref a,.ref b,.ref c,.ref d])) (h:Rep H (.ref a) (cZ ks)) (f:Rep H (.ref b) (cC ts)) (g:Rep H (.ref c) (cC z)) (i:Rep H (.ref d) (cC wn)):Rep H (.ref q) (aX ks ts z wn) :=
 .tup e (.cons h (.cons f (.cons g (.cons i .nil))))
theorem bT (c:H p=some (.lst ys)) (b:But p H H') (h:H a=some (.tup xs)):H' a=some (.tup xs):=b a _ (bP h c (by intro z;cases z)) h
theorem aH (d:H p=some (.lst ys)) (b:But p H H') (h:Rep H v (aA e)):Rep H' v (aA e):=by
 obtain⟨a,rfl,c⟩:=mF h;exact br (bT d b c)
theorem aJ (k:∀ {v:V}{e:α},Rep H v (f e)->Rep H' v (f e)):∀ {es:List α}{xs:LV},RepAll H xs (es.map f)->RepAll H' xs (es.map f)
 | [],xs,h=>by rw[RepAll.nilI h];exact .nil
 | e::es,xs,h=>by
  obtain⟨y,ys',rfl,a,c⟩:=RepAll.consI h;exact .cons (k a) (aJ k c)
theorem fh (c:H p=some (.lst ys)) (b:But p H H') (h:Rep H v (cC ps)):Rep H' v (cC ps):=by
 obtain⟨a,e,rfl,d,r⟩:=cu h;exact .tup (bT c b d) (aJ (aH c b) r)
theorem fL (a:H p=some (.lst ys)) (b:But p H H') (h:Rep H v (dH k)):Rep H' v (dH k):=by
 obtain⟨e,f,rfl,c,d⟩:=gR h;exact .tup (bT a b c) (.cons (.str _) (.cons (.tup (bT a b d) (RepAll.of_strs _)) .nil))
theorem dq (c:H p=some (.lst ys)) (b:But p H H') (h:Rep H v (cZ ks)):Rep H' v (cZ ks):=by
 obtain⟨a,e,rfl,d,r⟩:=eJ h;exact .tup (bT c b d) (aJ (fL c b) r)
theorem dU (f:H p=some (.lst ys)) (b:But p H H') (h:Rep H v (aX ks ts z wn)):Rep H' v (aX ks ts z wn):=by
 obtain⟨q,a,c,d,e,rfl,g,k,i,j,l⟩:=bW h;exact gw (bT f b g) (dq f b k) (fh f b i) (fh f b j) (fh f b l)
end
def ArK (kvs:KV_) (us:LS) (ks:Kn):Prop:=∀u∈us,aG kvs (.inr u)=some (.str (bx ks u))
theorem ez (a b:Kn):bg (a++b)=bg a++bg b:=ye
theorem fI {ks:Kn}{i:Nat}{k:Str × LS}(h:ks[i]? = some k):bg (ks.take (i+1))=bg (ks.take i)++k.2:=by
 rw[wG,h,ez];show _++([k].flatMap (·.2))=_;simp
structure ArN (H H':Hp) (d:Addr) (ks:Kn) (i j:Nat) (kvs:KV_):Prop where
 sm:Same H H'
 at_:H' d=some (.dK kvs)
 len:kvs.length<=(bg (ks.take i)).length+j
 old:∀k∈ks.take i,∀u∈k.2,aG kvs (.inr u)=some (.str k.1)
 cur:∀k,ks[i]? = some k->∀u∈k.2.take j,aG kvs (.inr u)=some (.str k.1)
section
variable {H H':Hp}{d:Addr}{ks:Kn}{i j:Nat}{kvs:KV_}
theorem ArN.put (h:ArN H H' d ks i j kvs) (t:H d=none) (p:(bg ks).Nodup) {k:Str × LS}(n:ks[i]? = some k) {u:Str}(s:k.2[j]? = some u) :
    ArN H (upd H' d (.dK (aY kvs (.inr u) (.str k.1)))) d ks i (j+1) (aY kvs (.inr u) (.str k.1)):=by
 have l:(bg (ks.take i)++k.2).Nodup:=by
  rw[<- fI n];have e:bg ks=bg (ks.take (i+1))++bg (ks.drop (i+1)):=by rw[<- ez,xU]
  rw[e] at p;exact(xB.mp p).1
 obtain⟨_,w,v⟩:=xB.mp l;have m:=wE s;refine⟨λb o r=>?_,ac,?_,λg c f a=>?_,λg c f a=>?_⟩
 ·rw[ag (av r t)];exact h.sm _ _ r
 ·have:=bv kvs (.inr u) (V.str k.1);have:=h.len;omega
 ·rw[dr,if_neg (λz=>v f (xH.mpr ⟨g,c,a⟩) u m (by injection z))];exact h.old g c f a
 ·rw[n] at c;cases c;rw[wG,s] at a;rw[dr];by_cases q:f=u
  ·subst q;rw[if_pos rfl]
  ·rw[if_neg (λz=>q (by injection z))];rcases wR.mp a with z | z
   ·exact h.cur k n f z
   ·exact absurd (by simpa using z) q
theorem ArN.next (h:ArN H H' d ks i j kvs) {k:Str × LS}(e:ks[i]? = some k) (f:j=k.2.length):ArN H H' d ks (i+1) 0 kvs := by
 subst f;refine⟨h.sm,h.at_,?_,λb a u c=>?_,λb _ u c=>by simp at c⟩
 ·rw[fI e,wB];exact h.len
 ·rw[wG,e] at a;rcases wR.mp a with z | z
  ·exact h.old b z u c
  ·have:b=k:=by simpa using z
   subst this;exact h.cur b e u (by rw[wI (wr _)];exact c)
theorem ArN.room (h:ArN H H' d ks i j kvs) {k:Str × LS}(b:ks[i]? = some k) (c:j<k.2.length) (a:(bg ks).length<=60):kvs.length<=60:=by
 have e:bg ks=bg (ks.take (i+1))++bg (ks.drop (i+1)):=by rw[<- ez,xU]
 rw[e,fI b,wB,wB] at a;have:=h.len;omega
theorem ArN.fin (h:ArN H H' d ks i 0 kvs) (T:Tre us ks) (c:i=ks.length):ArK kvs us ks:=λu e=>by
 obtain⟨k,b,a⟩:=T.has e;rw[T.par b a];subst c;exact h.old k (by rw[wI (wr _)];exact b) u a
end
def PrtV (H:Hp) (v:V):Option (Str × Str × Str)->Prop
 | none=>v=.non
 | some (k,x,y)=>∃t,v=.ref t/\H t=some (.tup [.str k,.str x,.str y])
theorem PrtV.same (h:PrtV H v o) (s:Same H H'):PrtV H' v o:=by
 cases o with
 | none=>exact h
 | some q=>obtain⟨t,e,a⟩:=h;exact⟨t,e,s _ _ a⟩
abbrev KL:=List (Addr × Addr × (Str × LS))
structure KLs (H:Hp) (L p:Addr) (kl:KL):Prop where
 l:H L=some (.lst (kl.map λq=>V.ref q.1))
 t:∀q∈kl,H q.1=some (.tup [.str q.2.2.1,.ref q.2.1])
 c:∀q∈kl,H q.2.1=some (.lst (List.map V.str q.2.2.2))
 nd:(kl.map λq=>q.2.1).Nodup
 nl:∀q∈kl,q.2.1≠L/\q.2.1≠p
 lp:L≠p
abbrev cO (kl:KL):Kn:=kl.map λq=>q.2.2
section
variable {H H':Hp}{L p:Addr}{kl:KL}
theorem KLs.draw (h:KLs H L p kl) (c:H p=some (.lst ys)) (b:But p H H'):KLs H' L p kl :=
 ⟨b _ _ h.lp h.l,λq a=>bT c b (h.t q a),λq a=>b _ _ (h.nl q a).2 (h.c q a),h.nd,h.nl,h.lp⟩
theorem KLs.same (h:KLs H L p kl) (s:Same H H'):KLs H' L p kl:=⟨s _ _ h.l,λq a=>s _ _ (h.t q a),λq a=>s _ _ (h.c q a),h.nd,h.nl,h.lp⟩
theorem eW {α:Type}{l:List α}{j:Nat}{b x:α}(h:x∈l.set j b):x=b∨∃m,m≠j/\l[m]? = some x:=by
 obtain⟨m,a⟩:=yi h;by_cases q:m=j
 ·subst q;rw[List.getElem?_set] at a;rw[if_pos rfl] at a
  split at a
  ·exact .inl (wA a).symm
  ·cases a
 ·rw[List.getElem?_set_ne (Ne.symm q)] at a;exact .inr ⟨m,q,a⟩
theorem fi {α β:Type}{f:α->β}{l:List α}{j:Nat}{x y:α}(h:l[j]? = some x) (e:f y=f x):(l.set j y).map f=l.map f:=by
 rw[List.map_set,e];refine List.ext_getElem? λm=>?_;rw[List.getElem?_set]
 split
 ·rename_i q
  subst q;have:=(wv.mp h).1;rw[wt,if_pos this,wN,h];rfl
 ·rfl
theorem KLs.put (h:KLs H L p kl) {j:Nat}{nm:Str}{ch ch':LS}(c:kl[j]? = some (ta, B, (nm, ch))) :
    KLs (upd H B (.lst (List.map V.str ch'))) L p (kl.set j (ta,B,(nm,ch'))):=by
 have e:=wE c;have k:=h.nl _ e;have i:=h.c _ e;have n:((kl.set j (ta,B,(nm,ch'))).map λq=>q.1)=kl.map λq=>q.1:=fi c rfl;have l:((kl.set j (ta,B,(nm,ch'))).map λq=>q.2.1)=kl.map λq=>q.2.1:=fi c rfl;refine⟨?_,λq b=>?_,λq b=>?_,by rw[l];exact h.nd,λq b=>?_,h.lp⟩
 ·rw[ag (Ne.symm k.1),h.l];have:=congrArg (List.map V.ref) n;rw[List.map_map,List.map_map] at this;exact congrArg (λz=>some (HO.lst z)) this.symm
 ·rcases eW b with rfl | ⟨m,_,a⟩
  ·have:=h.t _ e;rw[ag (bP this i (by intro z;cases z))];exact this
  ·have:=h.t _ (wE a);rw[ag (bP this i (by intro z;cases z))];exact this
 ·rcases eW b with rfl | ⟨m, f, a⟩
  ·exact ac
  ·have d:q.2.1≠B:=λz=>by
      have g:(kl.map λq=>q.2.1)[m]? = some B:=by rw[wN,a];exact congrArg some z
      have o:(kl.map λq=>q.2.1)[j]? = some B:=by rw[wN,c];rfl
      exact f ((List.getElem?_inj (wv.mp g).1 h.nd).mp (g.trans o.symm))
   rw[ag d];exact h.c _ (wE a)
 ·rcases eW b with rfl | ⟨m,_,a⟩
  ·exact k
  ·exact h.nl _ (wE a)
theorem dA {α:Type}{l:List α}{k:Nat}{x y:α}(h:y∈l.take k++x::l.drop k):y=x∨y∈l:=by
 rcases wR.mp h with q | q
 ·exact .inr (List.mem_of_mem_take q)
 ·rcases wH.mp q with q | q
  ·exact .inl q
  ·exact .inr (yj q)
theorem dP (l:List α) (k:Nat) (x:α):(l.take k++x::l.drop k).Perm (x::l):=by
 have:=List.perm_middle (a:=x) (l₁:=l.take k) (l₂:=l.drop k);rw[xU] at this;exact this
theorem KLs.ins (h:KLs H L p kl) {k:Nat}{u:Str}(d:H ta=some (.tup [.str u, .ref B])) (e:H B=some (.lst [])) (b:B ∉ kl.map λq => q.2.1) (c:B ≠ L) (h2:B ≠ p) :
    KLs (upd H L (.lst ((kl.map λq=>V.ref q.1).take k++V.ref ta::(kl.map λq=>V.ref q.1).drop k))) L p (kl.take k++(ta,B,(u,[]))::kl.drop k):=by
 refine⟨?_,λq a=>?_,λq a=>?_,?_,λq a=>?_,h.lp⟩
 ·rw[ac];simp[List.map_take,xV]
 ·rcases dA a with rfl | a
  ·rw[ag (bP d h.l (by intro z;cases z))];exact d
  ·have:=h.t q a;rw[ag (bP this h.l (by intro z;cases z))];exact this
 ·rcases dA a with rfl | a
  ·rw[ag c];exact e
  ·rw[ag (h.nl q a).1];exact h.c q a
 ·have p:=(dP kl k (ta,B,(u,[]))).map λq:Addr × Addr × (Str × LS)=>q.2.1;refine p.nodup_iff.mpr ?_;rw[xb,xf];exact⟨b,h.nd⟩
 ·rcases dA a with rfl | a
  ·exact⟨c,h2⟩
  ·exact h.nl q a
end
structure TrN (us:LS) (i:Nat) (ks:Kn):Prop where
 perm:(bg ks).Perm (us.take i)
 top:("":Str)∈ks.map (·.1)
 kn:(ks.map (·.1)).Nodup
 sub:∀k∈ks,k.1=""∨k.1∈us.take i
 up:∀k∈ks,∀u∈k.2,k.1=""∨MG.ix us k.1<MG.ix us u
section
variable {us:LS}{i:Nat}{ks:Kn}
theorem TrN.start:TrN us 0 [("",[])]:=⟨by show ([]:LS).Perm _;rw[List.take_zero],by simp,by simp,λk a=>by rw[wO.mp a];exact .inl rfl,λk a u b=>by rw[wO.mp a] at b;cases b⟩
theorem kT (pc:ch'.Perm (u::ch)):∀ {ks:Kn}{j:Nat},ks[j]? = some (nm,ch)->(bg (ks.set j (nm,ch'))).Perm (u::bg ks)
 | [],j,h=>by simp at h
 | k::ks,0,h=>by
  have h:k=(nm,ch):=by simpa using h
  subst h;show (ch'++bg ks).Perm (u::(ch++bg ks));exact(pc.append_right _)
 | k::ks,j+1,h=>by
  have h:ks[j]? = some (nm,ch):=by simpa using h
  have ih:=kT pc (ks:=ks) (j:=j) h;show (k.2++bg (ks.set j (nm,ch'))).Perm (u::(k.2++bg ks));exact(ih.append_left _).trans List.perm_middle
theorem TrN.step (h:TrN us i ks) (t:us.Nodup) {u:Str}(d:us[i]? = some u) {j:Nat}{nm:Str}{ch ch':LS}(o:ks[j]? = some (nm, ch)) (pc:ch'.Perm (u :: ch)):TrN us (i+1) (ks.set j (nm, ch')) := by
 have w:=(wv.mp d).1;have s:us.take (i+1)=us.take i++[u]:=by rw[wG,d];rfl
 have a:=wE o;have l:((ks.set j (nm,ch')).map λk=>k.1)=ks.map λk=>k.1:=fi o rfl;have r:MG.ix us u=i:=MG.ix_at t d;have c:∀x∈us.take i,MG.ix us x<i:=λx b=>by
  obtain⟨m,a⟩:=yi b;have f:=(wv.mp a).1;rw[xi] at f;rw[List.getElem?_take_of_lt (by omega)] at a;rw[MG.ix_at t a];omega
 refine⟨?_,by rw[l];exact h.top,by rw[l];exact h.kn,λk n=>?_,λk n x b=>?_⟩
 ·rw[s];refine(kT (j:=j) pc o).trans (((h.perm.cons u)).trans ?_);exact(List.perm_append_singleton u _).symm
 ·have:k.1∈ks.map λk=>k.1:=by rw[<- l];exact ww.mpr ⟨k,n,rfl⟩
  obtain⟨v,g,e⟩:=ww.mp this;rw[<- e,s];rcases h.sub v g with q | q
  ·exact .inl q
  ·exact .inr (xJ _ q)
 ·rcases eW n with rfl | ⟨m, _, p⟩
  ·rcases wH.mp (pc.mem_iff.mp b) with rfl | b
   ·rcases h.sub _ a with q | q
    ·exact .inl q
    ·right
     rw[r];exact c _ q
   ·exact h.up _ a x b
  ·exact h.up _ (wE p) x b
theorem TrN.knot (h:TrN us (i+1) ks) (m:us.Nodup) (n:∀u ∈ us, u ≠ "") {u:Str}(f:us[i]? = some u) (c:u ∉ ks.map (·.1)) (k:Nat):TrN us (i+1) (ks.take k ++ (u, []) :: ks.drop k) := by
 have l:=wE f;have j:=dP ks k (u,([]:LS));have d:=j.map λk:Str × LS=>k.1;refine⟨?_,d.mem_iff.mpr (wY _ h.top),d.nodup_iff.mpr (by rw[xb,xf];exact⟨c,h.kn⟩),λq b=>?_,λq b x g=>?_⟩
 ·have e:bg (ks.take k++(u,[])::ks.drop k)=bg ks:=by
     have a:bg ((u,([]:LS))::ks.drop k)=bg (ks.drop k):=rfl;rw[ez,a,<- ez,xU]
  rw[e];exact h.perm
 ·rcases dA b with rfl | b
  ·right
   show u∈us.take (i+1);rw[wG,f];simp
  ·exact h.sub q b
 ·rcases dA b with rfl | b
  ·cases g
  ·exact h.up q b x g
theorem TrN.fin (h:TrN us us.length ks) (b:us.Nodup) (nm:∀u∈us,Nm u) (a:us.length<=60):Tre us ks :=
 ⟨by have:=h.perm;rwa [wI (wr _)] at this,b,nm,a,h.top,h.kn,λk c=>by have:=h.sub k c;rwa [wI (wr _)] at this,h.up⟩
end
theorem jI:∀ {ks:Kn}{refs:LV}, RepAll H refs (ks.map dH) -> ∃ls:LV, ls.length=ks.length /\ ∀(i:Nat) (k:Str × LS), ks[i]? = some k -> ∃ta la, refs[i]? = some (.ref ta) /\ ls[i]? = some (.ref la) /\ H ta=some (.tup [.str k.1, .ref la]) /\ H la=some (.tup (k.2.map V.str))
 | [],refs,_=>⟨[],rfl,λi k h=>by simp at h⟩
 | k::ks,refs,h=>by
  obtain⟨y,ys,rfl,r1,r2⟩:=RepAll.consI h;obtain⟨ta,la,rfl,h1,h2⟩:=gR r1;obtain⟨ls,hl,ih⟩:=jI r2;refine⟨.ref la::ls,by rw[wC,wC,hl],λi k' hk=>?_⟩;cases i with
  | zero =>
   have:k=k':=by simpa using hk
   subst this;exact⟨ta,la,rfl,rfl,h1,h2⟩
  | succ i=>exact ih i k' (by simpa using hk)
theorem pZ (xs:LS) (ys:LV) (h:ys.length=xs.length):(dD xs ys).length=xs.length:=by
 unfold dD;rw[xx,wt];omega
theorem sy {xs:LS}{ys:LV}{i:Nat}{q:Key × V}(h:(dD xs ys)[i]? = some q):∃x,xs[i]? = some x/\q.1=.inr x/\ys[i]? = some q.2:=by
 unfold dD at h;rw[xy,wN] at h;cases e:xs[i]? with
 | none=>rw[e] at h;cases h.1
 | some x =>
  rw[e] at h;exact⟨x,rfl,(wA h.1).symm,h.2⟩
theorem dQ {us:LS}(R:Rep H (.ref a) (cZ ks)) (T:Tre us ks)
    (h:∀D B,H D=none->(∀k∈ks,∃z,aG B (.inr k.1)=some (.ref z)/\H z=some (.tup (k.2.map V.str)))->Q (.ref D) (upd H D (.dK B))):kG K [.ref a] H Q:=by
 obtain⟨N,f,E,M,t⟩:=eJ R;cases E;obtain⟨s,u,d⟩:=jI t;have b:=t.len;rw[wt] at b;have v:=T.few;have y:(dD (ks.map (·.1)) s).length=ks.length:=by rw[pZ _ _ (by rw[wt];exact u),wt]
 refine⟨a,f,dD (ks.map (·.1)) s,rfl,M,by rw[y];exact b,by omega,λi q x G p=>?_,λD w=>?_⟩
 ·obtain⟨F,c,C,r⟩:=sy G;rw[wN] at c;cases e:ks[i]? with
  | none=>rw[e] at c;cases c
  | some k =>
   rw[e] at c;obtain⟨g,z,m,j,l,n⟩:=d i k e;rw[m] at p;rw[j] at r;have A:V.ref g=x:=wA p;have L:V.ref z=q.2:=wA r;have I:k.1=F:=wA c;refine⟨g,A.symm,.of ?_⟩;rw[C,<- L,<- I];exact l
 ·refine h D _ w λk J=>?_;obtain⟨i,o⟩:=yi J;obtain⟨g,z,m,j,l,n⟩:=d i k o;refine⟨z,?_,n⟩;rw[tF _ _ T.kn];exact lq T.kn (by rw[wN,o];rfl) j
theorem bQ:∀ {ps:List (Str × Str)},(∀e∈ps,Nm e.1/\Nm e.2)->PyData.canLayAll0 (ps.map aA)=true
 | [],_=>rfl
 | e::ps,h=>by
  have:=h e (by simp);show (PyData.canLay0 (aA e)&&PyData.canLayAll0 (ps.map aA))=true;rw[bQ λx hx=>h x (wY _ hx)];show ((PyData.canLay0 (.str e.1)&&(PyData.canLay0 (.str e.2)&&true))&&true)=true;rw[cS this.1,cS this.2];rfl
theorem cf (h:Nm e.1/\Nm e.2):PyData.canLay0 (aA e)=true:=by
 show (PyData.canLay0 (.str e.1)&&(PyData.canLay0 (.str e.2)&&true))=true;rw[cS h.1,cS h.2];rfl
theorem bL (xs:LS):(List.map V.str xs).all dB=true:=by
 rw[List.all_map,x4];intro x _;rfl
theorem jb (x:Str) (xs:LS):inV (V.str x) (List.map V.str xs)=decide (x∈xs):=by
 rw[xr,decide_eq_true_iff];unfold inV;rw[List.any_map,yc]
 constructor
 ·rintro⟨y,a,q⟩;have q:(y==x)=true:=q;have q:y=x:=by simpa using q
  exact q ▸ a
 ·intro h;refine⟨x,h,?_⟩;show (x==x)=true;simp
def tBMT (r:V->LV->Hp->VK->Prop) (to:TE) (t:TA):TE:=λσ H Q=>to σ H λx H1=>(∃p xs,x=.ref p/\H1 p=some (.tup xs))/\t σ H1 λxs H2=>r x xs H2 Q
theorem jL (u:PE X o to) (R:PA X [e] t)
    (d:attributeBase o "index" X.env (eval o X.env)=eval o X.env:=by rfl)
    (g:((backTo cpos (starEach [e] X.env)).all (λx=>!x.1)&&(backToKw cpos (keywordEach [] X.env)).all (λx=>x.1.isSome)
     && decide ([e].length+([]:List Keyword).length+(if ([]:List Keyword).isEmpty then 0 else 1)<30))=true:=by rfl)
    (f:(apos.endLine==cpos.line)=true:=by rfl) (y:starEach [e] X.env=(false,eval e X.env)::starEach [] X.env:=by rfl) (c:(backTo cpos (starEach [] X.env)).any (·.1)=false:=by rfl) :
    PE X (.Call (.Attribute o "index" apos) [e] [] cpos) (tBMT jx to t):=by
 intro b s i H Q I h;refine wpAny_Call_method_late d g f rfl (thn (u b s i H _ I h) λv l ⟨x,j,q,J,⟨p,G,D,w⟩,L⟩=>?_);subst D;cases J;obtain⟨_,M,T,k,r,B,n,S,C⟩:=(show ObjOk X.prog X.w j l.heap p (.tup G) from q.hok p _ w)
 refine⟨"tuple","tuple.index",PySem.F.plainAttrs_tuple,PySem.F.slot_tuple_index,PySem.F.type_tuple_index,⟨k,r,B⟩,λa z=>?_,?_⟩
 ·cases z;exact⟨k,r,C⟩
 ·have m:=R cpos b l i j _ q L;rw[y] at m ⊢;refine Calls.callWith_builtin (by show (false||(backTo cpos (starEach [] X.env)).any (·.1))=false;rw[c] <;> rfl) (Calls.evalArgs_plain (thn m λA O ⟨N,K,F,P,E⟩=>?_));exact oQ b O i K (.ref p) N (.ref p) A Q F rfl P E
end L2
namespace PySem
open PySem.Spec PyProof.Rows
def Raw (h:Heap) (d:Addr) (es:Array DictEntry) (ep:Nat):Prop:=∃o,h.get? d=some o/\o.ExactDict/\o.data=.dict es ep
section
variable {prog:Program}{w:World}{A:Around}{E:QS}{s:Shared}{it d:Addr}{i ep:Nat}{es:Array DictEntry}
theorem Raw.typ (c:Raw s.heap d es ep):s.TypeIs (.ref d) "dict":=let ⟨o,b,a,_⟩:=c;⟨o,b,a.1⟩
theorem rC (g:(d==sysModules)=false) (e:Raw s.heap d es ep)
    (f:Q (.ref s.heap.objs.size) { s with heap:=s.heap.push { cls:=.type "dict_keyiterator",data:=.fields #[.ref d,.int 0 0,.int es.size 0,.int ep 0] } }):wpAny (model prog w) A (pyIter (.ref d)) Q E s:=by
 have b:=e.typ;obtain⟨o,c,h,a⟩:=e;refine wpAny_pyIter_slot b F.slot_dict_iter (wpAny_call_entry F.slot_dict_iter b F.entry_dict_iter ?_ (F.args_dict_iter_1 _));unfold Builtin.«dict.__iter__» Builtin.Dict.dictSlotNone;refine wq (wq (wpAny_notOrdered_dict b ?_));show wpAny _ _ (pure (Value.ref d)) _ _ s;refine wu ?_;show wpAny _ _ (Builtin.Dict.showsAll d >>= _) _ _ s;unfold Builtin.Dict.showsAll;rw[if_neg (by rw[g];exact wZ)];refine wq (wu (wq (wpAny_dictEntries c a (wq (wpAny_dictEpoch c a ?_)))));refine wq (wpAny_newObj_type (wu ⟨_,rfl,"dict_keyiterator",_,⟨_,wQ _ rfl,rfl⟩,F.slot_dict_keyiterator_next.lookup,?_⟩));simpa [rawInt] using f
theorem ql (a:s.heap.IsKeyIter it d i es.size ep) (l:Raw s.heap d es ep) (k:i<es.size)
    (j:∀h',h'.IsKeyIter it d (i+1) es.size ep->Heap.SameBut it s.heap h'->Q (some es[i].key) { s with heap:=h' }):wpAny (model prog w) A (pyNext (.ref it)) Q E s:=by
 obtain⟨o,g,m,b⟩:=id a;obtain⟨p,e,n,f⟩:=l;have c:Builtin.Dict_items.ownsTuple "dict_keyiterator"=false:=by decide
 unfold pyNext;refine wq (wpAny_attempt (wpAny_callSpecial?_slot (name:=Str.ofString "__next__") a.typeIs F.slot_dict_keyiterator_next (wpAny_call_entry F.slot_dict_keyiterator_next a.typeIs F.entry_dict_keyiterator_next ?_ (F.args_dict_keyiterator_next_1 _))));refine wq (wu (wq (wq ?_)))
 first | refine wq (wpAny_typeNameOfWhole_keyiter a.typeIs (wu (wq (wpAny_fieldsOf g b ?_)))) | refine wq (wpAny_typeNameOf_keyiter a.typeIs (wu (wq (wpAny_fieldsOf g b ?_))))
 simp only[c,xQ,if_false];show wpAny _ _ (if (Value.ref d==Value.none)=true then _ else _) _ _ s;rw[if_neg (show ¬ ((Value.ref d==Value.none)=true) from wZ)];refine wq (wu (wq (wpAny_dictEntries e f ?_)));rw[if_neg (by simp)];refine wq (wu (wq (wpAny_dictEpoch e f ?_)));rw[if_neg (by simp)];refine wu ?_;simp only[show ¬ ((i:Int)<0) from by omega,if_false,xZ,Array.getElem?_eq_getElem k];refine wq ?_
 first | refine wq (wpAny_typeNameOfWhole_keyiter a.typeIs (wu (wq (wpAny_isOneOf_keyiter a.typeIs ?_)))) | refine wq (wpAny_typeNameOf_keyiter a.typeIs (wu (wq (wpAny_isOneOf_keyiter a.typeIs ?_))))
 show wpAny _ _ (setField (.ref it) 1 (rawInt ((i:Int)+1)) >>= _) _ _ s;refine wq (wpAny_setField g b (by simp) ?_);have h:(s.heap.update it (Obj.mapFields (·.setIfInBounds 1 (rawInt ((i:Int)+1))))).IsKeyIter it d (i+1) es.size ep :=
  ⟨_,Heap.get?_update_self _ g (Obj.isFreed_of_fields (Obj.data_mapFields b _)),(Obj.cls_mapFields ..).trans m,by rw[Obj.data_mapFields b];simp[rawInt]⟩
 refine wq (xh (wq (wpAny_isOneOf_keyiter (s:={ s with heap:=s.heap.update it (Obj.mapFields (·.setIfInBounds 1 (rawInt ((i:Int)+1)))) }) h.typeIs ?_)));show wpAny _ _ (pure es[i].key) _ _ _;exact wu (wu ⟨_,rfl,wu (j _ h (Heap.SameBut.update ..))⟩)
theorem rZ (q:A.handled=none) (c:s.heap.IsKeyIter it d i es.size ep) (n:Raw s.heap d es ep) (k:es.size<=i)
    (l:∀h',Heap.ExtBut it s.heap h'->Q none { s with heap:=h' }):wpAny (model prog w) A (pyNext (.ref it)) Q E s:=by
 obtain⟨o,h,t,j⟩:=id c;obtain⟨r,f,p,g⟩:=n;have e:Builtin.Dict_items.ownsTuple "dict_keyiterator"=false:=by decide
 unfold pyNext;refine wq (wpAny_attempt (wpAny_callSpecial?_slot (name:=Str.ofString "__next__") c.typeIs F.slot_dict_keyiterator_next (wpAny_call_entry F.slot_dict_keyiterator_next c.typeIs F.entry_dict_keyiterator_next ?_ (F.args_dict_keyiterator_next_1 _))));refine wq (wu (wq (wq ?_)))
 first | refine wq (wpAny_typeNameOfWhole_keyiter c.typeIs (wu (wq (wpAny_fieldsOf h j ?_)))) | refine wq (wpAny_typeNameOf_keyiter c.typeIs (wu (wq (wpAny_fieldsOf h j ?_))))
 simp only[e,xQ,if_false];show wpAny _ _ (if (Value.ref d==Value.none)=true then _ else _) _ _ s;rw[if_neg (show ¬ ((Value.ref d==Value.none)=true) from wZ)];refine wq (wu (wq (wpAny_dictEntries f g ?_)));rw[if_neg (by simp)];refine wq (wu (wq (wpAny_dictEpoch f g ?_)));rw[if_neg (by simp)];refine wu ?_;simp only[show ¬ ((i:Int)<0) from by omega,if_false,xZ,Array.getElem?_eq_none k];refine wq ?_
 first | refine wq (wpAny_typeNameOfWhole_keyiter c.typeIs (wu ?_)) | refine wq (wpAny_typeNameOf_keyiter c.typeIs (wu ?_))
 show wpAny _ _ (setField (.ref it) 0 .none >>= _) _ _ s;refine wq (wpAny_setField h j (by simp) ?_);show wpAny _ _ (newExc (.type "StopIteration") [] >>= _) _ _ _;refine wq ?_;simp only[newExc,newTuple];refine wq (wpAny_newObj_type (wq (m:=firstArgMember _ _) (wpAny_of_eq (a:=Value.none) (by first | rfl | (simp only[firstArgMember];rfl)) (wpAny_newObj_type ?_ (by size_fits)))) (by size_fits));simp only[raiseNew];refine wq (wpAny_handled ?_);rw[show A.in1.handled=none from q];refine wq (wu (wpAny_throw ?_));refine wq (wpAny_isInstance (T:="StopIteration") (b:=true) ⟨_,wQ _ rfl,rfl⟩ isSubtype_stop ?_);exact wu (l _ (((Heap.SameBut.update ..).extBut.push _).push _))
theorem Raw.at (x:Raw h d es ep) (e:∀o,h.get? d=some o->h'.get? d=some o):Raw h' d es ep:=let ⟨o,a,r⟩:=x;⟨o,e o a,r⟩
theorem pf (hh:A.handled=none) (I d:Addr) (hne:d≠I) (es:Array DictEntry) (ep:Nat) :
    Walks prog w A I [I,d] [I] es.size (λi v=>∃h:i<es.size,v=es[i].key) (λi h=>h.IsKeyIter I d i es.size ep/\Raw h d es ep) where
 sub:=λb hb=>by simp at hb;simp[hb]
 frame:=λ_ _ _ st hk=>⟨st.1.at λo e=>hk I (by simp) o e,st.2.at λo e=>hk d (by simp) o e⟩
 item:=λi s Q E hi st hQ=>ql st.1 st.2 hi λh' hit' hs'=>hQ _ h' s.toks ⟨hi,rfl⟩ ⟨hit',st.2.at λo e=>hs'.extBut d o hne e⟩ λb o hb e=>hs'.extBut b o (λh=>hb (by simp[h])) e
 done:=λs Q E st hQ=>rZ hh st.1 st.2 (wr _) λh' he'=>hQ h' s.toks λb o hb e=>he' b o (λh=>hb (by simp[h])) e
 self:=λ_ _ _ _ st hQ=>wpAny_pyIter_keyiter st.1 hQ
theorem tY (lo:(d==sysModules)=false):W.KdlSrc prog w "dict" d d es.size (λi v=>∃h:i<es.size,v=es[i].key) (λh=>Raw h d es ep) where
 type:=λ_ hm=>hm.typ
 there:=λ_ hm=>let ⟨_,ho,_⟩:=hm;⟨wz ho,wz ho⟩
 keep:=λ_ _ hm hk=>hm.at λo e=>hk d (.inl rfl) o e
 notList:=by decide
 notTuple:=by decide
 hint:=λ_ _ _ _ hm hq=>W.kdl_hint_dict hm.typ hq
 iter:=λ_ _ hh hm=>⟨_,_,(λ_ _ hq=>rC lo hm hq),pf hh _ d (by obtain⟨_,ho,_⟩:=hm;exact wJ (wz ho)) es ep,⟨⟨_,wQ _ rfl,rfl,rfl⟩,hm.at λ_ e=>wD _ e⟩⟩
theorem lM (z:A.handled=none) (y:(d==sysModules)=false) (p:Raw s.heap d es ep) (u:es.size <= sizeLine)
    (r:∀h' tk q,(∀b o,s.heap.get? b=some o->h'.get? b=some o)->ItemsOf (λi v=>∃h:i<es.size,v=es[i].key) q es.size->Q q.toList { s with heap:=h',toks:=tk }):wpAny (model prog w) A (collect (.ref d)) Q E s:=by
 have c:d<s.heap.objs.size:=by obtain⟨_,t,_⟩:=p;exact wz t
 have j:∀R:Result->Shared->Prop,(∀h' tk q g,(∀b o,s.heap.get? b=some o->h'.get? b=some o)->h'.get? s.heap.objs.size=some { cls:=.type "list",dict:=none,data:=.seq q g,slots:=#[] }->ItemsOf (λi v=>∃h:i<es.size,v=es[i].key) q es.size->R (.ok (.ret (.ref s.heap.objs.size))) { s with heap:=h',toks:=tk }) ->
     codeAny (model prog w) A (.builtin "proto.collect" ⟨[.ref d],[]⟩) R s:=by
  intro R x;refine codeAny_builtin F.entry_proto_collect ?_;rw[Around.under_plainId F.plain_proto_collect _];show wpAny _ A.in1 (newList [] >>= λl=>again (.builtin "list.__iadd__" ⟨[l,.ref d],[]⟩)) _ _ s;refine wq (wpAny_newObj_type (wu ⟨plainId_quiet F.plain_list_iadd _,codeAny_builtin F.entry_list_iadd ?_⟩));rw[Around.under_plainId F.plain_list_iadd _];show wpAny _ A.in1 (Builtin.List.listExtendWith (.ref s.heap.objs.size) (.ref d) (.ref s.heap.objs.size)) _ _ _;have k:(s.heap.push { cls:=.type "list",data:=.seq ([]:List Value).toArray }).get? s.heap.objs.size=some { cls:=.type "list",data:=.seq #[] }:=wQ _ rfl;refine W.kdl_extend (R:=R) (s:={ s with heap:=s.heap.push { cls:=.type "list",data:=.seq ([]:List Value).toArray } }) (tY (es:=es) (ep:=ep) y) z (p.at λ_ e=>wD _ e) s.heap.objs.size (xK c) (xK c) _ 0 k (λh' tk f g n m a=>?_) u;exact x h' tk f g (λb o e=>n b o (wJ (wz e)) (wD _ e)) m a
 unfold collect;refine wq (wpAny_runValue (j _ λh' tk q g n m a=>?_));show wpAny _ A (load s.heap.objs.size >>= _) _ _ _;refine wq (wpAny_load m ?_);exact wu (r h' tk q n a)
theorem jg (r:A.handled=none) (q:(d==sysModules)=false) (m:Raw s.heap d es ep) (l:es.size<=sizeLine)
    (p:∀(h':Heap) tk acc,(∀b o,s.heap.get? b=some o->h'.get? b=some o)->ItemsOf (λi v=>∃h:i<es.size,v=es[i].key) acc es.size->Q (.ref h'.objs.size) { s with heap:=h'.push { cls:=.type "tuple",data:=.seq acc },toks:=tk }) :
    wpAny (model prog w) A (call (.type "tuple") [.ref d]) Q E s:=by
 refine callType_codes (Q₁:=λf a=>a.TypeIs f "tuple"/\Q f a) F.called_tuple (F.typeCall_tuple_1 _) F.entry_object_init ?_ λf a c=>?_
 ·refine codeAny_of_tree ?_;show wpAny _ A.in1.in1 (do checkBuiltinCall "tuple.__new__" ⟨[.type "tuple",.ref d],[]⟩;again (.builtin "tuple.__new__" ⟨[.type "tuple",.ref d],[]⟩)) _ _ s;refine wq (wpAny_of_eq (F.newCall_tuple_1 _) (wu ⟨plainId_quiet F.plain_tuple_new _,codeAny_builtin F.entry_tuple_new ?_⟩));rw[Around.under_plainId F.plain_tuple_new _];have n:=sub_tuple_self;have k:=init_tuple_lookup;have t:=madeHere_tuple;have j:=m.typ
  wp_walk using wpAny_typeOf j,lM (es:=es) (ep:=ep) (by exact r) q m l
  intro h' tk acc u g;show wpAny _ _ (Builtin.Tuple.tupleExact acc.toList.toArray >>= λv=>ret v) _ _ _;unfold Builtin.Tuple.tupleExact;refine wq (wpAny_newObj_type ?_ (by show acc.toList.toArray.size<=sizeLine;simp only[Array.toArray_toList];rw[g.1];exact l));refine wu ?_;have e:acc.toList.toArray=acc:=by simp
  rw[e];exact⟨⟨_,wQ _ rfl,rfl⟩,p h' tk acc u g⟩
 ·exact⟨c.1,F.args_object_init_2 f _,object_init_meets F.called_tuple.init.lookup F.called_tuple.made (by decide) prog w A.in1 _ a ⟨c.1,rfl,c.2⟩⟩
end
end PySem
namespace L2
open PySem PySem.Spec PyProof.Rows
theorem Paired.at:∀ {l:List α}{m:List β}, Paired F l m -> l.length=m.length /\ ∀(i:Nat) (a:α), l[i]? = some a -> ∃b, m[i]? = some b /\ F a b
 | _,_,.nil=>⟨rfl,λi a h=>by simp at h⟩
 | _,_,.cons r t=>by
  obtain⟨hl,ih⟩:=Paired.at t;refine⟨by rw[wC,wC,hl],λi a h=>?_⟩;cases i with
  | zero =>
   have h:=wA h;subst h;exact⟨_,rfl,r⟩
  | succ i=>exact ih i a (by simpa using h)
theorem iB:∀(ys:List (List Key × Addr × Value)),Vals (ys.map λy=>V.ref y.2.1) (ys.map λy=>Value.ref y.2.1)
 | []=>.nil
 | y::ys=>.cons rfl (iB ys)
section
variable {X:Cx}{p pos:Pos}{e:Expr}{t:TA}
def pz:LV->Hp->VK->Prop:=λxs H Q=>∃a kvs,xs=[V.ref a]/\H a=some (.dT kvs)/\∀l rs,H l=none->rs.length=kvs.length->(∀(i:Nat) (k:List Key × V),kvs[i]? = some k->∃q,rs[i]? = some (V.ref q)/\H q=some (.tup (k.1.map kV)))->Q (.ref l) (upd H l (.tup rs))
theorem sX (T:X.calm=true) (B:Blt X.mg) (Y:PA X [e] t) (R:Gl X "tuple" := by rfl) (he:starEach [e] X.env=(false, eval e X.env) :: starEach [] X.env := by rfl) (hpl:(backTo pos (starEach [] X.env)).any (·.1)=false := by rfl) :
    PE X (.Call (.Name "tuple" p) [e] [] pos) (tCB pz t):=by
 refine eR (r:=pz) (λD s σ H xs us Q I r h=>?_) R B.tuple (show bootBuiltins "tuple"=some (.type "tuple") by decide +kernel) Y (by decide) (by decide) he hpl;obtain⟨a,w,rfl,M,q⟩:=h;obtain⟨u,rfl,S⟩:=cK r;cases S;obtain⟨hz,g,f,P,o,es,ep,G,N,x,C,h5⟩:=(show ObjOk X.prog X.w H s.heap a (.dT w) from I.hok a _ M)
 obtain⟨pl,n⟩:=Paired.at P;have v:es.size=f.length:=by rw[<- xW,C,wt]
 refine jg (es:=es) (ep:=ep) (I.ok.hd T) g ⟨o,G,N,x⟩ (by omega) λh' K c z d=>?_;have E:=I.kept (h':=h') (t':=K) z;have Z:c.toList=f.map λy=>Value.ref y.2.1:=by
  refine List.ext_getElem (by rw[xW,d.1,wt,v]) λj m l=>?_;rw[wt] at l;have A:j<c.size:=by rw[xW] at m;exact m
  obtain⟨W,J⟩:=d.2 j c[j] (Array.getElem?_eq_getElem A);have F:es.toList[j]? = some (entryOfKey (tupleKind (bM X.prog X.w)) f[j]):=by rw[C,wN,wP l];rfl
  have O:es[j]=entryOfKey (tupleKind (bM X.prog X.w)) f[j]:=by
   have:es.toList[j]? = some es[j]:=by rw[Array.getElem?_toList,Array.getElem?_eq_getElem W]
   rw[this] at F;exact wA F
  rw[Array.getElem_toList,List.getElem_map,J,O];rfl
 have U:Vals (f.map λy=>V.ref y.2.1) c.toList:=by
  rw[Z];exact iB f
 refine⟨.ref _,_,E.laid (o:=.tup (f.map λy=>V.ref y.2.1)) (λb ob q=>wD _ q) (wr _) ⟨by rw[wt];omega,c.toList,U,?_⟩,rfl,q _ _ (E.hok.fresh (wr _)) (by rw[wt];omega) λi k z=>?_⟩
 ·have e:c.toList.toArray=c:=by simp
  rw[e];exact TupN.new _ _
 ·obtain⟨y,L,m,l,_⟩:=n i k z;exact⟨y.2.1,by rw[wN,L];rfl,l⟩
end
end L2
namespace L2
open PySem
abbrev Prs:=List (Str × Str)
def bo:Prs->Prs->Prs
 | acc,[]=>acc
 | acc,x::xs=>if x∈acc then bo acc xs else bo (acc++[x]) xs
theorem cJ:∀(xs ys acc:Prs),bo acc (xs++ys)=bo (bo acc xs) ys
 | [],ys,acc=>rfl
 | x::xs,ys,acc=>by
  show (if x∈acc then bo acc (xs++ys) else bo (acc++[x]) (xs++ys))=bo (if x∈acc then bo acc xs else bo (acc++[x]) xs) ys
  split
  ·exact cJ xs ys acc
  ·exact cJ xs ys (acc++[x])
theorem gx:∀(xs acc:Prs),(bo acc xs).length<=acc.length+xs.length
 | [],acc=>wr _
 | x::xs,acc=>by
  show (if x∈acc then bo acc xs else bo (acc++[x]) xs).length<=_
  split
  ·have:=gx xs acc;rw[wC];omega
  ·have:=gx xs (acc++[x]);rw[wB] at this;rw[wC];simp at this;omega
theorem gF:∀(xs acc:Prs) (e:Str × Str), e ∈ bo acc xs ↔ e ∈ acc ∨ e ∈ xs
 | [],acc,e=>by simp[bo]
 | x :: xs, acc, e => by
  show e∈(if x∈acc then bo acc xs else bo (acc++[x]) xs) ↔ _
  split
  ·rename_i h
   rw[gF xs acc e,wH]
   constructor
   ·rintro (q | q)
    ·exact .inl q
    ·exact .inr (.inr q)
   ·rintro (q | rfl | q)
    ·exact .inl q
    ·exact .inl h
    ·exact .inr q
  ·rw[gF xs _ e,wR,wO,wH,or_assoc]
def cD (ks:Kn) (knot:Str) (e:Str × Str):Option (Str × Str):=match bc ks e.1 e.2 with
 | some (q,x,y)=>if q=knot then some (x,y) else none
 | none=>none
def bO (last:Bool) (c:LS) (u:Str):Prs:=(c.filter λv=>decide (v≠u)).map λv=>if last then (v,u) else (u,v)
def wL (c:LS) (wn:Prs) (word:Str):LS:=(wn.filter λe=>decide (e.1=word)&&decide (e.2∈c)).map (·.2)
def wU (c:LS) (wn:Prs) (word:Str):LS:=c.filter λu=>decide ((word,u)∈wn)
def cc (ks:Kn) (ts wn:Prs) (knot:Str) (c:LS):Prs:=bo [] (ts.filterMap (cD ks knot)++((wU c wn "first").flatMap (bO false c)++(wU c wn "last").flatMap (bO true c)))
def FL (k:Str × LS) (e:Str × Str):Prop:=(e.1="first"/\k.2.head? = some e.2)∨(e.1="last"/\k.2.getLast? = some e.2)
theorem FL.mem (h:FL k e):e.2∈k.2:=by
 rcases h with⟨_,h⟩ | ⟨_,h⟩
 ·exact List.mem_of_head? h
 ·exact List.mem_of_getLast? h
structure WnX (ks:Kn) (wn:Prs):Prop where
 nd:wn.Nodup
 at_:∀e∈wn,∃k∈ks,FL k e
theorem uG {l m:LS}(a:l.Nodup) (nm:m.Nodup) (h:∀x ∈ l, ∀y ∈ l, x=y) (e:∀x, x ∈ l ↔ x ∈ m):l=m := by
 match l,m with
 | [],[]=>rfl
 | [],y::m=>exact absurd ((e y).mpr (by simp)) (by simp)
 | x::l,[]=>exact absurd ((e x).mp (by simp)) (by simp)
 | x :: l, y :: m =>
  have d:l=[]:=by
   cases l with
   | nil=>rfl
   | cons z l =>
    have:=h x (by simp) z (by simp);rw[xf] at a;exact absurd (this ▸ (by simp:z∈z::l)) a.1
  have b:y=x:=h y ((e y).mpr (by simp)) x (by simp);have c:m=[]:=by
   cases m with
   | nil=>rfl
   | cons z m =>
    have f:=h z ((e z).mpr (by simp)) x (by simp);rw[xf] at nm;exact absurd ((b.trans f.symm) ▸ (by simp:z∈z::m)) nm.1
  rw[d,c,b]
theorem oD:∀ {l:Prs},(∀e∈l,e.1=word)->l.Nodup->(l.map (·.2)).Nodup
 | [],_,_=>xP
 | e::l,h,nd=>by
  rw[xf] at nd;rw[xb,xf];refine⟨λz=>?_,oD (λx hx=>h x (wY _ hx)) nd.2⟩;obtain⟨f,hf,q⟩:=ww.mp z;have:f=e:=Prod.ext ((h f (wY _ hf)).trans (h e (by simp)).symm) q;exact nd.1 (this ▸ hf)
theorem oJ {us:LS}(T:Tre us ks) (W:WnX ks wn) {k:Str × LS}(v:k ∈ ks) (r:k.2.Nodup) {q:Str}(z:q="first" ∨ q="last"):wU k.2 wn q=wL k.2 wn q := by
 have d:∀u∈k.2,(q,u)∈wn->FL k (q,u):=λu s h=>by
  obtain⟨A,o,f⟩:=W.at_ _ h;have:=gB T.knd v o s f.mem;rw[this];exact f
 have c:∀ {x y:Str},FL k (q,x)->FL k (q,y)->x=y:=λ{x y} m i=>by
  have n:("first":Str)≠"last":=by decide
  rcases m with⟨p,a⟩ | ⟨p,a⟩
  ·rcases i with⟨_,b⟩ | ⟨j,_⟩
   ·exact wA (a.symm.trans b)
   ·exact absurd (p.symm.trans j) n
  ·rcases i with⟨j,_⟩ | ⟨_,b⟩
   ·exact absurd (j.symm.trans p) n
   ·exact wA (a.symm.trans b)
 have l:∀x,x∈wU k.2 wn q ↔ x∈k.2/\(q,x)∈wn:=λx=>by unfold wU;rw[wV,decide_eq_true_iff]
 have w:∀x,x∈wL k.2 wn q ↔ x∈k.2/\(q,x)∈wn:=λx=>by
  unfold wL;rw[ww]
  constructor
  ·rintro⟨e,g,rfl⟩;rw[wV,xj,decide_eq_true_iff,decide_eq_true_iff] at g;obtain⟨a,b,t⟩:=g;exact⟨t,b ▸ a⟩
  ·rintro⟨a,b⟩;exact⟨(q,x),wV.mpr ⟨b,by rw[xj,decide_eq_true_iff,decide_eq_true_iff];exact⟨rfl,a⟩⟩,rfl⟩
 refine uG (r.filter _) ?_ (λx m y i=>?_) (λx=>(l x).trans (w x).symm)
 ·unfold wL;exact oD (λe g=>by rw[wV,xj,decide_eq_true_iff,decide_eq_true_iff] at g;exact g.2.1) (W.nd.filter _)
 ·have a:=(l x).mp m;have b:=(l y).mp i;exact c (d x a.1 a.2) (d y b.1 b.2)
end L2
namespace L2
open PySem PySem.Spec PyProof.Rows
def wb (K:W.Frag) (ta:TA):TI:=λσ H R=>ta σ H λvs H1=>∃a b xs ys,vs=[.ref a,.ref b]/\SqT K H1 a xs/\SqL K H1 b ys/\R (lj K a b) H1
theorem nu {P:Program}{w:World}{K:W.Frag}{elts:List Expr}{x1}{tp:Pos}(a b z TI TO f e:Addr) (D:ZipApart z TI TO f e a b) :
    Turn P w K (.Tuple elts x1 tp) (lj K a b) [z,TI,TO,f,e] z (λi h=>(∃q B,F0 q/\Zp h z TI TO q B)/\IsPair h TI (.ref f) (.ref e)/\(∃c d,IsPair h TO c d)/\h.IsTupleIter f a i/\h.IsListIter e b i) :=
 iM (t1:=true) (t2:=false) a b z TI TO f e D
theorem q3 (K:W.Frag) {X:Cx}{elts:List Expr}{x1}{tp:Pos}{a b:Expr}{ta:TA}{p pos:Pos}(N:Gl X "zip") (L:X.mg "zip"=none) (Z:PA X [a,b] ta) (F:starEach [a,b] X.env=(false,eval a X.env)::starEach [b] X.env:=by rfl) (hpl:(backTo pos (starEach [b] X.env)).any (·.1)=false:=by rfl) (J:X.K=K:=by rfl) :
    PI X (.Tuple elts x1 tp) (.Call (.Name "zip" p) [a,b] [] pos) (wb K ta):=by
 subst J;intro i s Q H R I h;refine Call_ (dE I N L (show bootBuiltins "zip"=some (.type "zip") by decide +kernel) (PyProof.Rows.callWith_type1 (thn (Z pos i s Q H _ I h) λus f ⟨vs,G,k,v,U⟩=>?_) F hpl));obtain⟨l,u,xs,ys,e,o,z,q⟩:=U;subst e;obtain⟨u1,u2,rfl,v,Y⟩:=fF v;cases v;cases Y;obtain⟨x,rv,A,_⟩:=k.tuple o;obtain⟨O,E,B,_⟩:=k.list z;have D:l<f.heap.objs.size:=by obtain⟨_,e,_⟩:=A;exact wz e
 have S:u<f.heap.objs.size:=by obtain⟨_,e,_⟩:=B.isList;exact wz e
 refine pj (show f.heap.IsTuple l x.toArray from A) B.isList λg M n r m y V=>?_;have T:=nu (P:=X.prog) (w:=X.w) (K:=X.K) (elts:=elts) (x1:=x1) (tp:=tp) l u _ _ _ _ _ (zipApart_new D S);have C:(∃f0 f1,F0 f0/\Zp g (f.heap.objs.size+4) (f.heap.objs.size+2) (f.heap.objs.size+3) f0 f1)/\IsPair g (f.heap.objs.size+2) (.ref f.heap.objs.size) (.ref (f.heap.objs.size+1))/\(∃c d,IsPair g (f.heap.objs.size+3) c d)/\g.IsTupleIter f.heap.objs.size l 0/\g.IsListIter (f.heap.objs.size+1) u 0:=⟨⟨_,_,.inl rfl,M⟩,n,⟨_,_,r⟩,m,y⟩
 refine T.self X.A 0 { f with heap:=g } _ _ C ?_;refine⟨_,_,_,_,G,rfl,k.kept (t':=f.toks) V,T,C,λb t=>?_,q⟩;have t:b=f.heap.objs.size+4∨b=f.heap.objs.size+2∨b=f.heap.objs.size+3∨b=f.heap.objs.size∨b=f.heap.objs.size+1:=by simpa using t
 have j:f.heap.objs.size<=b:=by rcases t with e | e | e | e | e <;> rw[e] <;> first | exact wr _ | exact Nat.le_add_right _ _
 exact k.fpOk j (k.hok.fresh j)
theorem qj {K:W.Frag}{a b:Addr}{xs ys:LV}{g:TG}{tb:TS}{D:Ends}{σ:St}{H:Hp}(Pv:Nat -> St -> Hp -> Prop) (f:Pv 0 σ H) (j:∀i σ H, i <= (xs.zip ys).length -> Pv i σ H -> SqT K H a xs /\ SqL K H b ys)
    (k:∀i x y p σ H,(xs.zip ys)[i]? = some (x,y)->Pv i σ H->H p=none->g (.ref p) σ (upd H p (.tup [x,y])) λσ2 H2=>tb { D with nx:=Pv (i+1),ct:=Pv (i+1),bk:=D.nx } σ2 H2) (h:∀σ H,Pv (xs.zip ys).length σ H->D.nx σ H) :
    ∃W:Nat->Nat->SH,(∃m,W 0 m σ H)/\∀i m σ H,W i m σ H ->
     ((lj K a b).stop i H/\D.nx σ H)∨((lj K a b).go i H/\∃N:SH,(∀σ' H',N σ' H'->∃z,z<m/\W (i+1) z σ' H')/\∀x H',(lj K a b).yld i H x H'->g x σ H' λσ2 H2=>tb { D with nx:=N,ct:=N,bk:=D.nx } σ2 H2):=by
 refine⟨λi m σ H=>m=(xs.zip ys).length-i/\i<=(xs.zip ys).length/\Pv i σ H,⟨(xs.zip ys).length,by simp,wW _,f⟩,?_⟩;rintro i m σ H ⟨rfl,s,p⟩;obtain⟨c,d⟩:=j i σ H s p;have w:(xs.zip ys).length=min xs.length ys.length:=xx;by_cases o:i<(xs.zip ys).length
 ·have r:i<xs.length:=by omega
  have A:i<ys.length:=by omega
  refine .inr ⟨⟨xs,ys,xs[i],ys[i],c,d,wP r,wP A⟩,Pv (i+1),λσ' H' q=>⟨(xs.zip ys).length-(i+1),by omega,rfl,by omega,q⟩,?_⟩;rintro x H' ⟨q,u,v,l,rfl,t,n,rfl⟩;exact k i u v q σ H (by rw[xy];exact⟨t xs c,n ys d⟩) p l
 ·have e:i=(xs.zip ys).length:=by omega
  refine .inl ⟨⟨xs,ys,c,d,by omega⟩,h σ H (e ▸ p)⟩
end L2
namespace MG
structure Bf (es:List (Nat × Nat)) (s n P t L:Nat) (me par:Nat->Nat) (rw:Nat->List Nat):Prop where
 pos:0<L
 at0:me 0=s
 rw0:rw 0=[s]
 lt:∀i,i<L->me i<n
 inj:∀i j,i<L->j<L->me i=me j->i=j
 low:∀i,0<i->i<L->par i<i
 lep:∀i,0<i->i<L->par i<=P
 arr:∀i,0<i->i<L->(me (par i),me i)∈es
 row:∀i,0<i->i<L->rw i=rw (par i)++[me i]
 mono:∀i j,0<i->i<=j->j<L->par i<=par j
 ord:∀i j,0<i->i<j->j<L->par i=par j->me i<me j
 top:∀i,0<i->i<L->par i=P->me i<t
 old:∀p v,p<L->(me p,v)∈es->(p<P∨(p=P/\v<t))->∃i,i<L/\me i=v/\(i=0∨par i<=p)
variable {es:List (Nat × Nat)}{s n P t L:Nat}{me par:Nat->Nat}{rw:Nat->List Nat}
theorem Bf.skip (b:Bf es s n P t L me par rw) (h:(me P, t) ∉ es ∨ ∃i, i<L /\ me i=t):Bf es s n P (t+1) L me par rw :=
 { b with
  top:=λi c a f=>Nat.lt_succ_of_lt (b.top i c a f)
  old := λp v c a f => by
   by_cases q:p=P/\v=t
   ·obtain⟨rfl,rfl⟩:=q;rcases h with h | ⟨i,d,e⟩
    ·exact absurd a h
    ·refine⟨i,d,e,?_⟩;rcases yf i with z | z
     ·exact .inl z
     ·exact .inr (b.lep i z d)
   ·exact b.old p v c a (by omega) }
theorem Bf.add (b:Bf es s n P t L me par rw) (hP:P<L) (h:(me P, t) ∈ es) (hn:∀i, i<L -> me i ≠ t) (ht:t<n) :
    Bf es s n P (t+1) (L+1) (λi=>if i=L then t else me i) (λi=>if i=L then P else par i) (λi=>if i=L then rw P++[t] else rw i) where
 pos:=by omega
 at0:=by rw[if_neg (by have:=b.pos;omega)];exact b.at0
 rw0:=by rw[if_neg (by have:=b.pos;omega)];exact b.rw0
 lt:=λi hi=>by
  split
  ·exact ht
  ·exact b.lt i (by omega)
 inj := λi j hi hj e => by
  by_cases q:i=L
  ·by_cases q2:j=L
   ·omega
   ·rw[if_pos q,if_neg q2] at e;exact absurd e.symm (hn j (by omega))
  ·by_cases q2:j=L
   ·rw[if_neg q,if_pos q2] at e;exact absurd e (hn i (by omega))
   ·rw[if_neg q,if_neg q2] at e;exact b.inj i j (by omega) (by omega) e
 low:=λi h1 h2=>by
  split
  ·omega
  ·exact b.low i h1 (by omega)
 lep:=λi h1 h2=>by
  split
  ·exact wr _
  ·exact b.lep i h1 (by omega)
 arr:=λi h1 h2=>by
  by_cases q:i=L
  ·subst q;rw[if_pos rfl,if_pos rfl,if_neg (by omega)];exact h
  ·have:=b.low i h1 (by omega);rw[if_neg q,if_neg q,if_neg (by omega)];exact b.arr i h1 (by omega)
 row:=λi h1 h2=>by
  by_cases q:i=L
  ·subst q;rw[if_pos rfl,if_pos rfl,if_pos rfl,if_neg (by omega)]
  ·have:=b.low i h1 (by omega);rw[if_neg q,if_neg q,if_neg q,if_neg (by omega)];exact b.row i h1 (by omega)
 mono:=λi j h1 h2 h3=>by
  by_cases q:j=L
  ·rw[if_pos q]
   split
   ·exact wr _
   ·exact b.lep i h1 (by omega)
  ·rw[if_neg q,if_neg (by omega)];exact b.mono i j h1 h2 (by omega)
 ord:=λi j h1 h2 h3=>by
  by_cases q:j=L
  ·rw[if_pos q,if_pos q,if_neg (by omega),if_neg (by omega)];exact b.top i h1 (by omega)
  ·rw[if_neg q,if_neg q,if_neg (by omega),if_neg (by omega)];exact b.ord i j h1 h2 (by omega)
 top:=λi h1 h2=>by
  by_cases q:i=L
  ·rw[if_pos q,if_pos q];omega
  ·rw[if_neg q,if_neg q];intro e;exact Nat.lt_succ_of_lt (b.top i h1 (by omega) e)
 old := λp v h1 h2 h3 => by
  by_cases q:p=L
  ·omega
  ·rw[if_neg q] at h2;by_cases r:p=P/\v=t
   ·refine⟨L,by omega,by rw[if_pos rfl];exact r.2.symm,.inr ?_⟩;rw[if_pos rfl];omega
   ·obtain⟨i,hi,e,o⟩:=b.old p v (by omega) h2 (by omega);refine⟨i,by omega,?_,?_⟩
    ·rw[if_neg (by omega)];exact e
    ·rw[if_neg (by omega)];exact o
theorem Bf.next (b:Bf es s n P n L me par rw) (d:∀e∈es,e.1<n/\e.2<n):Bf es s n (P+1) 0 L me par rw :=
 { b with
  lep:=λi c a=>Nat.le_succ_of_le (b.lep i c a)
  top:=λi c a f=>by have:=b.lep i c a;omega
  old:=λp v c a f=>b.old p v c a (by have:=(d _ a).2;simp only at this;omega) }
theorem Bf.deep (b:Bf es s n P t L me par rw) (j:Nat):∀i, i <= j -> j<L -> (rw i).length <= (rw j).length := by
 induction j using Nat.strongRecOn with
 | ind j ih =>
  intro i d a;rcases yf j with z | z
  ·have:i=j:=by omega
   rw[this];exact wr _
  ·rw[b.row j z a,wB];have c:=b.low j z a;rcases yf i with y | y
   ·have:=ih (par j) c 0 (wW _) (by omega);rw[y];omega
   ·rw[b.row i y (by omega),wB];have:=ih (par j) c (par i) (b.mono i j y d a) (by omega);simp only[yb];omega
inductive Chn (P:Nat) (me par:Nat->Nat):Nat->Nat->List Nat->Prop
 | done:Chn P me par P 0 []
 | step {j m:Nat} {w:List Nat}:0<j->Chn P me par j m w->Chn P me par (par j) (m+1) (me j::w)
theorem Bf.chn_le (b:Bf es s n P t L me par rw) (a:P<L) (c:Chn P me par j m w):j<=P/\rw P=rw j++w/\w.length=m:=by
 induction c with
 | done=>exact⟨wr _,(xa _).symm,rfl⟩
 | step h c ih =>
  have:=b.low _ h (by omega);refine⟨by omega,?_,by rw[wC,ih.2.2]⟩;rw[ih.2.1,b.row _ h (by omega),xz];rfl
theorem Bf.few (b:Bf es s n P t L me par rw):L<=n:=by
 have d:((List.range L).map me).Nodup:=by
  refine List.pairwise_map.mpr (List.Pairwise.imp_of_mem (λa f l e=>?_) yh);have:=b.inj _ _ (xq.mp a) (xq.mp f) e;omega
 have:=d.length_le_of_subset (l₂:=List.range n) λx a=>by
  obtain⟨i,c,rfl⟩:=ww.mp a;exact xq.mpr (b.lt i (xq.mp c))
 simpa using this
end MG
open PySem
namespace L2
open PySem
def kdO (ks:Kn) (u:Str):LS:=((ks.find? λk=>decide (k.1=u)).map (·.2)).getD []
section
variable {us:LS}{ks:Kn}
def rd (ks:Kn):Nat->Str->LS
 | 0,u=>[u]
 | n+1,u=>u::(kdO ks u).flatMap (rd ks n)
end
end L2
namespace L2
open PySem PySem.Spec PyProof.Rows
section
variable {X:Cx}
def tW (K:W.Frag):V->V->Hp->VK->Prop:=λx y H Q=>∃a b xs,x=.ref a/\y=.ref b/\SqT K H a xs/\H b=some (.tup [])/\Q (.bl (!xs.isEmpty)) H
theorem pN (K:W.Frag) (A:X.A.units+64<cLine) (k:X.K=K := by rfl):OpR X (compareOp .NotEq) (tW K) := by
 subst k;intro g s D H x y v u Q I n j h;obtain⟨a,b,xs,rfl,rfl,t,o,q⟩:=h;cases n;cases j;obtain⟨c,f,w,C⟩:=I.tuple t;obtain⟨m,d,p,_⟩:=I.tuple (a:=b) (xs:=[]) (.of o);cases d;have B:=f.length;refine SeqAt.RcNeAt.tuples (e:=λ_=>true) (show s.heap.IsTuple a c.toArray from w) (show s.heap.IsTuple b (List.toArray []) from p) (by omega) (λi z l=>absurd l (by simp)) X.prog X.w X.xe _ ⟨.bl _,H,I,rfl,?_⟩;have e:(!((List.range (min c.toArray.size (List.toArray ([]:List Value)).size)).all (λ_=>true)&&c.toArray.size==(List.toArray ([]:List Value)).size))=!xs.isEmpty:=by
  cases xs with
  | nil=>cases f;rfl
  | cons x r =>
   cases c with
   | nil=>cases f
   | cons y q=>simp
 rw[e];exact q
end
open _root_.HT PySem.SeqAt PySem.MeetsSeq PySem.MeetsSeq2 PySem.MeetsSeq3
namespace HTW
variable {prog:Program}{w:World}{A:Around}{E:QS}{s:Shared}
theorem getItem_tuple_whole {items:Array Value}{lo hi:Option Int}(b:IsTup s.heap t items) (f:s.heap.IsSliceOf q B z .none) (m:IsPart B lo) (k:IsPart z hi)
    (i:sIx items.size 0 lo=0) (g:sIx items.size items.size hi=items.size)
    (h:Q (.ref t) s):wpAny (model prog w) A (getItem (.ref t) (.ref q)) Q E s:=by
 obtain⟨l,c,d,j⟩:=id f;have e:s.TypeIs (.ref q) "slice":=⟨l,c,d⟩
 unfold getItem
 try with_reducible refine xh ?_
 first | refine wq (wu ?_) | skip
 refine wq (wpAny_sequenceKey b.typeIs (by decide) ?_);refine wq (wpAny_callSpecial?_slot (name:=Str.ofString "__getitem__") b.typeIs PyProof.Rows.slot_tuple_getitem
  (wpAny_call_entry PyProof.Rows.slot_tuple_getitem b.typeIs entry_tuple_getitem ?_ (args_tuple_getitem _ _)))
 show wpAny _ _ (Builtin.Tuple.tupleItemsOf (.ref t) >>= _) _ _ s;refine wq (tupleItemsOf_ b ?_);refine wq (wpAny_typeOf e ?_);rw[if_pos (by decide)];refine wq (fE f m k ?_);have a:(((sIx items.size 0 lo:Nat):Int)==0&&(1:Int)==1&&(sIx items.size items.size hi-sIx items.size 0 lo)==items.size)=true:=by rw[i,g];simp
 show wpAny _ _ (if (((sIx items.size 0 lo:Nat):Int)==0&&(1:Int)==1&&(sIx items.size items.size hi-sIx items.size 0 lo)==items.size)=true then _ else _) _ _ s;rw[if_pos a];unfold Builtin.Tuple.tupleIsExact;refine wq (wq (wpAny_typeOf b.typeIs (wu ?_)));rw[if_pos (by decide)];refine wq (wpAny_rule (wu ⟨_,rfl,wu h⟩))
end HTW
section
variable {X:Cx}
theorem oO {xs:LV}{lo hi:Option Int}(b:HT.sIx xs.length 0 lo=0) (a:HT.sIx xs.length xs.length hi=xs.length):eI xs lo hi=xs:=by
 unfold eI;rw[b,a,List.drop_zero,Nat.sub_zero,wI (wr _)]
def vZ:V->Option Int->Option Int->Hp->VK->Prop:=λx lo hi H Q=>∃a xs,x=.ref a/\H a=some (.tup xs)/\∀p H',Same H H'->H' p=some (.tup (eI xs lo hi))->Q (.ref p) H'
theorem tx:SlR X vZ:=by
 intro e s y H x v w u n k z Q I l i o m h;obtain⟨a,c,rfl,f,q⟩:=h;by_cases d:HT.sIx c.length 0 n=0/\HT.sIx c.length c.length k=c.length
 ·cases l;obtain⟨g,r,j,A⟩:=I.tuple (.of f);have b:g.toArray.size=c.length:=by rw[wT];exact r.length.symm
  refine⟨"tuple",_,PyProof.Rows.slot_tuple_getitem.lookup,j.typeIs,?_⟩;refine HTW.getItem_tuple_whole j i o m (by rw[b];exact d.1) (by rw[b];exact d.2) ?_;exact⟨.ref a,H,I,rfl,q a H (Same.refl H) (by rw[oO d.1 d.2];exact f)⟩
 ·exact ly e s y H _ v w u n k z Q I l i o m ⟨a,c,rfl,.of f,d,λp t=>q p _ (Same.new t) ac⟩
def uA:R2:=λx y H Q=>∃a b xs ys,x=.ref a/\y=.ref b/\H a=some (.tup xs)/\H b=some (.tup ys)/\xs.length+ys.length<=sizeLine/\∀p H',Same H H'->H' p=some (.tup (xs++ys))->Q (.ref p) H'
theorem rm:OpR X (binaryOp .Add) uA:=by
 intro c s n H x y v u Q I l i h;obtain⟨a,b,m,j,rfl,rfl,f,d,k,q⟩:=h;refine lg X.K rfl c s n H _ _ v u Q I l i ⟨a,b,m,j,rfl,rfl,.of f,.of d,k,λe=>q b H (Same.refl H) (by rw[e];exact d),λ_ e=>q a H (Same.refl H) (by rw[e,xa];exact f),λ_ _ p g=>q p _ (Same.new g) ac⟩
end
end L2
namespace L2
open PySem PySem.Spec PyProof.Rows
section
variable {X:Cx}{e e':Expr}{te te':TE}
theorem p1 (a:PE X e te) (b:starEach [e] X.env=(false,eval e X.env)::starEach [] X.env:=by rfl):PA X [e] (cq te gH):=aa a ab b
theorem p2 (b:PE X e te) (c:PE X e' te') (d:starEach [e,e'] X.env=(false,eval e X.env)::starEach [e'] X.env:=by rfl) (a:starEach [e'] X.env=(false,eval e' X.env)::starEach [] X.env:=by rfl):PA X [e,e'] (cq te (cq te' gH)):=aa b (aa c ab a) d
theorem px (K:W.Frag) (c:Room k X.A) (d:PE X e te) (a:PE X e' te') (b:mu e':=by exact λ_ _=>rfl) (f:X.K=K:=by rfl):PE X (.Subscript e e' pos) (tOp (λx y H Q=>IxX K H x y Q) te te'):=ai (ap K c.units f) d a b
theorem pc (c:Cal X.prog X.w X.K X.mg X.base k x ps sp) (d:Room j X.A) (f:PA X (e::es) t) (a:k<=j:=by decide) (g:Gl X x:=by exact rfl)
    (b:starEach (e::es) X.env=(false,eval e X.env)::starEach es X.env:=by rfl) (hpl:(backTo pos (starEach es X.env)).any (·.1)=false:=by rfl) (hdb:(x==("__debug__":Str))=false:=by decide) :
    PE X (.Call (.Name x p) (e::es) [] pos) (oj sp [] E0 t):=au c (d.mono a) g f b hpl hdb
end
end L2
namespace L2
open PySem PySem.W PyProof.Rows
section
variable {lt:Nat->Nat->Bool}{N:Nat}
theorem gd {p:Array Nat}{i:Nat}:p.getD i 0=(p[i]?).getD 0:=by simp
end
end L2
namespace L2
open PySem PySem.Spec PyProof.Rows
section
variable {X:Cx}{elt iter:Expr}{ifs:List Expr}{scope:Scope}{pos px:Pos}{x:Str}{r:LS}{wi:TI}{tc:TT}{te:TE}
theorem cI (a:Scope) (d:LS) (c:List Nat) (x:Str) (r:LS) (h:PI X (.Name x px) iter wi) (m:∀ {B C q z ex},PTs (cxC X scope (x::r) B C q z ex) ifs tc) (he:∀ {B C q z ex},PE (cxC X scope (x::r) B C q z ex) elt te)
    (g:(x::r).Nodup:=by decide) (j:X.calm=true:=by rfl) (f:∀ {B C q z ex},(cxC X scope (x::r) B C q z ex).env.scope.names.lookup x=some .local:=by intros;rfl)
    (k:∀x,foldedSetIterable iter X.env x=pure x:=by intro _;rfl) (b:X.env.scope=a:=by rfl) (e:X.N=d:=by rfl) (l:gE a scope d [x] c (x::r)=true:=by decide +kernel) :
    PE X (.ListComp elt [⟨.Name x px,iter,ifs,0⟩] scope pos) (nt 1 c wi (bp 0) tc te) :=
 gT a d [x] c (x::r) j h (λ_ _ _ _ _=>az (i:=0) g rfl (Or.inl f) (Or.inr f)) (λ_ _ _ _ _=>m) (λ_ _ _ _ _=>he) k b e l
end
section
open Builtin Builtin.Str
end
def knO (o:Obj):HO:=.frz o (.ext λ_=>True)
theorem kh (e:h.get? a=some o):ObjOk P w H h a (knO o):=⟨e,trivial,⟨o,e⟩,λ_ _ _ _=>trivial⟩
theorem gQ (x:HOk P w H h) (e:H a=some (knO o)):h.get? a=some o:=(x a _ e).1
def lessC (H:Hp) (l:AO_):Hp:=λb=>match l.lookup b with
 | some _=>none
 | none=>H b
def moreC (H:Hp) (l:AO_):Hp:=λb=>match l.lookup b with
 | some o=>some (knO o)
 | none=>H b
theorem fW (h:l.lookup b=some o):lessC H l b=none:=by unfold lessC;rw[h]
theorem bj (h:l.lookup b=none):lessC H l b=H b:=by unfold lessC;rw[h]
theorem fc (h:l.lookup b=some o):moreC H l b=some (knO o):=by unfold moreC;rw[h]
theorem bq (h:l.lookup b=none):moreC H l b=H b:=by unfold moreC;rw[h]
def KnC (H:Hp) (l:AO_):Prop:=∀b o,l.lookup b=some o->H b=some (knO o)
def Unk (H:Hp) (l:AO_):Prop:=∀b o,l.lookup b=some o->H b=none
section
variable {P:Program}{w:World}{H H1:Hp}{h h1:Heap}{l:AO_}{fs:List Addr}
theorem KnC.out (k:KnC H l) (e:H b=some u) (n:∀o,u≠knO o):l.lookup b=none:=by
 cases q:l.lookup b with
 | none=>rfl
 | some o=>rw[k b o q] at e;exact absurd (wA e).symm (n o)
theorem Unk.out (k:Unk H l) (e:H b=some u):l.lookup b=none:=by
 cases q:l.lookup b with
 | none=>rfl
 | some o=>rw[k b o q] at e;cases e
theorem KnC.outN (k:KnC H l) (e:H b=none):l.lookup b=none:=by
 cases q:l.lookup b with
 | none=>rfl
 | some o=>rw[k b o q] at e;cases e
theorem HOk.lessC (x:HOk P w H h) (k:KnC H l):HOk P w (lessC H l) h:=λb u e=>by
 cases q:l.lookup b with
 | some o=>rw[fW q] at e;cases e
 | none =>
  rw[bj q] at e;refine(x b u e).stay (λ_ _ _ z=>z) (λc z=>?_) λc a z=>?_
  ·rw[bj (k.out z λo q=>by cases q)];exact z
  ·rw[bj (k.out z λo q=>by cases q)];exact z
theorem HOk.moreC (x:HOk P w H h) (k:Unk H l) (g:∀b o,l.lookup b=some o->h.get? b=some o):HOk P w (moreC H l) h:=λb u e=>by
 cases q:l.lookup b with
 | some o=>rw[fc q] at e;cases e;exact kh (g b o q)
 | none =>
  rw[bq q] at e;refine(x b u e).stay (λ_ _ _ z=>z) (λc z=>?_) λc a z=>?_
  ·rw[bq (k.out z)];exact z
  ·rw[bq (k.out z)];exact z
theorem Un.call (u:Un fs [] (moreC H l) H1 h h1) (k:Unk H l) (g:∀b o,l.lookup b=some o->h.get? b=some o) (x:HOk P w H1 h1):Un fs [] H (lessC H1 l) h h1:=by
 have i:KnC H1 l:=λb o q=>u.frzs b o _ (fc q);have c:∀b o a,l.lookup b=some o->h.get? b=some a->h1.get? b=some a:=λb o a q e=>by rw[g b o q] at e;cases e;exact gQ x (i b o q)
 refine⟨λb o e n f d=>?_,λb o e n f d=>?_,λb o e n d=>?_,u.there,λb j e=>?_,λb o v e=>?_,λb m e=>?_⟩
 ·cases q:l.lookup b with
  | some a=>exact c b a o q e
  | none=>exact u.keep b o e (by rw[bq q];exact n) f d
 ·cases q:l.lookup b with
  | some a=>exact⟨o.slots,c b a o q e⟩
  | none=>exact u.slot b o e (by rw[bq q];exact n) f d
 ·cases q:l.lookup b with
  | some a=>exact fW q
  | none=>rw[bj q];exact u.free b o e (by rw[bq q];exact n) d
 ·have q:=k.out e;rw[bj q];exact u.tups b j (by rw[bq q];exact e)
 ·have q:=k.out e;rw[bj q];exact u.frzs b o v (by rw[bq q];exact e)
 ·have q:=k.out e;rw[bj q];exact u.tbls b m (by rw[bq q];exact e)
theorem Un.lam (u:Un fs [] (lessC H l) H1 h h1) (k:KnC H l):Un fs [] H (moreC H1 l) h h1:=by
 refine⟨λb o e n c a=>?_,λb o e n c a=>?_,λb o e n a=>?_,u.there,λb d e=>?_,λb o v e=>?_,λb f e=>?_⟩
 ·exact u.keep b o e (by rw[bj (k.outN n)];exact n) c a
 ·exact u.slot b o e (by rw[bj (k.outN n)];exact n) c a
 ·rw[bq (k.outN n)];exact u.free b o e (by rw[bj (k.outN n)];exact n) a
 ·have q:=k.out e λo q=>by cases q
  rw[bq q];exact u.tups b d (by rw[bj q];exact e)
 ·cases q:l.lookup b with
  | some o'=>rw[fc q,<- k b o' q];exact e
  | none=>rw[bq q];exact u.frzs b o v (by rw[bj q];exact e)
 ·have q:=k.out e λo q=>by cases q
  rw[bq q];exact u.tbls b f (by rw[bj q];exact e)
end
def nE (CX:CXT) (P:Program) (w:World) (K:W.Frag) (mg:MS) (base:Heap) (N:LS) (qual:Str) (scope:Scope) (g:Addr) (cd:Value) (cl:List (Str × Addr)) (A:Around) (outer:List Env) (s:Shared) (H:Hp) (E':QS):Cx where
 prog:=P
 w:=w
 K:=K
 mg:=mg
 base:=base
 A:=A.deeper (W.envX qual scope s.heap.objs.size g cd cl)
 N:=N
 s₀:=s
 H₀:=H
 env:=W.envX qual scope s.heap.objs.size g cd cl
 outer:=outer
 stack:=W.envX qual scope s.heap.objs.size g cd cl::outer
 ex:=[]
 calm:=true
 fn:=λ_=>false
 pn:=[]
 xe:=E'
structure Clos (scope:Scope) (N:LS) (cl:List (Str × Addr)) (l:AO_) (vs:LV):Prop where
 len:vs.length=N.length
 inj:∀x y c,cl.lookup x=some c->cl.lookup y=some c->x=y
 has:∀x,scope.names.lookup x=some .free->∃c,cl.lookup x=some c
 cel:∀x c,cl.lookup x=some c->∃o v,l.lookup c=some o/\o.data=.cell v
 val:∀(i:Nat) (x:Str) (v:V),N[i]? = some x->vs[i]? = some v->scope.names.lookup x=some .free/\∃c o u,cl.lookup x=some c/\l.lookup c=some o/\o.data=.cell (some u)/\RelV v u
structure LamScope (scope:Scope):Prop where
 kind:scope.kind=.function
 co:scope.isCoroutine=false
 gen:scope.isGenerator=false
 nocell:∀x∈scope.names,x.2≠NameKind.cell
theorem qf (x:HOk P w H h) (l:H q=some (.tbl ps)) (k:∀b o, b ≠ q -> h.get? b=some o -> h2.get? b=some o)
    (C:h2.get? q=some (W.tabObj (ps++B))) (t:h.objs.size<=c') (r:h.objs.size<=g) (K:c'≠g) (D:h2.get? c'=some I) (J:h2.get? g=some G) :
    Un fs [] H (upd (upd (upd H q (.tbl (ps++B))) c' (knO I)) g (knO G)) h h2/\HOk P w (upd (upd (upd H q (.tbl (ps++B))) c' (knO I)) g (knO G)) h2:=by
 have a:∀b,b<h.objs.size->b≠q->upd (upd (upd H q (.tbl (ps++B))) c' (knO I)) g (knO G) b=H b:=λb f E=>by rw[ag (wJ (w8 f r)),ag (wJ (w8 f t)),ag E]
 have s:q<h.objs.size:=x.lt l;have m:upd (upd (upd H q (.tbl (ps++B))) c' (knO I)) g (knO G) q=some (.tbl (ps++B)):=by rw[ag (wJ (w8 s r)),ag (wJ (w8 s t)),ac]
 have p:∀b,H b=none->b≠q:=λb n z=>by rw[z,l] at n;cases n
 have i:∀b u,H b=some u->u≠.tbl ps->b≠q:=λb u e d z=>by rw[z,l] at e;exact d (wA e).symm
 refine⟨⟨λb o e n _ _=>k b o (p b n) e,λb o e n _ _=>⟨o.slots,k b o (p b n) e⟩,λb o e n _=>?_,λb o e _=>?_,λb F e=>?_,λb o u e=>?_,λb L e=>?_⟩,λb u e=>?_⟩
 ·rw[a b (wz e) (p b n)];exact n
 ·by_cases f:b=q
  ·subst f;exact⟨_,C⟩
  ·exact⟨o,k b o f e⟩
 ·rw[a b (x.lt e) (i b _ e (by intro z;cases z))];exact e
 ·rw[a b (x.lt e) (i b _ e (by intro z;cases z))];exact e
 ·by_cases f:b=q
  ·subst f;rw[l] at e;cases e;exact⟨B,m⟩
  ·exact⟨#[],by rw[a b (x.lt e) f,e];simp⟩
 ·by_cases y:b=g
  ·subst y;rw[ac] at e;cases e;exact kh J
  ·rw[ag y] at e;by_cases A:b=c'
   ·subst A;rw[ac] at e;cases e;exact kh D
   ·rw[ag A] at e;by_cases f:b=q
    ·subst f;rw[ac] at e;cases e;exact C
    ·rw[ag f] at e;refine(x b u e).stay (λc v j z=>k c v ?_ z) (λc z=>?_) λc F z=>?_
     ·rcases j with rfl | j
      ·exact f
      ·exact i c _ j (by intro z;cases z)
     ·rw[a c (x.lt z) (i c _ z (by intro z;cases z))];exact z
     ·rw[a c (x.lt z) (i c _ z (by intro z;cases z))];exact z
def nT (qual:Str) (oc:Obj):Prop:=∃ws t,oc.data=.fields ws/\ws[1]? = some (.str qual t)
structure CTab (H:Hp) (Pt:Addr) (ps:Array Value) (pos:Pos) (qual:Str):Prop where
 tri:TriplesOk ps.toList
 at_:H Pt=some (.tbl ps)
 code:codeAmong pos ps.toList=none∨∃c' oc,codeAmong pos ps.toList=some (.ref c')/\H c'=some (knO oc)/\nT qual oc
def tLam (Pt:Addr) (pos:Pos) (qual:Str) (fo:Addr->Value->Obj):TE:=λ_ H Q=>∃ps,CTab H Pt ps pos qual /\
 ∀(H':Hp) (g c':Addr) (oc:Obj) (ctv:Value) (ps':Array Value),H g=none->H' g=some (knO (fo c' ctv))->H' c'=some (knO oc)->nT qual oc->H' Pt=some (.tbl ps')->TriplesOk ps'.toList->codeAmong pos ps'.toList=some (.ref c') ->
  (∀pos2:Pos,(pos2.line≠pos.line∨pos2.col≠pos.col)->codeAmong pos2 ps'.toList=codeAmong pos2 ps.toList)->(∀b u,b≠Pt->H b=some u->H' b=some u)->Q (.ref g) H'
theorem ka (d:(a==(pos2.line:Int)&&b==(pos2.col:Int))=false):∀(l:List Value),TriplesOk l->codeAmong pos2 (l++[rawInt a,rawInt b,c])=codeAmong pos2 l:=by
 intro l
 induction l using TriplesOk.induct with
 | case1 =>
  intro _;show codeAmong pos2 [Value.int a 0,Value.int b 0,c]=_;rw[codeAmong.eq_1,d]
  rfl
 | case2 i t j u head aU ih =>
  intro h;rw[TriplesOk.eq_2] at h;show codeAmong pos2 (Value.int i t::Value.int j u::head::(aU++_))=_;rw[codeAmong.eq_1,codeAmong.eq_1,ih h]
 | case3 l h1 h2 =>
  intro h;rw[TriplesOk.eq_3 l h1 h2] at h;exact h.elim
theorem uS (K:defaultsOf q X.env=([], [])) (r:closureFor scope X.env=pure U) (Z:X.env.code=.ref c)
    (hq:X.env.qual++Str.ofString "<lambda>"=qual) (p:∀h:Heap,X.K.In h->W.CodeHd h c O) (N:X.base.BuiltinsAt X.mg O) :
    PE X (.Lambda q G scope pos) (tLam O pos qual λc' B=>W.kla_obj (Str.ofString "<lambda>") qual q G scope U ((X.mg (Str.ofString "__name__")).getD .none) c' B):=by
 intro S s σ H Q I ⟨ps,T,h⟩;subst hq;have hP:s.heap.get? O=some (W.tabObj ps):=I.hok O _ T.at_;have v:s.heap.Ns mainGlobals X.mg:=I.mod.glob.keeps I.bk;have w:s.heap.BuiltinsAt X.mg O:=by
  obtain⟨Y,o,a1,a2,a3,a4,a5,a6⟩:=N;exact⟨Y,o,a1,a2,a3,a4,I.bk Y o a5,a6⟩
 refine W.kla_eval K ?_;rcases T.code with n | ⟨c',L,n,R,hn⟩
 ·have nm:mainGlobals ≠ O := λz => by
     obtain⟨o,es,ep,e,d,_⟩:=I.mod.glob;have:=(I.bs _ _ e).2;rw[z,T.at_] at this;cases this
  refine W.kla_makeFunction r I.ok.glob v Z (p _ I.kIn) hP T.tri n nm w λc' B h' C E f l m A=>?_;obtain⟨c2,L,ws,t,D,M,F,hw⟩:=m;have D:c'=c2:=by injection D
  subst D;have k:s.heap.objs.size<=h'.objs.size:=wM f (xA l);obtain⟨un,ok⟩:=qf (fs:=X.fs) (h2:=h'.push (W.kla_obj (Str.ofString "<lambda>") (X.env.qual++Str.ofString "<lambda>") q G scope U ((X.mg (Str.ofString "__name__")).getD .none) c' B)) (c':=c') (g:=h'.objs.size) I.hok T.at_ (λb o x e=>wD _ (E b o x e))
   (wD _ A) f k (wJ l) (wD _ M) (wQ _ rfl)
  have P:O<s.heap.objs.size:=I.hok.lt T.at_;refine⟨.ref h'.objs.size,_,I.un (t':=C) un ok,rfl,?_⟩;refine h _ h'.objs.size c' L B _ (I.hok.fresh k) ac (by rw[ag (wJ l),ac]) ⟨ws,t,F,hw⟩
   (by rw[ag (wJ (w8 P k)),ag (wJ (w8 P f)),ac]) ?_ ?_ (λi j=>?_) λb u x e=>?_
  ·rw[x8];exact TriplesOk_snoc _ _ _ _ T.tri
  ·rw[x8];exact codeAmong_snoc _ T.tri n
  ·rw[x8];refine ka ?_ _ T.tri;rcases j with j | j
   ·have:((pos.line:Int)==(i.line:Int))=false:=by simp only[beq_eq_false_iff_ne,ne_eq];omega
    rw[this];rfl
   ·have:((pos.col:Int)==(i.col:Int))=false:=by simp only[beq_eq_false_iff_ne,ne_eq];omega
    rw[this,Bool.and_false]
  ·have V:=I.hok.lt e;rw[ag (wJ (w8 V k)),ag (wJ (w8 V f)),ag x];exact e
 ·refine W.kla_makeFunctionHit r I.ok.glob v Z (p _ I.kIn) hP T.tri n w λB h' C E k=>?_;have J:=I.laid (a:=h'.objs.size) (t':=C) (o:=knO (W.kla_obj (Str.ofString "<lambda>") (X.env.qual++Str.ofString "<lambda>") q G scope U ((X.mg (Str.ofString "__name__")).getD .none) c' B)) (h':=h'.push (W.kla_obj (Str.ofString "<lambda>") (X.env.qual++Str.ofString "<lambda>") q G scope U ((X.mg (Str.ofString "__name__")).getD .none) c' B)) (λb o e=>wD _ (E b o e)) k (kh (wQ _ rfl));refine⟨.ref h'.objs.size,_,J,rfl,?_⟩;have y:=I.hok.fresh k;exact h _ h'.objs.size c' L B ps y ac (by rw[ag (av R y)];exact R) hn (by rw[ag (av T.at_ y)];exact T.at_) T.tri n (λ_ _=>rfl) λb u x e=>by rw[ag (av e y)];exact e
def cB (sc:Scope) (env:Env):List (Str × Addr):=Classical.epsilon λcl=>closureFor sc env=pure cl/\(∀x c,cl.lookup x=some c->env.cells.lookup x=some c)/\∀y∈sc.names,y.2=NameKind.free->∃c,cl.lookup y.1=some c
theorem lY (a:∀y∈sc.names,y.2=NameKind.free->∃c,env.cells.lookup y.1=some c) :
    closureFor sc env=pure (cB sc env)/\(∀x c,(cB sc env).lookup x=some c->env.cells.lookup x=some c)/\∀y∈sc.names,y.2=NameKind.free->∃c,(cB sc env).lookup y.1=some c:=Classical.epsilon_spec (jr a)
def bN (cl:List (Str × Addr)) (h:Heap):AO_:=cl.filterMap λp=>match cl.lookup p.1 with
 | none=>none
 | some c=>match h.get? c with
  | none=>none
  | some o=>some (c,o)
theorem hU (m:(b,o)∈bN z h):h.get? b=some o/\∃x,z.lookup x=some b:=by
 obtain⟨⟨x,a⟩,_,e⟩:=xM.mp m;cases q:z.lookup x with
 | none=>simp only[q] at e;cases e
 | some c =>
  simp only[q] at e;cases r:h.get? c with
  | none=>simp only[r] at e;cases e
  | some u=>simp only[r] at e;cases e;exact⟨r,x,q⟩
theorem rg:∀ {l:AO_}{b:Addr}{o:Obj}, l.lookup b=some o -> (b, o) ∈ l
 | [],_,_,h=>by cases h
 | (c,u)::r,b,o,h=>by
  rw[xo] at h
  split at h
  ·rename_i q
   rw[LawfulBEq.eq_of_beq q,wA h];exact xI
  ·exact wY _ (rg h)
theorem hV (m:(bN q h).lookup b=some o):h.get? b=some o/\∃x,q.lookup x=some b:=hU (rg m)
theorem nY {l:AO_}{h:Heap}(a:∀b o, (b, o) ∈ l -> h.get? b=some o) {c:Addr}{o:Obj}(m:(c, o) ∈ l):l.lookup c=some o := by
 have d:(l.lookup c).isSome=true := by
  clear a
  induction l with
  | nil=>cases m
  | cons p r ih =>
   obtain⟨b,u⟩:=p;rw[xo]
   split
   ·rfl
   ·rename_i q
    rcases wH.mp m with z | z
    ·cases z;simp at q
    ·exact ih z
 obtain⟨f,e⟩:=xN.mp d;have z:=a _ _ (rg e);rw[a _ _ m] at z;cases z;exact e
theorem iQ {q:List (Str × Addr)}{h:Heap}{x:Str}{c:Addr}{o:Obj}(e:q.lookup x=some c) (g:h.get? c=some o):(bN q h).lookup c=some o:=by
 refine nY (λb u m=>(hU m).1) ?_;refine xM.mpr ⟨(x,c),PySem.mem_of_lookup e,?_⟩;simp only[e,g]
theorem oP {P:Program}{w:World}{K:W.Frag}{mg mb:Str -> OV}{CX:CXT}{k:Nat}{fa a G c:Addr}{fd:FuncData}{x:Str}{sp:Sp}{B:Shared}{vs:List Value}{ns:List Int}
    (KX:K.In B.heap) (y:B.heap.Ns mainGlobals mg) (f:B.heap.Ns builtinsNs mb) (Y:∀x:Str,x≠"__name__"->mb x=bootBuiltins x) (Q:B.heap.NoLimit) (hg:B.gens=#[])
    (a0:∃U I,mg (Str.ofString "__builtins__")=some (.ref U)/\U≠builtinsNs/\B.heap.get? U=some I/\I.cls=.type "module"/\I.dict=some builtinsNs/\I.data=.plain)
    (J:B.heap.get? G=some (W.tabObj #[])) (a1:K.lookup G=none) (hC:W.CodeHd B.heap c G)
    (C:B.heap.get? a=some { cls:=.type "list",data:=.seq vs.toArray }) (hi:IntsAre vs ns) (hl:ns.length<=sizeLine) (hr:Room k callerA)
    (F:∀base:Heap,K.In base->base.Ns mainGlobals mg->base.BuiltinsAt mg G->FnOk P w K mg base CX k fa fd [x] sp) (t:∀(s:Shared) (u:Value),BindsTo s fd ⟨[u],[]⟩ [(x,u)])
    (a4:∀H:Hp,H G=some (.tbl #[])->SqL K H a (ns.map V.int)->sp [.ref a] H (λv _=>v=.bl true) λ_ _ _=>False)
    (a2:∀H e s',CX [] H B (λ_ _ _=>False) e s'->False) :
    codeAny (model P w) callerA (.call (.ref fa) ⟨[.ref a],[]⟩) (λr s'=>r=.ok (.ret (.bool true))/\OldK B.heap s'.heap/\s'.os=B.os/\AllBare s'.gens) B:=by
 have rv:=jz hi;have R:=hi.length;have aP:a≠G:=λz=>by
  rw[z,J] at C;have:=congrArg Obj.cls (wA C);cases this
 have l:∀H:Hp, H G=some (.tbl #[]) -> (∀b, b ≠ G -> H b=none ∨ ∃o X, H b=some (.frz o (.lst X))) -> SqL K H a (ns.map V.int) -> HOk P w H B.heap -> (∀b, H b ≠ none -> b=a ∨ b=G) -> (H a ≠ none -> K.lookup a=none) ->
     codeAny (model P w) callerA (.call (.ref fa) ⟨[.ref a],[]⟩) (λr s'=>r=.ok (.ret (.bool true))/\OldK B.heap s'.heap/\s'.os=B.os/\AllBare s'.gens) B:=by
  intro H hT hO hS S hA hK;have g:∀ {b:Addr} {o:Obj},B.heap.get? b=some o->H b=none->(fO B.heap H).get? b=some o:=λe n=>rG e n;have L:∀ {b:Addr} {o:Obj}, B.heap.get? b=some o -> (∀X n, o.data ≠ .seq X n) -> (∀fs, o.data ≠ .fields fs) -> H b=none := λ{b o} e d1 d2 => by
   cases q:H b with
   | none=>rfl
   | some u =>
    rcases hA b (by rw[q];simp) with A | A
    ·subst A;rw[C] at e;cases e;exact absurd rfl (d1 _ _)
    ·subst A;rw[J] at e;cases e;exact absurd rfl (d2 _)
  have i:∀ {b:Addr} {m:MS},B.heap.Ns b m->(fO B.heap H).Ns b m:=λ{b m} ⟨o,es,ep,e,d,r⟩=>⟨o,es,ep,g e (L e (λ_ _ z=>by rw[d] at z;cases z) λ_ z=>by rw[d] at z;cases z),d,r⟩
  have O:K.In (fO B.heap H) := λb o e => g (KX b o e) (by
   cases q:H b with
   | none=>rfl
   | some u =>
    rcases hA b (by rw[q];simp) with A | A
    ·subst A;rw[hK (by rw[q];simp)] at e;cases e
    ·subst A;rw[a1] at e;cases e)
  have hM:Mod K mg (fO B.heap H):=⟨O,i y,⟨mb,i f,Y⟩,let ⟨mc,h1,h2⟩:=Q;⟨mc,i h1,h2⟩⟩
  have Z:(fO B.heap H).BuiltinsAt mg G:=by
   obtain⟨U,I,b1,b2,E,b4,b5,T⟩:=a0;refine⟨U,I,b1,b2,λz=>?_,λz=>?_,g E (L E (λ_ _ z=>by rw[T] at z;cases z) λ_ z=>by rw[T] at z;cases z),b4,b5,T⟩
   ·obtain⟨o,es,ep,e,d,_⟩:=y;rw[<- z,E] at e;cases e;rw[T] at d;cases d
   ·rw[z,J] at E;cases E;cases b4
  have e0:Env0 P w K mg (fO B.heap H) callerA [] B H:=⟨rfl,hM,λb o e=>sg e,Nat.le_of_eq (oZ _ _),trivial,λb f=>absurd (show b∈([]:List Addr) from f) (by simp),S,.of_eq hg⟩
  refine codeAny_mono ((F _ O (i y) Z).run callerA [] B H ⟨[.ref a],[]⟩ [.ref a] [.ref a] _ _ hr e0 (t B (.ref a)) (.cons rfl .nil) (a4 H hT hS)) λr s' h=>?_;cases r with
  | error e=>exact(a2 H e s' h).elim
  | ok fl =>
   cases fl with
   | next=>exact False.elim h
   | brk=>exact False.elim h
   | cont=>exact False.elim h
   | ret u =>
    obtain⟨v,H',os,D,un,p,r',q⟩:=h;have q':v=.bl true:=q;subst q';obtain rfl:u=Value.bool true:=r';obtain⟨mo,a3⟩:=un.tbls G _ hT;have eT:s'.heap.get? G=some { cls:=.none,data:=.fields (#[]++mo) }:=p G _ a3;have j:∀b o, b ≠ G -> B.heap.get? b=some o -> s'.heap.get? b=some o := λb o M e => by
     cases q:H b with
     | none=>exact un.keep b o e q (by intro z;exact absurd (show b∈([]:List Addr) from z) (by simp)) (by simp)
     | some u =>
      rcases hO b M with z | ⟨I,X,z⟩
      ·rw[q] at z;cases z
      ·have z2:=un.frzs b I _ z;obtain⟨e1,_⟩:=S b _ z;obtain⟨e2,_⟩:=p b _ z2;rw[e] at e1;cases e1;exact e2
    refine⟨rfl,⟨λb o e=>?_,λb o e=>?_⟩,os,D⟩
    ·by_cases f:b=G
     ·subst f;rw[J] at e;cases e;refine .inr (.inl ⟨?_,rfl,#[],mo,rfl,eT⟩);obtain⟨o,ws,_,_,_,_,_,_,_,c1,c2,c3,c4,_⟩:=hC;exact⟨c,o,ws,c1,c2,c3,c4⟩
     ·exact .inl (j b o f e)
    ·by_cases f:b=G
     ·subst f;exact⟨_,eT⟩
     ·exact⟨o,j b o f e⟩
 have N:∀(H:Hp),ObjOk P w H B.heap G (.tbl #[]):=λH=>J;cases hk:K.lookup a with
 | some o =>
  have e:=KX a o hk;rw[C] at e;cases e;refine l (upd (λ_=>none) G (.tbl #[])) ac (λb M=>.inl (ag M)) (.inr ⟨_,vs.toArray,_,hk,rfl,rfl,rfl,by rw[wT,R];exact hl,by simpa using rv⟩) (λb u z=>?_) (λb z=>?_) λz=>absurd (ag aP) z
  ·by_cases f:b=G
   ·subst f;rw[ac] at z;cases z;exact N _
   ·rw[ag f] at z;cases z
  ·by_cases f:b=G
   ·exact .inr f
   ·exact absurd (ag f) z
 | none =>
  refine l (upd (upd (λ_=>none) a (.frz { cls:=.type "list",data:=.seq vs.toArray } (.lst (ns.map V.int)))) G (.tbl #[])) ac (λb M=>?_) (.inl (.inr ⟨{ cls:=.type "list",data:=.seq vs.toArray },by rw[ag aP,ac]⟩)) (λb u z=>?_) (λb z=>?_) λ_=>hk
  ·rw[ag M];by_cases f:b=a
   ·subst f;exact .inr ⟨_,_,ac⟩
   ·exact .inl (ag f)
  ·by_cases f:b=G
   ·subst f;rw[ac] at z;cases z;exact N _
   ·rw[ag f] at z;by_cases f:b=a
    ·subst f;rw[ac] at z;cases z;exact⟨C,by rw[wt];exact hl,vs,_,rv,C⟩
    ·rw[ag f] at z;cases z
  ·by_cases f:b=G
   ·exact .inr f
   ·by_cases hc:b=a
    ·exact .inl hc
    ·exact absurd (by rw[ag f,ag hc]) z
theorem Fun.okC {P:Program}{w:World}{K:W.Frag}{mg:Str -> OV}{base:Heap}{x qual:Str}{st:Stmt}{f:Addr}{fd:FuncData}{N ps:LS}{k:Nat}{sp:Sp}{G:Value}(F:Fun K x qual st f fd) (e:fd.code=G) (S:FnScope N ps (aj st)) (c:∀B H Q E, sp B H Q E -> B.length=ps.length)
    (a:∀(A:Around) (z:List Env) (s:Shared) (H:Hp) (B:LV) (Q:VK) (E:XK),Room k (A.deeper (envOfC qual (aj st) s.heap.objs.size f G))->sp B H Q E ->
     ∃t,PSs (ie CX0 P w K mg base N qual (aj st) f G A z s H E).nox (bY st) t/\t { nx:=λ_ H'=>Q .non H',rt:=Q } (start N B) H):FnOk P w K mg base CX0 (k+1) f fd ps sp:=by
 obtain⟨r,u,kV,i,n,p,d,o,m,rfl,l,b⟩:=F.ex;have e:d=G:=e;subst e;refine rQ l b S c λA z s H B Q E j g=>?_;obtain⟨t,h,q⟩:=a A z s H B Q E j g;exact⟨t,h.nox,q⟩
theorem qG (k:KnC H l) (s:Same (lessC H l) H2):Same H (moreC H2 l):=λb u e=>by
 cases q:l.lookup b with
 | some o=>rw[fc q,<- k b o q];exact e
 | none=>rw[bq q];exact s b u (by rw[bj q];exact e)
theorem fe (k:Unk H l) (e:H b=some u):moreC H l b=some u:=by rw[bq (k.out e)];exact e
theorem sE:KnC (moreC H l) l:=λ_ _ q=>fc q
def cor (H:Hp):Hp:=λb=>match H b with
 | some (.lst xs)=>some (.lst xs)
 | some (.tup xs)=>some (.tup xs)
 | _=>none
theorem sf (e:H b=some (.lst xs)):cor H b=some (.lst xs):=by unfold cor;rw[e]
theorem tT (e:H b=some (.tup xs)):cor H b=some (.tup xs):=by unfold cor;rw[e]
theorem pH (e:cor H b=some u):H b=some u/\((∃xs,u=.lst xs)∨∃xs,u=.tup xs):=by
 unfold cor at e
 split at e
 ·rename_i xs q;cases e;exact⟨q,.inl ⟨xs,rfl⟩⟩
 ·rename_i xs q;cases e;exact⟨q,.inr ⟨xs,rfl⟩⟩
 ·cases e
mutual
theorem Rep.cor:∀ {v:V}{d:PyData},Rep H v d->Rep (cor H) v d
 | _,_,.non=>.non
 | _,_,.bl b=>.bl b
 | _,_,.int i=>.int i
 | _,_,.str x=>.str x
 | _,_,.lst e rs=>.lst (sf e) rs.cor
 | _,_,.tup e rs=>.tup (tT e) rs.cor
theorem RepAll.cor:∀ {vs:LV}{ds:List PyData},RepAll H vs ds->RepAll (cor H) vs ds
 | _,_,.nil=>.nil
 | _,_,.cons q qs=>.cons q.cor qs.cor
end
theorem td (t:H q=some (.tbl ps)) (s:∀b u,b≠q->H b=some u->H' b=some u):Same (cor H) H':=λb u e=>by
 obtain⟨e,w⟩:=pH e;refine s b u (λz=>?_) e;rw[z,t] at e;cases e;rcases w with⟨a,z⟩ | ⟨a,z⟩
 ·cases z
 ·cases z
theorem CTab.same (h:CTab H q ps pos qual) (s:Same H H'):CTab H' q ps pos qual :=
 ⟨h.tri,s _ _ h.at_,h.code.imp id λ⟨c,b,a,e,d⟩=>⟨c,b,a,s _ _ e,d⟩⟩
theorem CTab.made (c:H' B=some (.tbl q)) (h2:TriplesOk q.toList) (d:codeAmong pos q.toList=some (.ref c')) (b:H' c'=some (knO z)) (a:nT qual z):CTab H' B q pos qual :=
 ⟨h2,c,.inr ⟨c',z,d,b,a⟩⟩
section
variable {X:Cx}{σ:St}{H:Hp}
theorem Inv.repin (I:Inv X pins σ H s) (f:FpOk X pins H S) (e:s.heap.get? S=some o) (d:∀v,o.data≠.cell v):Inv X (pins++[(S,o)]) σ H s :=
 I.pins_of λp a=>(wR.mp a).elim (λz=>I.pin p (wS _ z)) λz=>by
  rw[wO.mp z];exact⟨e,f.1,f.2.1,f.2.2.1,d⟩
theorem iY (f:FpOk X pins H b) (n:S≠b):FpOk X (pins++[(S,o)]) H b:=by
 obtain⟨h,d,g,i,e,c⟩:=f;refine⟨h,d,g,i,e,λp a=>?_⟩;rcases wR.mp a with a | a
 ·exact c p (xJ _ a)
 ·rcases wR.mp a with a | a
  ·exact c p (wS _ a)
  ·rw[wO.mp a];exact n
end
end L2
namespace L2
open PySem PySem.Spec PyProof.Rows
abbrev Sp1:=V->Hp->VK->XK->Prop
structure LamOk1 (P:Program) (w:World) (K:W.Frag) (mg:MS) (base:Heap) (CX:CXT) (k:Nat) (g:Addr) (sp:Sp1):Prop where
 run:∀(A:Around) (outer:List Env) (s:Shared) (H:Hp) (v:V) (u:Value) (Q:VK) (E:XK),Room k A->Env0 P w K mg base A outer s H->RelV v u->sp v H Q E ->
  codeAny (model P w) A (.call (.ref g) ⟨[u],[]⟩) (CR CX outer P w H s Q E) s
theorem rc {CX:CXT}{P:Program}{w:World}{K:W.Frag}{mg:Str -> OV}{base:Heap}{N:LS}{qual:Str}{scope:Scope}{g:Addr}{cd:Value}{J:List (Str × Addr)}{A:Around}{q:List Env}{s s1:Shared}{H:Hp}{E':Value -> Shared -> Prop}{l:AO_}{G:LV}{m:Str -> OV}{x:Str}{v:V}{u:Value}
    (S:LamScope scope) (C:Clos scope N J l G) (k:KnC H l) (Q:A.handled=none) (f:Env0 P w K mg base A q s H)
    (U:s1.heap.Ns s.heap.objs.size m) (M:∀b o,s.heap.get? b=some o->s1.heap.get? b=some o) (O:s1.os=s.os) (Z:s1.gens=s.gens) (Y:scope.names.lookup x=some .local) (X:m x=some u) (r:RelV v u) :
    Inv (nE CX P w K mg base (x::N) qual scope g cd J A q s (lessC H l) E') [] (some v::G.map some) (lessC H l) s1:=by
 have D:∀b:Addr,b∉(nE CX P w K mg base (x::N) qual scope g cd J A q s (lessC H l) E').ex:=λb z=>absurd (show b∈([]:List Addr) from z) (by simp);have d:∀b,H b=none->lessC H l b=none:=λb z=>by rw[bj (k.outN z)];exact z
 have j:∀c o,l.lookup c=some o->s1.heap.get? c=some o:=λc o z=>M c o (gQ f.hok (k c o z));refine⟨⟨f.mod,S.kind,rfl,rfl,wr _,C.inj,λy t=>?_,λy c h=>(by cases h),λ_=>Q,Around.frames_deeper f.frames,.inr ⟨rfl,rfl⟩,λb z=>absurd z (D b),λb o e=>⟨(f.bs b o e).1,d b (f.bs b o e).2⟩,f.bsz,λb _ _=>D b,λb z=>absurd z (D b),f.funs,λb hb=>d b (f.frf b hb)⟩,
  O,by rw[Z];exact f.bare,Un.kept M,⟨m,U,λi y I F n h3=>?_⟩,λy c h=>?_,?_,λy c h=>?_,λp R=>absurd (show p∈([]:AO_) from R) (by simp),(f.hok.lessC k).kept M,?_⟩
 ·have t:scope.names.lookup y=some .cell∨scope.names.lookup y=some .free:=t;rcases t with t | t
  ·exact absurd rfl (S.nocell _ (PySem.mem_of_lookup t))
  ·exact C.has y t
 ·cases i with
  | zero =>
   have e1:x=y:=wA F;have T:v=I:=wA (wA n);subst e1 T;exact⟨u,r,.inl ⟨Y,X⟩⟩
  | succ i =>
   have F:N[i]? = some y:=F;have n:(G.map some)[i]? = some (some I):=n;have L:G[i]? = some I:=by
    rw[wN] at n;cases e:G[i]? with
    | none=>rw[e] at n;cases n
    | some a=>rw[e] at n;cases n;rfl
   obtain⟨kf,c,o,u,hc,E,B,r⟩:=C.val i y I F L;exact⟨u,r,.inr ⟨.inr kf,c,hc,o,j c o E,B⟩⟩
 ·obtain⟨o,v,E,B⟩:=C.cel y c h;exact⟨v,o,j c o E,B⟩
 ·exact d _ (f.hok.fresh (wr _))
 ·obtain⟨o,v,E,_⟩:=C.cel y c h;exact fW E
 ·show (G.map some).length+1=N.length+1;rw[wt,C.len]
theorem tX {CX:CXT}{P:Program}{w:World}{K:W.Frag}{mg:Str -> OV}{base:Heap}{k:Nat}{g c':Addr}{name qual x:Str}{O:Arguments}{U:Expr}{scope:Scope}{Y:List (Str × Addr)}{pm a0:Value}{oc:Obj}{N:LS}{l:AO_}{vs:LV}{sp:Sp1}
    (S:LamScope scope) (C:Clos scope N Y l vs) (D:∃ws t,oc.data=.fields ws/\ws[1]? = some (.str qual t)) (F:scope.names.lookup x=some .local)
    (r:∀u,bindArgs (W.kla_fn name qual O U scope Y pm (.ref c') a0) ⟨[u],[]⟩=pure [(x,u)])
    (hH:∀v H Q E,sp v H Q E->H g=some (knO (W.kla_obj name qual O U scope Y pm c' a0))/\H c'=some (knO oc)/\KnC H l)
    (f:∀(A:Around) (B:List Env) (s:Shared) (H:Hp) (E:XK) (e:Value) (s':Shared),CX B (lessC H l) s E e s'->CX B H s E e s')
    (c:∀(A:Around) (B:List Env) (s:Shared) (v:V) (H:Hp) (Q:VK) (E:XK),Room k (A.deeper (W.envX qual scope s.heap.objs.size g (.ref c') Y))->sp v H Q E ->
     ∃t,PE (nE CX P w K mg base (x::N) qual scope g (.ref c') Y A B s (lessC H l) (λe s'=>wpAny (model P w) (A.deeper (W.envX qual scope s.heap.objs.size g (.ref c') Y)) (leaving (W.envX qual scope s.heap.objs.size g (.ref c') Y) e) (λ_ G=>CX B (lessC H l) s E e G) (λe' G=>CX B (lessC H l) s E e' G) s')) U t /\
      t (some v::vs.map some) (lessC H l) λv H'=>Unk H' l->Q v (moreC H' l)) :
    LamOk1 P w K mg base CX (k+1) g sp:=by
 refine⟨λA B s H v u Q E m a ru i=>?_⟩;obtain⟨hg,hc,d⟩:=hH v H Q E i;have n:s.heap.NoLimit:=a.mod.nolimit.keeps λb o e=>(a.bs b o e).1;obtain⟨ws,t0,w1,X⟩:=D;refine W.kla_callFunE m.depth (gQ a.hok hg) rfl S.co S.gen rfl ⟨c',oc,ws,t0,rfl,gQ a.hok hc,w1,X⟩ ?_;rw[r u];refine wu (wpAny_newFunctionEnv S.nocell (λy z=>by rw[wO.mp z];exact F) (λL ns R=>?_) S.kind);have M:∀b o,s.heap.get? b=some o->L.get? b=some o:=λb o e=>by rw[R.2 b (wJ (wz e))];exact wD _ e
 refine⟨n.keeps M,W.kla_codeExpr ?_⟩;obtain⟨t,T,hq⟩:=c A B s v H Q E (m.deeper _) i;have Z:(λy=>([(x,u)]:List (Str × Value)).reverse.lookup y) x=some u:=by simp
 have I:=rc (CX:=CX) (N:=N) (qual:=qual) (g:=g) (cd:=.ref c') (s1:={ s with heap:=L,toks:=s.toks+[(x,u)].length }) (E':=λe s'=>wpAny (model P w) (A.deeper (W.envX qual scope s.heap.objs.size g (.ref c') Y)) (leaving (W.envX qual scope s.heap.objs.size g (.ref c') Y) e) (λ_ G=>CX B (lessC H l) s E e G) (λe' G=>CX B (lessC H l) s E e' G) s') S C d m.hd a ns M rfl rfl F Z ru;refine xl (T [] _ _ _ _ I hq) (λu s' j=>?_) λe s' j=>?_
 ·obtain⟨v,H',J,rv,q⟩:=j;have p:=J.base;have h:Unk H' l:=λb o z=>p.free b o (gQ a.hok (d b o z)) (fW z) (λq=>absurd (show b∈([]:List Addr) from q) (by simp));refine⟨v,moreC H' l,J.os,J.bare,Un.lam p d,?_,rv,q h⟩;refine J.hok.moreC h λb o z=>?_;refine p.keep b o (gQ a.hok (d b o z)) (fW z) (λr=>?_) (λq=>absurd (show b∈([]:List Addr) from q) (by simp));have:=a.frf b r;rw[d b o z] at this;cases this
 ·refine xl j (λ_ G z=>f A B s H E e G z) λe' G z=>f A B s H E e' G z
theorem hI {M:Model}{id:String}{first:List Value}{args:List (Bool × Sem Value)}{kws:List (Option Str × Sem Value)}(b:(args.any (·.1)||kws.any (·.1.isNone))=false)
    (h:wpAny M A (evalArgs (.builtin id) true args kws) (λa q=>wpAny M A (call (.builtin id) (first++a.pos) a.kw) Q E q) E s):wpAny M A (callWith pos (.builtin id) first args kws) Q E s:=by
 unfold callWith;refine wq (xh (xl h (λa q c=>wq (wpAny_standAt ?_)) λ_ _ x=>x));simp only[b];refine wq (wu ?_);exact wq (xl c (λr d e=>wq (xh (wpAny_point (wu e)))) λ_ _ x=>x)
end L2
namespace HT
theorem lex_irr:∀a:List Int,lexLt a a=false
 | []=>rfl
 | x::a=>by rw[lexLt_cons,if_pos rfl];exact lex_irr a
theorem lex_asym:∀ {a b:List Int}, lexLt a b=true -> lexLt b a=false
 | [],[],h=>by cases h
 | [],_::_,_=>rfl
 | _::_,[],h=>by cases h
 | x::a,y::b,h=>by
  rw[lexLt_cons] at h ⊢;by_cases e:x=y
  ·subst e;rw[if_pos rfl] at h ⊢;exact lex_asym h
  ·rw[if_neg e] at h;rw[if_neg (Ne.symm e)];have:=wK h;exact wX (by omega)
theorem lex_step:∀ {a b c:List Int}, lexLt a b=true -> lexLt c b=false -> lexLt a c=true
 | [],_,[],h,g=>by
  rename_i b
  cases b with
  | nil=>cases h
  | cons y b=>cases g
 | [],_,_::_,_,_=>rfl
 | x::a,[],_,h,_=>by cases h
 | x::a,y::b,[],_,g=>by cases g
 | x :: a, y :: b, z :: c, h, g => by
  rw[lexLt_cons] at h g ⊢;by_cases e:x=y
  ·subst e;rw[if_pos rfl] at h;by_cases e2:z=x
   ·subst e2;rw[if_pos rfl] at g ⊢;exact lex_step h g
   ·rw[if_neg e2] at g;rw[if_neg (Ne.symm e2)];have:=of_decide_eq_false g;exact wF (by omega)
  ·rw[if_neg e] at h;have h:=wK h;by_cases e2:z=y
   ·subst e2;rw[if_neg e];exact wF h
   ·rw[if_neg e2] at g;have:=of_decide_eq_false g;rw[if_neg (by omega)];exact wF (by omega)
end HT
namespace L2
open PySem PySem.Spec PyProof.Rows
section
variable {X:Cx}{σ:St}{H0:Hp}
def nZ (X:Cx) (σ:St) (H0:Hp) (xs:LV) (ks:Nat->List Int) (q:Addr):Prop:=∀(i:Nat) (x:V) (u:Value) (pl:AO_) (s:Shared) (H:Hp),Same H0 H->xs[i]? = some x->RelV x u->Inv X pl σ H s ->
 wpAny (model X.prog X.w) X.A.in1 (call (.ref q) [u]) (λu' s'=>∃kt H',u'=.ref kt/\H' kt=some (.tup ((ks i).map V.int))/\Same H H'/\Inv X pl σ H' s') (λ_ _=>False) s
theorem FpOk.of_pin (f:FpOk X pins H b) (I:Inv X q σ H' s) (h:∃o,(b,o)∈q):FpOk X pins H' b :=
 let ⟨o,a⟩:=h
 ⟨(I.pin (b,o) (wS _ a)).2.1,f.2⟩
def Bst (ks:Nat->List Int) (n i:Nat):Prop:=∀j,j<n->HT.lexLt (ks j) (ks i)=false/\(j<i->HT.lexLt (ks i) (ks j)=true)
theorem pe {pins:AO_}{nm:Str}{tp:Pos}{J:It}{fp:List Addr}{it:Addr}{tn:Nat -> Heap -> Prop}(T:Turn X.prog X.w X.K (.Name nm tp) J fp it tn) (hc:X.calm=true) (hu:X.A.units+64<cLine) (xs:LV) (ks:Nat -> List Int) (q S:Addr) (a5:nZ X σ H0 xs ks q)
    (go:∀H i,Same H0 H->i<xs.length->J.go i H/\∀x H1,J.yld i H x H1->H1=H/\xs[i]? = some x) (a0:∀H,Same H0 H->J.stop xs.length H) (nS:∀b∈fp,S≠b) {R:Result->Shared->Prop}
    (hR:∀i x u s' H',Same H0 H'->xs[i]? = some x->RelV x u->Bst ks xs.length i->Inv X pins σ H' s'->R (.ok (.ret u)) s') :
    ∀(r j i:Nat) (s:Shared) (H:Hp) (O:V) (G:Value) (B:Addr) (c:Nat),xs.length-(j+1)=r->j+1<=xs.length->Same H0 H->(∀b∈fp,FpOk X pins H b)->FpOk X pins H S->H B=some (.tup ((ks i).map V.int))->Inv X (pins++[(S,seqObj "list" #[G,.ref B] c)]) σ H s->tn (j+1) s.heap ->
     xs[i]? = some O->RelV O G->i<=j->Bst ks (j+1) i->codeAny (model X.prog X.w) X.A (.builtin "min.loop" ⟨[.ref it,.ref q,.ref S],[]⟩) R s:=by
 have k:(toString "min"++toString ".loop":String)="min.loop":=by decide
 intro r
 induction r with
 | zero =>
  intro j i s H O G B c hr hj F n hS Q I ht E rb a3 d;have Y:j+1=xs.length:=by omega
  have gS:s.heap.get? S=some (seqObj "list" #[G,.ref B] c):=(I.pin _ (wS _ (wS _ (.head _)))).1;refine codeAny_builtin PySem.F.entry_min_loop ?_;rw[Around.under_plainId PySem.F.plain_min_loop _];show wpAny _ X.A.in1 (seqItems? (.ref S) >>= _) _ _ _;refine wq (xt gS rfl ?_);show wpAny _ X.A.in1 (tryCatch (pyNext (.ref it)) _ >>= _) _ _ _;refine wq (wpAny_tryCatch (xl (T.done { X with A:=X.A.in1 } rfl rfl rfl hc (j+1) _ s σ H _ (I.atA _ rfl rfl) (λb g=>iY (n b g) (nS b g)) ht (by rw[Y];exact a0 H F)) (λr s1 ⟨e,w⟩=>?_) λ_ _ z=>z));subst e
  replace w:=Inv.ofA I.ok w
  have a8:s1.heap.get? S=some (seqObj "list" #[G,.ref B] c):=(w.pin _ (wS _ (wS _ (.head _)))).1;have sb:=Heap.SameBut.update s1.heap S (Obj.mapSeq λ_=>(#[]:Array Value));show wpAny _ X.A.in1 (updateSeq S (λ_=>#[]) >>= _) _ _ _;refine wq ?_;refine wpAny_updateSeq a8 rfl (wq (wpAny_letGo (wu ?_)));obtain⟨f0,f1,f2,f3,f4,f5⟩:=hS;rw[Y] at d;exact hR i O G _ H F E rb d (w.unpinned.turned (it:=S) (λb o nb e=>(sb.2 b nb).trans e) f0 f1 f3 f4 f5)
 | succ r ih =>
  intro j i s H O G B c hr hj F n hS Q I ht E rb a3 d;have D:j+1<xs.length:=by omega
  obtain⟨hg,hy⟩:=go H (j+1) F D;have gS:s.heap.get? S=some (seqObj "list" #[G,.ref B] c):=(I.pin _ (wS _ (wS _ (.head _)))).1;refine codeAny_builtin PySem.F.entry_min_loop ?_;rw[Around.under_plainId PySem.F.plain_min_loop _];show wpAny _ X.A.in1 (seqItems? (.ref S) >>= _) _ _ _;refine wq (xt gS rfl ?_);show wpAny _ X.A.in1 (tryCatch (pyNext (.ref it)) _ >>= _) _ _ _;have t:∀b∈fp,FpOk X (pins++[(S,seqObj "list" #[G,.ref B] c)]) H b:=λb g=>iY (n b g) (nS b g);refine wq (wpAny_tryCatch (xl (gb (T.item { X with A:=X.A.in1 } rfl rfl rfl hc (j+1) _ s σ H _ (I.atA _ rfl rfl) t ht hg)) (λr s1 ⟨u,e,x,H1,w,rx,yl,t1,fn⟩=>?_) λ_ _ z=>z));subst e
  replace w:=Inv.ofA I.ok w
  obtain⟨e1,hx⟩:=hy x H1 yl;subst e1;have a9:=w.pinned t (T.obj _ _ t1);show wpAny _ X.A.in1 (tryCatch (holding [u] (call (.ref q) [u])) _ >>= _) _ _ _;refine wq (wpAny_tryCatch (xh (xl (a5 (j+1) x u _ s1 H1 F hx rx a9) (λx' U he=>?_) λ_ _ hF=>hF.elim)));obtain⟨y,H2,rfl,M,K,m⟩:=he;have P:=m.unpinned;have C:∀b∈fp,FpOk X pins H2 b:=λb g=>(n b g).of_pin m (let ⟨o,eo,_⟩:=T.obj _ _ t1 b g;⟨o,wS _ (cL g eo)⟩);have l:FpOk X pins H2 S:=hS.of_pin m ⟨_,xJ _ (wS _ (.head _))⟩;have p:=K _ _ Q;have a1:=F.trans K;have Z:tn (j+1+1) U.heap:=T.keep _ _ _ t1 λb g o eo=>(m.pin (b,o) (wS _ (wS _ (cL g eo)))).1;have L:U.heap.get? S=some (seqObj "list" #[G,.ref B] c):=(P.pin _ (wS _ (wS _ (.head _)))).1;show wpAny _ X.A.in1 (tryCatch (holding [u,.ref y] (richCompare .Lt (.ref y) (.ref B) >>= _)) _ >>= _) _ _ _;obtain⟨a7,r1,p1,_⟩:=P.tuple (a:=y) (.of M);obtain⟨N,r2,p2,_⟩:=P.tuple (a:=B) (.of p);have i1:IntsAre a7.toArray.toList (ks (j+1)):=iN r1;have i2:IntsAre N.toArray.toList (ks i):=iN r2;refine wq (wpAny_tryCatch (xh (wq (HT.lt_tupInts (A:=X.A.in1) p1 p2 i1 i2 (by show X.A.units+1<cLine;omega) ?_))));refine wq (xh (wpAny_truthy_bool ?_));refine wq (wpAny_letGo (wu ?_));by_cases f:HT.lexLt (ks (j+1)) (ks i)=true
  ·have sb:=Heap.SameBut.update U.heap S (Obj.mapSeq λ_=>#[u,.ref y]);obtain⟨c2,a2⟩:∃c2,(U.heap.update S (Obj.mapSeq λ_=>#[u,.ref y])).get? S=some (seqObj "list" #[u,.ref y] c2):=⟨_,get?_update_seq L λ_=>#[u,.ref y]⟩
   simp only[f,if_true];refine wq ?_;refine wpAny_updateSeq L rfl (wq (wpAny_letGo ?_));rw[k];have a6:=l;obtain⟨f0,f1,f2,f3,f4,f5⟩:=a6;have I3:=P.unpinned.turned (it:=S) (t':=U.toks) (λb o nb e=>(sb.2 b nb).trans e) f0 f1 f3 f4 f5;have t3:=T.keep _ _ _ Z λb g o eo=>(sb.2 b (Ne.symm (nS b g))).trans eo;refine wu ⟨plainId_quiet PySem.F.plain_min_loop _,ih (j+1) (j+1) _ H2 x u y c2 (by omega) D a1 C l M (I3.repin l a2 (by intro v z;cases z)) t3 hx rx (wr _) λW a4=>?_⟩;by_cases e:W=j+1
   ·subst e;exact⟨HT.lex_irr _,λh=>absurd h (xp _)⟩
   ·have h1:=HT.lex_step f (d W (by omega)).1;exact⟨HT.lex_asym h1,λ_=>h1⟩
  ·have f:HT.lexLt (ks (j+1)) (ks i)=false:=by simpa using f
   simp only[f,xQ,if_false];refine wq (wpAny_letGo ?_);rw[k];refine wu ⟨plainId_quiet PySem.F.plain_min_loop _,ih (j+1) i _ H2 O G B c (by omega) D a1 C l p P Z E rb (by omega) λW a4=>?_⟩;by_cases e:W=j+1
   ·subst e;exact⟨f,λh=>by omega⟩
   ·exact d W (by omega)
theorem rh {pins:AO_}{nm:Str}{tp:Pos}{J:It}{B:List Addr}{it:Addr}{G:Nat->Heap->Prop}(T:Turn X.prog X.w X.K (.Name nm tp) J B it G) (hc:X.calm=true) (hu:X.A.units+64<cLine) (xs:LV) (ks:Nat->List Int) (q S:Addr) (p:nZ X σ H0 xs ks q)
    (W:∀H i,Same H0 H->i<xs.length->J.go i H/\∀x H1,J.yld i H x H1->H1=H/\xs[i]? = some x) (w:∀H,Same H0 H->J.stop xs.length H) (l:∀b∈B,FpOk X pins H0 b) (hS:FpOk X pins H0 S) (C:∀b∈B,S≠b) (k:0<xs.length) {R:Result->Shared->Prop}
    (hR:∀i x u s' H',Same H0 H'->xs[i]? = some x->RelV x u->Bst ks xs.length i->Inv X pins σ H' s'->R (.ok (.ret u)) s')
    (s:Shared) (I:Inv X (pins++[(S,seqObj "list" #[] 0)]) σ H0 s) (ht:G 0 s.heap):codeAny (model X.prog X.w) X.A (.builtin "min.loop" ⟨[.ref it,.ref q,.ref S],[]⟩) R s:=by
 have g:(toString "min"++toString ".loop":String)="min.loop":=by decide
 obtain⟨hg,hy⟩:=W H0 0 (Same.refl _) k;have gS:s.heap.get? S=some (seqObj "list" #[] 0):=(I.pin _ (wS _ (wS _ (.head _)))).1;refine codeAny_builtin PySem.F.entry_min_loop ?_;rw[Around.under_plainId PySem.F.plain_min_loop _];show wpAny _ X.A.in1 (seqItems? (.ref S) >>= _) _ _ _;refine wq (xt gS rfl ?_);show wpAny _ X.A.in1 (tryCatch (pyNext (.ref it)) _ >>= _) _ _ _;have d:∀b∈B,FpOk X (pins++[(S,seqObj "list" #[] 0)]) H0 b:=λb a=>iY (l b a) (C b a);refine wq (wpAny_tryCatch (xl (gb (T.item { X with A:=X.A.in1 } rfl rfl rfl hc 0 _ s σ H0 _ (I.atA _ rfl rfl) d ht hg)) (λr s1 ⟨u,e,x,H1,L,Z,yl,F,fn⟩=>?_) λ_ _ z=>z));subst e
 replace L:=Inv.ofA I.ok L
 obtain⟨e1,Y⟩:=hy x H1 yl;subst e1;have P:=L.pinned d (T.obj _ _ F);show wpAny _ X.A.in1 (tryCatch (holding [u] (call (.ref q) [u])) _ >>= _) _ _ _;refine wq (wpAny_tryCatch (xh (xl (p 0 x u _ s1 _ (Same.refl _) Y Z P) (λx' y he=>?_) λ_ _ hF=>hF.elim)));obtain⟨j,O,rfl,E,K,c⟩:=he;have I2:=c.unpinned;have n:∀b∈B,FpOk X pins O b:=λb a=>(l b a).of_pin c (let ⟨o,t,_⟩:=T.obj _ _ F b a;⟨o,wS _ (cL a t)⟩);have f:FpOk X pins O S:=hS.of_pin c ⟨_,xJ _ (wS _ (.head _))⟩;have M:G (0+1) y.heap:=T.keep _ _ _ F λb a o t=>(c.pin (b,o) (wS _ (wS _ (cL a t)))).1;have m:y.heap.get? S=some (seqObj "list" #[] 0):=(I2.pin _ (wS _ (wS _ (.head _)))).1;have U:=Heap.SameBut.update y.heap S (Obj.mapSeq λ_=>#[u,.ref j]);obtain⟨Q,D⟩:∃Q,(y.heap.update S (Obj.mapSeq λ_=>#[u,.ref j])).get? S=some (seqObj "list" #[u,.ref j] Q):=⟨_,get?_update_seq m λ_=>#[u,.ref j]⟩
 show wpAny _ X.A.in1 (updateSeq S (λ_=>#[u,.ref j]) >>= _) _ _ _;refine wq ?_;refine wpAny_updateSeq m rfl ?_;rw[g];have N:=f;obtain⟨f0,f1,f2,f3,f4,f5⟩:=N;have I3:=I2.unpinned.turned (it:=S) (t':=y.toks) (λb o nb e=>(U.2 b nb).trans e) f0 f1 f3 f4 f5;have t3:=T.keep _ _ _ M λb a o t=>(U.2 b (Ne.symm (C b a))).trans t;refine wu ⟨plainId_quiet PySem.F.plain_min_loop _,pe T hc hu xs ks q S p W w C hR _ 0 0 _ O x u j Q rfl k K n f E (I3.repin f D (by intro v z;cases z)) t3 Y Z (wr _) λj' a0=>?_⟩;have e:j'=0:=by omega
 subst e;exact⟨HT.lex_irr _,λh=>absurd h (xp _)⟩
theorem pX {pins:AO_}{s:Shared}{a:Addr}{xs:LV}{ks:Nat->List Int}{q:Addr}{Q:QS}{E:QS}(C:X.calm=true) (t:X.A.units+64<cLine) (I:Inv X pins σ H0 s) (d:SqL X.K H0 a xs) (g:0<xs.length) (h:nZ X σ H0 xs ks q)
    (G:∀i x u s' H',Same H0 H'->xs[i]? = some x->RelV x u->Bst ks xs.length i->Inv X pins σ H' s'->Q u s') :
    wpAny (model X.prog X.w) X.A (call (.builtin "min") [.ref a] [(Str.ofString "key",.ref q)]) Q E s:=by
 have c:(toString "min"++toString ".loop":String)="min.loop":=by decide
 refine kmk_tree PySem.F.kind_min PySem.F.plain_min PySem.F.entry_min (kmk_min_key _ _) ?_;show wpAny _ X.A.in1 (Builtin.Builtins.bindParams "min" ["key","default"] 0 ⟨[],[(Str.ofString "key",.ref q)]⟩ >>= _) _ _ s;refine wq (wpAny_of_eq (show Builtin.Builtins.bindParams "min" ["key","default"] 0 ⟨[],[(Str.ofString "key",.ref q)]⟩=pure [some (.ref q),none] from rfl) ?_);refine wq (wu ?_);obtain⟨F,M,J,L⟩:=I.list d;refine wq (wpAny_pyIter_list J.isList ?_);refine wq (wpAny_newList ?_ (wW _));rw[c];refine wu ⟨plainId_quiet PySem.F.plain_min_loop _,?_⟩;have k:(s.heap.push { cls:=.type "list_iterator",data:=.fields #[.ref a,.int 0 0] }).objs.size=s.heap.objs.size+1:=size_push' ..;have w:Inv X pins σ H0 { s with heap:=(s.heap.push { cls:=.type "list_iterator",data:=.fields #[.ref a,.int 0 0] }).push (seqObj "list" #[] 0) }:=I.kept (t':=s.toks) λb o e=>wD _ (wD _ e);have p:FpOk X pins H0 s.heap.objs.size:=I.fpOk (wr _) (I.hok.fresh (wr _));have l:FpOk X pins H0 (s.heap.push { cls:=.type "list_iterator",data:=.fields #[.ref a,.int 0 0] }).objs.size:=I.fpOk (by rw[k];exact Nat.le_succ _) (I.hok.fresh (by rw[k];exact Nat.le_succ _));refine rh (nm:="x") (tp:=default) (gA a s.heap.objs.size) C t xs ks q (s.heap.push { cls:=.type "list_iterator",data:=.fields #[.ref a,.int 0 0] }).objs.size h (λH i f r=>⟨⟨xs,xs[i],d.same' f,wP r⟩,λx K y=>⟨y.1,y.2 xs (d.same' f)⟩⟩) (λH f=>⟨xs,d.same' f,wr _⟩)
  (λb j=>by rw[wO.mp j];exact p) l (λb j=>by rw[wO.mp j,k];exact Nat.succ_ne_self _) g (λi x u s' H' B m A D n=>G i x u s' H' B m A D n) _ (w.repin l (wQ _ rfl) (by intro v z;cases z)) ⟨_,wD _ (wQ _ rfl),rfl,rfl⟩
theorem sk {k:Nat}{xs:LV}{ks:Nat -> List Int}{N:LS}{is:List Nat}{B:LV}{sp:AO_ -> Sp1}(hr:Room (k+1) X.A)
    (hf:∀y∈sc.names,y.2=NameKind.free->∃c,X.env.cells.lookup y.1=some c) (R:∀y,X.fn y=true)
    (hN:∀(j:Nat) (y:Str),N[j]? = some y->sc.names.lookup y=some .free/\X.env.kindOf y=some .cell/\∃i,is[j]? = some i/\X.N[i]? = some y)
    (wl:B.length=N.length) (a1:∀(j i:Nat) (v:V),is[j]? = some i->B[j]? = some v->σ[i]? = some (some v))
    (F:∀l,Clos sc N (cB sc X.env) l B->LamOk1 X.prog X.w X.K X.mg X.base CX0 k g (sp l))
    (a0:∀l H,Clos sc N (cB sc X.env) l B->Same H0 H->Unk H l->∀i x,xs[i]? = some x->sp l x (moreC H l) (λv H'=>∃q,v=.ref q/\H' q=some (.tup ((ks i).map V.int))/\Same (moreC H l) H') E0):nZ X σ H0 xs ks g:=by
 intro i x u pl s H sm hx rx I;obtain⟨_,a,G⟩:=lY hf;have ge:∀b o,(bN (cB sc X.env) s.heap).lookup b=some o->s.heap.get? b=some o:=λb o z=>(hV z).1;have t:∀b o,(bN (cB sc X.env) s.heap).lookup b=some o->∃y,X.env.cells.lookup y=some b:=λb o z=>let ⟨_,y,n⟩:=hV z;⟨y,a y b n⟩;have f:Unk H (bN (cB sc X.env) s.heap):=λb o z=>let ⟨y,n⟩:=t b o z;I.freeC y b n;have L:∀b o,(bN (cB sc X.env) s.heap).lookup b=some o->X.s₀.heap.objs.size<=b:=λb o z=>let ⟨y,n⟩:=t b o z;I.ok.cab y b (R y) n;have C:Clos sc N (cB sc X.env) (bN (cB sc X.env) s.heap) B := by
  refine⟨wl,λx y c W Y=>I.ok.inj x y c (a x c W) (a y c Y),λy hy=>G _ (PySem.mem_of_lookup hy) rfl,λy c P=>?_,λj y v W Y=>?_⟩
  ·obtain⟨v,o,A,T⟩:=I.cell y c (a y c P);exact⟨o,v,iQ P A,T⟩
  ·obtain⟨kf,kc,i,hi,S⟩:=hN j y W;obtain⟨m,_,hl⟩:=I.loc;obtain⟨u,ru,l⟩:=hl i y v S (a1 j i v hi Y) (.inr (.inl kc));obtain⟨c2,p⟩:=G _ (PySem.mem_of_lookup kf) rfl;rcases l with⟨l1,_⟩ | ⟨_,c,P,o,A,T⟩
   ·rw[kc] at l1;cases l1
   ·have z:=a _ _ p;have z':c=c2:=wA (P.symm.trans z);rw[z'] at A;exact⟨kf,c2,o,u,p,iQ p A,T,ru⟩
 have E:∀b,(∀o,(bN (cB sc X.env) s.heap).lookup b≠some o)->H b=none->moreC H (bN (cB sc X.env) s.heap) b=none:=λb nb h=>by
  cases z:(bN (cB sc X.env) s.heap).lookup b with
  | some o=>exact absurd z (nb o)
  | none=>rw[bq z];exact h
 have d:=I.env0;have e1:Env0 X.prog X.w X.K X.mg X.base X.A X.stack s (moreC H (bN (cB sc X.env) s.heap)) := by
  refine⟨d.frames,d.mod,λb o eb=>⟨(d.bs b o eb).1,E b (λu z=>?_) (d.bs b o eb).2⟩,d.bsz,d.funs,λb h=>E b (λu z=>?_) (d.frf b h),d.hok.moreC f ge,d.bare⟩
  ·exact absurd (w8 (w8 (wz eb) I.ok.bsz) (L b u z)) (xp _)
  ·rcases wH.mp (I.stkSub b h) with U | U
   ·obtain⟨y,n⟩:=t b u z;exact I.cne y b n U
   ·obtain⟨_,o,A,_⟩:=I.ok.funs.mem U;exact absurd (w8 (wz A) (L b u z)) (xp _)
 refine wpAny_call (codeAny_mono ((F _ C).run X.A.in1 X.stack s _ x u _ E0 hr.in1 e1.in1 rx (a0 _ H C sm f i x hx)) λr s' K=>?_);cases r with
 | error e=>exact K
 | ok fl =>
  cases fl with
  | ret u' =>
   obtain⟨v,Z,os,D,un,O,rv,q,rfl,w,s2⟩:=K;have M:KnC Z (bN (cB sc X.env) s.heap):=λb o z=>s2 _ _ (fc z);have a2:(bN (cB sc X.env) s.heap).lookup q=none:=by
    cases z:(bN (cB sc X.env) s.heap).lookup q with
    | none=>rfl
    | some o=>rw[M _ _ z] at w;cases w
   have sH:Same H (lessC Z (bN (cB sc X.env) s.heap)):=λb o h=>by
    cases z:(bN (cB sc X.env) s.heap).lookup b with
    | none=>rw[bj z];exact s2 _ _ (by rw[bq z];exact h)
    | some o=>rw[f b o z] at h;cases h
   obtain⟨v2,H3,J,r2,e2,e3⟩:=I.after (Q:=λv H'=>v=.ref q/\H'=lessC Z (bN (cB sc X.env) s.heap)) ⟨.ref q,_,os,D,Un.call un f ge O,O.lessC M,rv,rfl,rfl⟩;subst e2 e3;cases r2;exact⟨q,_,rfl,by rw[bj a2];exact w,sH,J⟩
  | next=>exact False.elim K
  | brk=>exact False.elim K
  | cont=>exact False.elim K
end
def nN (X:Cx) (k:Nat) (sc:Scope) (N:LS) (is:List Nat) (σ:St) (Q:VK) (x f:V) (H2:Hp):Prop:=∃(a g:Addr) (xs:LV) (ks:Nat->List Int) (ws:LV) (sp:AO_->Sp1),x=.ref a/\f=.ref g/\SqL X.K H2 a xs/\0<xs.length/\ws.length=N.length/\(∀(j i:Nat) (v:V),is[j]? = some i->ws[j]? = some v->σ[i]? = some (some v)) /\
 (∀l,Clos sc N (cB sc X.env) l ws->LamOk1 X.prog X.w X.K X.mg X.base CX0 k g (sp l))/\(∀l H,Clos sc N (cB sc X.env) l ws->Same H2 H->Unk H l->∀i x,xs[i]? = some x->sp l x (moreC H l) (λv H'=>∃kt,v=.ref kt/\H' kt=some (.tup ((ks i).map V.int))/\Same (moreC H l) H') E0) /\
 ∀i x H',Same H2 H'->xs[i]? = some x->Bst ks xs.length i->Q x H'
def wp (X:Cx) (k:Nat) (sc:Scope) (N:LS) (is:List Nat) (te tl:TE):TE:=λσ H Q=>te σ H λx H1=>tl σ H1 λf H2=>nN X k sc N is σ Q x f H2
theorem tE {k:Nat}{N:LS}{is:List Nat}(hc:X.calm=true) (K:Room (k+1) X.A) (P:X.mg "min"=none)
    (T:∀y∈sc.names,y.2=NameKind.free->∃c,X.env.cells.lookup y.1=some c) (n:∀y,X.fn y=true)
    (U:∀(j:Nat) (y:Str),N[j]? = some y->sc.names.lookup y=some .free/\X.env.kindOf y=some .cell/\∃i,is[j]? = some i/\X.N[i]? = some y)
    (ha:PE X e te) (L:PE X f tl) (W:Gl X "min":=by rfl) (l:(backToKw pos (keywordEach [⟨some "key",f,kpos⟩] X.env)).all (·.1.isSome)=true:=by rfl)
    (C:(backToKw pos (keywordEach [⟨some "key",f,kpos⟩] X.env)).filterMap (·.1)=[Str.ofString "key"]:=by rfl) (he:starEach [e] X.env=(false,eval e X.env)::starEach [] X.env:=by rfl)
    (hpl:((backTo pos (starEach [e] X.env)).any (·.1)||(backToKw pos (keywordEach [⟨some "key",f,kpos⟩] X.env)).any (·.1.isNone))=false:=by rfl) :
    PE X (.Call (.Name "min" p) [e] [⟨some "key",f,kpos⟩] pos) (wp X k sc N is te tl):=by
 intro b s d H Q I h;refine wpAny_Call_Name_kw (dE I W P (show bootBuiltins "min"=some (.builtin "min") by decide +kernel) ?_ (by decide) (by decide));have S:PA X [e] (cq te gH):=aa ha ab he;have K1:PK X [⟨some "key",f,kpos⟩] (cq tl gH):=sG L vk;refine hI hpl (evalArgs_kw2 l (thn (S pos b s d H (λA t=>match A with | [x]=>tl d t (λf m=>nN X k sc N is d Q x f m) | _=>False) I h) λus M ⟨A,t,I1,r1,z⟩=>?_) he);rcases A with _ | ⟨x,_ | ⟨y,r⟩⟩
 ·exact z.elim
 ·refine thn (K1 pos b M d t (λv m=>match v with | [f]=>nN X k sc N is d Q x f m | _=>False) I1 z) λks s2 ⟨v,m,I2,R,w⟩=>?_;rcases v with _ | ⟨f',_ | ⟨y,r⟩⟩
  ·exact w.elim
  ·obtain⟨a,g,xs,kf,ws,sp,rfl,rfl,hq,o,wl,B,F,D,q⟩:=w;obtain⟨u1,rfl,Y⟩:=cK r1;obtain⟨u2,rfl,E⟩:=cK R;cases Y;cases E;rw[C];exact pX hc K.units I2 hq o (sk K T n U wl B F D) λi x u s' G Z O V h3 J=>⟨x,G,J,V,q i x G Z O h3⟩
  ·exact w.elim
 ·exact z.elim
end L2
namespace MG
def esx (es:List (Nat × Nat)) (ss:List Nat) (n:Nat):List (Nat × Nat):=ss.map (λs=>(n,s))++es.filter λe=>!decide (e.2∈ss)
theorem mem_esx:(a,b)∈esx es ss n ↔ (a=n/\b∈ss)∨((a,b)∈es/\b∉ss):=by
 unfold esx;rw[wR,ww,wV]
 constructor
 ·rintro (⟨s,c,e⟩ | ⟨h,g⟩)
  ·cases e;exact .inl ⟨rfl,c⟩
  ·exact .inr ⟨h,by simpa using g⟩
 ·rintro (⟨rfl,h⟩ | ⟨h,g⟩)
  ·exact .inl ⟨b,h,rfl⟩
  ·exact .inr ⟨h,by simpa using g⟩
def mS (ss:List Nat) (n:Nat):Nat->Nat:=λi=>if i=0 then n else ss.getD (i-1) 0
def rS (ss:List Nat) (n:Nat):Nat->List Nat:=λi=>if i=0 then [n] else [n,ss.getD (i-1) 0]
theorem fg {ss:List Nat}{i:Nat}(h:i<ss.length):ss.getD i 0=ss[i]:=by rw[w6,wP h];rfl
theorem iZ {ss:List Nat}(h:ss.Pairwise (·<·)) {i j:Nat}(a:i<j) (b:j<ss.length):ss.getD i 0<ss.getD j 0:=by
 rw[fg (by omega),fg b];exact List.pairwise_iff_getElem.mp h i j (by omega) b a
theorem Bf.starts {es:List (Nat × Nat)}{ss:List Nat}{n:Nat}(hs:∀s ∈ ss, s<n) (hi:ss.Pairwise (·<·)) (val:∀e ∈ es, e.1<n /\ e.2<n):Bf (esx es ss n) n (n+1) 1 0 (ss.length+1) (mS ss n) (λ_ => 0) (rS ss n) where
 pos:=by omega
 at0:=rfl
 rw0:=rfl
 lt:=λi h=>by
  unfold mS
  split
  ·omega
  ·rw[fg (by omega)];have:=hs _ (xR (by omega:i-1<ss.length));omega
 inj := λi j h1 h2 e => by
  unfold mS at e;have lt:∀k,k≠0->k<ss.length+1->ss.getD (k-1) 0<n:=λk h0 h=>by rw[fg (by omega)];exact hs _ (xR (by omega:k-1<ss.length))
  by_cases q:i=0
  ·by_cases r:j=0
   ·omega
   ·rw[if_pos q,if_neg r] at e;have:=lt j r h2;omega
  ·by_cases r:j=0
   ·rw[if_neg q,if_pos r] at e;have:=lt i q h1;omega
   ·rw[if_neg q,if_neg r] at e;rcases Nat.lt_trichotomy i j with z | z | z
    ·have:=iZ hi (by omega:i-1<j-1) (by omega);omega
    ·exact z
    ·have:=iZ hi (by omega:j-1<i-1) (by omega);omega
 low:=λi h1 h2=>h1
 lep:=λi h1 h2=>wW _
 arr:=λi h1 h2=>mem_esx.mpr (.inl ⟨rfl,by
  unfold mS;rw[if_neg (by omega),fg (by omega)];exact xR _⟩)
 row:=λi h1 h2=>by unfold rS mS;rw[if_neg (by omega),if_pos rfl,if_neg (by omega)];rfl
 mono:=λi j h1 h2 h3=>wr _
 ord:=λi j h1 h2 h3 _=>by
  unfold mS;rw[if_neg (by omega),if_neg (by omega)];exact iZ hi (by omega) (by omega)
 top:=λi h1 h2 h3=>by omega
 old:=λp v h1 h2 h3=>by
  have p0:p=0:=by omega
  subst p0;rcases mem_esx.mp h2 with⟨_,h⟩ | ⟨h,_⟩
  ·obtain⟨i,hi',e⟩:=List.getElem_of_mem h;refine⟨i+1,by omega,?_,.inr (wr _)⟩;unfold mS;rw[if_neg (by omega),Nat.add_sub_cancel,fg hi'];exact e
  ·have:=(val _ h).1;have e:(mS ss n 0:Nat)=n:=rfl;rw[e] at this;exact absurd this (xp _)
def Cw (es:List (Nat × Nat)) (ss:List Nat):Nat->Nat->Prop
 | 0,v=>∃u,u∈ss/\(v,u)∈es
 | m+1,v=>∃u,u∉ss/\(v,u)∈es/\Cw es ss m u
def Lw (es:List (Nat × Nat)) (ss:List Nat):Nat->Nat->Prop
 | 0,v=>v∈ss
 | k+1,v=>∃u,(v,u)∈es/\Lw es ss k u
def Lf (es:List (Nat × Nat)) (ss:List Nat) (v k:Nat):Prop:=Lw es ss k v/\∀k',k'<k->¬ Lw es ss k' v
theorem Lf.cw:∀ {m v:Nat},Lf es ss v (m+1)->Cw es ss m v
 | 0,_,⟨⟨u,e,hu⟩,_⟩=>⟨u,hu,e⟩
 | m+1,v,⟨⟨u,e,w⟩,n⟩=>⟨u,λh=>n 1 (by omega) ⟨u,e,h⟩,e,Lf.cw ⟨w,λk' hk' w'=>n (k'+1) (by omega) ⟨u,e,w'⟩⟩⟩
inductive Gp (es:List (Nat × Nat)) (ss:List Nat):Nat->Nat->List Nat->Prop
 | stop {v:Nat}:v∈ss->Gp es ss 0 v [v]
 | step {k v u:Nat} {p:List Nat}:Lf es ss v (k+1)->(v,u)∈es->Lf es ss u k->(∀x j,(v,x)∈es->Lf es ss x j->j<k+1->u<=x)->Gp es ss k u p->Gp es ss (k+1) v (v::p)
section
variable {es:List (Nat × Nat)}{ss:List Nat}{n P t L:Nat}{me par:Nat->Nat}{rw:Nat->List Nat}
def NoB (es:List (Nat × Nat)) (ss:List Nat) (me:Nat->Nat) (P:Nat):Prop:=∀p v,p<P->p≠0->me p∉ss->(me p,v)∈es->v∉ss
theorem Bf.not0 (b:Bf (esx es ss n) n (n+1) P t L me par rw) (a:∀e∈es,e.1<n/\e.2<n) (e:(v,u)∈es) (c:me j=u):j≠0:=λz=>by
 rw[z,b.at0] at c;have:=(a _ e).2;simp only at this;omega
theorem Bf.far2 (b:Bf (esx es ss n) n (n+1) P t L me par rw) (hP:P<L) (val:∀e ∈ es, e.1<n /\ e.2<n) (nb:NoB es ss me P):∀m i, i<L -> i ≠ 0 -> me i ∉ ss -> Cw es ss m (me i) -> (rw P).length <= (rw i).length+m
 | 0,i,hi,h0,hm,⟨u,hu,e⟩=>by
  have:P<=i:=xE λq=>nb i u q h0 hm e hu;have:=b.deep i P this hi;omega
 | m+1, i, hi, h0, hm, ⟨u, hu, e, c⟩ => by
  rcases Nat.lt_or_ge i P with q | q
  ·obtain⟨j, hj, ej, o⟩ := b.old i u hi (mem_esx.mpr (.inr ⟨e, hu⟩)) (.inl q);have j0:=b.not0 val e ej;rw[<- ej] at c hu;have h:=b.far2 hP val nb m j hj j0 hu c;have:(rw j).length<=(rw i).length+1:=by
    rcases o with o | o
    ·exact absurd o j0
    ·have:=b.deep i (par j) o hi;rw[b.row j (by omega) hj,wB];simp only[yb];omega
   omega
  ·have:=b.deep i P q hi;omega
theorem Bf.ahead2 (b:Bf (esx es ss n) n (n+1) P t L me par rw) (y:P<L) (d:∀e∈es,e.1<n/\e.2<n) (x:NoB es ss me P) (c:Chn P me par j m w):j≠0->∀i,i<j->i≠0->me i∉ss->¬ Cw es ss m (me i):=by
 induction c with
 | done =>
  rintro _ i p s r ⟨u,a,e⟩;exact x i u p s r e a
 | @step j m w h c ih =>
  rintro B i p s r ⟨u,a,e,g⟩;have z:=(b.chn_le y c).1;have A:=b.low _ h (by omega);obtain⟨k,f,l,o⟩:=b.old i u (by omega) (mem_esx.mpr (.inr ⟨e,a⟩)) (.inl (by omega));have v:=b.not0 d e l;rw[<- l] at g a;refine ih (by omega) k ?_ v a g;refine Nat.lt_of_not_le λq=>?_;have:=b.mono j k h q f;omega
theorem Bf.back (b:Bf (esx es ss n) n (n+1) P t L me par rw) (u:P<L) (a:∀e ∈ es, e.1<n /\ e.2<n) (B:NoB es ss me P) (H:g ∈ ss) (he:(me P, g) ∈ es) (J:P ≠ 0) (G:me P ∉ ss) (U:∀v, v<g -> (me P, v) ∈ es -> v ∉ ss) (c:Chn P me par j m w) :
    j≠0->me j∉ss->Lf es ss (me j) (m+1)/\Gp es ss (m+1) (me j) (me j::(w++[g])):=by
 have A:∀ {j m:Nat} {w:List Nat}, Chn P me par j m w -> j ≠ 0 -> me j ∉ ss -> ∀k, k<m+1 -> ¬ Lw es ss k (me j) := λ{j m w} c C N k => by
  induction k using Nat.strongRecOn with
  | ind k ih =>
   intro R M;have d:Lf es ss (me j) k:=⟨M,λF T=>ih F T (by omega)⟩
   cases k with
   | zero=>exact N M
   | succ k =>
    have h:=b.chn_le u c;have:=b.far2 u a B k j (by omega) C N d.cw;rw[h.2.1,wB,h.2.2] at this;omega
 induction c with
 | done =>
  intro _ _;have d:Lf es ss (me P) 1:=⟨⟨g,he,H⟩,A .done J G⟩
  refine⟨d,.step d he ⟨H,λk h=>by omega⟩ (λx j s p K=>?_) (.stop H)⟩;have C:j=0:=by omega
  subst C;exact xE λq=>U x q s p.1
 | @step j m w h c ih =>
  intro D O;have K:=b.chn_le u c;have W:=b.low _ h (by omega);have S:=b.arr j h (by omega);have l:(me (par j),me j)∈es/\me j∉ss:=by
   rcases mem_esx.mp S with⟨z,_⟩ | z
   ·exact absurd (b.inj (par j) 0 (by omega) b.pos (z.trans b.at0.symm)) D
   ·exact z
  obtain⟨d,V⟩:=ih (by omega) l.2;have Q:Lf es ss (me (par j)) (m+1+1):=⟨⟨_,l.1,d.1⟩,A (.step h c) D O⟩
  refine⟨Q,.step Q l.1 d (λx k s p R=>?_) V⟩;by_cases r:x∈ss
  ·exact absurd r (B (par j) x (by omega) D O s)
  refine xE λq=>?_;obtain⟨i,E,e,o⟩:=b.old (par j) x (by omega) (mem_esx.mpr (.inr ⟨s,r⟩)) (.inl (by omega));have I:=b.not0 a s e;have o:par i<=par j:=o.elim (λz=>absurd z I) id;rw[<- e] at r p q;obtain⟨k,rfl⟩:∃F,k=F+1:=by
   cases k with
   | zero=>exact absurd p.1 r
   | succ k=>exact⟨k,rfl⟩
  have R:k<=m:=by omega
  rcases Nat.lt_trichotomy i j with z | z | z
  ·rcases Nat.lt_or_ge k m with y | y
   ·have f:=b.far2 u a B k i E I r p.cw;rw[K.2.1,wB,K.2.2] at f;have:=b.deep j i (by omega) (by omega);omega
   ·have:k=m:=by omega
    subst this;exact b.ahead2 u a B c (by omega) i z I r p.cw
  ·rw[z] at q;omega
  ·have:=b.mono j i h (by omega) E;have:=b.ord j i h z E (by omega);omega
theorem Bf.found (b:Bf (esx es ss n) n (n+1) P t L me par rw) (H:P<L) (x:∀e ∈ es, e.1<n /\ e.2<n) (Z:∀s ∈ ss, s<n) (W:NoB es ss me P) (hg:g ∈ ss) (he:(me P, g) ∈ es) (N:P ≠ 0) (D:me P ∉ ss) (ng:∀v, v<g -> (me P, v) ∈ es -> v ∉ ss) :
    ∃a u k p,rw P++[g]=n::a::p/\a∈ss/\u∉ss/\(a,u)∈es/\Lf es ss u k/\Gp es ss k u p/\∀G I B,G∈ss->I∉ss->(G,I)∈es->Lf es ss I B->k<B∨(k=B/\(a<G∨(a=G/\u<=I))):=by
 have dn:∀j, ∀ {m:Nat} {w:List Nat}, Chn P me par j m w -> j ≠ 0 -> me j ∉ ss -> ∃j m w, Chn P me par j m w /\ j ≠ 0 /\ me j ∉ ss /\ par j ≠ 0 /\ me (par j) ∈ ss := by
  intro j
  induction j using Nat.strongRecOn with
  | ind j ih =>
   intro m w c O F;have T:=(b.chn_le H c).1;have hl:=b.low j (by omega) (by omega);have U:=b.arr j (by omega) (by omega);have Q:par j≠0:=λz=>by
    rw[z,b.at0] at U;rcases mem_esx.mp U with⟨_,h⟩ | ⟨h,_⟩
    ·exact F h
    ·have:=(x _ h).1;simp only at this;omega
   by_cases q:me (par j)∈ss
   ·exact⟨j,m,w,c,O,F,Q,q⟩
   ·exact ih (par j) hl (.step (by omega) c) Q q
 obtain⟨j,m,w,c,O,F,Q,pm⟩:=dn P .done N D;have T:=b.chn_le H c;have hl:=b.low j (by omega) (by omega);have U:=b.arr j (by omega) (by omega);have r:∀i,i<L->i≠0->me i∈ss->par i=0:=λi C S hm=>by
  rcases mem_esx.mp (b.arr i (by omega) C) with⟨z,_⟩ | ⟨_,z⟩
  ·exact b.inj (par i) 0 (by have:=b.low i (by omega) C;omega) b.pos (z.trans b.at0.symm)
  ·exact absurd hm z
 have X:(me (par j),me j)∈es:=by
  rcases mem_esx.mp U with⟨_,z⟩ | ⟨z,_⟩
  ·exact absurd z F
  ·exact z
 obtain⟨lf,gp⟩:=b.back H x W hg he N D ng c O F;have K:=r (par j) (by omega) Q pm;have rp:rw (par j)=[n,me (par j)]:=by rw[b.row (par j) (by omega) (by omega),K,b.rw0];rfl
 refine⟨me (par j),me j,m+1,me j::(w++[g]),?_,pm,F,X,lf,gp,λG I B J M A R=>?_⟩
 ·rw[T.2.1,b.row j (by omega) (by omega),rp,xz,xz];rfl
 obtain⟨B,rfl⟩:∃k,B=k+1:=by
  cases B with
  | zero=>exact absurd R.1 M
  | succ k=>exact⟨k,rfl⟩
 obtain⟨l,d,V,oa⟩:=b.old 0 G b.pos (mem_esx.mpr (.inl ⟨b.at0,J⟩)) (.inl (by omega));have E:l≠0:=λz=>by rw[z,b.at0] at V;have:=Z _ J;omega
 have Y:l<P:=Nat.lt_of_not_le λq=>by
  have:=b.mono P l (by omega) q d;have:=r l d E (V ▸ J);have pP:par P=0:=by omega
  rcases mem_esx.mp (b.arr P (by omega) H) with⟨_,z⟩ | ⟨z,_⟩
  ·exact D z
  ·rw[pP,b.at0] at z;have:=(x _ z).1;simp only at this;omega
 rw[<- V] at A J;obtain⟨i,C,e,o⟩:=b.old l I d (mem_esx.mpr (.inr ⟨A,M⟩)) (.inl Y);have S:=b.not0 x A e;have o:par i<=l:=o.elim (λz=>absurd z S) id;rw[<- e] at M R A;have f:=b.far2 H x W B i C S M R.cw;rw[T.2.1,wB,T.2.2,b.row j (by omega) (by omega),rp] at f;have ri:(rw i).length<=3:=by
  have:=b.deep l (par i) o d;rw[b.row l (by omega) d,r l d E J,b.rw0] at this;rw[b.row i (by omega) C,wB];simp only[yb,wB,wC,xk] at this ⊢;omega
 simp only[wB,wC,xk,yb] at f;rcases Nat.lt_or_ge m B with y | y
 ·exact .inl (by omega)
 have ek:B=m:=by omega
 subst ek;refine .inr ⟨rfl,?_⟩;have ij:j<=i:=xE λq=>b.ahead2 H x W c O i q S M R.cw;have mo:=b.mono j i (by omega) ij C;have lo:par j<=l:=by omega
 rw[<- V];rcases Nat.lt_or_ge (par j) l with z | z
 ·exact .inl (b.ord (par j) l (by omega) z d (by rw[K,r l d E J]))
 ·have e1:par j=l:=by omega
  refine .inr ⟨by rw[e1],?_⟩;rw[<- e];rcases Nat.lt_or_ge j i with q | q
  ·exact xA (b.ord j i (by omega) q C (by omega))
  ·have:i=j:=by omega
   rw[this];exact wr _
theorem Bf.shut2 (b:Bf (esx es ss n) n (n+1) P t L me par rw) (z:P=L) (g:∀e ∈ es, e.1<n /\ e.2<n) (x:NoB es ss me L) (y:a ∈ ss) (l:u ∉ ss) (he:(a, u) ∈ es):¬ Lf es ss u k := by
 have p:∀m i,i<L->i≠0->me i∉ss->¬ Cw es ss m (me i):=by
  intro m
  induction m with
  | zero =>
   rintro i d w r ⟨v,h,e⟩;exact x i v d w r e h
  | succ m ih =>
   rintro i d w r ⟨v,h,e,c⟩;obtain⟨j,q,f,_⟩:=b.old i v d (mem_esx.mpr (.inr ⟨e,h⟩)) (.inl (by omega));have o:=b.not0 g e f;rw[<- f] at c h;exact ih j q o h c
 intro s;obtain⟨k,rfl⟩:∃k',k=k'+1:=by
  cases k with
  | zero=>exact absurd s.1 l
  | succ k=>exact⟨k,rfl⟩
 obtain⟨i,d,e,_⟩:=b.old 0 a b.pos (mem_esx.mpr (.inl ⟨b.at0,y⟩)) (.inl (by have:=b.pos;omega));rw[<- e] at he;obtain⟨j,q,f,_⟩:=b.old i u d (mem_esx.mpr (.inr ⟨he,l⟩)) (.inl (by omega));have o:=b.not0 g he f;have c:=s.cw;rw[<- f] at c l;exact p k j q o l c
end
end MG
namespace MG
variable {α:Type}
def WkS (R:α->α->Prop) (S:α->Prop) (n:Nat) (y:α):Prop:=∃x,S x/\nP R n x y
def DstS (R:α->α->Prop) (S:α->Prop) (d:Nat) (y:α):Prop:=WkS R S d y/\∀k,k<d->¬ WkS R S k y
variable {R:α->α->Prop}{S:α->Prop}
theorem WkS.step (h:WkS R S n y) (r:R y z):WkS R S (n+1) z:=let ⟨x,a,w⟩:=h;⟨x,a,y,w,r⟩
theorem DstS.uniq (a:DstS R S d y) (b:DstS R S e y):d=e:=by
 rcases Nat.lt_trichotomy d e with h | h | h
 ·exact absurd a.1 (b.2 d h)
 ·exact h
 ·exact absurd b.1 (a.2 e h)
theorem WkS.dst (h:WkS R S n y):∃d, DstS R S d y := by
 induction n using Nat.strongRecOn generalizing y with
 | _ n ih =>
  by_cases e:∃k,k<n/\WkS R S k y
  ·obtain⟨k,a,w⟩:=e;exact ih k a w
  ·exact⟨n,h,λk a w=>e ⟨k,a,w⟩⟩
theorem DstS.pred (h:DstS R S (d+1) y):∃z,DstS R S d z/\R z y:=by
 obtain⟨⟨x,b,z,w,r⟩,m⟩:=h;exact⟨z,⟨⟨x,b,w⟩,λk c a=>m (k+1) (by omega) (a.step r)⟩,r⟩
theorem DstS.zero (h:S y):DstS R S 0 y:=⟨⟨y,h,rfl⟩,λk a=>by omega⟩
theorem DstS.of_zero (h:DstS R S 0 y):S y:=by
 obtain⟨⟨x,a,w⟩,_⟩:=h;have w:x=y:=w;exact w ▸ a
theorem DstS.below (h:DstS R S d y):∀e, e <= d -> ∃z, DstS R S e z := by
 induction d generalizing y with
 | zero => intro e b; have:e=0 := by omega
           subst this;exact⟨y,h⟩
 | succ d ih =>
  intro e b;by_cases q:e=d+1
  ·subst q;exact⟨y,h⟩
  ·obtain⟨z,a,_⟩:=h.pred;exact ih a e (by omega)
theorem DstS.closed {T:α->Prop}(h0:∀y,S y->T y) (hs:∀y z,T y->R y z->T z):∀ {d:Nat}{y:α},WkS R S d y->T y
 | 0,y,⟨x,hx,w⟩=>by
  have w:x=y:=w;exact w ▸ h0 x hx
 | d+1,y,⟨x,hx,z,w,r⟩=>hs z y (DstS.closed h0 hs ⟨x,hx,w⟩) r
structure LevS (R:α->α->Prop) (S:α->Prop) (L:Nat) (look:α->Option Nat) (edge:List α):Prop where
 snd:∀y k,look y=some k->DstS R S k y/\k<=L
 cmp:∀y k,k<=L->DstS R S k y->look y=some k
 edg:∀y,y∈edge ↔ DstS R S L y
structure MidS (R:α->α->Prop) (S:α->Prop) (L:Nat) (look:α->Option Nat) (further:List α) (done:α->α->Prop):Prop where
 snd:∀y k,look y=some k->(DstS R S k y/\k<=L)∨(k=L+1/\y∈further)
 cmp:∀y k,k<=L->DstS R S k y->look y=some k
 fur:∀y,y∈further->DstS R S (L+1) y/\look y=some (L+1)
 dn:∀z y,done z y->(look y).isSome=true
theorem LevS.start (a:∀y, S y ↔ y ∈ l) (b:∀y, y ∈ l -> z y=some 0) (h2:∀y, y ∉ l -> z y=none):LevS R S 0 z l := by
 refine⟨λy k e=>?_,λy k c d=>?_,λy=>?_⟩
 ·by_cases q:y∈l
  ·rw[b y q] at e;cases e;exact⟨DstS.zero ((a y).mpr q),wr _⟩
  ·rw[h2 y q] at e;cases e
 ·have:k=0:=by omega
  subst this;exact b y ((a y).mp d.of_zero)
 ·exact⟨λq=>DstS.zero ((a y).mpr q),λd=>(a y).mp d.of_zero⟩
theorem LevS.mid (h:LevS R S L q z):MidS R S L q [] (λ_ _=>False) :=
 ⟨λy k e=>.inl (h.snd y k e),h.cmp,λy a=>(nomatch a),λ_ _ f=>f.elim⟩
theorem MidS.skip (h:MidS R S L G B I) (e:(G y).isSome=true):MidS R S L G B (λa b=>I a b∨(a=z/\b=y)) :=
 ⟨h.snd,h.cmp,h.fur,λa b d=>by
  rcases d with d | ⟨_,q⟩
  ·exact h.dn a b d
  ·rw[q];exact e⟩
theorem MidS.add (h:MidS R S L G B J) (m:DstS R S L z) (r:R z y) (e:G y=none)
    [DecidableEq α] (c:∀a,I a=if a=y then some (L+1) else G a):MidS R S L I (B++[y]) (λa b=>J a b∨(a=z/\b=y)):=by
 have g:DstS R S (L+1) y:=by
  refine⟨m.1.step r,λk i w=>?_⟩;obtain⟨d,f⟩:=WkS.dst w;have p:d<=k:=xE λq=>f.2 k q w;rw[h.cmp y d (by omega) f] at e;cases e
 refine⟨λa k q=>?_,λa k i d=>?_,λa l=>?_,λa b d=>?_⟩
 ·rw[c] at q
  split at q
  ·rename_i ea;cases q;subst ea;exact .inr ⟨rfl,by simp⟩
  ·rcases h.snd a k q with n | ⟨o,j⟩
   ·exact .inl n
   ·exact .inr ⟨o,by simp[j]⟩
 ·rw[c]
  split
  ·rename_i ea;subst ea;have:=d.uniq g;omega
  ·exact h.cmp a k i d
 ·rcases wR.mp l with q | q
  ·refine⟨(h.fur a q).1,?_⟩;rw[c]
   split
   ·rfl
   ·exact(h.fur a q).2
  ·have:a=y:=by simpa using q
   subst this;exact⟨g,by rw[c,if_pos rfl]⟩
 ·rw[c]
  split
  ·rfl
  ·rename_i nb
   rcases d with d | ⟨_,q⟩
   ·exact h.dn a b d
   ·exact absurd q nb
theorem MidS.wk (h:MidS R S L G q B) (w:∀a b,z a b->B a b):MidS R S L G q z :=
 ⟨h.snd,h.cmp,h.fur,λa b d=>h.dn a b (w a b d)⟩
theorem MidS.next {L:Nat}{G:α->Option Nat}{B J:List α}{I:α->α->Prop}(h:MidS R S L G B I) (he:∀y,y∈J ↔ DstS R S L y) (g:∀z y,z∈J->R z y->I z y):LevS R S (L+1) G B:=by
 have a:∀y,DstS R S (L+1) y->y∈B/\G y=some (L+1):=λy d=>by
  obtain⟨z,i,r⟩:=d.pred;have s:=h.dn z y (g z y ((he z).mpr i) r);obtain⟨k,e⟩:=xN.mp s;rcases h.snd y k e with⟨q,f⟩ | ⟨c,b⟩
  ·have:=q.uniq d;omega
  ·subst c;exact⟨b,e⟩
 refine⟨λy k e=>?_,λy k f d=>?_,λy=>⟨λq=>(h.fur y q).1,λd=>(a y d).1⟩⟩
 ·rcases h.snd y k e with⟨q,f⟩ | ⟨c,b⟩
  ·exact⟨q,by omega⟩
  ·subst c;exact⟨(h.fur y b).1,wr _⟩
 ·by_cases q:k=L+1
  ·subst q;exact(a y d).2
  ·exact h.cmp y k (by omega) d
theorem LevS.done (h:LevS R S L B []):∀y k,B y=some k ↔ DstS R S k y:=λy k=>by
 refine⟨λe=>(h.snd y k e).1,λd=>?_⟩;by_cases q:k<=L
 ·exact h.cmp y k q d
 ·obtain⟨z,a⟩:=d.below L (by omega);exact(nomatch (h.edg z).mpr a)
theorem DstS.lt {ss:List α}(j:∀n y, WkS R S n y -> y ∈ ss) {L:Nat}{y:α}(d:DstS R S L y):L<ss.length := by
 have i:∀n, n <= L+1 -> ∃b:List α, b.length=n /\ b.Nodup /\ ∀z ∈ b, ∃e, e<n /\ DstS R S e z := by
  intro n
  induction n with
  | zero=>intro _;exact⟨[],rfl,xP,λz c=>by cases c⟩
  | succ n ih =>
   intro o;obtain⟨b,k,a,c⟩:=ih (by omega);obtain⟨z,l⟩:=d.below n (by omega);refine⟨z::b,by simp[k],xf.mpr ⟨λh=>?_,a⟩,λw g=>?_⟩
   ·obtain⟨e,m,f⟩:=c z h;have:=f.uniq l;omega
   ·rcases wH.mp g with rfl | g
    ·exact⟨n,by omega,l⟩
    ·obtain⟨e,m,f⟩:=c w g;exact⟨e,by omega,f⟩
 obtain⟨b,k,a,c⟩:=i (L+1) (wr _);have:=a.length_le_of_subset (l₂:=ss) λz h=>by
  obtain⟨e,_,f⟩:=c z h;exact j _ z f.1
 omega
end MG
namespace K43
open PySem L2
def top (i:Nat):Stmt:=PySem.Challenge.pw_orderkeep_k43_rings_of_groups.main.body.getD i (.Pass ⟨0,0,0,0⟩)
abbrev gJ:Stmt:=top 1
abbrev fT:Stmt:=top 2
abbrev eQ:Stmt:=top 3
abbrev gX:Stmt:=top 5
abbrev gm:Stmt:=top 6
abbrev kR:Stmt:=top 7
abbrev jj:Stmt:=top 9
abbrev gG:Stmt:=top 10
abbrev kx:Stmt:=top 11
abbrev gn:Stmt:=top 12
abbrev gC:Stmt:=top 13
abbrev ni:Stmt:=top 15
abbrev dF:Stmt:=top 16
abbrev ff:Stmt:=top 17
abbrev gU:Stmt:=top 18
abbrev fy:Stmt:=top 20
abbrev eK:Stmt:=top 21
abbrev jo:Stmt:=top 22
abbrev dj:Stmt:=top 23
abbrev cr:Stmt:=top 24
abbrev rz:Stmt:=top 26
abbrev nL:Stmt:=top 27
abbrev cP:Stmt:=top 28
abbrev kj:Stmt:=top 29
abbrev jl:Stmt:=top 30
abbrev no:Stmt:=top 31
abbrev fM:Stmt:=top 32
abbrev iK:Stmt:=top 33
abbrev gj:Stmt:=top 34
abbrev kS:Stmt:=top 35
abbrev nQ:Stmt:=top 36
abbrev ia:Stmt:=top 37
abbrev kI:Stmt:=top 38
abbrev nr:Stmt:=top 39
abbrev ji:Stmt:=top 40
abbrev gh:Stmt:=top 41
abbrev hY:Stmt:=top 42
section
variable {P:Program}{w:World}{K:W.Frag}{mg:MS}{base:Heap}
section
variable {g:TG}{tb:TS}{D:Ends}{R:VK}{σ:St}{H:Hp}
theorem cA (Pv:Nat -> St -> Hp -> Prop) (b:Pv 0 σ H) (d:∀i σ H, i <= xs.length -> Pv i σ H -> SqT K H a xs)
    (e:∀ {B:SH},∀i x σ H,xs[i]? = some x->Pv i σ H->g x σ H λσ2 H2=>tb { nx:=Pv (i+1),rt:=R,bk:=B,ct:=Pv (i+1) } σ2 H2) (c:∀σ H,Pv xs.length σ H->D.nx σ H) (h:D.rt=R:=by rfl) :
    ∃W:Nat->Nat->SH,(∃m,W 0 m σ H)/\∀i m σ H,W i m σ H ->
     ((Itt K a).stop i H/\D.nx σ H)∨((Itt K a).go i H/\∃N:SH,(∀σ' H',N σ' H'->∃q,q<m/\W (i+1) q σ' H')/\∀x H',(Itt K a).yld i H x H'->g x σ H' λσ2 H2=>tb { D with nx:=N,ct:=N,bk:=D.nx } σ2 H2) :=
 mC Pv b d (λi x σ H f p=>h ▸ e i x σ H f p) c
theorem cM (Pv:Nat -> St -> Hp -> Prop) (b:Pv 0 σ H) (d:∀i σ H, i <= xs.length -> Pv i σ H -> SqL K H a xs)
    (e:∀ {B:SH},∀i x σ H,xs[i]? = some x->Pv i σ H->g x σ H λσ2 H2=>tb { nx:=Pv (i+1),rt:=R,bk:=B,ct:=Pv (i+1) } σ2 H2) (c:∀σ H,Pv xs.length σ H->D.nx σ H) (h:D.rt=R:=by rfl) :
    ∃W:Nat->Nat->SH,(∃m,W 0 m σ H)/\∀i m σ H,W i m σ H ->
     ((Itl K a).stop i H/\D.nx σ H)∨((Itl K a).go i H/\∃N:SH,(∀σ' H',N σ' H'->∃q,q<m/\W (i+1) q σ' H')/\∀x H',(Itl K a).yld i H x H'->g x σ H' λσ2 H2=>tb { D with nx:=N,ct:=N,bk:=D.nx } σ2 H2) :=
 li Pv b d (λi x σ H f p=>h ▸ e i x σ H f p) c
theorem fb (Pv:Nat -> St -> Hp -> Prop) (a:Pv 0 σ H)
    (c:∀ {B:SH},∀i σ H,i<n->Pv i σ H->g (.int (lo+i)) σ H λσ2 H2=>tb { nx:=Pv (i+1),rt:=R,bk:=B,ct:=Pv (i+1) } σ2 H2) (b:∀σ H,Pv n σ H->D.nx σ H) (e:D.rt=R:=by rfl) :
    ∃W:Nat->Nat->SH,(∃m,W 0 m σ H)/\∀i m σ H,W i m σ H ->
     ((Itr lo n).stop i H/\D.nx σ H)∨((Itr lo n).go i H/\∃N:SH,(∀σ' H',N σ' H'->∃q,q<m/\W (i+1) q σ' H')/\∀x H',(Itr lo n).yld i H x H'->g x σ H' λσ2 H2=>tb { D with nx:=N,ct:=N,bk:=D.nx } σ2 H2) :=
 pM Pv a (λi σ H d p=>e ▸ c i σ H d p) b
end
def mE (K:W.Frag):Sp:=λvs H Q _=>∃(p a:Addr) (m:Nat),vs=[.ref p,.int (m:Int)]/\Pen K H p a/\m<=60 /\
 ∀l ss H',ss.length=m->ss.Nodup->(∀s∈ss,Nm s)->H' l=some (.lst (List.map V.str ss))->H l=none->l≠p->PenV H' p a->But p H H'->Q (.ref l) H'
theorem scPen:FnScope ["_law_script"] ["_law_script"] (aj rz):=⟨rfl,rfl,rfl,by decide +kernel,rfl,by decide +kernel,by decide +kernel⟩
theorem scDraw:FnScope ["_law_pen_here","_law_most","_law_found","_law_place","_law_cell","_law_first","_law_second"] ["_law_pen_here","_law_most"] (aj nL):=⟨rfl,rfl,rfl,by decide +kernel,rfl,by decide +kernel,by decide +kernel⟩
theorem tZ (F:Fun K "_law_draw" "_law_draw" nL f fd) (B:Blt mg):FnOk P w K mg base CX0 1 f fd ["_law_pen_here", "_law_most"] (dR K) := by
 refine F.ok scDraw (λR H Q E h=>?_) (λN A y s H R Q E e h=>?_)
 ·obtain⟨p,a,m,rfl,_⟩:=h
  rfl
 ·obtain⟨p, a, m, rfl, ⟨⟨ns, O⟩, i, n, r, L, G⟩, l, v, k⟩ := h;have z:∀(t:Hp) (o:HO),(∀b,b≠p->t b=H b)->∀b,b≠p->(upd t p o) b=H b:=λt o q b n=>by rw[ag n];exact q b n
  have u:=scDraw.nd;refine⟨_,(ae (aZ (ao eU (ai (ap K e.units) (pv 0) af (λ_ _=>rfl)) af (aB _)) (ae (ak (i:=2) u rfl (Or.inl rfl) (aD cH (ai (ap K e.units) (pv 0) af (λ_ _=>rfl)) (pv 1)))
   (ae (cR (aD gZ (ai (ap K e.units) (pv 0) af (λ_ _=>rfl)) (pv 1)) (df (pv 0) af (dG e.units)))
   (ah (aC (pv 2))))) aK)
   (ae (ak (i:=3) u rfl (Or.inl rfl) (ai (ap K e.units) (pv 0) af (λ_ _=>rfl)))
   (ae (cR (aD aL (pv 3) af) (df (pv 0) af (dG e.units)))
   (ae (ak (i:=4) u rfl (Or.inl rfl) af)
   (ae (aZ (ao eU (ba K B (aa (ai (ap K e.units) (pv 0) af (λ_ _=>rfl)) ab)) af (aB _)) (ah (ak (i:=4) u rfl (Or.inl rfl) (ai (ap K e.units) (ai (ap K e.units) (pv 0) af (λ_ _=>rfl)) (aD cH (pv 3) (ba K B (aa (ai (ap K e.units) (pv 0) af (λ_ _=>rfl)) ab))) (λ_ _=>rfl)))) aK)
   (ae (aZ (PW.pt (bR (ao dt (pv 3) (ba K B (aa (ai (ap K e.units) (pv 0) af (λ_ _=>rfl)) ab)) (aB _)) (bw (ao wg (mX B (aa (pv 4) ab)) (aD u0 af af) (aB _))))) (ae (cR (aD gZ (mX B (aa (pv 4) ab)) (pv 1)) (df (pv 0) af (dG e.units)))
   (ah (aC (aD cH (mX B (aa (pv 4) ab)) (pv 1))))) aK)
   (ae (ak (i:=5) u rfl (Or.inl rfl) (aD cH (aD fq (aD aL (aD aL (aD cH (pv 4) af) (aD fq af (pv 3))) af) af) af))
   (ae (ak (i:=6) u rfl (Or.inl rfl) (aD cH (aD aL (aD aL (aD fq (pv 5) (pv 5)) (aD fq af (pv 3))) af) af))
   (ah (aC (aD cH (aD gZ (pv 6) af) (pv 1)))))))))))),?_⟩
  refine⟨_,rfl,.lst (.of r) rfl ⟨_,_,rfl,rfl,_,rfl,?_⟩⟩;refine aF (λh=>?_) (λh=>?_)
  ·refine⟨_,rfl,.lst (.of r) rfl ⟨_,rfl,_,_,rfl,rfl,l,?_⟩⟩;refine⟨_,rfl,.lst (.of r) rfl ⟨_,rfl,_,_,rfl,rfl,⟨l,v⟩,?_⟩⟩;refine⟨_,rfl,.lst (j:=2) r rfl ?_⟩;refine⟨_,rfl,?_⟩;exact k _ _ (xS _ (by omega)) (yd _ l) ⟨i,n / m,ac,L,Int.ediv_nonneg G (by omega)⟩ (z H _ λ_ _=>rfl)
  ·refine⟨_, rfl, .lst (.of r) rfl ?_⟩;refine⟨_,rfl,.int ?_⟩;refine⟨_,rfl,.lst (j:=1) r rfl ?_⟩;have d:(upd H p (.lst ([V.ref a,V.int i,V.int n].set 1 (V.int (i+1))))) p=some (.lst [.ref a,.int (i+1),.int n]):=ac;have g:SqL K (upd H p (.lst ([V.ref a,V.int i,V.int n].set 1 (V.int (i+1))))) a (ns.map V.int):=O _ But.upd;have C:∀b,b≠p->(upd H p (.lst ([V.ref a,V.int i,V.int n].set 1 (V.int (i+1))))) b=H b:=z H _ λ_ _=>rfl;generalize upd H p (.lst ([V.ref a,V.int i,V.int n].set 1 (V.int (i+1))))=t at d g C ⊢;have x:∀c:Int,0<=c->Q (.int (c % m)) t:=λc I=>k _ _ (xS _ (by omega)) (yd _ l) ⟨i+1,n,d,by omega,G⟩ C;refine⟨_,rfl,.lst (.of d) rfl ⟨_,_,rfl,Or.inl ⟨_,g,rfl⟩,_,_,rfl,rfl,_,rfl,?_⟩⟩;refine aF (λh=>?a) (λh=>?b)
   case' a =>
    have D:(0:Int)<((ns.map V.int).length:Nat):=wK h;obtain⟨c,I⟩:=uD (ns:=ns) (j:=i % ((ns.map V.int).length:Nat)) (xS _ (by omega)) (yd _ D);refine⟨_,rfl,.lst (.of d) rfl ⟨_,rfl,_,rfl,.lst (.of d) rfl ⟨_,_,rfl,Or.inl ⟨_,g,rfl⟩,_,_,rfl,rfl,D,.lst g I ?_⟩⟩⟩
   all_goals
    refine⟨_,rfl,_,rfl,.lst (.of d) rfl ⟨_,_,rfl,Or.inl ⟨_,g,rfl⟩,.int ⟨_,rfl,?_⟩⟩⟩;refine aF (λJ=>?_) (λJ=>?_)
    ·refine⟨_,rfl,_,rfl,_,_,rfl,rfl,⟨by decide,by decide,by decide⟩,_,_,rfl,rfl,_,rfl,?_⟩;refine aF (λM=>?_) (λM=>?_)
     ·refine⟨_,rfl,_,rfl,_,rfl,_,_,rfl,rfl,⟨l,v⟩,?_⟩;refine⟨_,rfl,.lst (j:=2) d rfl ?_⟩;refine⟨_,rfl,_,rfl,_,rfl,_,_,rfl,rfl,l,?_⟩;refine k _ _ (xS _ (by omega)) (yd _ l) ⟨i+1,_,ac,by omega,Int.ediv_nonneg (by split <;> omega) (by omega)⟩ (z t _ C)
     ·refine⟨_,rfl,_,_,rfl,rfl,(by show (0:Int)<_;decide),_,rfl,_,_,rfl,rfl,.inl ⟨by decide,by decide⟩,.int (.int ⟨_,_,rfl,rfl,.inr ⟨by decide,by decide⟩,_,_,rfl,rfl,(by show (0:Int)<_;decide),?_⟩)⟩;refine⟨_,rfl,_,rfl,_,_,rfl,rfl,.inl (jO _),_,rfl,_,_,rfl,rfl,.inl ⟨by decide,by decide⟩,.int (.int ⟨_,_,rfl,rfl,(by show (0:Int)<_;decide),?_⟩)⟩;refine⟨_,rfl,_,_,rfl,rfl,⟨by decide,by decide⟩,_,rfl,_,_,rfl,rfl,l,?_⟩;exact x _ (Int.ediv_nonneg (xS _ (by decide)) (by decide))
    ·refine⟨_,rfl,_,_,rfl,rfl,(by show (0:Int)<_;decide),_,rfl,_,_,rfl,rfl,.inl ⟨by decide,by decide⟩,.int (.int ⟨_,_,rfl,rfl,.inr ⟨by decide,by decide⟩,_,_,rfl,rfl,(by show (0:Int)<_;decide),?_⟩)⟩;refine⟨_,rfl,_,rfl,_,_,rfl,rfl,.inl (jO _),_,rfl,_,_,rfl,rfl,.inl ⟨by decide,by decide⟩,.int (.int ⟨_,_,rfl,rfl,(by show (0:Int)<_;decide),?_⟩)⟩;refine⟨_,rfl,_,_,rfl,rfl,⟨by decide,by decide⟩,_,rfl,_,_,rfl,rfl,l,?_⟩;exact x _ (Int.ediv_nonneg (xS _ (by decide)) (by decide))
abbrev letters:Str:="abcdefghijklmnopqrstuvwxyz"
def dm:LS:=["top","group","tie","wait","first","last","thing","untie","drop","want","unwant","many"]
def vt:LS:=["lay","ring","place","bar","house"]
def wordsL:LS:=dm++vt
theorem qA:∀s∈wordsL,uP (.str s)=true:=by decide +kernel
theorem lP:wordsL.Nodup:=by decide +kernel
theorem pr:wordsL.length=17:=by decide +kernel
def aE:Stmt->Expr
 | .Assign _ e _=>e
 | _=>.Name "" ⟨0,0,0,0⟩
def wo:Stmt->Expr->Stmt
 | .Assign ts _ p,e=>.Assign ts e p
 | s,_=>s
@[irreducible] def hX:Expr:=aE ((bY cP).getD 1 (.Pass ⟨0,0,0,0⟩))
theorem sQ:bY cP=(bY cP).set 1 (wo ((bY cP).getD 1 (.Pass ⟨0,0,0,0⟩)) hX):=by unfold hX;rfl
theorem uC {t:Option Expr}{l:Nat}{env:Env}:swapsWith hX t l env=pure false:=by unfold hX;rfl
theorem u8 {X:Cx}:PE X hX (uK (cq (tC (.str "top")) (cq (tC (.str "group")) (cq (tC (.str "tie")) (cq (tC (.str "wait")) (cq (tC (.str "first")) (cq (tC (.str "last")) (cq (tC (.str "thing")) (cq (tC (.str "untie")) (cq (tC (.str "drop")) (cq (tC (.str "want")) (cq (tC (.str "unwant")) (cq (tC (.str "many")) gH))))))))))))):=by
 have e:∃q w s x i n k o y u f a d m l h r j p v z t c g b,hX=.List [.Constant (.str "top") m w,.Constant (.str "group") l s,.Constant (.str "tie") h x,.Constant (.str "wait") r i,.Constant (.str "first") j n,.Constant (.str "last") p k,.Constant (.str "thing") v o,.Constant (.str "untie") z y,.Constant (.str "drop") t u,.Constant (.str "want") c f,.Constant (.str "unwant") g a,.Constant (.str "many") b d] q:=by
  unfold hX;exact⟨_,_,_,_,_,_,_,_,_,_,_,_,_,_,_,_,_,_,_,_,_,_,_,_,_,rfl⟩
 obtain⟨q,w,s,x,i,n,k,o,y,u,f,a,d,m,l,h,r,j,p,v,z,t,c,g,b,e⟩:=e;rw[e]
 with_reducible exact bh (aa aM (aa aM (aa aM (aa aM (aa aM (aa aM (aa aM (aa aM (aa aM (aa aM (aa aM (aa aM ab ce) ce) ce) ce) ce) ce) ce) ce) ce) ce) ce) ce)
theorem de {ss:LS}{i:Nat}(h:i<ss.length):atI (List.map V.str ss) (i:Int)=some (.str (ss.getD i "")):=cF (by simp[h,w6])
theorem sd {f:Nat->Str}{m i:Nat}(h:i<m):((List.range m).map f).getD i ""=f i:=by rw[w6,wN,List.getElem?_range h];rfl
theorem scNames:FnScope ["_law_pen_here","_law_many","_law_letters","_law_words","_law_base","_law_size","_law_at","_law_turn","_law_manner","_law_signs","_law_head","_law_tail"] ["_law_pen_here","_law_many"] (aj cP):=⟨rfl,rfl,rfl,by decide +kernel,rfl,by decide +kernel,by decide +kernel⟩
theorem rj {f:Addr}{fd:FuncData}(F:Fun K "_law_names" "_law_names" cP f fd) (B:Blt mg) (r:Cal P w K mg base 1 "_law_draw" ["_law_pen_here", "_law_most"] (dR K)):FnOk P w K mg base CX0 2 f fd ["_law_pen_here", "_law_many"] (mE K) := by
 refine F.ok scNames (λvs H Q E h=>?_) (λf4 A d3 s H vs Q E Y h=>?_)
 ·obtain⟨p,a,m,rfl,_⟩:=h
  rfl
 ·obtain⟨p, a, m, rfl, hP, hm, k⟩ := h;have nd:=scNames.nd;have v0:=hP.2;have lL:letters.length<=sizeLine:=by decide +kernel
  rw[sQ];refine⟨_,(ae (ak (i:=2) nd rfl (Or.inr rfl) aM)
   (ae (ak (i:=3) nd rfl (Or.inr rfl) u8 uC)
   (ae (ak (i:=3) nd rfl (Or.inr rfl) (aD aL (pv 3) (bh (aa aM (aa aM (aa aM (aa aM (aa aM ab ce) ce) ce) ce) ce))))
   (ae (ak (i:=4) nd rfl (Or.inr rfl) (vh K aM (aa (cI (aj cP) ["_law_pen_here","_law_many","_law_letters","_law_words","_law_base","_law_size","_law_at","_law_turn","_law_manner","_law_signs","_law_head","_law_tail"] [2,0] "_law_k" ["_law_letters","_law_pen_here"] (cG rfl B.range (aa af ab)) dh (ai (ap K Y.units) (pv 1) (au r (Y.mono (by decide)) rfl (aa (pv 2) (aa af ab))) (λ_ _=>rfl))) ab)))
   (ae (ak (i:=5) nd rfl (Or.inr rfl) (aD aL af (au r (Y.mono (by decide)) rfl (aa (pv 0) (aa af ab)))))
   (ae (ak (i:=6) nd rfl (Or.inr rfl) (au r (Y.mono (by decide)) rfl (aa (pv 0) (aa (pv 5) ab))))
   (ae (ak (i:=7) nd rfl (Or.inr rfl) (au r (Y.mono (by decide)) rfl (aa (pv 0) (aa af ab))))
   (ae (ak (i:=8) nd rfl (Or.inl rfl) (au r (Y.mono (by decide)) rfl (aa (pv 0) (aa af ab))))
   (ae (aZ (PW.pt (bR (ao (bn Y.units) (pv 8) af (aB _)) (bw (ao dt (pv 1) af (aB _))))) (ah (aC (cI (aj cP) ["_law_pen_here","_law_many","_law_letters","_law_words","_law_base","_law_size","_law_at","_law_turn","_law_manner","_law_signs","_law_head","_law_tail"] [4,7] "_law_k" ["_law_base","_law_turn"] (cG rfl B.range (aa (pv 1) ab)) dh (cN (ic K) (pv 1) dN (cv (aD aL (aD cH (aD aL (pv 2) (aD fq af (pv 0))) af) af)))))) aK)
   (ae (aZ (PW.pt (bR (ao (bn Y.units) (pv 8) af (aB _)) (bw (ao dt (pv 1) af (aB _))))) (ah (aC (cI (aj cP) ["_law_pen_here","_law_many","_law_letters","_law_words","_law_base","_law_size","_law_at","_law_turn","_law_manner","_law_signs","_law_head","_law_tail"] [3,7] "_law_k" ["_law_words","_law_turn"] (cG rfl B.range (aa (pv 1) ab)) dh (ai (ap K Y.units) (pv 1) (aD cH (aD aL (pv 2) (pv 0)) af) (λ_ _=>rfl))))) aK)
   (ae (ak (i:=9) nd rfl (Or.inr rfl) (cI (aj cP) ["_law_pen_here","_law_many","_law_letters","_law_words","_law_base","_law_size","_law_at","_law_turn","_law_manner","_law_signs","_law_head","_law_tail"] [2,7] "_law_k" ["_law_letters","_law_turn"] (cG rfl B.range (aa (pv 1) ab)) dh (ai (ap K Y.units) (pv 1) (aD cH (aD aL (pv 2) (aD fq af (pv 0))) af) (λ_ _=>rfl))))
   (ae (aZ (ao dt (pv 1) af (aB _)) (ah (aC (cI (aj cP) ["_law_pen_here","_law_many","_law_letters","_law_words","_law_base","_law_size","_law_at","_law_turn","_law_manner","_law_signs","_law_head","_law_tail"] [4,5,6] "_law_sign" ["_law_base","_law_size","_law_at"] (bt K (pv 9)) dh (aD aL (aD aL (cN (ic K) (pv 1) dN (cv (pv 3))) (pv 0)) (cN (ic K) (pv 1) (cv (aD aL (pv 3) af)) (cv (pv 2))))))) aK)
   (ae (ak (i:=10) nd rfl (Or.inr rfl) (cN (ic K) (pv 4) dN (cv (aD cH (pv 6) af))))
   (ae (ak (i:=11) nd rfl (Or.inr rfl) (cN (ic K) (pv 4) (cv (aD cH (pv 6) af)) (cv (aD cH (pv 5) af))))
   (ah (aC (cI (aj cP) ["_law_pen_here","_law_many","_law_letters","_law_words","_law_base","_law_size","_law_at","_law_turn","_law_manner","_law_signs","_law_head","_law_tail"] [11,10,2,9] "_law_k" ["_law_tail","_law_head","_law_letters","_law_signs"] (cG rfl B.range (aa (pv 1) ab)) dh (aD aL (aD aL (aD aL (pv 2) (ai (ap K Y.units) (pv 4) (pv 0) (λ_ _=>rfl))) (ai (ap K Y.units) (pv 3) (aD gZ (pv 0) af) (λ_ _=>rfl))) (pv 1))))))))))))))))))),?_⟩
  refine⟨(by show 12<=sizeLine;decide),λl1 a9=>?_⟩;have n1:=v0.ne a9;have b1:=(But.refl p H).at (o:=.lst (List.map V.str dm)) a9;have v1:=v0.upd (o:=.lst (List.map V.str dm)) n1;have e1:upd H l1 (.lst (List.map V.str dm)) l1=some (.lst (List.map V.str dm)):=ac;show ut _ _ _ _ (upd H l1 (.lst (List.map V.str dm)));generalize upd H l1 (.lst (List.map V.str dm))=H1 at b1 v1 e1 ⊢;refine⟨_,rfl,(by show 5<=sizeLine;decide),λl2 a2=>?_⟩;have n2:=v1.ne a2;have b2:=b1.at (o:=.lst ([V.str "lay",V.str "ring",V.str "place",V.str "bar",V.str "house"])) (b1.free (Ne.symm n2) a2);have v2:=v1.upd (o:=.lst ([V.str "lay",V.str "ring",V.str "place",V.str "bar",V.str "house"])) n2;refine .lst (by rw[ag (av e1 a2)];exact e1) ac (by show 17<=sizeLine;decide) λO a4=>?_;have n3:=v2.ne a4;have b3:=b2.at (o:=.lst (List.map V.str dm++[V.str "lay",V.str "ring",V.str "place",V.str "bar",V.str "house"])) (b2.free (Ne.symm n3) a4);have v3:=v2.upd (o:=.lst (List.map V.str dm++[V.str "lay",V.str "ring",V.str "place",V.str "bar",V.str "house"])) n3;have e3:upd (upd H1 l2 (.lst ([V.str "lay",V.str "ring",V.str "place",V.str "bar",V.str "house"]))) O (.lst (List.map V.str dm++[V.str "lay",V.str "ring",V.str "place",V.str "bar",V.str "house"])) O=some (.lst (List.map V.str wordsL)):=by rw[ac];rfl
  have R:O≠p:=Ne.symm n3;have d8:H O=none:=b2.free (Ne.symm n3) a4;generalize upd (upd H1 l2 (.lst ([V.str "lay",V.str "ring",V.str "place",V.str "bar",V.str "house"]))) O (.lst (List.map V.str dm++[V.str "lay",V.str "ring",V.str "place",V.str "bar",V.str "house"]))=H3 at b3 v3 e3 ⊢;refine⟨rfl,_,rfl,by decide,by decide,?_⟩
  let a7:Addr->Nat->LV->SH:=λD i C u I=>∃o ys,u=[o,some (.str letters),some (.ref p)]/\C=List.map V.str ys/\ys.length=i/\(∀y∈ys,y.length=1/\Lo y)/\I O=some (.lst (List.map V.str wordsL))/\PenV I p a/\But p H I/\H D=none/\p≠D/\O≠D
  refine dX a7 λD T=>⟨?_,?_,?_⟩
  ·have l:=v3.ne T;have d:=b3.free (Ne.symm l) T;have L:=av e3 T;exact⟨none,[],rfl,rfl,rfl,(λy W=>by cases W),by rw[ag L];exact e3,v3.upd l,b3.at d,d,l,L⟩
  ·rintro i C u I S ⟨o, ys, rfl, rfl, hl, X, hw, v, b, d, l, L⟩ g;refine gI ?_;refine⟨_,rfl,_,rfl,p,a,26,rfl,hP.but b v,by decide,by decide,λr5 H5 c4 a8 v5 e5=>?_⟩;refine .str lL (ll c4 a8) ⟨(e5 D (Ne.symm l)).trans g,?_,_,ys++[abc r5],rfl,by simp[abc],by simp[hl],?_,?_,v5.upd l,(b.trans (But.of_eq e5)).at d,d,l,L⟩
   ·rw[wt,hl];exact aw (by simp at S;omega)
   ·intro y W;rcases wR.mp W with W | W
    ·exact X y W
    ·have:y=abc r5:=by simpa using W
     subst this;exact⟨rfl,iC c4 a8⟩
   ·rw[ag L];exact(e5 O R).trans hw
  ·rintro C u H5 ⟨o, ys, rfl, rfl, hl, X, c8, v5, b5, d, l, L⟩ g;have Z:Lo (Txt.join "" ys):=Lo.join Lo.nil λy W=>(X y W).2;have d6:(Txt.join "" ys).length=8:=by rw[q1 λy W=>(X y W).1];simpa using hl
   have e0:("":Str).length=0:=by decide +kernel
   have c2:=uE (n:=1) λy W=>Nat.le_of_eq (X y W).1;refine⟨_,D,ys,rfl,rfl,g,by rw[e0];have:=hl;simp at this;omega,?_⟩;generalize Txt.join "" ys=z at Z d6 ⊢;have hz:z.length<=sizeLine:=xA (aw (by omega));clear g X hl c2;refine⟨_,rfl,p,a,8,rfl,hP.but b5 v5,by decide,by decide,λr6 H6 d2 f2 v6 e6=>.int ?_⟩;have b6:=b5.trans (But.of_eq e6);refine⟨_,rfl,_,rfl,p,a,_,rfl,hP.but b6 v6,by omega,by omega,λr7 H7 d4 f1 v7 e7=>?_⟩;have b7:=b6.trans (But.of_eq e7);refine⟨_,rfl,p,a,26,rfl,hP.but b7 v7,by decide,by decide,λr8 H8 d0 e4 v8 e8=>?_⟩;have b8:=b7.trans (But.of_eq e8);refine⟨_,rfl,p,a,4,rfl,hP.but b8 v8,by decide,by decide,λr9 H9 f5 f0 v9 e9=>?_⟩;have b9:=b8.trans (But.of_eq e9);have b0:H9 O=some (.lst (List.map V.str wordsL)):=by rw[e9 O R,e8 O R,e7 O R,e6 O R];exact c8
   obtain⟨U,rfl⟩:=xc d2;obtain⟨G,rfl⟩:=xc d4;obtain⟨J,rfl⟩:=xc d0;clear e6 e7 e8 e9 v5 v6 v7 v8 b5 b6 b7 b8 c8;have a1:∀(D:Addr) (ss:LS) (I:Hp),I D=some (.lst (List.map V.str ss))->ss.length=m->ss.Nodup->(∀s∈ss,Nm s)->H D=none->p≠D->PenV I p a->But p H I->Q (.ref D) I:=λD ss I h1 h2 h3 h4 h5 h6 h7 h8=>k D ss I h2 h3 h4 h1 h5 (Ne.symm h6) h7 h8;have d9:=pr;have aU:∀(H9:Hp),PenV H9 p a->But p H H9->∀σ:St,σ=[some (.ref p),some (.int (m:Int)),some (.str letters),some (.ref O),some (.str z),some (.int (1+(U:Int))),some (.int (G:Int)),some (.int (J:Int)),some (.int r9),none,none,none]->True:=λ_ _ _ _ _=>trivial;refine⟨_,rfl,.sc rfl ⟨_,rfl,?_⟩⟩;apply ug;intro N;refine aF (λd1=>?a) (λd1=>N)
   case' a =>
    refine⟨_,rfl,.int ⟨_,rfl,?_⟩⟩;refine aF (λh9=>?c) (λh9=>N)
    case c =>
     have h9:(m:Int)<9:=wK h9;refine⟨_,rfl,_,rfl,by omega,by omega,?_⟩
     let c3:Addr->Nat->LV->SH:=λD i C u I=>∃o,u=[o,some (.str z),some (.int (J:Int))]/\C=List.map V.str ((List.range i).map λk=>Txt.slice z none (some (((J+3 * k) % 8+1:Nat):Int)))/\PenV I p a/\But p H I/\H D=none/\p≠D
     refine dX c3 λD T=>⟨?_,?_,?_⟩
     ·have l:=v9.ne T;have d:=b9.free (Ne.symm l) T;exact⟨none,rfl,rfl,v9.upd l,b9.at d,d,l⟩
     ·rintro i C u I S ⟨o,rfl,rfl,v,b,d,l⟩ g;refine gI ?_;refine⟨_,rfl,_,rfl,_,rfl,_,_,rfl,rfl,.inl ⟨by decide,by decide⟩,.int ⟨_,_,rfl,rfl,(by show (0:Int)<_;decide),.int ⟨_,rfl,.str hz ?_⟩⟩⟩;rw[show ((J:Int)+3 * (0+(i:Nat):Int)) % 8+1=(((J+3 * i) % 8+1:Nat):Int) by omega];refine⟨g,?_,_,rfl,?_,v.upd l,b.at d,d,l⟩
      ·rw[wt,wt,xu];exact aw (by simp at S;omega)
      ·rw[dW,wy];rfl
     ·rintro C u I ⟨o,rfl,rfl,v,b,d,l⟩ g;have a5:((m:Int)-0).toNat=m:=by omega
      refine a1 D _ I g (by simp) (gr _ _ λi j a6 Z e=>?_) (λs hs=>?_) d l v b
      ·have e:=congrArg Str.length e;rw[fw (by omega),fw (by omega)] at e;simp at Z;omega
      ·obtain⟨i,S,rfl⟩:=iz hs;have hl:=fw (z:=z) (j:=(J+3 * i) % 8+1) (by omega);exact(Z.slice _ _).nm (by rw[hl];omega) (by rw[hl];omega)
   all_goals
    refine⟨_,rfl,.sc rfl ⟨_,rfl,?_⟩⟩;apply ug;intro N;refine aF (λd5=>?_) (λd5=>N);refine⟨_,rfl,.int ⟨_,rfl,?_⟩⟩;refine aF (λa3=>?_) (λa3=>N)
    ·
        have a3:(m:Int)<18:=wK a3;refine⟨_,rfl,_,rfl,by omega,by omega,?_⟩
        let c5:Addr->Nat->LV->SH:=λD i C u I=>∃o,u=[o,some (.ref O),some (.int (J:Int))]/\C=List.map V.str ((List.range i).map λk=>wordsL.getD ((J+k) % 17) "")/\I O=some (.lst (List.map V.str wordsL))/\PenV I p a/\But p H I/\H D=none/\p≠D/\O≠D
        refine dX c5 λD T=>⟨?_,?_,?_⟩
        ·have l:=v9.ne T;have d:=b9.free (Ne.symm l) T;have L:=av b0 T;exact⟨none,rfl,rfl,by rw[ag L];exact b0,v9.upd l,b9.at d,d,l,L⟩
        ·rintro i C u I S ⟨o,rfl,rfl,hw,v,b,d,l,L⟩ g;refine gI ?_;refine⟨_,rfl,_,rfl,_,rfl,.int ⟨_,_,rfl,rfl,(by show (0:Int)<_;decide),?_⟩⟩;refine .lst (.of hw) (show atI _ (((J:Int)+(0+(i:Nat):Int)) % 17)=some (.str (wordsL.getD ((J+i) % 17) "")) from by
          rw[show ((J:Int)+(0+(i:Nat):Int)) % 17=(((J+i) % 17:Nat):Int) by omega];exact de (by omega)) ⟨g,?_,_,rfl,?_,by rw[ag L];exact hw,v.upd l,b.at d,d,l,L⟩
         ·rw[wt,wt,xu];exact aw (by simp at S;omega)
         ·rw[dW,wy];rfl
        ·rintro C u I ⟨o, rfl, rfl, hw, v, b, d, l, L⟩ g;refine a1 D _ I g (by simp) (gr _ _ λi j a6 Z e=>?_) (λs hs=>?_) d l v b
         ·have e:=qM wordsL lP (by omega) (by omega) e;simp at Z;omega
         ·obtain⟨i,S,rfl⟩:=iz hs;have c7:(J+i) % 17<wordsL.length:=by omega
          have c0:wordsL.getD ((J+i) % 17) ""∈wordsL:=by
           rw[w6,wP c7];exact xR c7
          exact isNm_iff.mp (qA _ c0)
    all_goals
     refine⟨_,rfl,_,rfl,by omega,by omega,?_⟩
     let c1:Addr->Nat->LV->SH:=λD i C u I=>∃o,u=[o,some (.str letters),some (.int (J:Int))]/\C=List.map V.str ((List.range i).map λk=>abc (((J+5 * k) % 26:Nat):Int))/\PenV I p a/\But p H I/\H D=none/\p≠D
     refine dX c1 λD T=>⟨?_,?_,?_⟩
     ·have l:=v9.ne T;have d:=b9.free (Ne.symm l) T;exact⟨none,rfl,rfl,v9.upd l,b9.at d,d,l⟩
     ·rintro i C u I S ⟨o,rfl,rfl,v,b,d,l⟩ g;refine gI ?_;refine⟨_,rfl,_,rfl,_,rfl,_,_,rfl,rfl,.inl ⟨by decide,by decide⟩,.int ⟨_,_,rfl,rfl,(by show (0:Int)<_;decide),?_⟩⟩;refine .str lL (show atI _ (((J:Int)+5 * (0+(i:Nat):Int)) % 26)=some (97+(((J+5 * i) % 26:Nat):Int).toNat) from by
       rw[show ((J:Int)+5 * (0+(i:Nat):Int)) % 26=(((J+5 * i) % 26:Nat):Int) by omega];exact ll (by omega) (by omega)) ⟨g,?_,_,rfl,?_,v.upd l,b.at d,d,l⟩
      ·rw[wt,wt,xu];exact aw (by simp at S;omega)
      ·rw[dW,wy];rfl
     ·rintro C u HA ⟨o, rfl, rfl, vA, bA, f6, f3⟩ g;have a5:((m:Int)-0).toNat=m:=by omega
      have g:HA D=some (.lst (List.map V.str ((List.range m).map λk=>abc (((J+5 * k) % 26:Nat):Int)))):=by first | exact g | (rw[a5] at g;exact g)
      refine⟨_,rfl,.int ⟨_,rfl,?_⟩⟩;refine aF (λa0=>?_) (λa0=>?_)
      ·have a0:(m:Int)<27 := wK a0;refine⟨_,rfl,_,rfl,⟨_,.of g⟩,?_⟩
       let b4:Addr->Nat->LV->SH:=λD i C u I=>∃o,u=[o,some (.str z),some (.int (1+(U:Int))),some (.int (G:Int))]/\C=List.map V.str ((List.range i).map λk=>Txt.slice z none (some (G:Int))++abc (((J+5 * k) % 26:Nat):Int)++Txt.slice z (some ((G:Int)+1)) (some (1+(U:Int))))/\Same HA I/\HA D=none
       refine cU (List.map V.str ((List.range m).map λk=>abc (((J+5 * k) % 26:Nat):Int))) b4 λD T=>⟨?_,?_,?_,?_⟩
       ·exact⟨none,rfl,rfl,Same.new T,T⟩
       ·rintro i C u I _ ⟨o,rfl,_,sm,_⟩ _;exact .of (sm _ _ g)
       ·rintro i C u I x hx ⟨o,rfl,rfl,sm,d⟩ t;rw[wN,wN] at hx;have c9:i<m:=by
         by_cases q:i<m
         ·exact q
         ·rw[yk (by rw[xu];omega)] at hx;cases hx
        rw[List.getElem?_range c9] at hx;have hx:V.str (abc (((J+5 * i) % 26:Nat):Int))=x:=wA hx;subst hx;refine gI ?_;have l1:=jH z G;have l2:=gD z (G+1) (1+U);rw[show ((G+1:Nat):Int)=(G:Int)+1 by omega,show ((1+U:Nat):Int)=1+(U:Int) by omega] at l2;have d7:8<=sizeLine:=by decide
        refine⟨_,rfl,_,rfl,_,rfl,.str hz ⟨_,rfl,.str ?_ ⟨_,rfl,_,rfl,.int ⟨_,rfl,_,rfl,_,rfl,.str hz (.str ?_ ⟨t,?_,_,rfl,?_,?_,d⟩)⟩⟩⟩⟩
        ·rw[di];omega
        ·rw[bi,di];omega
        ·rw[wt,wt,xu];exact aw (by omega)
        ·rw[dW,wy];rfl
        ·exact aQ sm d
       ·rintro C u I ⟨o,rfl,rfl,sm,d⟩ t;rw[wt,wt,xu] at t;refine a1 _ _ I t (by simp) (gr _ _ λi j a6 Z e=>?_) (λs hs=>?_) (bA.free (Ne.symm (vA.ne d)) d) (vA.ne d) (aI sm vA) (bA.trans (But.of_same sm))
        ·have e:=so e;omega
        ·obtain⟨i,S,rfl⟩:=iz hs;have l1:=fw (z:=z) (j:=G) (by omega);have l2:=gD z (G+1) (1+U);rw[show ((G+1:Nat):Int)=(G:Int)+1 by omega,show ((1+U:Nat):Int)=1+(U:Int) by omega] at l2;refine(((Z.slice _ _).app (iC (by omega) (by omega))).app (Z.slice _ _)).nm ?_ ?_
         ·rw[bi,bi,di];omega
         ·rw[bi,bi,di];omega
      ·have a0:¬ (m:Int)<27 := λq => a0 (wF q);refine⟨_,rfl,_,rfl,_,_,rfl,rfl,(by show (0:Int)<_;decide),_,rfl,.str hz ?_⟩;refine⟨_,rfl,_,rfl,_,_,rfl,rfl,(by show (0:Int)<_;decide),_,rfl,_,rfl,_,_,rfl,rfl,(by show (0:Int)<_;decide),_,rfl,.str hz ?_⟩;have t1:=jH z (G % 6);have t2:=gD z (G % 6) ((1+U) % 7);rw[show ((G % 6:Nat):Int)=(G:Int) % 6 by omega] at t1 t2;rw[show (((1+U) % 7:Nat):Int)=(1+(U:Int)) % 7 by omega] at t2;have g1:=Z.slice none (some ((G:Int) % 6));have g2:=Z.slice (some ((G:Int) % 6)) (some ((1+(U:Int)) % 7));have ht:(Txt.slice z none (some ((G:Int) % 6))).length+(Txt.slice z (some ((G:Int) % 6)) (some ((1+(U:Int)) % 7))).length<=6:=by omega
       have d7:8<=sizeLine:=by decide
       refine⟨_,rfl,_,rfl,by omega,by omega,?_⟩;generalize Txt.slice z none (some ((G:Int) % 6))=hd at t1 g1 ht ⊢;generalize Txt.slice z (some ((G:Int) % 6)) (some ((1+(U:Int)) % 7))=tl at t2 g2 ht ⊢;refine dX (λD' i C u I=>∃o,u=[o,some (.str tl),some (.str hd),some (.str letters),some (.ref D)]/\C=List.map V.str ((List.range i).map λk=>hd++abc (((J+5 * k) % 26:Nat):Int)++abc ((k / 26:Nat):Int)++tl)/\Same HA I/\HA D'=none) λD' c6=>⟨?_,?_,?_⟩
       ·exact⟨none,rfl,rfl,Same.new c6,c6⟩
       ·rintro i C u I S ⟨o,rfl,rfl,sm,M⟩ t;have S:i<m:=by simpa using S
        refine gI ?_;refine⟨_,rfl,_,rfl,_,rfl,.lst (.of (sm _ _ g)) (show atI _ (0+(i:Nat):Int)=some (.str (abc (((J+5 * i) % 26:Nat):Int))) from by
         rw[Int.zero_add,de (by simpa using S),sd S]) (.str (by rw[di];omega) ⟨_,rfl,_,rfl,_,_,rfl,rfl,⟨by decide,by decide⟩,.str lL (show atI _ ((0+(i:Nat):Int) / 26)=some (97+((i / 26:Nat):Int).toNat) from by
         rw[show (0+(i:Nat):Int) / 26=((i / 26:Nat):Int) by omega];exact ll (by omega) (by omega)) (.str ?_ ⟨_,rfl,.str ?_ ⟨t,?_,_,rfl,?_,?_,M⟩⟩)⟩)⟩
        ·rw[bi,di];show _+1+1<=sizeLine;omega
        ·rw[bi,bi,di];show _+1+1+_<=sizeLine;omega
        ·rw[wt,wt,xu];exact aw (by omega)
        ·rw[dW,wy];rfl
        ·exact aQ sm M
       ·rintro C u I ⟨o,rfl,rfl,sm,M⟩ t;have t:I D'=some (.lst (List.map V.str ((List.range m).map λk=>hd++abc (((J+5 * k) % 26:Nat):Int)++abc ((k / 26:Nat):Int)++tl))):=by first | exact t | (rw[a5] at t;exact t)
        refine a1 D' _ I t (by simp) (gr _ _ λi j a6 Z e=>?_) (λs hs=>?_) (bA.free (Ne.symm (vA.ne M)) M) (vA.ne M) (aI sm vA) (bA.trans (But.of_same sm))
        ·obtain⟨e1,e2⟩:=qo e;omega
        ·obtain⟨i,S,rfl⟩:=iz hs;refine(((g1.app (iC (by omega) (by omega))).app (iC (by omega) (by omega))).app g2).nm ?_ ?_
         ·rw[bi,bi,bi,di];omega
         ·rw[bi,bi,bi,di,di];omega
theorem bH {z:LV}{ps:List (Str × Str)}(c:RepAll H z (ps.map aA)) {j:Nat}(f:z[j]? = some x):∃e ta,ps[j]? = some e/\x=.ref ta/\H ta=some (.tup [.str e.1,.str e.2]):=by
 obtain⟨d,a,rd⟩:=c.get f;rw[wN] at a;cases q:ps[j]? with
 | none=>rw[q] at a;cases a
 | some e =>
  rw[q] at a;have a:aA e=d:=wA a;rw[<- a] at rd;obtain⟨ta,b,g⟩:=mF rd;exact⟨e,ta,rfl,b,g⟩
theorem aT {ss:LS}{i:Nat}(h:(List.map V.str ss)[i]? = some x):∃s,ss[i]? = some s/\V.str s=x:=by
 rw[wN] at h;cases q:ss[i]? with
 | none=>rw[q] at h;cases h
 | some e=>rw[q] at h;exact⟨e,rfl,wA h⟩
theorem we {A B:SH}(a:x=.ref q) (c:SqT K H q [u,v]) (h:A ((σ.set 0 (some u)).set 1 (some v)) H) :
    qq K 2 (og (bp 0) (og (bp 1) vr)) x σ H λσ2 G=>nJ σ2 G λb z=>if b=true then A σ2 z else B σ2 z:=by
 subst a;refine⟨q,_,rfl,c,rfl,_,_,rfl,_,_,rfl,rfl,?_⟩;show (if true=true then A ((σ.set 0 (some u)).set 1 (some v)) H else B ((σ.set 0 (some u)).set 1 (some v)) H);rw[if_pos rfl];exact h
theorem bX (v:PenV H p a):∃ys,H p=some (.lst ys):=let ⟨_,_,e,_⟩:=v;⟨_,e⟩
theorem cz {ss:LS}{i:Nat}(h:i<ss.length):ss.getD i ""∈ss:=by
 rw[w6,wP h];exact xR h
def fz:Sp:=λvs H Q _=>∃(a:Addr) (us:LS) (ks:Kn),vs=[.ref a]/\Rep H (.ref a) (cZ ks)/\Tre us ks/\∀d kvs H',Same H H'->H d=none->H' d=some (.dK kvs)->ArK kvs us ks->Q (.ref d) H'
theorem scAround:FnScope ["_law_knots","_law_found","_law_name","_law_some","_law_unit"] ["_law_knots"] (aj jl):=⟨rfl,rfl,rfl,by decide +kernel,rfl,by decide +kernel,by decide +kernel⟩
theorem pB (F:Fun K "_law_around" "_law_around" jl f fd) (B:Blt mg):FnOk P w K mg base CX0 1 f fd ["_law_knots"] fz := by
 refine F.ok scAround (λvs H Q E h=>?_) (λa0 A M s H vs Q E S h=>?_)
 ·obtain⟨a,Z,I,rfl,_⟩:=h
  rfl
 ·obtain⟨a, Z, I, rfl, R, T, k⟩ := h;have G:=scAround.nd;refine⟨_,(ae (ak (i:=1) G rfl (Or.inl rfl) er)
   (ae (aV PassesOwn.never rfl (bd K (pv 0)) (cj (n:=2) K rfl (aO (az (i:=2) G rfl (Or.inl rfl)) (aO (az (i:=3) G rfl (Or.inl rfl)) ci))) (ah (aV PassesOwn.never rfl (bd K (pv 3)) (az (i:=4) G rfl (Or.inl rfl)) (ah (cR (pv 2) (df (pv 1) (pv 4) (dG S.units)))))))
   (ah (aC (pv 1))))),?_⟩
  obtain⟨a',r,e0,Y,X⟩:=eJ R;cases e0;have m:=X.len;rw[wt] at m;have L:(bg I).length<=60:=by rw[T.perm.length_eq];exact T.len
  intro d J;have U:=Same.new (o:=.dK []) J;refine⟨_,rfl,a,rfl,⟨_,.of (U _ _ Y)⟩,?_⟩
  let p:Nat->SH:=λi l e=>∃D C g b,l=[some (.ref a),some (.ref d),D,C,g]/\ArN H e d I i 0 b
  refine cA (R:=Q) (xs:=r) p ?_ ?_ ?_ ?_
  ·exact⟨none,none,none,[],rfl,U,ac,wW _,(λk t=>by simp at t),λk _ u z=>by simp at z⟩
  ·rintro i l e hi ⟨D,C,g,b,rfl,c⟩;exact .of (c.sm _ _ Y)
  ·rintro _ i x l e hx ⟨D,C,g,b,rfl,c⟩;obtain⟨O,ta,W,t,rfl,N,v⟩:=iq X hx;refine⟨ta,_,rfl,.of (c.sm _ _ N),rfl,_,_,rfl,_,_,rfl,rfl,?_⟩;refine⟨_,rfl,W,rfl,⟨_,.of (c.sm _ _ v)⟩,?_⟩
   let q:Nat->SH:=λj l e=>∃g b,l=[some (.ref a),some (.ref d),some (.str O.1),some (.ref W),g]/\ArN H e d I i j b
   refine cA (R:=Q) (xs:=O.2.map V.str) q ?_ ?_ ?_ ?_
   ·exact⟨g,b,rfl,c⟩
   ·rintro j l e hj ⟨g,b,rfl,c⟩;exact .of (c.sm _ _ v)
   ·rintro _ j y l e hy ⟨g,b,rfl,c⟩;obtain⟨u,z,rfl⟩:=aT hy;have S:=c.room t (wv.mp z).1 L;exact⟨_,rfl,_,rfl,_,rfl,.dic (DPut.k (k:=.inr u) c.at_ (aw (by omega))) ⟨_,_,rfl,c.put J T.knd t z⟩⟩
   ·rintro l e ⟨g,b,rfl,c⟩;rw[wt] at c;exact⟨_,_,_,b,rfl,c.next t rfl⟩
  ·rintro l e ⟨D,C,g,b,rfl,c⟩;exact⟨_,rfl,k d b e c.sm J c.at_ (c.fin T m)⟩
def jc:Sp:=λvs H Q _=>∃(q:Addr) (us:LS) (ks:Kn) (ts ws wn:List (Str × Str)),vs=[.ref q]/\Rep H (.ref q) (aX ks ts ws wn)/\Tre us ks/\∀d kvs H',Same H H'->H d=none->H' d=some (.dK kvs)->ArK kvs us ks->Q (.ref d) H'
theorem scHomes:FnScope ["house","table","knot","child"] ["house"] (aj kx):=⟨rfl,rfl,rfl,by decide +kernel,rfl,by decide +kernel,by decide +kernel⟩
theorem ro (F:Fun K "homes" "homes" kx f fd) (B:Blt mg):FnOk P w K mg base CX0 1 f fd ["house"] jc := by
 refine F.ok scHomes (λvs H Q E h=>?_) (λa0 A O s H vs Q E v h=>?_)
 ·obtain⟨q,us,L,Z,ws,wn,rfl,_⟩:=h
  rfl
 ·obtain⟨q, us, L, Z, ws, wn, rfl, R, T, k⟩ := h;have W:=scHomes.nd;refine⟨_,(ae (ak (i:=1) W rfl (Or.inl rfl) er)
   (ae (aV PassesOwn.never rfl (bd K (ai (ap K v.units) (pv 0) af (λ_ _=>rfl))) (az (i:=2) W rfl (Or.inl rfl)) (ah (aV PassesOwn.never rfl (bd K (ai (ap K v.units) (pv 2) af (λ_ _=>rfl))) (az (i:=3) W rfl (Or.inl rfl)) (ah (cR (ai (ap K v.units) (pv 2) af (λ_ _=>rfl)) (df (pv 1) (pv 3) (dG v.units)))))))
   (ah (aC (pv 1))))),?_⟩
  obtain⟨q',a,b,c,d4,S,hq,R1,_⟩:=bW R;cases S;obtain⟨a',t,S,Y,X⟩:=eJ R1;cases S;have p:=X.len;rw[wt] at p;have N:(bg L).length<=60:=by rw[T.perm.length_eq];exact T.len
  intro d M;have U:=Same.new (o:=.dK []) M;refine⟨_,rfl,.tup (.of (U _ _ hq)) rfl ⟨a,rfl,⟨_,.of (U _ _ Y)⟩,?_⟩⟩
  let C:Nat->SH:=λi n l=>∃J m e,n=[some (.ref q),some (.ref d),J,m]/\ArN H l d L i 0 e
  refine cA (R:=Q) (xs:=t) C ?_ ?_ ?_ ?_
  ·exact⟨none,none,[],rfl,U,ac,wW _,(λk D=>by simp at D),λk _ u I=>by simp at I⟩
  ·rintro i n l hi ⟨J,m,e,rfl,g⟩;exact .of (g.sm _ _ Y)
  ·rintro _ i x n l hx ⟨J,m,e,rfl,g⟩;obtain⟨kn,ta,la,D,rfl,z,G⟩:=iq X hx;refine⟨_,rfl,.tup (.of (g.sm _ _ z)) rfl ⟨la,rfl,⟨_,.of (g.sm _ _ G)⟩,?_⟩⟩
   let r:Nat->SH:=λj n l=>∃m e,n=[some (.ref q),some (.ref d),some (.ref ta),m]/\ArN H l d L i j e
   refine cA (R:=Q) (xs:=kn.2.map V.str) r ?_ ?_ ?_ ?_
   ·exact⟨m,e,rfl,g⟩
   ·rintro j n l hj ⟨m,e,rfl,g⟩;exact .of (g.sm _ _ G)
   ·rintro _ j y n l hy ⟨m,e,rfl,g⟩;obtain⟨u,I,rfl⟩:=aT hy;have v:=g.room D (wv.mp I).1 N;exact⟨_,rfl,.tup (.of (g.sm _ _ z)) rfl ⟨_,rfl,_,rfl,.dic (DPut.k (k:=.inr u) g.at_ (aw (by omega))) ⟨_,_,rfl,g.put M T.knd D I⟩⟩⟩
   ·rintro n l ⟨m,e,rfl,g⟩;rw[wt] at g;exact⟨_,_,e,rfl,g.next D rfl⟩
  ·rintro n l ⟨J,m,e,rfl,g⟩;exact⟨_,rfl,k d e l g.sm M g.at_ (g.fin T p)⟩
theorem at0:atI (List.map V.str (x::r)) 0=some (.str x):=cF (j:=0) rfl
def iF (f:Kn->Str->LS):Sp:=λvs H Q _=>∃(d:Addr) (kvs:KV_) (us:LS) (ks:Kn) (u:Str),vs=[.ref d,.str u]/\H d=some (.dK kvs)/\ArK kvs us ks/\Tre us ks/\u∈us/\∀l H',Same H H'->H l=none->H' l=some (.lst (List.map V.str (f ks u)))->Q (.ref l) H'
theorem scLine:FnScope ["table","one","line"] ["table","one"] (aj gC):=⟨rfl,rfl,rfl,by decide +kernel,rfl,by decide +kernel,by decide +kernel⟩
theorem tQ (F:Fun K "line_down" "line_down" gC f fd) (B:Blt mg):FnOk P w K mg base CX0 1 f fd ["table", "one"] (iF lin) := by
 refine F.ok scLine (λvs H Q E h=>?_) (λa0 A O s H vs Q E D h=>?_)
 ·obtain⟨d,g,n,c,u,rfl,_⟩:=h
  rfl
 ·obtain⟨d, g, n, c, u, rfl, S, U, T, L, k⟩ := h;have nd:=scLine.nd;refine⟨_,(ae (ak (i:=2) nd rfl (Or.inl rfl) (bh (aa (pv 1) ab)))
   (ae (du PassesOwn.never (ao (eS D.units) (ai (ap K D.units) (pv 0) (ai (ap K D.units) (pv 2) (fK eN af) (λ_ _=>rfl)) (λ_ _=>rfl)) aM (aB _)) (ah (be (bZ K (pv 2) (aa (ai (ap K D.units) (pv 0) (ai (ap K D.units) (pv 2) (fK eN af) (λ_ _=>rfl)) (λ_ _=>rfl)) ab)))))
   (ae (be (pD K (pv 2)))
   (ah (aC (pv 2)))))),?_⟩
  refine⟨_,rfl,(by show 1<=sizeLine;decide),λj e=>?_⟩;have s0:=Same.new (o:=.lst [V.str u]) e
  let p:Nat->SH:=λm W l=>∃(x:Str) (r:LS),m=rkU n x/\W=[some (.ref d),some (.str u),some (.ref j)]/\l j=some (.lst (List.map V.str (r.reverse++[x])))/\x∈n/\lin c u=lin c (bx c x)++(x::r)/\Same H l
  refine⟨p,
   ⟨_,u,[],rfl,rfl,ac,L,T.lin L,s0⟩,?_⟩
  rintro m W H1 ⟨x,r,rfl,rfl,b,M,a,J⟩;have t:atI (List.map V.str (r.reverse++[x])) (-1)=some (.str x):=by rw[wy];exact im _ _
  have pl:=T.lin_len u (.inr L);have a1:=T.rk60 L;have C:=congrArg List.length a;rw[wB,wC] at C;refine⟨_,rfl,_,rfl,_,rfl,.lst (.of b) t (.dic (.inl ⟨g,.inr x,.inl (J _ _ S),rfl,(U x M).symm⟩) (.sc rfl ⟨_,rfl,?_⟩))⟩;refine aF (λh=>?_) (λh=>?_)
  ·have N:bx c x≠"":=λz=>by rw[z] at h;exact absurd h (by decide)
   have I:=(T.par_in M).1.resolve_left N;have R:=T.rk M
   let v:SH:=λG l=>∃(y:Str) (r:LS),rkU n y<rkU n x/\G=[some (.ref d),some (.str u),some (.ref j)]/\l j=some (.lst (List.map V.str (r.reverse++[y])))/\y∈n/\lin c u=lin c (bx c y)++(y::r)/\Same H l
   refine⟨v,
    λG l ⟨y,r,X,Z⟩=>⟨_,X,y,r,rfl,Z⟩,?_⟩
   refine⟨_,rfl,.inl ⟨rfl,_,.of b⟩,_,rfl,_,rfl,_,rfl,.lst (.of b) t (.dic (.inl ⟨g,.inr x,.inl (J _ _ S),rfl,(U x M).symm⟩) ⟨j,_,_,rfl,rfl,b,by rw[wt,wB,List.length_reverse];exact aw (by show _+1<=_;omega),?_⟩)⟩;refine⟨bx c x,x::r,R,rfl,?_,I,?_,aQ J e⟩
   ·rw[ac,List.reverse_cons];simp
   ·rw[a,T.lin I,xz];rfl
  ·have Y:bx c x="":=Classical.byContradiction λz=>h (by rw[if_pos rfl,wX (λq=>z (V.str.inj q))];rfl);rw[Y,tU,List.nil_append] at a;refine⟨_,rfl,.inl ⟨rfl,_,.of b⟩,j,_,rfl,rfl,b,?_⟩;refine⟨_,rfl,k j _ (aQ J e) e ?_⟩;rw[ac,a,<- List.map_reverse,List.reverse_append,List.reverse_reverse];rfl
theorem scPath:FnScope ["_law_around_here","_law_unit","_law_path_here"] ["_law_around_here","_law_unit"] (aj no):=⟨rfl,rfl,rfl,by decide +kernel,rfl,by decide +kernel,by decide +kernel⟩
theorem sP (F:Fun K "_law_path" "_law_path" no f fd) (B:Blt mg):FnOk P w K mg base CX0 1 f fd ["_law_around_here", "_law_unit"] (iF λks u => tp (lin ks u)) := by
 refine F.ok scPath (λvs H Q E h=>?_) (λY A L s H vs Q E D h=>?_)
 ·obtain⟨d,t,j,ks,u,rfl,_⟩:=h
  rfl
 ·obtain⟨d, t, j, ks, u, rfl, O, S, T, J, k⟩ := h;have nd:=scPath.nd;refine⟨_,(ae (ak (i:=2) nd rfl (Or.inl rfl) (bh (aa (pv 1) ab)))
   (ae (du PassesOwn.never (ao (eS D.units) (ai (ap K D.units) (pv 2) af (λ_ _=>rfl)) aM (aB _)) (ah (be (em K (pv 2) (aa af (aa (ai (ap K D.units) (pv 0) (ai (ap K D.units) (pv 2) af (λ_ _=>rfl)) (λ_ _=>rfl)) ab))))))
   (ah (aC (pv 2))))),?_⟩
  refine⟨_,rfl,(by show 1<=sizeLine;decide),λe c=>?_⟩;have Z:=Same.new (o:=.lst [V.str u]) c
  let v:Nat->SH:=λm N g=>∃(x:Str) (r:LS),m=rkU j x/\N=[some (.ref d),some (.str u),some (.ref e)]/\g e=some (.lst (List.map V.str (x::r)))/\(x=""∨x∈j)/\tp (lin ks u)=tp (lin ks x)++r/\Same H g
  refine⟨v,
   ⟨_,u,[],rfl,rfl,ac,.inr J,(xa _).symm,Z⟩,?_⟩
  rintro m N R ⟨x,r,rfl,rfl,b,l,a,I⟩;have pl:=T.lin_len u (.inr J);have a0:=T.rk60 J;have p:=congrArg List.length a;rw[wB,wC,wC] at p;refine⟨_,rfl,.lst (.of b) at0 (.sc rfl ⟨_,rfl,?_⟩)⟩;refine aF (λh=>?_) (λh=>?_)
  ·have G:x≠"":=λz=>by rw[z] at h;exact absurd h (by decide)
   have l:=l.resolve_left G;have M:=T.rk l
   let n:SH:=λC g=>∃(y:Str) (r:LS),rkU j y<rkU j x/\C=[some (.ref d),some (.str u),some (.ref e)]/\g e=some (.lst (List.map V.str (y::r)))/\(y=""∨y∈j)/\tp (lin ks u)=tp (lin ks y)++r/\Same H g
   refine⟨n,
    λC g ⟨y,r,U,X⟩=>⟨_,U,y,r,rfl,X⟩,?_⟩
   refine⟨_,rfl,.inl ⟨rfl,_,.of b⟩,_,rfl,_,rfl,.lst (.of b) at0 (.dic (.inl ⟨t,.inr x,.inl (I _ _ O),rfl,(S x l).symm⟩) ⟨e,_,_,0,_,rfl,rfl,rfl,b,wW _,by rw[wt,wC];exact aw (by omega),?_⟩)⟩;refine⟨bx ks x,x::r,M,rfl,ac,(T.par_in l).1,?_,aQ I c⟩;rw[a,T.lin l];show ("":Str)::(_++_)++_=("":Str)::_++_;simp
  ·have W:x="":=Classical.byContradiction λz=>h (by rw[if_pos rfl,wX (λq=>z (V.str.inj q))];rfl);subst W;refine⟨_,rfl,k e _ I c ?_⟩;show R e=some (.lst (List.map V.str (tp (lin ks u))));rw[a];exact b
def dJ:Sp:=λvs H Q _=>∃(d:Addr) (kvs:KV_) (us:LS) (ks:Kn) (u v:Str),vs=[.ref d,.str u,.str v]/\H d=some (.dK kvs)/\ArK kvs us ks/\Tre us ks/\u∈us/\v∈us/\∀x H',Same H H'->PrtV H' x (bc ks u v)->Q x H'
theorem scPartBy:FnScope ["table","one","other","knot","pair"] ["table","one","other"] (aj gn):=⟨rfl,rfl,rfl,by decide +kernel,rfl,by decide +kernel,by decide +kernel⟩
theorem ou (F:Fun K "parting_by" "parting_by" gn f fd) (B:Blt mg) (Zz:mg "zip"=none) (a:Cal P w K mg base 1 "line_down" ["table", "one"] (iF lin)):FnOk P w K mg base CX0 2 f fd ["table", "one", "other"] dJ := by
 refine F.ok scPartBy (λvs H Q E h=>?_) (λa1 A S s H vs Q E g h=>?_)
 ·obtain⟨d,m,O,b,u,v,rfl,_⟩:=h
  rfl
 ·obtain⟨d, m, O, b, u, v, rfl, Y, ar, T, hu, hv, k⟩ := h;have U:=scPartBy.nd;refine⟨_,(ae (ak (i:=3) U rfl (Or.inl rfl) aM)
   (ae (aV PassesOwn.never rfl (pk K rfl Zz (aa (au a (g.mono (by decide)) rfl (aa (pv 0) (aa (pv 1) ab))) (aa (au a (g.mono (by decide)) rfl (aa (pv 0) (aa (pv 2) ab))) ab))) (az (i:=4) U rfl (Or.inl rfl)) (ae (aZ (ao (eS g.units) (ai (ap K g.units) (pv 4) af (λ_ _=>rfl)) (ai (ap K g.units) (pv 4) af (λ_ _=>rfl)) (aB _)) (ah (aC (aN (aa (pv 3) (aa (ai (ap K g.units) (pv 4) af (λ_ _=>rfl)) (aa (ai (ap K g.units) (pv 4) af (λ_ _=>rfl)) ab)))))) aK)
   (ah (ak (i:=3) U rfl (Or.inl rfl) (ai (ap K g.units) (pv 4) af (λ_ _=>rfl))))))
   (ah (aC eM)))),?_⟩
  refine⟨_,rfl,_,rfl,d,m,O,b,u,rfl,Y,ar,T,hu,λla H1 R Z X=>?_⟩;refine⟨_,rfl,_,rfl,d,m,O,b,v,rfl,R _ _ Y,ar,T,hv,λlb H2 W a0 I=>?_⟩;have j:=W _ _ X;refine⟨la,lb,_,_,rfl,.of j,.of I,?_⟩
  let D:Nat->SH:=λi J C=>∃L,J=[some (.ref d),some (.str u),some (.str v),some (.str ((tp (lin b u)).getD i "")),L]/\Same H2 C/\bc b u v=prt ((tp (lin b u)).getD i "") ((lin b u).drop i) ((lin b v).drop i)
  refine ub (xs:=List.map V.str (lin b u)) (ys:=List.map V.str (lin b v)) D ?_ ?_ ?_ ?_
  ·exact⟨none,rfl,Same.refl H2,rfl⟩
  ·rintro i J C hi ⟨L,rfl,r,_⟩;exact⟨.of (r _ _ j),.of (r _ _ I)⟩
  ·rintro i x y p J C n ⟨L,rfl,r,c⟩ N;rw[xy] at n;obtain⟨x,hx,rfl⟩:=aT n.1;obtain⟨y,hy,rfl⟩:=aT n.2;have sp:=Same.new (o:=.tup [V.str x,V.str y]) N;have G:upd C p (.tup [V.str x,V.str y]) p=some (.tup [V.str x,V.str y]):=ac;have l1:=wv.mp hx;have l2:=wv.mp hy;rw[xT l1.1,xT l2.1,l1.2,l2.2] at c;have c:bc b u v=if x=y then prt x ((lin b u).drop (i+1)) ((lin b v).drop (i+1)) else some ((tp (lin b u)).getD i "",x,y):=c
   refine⟨_,rfl,.tup (.of G) rfl ⟨_,rfl,.tup (.of G) rfl (.sc rfl ⟨_,rfl,?_⟩)⟩⟩;refine aF (λh=>?_) (λh=>?_)
   ·have M:x≠y:=λz=>by rw[z,if_pos rfl,wF rfl] at h;cases h
    rw[if_neg M] at c;refine⟨_,rfl,_,rfl,.tup (.of G) rfl ⟨_,rfl,.tup (.of G) rfl ⟨(by show 3<=sizeLine;decide),λt ht=>?_⟩⟩⟩;refine k (.ref t) _ (((R.trans W).trans r).trans (sp.trans (Same.new ht))) ?_;rw[c];exact⟨t,rfl,ac⟩
   ·have he:x=y:=Classical.byContradiction λz=>h (by rw[if_pos rfl,wX (λq=>z (V.str.inj q))];rfl);rw[if_pos he] at c;have e:(tp (lin b u)).getD (i+1) ""=x:=by rw[w6];show ((lin b u)[i]?).getD ""=x;rw[hx];rfl
    refine⟨_,rfl,.tup (.of G) rfl ⟨some (.ref p),?_,r.trans sp,?_⟩⟩
    ·rw[e];rfl
    ·rw[e];exact c
  ·rintro J C ⟨L, rfl, r, c⟩;have hn:bc b u v=none:=by
    rw[c,xx,wt,wt];by_cases q:(lin b u).length<=(lin b v).length
    ·rw[ya (l:=lin b u) (by omega)];rfl
    ·rw[ya (l:=lin b v) (by omega)];cases (lin b u).drop (min (lin b u).length (lin b v).length) <;> rfl
   refine k .non C ((R.trans W).trans r) ?_;rw[hn];rfl
theorem scLPart:FnScope ["_law_around_here","_law_one","_law_other","_law_here","_law_there","_law_at"] ["_law_around_here","_law_one","_law_other"] (aj fM):=⟨rfl,rfl,rfl,by decide +kernel,rfl,by decide +kernel,by decide +kernel⟩
theorem rE (F:Fun K "_law_parting" "_law_parting" fM f fd) (B:Blt mg) (c:Cal P w K mg base 1 "_law_path" ["_law_around_here", "_law_unit"] (iF λks u => tp (lin ks u))):FnOk P w K mg base CX0 2 f fd ["_law_around_here", "_law_one", "_law_other"] dJ := by
 refine F.ok scLPart (λvs H Q E h=>?_) (λa1 A S s H vs Q E l h=>?_)
 ·obtain⟨d,p,N,ks,u,v,rfl,_⟩:=h
  rfl
 ·obtain⟨d, p, N, ks, u, v, rfl, Y, ar, T, hu, hv, k⟩ := h;have J:=scLPart.nd;refine⟨_,(ae (ak (i:=3) J rfl (Or.inl rfl) (au c (l.mono (by decide)) rfl (aa (pv 0) (aa (pv 1) ab))))
   (ae (ak (i:=4) J rfl (Or.inl rfl) (au c (l.mono (by decide)) rfl (aa (pv 0) (aa (pv 2) ab))))
   (ae (ak (i:=5) J rfl (Or.inl rfl) af)
   (ae (du PassesOwn.never (PW.pt (bR (ao dt (pv 5) (km rfl B (aa (ba K B (aa (pv 3) ab)) (aa (ba K B (aa (pv 4) ab)) ab))) (aB _)) (bw (ao (bn l.units) (ai (ap K l.units) (pv 3) (pv 5) (λ_ _=>rfl)) (ai (ap K l.units) (pv 4) (pv 5) (λ_ _=>rfl)) (aB _))))) (ah (ak (i:=5) J rfl (Or.inl rfl) (aD aL (pv 5) af))))
   (ae (aZ (ao (bn l.units) (pv 5) (km rfl B (aa (ba K B (aa (pv 3) ab)) (aa (ba K B (aa (pv 4) ab)) ab))) (aB _)) (ah (aC eM)) aK)
   (ah (aC (aN (aa (ai (ap K l.units) (pv 3) (aD pi (pv 5) af) (λ_ _=>rfl)) (aa (ai (ap K l.units) (pv 3) (pv 5) (λ_ _=>rfl)) (aa (ai (ap K l.units) (pv 4) (pv 5) (λ_ _=>rfl)) ab))))))))))),?_⟩
  refine⟨_,rfl,_,rfl,d,p,N,ks,u,rfl,Y,ar,T,hu,λla H1 s1 Z X=>?_⟩;refine⟨_,rfl,_,rfl,d,p,N,ks,v,rfl,s1 _ _ Y,ar,T,hv,λlb H2 s2 a0 g=>?_⟩;have e:=s2 _ _ X;have C:=s1.trans s2;have M:(List.map V.str (tp (lin ks u))).length=(lin ks u).length+1:=by rw[wt,wC]
  have O:(List.map V.str (tp (lin ks v))).length=(lin ks v).length+1:=by rw[wt,wC]
  let r:Nat->SH:=λm σ G=>∃i:Nat,m=(lin ks u).length+2-i/\σ=[some (.ref d),some (.str u),some (.str v),some (.ref la),some (.ref lb),some (.int (i:Int))]/\i<=min ((lin ks u).length+1) ((lin ks v).length+1)/\Gon (lin ks u) (lin ks v) i/\G=H2
  refine⟨r,
   ⟨_,0,rfl,rfl,wW _,.inl rfl,rfl⟩,?_⟩
  rintro m σ H3 ⟨i,rfl,rfl,hi,n,rfl⟩;have o:∀a b:Nat,(if ((b:Nat):Int)<((a:Nat):Int) then ((b:Nat):Int) else ((a:Nat):Int))=((min a b:Nat):Int):=λa b=>by split <;> omega
  refine⟨_,rfl,_,rfl,_,_,rfl,Or.inl ⟨_,.of e,rfl⟩,_,rfl,_,_,rfl,Or.inl ⟨_,.of g,rfl⟩,_,_,rfl,.int ⟨_,rfl,?_⟩⟩;rw[M,O,o];have mn:∀j,j<min ((lin ks u).length+1) ((lin ks v).length+1)->∃x y,(tp (lin ks u))[j]? = some x/\(tp (lin ks v))[j]? = some y:=λj hj =>
   ⟨_,_,wP (by rw[wC];omega),wP (by rw[wC];omega)⟩
  refine aF (λh=>?_) (λh=>?_)
  ·have h:(i:Int)<((min ((lin ks u).length+1) ((lin ks v).length+1):Nat):Int) := wK h;have hi:i<min ((lin ks u).length+1) ((lin ks v).length+1):=by omega
   obtain⟨x,y,U,R⟩:=mn i hi;have ax:atI (List.map V.str (tp (lin ks u))) (i:Int)=some (.str x):=cF (by rw[wN,U];rfl);have ay:atI (List.map V.str (tp (lin ks v))) (i:Int)=some (.str y):=cF (by rw[wN,R];rfl);refine⟨_,rfl,_,rfl,.lst (.of e) ax ⟨_,rfl,_,rfl,.lst (.of g) ay (.sc rfl ⟨_,rfl,?_⟩)⟩⟩;refine aF (λI=>?_) (λI=>?_)
   ·have he:x=y:=Classical.byContradiction λz=>by rw[if_neg (by decide),wX (λq=>z (V.str.inj q))] at I;cases I
    subst he;refine⟨λD G=>D=[some (.ref d),some (.str u),some (.str v),some (.ref la),some (.ref lb),some (.int ((i+1:Nat):Int))]/\G=H3,λD G ⟨h1,W⟩=>⟨(lin ks u).length+2-(i+1),by omega,i+1,rfl,h1,by omega,n.step U R,W⟩,?_⟩;exact⟨_,rfl,.int ⟨rfl,rfl⟩⟩
   ·have L:x ≠ y := λz => I (by rw[z, if_neg (by decide), wF rfl]);obtain⟨h1,hp⟩:=n.part U R L;refine⟨_,rfl,_,rfl,_,_,rfl,Or.inl ⟨_,.of e,rfl⟩,_,rfl,_,_,rfl,Or.inl ⟨_,.of g,rfl⟩,_,_,rfl,.sc rfl ⟨_,rfl,?_⟩⟩;rw[M,O,o];refine aF (λh=>?_) (λ_=>?_)
    ·exfalso;have h:V.int (i:Int)=V.int ((min ((lin ks u).length+1) ((lin ks v).length+1):Nat):Int):=wK h;have:=V.int.inj h;omega
    ·have aq:atI (List.map V.str (tp (lin ks u))) ((i:Int)-1)=some (.str ((tp (lin ks u)).getD (i-1) "")):=by
        rw[show (i:Int)-1=((i-1:Nat):Int) by omega];exact de (by rw[wC];omega)
     refine⟨_,rfl,_,rfl,_,_,rfl,rfl,.lst (.of e) aq ⟨_,rfl,_,rfl,.lst (.of e) ax ⟨_,rfl,_,rfl,.lst (.of g) ay ⟨(by show 3<=sizeLine;decide),λt ht=>?_⟩⟩⟩⟩;refine k (.ref t) _ (C.trans (Same.new ht)) ?_;show PrtV _ _ (prt "" (lin ks u) (lin ks v));rw[hp];exact⟨t,rfl,ac⟩
  ·have h:¬ (i:Int)<((min ((lin ks u).length+1) ((lin ks v).length+1):Nat):Int):=λz=>h (wF z);have hz:=n.stop (by omega);refine cY ?_;refine⟨_,rfl,_,rfl,_,_,rfl,Or.inl ⟨_,.of e,rfl⟩,_,rfl,_,_,rfl,Or.inl ⟨_,.of g,rfl⟩,_,_,rfl,.sc rfl ⟨_,rfl,?_⟩⟩;rw[M,O,o];refine aF (λ_=>?_) (λW=>?_)
   ·refine k .non H3 C ?_;show PrtV _ _ (prt "" (lin ks u) (lin ks v));rw[hz];rfl
   ·exfalso;refine W ?_;rw[if_neg (by decide),decide_eq_true_iff];congr 1;omega
def pL (K:W.Frag):Sp:=λvs H Q _=>∃(p a n:Addr) (us:LS) (dp:Int),vs=[.ref p,.ref n,.int dp]/\Pen K H p a/\H n=some (.lst (List.map V.str us))/\n≠p/\us.Nodup/\(∀u∈us,Nm u)/\us.length<=60 /\
 ∀q ks H',Rep H' (.ref q) (cZ ks)->Tre us ks->PenV H' p a->But p H H'->Q (.ref q) H'
theorem scTree:FnScope ["_law_pen_here","_law_names_here","_law_deep","_law_knots","_law_levels","_law_name","_law_knot","_law_some"] ["_law_pen_here","_law_names_here","_law_deep"] (aj kj):=⟨rfl,rfl,rfl,by decide +kernel,rfl,by decide +kernel,by decide +kernel⟩
theorem sY (F:Fun K "_law_tree" "_law_tree" kj f fd) (B:Blt mg) (l:Cal P w K mg base 1 "_law_draw" ["_law_pen_here", "_law_most"] (dR K)):FnOk P w K mg base CX0 2 f fd ["_law_pen_here", "_law_names_here", "_law_deep"] (pL K) := by
 refine F.ok scTree (λvs H Q E h=>?_) (λk9 A i7 s H vs Q E hr h=>?_)
 ·obtain⟨p,a,n,us,dp,rfl,_⟩:=h
  rfl
 ·obtain⟨p, a, n, us, dp, rfl, hP, hn, g5, c4, g7, g0, k⟩ := h;have nd:=scTree.nd;have v0:=hP.2;refine⟨_,(ae (ak (i:=3) nd rfl (Or.inl rfl) (bh (aa (aN (aa aM (aa (bh ab) ab))) ab)))
   (ae (ak (i:=4) nd rfl (Or.inl rfl) (tJ (qu aM af t6) rfl rfl (by simp) (by decide)))
   (ae (aV PassesOwn.never rfl (bt K (pv 1)) (az (i:=5) nd rfl (Or.inl rfl)) (ae (cR (ai (ap K hr.units) (pv 3) (au l (hr.mono (by decide)) rfl (aa (pv 0) (aa (ba K B (aa (pv 3) ab)) ab))) (λ_ _=>rfl)) (cj (n:=2) K rfl (aO (az (i:=6) nd rfl (Or.inl rfl)) (aO (az (i:=7) nd rfl (Or.inl rfl)) ci))))
   (ae (be (em K (pv 7) (aa (au l (hr.mono (by decide)) rfl (aa (pv 0) (aa (aD aL (ba K B (aa (pv 7) ab)) af) ab))) (aa (pv 5) ab))))
   (ah (aZ (PW.pt (bR (ao dt (ai (ap K hr.units) (pv 4) (pv 6) (λ_ _=>rfl)) (pv 2) (aB _)) (bw (ao (bn hr.units) (au l (hr.mono (by decide)) rfl (aa (pv 0) (aa af ab))) af (aB _))))) (ae (cR (aD aL (ai (ap K hr.units) (pv 4) (pv 6) (λ_ _=>rfl)) af) (df (pv 4) (pv 5) (dG hr.units)))
   (ah (be (em K (pv 3) (aa (aD aL af (au l (hr.mono (by decide)) rfl (aa (pv 0) (aa (ba K B (aa (pv 3) ab)) ab)))) (aa (aN (aa (pv 5) (aa (bh ab) ab))) ab)))))) aK)))))
   (ah (aC (cQ K B (aa (gT (aj kj) ["_law_pen_here","_law_names_here","_law_deep","_law_knots","_law_levels","_law_name","_law_knot","_law_some"] ["_law_name","_law_some"] [] ["_law_name","_law_some"] rfl (bt K (pv 3)) (λ_ _ _ _ _=>(cj (n:=2) K rfl (aO (az (i:=0) (show (["_law_name","_law_some"]:LS).Nodup by decide) rfl (Or.inl rfl)) (aO (az (i:=1) (show (["_law_name","_law_some"]:LS).Nodup by decide) rfl (Or.inl rfl)) ci)))) (λ_ _ _ _ _=>dh) (λ_ _ _ _ _=>(aN (aa (pv 0) (aa (cQ K B (aa (pv 1) ab)) ab))))) ab))))))),?_⟩
  have nn:∀u∈us,u≠"":=λu hu z=>by have:=(g7 u hu).1;rw[z] at this;exact absurd this (by decide)
  refine⟨(by show 0<=sizeLine;decide),λX h0=>?_⟩;have b0:But p H (upd H X (.lst [])):=(But.refl p H).at h0;have e0:upd H X (.lst []) X=some (.lst []):=ac;have v1:PenV (upd H X (.lst [])) p a:=v0.upd (v0.ne h0);have k2:X≠p:=Ne.symm (v0.ne h0);generalize upd H X (.lst [])=H1 at b0 e0 v1 ⊢;refine⟨(by show 2<=sizeLine;decide),λt0 j8=>?_⟩;have s2:=Same.new (o:=.tup [V.str "",V.ref X]) j8;have et:upd H1 t0 (.tup [V.str "",V.ref X]) t0=some (.tup [V.str "",V.ref X]):=ac;have e0:=s2 _ _ e0;have v2:=aI s2 v1;have b2:=b0.trans (But.of_same (p:=p) s2);generalize upd H1 t0 (.tup [V.str "",V.ref X])=H2 at et e0 v2 b2 ⊢;refine⟨(by show 1<=sizeLine;decide),λL hL=>?_⟩;have s3:=Same.new (o:=.lst [V.ref t0]) hL;have eL:upd H2 L (.lst [V.ref t0]) L=some (.lst [V.ref t0]):=ac;have j2:X≠L:=av e0 hL;have d4:L≠p:=Ne.symm (v2.ne hL);have e0:=s3 _ _ e0;have et:=s3 _ _ et;have v3:=aI s3 v2;have b3:=b2.trans (But.of_same (p:=p) s3);generalize upd H2 L (.lst [V.ref t0])=H3 at eL et e0 v3 b3 ⊢;have d:KLs H3 L p [(t0,X,("",[]))]:=⟨eL,λq G=>by rw[wO.mp G];exact et,λq G=>by rw[wO.mp G];exact e0,by simp,λq G=>by rw[wO.mp G];exact⟨j2,k2⟩,d4⟩
  intro D hD;refine⟨ac,[(.inr "",.int 0)],rfl,(by decide),?_⟩;rw[lT];have s4:=Same.new (o:=.dK (eO [] [((.inr "":Key),V.int 0)])) hD;have eD:upd H3 D (.dK (eO [] [((.inr "":Key),V.int 0)])) D=some (.dK [((.inr "":Key),V.int 0)]):=ac;have d:=d.same s4;have v4:=aI s4 v3;have b4:=b3.trans (But.of_same (p:=p) s4);have hf:H D=none:=b3.free (Ne.symm (v3.ne hD)) hD;generalize upd H3 D (.dK (eO [] [((.inr "":Key),V.int 0)]))=H4 at eD d v4 b4 ⊢;have j6:H L=none:=b2.free d4 hL;have j1:H X=none:=h0;refine⟨_,rfl,n,rfl,⟨_,.of (b4 n _ g5 hn)⟩,?_⟩
  let f9:Nat->SH:=λi σ I=>∃(o5 o6 o7:Option V) (t:KL) (C:KV_),σ=[some (.ref p),some (.ref n),some (.int dp),some (.ref L),some (.ref D),o5,o6,o7]/\KLs I L p t/\TrN us i (cO t)/\I D=some (.dK C)/\C.length<=i+1/\t.length<=i+1/\(∀k∈cO t,∃m:Int,aG C (.inr k.1)=some (.int m))/\(∀q∈t,H q.2.1=none)/\PenV I p a/\But p H I
  refine cM (R:=Q) (xs:=List.map V.str us) f9 ?_ ?_ ?_ ?_
  ·refine⟨none,none,none,_,_,rfl,d,TrN.start,eD,wr _,wr _,λk hk=>?_,λq G=>?_,v4,b4⟩
   ·rw[wO.mp hk];exact⟨0,rfl⟩
   ·rw[wO.mp G];exact j1
  ·rintro i σ I hi ⟨o5,o6,o7,t,C,rfl,_,_,_,_,_,_,_,_,b⟩;exact .of (b n _ g5 hn)
  ·rintro _ i x σ H5 hx ⟨o5, o6, o7, t, C, rfl, d, tr, e5, j9, d5, c2, frs, v5, b5⟩;obtain⟨u,hu,rfl⟩:=aT hx;have h8:=(wv.mp hu).1;have i2:=wE hu;obtain⟨k8,f3⟩:=bX v5;have d8:(t.map λq=>V.ref q.1).length=t.length:=wt ..;have k3:0<t.length:=by
    have:=List.length_pos_of_mem tr.top;rw[wt,wt] at this;exact this
   refine⟨_,rfl,_,rfl,_,rfl,_,_,rfl,Or.inl ⟨_,.of d.l,rfl⟩,p,a,_,rfl,hP.but b5 v5,by rw[d8];omega,by rw[d8];omega,λr H6 i5 i9 v6 e6=>?_⟩;have c9:=But.of_eq e6;have d:=d.draw f3 c9;have h7:H6 D=some (.dK C):=c9 D _ (bP e5 f3 (by intro z;cases z)) e5;have b6:=b5.trans c9;obtain⟨j,rfl⟩:=xc i5;rw[d8] at i9;obtain⟨⟨ta,O,J,g⟩,hj⟩:∃q,t[j]? = some q:=⟨_,wP (by omega)⟩
   have W:=wE hj;have a2:(cO t)[j]? = some (J,g):=by rw[wN,hj];rfl
   have f8:=d.t _ W;have Y:=d.c _ W;have g4:=d.nl _ W;refine .lst (.of d.l) (cF (by rw[wN,hj];rfl)) ⟨ta,_,rfl,.of f8,rfl,_,_,rfl,_,_,rfl,rfl,?_⟩;have k4:g.length<=i:=by
    have h1:=tr.perm.length_eq;rw[xi] at h1;have h3:g.length<=(bg (cO t)).length:=by
     have:=(List.sublist_flatten_of_mem (L:=(cO t).map (·.2)) (ww.mpr ⟨(J,g),wE a2,rfl⟩)).length_le;rw[<- List.flatMap_def] at this;exact this
    omega
   have a8:(List.map V.str g).length=g.length:=wt ..;obtain⟨l3,g2⟩:=bX v6;refine⟨_,rfl,.inl ⟨rfl,_,.of Y⟩,_,rfl,_,rfl,_,_,rfl,Or.inl ⟨_,.of Y,rfl⟩,.int ⟨p,a,_,rfl,hP.but b6 v6,by rw[a8];omega,by rw[a8];omega,λr2 H7 i8 i3 v7 e7=>?_⟩⟩;have d7:=But.of_eq e7;have d:=d.draw g2 d7;have g8:H7 D=some (.dK C):=d7 D _ (bP h7 g2 (by intro z;cases z)) h7;have b7:=b6.trans d7;have Y:=d.c _ W;obtain⟨m,rfl⟩:=xc i8;rw[a8] at i3;refine⟨_,rfl,O,_,_,m,_,rfl,rfl,rfl,Y,by rw[a8];omega,by rw[a8];exact aw (by omega),?_⟩;have e8:(List.map V.str g).take m++V.str u::(List.map V.str g).drop m=List.map V.str (g.take m++u::g.drop m):=by simp[List.map_take,xV]
   rw[e8];have pc:=dP g m u;have b1:=tr.step c4 hu a2 pc;have d:=d.put (ch':=g.take m++u::g.drop m) hj;have c7:cO (t.set j (ta,O,(J,g.take m++u::g.drop m)))=(cO t).set j (J,g.take m++u::g.drop m):=List.map_set ..;rw[<- c7] at b1;have Z:upd H7 O (.lst (List.map V.str (g.take m++u::g.drop m))) D=some (.dK C):=by rw[ag (bP g8 Y (by intro z;cases z))];exact g8
   have v8:=v7.upd (o:=.lst (List.map V.str (g.take m++u::g.drop m))) (Ne.symm g4.2);have b8:=b7.at (o:=.lst (List.map V.str (g.take m++u::g.drop m))) (frs _ W);generalize upd H7 O (.lst (List.map V.str (g.take m++u::g.drop m)))=H8 at d Z v8 b8 ⊢;have e1:((t.set j (ta,O,(J,g.take m++u::g.drop m))).map λq=>q.2.1)=t.map λq=>q.2.1:=fi hj rfl;have en:((cO (t.set j (ta,O,(J,g.take m++u::g.drop m)))).map λk=>k.1)=(cO t).map λk=>k.1:=by rw[c7];exact fi a2 rfl
   have a7:∀q∈t.set j (ta,O,(J,g.take m++u::g.drop m)),H q.2.1=none:=λq G=>by
    have:q.2.1∈t.map λq=>q.2.1:=by rw[<- e1];exact ww.mpr ⟨q,G,rfl⟩
    obtain⟨q',i1,e⟩:=ww.mp this;rw[<- e];exact frs q' i1
   have a4:∀k∈cO (t.set j (ta,O,(J,g.take m++u::g.drop m))),∃m:Int,aG C (.inr k.1)=some (.int m):=λk hk=>by
    have:k.1∈(cO t).map λk=>k.1:=by rw[<- en];exact ww.mpr ⟨k,hk,rfl⟩
    obtain⟨k',c8,e⟩:=ww.mp this;rw[<- e];exact c2 k' c8
   have c5:u∉(cO (t.set j (ta,O,(J,g.take m++u::g.drop m)))).map (·.1):=λz=>by
    rw[en] at z;obtain⟨k',c8,e⟩:=ww.mp z;rcases tr.sub k' c8 with q | q
    ·exact nn u i2 (e.symm.trans q)
    ·rw[e] at q;obtain⟨m',d6⟩:=yi q;have h9:=(wv.mp d6).1;rw[xi] at h9;rw[List.getElem?_take_of_lt (by omega)] at d6;have:=(List.getElem?_inj (by omega) c4).mp (d6.trans hu.symm);omega
   have e3:(t.set j (ta,O,(J,g.take m++u::g.drop m))).length<=i+1:=by rw[List.length_set];exact d5
   obtain⟨lm,h5⟩:=c2 (J,g) (wE a2);clear e8 c7 en e1 c2 frs a2 hj W tr f8 Y g4;generalize t.set j (ta,O,(J,g.take m++u::g.drop m))=y at d b1 a7 a4 c5 e3;have d1:∀I,KLs I L p y->I D=some (.dK C)->PenV I p a->But p H I->∃(o5 o6 o7:Option V) (t:KL) (C:KV_),[some (V.ref p),some (.ref n),some (.int dp),some (.ref L),some (.ref D),some (.str u),some (.str J),some (.ref O)]=[some (V.ref p),some (.ref n),some (.int dp),some (.ref L),some (.ref D),o5,o6,o7]/\KLs I L p t/\TrN us (i+1) (cO t)/\I D=some (.dK C)/\C.length<=i+1+1/\t.length<=i+1+1/\(∀k∈cO t,∃m:Int,aG C (.inr k.1)=some (.int m))/\(∀q∈t,H q.2.1=none)/\PenV I p a/\But p H I :=
    λI h1 h2 h3 h4=>⟨_,_,_,y,C,rfl,h1,b1,h2,by omega,by omega,a4,a7,h3,h4⟩
   refine⟨_,rfl,_,rfl,.dic (.inl ⟨C,.inr J,.inl Z,rfl,h5.symm⟩) ⟨_,rfl,.int ⟨_,rfl,?_⟩⟩⟩;refine aF (λ_=>?_) (λ_=>?_)
   ·obtain⟨k5, d2⟩ := bX v8;refine⟨_,rfl,p,a,3,rfl,hP.but b8 v8,by decide,by decide,λr3 H9 l2 k6 v9 e9=>.sc rfl ⟨_,rfl,?_⟩⟩;have d3:=But.of_eq e9;have d:=d.draw d2 d3;have a0:H9 D=some (.dK C):=d3 D _ (bP Z d2 (by intro z;cases z)) Z;have b9:=b8.trans d3;refine aF (λ_=>?_) (λ_=>?_)
    ·refine⟨_, rfl, _, rfl, .dic (.inl ⟨C, .inr J, .inl a0, rfl, h5.symm⟩) (.int ⟨_, rfl, _, rfl, .dic (DPut.k (k := .inr u) a0 (aw (by omega))) ?_⟩)⟩;have d9:upd H9 D (.dK (aY C (.inr u) (.int (lm+1)))) D=some (.dK (aY C (.inr u) (.int (lm+1)))):=ac;have g9:D≠p:=bP Z d2 (by intro z;cases z);have N:KLs (upd H9 D (.dK (aY C (.inr u) (.int (lm+1))))) L p y :=
      ⟨by rw[ag (bP d.l a0 (by intro z;cases z))];exact d.l,λq G=>by rw[ag (bP (d.t q G) a0 (by intro z;cases z))];exact d.t q G,λq G=>by rw[ag (bP (d.c q G) a0 (by intro z;cases z))];exact d.c q G,d.nd,d.nl,d.lp⟩
     have vA:=v9.upd (o:=.dK (aY C (.inr u) (.int (lm+1)))) (Ne.symm g9);have bA:=b9.at (o:=.dK (aY C (.inr u) (.int (lm+1)))) hf;have j4:=bv C (.inr u) (V.int (lm+1));have a5:∀k:Str,(k=u∨∃m:Int,aG C (.inr k)=some (.int m))->∃m:Int,aG (aY C (.inr u) (.int (lm+1))) (.inr k)=some (.int m):=λk hk=>by
      rw[dr];by_cases q:k=u
      ·rw[if_pos (by rw[q])];exact⟨_,rfl⟩
      ·rw[if_neg (λz=>q (by injection z))];exact hk.resolve_left q
     clear d1 d;generalize aY C (.inr u) (V.int (lm+1))=e2 at d9 N vA bA j4 a5 ⊢;generalize upd H9 D (.dK e2)=HA at d9 N vA bA ⊢;obtain⟨k7,j0⟩:=bX vA;have c1:(y.map λq=>V.ref q.1).length=y.length:=wt ..;have k0:0<y.length:=by
      have:=List.length_pos_of_mem b1.top;rw[wt,wt] at this;exact this
     refine⟨_,rfl,.inl ⟨rfl,_,.of N.l⟩,_,rfl,_,rfl,_,_,rfl,Or.inl ⟨_,.of N.l,rfl⟩,p,a,_,rfl,hP.but bA vA,by rw[c1];omega,by rw[c1];omega,λr4 HB j5 i0 vB eB=>.int ?_⟩;have e4:=But.of_eq eB;have a1:=N.draw j0 e4;have i6:HB D=some (.dK e2):=e4 D _ g9 d9;have bB:=bA.trans e4;obtain⟨c,rfl⟩:=xc j5;rw[c1] at i0;refine⟨_,rfl,(by show 0<=sizeLine;decide),λS a6=>?_⟩;have s1:=Same.new (o:=.lst []) a6;have el:upd HB S (.lst []) S=some (.lst []):=ac;have f0:S≠p:=Ne.symm (vB.ne a6);have j7:S≠L:=Ne.symm (av a1.l a6);have i4:S∉y.map λq=>q.2.1:=λz=>by
      obtain⟨q,G,e⟩:=ww.mp z;have:=a1.c q G;rw[e,a6] at this;cases this
     have j3:H S=none:=bB.free f0 a6;have c6:=a1.same s1;have f4:=s1 _ _ i6;have vC:=aI s1 vB;have bC:=bB.trans (But.of_same (p:=p) s1);generalize upd HB S (.lst [])=HC at el c6 f4 vC bC ⊢;refine⟨(by show 2<=sizeLine;decide),λtn k1=>?_⟩;have s2:=Same.new (o:=.tup [V.str u,V.ref S]) k1;have f7:upd HC tn (.tup [V.str u,V.ref S]) tn=some (.tup [V.str u,V.ref S]):=ac;have el:=s2 _ _ el;have U:=c6.same s2;have d0:=s2 _ _ f4;have vD:=aI s2 vC;have bD:=bC.trans (But.of_same (p:=p) s2);generalize upd HC tn (.tup [V.str u,V.ref S])=HD at f7 el U d0 vD bD ⊢;refine⟨L,_,_,c+1,_,rfl,rfl,by omega,U.l,by rw[c1];omega,by rw[c1];exact aw (by omega),?_⟩;have f6:=U.ins (k:=c+1) f7 el i4 j7 f0;have ek:cO (y.take (c+1)++(tn,S,(u,[]))::y.drop (c+1))=(cO y).take (c+1)++(u,[])::(cO y).drop (c+1):=by simp[List.map_take,xV]
     have h6:=b1.knot c4 nn hu c5 (c+1);rw[<- ek] at h6;refine⟨_,_,_,y.take (c+1)++(tn,S,(u,[]))::y.drop (c+1),e2,rfl,f6,h6,?_,by omega,?_,λk hk=>?_,λq G=>?_,vD.upd (Ne.symm d4),bD.at j6⟩
     ·rw[ag (bP d0 U.l (by intro z;cases z))];exact d0
     ·rw[(dP y (c+1) (tn,S,(u,([]:LS)))).length_eq,wC];omega
     ·rw[ek] at hk;rcases dA hk with rfl | hk
      ·exact a5 _ (.inl rfl)
      ·exact a5 _ (.inr (a4 k hk))
     ·rcases dA G with rfl | G
      ·exact j3
      ·exact a7 q G
    ·exact d1 H9 d a0 v9 b9
   ·exact d1 H8 d Z v8 b8
  ·rintro σ H5 ⟨o5, o6, o7, t, C, rfl, d, tr, e5, j9, d5, c2, frs, v5, b5⟩;rw[wt] at tr d5;have T:=tr.fin c4 g7 g0;refine⟨_,rfl,L,rfl,⟨_,.of d.l⟩,?_⟩
   let g6:Addr->Nat->LV->SH:=λD2 i c0 c3 I=>∃(o0 o1:Option V),c3=[o0,o1]/\RepAll I c0 (((cO t).take i).map dH)/\Same H5 I/\H5 D2=none
   refine cU (t.map λq=>V.ref q.1) g6 λD2 f5=>⟨?_,?_,?_,?_⟩
   ·exact⟨none,none,rfl,.nil,Same.new f5,f5⟩
   ·rintro i c0 c3 I _ ⟨o0,o1,rfl,_,sm,_⟩ _;exact .of (sm _ _ d.l)
   ·rintro i c0 c3 I v hv ⟨o0,o1,rfl,rp,sm,a9⟩ a3;rw[wN] at hv;obtain⟨⟨ta,O,J,g⟩,G,e⟩:∃q,t[i]? = some q/\V.ref q.1=v:=by
     cases q:t[i]? with
     | none=>rw[q] at hv;cases hv
     | some e=>rw[q] at hv;exact⟨e,rfl,wA hv⟩
    have f1:=wE G;have h8:=(wv.mp G).1;have g3:=rp.len;rw[wt,xi] at g3;refine we e.symm (.of (sm _ _ (d.t _ f1))) ?_;refine⟨_,rfl,_,rfl,O,_,rfl,.of (sm _ _ (d.c _ f1)),λl1 h1=>⟨(by show 2<=sizeLine;decide),λt1 g1=>?_⟩⟩;have s1:=(Same.new (o:=.tup (List.map V.str g)) h1).trans (Same.new (o:=.tup [V.str J,V.ref l1]) g1);have r1:Rep (upd (upd I l1 (.tup (List.map V.str g))) t1 (.tup [V.str J,V.ref l1])) (.ref t1) (dH (J,g)):=.tup ac (.cons (.str _) (.cons (.tup (Same.new g1 _ _ ac) (RepAll.of_strs g)) .nil));have M:=s1 _ _ a3;have rp:=rp.same s1;have f2:=sm.trans s1;generalize upd (upd I l1 (.tup (List.map V.str g))) t1 (.tup [V.str J,V.ref l1])=H6 at M rp f2 r1 ⊢;refine⟨M,aw (by omega),_,_,rfl,?_,aQ f2 a9,a9⟩;have ei:(cO t)[i]? = some (J,g):=by rw[wN,G];rfl
    rw[wG,ei,wy];exact RepAll.append (aJ (fL M But.upd) rp) (.cons (fL M But.upd r1) .nil)
   ·rintro c0 c3 H6 ⟨o0,o1,rfl,rp,sm,a9⟩ a3;rw[wt,<- wt (f:=λq:Addr × Addr × (Str × LS)=>q.2.2),wI (wr _)] at rp;refine⟨D2,_,rfl,.of a3,λq G=>?_⟩;have sq:=Same.new (o:=.tup c0) G;have s5:=sm.trans sq;exact k q (cO t) _ (.tup ac (rp.same sq)) T (aI s5 v5) (b5.trans (But.of_same (p:=p) s5))
def jS:Sp:=λvs H Q _=>∃(e:Addr) (one:Str) (refs:LV) (ps:List (Str × Str)),vs=[.ref e,.str one]/\H e=some (.lst refs)/\RepAll H refs (ps.map aA)/\ps.length<=100000/\∀l fs H',Same H H'->H l=none->H' l=some (.lst (List.map V.str fs))->Q (.ref l) H'
theorem scReached:FnScope ["_law_edges_here","_law_one","_law_found","_law_at","_law_here","_law_there"] ["_law_edges_here","_law_one"] (aj gj):=⟨rfl,rfl,rfl,by decide +kernel,rfl,by decide +kernel,by decide +kernel⟩
theorem oq (F:Fun K "_law_reached" "_law_reached" gj f fd) (B:Blt mg):FnOk P w K mg base CX0 1 f fd ["_law_edges_here", "_law_one"] jS := by
 refine F.ok scReached (λvs H Q E h=>?_) (λa5 A Y s H vs Q E X h=>?_)
 ·obtain⟨e,one,C,D,rfl,_⟩:=h
  rfl
 ·obtain⟨e, one, C, D, rfl, he, rp, a2, k⟩ := h;have N:=scReached.nd;refine⟨_,(ae (ak (i:=2) N rfl (Or.inl rfl) (bh (aa (pv 1) ab)))
   (ae (ak (i:=3) N rfl (Or.inl rfl) af)
   (ae (du PassesOwn.never (ao dt (pv 3) (ba K B (aa (pv 2) ab)) (aB _)) (ae (aV PassesOwn.never rfl (bt K (pv 0)) (cj (n:=2) K rfl (aO (az (i:=4) N rfl (Or.inl rfl)) (aO (az (i:=5) N rfl (Or.inl rfl)) ci))) (ah (aZ (PW.pt (bR (ao (bn X.units) (pv 4) (ai (ap K X.units) (pv 2) (pv 3) (λ_ _=>rfl)) (aB _)) (bw (ao (bU K X.units) (pv 5) (pv 2) (by with_unfolding_all rfl))))) (ah (be (bZ K (pv 2) (aa (pv 5) ab)))) aK)))
   (ah (ak (i:=3) N rfl (Or.inl rfl) (aD aL (pv 3) af)))))
   (ah (aC (pv 2)))))),?_⟩
  have S:=rp.len;rw[wt] at S;refine⟨_,rfl,(by show 1<=sizeLine;decide),λv u=>?_⟩;have a4:e≠v:=av he u;have sz:200000<sizeLine:=by decide
  let L:Nat->SH:=λm G t=>∃(i:Nat) (d:LS) (o p:Option V),m=D.length+2-i/\G=[some (.ref e),some (.str one),some (.ref v),some (.int (i:Int)),o,p]/\i<=D.length+1/\i<=d.length/\t v=some (.lst (List.map V.str d))/\d.Nodup/\(∀z∈d,z∈one::D.map (·.2))/\Same H t
  refine⟨L,
   ⟨_,0,[one],none,none,rfl,rfl,wW _,wW _,ac,by simp,λz Z=>by rw[wO.mp Z];simp,Same.new u⟩,?_⟩
  rintro m G H1 ⟨i,d,o,p,rfl,rfl,a1,a3,I,g,c,U⟩;have r:=dg g c;rw[wC,wt] at r;refine⟨_,rfl,_,rfl,_,_,rfl,Or.inl ⟨_,.of I,rfl⟩,.int ⟨_,rfl,?_⟩⟩;rw[wt];refine aF (λh=>?_) (λh=>?_)
  ·have h:(i:Int)<((d.length:Nat):Int) := wK h
   let M:SH:=λT t=>∃(d:LS) (o p:Option V),T=[some (.ref e),some (.str one),some (.ref v),some (.int ((i+1:Nat):Int)),o,p]/\i+1<=d.length/\t v=some (.lst (List.map V.str d))/\d.Nodup/\(∀z∈d,z∈one::D.map (·.2))/\Same H t
   refine⟨M,
    λT t ⟨d,o,p,h1,h2⟩=>⟨D.length+2-(i+1),by omega,i+1,d,o,p,rfl,h1,by omega,h2⟩,?_⟩
   refine⟨_,rfl,e,rfl,⟨_,.of (U _ _ he)⟩,?_⟩
   let O:Nat->SH:=λj G t=>∃(d:LS) (o p:Option V),G=[some (.ref e),some (.str one),some (.ref v),some (.int (i:Int)),o,p]/\i+1<=d.length/\t v=some (.lst (List.map V.str d))/\d.Nodup/\(∀z∈d,z∈one::D.map (·.2))/\Same H t
   refine cM (R:=Q) (xs:=C) O ?_ ?_ ?_ ?_
   ·exact⟨d,o,p,rfl,by omega,I,g,c,U⟩
   ·rintro j G t hj ⟨d,o,p,rfl,_,_,_,_,sm⟩;exact .of (sm _ _ he)
   ·rintro _ j x G H2 hx ⟨d, o, p, rfl, y, l, g, c, J⟩;obtain⟨q,ta,hq,rfl,a0⟩:=bH (rp.same J) hx;have r:=dg g c;rw[wC,wt] at r;refine⟨ta,_,rfl,.of a0,rfl,_,_,rfl,_,_,rfl,rfl,?_⟩;refine⟨_,rfl,_,rfl,_,rfl,.lst (.of l) (de (by omega)) (.sc rfl ⟨_,rfl,?_⟩)⟩;refine aF (λ_=>?_) (λ_=>?_)
    ·refine⟨_, rfl, _, rfl, .seq (.inl (.of l)) rfl (bL _) ⟨_, rfl, ?_⟩⟩;rw[jb];refine aF (λW=>?_) (λ_=>?_)
     ·have W:q.2 ∉ d := by simpa using W
      refine⟨_,rfl,.inl ⟨rfl,_,.of l⟩,_,rfl,v,_,_,rfl,rfl,l,by rw[wt];omega,?_⟩;refine⟨d++[q.2],_,_,rfl,by rw[wB];omega,?_,?_,λz Z=>?_,aQ J u⟩
      ·rw[ac];simp
      ·rw[xB];exact⟨g,by simp,λa ha b hb=>by rw[wO.mp hb];exact λz=>W (z ▸ ha)⟩
      ·rcases wR.mp Z with w | w
       ·exact c z w
       ·rw[wO.mp w];exact wY _ (ww.mpr ⟨q,wE hq,rfl⟩)
     ·exact⟨d,_,_,rfl,y,l,g,c,J⟩
    ·exact cY ⟨d,_,_,rfl,y,l,g,c,J⟩
   ·rintro G H2 ⟨d,o,p,rfl,y,l,g,c,J⟩;exact⟨_,rfl,.int ⟨d,o,p,rfl,y,l,g,c,J⟩⟩
  ·exact⟨_,rfl,k v d H1 U u I⟩
def je (us:LS) (wn:List (Str × Str)):Prop:=∀e∈wn,(e.1="first"∨e.1="last")/\e.2∈us
def lQ (K:W.Frag):Sp:=λvs H Q _=>∃(p a n:Addr) (us:LS) (ks:Kn),vs=[.ref p,.ref n]/\Pen K H p a/\Rep H (.ref n) (cZ ks)/\Tre us ks /\
 ∀l refs wn H',H' l=some (.lst refs)->RepAll H' refs (wn.map aA)->WnX ks wn->wn.length<=122->l≠p->PenV H' p a->But p H H'->Q (.ref l) H'
theorem scWants:FnScope ["_law_pen_here","_law_knots","_law_found","_law_knot","_law_some"] ["_law_pen_here","_law_knots"] (aj kS):=⟨rfl,rfl,rfl,by decide +kernel,rfl,by decide +kernel,by decide +kernel⟩
theorem qK (a:(bg ks).Nodup) (c:ks[i]? = some q) (d:k∈ks.take i) (b:u∈k.2) (h2:u∈q.2):False:=by
 have e:bg ks=bg (ks.take (i+1))++bg (ks.drop (i+1)):=by rw[<- ez,xU]
 rw[e,fI c] at a;have:=(xB.mp (xB.mp a).1).2.2 u (xH.mpr ⟨k,d,b⟩) u h2;exact this rfl
theorem WnX.ok (T:Tre us ks) (W:WnX ks wn):je us wn:=λe a=>by
 obtain⟨k,b,f⟩:=W.at_ e a;exact⟨by rcases f with⟨q,_⟩ | ⟨q,_⟩;exact .inl q;exact .inr q,T.isIn b f.mem⟩
theorem sL {xs:LV}{ps:List (Str × Str)}(r:RepAll H xs (ps.map aA)) {e:Str × Str}(a:Rep H v (aA e)) (m:Nat):RepAll H (xs.take m++v::xs.drop m) ((ps.take m++e::ps.drop m).map aA):=by
 rw[wy,xb,List.map_take,xV];exact RepAll.append (r.take m) (.cons a (r.drop m))
theorem qC (F:Fun K "_law_wants" "_law_wants" kS f fd) (B:Blt mg) (c:Cal P w K mg base 1 "_law_draw" ["_law_pen_here", "_law_most"] (dR K)):FnOk P w K mg base CX0 2 f fd ["_law_pen_here", "_law_knots"] (lQ K) := by
 refine F.ok scWants (λvs H Q E h=>?_) (λe7 A d3 s H vs Q E hr h=>?_)
 ·obtain⟨p,a,n,us,Z,rfl,_⟩:=h
  rfl
 ·obtain⟨p, a, n, us, Z, rfl, hP, R, T, k⟩ := h;have nd:=scWants.nd;have v0:=hP.2;refine⟨_,(ae (ak (i:=2) nd rfl (Or.inl rfl) (bh ab))
   (ae (aV PassesOwn.never rfl (bd K (pv 1)) (cj (n:=2) K rfl (aO (az (i:=3) nd rfl (Or.inl rfl)) (aO (az (i:=4) nd rfl (Or.inl rfl)) ci))) (ae (aZ (PW.pt (bR (ao eU (ba K B (aa (pv 4) ab)) af (aB _)) (bw (ao (bn hr.units) (au c (hr.mono (by decide)) rfl (aa (pv 0) (aa af ab))) af (aB _))))) (ah (be (em K (pv 2) (aa (au c (hr.mono (by decide)) rfl (aa (pv 0) (aa (aD aL (ba K B (aa (pv 2) ab)) af) ab))) (aa (aN (aa aM (aa (ai (ap K hr.units) (pv 4) af (λ_ _=>rfl)) ab))) ab))))) aK)
   (ah (aZ (PW.pt (bR (ao eU (ba K B (aa (pv 4) ab)) af (aB _)) (bw (ao (bn hr.units) (au c (hr.mono (by decide)) rfl (aa (pv 0) (aa af ab))) af (aB _))))) (ah (be (em K (pv 2) (aa (au c (hr.mono (by decide)) rfl (aa (pv 0) (aa (aD aL (ba K B (aa (pv 2) ab)) af) ab))) (aa (aN (aa aM (aa (ai (ap K hr.units) (pv 4) (fK eN af) (λ_ _=>rfl)) ab))) ab))))) aK))))
   (ah (aC (pv 2))))),?_⟩
  obtain⟨n',b7,e0,hn,rp⟩:=eJ R;cases e0;obtain⟨e5,a2⟩:=bX v0;have a3:=rp.len;rw[wt] at a3;have e2:=T.few;refine⟨(by show 0<=sizeLine;decide),λl a1=>?_⟩;have N:l≠p:=Ne.symm (v0.ne a1);have b0:But p H (upd H l (.lst [])):=(But.refl p H).at a1;have v1:PenV (upd H l (.lst [])) p a:=v0.upd (v0.ne a1);have e1:upd H l (.lst []) l=some (.lst []):=ac;generalize upd H l (.lst [])=H1 at b0 v1 e1 ⊢;refine⟨_,rfl,n,rfl,⟨_,.of (bT a2 b0 hn)⟩,?_⟩
  let c0:Nat->SH:=λi σ U=>∃(o3 o4:Option V) (g:LV) (d:List (Str × Str)),σ=[some (.ref p),some (.ref n),some (.ref l),o3,o4]/\U l=some (.lst g)/\RepAll U g (d.map aA)/\(d.Nodup/\∀e∈d,∃k∈Z.take i,FL k e)/\d.length<=2 * i/\PenV U p a/\But p H U
  refine cA (R:=Q) (xs:=b7) c0 ?_ ?_ ?_ ?_
  ·exact⟨none,none,[],[],rfl,e1,.nil,⟨xP,λe C=>by cases C⟩,wr _,v1,b0⟩
  ·rintro i σ U hi ⟨o3,o4,g,d,rfl,_,_,_,_,_,b⟩;exact .of (bT a2 b hn)
  ·rintro _ i x σ H2 hx ⟨o3, o4, g, d, rfl, c1, c5, D, d9, v2, b2⟩;obtain⟨r,ta,la,hk,rfl,d4,d5⟩:=iq rp hx;have d8:=(wv.mp hk).1;have e8:∀u∈r.2,u∈us:=λu hu=>T.isIn (wE hk) hu;have c4:(List.map V.str r.2).length=r.2.length:=wt ..;refine⟨ta,_,rfl,.of (bT a2 b2 d4),rfl,_,_,rfl,_,_,rfl,rfl,?_⟩;have c2:∀(w u:Str) (O:Hp) (g:LV) (d:List (Str × Str)) (t:Addr) (m:Nat),O l=some (.lst g)->RepAll O g (d.map aA)->d.Nodup->(w,u)∉d->O t=some (.tup [.str w,.str u])->PenV O p a->But p H O ->
       upd O l (.lst (g.take m++V.ref t::g.drop m)) l=some (.lst (g.take m++V.ref t::g.drop m))/\RepAll (upd O l (.lst (g.take m++V.ref t::g.drop m))) (g.take m++V.ref t::g.drop m) ((d.take m++(w,u)::d.drop m).map aA)/\(d.take m++(w,u)::d.drop m).Nodup/\(d.take m++(w,u)::d.drop m).length=d.length+1/\PenV (upd O l (.lst (g.take m++V.ref t::g.drop m))) p a/\But p H (upd O l (.lst (g.take m++V.ref t::g.drop m))):=by
    intro w u O g d t m hf rf d7 c9 ht v b;refine⟨ac,aJ (aH hf But.upd) (sL rf (br ht) m),?_,(dP d m (w,u)).length_eq,v.upd (Ne.symm N),b.at a1⟩;exact(dP d m (w,u)).nodup_iff.mpr (xf.mpr ⟨c9,d7⟩)
   have b9:∀ {u:Str} {e:Str × Str},u∈r.2->e.2=u->(∃k∈Z.take i,FL k e)->False:=λ{u e} hu C ⟨k,a9,f⟩=>qK T.knd hk a9 (C ▸ f.mem) hu;have c8:∀ {e:Str × Str},(∃k∈Z.take i,FL k e)->∃k∈Z.take (i+1),FL k e:=λ⟨k,a9,f⟩=>⟨k,by rw[wG];exact xJ _ a9,f⟩
   have a4:r∈Z.take (i+1):=by rw[wG,hk];simp
   have a0:∀U,But p H U->U la=some (.tup (r.2.map V.str)):=λU b=>bT a2 b d5;apply cT (J:=λσ HZ=>∃(g:LV) (d:List (Str × Str)),σ=[some (.ref p),some (.ref n),some (.ref l),some (.str r.1),some (.ref la)]/\HZ l=some (.lst g)/\RepAll HZ g (d.map aA)/\(d.Nodup/\∀e∈d,(∃k∈Z.take i,FL k e)∨(e.1="first"/\FL r e))/\d.length<=2 * i+1/\PenV HZ p a/\But p H HZ)
   ·intro aU;refine⟨_,rfl,_,_,rfl,Or.inr ⟨_,.of (a0 _ b2),rfl⟩,_,_,rfl,rfl,_,rfl,?_⟩;rw[c4];refine aF (λh=>?_) (λ_=>cY ?_)
    ·have h:(0:Int)<((r.2.length:Nat):Int):=wK h;obtain⟨u,hu⟩:∃u,r.2[0]? = some u:=⟨_,wP (by omega)⟩
     obtain⟨d2,a7⟩:=bX v2;refine⟨_,rfl,p,a,4,rfl,hP.but b2 v2,by decide,by decide,λr3 O c6 d6 v3 e3=>.sc rfl ⟨_,rfl,?_⟩⟩;have G:=But.of_eq e3;have b3:=b2.trans G;have y:=G l _ N c1;have M:=aJ (aH a7 G) c5;have W:=M.len;rw[wt] at W;refine aF (λ_=>?_) (λ_=>?_)
     ·obtain⟨d0,b1⟩:=bX v3;refine⟨_,rfl,.inl ⟨rfl,_,.of y⟩,_,rfl,_,rfl,_,_,rfl,Or.inl ⟨_,.of y,rfl⟩,.int ⟨p,a,_,rfl,hP.but b3 v3,by omega,by omega,λr4 H4 a5 c7 v4 e4=>?_⟩⟩;have L:=But.of_eq e4;have b4:=b3.trans L;have S:=L l _ N y;have a8:=aJ (aH b1 L) M;obtain⟨m,rfl⟩:=xc a5;refine⟨_,rfl,.tup (.of (a0 _ b4)) (show atI (List.map V.str r.2) 0=some (.str u) from cF (j:=0) (by rw[wN,hu];rfl)) ⟨(by show 2<=sizeLine;decide),λt ht=>?_⟩⟩;have Y:=Same.new (o:=.tup [V.str "first",V.str u]) ht;have v5:=aI Y v4;have b5:=b4.trans (But.of_same (p:=p) Y);refine⟨l,_,_,m,_,rfl,rfl,rfl,Y _ _ S,by omega,aw (by omega),?_⟩;obtain⟨g1,g2,g3,g4,g5,g6⟩:=c2 "first" u _ g d t m (Y _ _ S) (a8.same Y) D.1 (λz=>b9 (wE hu) rfl (D.2 _ z)) ac v5 b5;have a6:FL r ("first",u):=.inl ⟨rfl,by rw[List.head?_eq_getElem?];exact hu⟩;dsimp only;exact aU _ _ ⟨_,_,rfl,g1,g2,⟨g3,λe C=>by rcases dA C with rfl | C;exact .inr ⟨rfl,a6⟩;exact .inl (D.2 e C)⟩,by omega,g5,g6⟩
     ·exact aU _ _ ⟨g,d,rfl,y,M,⟨D.1,λe C=>.inl (D.2 e C)⟩,by omega,v3,b3⟩
    ·exact aU _ _ ⟨g,d,rfl,c1,c5,⟨D.1,λe C=>.inl (D.2 e C)⟩,by omega,v2,b2⟩
   ·rintro σ H6 ⟨g, d, rfl, b8, c3, I, e6, v6, b6⟩;have X:∀e,((∃k∈Z.take i,FL k e)∨(e.1="first"/\FL r e))->∃k∈Z.take (i+1),FL k e:=λe h=>by
     rcases h with h | h
     ·exact c8 h
     ·exact⟨r,a4,h.2⟩
    refine⟨_,rfl,_,_,rfl,Or.inr ⟨_,.of (a0 _ b6),rfl⟩,_,_,rfl,rfl,_,rfl,?_⟩;rw[c4];refine aF (λh=>?_) (λ_=>cY ?_)
    ·have h:(1:Int)<((r.2.length:Nat):Int):=wK h;obtain⟨zs,u,hz⟩:∃zs u,r.2=zs++[u]:=⟨_,_,(List.dropLast_concat_getLast (λq=>by rw[q] at h;exact absurd h (by decide))).symm⟩
     obtain⟨d2,a7⟩:=bX v6;refine⟨_,rfl,p,a,4,rfl,hP.but b6 v6,by decide,by decide,λr3 O c6 d6 v3 e3=>.sc rfl ⟨_,rfl,?_⟩⟩;have G:=But.of_eq e3;have b3:=b6.trans G;have y:=G l _ N b8;have M:=aJ (aH a7 G) c3;have W:=M.len;rw[wt] at W;refine aF (λ_=>?_) (λ_=>?_)
     ·obtain⟨d0,b1⟩:=bX v3;refine⟨_,rfl,.inl ⟨rfl,_,.of y⟩,_,rfl,_,rfl,_,_,rfl,Or.inl ⟨_,.of y,rfl⟩,.int ⟨p,a,_,rfl,hP.but b3 v3,by omega,by omega,λr4 H4 a5 c7 v4 e4=>?_⟩⟩;have L:=But.of_eq e4;have b4:=b3.trans L;have S:=L l _ N y;have a8:=aJ (aH b1 L) M;obtain⟨m,rfl⟩:=xc a5;refine⟨_,rfl,_,rfl,.tup (.of (a0 _ b4)) (show atI (List.map V.str r.2) (-1)=some (.str u) from by rw[hz,wy];exact im _ _) ⟨(by show 2<=sizeLine;decide),λt ht=>?_⟩⟩;have Y:=Same.new (o:=.tup [V.str "last",V.str u]) ht;have v5:=aI Y v4;have b5:=b4.trans (But.of_same (p:=p) Y);refine⟨l,_,_,m,_,rfl,rfl,rfl,Y _ _ S,by omega,aw (by omega),?_⟩;have d1:u∈r.2:=by rw[hz];simp
      obtain⟨g1,g2,g3,g4,g5,g6⟩:=c2 "last" u _ g d t m (Y _ _ S) (a8.same Y) I.1 (λz=>by rcases I.2 _ z with w | w;exact b9 d1 rfl w;exact absurd w.1 (by show ¬ ("last":Str)="first";decide)) ac v5 b5;have a6:FL r ("last",u):=.inr ⟨rfl,by rw[hz];simp⟩;exact⟨_,_,_,_,rfl,g1,g2,⟨g3,λe C=>by rcases dA C with rfl | C;exact⟨r,a4,a6⟩;exact X e (I.2 e C)⟩,by omega,g5,g6⟩
     ·exact⟨_,_,g,d,rfl,y,M,⟨I.1,λe C=>X e (I.2 e C)⟩,by omega,v3,b3⟩
    ·exact⟨_,_,g,d,rfl,b8,c3,⟨I.1,λe C=>X e (I.2 e C)⟩,by omega,v6,b6⟩
  ·rintro σ U ⟨o3,o4,g,d,rfl,hf,rf,ok,hl,v,b⟩;rw[a3,wI (wr _)] at ok;exact⟨_,rfl,k l g d U hf rf ⟨ok.1,ok.2⟩ (by omega) N v b⟩
theorem cg (T:Tre us ks) (a:k∈ks):k.2.Nodup:=by
 have:=T.knd;unfold bg at this;rw[List.flatMap_def] at this;exact(List.sublist_flatten_of_mem (ww.mpr ⟨k,a,rfl⟩)).nodup this
theorem mB {c:LS}{x:Str}(f:H l=some (.tup (c.map V.str))) (d:c.Nodup) (h:x∈c) (q:∀j:Nat,Q (.int (j:Int)) H):jx (.ref l) [.str x] H Q:=by
 refine⟨l,_,.str x,MG.ix c x,.str x,rfl,rfl,f,rfl,bL c,by rw[wN,MG.at_ix h];rfl,by show (x==x)=true;simp,λm i k g=>?_,q _⟩;obtain⟨z,a,rfl⟩:=aT g;have b:z≠x:=λe=>by rw[e] at a;have:=MG.ix_at d a;omega
 show (z==x)=false;simpa using b
theorem aS (h:k [] H):gH σ H k:=h
def cV (us:LS) (ks:Kn) (ts:List (Str × Str)):Prop:=∀e∈ts,e.1∈us/\e.2∈us/\bc ks e.1 e.2≠none
def oC (K:W.Frag):Sp:=λvs H Q _=>∃(p a n un:Addr) (us:LS) (ks:Kn) (many:Nat),vs=[.ref p,.ref n,.ref un,.int (many:Int)]/\Pen K H p a/\Rep H (.ref n) (cZ ks)/\Tre us ks/\H un=some (.lst (List.map V.str us))/\un≠p/\(0<many->0<us.length)/\many<=200 /\
 ∀l refs ts H',H' l=some (.lst refs)->RepAll H' refs (ts.map aA)->cV us ks ts->ts.length<=many->l≠p->PenV H' p a->But p H H'->Q (.ref l) H'
theorem scKept:FnScope ["_law_pen_here","_law_knots","_law_units","_law_many","_law_found","_law_around_here","_law_k","_law_one","_law_other","_law_told","_law_some"] ["_law_pen_here","_law_knots","_law_units","_law_many"] (aj nQ):=⟨rfl,rfl,rfl,by decide +kernel,rfl,by decide +kernel,by decide +kernel⟩
theorem sN (F:Fun K "_law_kept" "_law_kept" nQ f fd) (B:Blt mg) (b:Cal P w K mg base 1 "_law_draw" ["_law_pen_here", "_law_most"] (dR K)) (g:Cal P w K mg base 1 "_law_around" ["_law_knots"] fz) (c:Cal P w K mg base 2 "_law_parting" ["_law_around_here", "_law_one", "_law_other"] dJ):FnOk P w K mg base CX0 3 f fd ["_law_pen_here", "_law_knots", "_law_units", "_law_many"] (oC K) := by
 refine F.ok scKept (λvs H Q E h=>?_) (λh4 A f4 s H vs Q E I h=>?_)
 ·obtain⟨p,a,n,un,C,ks,l,rfl,_⟩:=h
  rfl
 ·obtain⟨p,a,n,un,C,ks,l,rfl,hP,R,T,X,S,a3,hm,k⟩:=h;have nd:=scKept.nd;have v0:=hP.2;obtain⟨h0,g5⟩:=bX v0;have g7:=T.len;have y:(List.map V.str C).length=C.length:=wt ..;refine⟨_,(ae (ak (i:=4) nd rfl (Or.inl rfl) (bh ab))
   (ae (ak (i:=5) nd rfl (Or.inl rfl) (au g (I.mono (by decide)) rfl (aa (pv 1) ab)))
   (ae (aV PassesOwn.never rfl (cG rfl B.range (aa (pv 3) ab)) (az (i:=6) nd rfl (Or.inl rfl)) (ae (ak (i:=7) nd rfl (Or.inl rfl) (ai (ap K I.units) (pv 2) (au b (I.mono (by decide)) rfl (aa (pv 0) (aa (ba K B (aa (pv 2) ab)) ab))) (λ_ _=>rfl)))
   (ae (ak (i:=8) nd rfl (Or.inl rfl) (ai (ap K I.units) (pv 2) (au b (I.mono (by decide)) rfl (aa (pv 0) (aa (ba K B (aa (pv 2) ab)) ab))) (λ_ _=>rfl)))
   (ae (ak (i:=9) nd rfl (Or.inl rfl) (au c (I.mono (by decide)) rfl (aa (pv 5) (aa (pv 7) (aa (pv 8) ab)))))
   (ah (aZ (ao jX (pv 9) eM (aB _)) (ae (ak (i:=10) nd rfl (Or.inl rfl) (ai (ap K I.units) (fY K rfl I.units B (aa (pv 1) ab)) (ai (ap K I.units) (pv 9) af (λ_ _=>rfl)) (λ_ _=>rfl)))
   (ae (aZ (ao eU (jL (pv 10) (aa (ai (ap K I.units) (pv 9) af (λ_ _=>rfl)) ab)) (jL (pv 10) (aa (ai (ap K I.units) (pv 9) af (λ_ _=>rfl)) ab)) (aB _)) (ah (u5 (i:=7) (j:=8) rfl nd rfl rfl (by decide) rfl rfl (aa (pv 8) (aa (pv 7) ab)) rfl)) aK)
   (ah (aZ (ao (bU K I.units) (aN (aa (pv 7) (aa (pv 8) ab))) (pv 4) (by with_unfolding_all rfl)) (ah (be (bZ K (pv 4) (aa (aN (aa (pv 7) (aa (pv 8) ab))) ab)))) aK)))) aK))))))
   (ah (aC (pv 4)))))),?_⟩
  refine⟨(by show 0<=sizeLine;decide),λM b1=>?_⟩;have a8:M≠p:=Ne.symm (v0.ne b1);have s1:=Same.new (o:=.lst []) b1;have e1:upd H M (.lst []) M=some (.lst []):=ac;generalize upd H M (.lst [])=H1 at s1 e1 ⊢;refine⟨_,rfl,n,C,ks,rfl,R.same s1,T,λd d1 H2 s2 f0 hd ar=>?_⟩;have c0:=s1.trans s2;have v2:=aI c0 v0;obtain⟨h1,g4⟩:=bX v2;have g3:d≠p:=bP hd g4 (by intro z;cases z);have f7:d≠M:=bP hd (s2 _ _ e1) (by intro z;cases z);have h3:H d=none:=bu s1 f0;refine⟨_,rfl,_,rfl,by omega,by omega,?_⟩;rw[show ((l:Nat):Int).toNat=l from rfl]
  let c4:Nat->SH:=λi σ H'=>∃(o6 o7 o8 o9 a6:Option V) (fr:LV) (N:List (Str × Str)),σ=[some (.ref p),some (.ref n),some (.ref un),some (.int (l:Int)),some (.ref M),some (.ref d),o6,o7,o8,o9,a6]/\H' M=some (.lst fr)/\RepAll H' fr (N.map aA)/\cV C ks N/\N.length<=i/\H' d=some (.dK d1)/\PenV H' p a/\But p H H'
  refine fb (R:=Q) c4 ?_ ?_ ?_
  ·exact⟨none,none,none,none,none,[],[],rfl,s2 _ _ e1,.nil,(λe he=>by cases he),wr _,hd,v2,But.of_same c0⟩
  ·rintro _ i σ H3 hi ⟨o6,o7,o8,o9,a6,fr,N,rfl,U,a0,r,e3,b0,v3,b3⟩;have hi:i<l:=hi;have a3:=a3 (by omega);obtain⟨g8,g6⟩:=bX v3;refine⟨_,rfl,_,rfl,_,rfl,_,_,rfl,Or.inl ⟨_,.of (b3 un _ S X),rfl⟩,p,a,_,rfl,hP.but b3 v3,by rw[y];omega,by rw[y];omega,λr4 H4 f9 e7 v4 e4=>?_⟩;have d9:=But.of_eq e4;have b4:=b3.trans d9;obtain⟨j1,rfl⟩:=xc f9;rw[y] at e7;have d0:j1<C.length:=by omega
   obtain⟨g9,h2⟩:=bX v4;refine .lst (.of (b4 un _ S X)) (de d0) ⟨_,rfl,_,rfl,_,rfl,_,_,rfl,Or.inl ⟨_,.of (b4 un _ S X),rfl⟩,p,a,_,rfl,hP.but b4 v4,by rw[y];omega,by rw[y];omega,λr5 H5 g2 e8 v5 e5=>?_⟩;have c6:=But.of_eq e5;have a9:=d9.trans c6;have b5:=b4.trans c6;obtain⟨j2,rfl⟩:=xc g2;rw[y] at e8;have c3:j2<C.length:=by omega
   have hu:=cz d0;have hv:=cz c3;refine .lst (.of (b5 un _ S X)) (de c3) ?_;generalize C.getD j1 ""=u at hu ⊢;generalize C.getD j2 ""=v at hv ⊢;have a4:=a9 d _ g3 b0;have c1:=a9 M _ a8 U;have d5:=aJ (aH g6 a9) a0;refine⟨_,rfl,_,rfl,_,rfl,d,d1,C,ks,u,v,rfl,a4,ar,T,hu,hv,λx H6 s6 px=>?_⟩;have v6:=aI s6 v5;have b6:=b5.trans (But.of_same (p:=p) s6);have d2:=s6 _ _ a4;have c2:=s6 _ _ c1;have d7:=d5.same s6;clear a4 c1 d5 b0 U a0;refine⟨_,rfl,.non ⟨_,rfl,?_⟩⟩;cases hpo:bc ks u v with
   | none =>
    rw[hpo] at px;cases px;exact cY ⟨_,_,_,_,_,fr,N,rfl,c2,d7,r,by omega,d2,v6,b6⟩
   | some t3 =>
    obtain⟨kq,x1,y1⟩:=t3;rw[hpo] at px;obtain⟨t,rfl,ht⟩:=px;obtain⟨e0,f8,c8,f6,_⟩:=T.part hu hv hpo;refine rq ?_;obtain⟨kk,a1,a2⟩:=ww.mp (T.par_in c8).2;rw[e0] at a2;have f3:(bx ks x1,kk.2)=kk:=by rw[e0,<- a2]
    have d6:(bx ks y1,kk.2)=kk:=by rw[f8,<- a2]
    have cx:=T.kid c8 (by rw[f3];exact a1);have cy:=T.kid f6 (by rw[d6];exact a1);refine⟨_,rfl,?_⟩;refine aS (dQ (dq g5 b6 R) T λD dk hD e6=>?_);obtain⟨la,d8,g0⟩:=e6 kk a1;rw[a2] at d8;have s7:=Same.new (o:=.dK dk) hD;have v7:=aI s7 v6;have b7:=b6.trans (But.of_same (p:=p) s7);have W:=s7 _ _ ht;have m:=s7 _ _ g0;refine⟨_,rfl,.tup (.of W) rfl (.dic (.inl ⟨dk,.inr kq,.inl ac,rfl,d8.symm⟩) ?_)⟩;have cn:=cg T a1;have b2:=s7 _ _ c2;have O:=d7.same s7;have e2:=s7 _ _ d2;generalize upd H6 D (.dK dk)=H7 at s7 v7 b7 W m b2 O e2 ⊢;apply cT (J:=λσ HZ=>∃(G L:Str),σ=[some (.ref p),some (.ref n),some (.ref un),some (.int (l:Int)),some (.ref M),some (.ref d),some (.int (0+(i:Nat):Int)),some (.str G),some (.str L),some (.ref t),some (.ref la)]/\G∈C/\L∈C/\bc ks G L≠none/\HZ=H7)
    ·intro aU;refine⟨_,rfl,⟨la,_,rfl,m⟩,_,rfl,.tup (.of W) rfl (aS (mB m cn cx λj3=>⟨_,rfl,⟨la,_,rfl,m⟩,_,rfl,.tup (.of W) rfl (aS (mB m cn cy λj4=>⟨_,_,rfl,rfl,_,rfl,?_⟩))⟩))⟩;refine aF (λ_=>?_) (λ_=>?_)
     ·refine⟨_,rfl,_,rfl,_,_,rfl,?_⟩;exact aU _ _ ⟨v,u,rfl,hv,hu,(by unfold bc;rw[lA];unfold bc at hpo;rw[hpo];intro z;cases z),rfl⟩
     ·exact aU _ _ ⟨u,v,rfl,hu,hv,(by rw[hpo];intro z;cases z),rfl⟩
    ·rintro σ HZ ⟨G, L, rfl, d4, c5, f2, rfl⟩;have f1:∀e∈N,Nm e.1/\Nm e.2:=λe he=>⟨T.nm _ (r e he).1,T.nm _ (r e he).2.1⟩
     have c7:=O.len;rw[wt] at c7;refine⟨_,rfl,_,rfl,(by show 2<=sizeLine;decide),λtq g1=>?_⟩;have s8:=Same.new (o:=.tup [V.str G,V.str L]) g1;refine⟨_,rfl,.tr (d:=aA (G,L)) (s8 _ _ b2) (O.same s8) (br ac) (bQ f1) (cf ⟨T.nm _ d4,T.nm _ c5⟩) (by show 1<=16;decide) ⟨_,rfl,?_⟩⟩;have v8:=aI s8 v7;have b8:=b7.trans (But.of_same (p:=p) s8);have Y:=s8 _ _ b2;have a7:=O.same s8;have a5:=s8 _ _ e2;generalize upd HZ tq (.tup [V.str G,V.str L])=H8 at v8 b8 Y a7 a5 ⊢;refine aF (λ_=>?_) (λ_=>?_)
     ·refine⟨_,rfl,.inl ⟨rfl,_,.of Y⟩,_,rfl,_,rfl,(by show 2<=sizeLine;decide),λt2 f5=>?_⟩;have s9:=Same.new (o:=.tup [V.str G,V.str L]) f5;have e9:upd H8 t2 (.tup [V.str G,V.str L]) t2=some (.tup [V.str G,V.str L]):=ac;have v9:=aI s9 v8;have b9:=b8.trans (But.of_same (p:=p) s9);have Z:=s9 _ _ Y;have d3:=a7.same s9;have c9:=s9 _ _ a5;generalize upd H8 t2 (.tup [V.str G,V.str L])=H9 at v9 b9 Z d3 c9 e9 ⊢;refine⟨M,_,_,rfl,rfl,Z,aw (by omega),?_⟩;refine⟨_,_,_,_,_,fr++[.ref t2],N++[(G,L)],rfl,ac,?_,λe he=>?_,by rw[wB];show _+1<=_;omega,by rw[ag f7];exact c9,v9.upd (Ne.symm a8),b9.at b1⟩
      ·rw[wy];exact RepAll.append (aJ (aH Z But.upd) d3) (.cons (aH Z But.upd (br e9)) .nil)
      ·rcases wR.mp he with q | q
       ·exact r e q
       ·rw[wO.mp q];exact⟨d4,c5,f2⟩
     ·exact⟨_,_,_,_,_,fr,N,rfl,Y,a7,r,by omega,a5,v8,b8⟩
  ·rintro σ H3 ⟨o6,o7,o8,o9,a6,fr,N,rfl,U,a0,r,e3,b0,v3,b3⟩;exact⟨_,rfl,k M fr N H3 U a0 r e3 a8 v3 b3⟩
def fB (us:LS) (ps:List (Str × Str)):Prop:=∀e∈ps,e.1∈us/\e.2∈us
def gP:Sp:=λvs H Q _=>∃(q:Addr) (us:LS) (ks:Kn) (ts ws wn:List (Str × Str)) (knot:Str) (c:LS),vs=[.ref q,.str knot]/\Rep H (.ref q) (aX ks ts ws wn)/\Tre us ks/\cV us ks ts/\WnX ks wn/\(knot,c)∈ks/\ts.length<=200/\wn.length<=122 /\
 ∀(l:Addr) (refs:LV) (H':Hp),Same H H'->H l=none->H' l=some (.lst refs)->RepAll H' refs ((cc ks ts wn knot c).map aA)->(cc ks ts wn knot c).length<=100000->fB us (cc ks ts wn knot c)->Q (.ref l) H'
theorem scEdges:FnScope ["_law_house_here","_law_knot","_law_some","_law_around_here","_law_found","_law_one","_law_other","_law_told","_law_word","_law_unit","_law_pair"] ["_law_house_here","_law_knot"] (aj iK):=⟨rfl,rfl,rfl,by decide +kernel,rfl,by decide +kernel,by decide +kernel⟩
structure Fnd (H H':Hp) (lf:Addr) (us:LS) (fr:LV) (ps:List (Str × Str)) (n:Nat):Prop where
 f:H' lf=some (.lst fr)
 r:RepAll H' fr (ps.map aA)
 i:fB us ps
 l:ps.length<=n
 s:Same H H'
theorem Fnd.more (h:Fnd H H' q us fr ps n) (s:Same H' H2) (a:n<=m):Fnd H H2 q us fr ps m:=⟨s _ _ h.f,h.r.same s,h.i,wM h.l a,h.s.trans s⟩
theorem Fnd.app (h:Fnd H H' z us fr ps n) (d:H' t=some (.tup [.str x,.str y])) (c:x∈us) (b:y∈us) (a:H z=none):Fnd H (upd H' z (.lst (fr++[.ref t]))) z us (fr++[.ref t]) (ps++[(x,y)]) (n+1):=by
 refine⟨ac,?_,λe f=>?_,by rw[wB];have:=h.l;show _+1<=_;omega,aQ h.s a⟩
 ·rw[wy];exact RepAll.append (aJ (aH h.f But.upd) h.r) (.cons (aH h.f But.upd (br d)) .nil)
 ·rcases wR.mp f with q | q
  ·exact h.i e q
  ·rw[wO.mp q];exact⟨c,b⟩
theorem Fnd.len (h:Fnd H H' q us fr ps n):fr.length<=n:=by
 have:=h.r.len;rw[wt] at this;have:=h.l;omega
theorem kP (e f:Str × Str):PyData.eqv (aA e) (aA f)=decide (e=f):=by
 obtain⟨a,b⟩:=e;obtain⟨c,d⟩:=f;show ((a==c)&&((b==d)&&true))=_;rw[Bool.and_true,xr];simp only[xj,beq_iff_eq,decide_eq_true_eq,Prod.mk.injEq]
theorem ey (ps:Prs) (x:Str × Str):((ps.map aA).any λe=>PyData.eqv e (aA x))=decide (x∈ps):=by
 rw[List.any_map,xr,yc,decide_eq_true_iff]
 constructor
 ·rintro⟨e,a,q⟩;have q:PyData.eqv (aA e) (aA x)=true:=q;rw[kP,decide_eq_true_iff] at q;exact q ▸ a
 ·intro h;exact⟨x,h,by show PyData.eqv (aA x) (aA x)=true;rw[kP];simp⟩
theorem lX {ps:Prs}{x:Str × Str}(h:(if true=true then !((ps.map aA).any λe=>PyData.eqv e (aA x)) else (ps.map aA).any λe=>PyData.eqv e (aA x))=true):x∉ps:=by
 rw[if_pos rfl,ey] at h;simpa using h
theorem mP {ps:Prs}{x:Str × Str}(h:¬ (if true=true then !((ps.map aA).any λe=>PyData.eqv e (aA x)) else (ps.map aA).any λe=>PyData.eqv e (aA x))=true):x∈ps:=by
 rw[if_pos rfl,ey] at h;simpa using h
abbrev wds:LS:=["first","last"]
theorem sj {i:Nat}(h:[V.str "first",V.str "last"][i]? = some x):∃q:Str,x=.str q/\wds[i]? = some q:=by
 have e:[V.str "first",V.str "last"]=List.map V.str wds:=rfl;rw[e] at h;obtain⟨q,a,b⟩:=aT h;exact⟨q,b.symm,a⟩
abbrev qJ (c:LS) (wn:Prs) (w:Str):Prs:=(wL c wn w).flatMap (bO (decide (w="last")) c)
theorem qr {f:Addr}{fd:FuncData}(F:Fun K "_law_edges" "_law_edges" iK f fd) (B:Blt mg) (O:Cal P w K mg base 1 "_law_around" ["_law_knots"] fz) (J:Cal P w K mg base 2 "_law_parting" ["_law_around_here", "_law_one", "_law_other"] dJ):FnOk P w K mg base CX0 3 f fd ["_law_house_here", "_law_knot"] gP := by
 refine F.ok scEdges (λvs H Q E h=>?_) (λj0 A g9 s H vs Q E hr h=>?_)
 ·obtain⟨q,us,ks,ts,ws,wn,g,c0,rfl,_⟩:=h
  rfl
 ·obtain⟨q, us, ks, ts, ws, wn, g, c0, rfl, R, T, h4, WX, a7, tl, wl, k⟩ := h;have g3:=WnX.ok T WX;have nd:=scEdges.nd;refine⟨_,(ae (ak (i:=2) nd rfl (Or.inr rfl) (ai (ap K hr.units) (fY K rfl hr.units B (aa (ai (ap K hr.units) (pv 0) af (λ_ _=>rfl)) ab)) (pv 1) (λ_ _=>rfl)))
   (ae (ak (i:=3) nd rfl (Or.inl rfl) (au O (hr.mono (by decide)) rfl (aa (ai (ap K hr.units) (pv 0) af (λ_ _=>rfl)) ab)))
   (ae (ak (i:=4) nd rfl (Or.inl rfl) (bh ab))
   (ae (aV PassesOwn.never rfl (bd K (ai (ap K hr.units) (pv 0) af (λ_ _=>rfl))) (cj (n:=2) K rfl (aO (az (i:=5) nd rfl (Or.inl rfl)) (aO (az (i:=6) nd rfl (Or.inl rfl)) ci))) (ae (ak (i:=7) nd rfl (Or.inl rfl) (au J (hr.mono (by decide)) rfl (aa (pv 3) (aa (pv 5) (aa (pv 6) ab)))))
   (ah (aZ (PW.pt (bR (ao (bn hr.units) (ai (ap K hr.units) (pv 7) af (λ_ _=>rfl)) (pv 1) (aB _)) (bw (ao (bU K hr.units) (cN ly (pv 7) (cv af) dN) (pv 4) (by with_unfolding_all rfl))))) (ah (be (bZ K (pv 4) (aa (cN ly (pv 7) (cv af) dN) ab)))) aK))))
   (ae (aV PassesOwn.never rfl (bd K (aN (aa aM (aa aM ab)))) (az (i:=8) nd rfl (Or.inr rfl)) (ah (aV PassesOwn.never rfl (bt K (gT (aj iK) ["_law_house_here","_law_knot","_law_some","_law_around_here","_law_found","_law_one","_law_other","_law_told","_law_word","_law_unit","_law_pair"] ["_law_sort","_law_unit"] [8,2] ["_law_sort","_law_unit","_law_word","_law_some"] rfl (bd K (ai (ap K hr.units) (pv 0) af (λ_ _=>rfl))) (λ_ _ _ _ _=>(cj (n:=2) K rfl (aO (az (i:=0) (show (["_law_sort","_law_unit","_law_word","_law_some"]:LS).Nodup by decide) rfl (Or.inl rfl)) (aO (az (i:=1) (show (["_law_sort","_law_unit","_law_word","_law_some"]:LS).Nodup by decide) rfl (Or.inl rfl)) ci)))) (λ_ _ _ _ _=>(bS (PW.pt (bR (ao (bn hr.units) (pv 0) (pv 2) (aB _)) (bw (ao (dw K hr.units) (pv 1) (pv 3) (by with_unfolding_all rfl))))))) (λ_ _ _ _ _=>(pv 1)))) (az (i:=9) nd rfl (Or.inl rfl)) (ah (aV PassesOwn.never rfl (bd K (pv 2)) (az (i:=6) nd rfl (Or.inl rfl)) (ae (ak (i:=10) nd rfl (Or.inl rfl) (ai (ap K hr.units) (bh (aa (aN (aa (pv 9) (aa (pv 6) ab))) (aa (aN (aa (pv 6) (aa (pv 9) ab))) ab))) (nz B (aa (jk (bn hr.units) (pv 8) aM (aB _)) ab)) (λ_ _=>rfl)))
   (ah (aZ (PW.pt (bR (ao (eS hr.units) (pv 6) (pv 9) (aB _)) (bw (ao (bU K hr.units) (pv 10) (pv 4) (by with_unfolding_all rfl))))) (ah (be (bZ K (pv 4) (aa (pv 10) ab)))) aK))))))))
   (ah (aC (pv 4)))))))),?_⟩
  have d2:∀ {S:List (Str × Str)},fB us S->∀e∈S,Nm e.1/\Nm e.2:=λh e he=>⟨T.nm _ (h e he).1,T.nm _ (h e he).2⟩
  have sz:200000<sizeLine:=by decide
  have i3:=T.len;obtain⟨q',a,b,c,d4,e0,hq,R1,R2,_,R4⟩:=bW R;cases e0;obtain⟨X,c2⟩:∃X:Str × LS,X=(g,c0):=⟨_,rfl⟩
  have i2:X.1=g:=by rw[c2]
  have g4:c0=X.2:=by rw[c2]
  rw[<- c2] at a7;rw[g4] at k;refine⟨_,rfl,.tup (.of hq) rfl (aS (dQ R1 T λD dk hD g6=>?_))⟩;obtain⟨la,f7,c5⟩:=g6 X a7;rw[i2] at f7;have s1:=Same.new (o:=.dK dk) hD;refine⟨_,rfl,.dic (.inl ⟨dk,.inr g,.inl ac,rfl,f7.symm⟩) ?_⟩;generalize upd H D (.dK dk)=H1 at s1 ⊢;refine⟨_,rfl,.tup (.of (s1 _ _ hq)) rfl ⟨a,us,ks,rfl,R1.same s1,T,λd f2 H2 s2 i7 hd ar=>?_⟩⟩;have d6:=s1.trans s2;refine⟨(by show 0<=sizeLine;decide),λlf c8=>?_⟩;have s3:=Same.new (o:=.lst []) c8;have b2:=d6.trans s3;have c4:H lf=none:=bu d6 c8;have h8:d≠lf:=av hd c8;have f6:Fnd H (upd H2 lf (.lst [])) lf us [] [] 0:=⟨ac,.nil,(λe he=>by cases he),wr _,b2⟩
  have e6:=s3 _ _ hd;generalize upd H2 lf (.lst [])=H3 at b2 f6 e6 ⊢;obtain⟨b',rb,e0,hb,g0⟩:=cu R2;cases e0;obtain⟨i9,h6,e0,d0,e9⟩:=cu R4;cases e0;have b0:=g0.len;have a9:=e9.len;rw[wt] at b0 a9;refine⟨_,rfl,.tup (.of (b2 _ _ hq)) rfl ⟨b,rfl,⟨_,.of (b2 _ _ hb)⟩,?_⟩⟩
  let e5:Nat->SH:=λi σ M=>∃(o5 Z o7:Option V) (G:LV) (S:List (Str × Str)),σ=[some (.ref q),some (.str g),some (.ref la),some (.ref d),some (.ref lf),o5,Z,o7,none,none,none]/\Fnd H M lf us G S i/\M d=some (.dK f2)/\S=bo [] ((ts.take i).filterMap (cD ks g))
  refine cA (R:=Q) (xs:=rb) e5 ?_ ?_ ?_ ?_
  ·exact⟨none,none,none,[],[],rfl,f6,e6,rfl⟩
  ·rintro i σ M hi ⟨o5,Z,o7,G,S,rfl,l,_⟩;exact .of (l.s _ _ hb)
  ·rintro _ i x σ H4 hx ⟨o5, Z, o7, G, S, rfl, l, b7, a4⟩;obtain⟨e,ta,he,rfl,c3⟩:=bH g0 hx;have i5:=(wv.mp he).1;obtain⟨hu,hv,g7⟩:=h4 e (wE he);refine⟨ta,_,rfl,.of (l.s _ _ c3),rfl,_,_,rfl,_,_,rfl,rfl,?_⟩;refine⟨_,rfl,_,rfl,_,rfl,d,f2,us,ks,e.1,e.2,rfl,b7,ar,T,hu,hv,λy H5 s5 px=>?_⟩;cases hpo:bc ks e.1 e.2 with
   | none=>exact absurd hpo g7
   | some t3 =>
    obtain⟨kq,x1,y1⟩:=t3;rw[hpo] at px;obtain⟨t,rfl,ht⟩:=px;obtain⟨_,_,f1,e4,_⟩:=T.part hu hv hpo;have f9:=l.more s5 (wr _);have d8:=s5 _ _ b7;have eb:cD ks g e=if kq=g then some (x1,y1) else none:=by unfold cD;rw[hpo]
    have f5:(ts.take (i+1)).filterMap (cD ks g)=(ts.take i).filterMap (cD ks g)++(cD ks g e).toList:=by
     rw[wG,he,List.filterMap_append];cases h:cD ks g e <;> simp[h]
    have b1:bo [] ((ts.take (i+1)).filterMap (cD ks g))=bo S (if kq=g then some (x1,y1) else none:Option (Str × Str)).toList:=by rw[f5,eb,cJ,<- a4]
    clear f5 eb;have b6:eI [V.str kq,V.str x1,V.str y1] (some 1) none=[V.str x1,V.str y1]:=rfl;refine⟨_,rfl,.tup (.of ht) rfl ⟨_,rfl,.sc rfl ⟨_,rfl,?_⟩⟩⟩;refine aF (λhq=>?_) (λhq=>?_)
    ·have hq:kq=g:=Classical.byContradiction λz=>by rw[if_neg (by decide),wX (λw=>z (V.str.inj w))] at hq;cases hq
     rw[if_pos hq] at b1;refine⟨_,rfl,_,rfl,t,_,rfl,.of ht,(λz=>absurd (show HT.sIx 3 0 (some 1)=0 from z.1) (by decide)),λt2 h0=>?_⟩;rw[b6];have s6:=Same.new (o:=.tup [V.str x1,V.str y1]) h0;have a2:=f9.more s6 (wr _);have f0:=a2.len;refine⟨_,rfl,.tr (d:=aA (x1,y1)) a2.f a2.r (br ac) (bQ (d2 a2.i)) (cf ⟨T.nm _ f1,T.nm _ e4⟩) (by show 1<=16;decide) ⟨_,rfl,?_⟩⟩;have d7:=s6 _ _ ht;have c7:=s6 _ _ d8;generalize upd H5 t2 (.tup [V.str x1,V.str y1])=H6 at a2 d7 c7 ⊢;refine aF (λr=>?_) (λr=>?_)
     ·have r:=lX r;refine⟨_,rfl,.inl ⟨rfl,_,.of a2.f⟩,_,rfl,_,rfl,t,_,rfl,.of d7,(λz=>absurd (show HT.sIx 3 0 (some 1)=0 from z.1) (by decide)),λt7 h5=>?_⟩;rw[b6];have s7:=Same.new (o:=.tup [V.str x1,V.str y1]) h5;have g1:=a2.more s7 (wr _);refine aS ⟨lf,_,_,rfl,rfl,g1.f,by omega,?_⟩;exact⟨_,_,_,_,_,rfl,g1.app ac f1 e4 c4,by rw[ag h8];exact s7 _ _ c7,by rw[b1];exact(if_neg r).symm⟩
     ·have r:=mP r;exact⟨_,_,_,G,S,rfl,a2.more (Same.refl _) (by omega),c7,by rw[b1];exact(if_pos r).symm⟩
    ·have hq:kq≠g:=λz=>hq (by rw[if_neg (by decide),z,wF rfl]);rw[if_neg hq] at b1;exact cY ⟨_,_,_,G,S,rfl,f9.more (Same.refl _) (by omega),d8,b1.symm⟩
  ·rintro σ H4 ⟨o5, Z, o7, G, S, rfl, l, _, a4⟩;rw[b0,wI (wr _)] at a4;refine⟨(by show 2<=sizeLine;decide),λtw g5=>?_⟩;have s5:=Same.new (o:=.tup [V.str "first",V.str "last"]) g5;have p:upd H4 tw (.tup [V.str "first",V.str "last"]) tw=some (.tup [V.str "first",V.str "last"]):=ac;have l:=l.more s5 (wr _);generalize upd H4 tw (.tup [V.str "first",V.str "last"])=H5 at p l ⊢;refine⟨tw,rfl,⟨_,.of p⟩,?_⟩;have f8:∀u∈X.2,u∈us:=λu hu=>T.isIn a7 hu;have i4:X.2.length<=60:=by
    have:=dg (cg T a7) f8;omega
   let e7:Nat->SH:=λi σ M=>∃(o5 Z o7 o8 o9 C:Option V) (G:LV) (S:List (Str × Str)),σ=[some (.ref q),some (.str g),some (.ref la),some (.ref d),some (.ref lf),o5,Z,o7,o8,o9,C]/\Fnd H M lf us G S (200+i * 7320)/\S=bo (bo [] (ts.filterMap (cD ks g))) ((wds.take i).flatMap (qJ X.2 wn))/\M tw=some (.tup [V.str "first",V.str "last"])
   refine cA (R:=Q) (xs:=[V.str "first",V.str "last"]) e7 ?_ ?_ ?_ ?_
   ·exact⟨_,_,_,_,_,_,G,S,rfl,l.more (Same.refl _) (by omega),a4,p⟩
   ·rintro i σ M hi ⟨o5,Z,o7,o8,o9,C,G,S,rfl,_,_,p⟩;exact .of p
   ·rintro _ i x σ H6 hx ⟨o5, Z, o7, o8, o9, C, G, S, rfl, l, a4, p⟩;have j1:i<2:=(wv.mp hx).1;obtain⟨W,rfl,h9⟩:=sj hx;have d5:=l.f;refine⟨_,rfl,.tup (.of (l.s _ _ hq)) rfl ⟨d4,rfl,⟨_,.of (l.s _ _ d0)⟩,?_⟩⟩;refine ck h6 (λD2 j b5 b3 M=>∃(o0 o1:Option V) (zs:LS),b3=[o0,o1,some (.str W),some (.ref la)]/\b5=List.map V.str zs/\zs=wL X.2 (wn.take j) W/\zs.length<=j/\Same H6 M/\H6 D2=none) λD2 d9=>⟨?_,?_,?_,?_⟩
    ·exact⟨none,none,[],rfl,rfl,rfl,wr _,Same.new d9,d9⟩
    ·rintro j b5 b3 M _ ⟨o0,o1,zs,rfl,_,_,_,sm,_⟩ _;exact .of (sm _ _ (l.s _ _ d0))
    ·rintro j b5 b3 M v hv ⟨o0, o1, zs, rfl, rfl, a8, zl, sm, Y⟩ U;obtain⟨e,ta,he,rfl,c3⟩:=bH e9 hv;have i1:=(wv.mp he).1;have sH:=l.s.trans sm;refine⟨ta,_,rfl,.of (sH _ _ c3),rfl,_,_,rfl,_,_,rfl,rfl,?_⟩;have a6:wL X.2 (wn.take (j+1)) W=wL X.2 (wn.take j) W++(if (decide (e.1=W)&&decide (e.2∈X.2))=true then [e.2] else []):=by
      unfold wL;rw[wG,he,xm,wy];congr 1;show List.map _ (List.filter _ [e])=_;rw[xv,xw]
      split <;> rfl
     refine⟨_,rfl,_,rfl,.sc rfl ⟨_,rfl,?_⟩⟩;refine aF (λhw=>?_) (λhw=>cY ?_)
     ·have hw:e.1=W:=Classical.byContradiction λz=>by rw[if_neg (by decide),wX (λw=>z (V.str.inj w))] at hw;cases hw
      rw[wF hw,Bool.true_and] at a6;refine⟨_,rfl,_,rfl,.seq (.inr (.of (sH _ _ c5))) rfl (bL _) ⟨_,rfl,?_⟩⟩;rw[if_neg (show ¬ false=true by decide),jb];refine aF (λhc=>?_) (λhc=>?_)
      ·rw[if_pos hc] at a6;exact⟨_,rfl,U,by rw[wt];exact aw (by omega),_,_,zs++[e.2],rfl,by rw[wy];rfl,by rw[a6,<- a8],by rw[wB];show _+1<=_;omega,aQ sm Y,Y⟩
      ·rw[if_neg hc,xa] at a6;exact⟨U,_,_,zs,rfl,rfl,by rw[a6];exact a8,by omega,sm,Y⟩
     ·have hw:e.1≠W:=λz=>hw (by rw[if_neg (by decide),z,wF rfl]);rw[wX hw,Bool.false_and,if_neg (by decide),xa] at a6;exact⟨U,_,_,zs,rfl,rfl,by rw[a6];exact a8,by omega,sm,Y⟩
    ·rintro b5 b3 H7 ⟨o0, o1, zs, rfl, rfl, c9, zl, sm, Y⟩ U;rw[a9,wI (wr _)] at c9;have a8:∀z∈zs,z∈us:=λz hz=>by
      rw[c9] at hz;unfold wL at hz;obtain⟨e,he,rfl⟩:=ww.mp hz;exact(g3 e (wV.mp he).1).2
     have l:=l.more sm (wr _);have p:=sm _ _ p;have g2:D2≠lf:=Ne.symm (av d5 Y);refine⟨D2,rfl,⟨_,.of U⟩,?_⟩;have i8:zs.length<=122:=by omega
     let f3:Nat->SH:=λj σ M=>∃(Z o9 C:Option V) (G:LV) (a5:List (Str × Str)),σ=[some (.ref q),some (.str g),some (.ref la),some (.ref d),some (.ref lf),o5,Z,o7,some (.str W),o9,C]/\Fnd H M lf us G a5 (200+i * 7320+j * 60)/\a5=bo S ((zs.take j).flatMap (bO (decide (W="last")) X.2))/\M tw=some (.tup [V.str "first",V.str "last"])/\M D2=some (.lst (List.map V.str zs))
     refine cM (R:=Q) (xs:=List.map V.str zs) f3 ?_ ?_ ?_ ?_
     ·exact⟨_,_,_,G,S,rfl,l.more (Same.refl _) (by omega),rfl,p,U⟩
     ·rintro j σ M hj ⟨Z,o9,C,G,a5,rfl,_,_,_,I⟩;exact .of I
     ·rintro _ j x σ H8 hx ⟨Z, o9, C, G, a5, rfl, l, a0, p, I⟩;obtain⟨N,c6,rfl⟩:=aT hx;have i1:=(wv.mp c6).1;have b8:=a8 N (wE c6);refine⟨_,rfl,la,rfl,⟨_,.of (l.s _ _ c5)⟩,?_⟩
      let d3:Nat->SH:=λm σ M=>∃(Z C:Option V) (G:LV) (a3:List (Str × Str)),σ=[some (.ref q),some (.str g),some (.ref la),some (.ref d),some (.ref lf),o5,Z,o7,some (.str W),some (.str N),C]/\Fnd H M lf us G a3 (200+i * 7320+j * 60+m)/\a3=bo a5 (bO (decide (W="last")) (X.2.take m) N)/\M tw=some (.tup [V.str "first",V.str "last"])/\M D2=some (.lst (List.map V.str zs))
      refine cA (R:=Q) (xs:=X.2.map V.str) d3 ?_ ?_ ?_ ?_
      ·exact⟨_,_,G,a5,rfl,l,rfl,p,I⟩
      ·rintro m σ M hm ⟨Z,C,G,a3,rfl,l,_⟩;exact .of (l.s _ _ c5)
      ·rintro _ m y σ H9 hy ⟨Z, C, G, a3, rfl, l, L, p, I⟩;obtain⟨ot,c1,rfl⟩:=aT hy;have i6:=(wv.mp c1).1;have b9:=f8 ot (wE c1);refine⟨_,rfl,_,rfl,(by show 2<=sizeLine;decide),λt1 h1=>?_⟩;have sA:=Same.new (o:=.tup [V.str N,V.str ot]) h1;have e1:upd H9 t1 (.tup [V.str N,V.str ot]) t1=some (.tup [V.str N,V.str ot]):=ac;generalize upd H9 t1 (.tup [V.str N,V.str ot])=HA at sA e1 ⊢;refine⟨_,rfl,_,rfl,(by show 2<=sizeLine;decide),λt2 h2=>?_⟩;have sB:=Same.new (o:=.tup [V.str ot,V.str N]) h2;have e2:upd HA t2 (.tup [V.str ot,V.str N]) t2=some (.tup [V.str ot,V.str N]):=ac;have e1:=sB _ _ e1;have b4:=sA.trans sB;generalize upd HA t2 (.tup [V.str ot,V.str N])=HB at b4 e1 e2 ⊢;refine⟨(by show 2<=sizeLine;decide),λl3 h3=>?_⟩;have sC:=Same.new (o:=.lst [V.ref t1,V.ref t2]) h3;have e3:upd HB l3 (.lst [V.ref t1,V.ref t2]) l3=some (.lst [V.ref t1,V.ref t2]):=ac;have e1:=sC _ _ e1;have e2:=sC _ _ e2;have l:=l.more (b4.trans sC) (wr _);have p:=(b4.trans sC) _ _ p;have I:=(b4.trans sC) _ _ I;generalize upd HB l3 (.lst [V.ref t1,V.ref t2])=HC at e1 e2 e3 l p I ⊢;refine⟨_,rfl,.sc rfl ⟨_,rfl,.bl ?_⟩⟩;obtain⟨tp,x2,y2,g8,d1,f4,e8,i0⟩:∃tp x2 y2,atI [V.ref t1,V.ref t2] (if (if false=true then !decide (V.str W=V.str "last") else decide (V.str W=V.str "last"))=true then 1 else 0)=some (.ref tp)/\HC tp=some (.tup [V.str x2,V.str y2])/\x2∈us/\y2∈us/\(x2,y2)=(if (decide (W="last"))=true then (ot,N) else (N,ot)):=by
        have h7:(if false=true then !decide (V.str W=V.str "last") else decide (V.str W=V.str "last"))=decide (W="last"):=by
         rw[if_neg (by decide),xr,decide_eq_true_iff,decide_eq_true_iff];exact⟨λz=>V.str.inj z,λz=>by rw[z]⟩
        rw[h7];by_cases hb:decide (W="last")=true
        ·rw[if_pos hb,if_pos hb];exact⟨t2,ot,N,rfl,e2,b9,b8,rfl⟩
        ·rw[if_neg hb,if_neg hb];exact⟨t1,N,ot,rfl,e1,b8,b9,rfl⟩
       refine .lst (.of e3) g8 ?_;have f0:=l.len;have a1:bO (decide (W="last")) (X.2.take (m+1)) N=bO (decide (W="last")) (X.2.take m) N++(if ot=N then [] else [(x2,y2)]):=by
        unfold bO;rw[wG,c1,xm,wy];congr 1;show List.map _ (List.filter _ [ot])=_;rw[xv,xw,i0];by_cases hz:ot=N
        ·rw[if_neg (by simpa using hz),if_pos hz];rfl
        ·rw[if_pos (by simpa using hz),if_neg hz];rfl
       refine⟨_,rfl,_,rfl,.sc rfl ⟨_,rfl,?_⟩⟩;refine aF (λhz=>?_) (λhz=>cY ?_)
       ·have hz:ot≠N:=λz=>by rw[if_pos rfl,z,wF rfl] at hz;cases hz
        rw[if_neg hz] at a1;refine⟨_,rfl,_,rfl,.tr (d:=aA (x2,y2)) l.f l.r (br d1) (bQ (d2 l.i)) (cf ⟨T.nm _ f4,T.nm _ e8⟩) (by show 1<=16;decide) ⟨_,rfl,?_⟩⟩;refine aF (λr=>?_) (λr=>?_)
        ·have r:=lX r;refine⟨_,rfl,.inl ⟨rfl,_,.of l.f⟩,_,rfl,aS ⟨lf,_,_,rfl,rfl,l.f,by omega,?_⟩⟩;exact⟨_,_,_,_,rfl,l.app d1 f4 e8 c4,by rw[a1,cJ,<- L];exact(if_neg r).symm,by rw[ag (bP p l.f (by intro z;cases z))];exact p,by rw[ag g2];exact I⟩
        ·have r:=mP r;exact⟨_,_,G,a3,rfl,l.more (Same.refl _) (by omega),by rw[a1,cJ,<- L];exact(if_pos r).symm,p,I⟩
       ·have hz:ot=N:=Classical.byContradiction λz=>hz (by rw[if_pos rfl,wX (λw=>z (V.str.inj w))];rfl);rw[if_pos hz,xa] at a1;exact⟨_,_,G,a3,rfl,l.more (Same.refl _) (by omega),by rw[a1];exact L,p,I⟩
      ·rintro σ H9 ⟨Z,C,G,a3,rfl,l,L,p,I⟩;rw[wt] at l L;rw[wI (wr _)] at L;refine⟨_,_,_,G,a3,rfl,l.more (Same.refl _) (by omega),?_,p,I⟩;rw[wG,c6,ye,cJ,<- a0,L];congr 1;simp
     ·rintro σ H8 ⟨Z,o9,C,G,a5,rfl,l,a0,p,I⟩;rw[wt] at l a0;rw[wI (wr _)] at a0;refine⟨_,_,_,_,_,_,G,a5,rfl,l.more (Same.refl _) (by omega),?_,p⟩;rw[wG,h9,ye,cJ,<- a4,a0,c9];congr 1;simp
   ·rintro σ M ⟨o5,Z,o7,o8,o9,C,G,S,rfl,l,a4,_⟩;have cn:=cg T a7;have ev:S=cc ks ts wn g X.2:=by
     rw[a4];unfold cc;rw[cJ,oJ T WX a7 cn (.inl rfl),oJ T WX a7 cn (.inr rfl)];show bo _ (qJ X.2 wn "first"++(qJ X.2 wn "last"++[]))=_;rw[xa]
     rfl
    have h2:=l.l;have h3:([V.str "first",V.str "last"]:LV).length=2:=rfl;subst ev;exact⟨_,rfl,k lf G M l.s c4 l.f l.r (by omega) l.i⟩
def jU (K:W.Frag):Sp:=λvs H Q _=>∃(p a q un:Addr) (us:LS) (ks:Kn) (ts ws wn:List (Str × Str)),vs=[.ref p,.ref q,.ref un]/\Pen K H p a/\Rep H (.ref q) (aX ks ts ws wn)/\Tre us ks/\cV us ks ts/\WnX ks wn/\ts.length<=200/\wn.length<=122/\H un=some (.lst (List.map V.str us))/\un≠p /\
 ∀(l:Addr) (refs:LV) (ps:List (Str × Str)) (H':Hp),H' l=some (.lst refs)->RepAll H' refs (ps.map aA)->fB us ps->ps.length<=60->l≠p->PenV H' p a->But p H H'->Q (.ref l) H'
theorem scWaiting:FnScope ["_law_pen_here","_law_house_here","_law_units","_law_found","_law_k","_law_pair","_law_told"] ["_law_pen_here","_law_house_here","_law_units"] (aj ia):=⟨rfl,rfl,rfl,by decide +kernel,rfl,by decide +kernel,by decide +kernel⟩
theorem nK (F:Fun K "_law_waiting" "_law_waiting" ia f fd) (B:Blt mg) (c:Cal P w K mg base 1 "_law_draw" ["_law_pen_here", "_law_most"] (dR K)) (n:Cal P w K mg base 1 "_law_around" ["_law_knots"] fz) (l:Cal P w K mg base 2 "_law_parting" ["_law_around_here", "_law_one", "_law_other"] dJ) (u:Cal P w K mg base 3 "_law_edges" ["_law_house_here", "_law_knot"] gP) (m:Cal P w K mg base 1 "_law_reached" ["_law_edges_here", "_law_one"] jS) :
    FnOk P w K mg base CX0 4 f fd ["_law_pen_here","_law_house_here","_law_units"] (jU K):=by
 refine F.ok scWaiting (λvs H Q E h=>?_) (λi4 A f6 s H vs Q E j h=>?_)
 ·obtain⟨p,a,q,un,g,ks,ts,ws,wn,rfl,_⟩:=h
  rfl
 ·obtain⟨p, a, q, un, g, ks, ts, ws, wn, rfl, hP, R, T, c7, e3, tl, wl, Z, Y, k⟩ := h;have nd:=scWaiting.nd;have v0:=hP.2;obtain⟨i0,d6⟩:=bX v0;have h1:=T.len;have I:(List.map V.str g).length=g.length:=wt ..;refine⟨_,(ae (ak (i:=3) nd rfl (Or.inl rfl) (bh ab))
   (ae (aV PassesOwn.never rfl (cG rfl B.range (aa (km rfl B (aa (ba K B (aa (pv 2) ab)) (aa (au c (j.mono (by decide)) rfl (aa (pv 0) (aa af ab))) ab))) ab)) (az (i:=4) nd rfl (Or.inl rfl)) (ae (ak (i:=5) nd rfl (Or.inl rfl) (aN (aa (ai (ap K j.units) (pv 2) (au c (j.mono (by decide)) rfl (aa (pv 0) (aa (ba K B (aa (pv 2) ab)) ab))) (λ_ _=>rfl)) (aa (ai (ap K j.units) (pv 2) (au c (j.mono (by decide)) rfl (aa (pv 0) (aa (ba K B (aa (pv 2) ab)) ab))) (λ_ _=>rfl)) ab))))
   (ae (aZ (PW.pt (bR (ao eU (ba K B (aa (ai (ap K j.units) (pv 1) af (λ_ _=>rfl)) ab)) af (aB _)) (bw (ao (bn j.units) (au c (j.mono (by decide)) rfl (aa (pv 0) (aa af ab))) af (aB _))))) (ah (ak (i:=5) nd rfl (Or.inl rfl) (tI K (ai (ap K j.units) (ai (ap K j.units) (pv 1) af (λ_ _=>rfl)) (au c (j.mono (by decide)) rfl (aa (pv 0) (aa (ba K B (aa (ai (ap K j.units) (pv 1) af (λ_ _=>rfl)) ab)) ab))) (λ_ _=>rfl)) (cv (fK eN af))))) aK)
   (ae (ak (i:=6) nd rfl (Or.inl rfl) (au l (j.mono (by decide)) rfl (aa (au n (j.mono (by decide)) rfl (aa (ai (ap K j.units) (pv 1) af (λ_ _=>rfl)) ab)) (aa (ai (ap K j.units) (pv 5) af (λ_ _=>rfl)) (aa (ai (ap K j.units) (pv 5) af (λ_ _=>rfl)) ab)))))
   (ah (aZ (PW.pt (bR (ao jX (pv 6) eM (aB _)) (bw (ao (bU K j.units) (pv 5) (pv 3) (by with_unfolding_all rfl))))) (ah (aZ (ao (dw K j.units) (ai (ap K j.units) (pv 6) af (λ_ _=>rfl)) (au m (j.mono (by decide)) rfl (aa (au u (j.mono (by decide)) rfl (aa (pv 1) (aa (ai (ap K j.units) (pv 6) af (λ_ _=>rfl)) ab))) (aa (ai (ap K j.units) (pv 6) af (λ_ _=>rfl)) ab))) (by with_unfolding_all rfl)) (ah (be (bZ K (pv 3) (aa (pv 5) ab)))) aK)) aK))))))
   (ah (aC (pv 3))))),?_⟩
  refine⟨(by show 0<=sizeLine;decide),λC a4=>?_⟩;have a3:C≠p:=Ne.symm (v0.ne a4);have b1:But p H (upd H C (.lst [])):=(But.refl p H).at a4;have v1:PenV (upd H C (.lst [])) p a:=v0.upd (v0.ne a4);have e1:upd H C (.lst []) C=some (.lst []):=ac;generalize upd H C (.lst [])=H1 at b1 v1 e1 ⊢;refine⟨_,rfl,_,_,rfl,Or.inl ⟨_,.of (b1 un _ Y Z),rfl⟩,_,rfl,p,a,6,rfl,hP.but b1 v1,by decide,by decide,λr H2 i5 i7 v2 e2=>⟨_,_,rfl,_,rfl,?_⟩⟩;rw[I];obtain⟨cn,f5,i3⟩:∃cn:Nat,(if r<((g.length:Nat):Int) then r else ((g.length:Nat):Int))=(cn:Int)/\cn<=6/\cn<=g.length:=by
   split
   ·exact⟨r.toNat,by omega,by omega,by omega⟩
   ·exact⟨g.length,rfl,by omega,wr _⟩
  rw[f5];refine⟨by omega,by omega,?_⟩;rw[show ((cn:Nat):Int).toNat=cn from rfl];have d8:=But.of_eq e2;have b2:=b1.trans d8
  let c9:Nat->SH:=λi σ D=>∃(o4 o5 o6:Option V) (W:LV) (M:List (Str × Str)),σ=[some (.ref p),some (.ref q),some (.ref un),some (.ref C),o4,o5,o6]/\D C=some (.lst W)/\RepAll D W (M.map aA)/\fB g M/\M.length<=i/\PenV D p a/\But p H D
  refine fb (R:=Q) c9 ?_ ?_ ?_
  ·exact⟨none,none,none,[],[],rfl,d8 C _ a3 e1,.nil,(λe he=>by cases he),wr _,v2,b2⟩
  ·rintro _ i σ H3 hi ⟨o4, o5, o6, W, M, rfl, a7, a5, O, g6, v3, b3⟩;have hi:i<cn:=hi;have h3:0<g.length:=by omega
   obtain⟨h7,g9⟩:=bX v3;have f4:∀e∈M,Nm e.1/\Nm e.2:=λe he=>⟨T.nm _ (O e he).1,T.nm _ (O e he).2⟩
   have d2:=a5.len;rw[wt] at d2;have c5:∀D,But p H3 D->D C=some (.lst W)/\RepAll D W (M.map aA):=λD b=>⟨b C _ a3 a7,aJ (aH g9 b) a5⟩
   apply cT (J:=λσ HZ=>∃(t:Addr) (x y:Str),σ=[some (.ref p),some (.ref q),some (.ref un),some (.ref C),some (.int (0+(i:Nat):Int)),some (.ref t),o6]/\x∈g/\y∈g/\HZ t=some (.tup [.str x,.str y])/\PenV HZ p a/\But p H3 HZ)
   ·intro aU;refine⟨_,rfl,_,rfl,_,rfl,_,_,rfl,Or.inl ⟨_,.of (b3 un _ Y Z),rfl⟩,p,a,_,rfl,hP.but b3 v3,by rw[I];omega,by rw[I];omega,λr4 H4 f7 f2 v4 e4=>?_⟩;have d4:=But.of_eq e4;have b4:=b3.trans d4;obtain⟨j1,rfl⟩:=xc f7;rw[I] at f2;have d3:j1<g.length:=by omega
    refine .lst (.of (b4 un _ Y Z)) (de d3) ⟨_,rfl,_,rfl,_,rfl,_,_,rfl,Or.inl ⟨_,.of (b4 un _ Y Z),rfl⟩,p,a,_,rfl,hP.but b4 v4,by rw[I];omega,by rw[I];omega,λr5 H5 g3 f3 v5 e5=>?_⟩;have d0:=d4.trans (But.of_eq e5);have b5:=b3.trans d0;obtain⟨j2,rfl⟩:=xc g3;rw[I] at f3;have c8:j2<g.length:=by omega
    refine .lst (.of (b5 un _ Y Z)) (de c8) ⟨(by show 2<=sizeLine;decide),λt ht=>?_⟩;have s6:=Same.new (o:=.tup [V.str (g.getD j1 ""),V.str (g.getD j2 "")]) ht;have e6:upd H5 t (.tup [V.str (g.getD j1 ""),V.str (g.getD j2 "")]) t=some (.tup [V.str (g.getD j1 ""),V.str (g.getD j2 "")]):=ac;have v6:=aI s6 v5;have G:=d0.trans (But.of_same (p:=p) s6);have hx:=cz d3;have hy:=cz c8;generalize upd H5 t (.tup [V.str (g.getD j1 ""),V.str (g.getD j2 "")])=H6 at e6 v6 G ⊢;have b6:=b3.trans G;obtain⟨q',a1,f9,c1,d1,e0,X,R1,R2,_⟩:=bW (dU d6 b6 R);cases e0;obtain⟨h2,rb,e0,b8,d5⟩:=cu R2;cases e0;have b0:=d5.len;rw[wt] at b0;refine⟨_,rfl,.tup (.of X) rfl (aS ⟨_,_,rfl,Or.inr ⟨_,.of b8,rfl⟩,_,_,rfl,rfl,_,rfl,?_⟩)⟩;refine aF (λh=>?_) (λ_=>cY ?_)
    ·have h:(0:Int)<((rb.length:Nat):Int):=wK h;refine⟨_,rfl,p,a,2,rfl,hP.but b6 v6,by decide,by decide,λr7 H7 i1 h9 v7 e7=>.sc rfl ⟨_,rfl,?_⟩⟩;have U:=But.of_eq e7;have a6:=G.trans U;have b7:=b3.trans a6;obtain⟨i8,S⟩:=bX v6;refine aF (λ_=>?_) (λ_=>?_)
     ·refine⟨_,rfl,.tup (.of (bT S U X)) rfl ⟨_,rfl,_,rfl,.tup (.of (bT S U X)) rfl (aS ⟨_,_,rfl,Or.inr ⟨_,.of (bT S U b8),rfl⟩,aS ⟨p,a,_,rfl,hP.but b7 v7,by omega,by omega,λr8 H8 e9 h5 v8 e8=>?_⟩⟩)⟩⟩;obtain⟨i6,h6⟩:=bX v7;have c6:=But.of_eq e8;have c4:=U.trans c6;have f8:=a6.trans c6;obtain⟨j3,rfl⟩:=xc e9;obtain⟨z,hz⟩:∃z,rb[j3]? = some z:=⟨_,wP (by omega)⟩
      obtain⟨e,te,he,rfl,f1⟩:=bH d5 hz;have c3:=c7 e (wE he);refine .tup (.of (bT S c4 b8)) (cF hz) ⟨_,rfl,_,rfl,te,_,_,rfl,rfl,.of (bT S c4 f1),λt9 g5=>?_⟩;have s9:=Same.new (o:=.tup [V.str e.2,V.str e.1]) g5;dsimp only[bp];exact aU _ _ ⟨t9,e.2,e.1,rfl,c3.2.1,c3.1,ac,aI s9 v8,f8.trans (But.of_same (p:=p) s9)⟩
     ·exact aU _ _ ⟨t,_,_,rfl,hx,hy,bT S U e6,v7,a6⟩
    ·exact aU _ _ ⟨t,_,_,rfl,hx,hy,e6,v6,G⟩
   ·rintro σ H6 ⟨t, x, y, rfl, hx, hy, a0, v6, G⟩;have b6:=b3.trans G;have R6:=dU d6 b6 R;obtain⟨a8,b9⟩:=c5 H6 G;obtain⟨q',a1,f9,c1,d1,e0,X,R1,R2,_⟩:=bW R6;cases e0;refine⟨_,rfl,.tup (.of X) rfl (aS ⟨a1,g,ks,rfl,R1,T,λd g1 H7 s7 h8 hd ar=>?_⟩)⟩;refine⟨_,rfl,.tup (.of (s7 _ _ a0)) rfl ⟨_,rfl,.tup (.of (s7 _ _ a0)) rfl (aS ⟨d,g1,g,ks,x,y,rfl,hd,ar,T,hx,hy,λv H8 s8 px=>?_⟩)⟩⟩;have L:=s7.trans s8;have a9:∀D (o:V),Same H6 D->∃(o4 o5 o6:Option V) (W:LV) (M:List (Str × Str)),[some (V.ref p),some (V.ref q),some (V.ref un),some (V.ref C),some (.int (0+(i:Nat):Int)),some (.ref t),some o]=[some (V.ref p),some (.ref q),some (.ref un),some (.ref C),o4,o5,o6]/\D C=some (.lst W)/\RepAll D W (M.map aA)/\fB g M/\M.length<=i+1/\PenV D p a/\But p H D:=λD o s =>
     ⟨_,_,_,W,M,rfl,s _ _ a8,b9.same s,O,by omega,aI s v6,b6.trans (But.of_same (p:=p) s)⟩
    refine⟨_,rfl,.non ⟨_,rfl,?_⟩⟩;cases hpo:bc ks x y with
    | none =>
     rw[hpo] at px;cases px;exact cY (cY (a9 H8 _ L))
    | some t3 =>
     obtain⟨kq,x1,y1⟩:=t3;rw[hpo] at px;obtain⟨tt,rfl,c0⟩:=px;obtain⟨g4,_,g0,i2,_⟩:=T.part hx hy hpo;refine rq ?_;refine⟨_,rfl,_,rfl,.tr (d:=aA (x,y)) (L _ _ a8) (b9.same L) (br (L _ _ a0)) (bQ f4) (cf ⟨T.nm _ hx,T.nm _ hy⟩) (by show 1<=16;decide) ⟨_,rfl,?_⟩⟩;refine aF (λ_=>?_) (λ_=>?_)
     ·obtain⟨kk, g7, d7⟩ := ww.mp (T.par_in g0).2;rw[g4] at d7;have c2:(kq,kk.2)∈ks:=by rw[<- d7];exact g7
      refine⟨_,rfl,.tup (.of c0) rfl ⟨_,rfl,_,rfl,.tup (.of c0) rfl (aS ⟨q,g,ks,ts,ws,wn,kq,kk.2,rfl,R6.same L,T,c7,e3,c2,tl,wl,λle re H9 s9 h4 f0 g8 d9 _=>?_⟩)⟩⟩;refine⟨_,rfl,.tup (.of (s9 _ _ c0)) rfl (aS ⟨le,y1,re,_,rfl,f0,g8,d9,λlr fs HA sA h0 g2=>?_⟩)⟩;have N:=(L.trans s9).trans sA;refine .seq (.inl (.of g2)) rfl (bL _) ⟨_,rfl,?_⟩;refine aF (λ_=>?_) (λ_=>?_)
      ·have a2:=N _ _ a8;refine⟨_,rfl,.inl ⟨rfl,_,.of a2⟩,_,rfl,aS ⟨C,_,_,rfl,rfl,a2,aw (by omega),?_⟩⟩;refine⟨_,_,_,W++[.ref t],M++[(x,y)],rfl,ac,?_,λe he=>?_,by rw[wB];show _+1<=_;omega,(aI N v6).upd (Ne.symm a3),(b6.trans (But.of_same (p:=p) N)).at a4⟩
       ·rw[wy];exact RepAll.append (aJ (aH a2 But.upd) (b9.same N)) (.cons (aH a2 But.upd (br (N _ _ a0))) .nil)
       ·rcases wR.mp he with w | w
        ·exact O e w
        ·rw[wO.mp w];exact⟨hx,hy⟩
      ·exact a9 HA _ N
     ·exact a9 H8 _ L
  ·rintro σ H3 ⟨o4,o5,o6,W,M,rfl,a7,a5,O,g6,v3,b3⟩;exact⟨_,rfl,k C W M H3 a7 a5 O (by omega) a3 v3 b3⟩
def lR (K:W.Frag):Sp:=λvs H Q _=>∃(p a un:Addr) (us:LS) (dp:Int),vs=[.ref p,.ref un,.int dp]/\Pen K H p a/\H un=some (.lst (List.map V.str us))/\un≠p/\us.Nodup/\(∀u∈us,Nm u)/\us.length<=60 /\
 ∀(q:Addr) (ks:Kn) (ts ws wn:List (Str × Str)) (H':Hp),Rep H' (.ref q) (aX ks ts ws wn)->Tre us ks->cV us ks ts->fB us ws->WnX ks wn->ts.length<=200->ws.length<=60->wn.length<=122->PenV H' p a->But p H H'->Q (.ref q) H'
theorem scHouse:FnScope ["_law_pen_here","_law_units","_law_deep","_law_knots","_law_wants_here","_law_ties","_law_house_here"] ["_law_pen_here","_law_units","_law_deep"] (aj kI):=⟨rfl,rfl,rfl,by decide +kernel,rfl,by decide +kernel,by decide +kernel⟩
theorem qT (F:Fun K "_law_house" "_law_house" kI f fd) (B:Blt mg) (g:Cal P w K mg base 1 "_law_draw" ["_law_pen_here", "_law_most"] (dR K)) (j:Cal P w K mg base 2 "_law_tree" ["_law_pen_here", "_law_names_here", "_law_deep"] (pL K)) (c:Cal P w K mg base 2 "_law_wants" ["_law_pen_here", "_law_knots"] (lQ K)) (e:Cal P w K mg base 3 "_law_kept" ["_law_pen_here", "_law_knots", "_law_units", "_law_many"] (oC K)) (b:Cal P w K mg base 4 "_law_waiting" ["_law_pen_here", "_law_house_here", "_law_units"] (jU K)) :
    FnOk P w K mg base CX0 5 f fd ["_law_pen_here","_law_units","_law_deep"] (lR K):=by
 refine F.ok scHouse (λvs H Q E h=>?_) (λe0 A c8 s H vs Q E hr h=>?_)
 ·obtain⟨p,a,N,q,dp,rfl,_⟩:=h
  rfl
 ·obtain⟨p,a,N,q,dp,rfl,R,u,n,d5,d1,a8,k⟩:=h;have nd:=scHouse.nd;have v0:=R.2;have c3:(List.map V.str q).length=q.length:=wt ..;refine⟨_,(ae (ak (i:=3) nd rfl (Or.inl rfl) (au j (hr.mono (by decide)) rfl (aa (pv 0) (aa (pv 1) (aa (pv 2) ab)))))
   (ae (ak (i:=4) nd rfl (Or.inl rfl) (au c (hr.mono (by decide)) rfl (aa (pv 0) (aa (pv 3) ab))))
   (ae (ak (i:=5) nd rfl (Or.inl rfl) (au e (hr.mono (by decide)) rfl (aa (pv 0) (aa (pv 3) (aa (pv 1) (aa (au g (hr.mono (by decide)) rfl (aa (pv 0) (aa (aD aL (km rfl B (aa af (aa (aD fq af (ba K B (aa (pv 1) ab))) ab))) af) ab))) ab))))))
   (ae (ak (i:=6) nd rfl (Or.inl rfl) (aN (aa (pv 3) (aa (cQ K B (aa (pv 5) ab)) (aa (aN ab) (aa (cQ K B (aa (pv 4) ab)) ab))))))
   (ah (aC (aN (aa (pv 3) (aa (cQ K B (aa (pv 5) ab)) (aa (cQ K B (aa (au b (hr.mono (by decide)) rfl (aa (pv 0) (aa (pv 6) (aa (pv 1) ab)))) ab)) (aa (cQ K B (aa (pv 4) ab)) ab))))))))))),?_⟩
  refine⟨_,rfl,_,rfl,_,rfl,p,a,N,q,dp,rfl,R,u,n,d5,d1,a8,λU ks H1 R1 T v1 b1=>?_⟩;refine⟨_,rfl,_,rfl,p,a,U,q,ks,rfl,R.but b1 v1,R1,T,λlw rw wn H2 c5 c9 Z wl a9 v2 c1=>?_⟩;have b2:=b1.trans c1;obtain⟨e7,b0⟩:=bX v1;obtain⟨d8,d4⟩:=bX v2;refine⟨_,rfl,_,rfl,_,rfl,_,rfl,_,rfl,_,_,rfl,Or.inl ⟨_,.of (b2 N _ n u),rfl⟩,_,_,rfl,rfl,.inl ⟨by decide,by decide⟩,_,_,rfl,.int ?_⟩;rw[c3];obtain⟨mn,d0,e5⟩:∃mn:Nat,(if 2 * ((q.length:Nat):Int)<40 then 2 * ((q.length:Nat):Int) else 40)+1=(mn:Int)/\1<=mn/\mn<=41/\mn<=2 * q.length+1:=by
   split
   ·exact⟨2 * q.length+1,by omega,by omega,by omega,by omega⟩
   ·exact⟨41,rfl,by decide,by decide,by omega⟩
  rw[d0];refine⟨p,a,_,rfl,R.but b2 v2,by omega,by omega,λr H3 d3 e6 v3 e3=>?_⟩;have L:=But.of_eq e3;have a2:=c1.trans L;have b3:=b2.trans L;obtain⟨a0,rfl⟩:=xc d3;refine⟨p,a,U,N,q,ks,a0,rfl,R.but b3 v3,dq b0 a2 R1,T,b3 N _ n u,n,(λ_=>by omega),by omega,λlt I ts H4 b7 a1 a5 tl d9 v4 O=>?_⟩;have c0:=L.trans O;have c2:=a2.trans O;have b4:=b3.trans O;have R4:=dq b0 c2 R1;have x:=c0 lw _ a9 c5;have y:=aJ (aH d4 c0) c9;refine⟨_,rfl,_,rfl,lt,_,rfl,.of b7,λX h1=>?_⟩;have s5:=Same.new (o:=.tup I) h1;have C:upd H4 X (.tup I) X=some (.tup I):=ac;generalize upd H4 X (.tup I)=H5 at s5 C ⊢;refine⟨(by show 0<=sizeLine;decide),λW h2=>?_⟩;have s6:=Same.new (o:=.tup []) h2;have e2:upd H5 W (.tup []) W=some (.tup []):=ac;have C:=s6 _ _ C;have M:=s5.trans s6;generalize upd H5 W (.tup [])=H6 at M C e2 ⊢;refine⟨_,rfl,lw,_,rfl,.of (M _ _ x),λS h3=>?_⟩;have s7:=Same.new (o:=.tup rw) h3;have a6:upd H6 S (.tup rw) S=some (.tup rw):=ac;have C:=s7 _ _ C;have e2:=s7 _ _ e2;have a4:=M.trans s7;generalize upd H6 S (.tup rw)=H7 at a4 C e2 a6 ⊢;refine⟨(by show 4<=sizeLine;decide),λhh d2=>?_⟩;have s8:=Same.new (o:=.tup [V.ref U,V.ref X,V.ref W,V.ref S]) d2;have d:=a4.trans s8;have RH:Rep (upd H7 hh (.tup [V.ref U,V.ref X,V.ref W,V.ref S])) (.ref hh) (aX ks ts [] wn) :=
   gw ac (R4.same d) (.tup (s8 _ _ C) (a1.same d)) (.tup (s8 _ _ e2) .nil) (.tup (s8 _ _ a6) (y.same d))
  generalize upd H7 hh (.tup [V.ref U,V.ref X,V.ref W,V.ref S])=H8 at d RH ⊢;have v8:=aI d v4;have b8:=b4.trans (But.of_same (p:=p) d);refine⟨_,rfl,_,rfl,lt,_,rfl,.of (d _ _ b7),λt9 h9=>?_⟩;have Y:=Same.new (o:=.tup I) h9;have e9:upd H8 t9 (.tup I) t9=some (.tup I):=ac;have v9:=aI Y v8;have b9:=b8.trans (But.of_same (p:=p) Y);have t:=d.trans Y;generalize upd H8 t9 (.tup I)=H9 at Y e9 v9 b9 t ⊢;obtain⟨d7,v⟩:=bX v9;refine⟨_,rfl,_,rfl,_,rfl,p,a,hh,N,q,ks,ts,[],wn,rfl,R.but b9 v9,RH.same Y,T,a5,Z,by omega,wl,b9 N _ n u,n,λlx rx wx HA d6 c4 a7 c6 e4 vA m=>?_⟩;have bA:=b9.trans m;refine⟨lx,_,rfl,.of d6,λtB hB=>?_⟩;have G:=Same.new (o:=.tup rx) hB;have eB:upd HA tB (.tup rx) tB=some (.tup rx):=ac;have a3:=G _ _ (bT v m e9);have b5:=(dq v m (R4.same t)).same G;have b6:=(aJ (aH v m) (a1.same t)).same G;have z:=c4.same G;have J:=G _ _ (m lw _ a9 (t _ _ x));have D:=(aJ (aH v m) (y.same t)).same G;have vB:=aI G vA;have bB:=bA.trans (But.of_same (p:=p) G);generalize upd HA tB (.tup rx)=HB at eB a3 b5 b6 z J D vB bB ⊢;refine⟨_,rfl,lw,_,rfl,.of J,λtC hC=>?_⟩;have sC:=Same.new (o:=.tup rw) hC;refine⟨(by show 4<=sizeLine;decide),λhq c7=>?_⟩;have sD:=Same.new (o:=.tup [V.ref U,V.ref t9,V.ref tB,V.ref tC]) c7;have l:=sC.trans sD;refine k hq ks ts wx wn _ (gw ac (b5.same l) (.tup (l _ _ a3) (b6.same l)) (.tup (l _ _ eB) (z.same l)) (.tup (sD _ _ ac) (D.same l))) T a5 a7 Z (by omega) c6 wl (aI l vB) (bB.trans (But.of_same (p:=p) l))
def iw:Option (Str × Str × Str)->PyData
 | none=>.none
 | some (k,x,y)=>.tuple [.str k,.str x,.str y]
theorem gO {H:Hp}{v:V}{o:Option (Str × Str × Str)}(h:PrtV H v o):Rep H v (iw o):=by
 cases o with
 | none =>
  have h:v=.non:=h;rw[h];exact .non
 | some t =>
  obtain⟨q,rfl,a⟩:=h;exact .tup a (.cons (.str _) (.cons (.str _) (.cons (.str _) .nil)))
theorem gL {z:Str}(h:z=""∨Nm z):Sw (.str z) 82 0:=by
 rcases h with rfl | h
 ·exact⟨by decide +kernel,rfl,wr 0,by decide +kernel⟩
 ·exact Sw.nm h
theorem hZ {ps:List (Str × Str)}{m:Nat}(h:∀e∈ps,Sw (.str e.1) 82 0/\Sw (.str e.2) 82 0) (g:ps.length<=m):Sw (cC ps) (3+m * 175) 2:=by
 have f:∀d∈ps.map aA,Sw d 173 1:=λd a=>by
  obtain⟨e,c,rfl⟩:=ww.mp a;refine(Sw.tuple (n:=82) (k:=0) λd a=>?_).mono (by show 3+2 * (82+2)<=173;decide) (wr _);rcases wH.mp a with rfl | a
  ·exact(h e c).1
  ·rw[wO.mp a];exact(h e c).2
 have b:=Sw.tuple f;rw[wt] at b;exact b.mono (by have:=Nat.mul_le_mul_right 175 g;omega) (wr _)
theorem qU (h:kvs.map (·.1)=ds.map pK) (e:Str × Str) (v:V):(aY kvs (pK e) v).map (·.1)=(if e ∈ ds then ds else ds ++ [e]).map pK := by
 have c:(kvs.any λp=>decide (p.1=pK e))=decide (e∈ds):=by
  rw[xr,yc,decide_eq_true_iff]
  constructor
  ·rintro⟨p,b,q⟩;have:p.1∈kvs.map (·.1):=ww.mpr ⟨p,b,rfl⟩;rw[h] at this;obtain⟨f,d,g⟩:=ww.mp this;have q:=wK q;rw[<- ur (g.trans q)];exact d
  ·intro a;have:pK e∈kvs.map (·.1):=by rw[h];exact ww.mpr ⟨e,a,rfl⟩
   obtain⟨p,b,g⟩:=ww.mp this;exact⟨p,b,wF g⟩
 unfold aY;by_cases a:e∈ds
 ·rw[if_pos (by rw[c];exact wF a),if_pos a,<- h,List.map_map];refine List.map_congr_left λp _=>?_;show (if p.1=pK e then (p.1,v) else p).1=p.1
  split <;> rfl
 ·rw[if_neg (by rw[c];simpa using a),if_neg a,wy,wy,h];rfl
def jQ:Sp:=λvs H Q _=>∃(a:Addr) (refs:LV) (ps:Prs),vs=[.ref a]/\H a=some (.lst refs)/\RepAll H refs (ps.map aA)/\ps.length<=100000/\∀d kvs H',Same H H'->H d=none->H' d=some (.dT kvs)->kvs.map (·.1)=(bo [] ps).map pK->Q (.ref d) H'
theorem scPlaces:FnScope ["things","places","place","thing"] ["things"] (aj eQ):=⟨rfl,rfl,rfl,by decide +kernel,rfl,by decide +kernel,by decide +kernel⟩
theorem nM (F:Fun K "places_of" "places_of" eQ f fd) (B:Blt mg):FnOk P w K mg base CX0 1 f fd ["things"] jQ := by
 refine F.ok scPlaces (λvs H Q E h=>?_) (λa0 A D s H vs Q E Y h=>?_)
 ·obtain⟨a,j,M,rfl,_⟩:=h
  rfl
 ·obtain⟨a, j, M, rfl, T, S, X, k⟩ := h;have J:=scPlaces.nd;have sz:200000<sizeLine:=by decide
  refine⟨_,(ae (ak (i:=1) J rfl (Or.inl rfl) qb)
   (ae (aV PassesOwn.never rfl (kU K rfl B.enumerate (aa (pv 0) ab)) (cj (n:=2) K rfl (aO (az (i:=2) J rfl (Or.inl rfl)) (aO (az (i:=3) J rfl (Or.inl rfl)) ci))) (ah (cR (pv 2) (df (pv 1) (pv 3) (dG Y.units)))))
   (ah (aC (pv 1))))),?_⟩
  have l:=S.len;rw[wt] at l;intro d z;have O:=Same.new (o:=.dT []) z;refine⟨_,rfl,a,rfl,⟨_,.of (O _ _ T)⟩,?_⟩
  let r:Nat->SH:=λi u m=>∃y t c,u=[some (.ref a),some (.ref d),y,t]/\Same H m/\m d=some (.dT c)/\c.length<=i/\c.map (·.1)=(bo [] (M.take i)).map pK
  refine lz (xs:=j) r ?_ ?_ ?_ ?_
  ·exact⟨none,none,[],rfl,O,ac,wr _,rfl⟩
  ·rintro i u m hi ⟨y,t,c,rfl,q,_⟩;exact .of (q _ _ T)
  ·rintro i x u m p Z ⟨y,t,c,rfl,q,v,I,g⟩ C;obtain⟨e,ta,U,rfl,G⟩:=bH (S.same q) Z;have W:=(wv.mp U).1;have L:d≠p:=av v C;have N:=bv c (pK e) (V.int (i:Nat));refine⟨p,_,rfl,.of ac,rfl,_,_,rfl,_,_,rfl,rfl,?_⟩;refine⟨_,rfl,_,rfl,_,rfl,.dic (DPut.t (k:=pK e) (by rw[ag L];exact v) (Same.new C _ _ G) (by omega)) ⟨_,_,_,rfl,?_,ac,by omega,?_⟩⟩
   ·intro b o R;rw[ag (av R z)];exact Same.new C _ _ (q _ _ R)
   ·rw[qU g,wG,U,cJ];rfl
  ·rintro u m ⟨y,t,c,rfl,q,v,I,g⟩;rw[l,wI (wr _)] at g;exact⟨_,rfl,k d c m q z v g⟩
def iH:Sp:=λvs H Q _=>∃(q:Addr) (us:LS) (ks:Kn) (ts ws wn:Prs) (k:Str × LS),vs=[.ref q,.str k.1]/\Rep H (.ref q) (aX ks ts ws wn)/\Tre us ks/\k∈ks/\∀l H',Same H H'->H l=none->H' l=some (.lst (List.map V.str k.2))->Q (.ref l) H'
theorem scChildren:FnScope ["house","knot"] ["house","knot"] (aj gG):=⟨rfl,rfl,rfl,by decide +kernel,rfl,by decide +kernel,by decide +kernel⟩
theorem lH {f:Addr}{fd:FuncData}(F:Fun K "children" "children" gG f fd) (B:Blt mg):FnOk P w K mg base CX0 1 f fd ["house","knot"] iH:=by
 refine F.ok scChildren (λM H Q E h=>?_) (λG A j s H M Q E i h=>?_)
 ·obtain⟨q,x,J,u,v,L,g,rfl,_⟩:=h
  rfl
 ·obtain⟨q,x,J,u,v,L,g,rfl,R,T,n,k⟩:=h;have O:=scChildren.nd;refine⟨_,(ah (aC (gy K rfl B (aa (ai (ap K i.units) (fY K rfl i.units B (aa (ai (ap K i.units) (pv 0) af (λ_ _=>rfl)) ab)) (pv 1) (λ_ _=>rfl)) ab)))),?_⟩;obtain⟨U,a,b,c,V,C,I,z,_⟩:=bW R;cases C;refine⟨_,rfl,.tup (.of I) rfl (aS (dQ z T λD e y m=>?_))⟩;obtain⟨S,r,p⟩:=m g n;have d:=Same.new (o:=.dK e) y;refine⟨_,rfl,.dic (.inl ⟨e,.inr g.1,.inl ac,rfl,r.symm⟩) ?_⟩;generalize upd H D (.dK e)=N at d ⊢;refine aS ⟨_,rfl,.seq (.inr (.of (d _ _ p))) λl t=>?_⟩;exact k l _ (d.trans (Same.new t)) (bu d t) ac
def jw (ks:Kn) (e:Str × Str):PyData:=iw (bc ks e.1 e.2)
theorem mO {H:Hp}{v:V}{o:Option (Str × Str × Str)}(h:Rep H v (iw o)):PrtV H v o:=by
 cases o with
 | none =>
  have h:Rep H v .none:=h;cases h
  rfl
 | some t =>
  obtain⟨k,x,y⟩:=t;obtain⟨q,b,rfl,c,a⟩:=Rep.tupI h;have a:RepAll H b (List.map PyData.str [k,x,y]):=a;have e:=RepAll.strs a;subst e;exact⟨q,rfl,c⟩
theorem iT {H H':Hp}{p:Addr}{ys:LV}(a:H p=some (.lst ys)) (b:But p H H') {v:V}{o:Option (Str × Str × Str)}(h:Rep H v (iw o)):Rep H' v (iw o):=by
 have g:=mO h;refine gO ?_;cases o with
 | none=>exact g
 | some t=>obtain⟨q,e,c⟩:=g;exact⟨q,e,bT a b c⟩
def jm:Sp:=λvs H Q _=>∃(q:Addr) (us:LS) (ks:Kn) (ts ws wn:Prs),vs=[.ref q]/\Rep H (.ref q) (aX ks ts ws wn)/\Tre us ks/\cV us ks ts/\ts.length<=200/\∀l refs H',Same H H'->H l=none->H' l=some (.lst refs)->RepAll H' refs (ts.map (jw ks))->Q (.ref l) H'
theorem scKPart:FnScope ["house","table"] ["house"] (aj dF):=⟨rfl,rfl,rfl,by decide +kernel,rfl,by decide +kernel,by decide +kernel⟩
theorem qX {f:Addr}{fd:FuncData}(F:Fun K "kept_partings" "kept_partings" dF f fd) (B:Blt mg) (p:Cal P w K mg base 1 "homes" ["house"] jc) (g:Cal P w K mg base 2 "parting_by" ["table", "one", "other"] dJ):FnOk P w K mg base CX0 3 f fd ["house"] jm := by
 refine F.ok scKPart (λvs H Q E h=>?_) (λa1 A U s H vs Q E C h=>?_)
 ·obtain⟨q,O,M,N,ws,wn,rfl,_⟩:=h
  rfl
 ·obtain⟨q,O,M,N,ws,wn,rfl,R,T,Y,tl,k⟩:=h;have nd:=scKPart.nd;refine⟨_,(ae (ak (i:=1) nd rfl (Or.inr rfl) (au p (C.mono (by decide)) rfl (aa (pv 0) ab)))
   (ah (aC (cI (aj dF) ["house","table"] [1] "tie" ["table"] (bd K (ai (ap K C.units) (pv 0) af (λ_ _=>rfl))) dh (au g (C.mono (by decide)) rfl (aa (pv 1) (aa (ai (ap K C.units) (pv 0) af (λ_ _=>rfl)) (aa (ai (ap K C.units) (pv 0) af (λ_ _=>rfl)) ab)))))))),?_⟩
  refine⟨_,rfl,q,O,M,N,ws,wn,rfl,R,T,λd W H1 S a2 hd ar=>?_⟩;obtain⟨q',a,b,c,d4,X,hq,_,R2,_⟩:=bW (R.same S);cases X;obtain⟨b',rb,X,hb,I⟩:=cu R2;cases X;have n:=I.len;rw[wt] at n;refine⟨_,rfl,.tup (.of hq) rfl ⟨b,rfl,⟨_,.of hb⟩,?_⟩⟩;refine ck rb (λD j o t y=>∃(L:Option V),t=[L,some (.ref d)]/\RepAll y o ((N.take j).map (jw M))/\Same H1 y/\H1 D=none) λD hD=>⟨?_,?_,?_,?_⟩
  ·exact⟨none,rfl,.nil,Same.new hD,hD⟩
  ·rintro j o t y _ ⟨L,rfl,_,u,_⟩ _;exact .of (u _ _ hb)
  ·rintro j o t y v hv ⟨L,rfl,J,u,r⟩ m;obtain⟨e,ta,he,rfl,G⟩:=bH I hv;have a0:=(wv.mp he).1;obtain⟨hu,Z,_⟩:=Y e (wE he);have z:=J.len;rw[wt,xi] at z;refine gI ?_;refine⟨_,rfl,_,rfl,.tup (.of (u _ _ G)) rfl ⟨_,rfl,.tup (.of (u _ _ G)) rfl (aS ⟨d,W,O,M,e.1,e.2,rfl,u _ _ hd,ar,T,hu,Z,λx H3 s3 px=>?_⟩)⟩⟩;have l:=s3 _ _ m;refine⟨l,aw (by omega),_,rfl,?_,aQ (u.trans s3) r,r⟩;rw[wG,he,wy];exact RepAll.append (aJ (iT l But.upd) (J.same s3)) (.cons (iT l But.upd (gO px)) .nil)
  ·rintro o t y ⟨L,rfl,J,u,r⟩ m;rw[n,wI (wr _)] at J;exact k D o y (S.trans u) (bu S r) m J
theorem gk:Nm "first":=by refine⟨by decide +kernel,by decide +kernel,?_⟩;decide +kernel
theorem mD:Nm "last":=by refine⟨by decide +kernel,by decide +kernel,?_⟩;decide +kernel
theorem hG {z:Str}(h:z="first"∨z="last"):Nm z:=by
 rcases h with rfl | rfl
 ·exact gk
 ·exact mD
def ku:Sp:=λvs H Q _=>∃(q l:Addr) (us c:LS) (ks:Kn) (ts ws wn:Prs) (word:Str),vs=[.ref q,.ref l,.str word]/\Rep H (.ref q) (aX ks ts ws wn)/\Tre us ks/\je us wn/\(word="first"∨word="last")/\H l=some (.lst (List.map V.str c))/\(∀u∈c,Nm u)/\c.length<=60/\∀D H',Same H H'->H D=none->H' D=some (.lst (List.map V.str (wU c wn word)))->Q (.ref D) H'
theorem scWanted:FnScope ["house","row","word"] ["house","row","word"] (aj gU):=⟨rfl,rfl,rfl,by decide +kernel,rfl,by decide +kernel,by decide +kernel⟩
theorem oR {f:Addr}{fd:FuncData}(F:Fun K "wanted" "wanted" gU f fd) (B:Blt mg):FnOk P w K mg base CX0 1 f fd ["house", "row", "word"] ku := by
 refine F.ok scWanted (λvs H Q E h=>?_) (λa1 A O s H vs Q E hr h=>?_)
 ·obtain⟨q,l,us,c,ks,ts,ws,y,d,rfl,_⟩:=h
  rfl
 ·obtain⟨q, l, us, c, ks, ts, ws, y, d, rfl, R, T, C, hw, Y, J, cl, k⟩ := h;have nd:=scWanted.nd;refine⟨_,(ah (aC (cI (aj gU) ["house","row","word"] [2,0] "child" ["word","house"] (bt K (pv 1)) (bS (ao (jq hr.units) (aN (aa (pv 1) (aa (pv 0) ab))) (ai (ap K hr.units) (pv 2) af (λ_ _=>rfl)) (by with_unfolding_all rfl))) (pv 0)))),?_⟩;obtain⟨q',a,b,c3,d4,S,hq,_,_,_,R4⟩:=bW R;cases S;obtain⟨a3,W,S,L,M⟩:=cu R4;cases S;have X:PyData.canLayAll0 (y.map aA)=true:=bQ λe he=>⟨hG (C e he).1,T.nm _ (C e he).2⟩
  refine⟨_,rfl,l,rfl,⟨_,.of Y⟩,?_⟩;refine cU (List.map V.str c) (λD j p x z=>∃(I:Option V),x=[I,some (.str d),some (.ref q)]/\p=List.map V.str (wU (c.take j) y d)/\Same H z/\H D=none) λD hD=>⟨?_,?_,?_,?_⟩
  ·exact⟨none,rfl,rfl,Same.new hD,hD⟩
  ·rintro j p x z _ ⟨I,rfl,_,G,_⟩ _;exact .of (G _ _ Y)
  ·rintro j p x z v hv ⟨I,rfl,rfl,G,n⟩ i;obtain⟨u,N,rfl⟩:=aT hv;have a2:=(wv.mp N).1;have r:wU (c.take (j+1)) y d=wU (c.take j) y d++(if (decide ((d,u)∈y))=true then [u] else []):=by
    unfold wU;rw[wG,N,xm];congr 1;show List.filter _ [u]=_;rw[xv,xw]
   have a0:(wU (c.take j) y d).length<=j:=by
    have:=xn (λu=>decide ((d,u)∈y)) (c.take j);rw[xi] at this;unfold wU;omega
   dsimp only[bp];refine⟨_,rfl,_,rfl,(by show 2<=sizeLine;decide),λt ht=>?_⟩;have st:=Same.new (o:=.tup [V.str d,V.str u]) ht;have Z:upd z t (.tup [V.str d,V.str u]) t=some (.tup [V.str d,V.str u]):=ac;have g:=st _ _ i;have m:=G.trans st;generalize upd z t (.tup [V.str d,V.str u])=H2 at Z g m ⊢;refine⟨_,rfl,.tup (.of (m _ _ hq)) rfl ⟨d4,W,_,aA (d,u),rfl,m _ _ L,M.same m,br Z,X,cf (e:=(d,u)) ⟨hG hw,J u (wE N)⟩,(by show 1<=16;decide),_,rfl,?_⟩⟩;rw[if_neg (show ¬ false=true by decide),ey];refine aF (λU=>?_) (λU=>?_)
   ·rw[if_pos U] at r;exact⟨_,rfl,g,by rw[wt];exact aw (by omega),_,rfl,by rw[r,wy];rfl,aQ m n,n⟩
   ·rw[if_neg U,xa] at r;exact⟨g,_,rfl,by rw[r],m,n⟩
  ·rintro p x z ⟨I,rfl,rfl,G,n⟩ i;rw[wt,wI (wr _)] at i;exact k D z G n i
def nI (ks:Kn) (ts wn:Prs) (k:Str × LS):PyData:=.tuple [.tuple (k.2.map PyData.str),cC (cc ks ts wn k.1 k.2)]
theorem mQ {H:Hp}{ks:Kn}{z:LV}{ts:Prs}(b:RepAll H z (ts.map (jw ks))) {j:Nat}{x:V}(c:z[j]? = some x):∃e,ts[j]? = some e/\PrtV H x (bc ks e.1 e.2):=by
 obtain⟨d,a,rd⟩:=b.get c;rw[wN] at a;cases q:ts[j]? with
 | none=>rw[q] at a;cases a
 | some e =>
  rw[q] at a;have a:jw ks e=d:=wA a;rw[<- a] at rd;exact⟨e,rfl,mO rd⟩
theorem Fnd.ext (h:Fnd H H' G us fr ps n) (r:RepAll H' z (B.map aA)) (i:fB us B) (c:B.length<=m) (a:H G=none):Fnd H (upd H' G (.lst (fr++z))) G us (fr++z) (ps++B) (n+m):=by
 refine⟨ac,?_,λe b=>?_,by rw[wB];have:=h.l;omega,aQ h.s a⟩
 ·rw[wy];exact RepAll.append (aJ (aH h.f But.upd) h.r) (aJ (aH h.f But.upd) r)
 ·rcases wR.mp b with q | q
  ·exact h.i e q
  ·exact i e q
theorem jM (a:Bool) {c:LS}{j:Nat}{u ch:Str}(h:c[j]? = some ch):bO a (c.take (j+1)) u=bO a (c.take j) u++(if ch=u then [] else [if a then (ch,u) else (u,ch)]):=by
 unfold bO;rw[wG,h,xm,wy];congr 1;show List.map _ (List.filter _ [ch])=_;rw[xv,xw];by_cases b:ch=u
 ·rw[if_neg (by simpa using b),if_pos b];rfl
 ·rw[if_pos (by simpa using b),if_neg b];rfl
theorem fZ (a:Bool) (c:LS) (u:Str):(bO a c u).length<=c.length:=by
 unfold bO;rw[wt];exact xn _ _
theorem gN (a:Bool) (g:∀z∈c,z∈us) (d:u∈us):fB us (bO a c u):=λe f=>by
 unfold bO at f;obtain⟨z,b,rfl⟩:=ww.mp f;have b:=g z (wV.mp b).1;cases a
 ·exact⟨d,b⟩
 ·exact⟨b,d⟩
theorem fR (c:LS) (wn:Prs) (a:Str):(wU c wn a).length<=c.length:=by
 unfold wU;exact xn _ _
theorem ko (h:u∈wU c wn q):u∈c:=by
 unfold wU at h;exact(wV.mp h).1
theorem pR {H:Hp}{kvs:List (List Key × V)}{es:Prs}{z:LV}(a:kvs.map (·.1)=es.map pK) (b:z.length=kvs.length) (h:∀(i:Nat) (k:List Key × V), kvs[i]? = some k -> ∃q, z[i]? = some (V.ref q) /\ H q=some (.tup (k.1.map kV))):RepAll H z (es.map aA) := by
 induction es generalizing kvs z with
 | nil =>
  have:kvs=[]:=by simpa using a
  subst this;have:z=[]:=by simpa using b
  subst this;exact .nil
 | cons e es ih =>
  cases kvs with
  | nil=>simp at a
  | cons k kvs =>
   cases z with
   | nil=>simp at b
   | cons r z =>
    rw[xb,xb] at a;injection a with g l;obtain⟨q,c,f⟩:=h 0 k rfl;have c:r=.ref q:=wA c;subst c;rw[g] at f;exact .cons (br f) (ih l (by simpa using b) λi j d=>h (i+1) j d)
theorem sS (T:Tre us ks) (d:cV us ks ts) (knot:Str):fB us (ts.filterMap (cD ks knot)) := λe k => by
 obtain⟨z,a,q⟩:=xM.mp k;obtain⟨i,f,_⟩:=d z a;unfold cD at q;cases hpo:bc ks z.1 z.2 with
 | none=>rw[hpo] at q;cases q
 | some t3 =>
  obtain⟨g,h,j⟩:=t3;rw[hpo] at q;obtain⟨_,_,c,b,_⟩:=T.part i f hpo;have q:(if g=knot then some (h,j) else none)=some e:=q;by_cases a:g=knot
  ·rw[if_pos a] at q;rw[<- wA q];exact⟨c,b⟩
  ·rw[if_neg a] at q;cases q
def kY:Sp:=λvs H Q _=>∃(q lp:Addr) (us:LS) (ks:Kn) (ts ws wn:Prs) (k:Str × LS) (refs:LV),vs=[.ref q,.str k.1,.ref lp]/\Rep H (.ref q) (aX ks ts ws wn)/\Tre us ks/\cV us ks ts/\WnX ks wn/\k∈ks/\ts.length<=200/\H lp=some (.lst refs)/\RepAll H refs (ts.map (jw ks))/\∀x H',Same H H'->Rep H' x (nI ks ts wn k)->Q x H'
theorem scViewBy:FnScope ["house","knot","partings","row","pairs","unit"] ["house","knot","partings"] (aj ff):=⟨rfl,rfl,rfl,by decide +kernel,rfl,by decide +kernel,by decide +kernel⟩
theorem oT {f:Addr}{fd:FuncData}(F:Fun K "view_by" "view_by" ff f fd) (B:Blt mg) (W:Cal P w K mg base 1 "children" ["house", "knot"] iH) (M:Cal P w K mg base 1 "wanted" ["house", "row", "word"] ku) (L:Cal P w K mg base 1 "places_of" ["things"] jQ):FnOk P w K mg base CX0 2 f fd ["house", "knot", "partings"] kY := by
 refine F.ok scViewBy (λvs H Q E h=>?_) (λf5 A e1 s H vs Q E hr h=>?_)
 ·obtain⟨q,lp,us,ks,ts,ws,G,a,b0,rfl,_⟩:=h
  rfl
 ·obtain⟨q, lp, us, ks, ts, ws, G, a, b0, rfl, R, T, c5, WX, c0, tl, d6, d7, k⟩ := h;have nd:=scViewBy.nd;have c2:=WnX.ok T WX;have f0:=T.len;have sz:200000<sizeLine:=by decide
  have Z:∀u∈a.2,u∈us:=λu hu=>T.isIn c0 hu;have r:a.2.length<=60:=by
   have:=dg (cg T c0) Z;omega
  refine⟨_,(ae (ak (i:=3) nd rfl (Or.inl rfl) (au W (hr.mono (by decide)) rfl (aa (pv 0) (aa (pv 1) ab))))
   (ae (eH (i:=4) nd rfl rfl (by rfl) (aj ff) ["house","knot","partings","row","pairs","unit"] ["part"] [1] ["part","knot"] rfl (bt K (pv 2)) (λ_ _ _ _ _=>(az (i:=0) (show (["part","knot"]:LS).Nodup by decide) rfl (Or.inl rfl))) (λ_ _ _ _ _=>(bS (ao (bn hr.units) (ai (ap K hr.units) (pv 0) af (λ_ _=>rfl)) (pv 1) (aB _)))) (λ_ _ _ _ _=>(aN (aa (ai (ap K hr.units) (pv 0) af (λ_ _=>rfl)) (aa (ai (ap K hr.units) (pv 0) af (λ_ _=>rfl)) ab)))))
   (ae (aV PassesOwn.never rfl (bt K (au M (hr.mono (by decide)) rfl (aa (pv 0) (aa (pv 3) (aa aM ab))))) (az (i:=5) nd rfl (Or.inr rfl)) (ah (be (lC K (pv 4) (aa (cI (aj ff) ["house","knot","partings","row","pairs","unit"] [5] "child" ["unit"] (bt K (pv 3)) (bS (ao (eS hr.units) (pv 0) (pv 1) (aB _))) (aN (aa (pv 1) (aa (pv 0) ab)))) ab)))))
   (ae (aV PassesOwn.never rfl (bt K (au M (hr.mono (by decide)) rfl (aa (pv 0) (aa (pv 3) (aa aM ab))))) (az (i:=5) nd rfl (Or.inr rfl)) (ah (be (lC K (pv 4) (aa (cI (aj ff) ["house","knot","partings","row","pairs","unit"] [5] "child" ["unit"] (bt K (pv 3)) (bS (ao (eS hr.units) (pv 0) (pv 1) (aB _))) (aN (aa (pv 0) (aa (pv 1) ab)))) ab)))))
   (ah (aC (aN (aa (cQ K B (aa (pv 3) ab)) (aa (sX rfl B (aa (au L (hr.mono (by decide)) rfl (aa (pv 4) ab)) ab)) ab))))))))),?_⟩
  refine⟨_,rfl,_,rfl,q,us,ks,ts,ws,G,a,rfl,R,T,c0,λla H1 s1 e9 c7=>?_⟩;have b2:=d7.len;rw[wt] at b2;refine⟨_,rfl,lp,rfl,⟨_,.of (s1 _ _ d6)⟩,?_⟩;refine cU b0 (λD j g p l=>∃(o0:Option V),p=[o0,some (.str a.1)]/\RepAll l g (((ts.take j).filterMap (cD ks a.1)).map aA)/\g.length<=j/\Same H1 l/\H1 D=none) λlf d5=>⟨?_,?_,?_,?_⟩
  ·exact⟨none,rfl,.nil,wr _,Same.new d5,d5⟩
  ·rintro j g p l _ ⟨o0,rfl,_,_,y,_⟩ _;exact .of (y _ _ (s1 _ _ d6))
  ·rintro j g p l v hv ⟨o0, rfl, U, al, y, I⟩ c;obtain⟨e,he,pv⟩:=mQ (d7.same (s1.trans y)) hv;have c1:=(wv.mp he).1;obtain⟨hu,f4,e0⟩:=c5 e (wE he);cases hpo:bc ks e.1 e.2 with
   | none=>exact absurd hpo e0
   | some t3 =>
    obtain⟨kq,x1,y1⟩:=t3;rw[hpo] at pv;obtain⟨t,rfl,ht⟩:=pv;have eb:cD ks a.1 e=if kq=a.1 then some (x1,y1) else none:=by unfold cD;rw[hpo]
    have a9:(ts.take (j+1)).filterMap (cD ks a.1)=(ts.take j).filterMap (cD ks a.1)++(if kq=a.1 then some (x1,y1) else none:Option (Str × Str)).toList:=by
     rw[wG,he,List.filterMap_append,<- eb];cases h:cD ks a.1 e <;> simp[h]
    clear eb;dsimp only[bp];refine⟨_,rfl,.tup (.of ht) rfl ⟨_,rfl,.sc rfl ⟨_,rfl,?_⟩⟩⟩;refine aF (λhq=>?_) (λhq=>?_)
    ·have hq:kq=a.1:=Classical.byContradiction λz=>by rw[if_neg (by decide),wX (λw=>z (V.str.inj w))] at hq;cases hq
     rw[if_pos hq] at a9;refine⟨_,rfl,.tup (.of ht) rfl ⟨_,rfl,.tup (.of ht) rfl ⟨(by show 2<=sizeLine;decide),λt2 a2=>?_⟩⟩⟩;have st:=Same.new (o:=.tup [V.str x1,V.str y1]) a2;have et:upd l t2 (.tup [V.str x1,V.str y1]) t2=some (.tup [V.str x1,V.str y1]):=ac;have b:=st _ _ c;have O:=y.trans st;have N:=U.same st;generalize upd l t2 (.tup [V.str x1,V.str y1])=H2 at et b O N ⊢;refine⟨b,aw (by omega),_,rfl,?_,by rw[wB];show _+1<=_;omega,aQ O I,I⟩;rw[a9,wy];exact RepAll.append (aJ (aH b But.upd) N) (.cons (aH b But.upd (br et)) .nil)
    ·have hq:kq≠a.1:=λz=>hq (by rw[if_neg (by decide),z,wF rfl]);rw[if_neg hq] at a9;refine⟨c,_,rfl,?_,by omega,y,I⟩;rw[a9,show (none:Option (Str × Str)).toList=[] from rfl,xa];exact U
  ·rintro g p H2 ⟨o0, rfl, U, al, y, I⟩ c;rw[b2,wI (wr _)] at U;have s2:=s1.trans y;have c6:H lf=none:=bu s1 I;have b3:=y _ _ c7;have d2:la≠lf:=av c7 I;have b8:Fnd H H2 lf us g (ts.filterMap (cD ks a.1)) 200:=by
    refine⟨c,U,λe he=>?_,?_,s2⟩
    ·exact sS T c5 _ e he
    ·exact wM (List.length_filterMap_le _ _) tl
   generalize e6:ts.filterMap (cD ks a.1)=bs at b8;refine⟨_,rfl,_,rfl,q,la,us,a.2,ks,ts,ws,G,"first",rfl,R.same s2,T,c2,(.inl rfl),b3,(λu hu=>T.nm _ (Z u hu)),r,λD1 H3 s3 b9 hD=>?_⟩;have b7:=b8.more s3 (wr _);have nD:D1≠lf:=Ne.symm (av b8.f b9);have a3:=s3 _ _ b3;refine⟨D1,rfl,⟨_,.of hD⟩,?_⟩
   let c9:Nat->SH:=λi σ l=>∃(o5:Option V) (fr:LV),σ=[some (.ref q),some (.str a.1),some (.ref lp),some (.ref la),some (.ref lf),o5]/\Fnd H l lf us fr (bs++((wU a.2 G "first").take i).flatMap (bO false a.2)) (200+i * 60)/\l la=some (.lst (List.map V.str a.2))/\l D1=some (.lst (List.map V.str (wU a.2 G "first")))
   refine cM (R:=Q) (xs:=List.map V.str (wU a.2 G "first")) c9 ?_ ?_ ?_ ?_
   ·exact⟨_,_,rfl,by rw[List.take_zero,List.flatMap_nil,xa];exact b7,a3,hD⟩
   ·rintro i σ l hi ⟨o5,fr,rfl,_,_,hD⟩;exact .of hD
   ·rintro _ i x σ H4 hx ⟨o5, fr, rfl, Y, C, b4⟩;obtain⟨u,hu,rfl⟩:=aT hx;have c1:=(wv.mp hu).1;have a1:=wM (fR a.2 G "first") r;have b5:=Z u (ko (wE hu));have d1:=Y.len;refine⟨_,rfl,.inl ⟨rfl,_,.of Y.f⟩,_,rfl,la,rfl,⟨_,.of C⟩,?_⟩;refine cU (List.map V.str a.2) (λD j g p l=>∃(o0:Option V),p=[o0,some (.str u)]/\RepAll l g ((bO false (a.2.take j) u).map aA)/\g.length<=j/\Same H4 l/\H4 D=none) λD a6=>⟨?_,?_,?_,?_⟩
    ·exact⟨none,rfl,.nil,wr _,Same.new a6,a6⟩
    ·rintro j g p l _ ⟨o0,rfl,_,_,y,_⟩ _;exact .of (y _ _ C)
    ·rintro j g p l v hv ⟨o0,rfl,U,al,y,n⟩ c;obtain⟨ch,a0,rfl⟩:=aT hv;have e7:=(wv.mp a0).1;have J:=jM false (u:=u) a0;dsimp only[bp];refine⟨_,rfl,_,rfl,.sc rfl ⟨_,rfl,?_⟩⟩;refine aF (λS=>?_) (λS=>?_)
     ·have S:ch≠u:=λz=>by rw[if_pos rfl,z,wF rfl] at S;cases S
      rw[if_neg S] at J;refine⟨_,rfl,_,rfl,(by show 2<=sizeLine;decide),λt2 a2=>?_⟩;have st:=Same.new (o:=.tup [V.str u,V.str ch]) a2;have et:upd l t2 (.tup [V.str u,V.str ch]) t2=some (.tup [V.str u,V.str ch]):=ac;have b:=st _ _ c;have O:=y.trans st;have N:=U.same st;generalize upd l t2 (.tup [V.str u,V.str ch])=H5 at et b O N ⊢;refine⟨b,aw (by omega),_,rfl,?_,by rw[wB];show _+1<=_;omega,aQ O n,n⟩;rw[J,wy];exact RepAll.append (aJ (aH b But.upd) N) (.cons (aH b But.upd (br et)) .nil)
     ·have S:ch=u:=Classical.byContradiction λz=>S (by rw[if_pos rfl,wX (λw=>z (V.str.inj w))];rfl);rw[if_pos S,xa] at J;exact⟨c,_,rfl,by rw[J];exact U,by omega,y,n⟩
    ·rintro g p H5 ⟨o0,rfl,U,al,y,n⟩ c;rw[wt] at al;rw[wt,wI (wr _)] at U;have a5:=Y.more y (wr _);have fx:=a5.ext (m:=60) U (gN false Z b5) (wM (fZ false a.2 u) r) c6;refine aS ⟨lf,D,_,_,rfl,rfl,a5.f,c,by omega,?_⟩;refine⟨_,fr++g,rfl,?_,by rw[ag d2];exact y _ _ C,by rw[ag nD];exact y _ _ b4⟩;have e:bs++((wU a.2 G "first").take (i+1)).flatMap (bO false a.2)=bs++((wU a.2 G "first").take i).flatMap (bO false a.2)++bO false a.2 u:=by
      rw[wG,hu,ye,xz];simp
     rw[e];exact fx.more (Same.refl _) (by omega)
   ·rintro σ H6 ⟨o5, f3, rfl, X, b1, _⟩;have a1:=wM (fR a.2 G "first") r;rw[wt,wI (wr _)] at X;have X:=X.more (m:=3800) (Same.refl _) (by omega);generalize e5:bs++(wU a.2 G "first").flatMap (bO false a.2)=fs at X;refine⟨_,rfl,_,rfl,q,la,us,a.2,ks,ts,ws,G,"last",rfl,R.same X.s,T,c2,(.inr rfl),b1,(λu hu=>T.nm _ (Z u hu)),r,λD2 H3 s3 b9 hD=>?_⟩;have b7:=X.more s3 (wr _);have nD:D2≠lf:=Ne.symm (av X.f b9);have a3:=s3 _ _ b1;refine⟨D2,rfl,⟨_,.of hD⟩,?_⟩
    let d0:Nat->SH:=λi σ l=>∃(o5:Option V) (fr:LV),σ=[some (.ref q),some (.str a.1),some (.ref lp),some (.ref la),some (.ref lf),o5]/\Fnd H l lf us fr (fs++((wU a.2 G "last").take i).flatMap (bO true a.2)) (3800+i * 60)/\l la=some (.lst (List.map V.str a.2))/\l D2=some (.lst (List.map V.str (wU a.2 G "last")))
    refine cM (R:=Q) (xs:=List.map V.str (wU a.2 G "last")) d0 ?_ ?_ ?_ ?_
    ·exact⟨_,_,rfl,by rw[List.take_zero,List.flatMap_nil,xa];exact b7,a3,hD⟩
    ·rintro i σ l hi ⟨o5,fr,rfl,_,_,hD⟩;exact .of hD
    ·rintro _ i x σ H4 hx ⟨o5, fr, rfl, Y, C, b4⟩;obtain⟨u,hu,rfl⟩:=aT hx;have c1:=(wv.mp hu).1;have a1:=wM (fR a.2 G "last") r;have b5:=Z u (ko (wE hu));have d1:=Y.len;refine⟨_,rfl,.inl ⟨rfl,_,.of Y.f⟩,_,rfl,la,rfl,⟨_,.of C⟩,?_⟩;refine cU (List.map V.str a.2) (λD j g p l=>∃(o0:Option V),p=[o0,some (.str u)]/\RepAll l g ((bO true (a.2.take j) u).map aA)/\g.length<=j/\Same H4 l/\H4 D=none) λD a6=>⟨?_,?_,?_,?_⟩
     ·exact⟨none,rfl,.nil,wr _,Same.new a6,a6⟩
     ·rintro j g p l _ ⟨o0,rfl,_,_,y,_⟩ _;exact .of (y _ _ C)
     ·rintro j g p l v hv ⟨o0,rfl,U,al,y,n⟩ c;obtain⟨ch,a0,rfl⟩:=aT hv;have e7:=(wv.mp a0).1;have J:=jM true (u:=u) a0;dsimp only[bp];refine⟨_,rfl,_,rfl,.sc rfl ⟨_,rfl,?_⟩⟩;refine aF (λS=>?_) (λS=>?_)
      ·have S:ch≠u:=λz=>by rw[if_pos rfl,z,wF rfl] at S;cases S
       rw[if_neg S] at J;refine⟨_,rfl,_,rfl,(by show 2<=sizeLine;decide),λt2 a2=>?_⟩;have st:=Same.new (o:=.tup [V.str ch,V.str u]) a2;have et:upd l t2 (.tup [V.str ch,V.str u]) t2=some (.tup [V.str ch,V.str u]):=ac;have b:=st _ _ c;have O:=y.trans st;have N:=U.same st;generalize upd l t2 (.tup [V.str ch,V.str u])=H5 at et b O N ⊢;refine⟨b,aw (by omega),_,rfl,?_,by rw[wB];show _+1<=_;omega,aQ O n,n⟩;rw[J,wy];exact RepAll.append (aJ (aH b But.upd) N) (.cons (aH b But.upd (br et)) .nil)
      ·have S:ch=u:=Classical.byContradiction λz=>S (by rw[if_pos rfl,wX (λw=>z (V.str.inj w))];rfl);rw[if_pos S,xa] at J;exact⟨c,_,rfl,by rw[J];exact U,by omega,y,n⟩
     ·rintro g p H5 ⟨o0,rfl,U,al,y,n⟩ c;rw[wt] at al;rw[wt,wI (wr _)] at U;have a5:=Y.more y (wr _);have fx:=a5.ext (m:=60) U (gN true Z b5) (wM (fZ true a.2 u) r) c6;refine aS ⟨lf,D,_,_,rfl,rfl,a5.f,c,by omega,?_⟩;refine⟨_,fr++g,rfl,?_,by rw[ag d2];exact y _ _ C,by rw[ag nD];exact y _ _ b4⟩;have e:fs++((wU a.2 G "last").take (i+1)).flatMap (bO true a.2)=fs++((wU a.2 G "last").take i).flatMap (bO true a.2)++bO true a.2 u:=by
       rw[wG,hu,ye,xz];simp
      rw[e];exact fx.more (Same.refl _) (by omega)
    ·rintro σ H7 ⟨o5,f6,rfl,a7,c3,_⟩;have a1:=wM (fR a.2 G "last") r;rw[wt,wI (wr _)] at a7;have a7:=a7.more (m:=7400) (Same.refl _) (by omega);have c4:cc ks ts G a.1 a.2=bo [] (fs++(wU a.2 G "last").flatMap (bO true a.2)):=by
      unfold cc;rw[e6,<- xz,e5]
     generalize fs++(wU a.2 G "last").flatMap (bO true a.2)=ps at a7 c4;refine⟨_,rfl,la,_,rfl,.of c3,λl1 d9=>?_⟩;have s8:=Same.new (o:=.tup (List.map V.str a.2)) d9;have e8:upd H7 l1 (.tup (List.map V.str a.2)) l1=some (.tup (List.map V.str a.2)):=ac;have a4:=a7.more s8 (wr _);generalize upd H7 l1 (.tup (List.map V.str a.2))=H8 at e8 a4 ⊢;have pl:=a4.l;refine⟨_,rfl,aS ⟨lf,_,ps,rfl,a4.f,a4.r,by omega,λd e3 H9 s9 f2 hd e2=>?_⟩⟩;refine⟨d,e3,rfl,hd,λl2 rs d8 rl e4=>?_⟩;have d3:=Same.new (o:=.tup rs) d8;have d4:=(pR e2 rl e4).same d3;have c8:upd H9 l2 (.tup rs) l2=some (.tup rs):=ac;have b6:=s9.trans d3;generalize upd H9 l2 (.tup rs)=f1 at d4 c8 b6 ⊢;refine aS ⟨(by show 2<=sizeLine;decide),λt ht=>?_⟩;have a8:=Same.new (o:=.tup [V.ref l1,V.ref l2]) ht;refine k (.ref t) _ ((a4.s.trans b6).trans a8) ?_;unfold nI;rw[c4];exact .tup ac (.cons (.tup (a8 _ _ (b6 _ _ e8)) (RepAll.of_strs _)) (.cons (.tup (a8 _ _ c8) (d4.same a8)) .nil))
theorem ib {α β:Type}{f:α->List β}{m:Nat}:∀ {l:List α},(∀x∈l,(f x).length<=m)->(l.flatMap f).length<=l.length * m
 | [],_=>wW _
 | x::l,h=>by
  rw[List.flatMap_cons,wB,wC];have h1:=h x (by simp);have h2:=ib (l:=l) λy hy=>h y (wY _ hy);rw[Nat.add_mul];omega
theorem oV {knot:Str}{c:LS}(a:c.length<=60) (i:ts.length<=200):(cc ks ts wn knot c).length<=7400:=by
 unfold cc;have b:=gx (ts.filterMap (cD ks knot)++((wU c wn "first").flatMap (bO false c)++(wU c wn "last").flatMap (bO true c))) [];rw[wB,wB] at b;have d:=List.length_filterMap_le (cD ks knot) ts;have k:=ib (f:=bO false c) (l:=wU c wn "first") (m:=60) λu _=>wM (fZ _ c u) a;have h:=ib (f:=bO true c) (l:=wU c wn "last") (m:=60) λu _=>wM (fZ _ c u) a;have e:=fR c wn "first";have j:=fR c wn "last";have g:([]:Prs).length=0:=rfl;omega
def oH:Sp:=λvs H Q _=>∃(q:Addr) (us:LS) (ks:Kn) (ts ws wn:Prs) (k:Str × LS),vs=[.ref q,.str k.1]/\Rep H (.ref q) (aX ks ts ws wn)/\Tre us ks/\cV us ks ts/\WnX ks wn/\k∈ks/\ts.length<=200/\∀x H',Same H H'->Rep H' x (nI ks ts wn k)->Q x H'
theorem scView:FnScope ["house","knot"] ["house","knot"] (aj ni):=⟨rfl,rfl,rfl,by decide +kernel,rfl,by decide +kernel,by decide +kernel⟩
theorem tG (F:Fun K "view" "view" ni f fd) (B:Blt mg) (b:Cal P w K mg base 2 "view_by" ["house","knot","partings"] kY) (a:Cal P w K mg base 3 "kept_partings" ["house"] jm):FnOk P w K mg base CX0 4 f fd ["house","knot"] oH:=by
 refine F.ok scView (λJ H Q E h=>?_) (λz A j s H J Q E u h=>?_)
 ·obtain⟨q,i,m,e,g,n,r,rfl,_⟩:=h
  rfl
 ·obtain⟨q,i,m,e,g,n,r,rfl,R,T,c,y,o,t,k⟩:=h;have N:=scView.nd;refine⟨_,(ah (aC (au b (u.mono (by decide)) rfl (aa (pv 0) (aa (pv 1) (aa (au a (u.mono (by decide)) rfl (aa (pv 0) ab)) ab)))))),?_⟩;refine⟨_,rfl,_,rfl,_,rfl,q,i,m,e,g,n,rfl,R,T,c,t,λl d M p D v I=>?_⟩;refine aS ⟨q,l,i,m,e,g,n,r,d,rfl,R.same p,T,c,y,o,t,v,I,λx G L C=>?_⟩;exact k x G (p.trans L) C
def gu:Sp:=λvs H Q _=>∃(a:Addr) (xs:LS),vs=[.ref a]/\H a=some (.lst (List.map V.str xs))/\xs.length<=100000/\∀d kvs H',Same H H'->H d=none->H' d=some (.dK kvs)->(∀s,(aG kvs (.inr s)).isSome=true ↔ s∈xs)->Q (.ref d) H'
theorem nA (F:Fun K "places_of" "places_of" eQ f fd) (B:Blt mg):FnOk P w K mg base CX0 1 f fd ["things"] gu := by
 refine F.ok scPlaces (λW H Q E h=>?_) (λT A C s H W Q E R h=>?_)
 ·obtain⟨a,xs,rfl,_⟩:=h
  rfl
 ·obtain⟨a, xs, rfl, N, X, k⟩ := h;have D:=scPlaces.nd;have Z:200000<sizeLine:=by decide
  refine⟨_,(ae (ak (i:=1) D rfl (Or.inl rfl) er)
   (ae (aV PassesOwn.never rfl (kU K rfl B.enumerate (aa (pv 0) ab)) (cj (n:=2) K rfl (aO (az (i:=2) D rfl (Or.inl rfl)) (aO (az (i:=3) D rfl (Or.inl rfl)) ci))) (ah (cR (pv 2) (df (pv 1) (pv 3) (dG R.units)))))
   (ah (aC (pv 1))))),?_⟩
  intro d y;have L:=Same.new (o:=.dK []) y;refine⟨_,rfl,a,rfl,⟨_,.of (L _ _ N)⟩,?_⟩
  let j:Nat->SH:=λi r g=>∃v m c,r=[some (.ref a),some (.ref d),v,m]/\Same H g/\g d=some (.dK c)/\c.length<=i/\(∀s,(aG c (.inr s)).isSome=true ↔ s∈xs.take i)
  refine lz (xs:=List.map V.str xs) j ?_ ?_ ?_ ?_
  ·refine⟨none,none,[],rfl,L,ac,wr _,λs=>?_⟩;simp[rH]
  ·rintro i r g Y ⟨v,m,c,rfl,l,_⟩;exact .of (l _ _ N)
  ·rintro i x r g p S ⟨v, m, c, rfl, l, u, U, e⟩ I;obtain⟨t,J,rfl⟩:=aT S;have O:=(wv.mp J).1;have G:d≠p:=av u I;refine⟨p,_,rfl,.of ac,rfl,_,_,rfl,_,_,rfl,rfl,?_⟩;refine⟨_,rfl,_,rfl,_,rfl,.dic (DPut.k (k:=.inr t) (by rw[ag G];exact u) (by omega)) ⟨_,_,_,rfl,?_,ac,?_,?_⟩⟩
   ·intro b o M;rw[ag (av M y)];exact Same.new I _ _ (l _ _ M)
   ·have:=bv c (.inr t) (V.int (i:Nat));omega
   ·intro s;rw[dr,wG,J,wR];by_cases q:s=t
    ·subst q;simp
    ·rw[if_neg (λz=>q (Sum.inr.inj z)),e s];simp[q]
  ·rintro r g ⟨v,m,c,rfl,l,u,_,e⟩;rw[wt,wI (wr _)] at e;exact⟨_,rfl,k d c g l y u e⟩
def nbP (sec:Bool) (es:Prs) (u x:Str):Bool:=if sec then decide ((x,u)∈es) else decide ((u,x)∈es)
def vwD (c:LS) (es:Prs):PyData:=.tuple [.tuple (c.map PyData.str),cC es]
theorem iI (h:Rep H v (vwD c es)):∃q a b B,v=.ref q/\H q=some (.tup [.ref a,.ref b])/\H a=some (.tup (List.map V.str c))/\H b=some (.tup B)/\RepAll H B (es.map aA):=by
 obtain⟨q,r,rfl,f,p⟩:=Rep.tupI h;obtain⟨y,u,rfl,i,g⟩:=p.consI;obtain⟨z,t,rfl,m,k⟩:=g.consI;have j:=RepAll.nilI k;subst j;obtain⟨a,s,rfl,o,d⟩:=Rep.tupI i;have l:=RepAll.strs d;subst l;obtain⟨b,B,rfl,e,n⟩:=Rep.tupI m;exact⟨q,a,b,B,rfl,f,o,e,n⟩
def nR (sec:Bool):Sp:=λvs H Q _=>∃(q:Addr) (c:LS) (es:Prs) (u:Str),vs=[.ref q,.str u]/\Rep H (.ref q) (vwD c es)/\c.length<=60/\es.length<=100000/\∀l H',Same H H'->H l=none->H' l=some (.lst (List.map V.str (c.filter (nbP sec es u))))->Q (.ref l) H'
theorem scNexts:FnScope ["web","one","found"] ["web","one"] (aj gJ):=⟨rfl,rfl,rfl,by decide +kernel,rfl,by decide +kernel,by decide +kernel⟩
theorem rB (F:Fun K "nexts" "nexts" gJ f fd) (B:Blt mg) (p:Cal P w K mg base 1 "places_of" ["things"] gu):FnOk P w K mg base CX0 2 f fd ["web", "one"] (nR false) := by
 refine F.ok scNexts (λvs H Q E h=>?_) (λa5 A a1 s H vs Q E M h=>?_)
 ·obtain⟨q,c,v,u,rfl,_⟩:=h
  rfl
 ·obtain⟨q, c, v, u, rfl, R, cl, el, k⟩ := h;have nd:=scNexts.nd;have sz:200000<sizeLine:=by decide
  refine⟨_,(ae (ak (i:=2) nd rfl (Or.inr rfl) (au p (M.mono (by decide)) rfl (aa (cI (aj gJ) ["web","one","found"] [1] "tie" ["one"] (bd K (ai (ap K M.units) (pv 0) af (λ_ _=>rfl))) (bS (ao (bn M.units) (ai (ap K M.units) (pv 0) af (λ_ _=>rfl)) (pv 1) (aB _))) (ai (ap K M.units) (pv 0) af (λ_ _=>rfl))) ab)))
   (ah (aC (cI (aj gJ) ["web","one","found"] [2] "thing" ["found"] (bd K (ai (ap K M.units) (pv 0) af (λ_ _=>rfl))) (bS (ao (dw K M.units) (pv 0) (pv 1) (by with_unfolding_all rfl))) (pv 0))))),?_⟩
  obtain⟨q',a,b,Y,e0,hq,ha,hb,rp⟩:=iI R;cases e0;have L:=rp.len;rw[wt] at L;refine⟨_,rfl,.tup (.of hq) rfl ⟨_,rfl,⟨_,.of hb⟩,?_⟩⟩
  let W:Addr->Nat->LV->SH:=λD i m n I=>∃o,n=[o,some (.str u)]/\m=List.map V.str (((v.take i).filter λe=>decide (e.1=u)).map (·.2))/\Same H I/\H D=none
  refine ck Y W λD hD=>⟨?_,?_,?_,?_⟩
  ·exact⟨none,rfl,rfl,Same.new hD,hD⟩
  ·rintro i m n I _ ⟨o,rfl,_,C,_⟩ _;exact .of (C _ _ hb)
  ·rintro i m n I x hx ⟨o,rfl,g,C,J⟩ l;obtain⟨e,ta,he,rfl,U⟩:=bH (rp.same C) hx;have a0:=(wv.mp he).1;have j:(((v.take (i+1)).filter λe=>decide (e.1=u)).map (·.2))=(((v.take i).filter λe=>decide (e.1=u)).map (·.2))++(if e.1=u then [e.2] else []):=by
    rw[wG,he,xm,wy];congr 1;show List.map _ (List.filter _ [e])=_;rw[xv,xw];by_cases Z:e.1=u
    ·rw[if_pos (by simpa using Z),if_pos Z];rfl
    ·rw[if_neg (by simpa using Z),if_neg Z];rfl
   have O:(((v.take i).filter λe=>decide (e.1=u)).map (·.2)).length<=i:=by
    rw[wt];have N:=xn (λe:Str × Str=>decide (e.1=u)) (v.take i);rw[xi] at N;omega
   dsimp only[bp];refine⟨_,rfl,.tup (.of U) rfl ⟨_,rfl,.sc rfl ⟨_,rfl,?_⟩⟩⟩;refine aF (λy=>?_) (λy=>?_)
   ·have y:e.1=u:=Classical.byContradiction λz=>by rw[if_neg (by decide),wX (λw=>z (V.str.inj w))] at y;cases y
    rw[if_pos y] at j;refine⟨_,rfl,.tup (.of U) rfl ⟨l,by rw[g,wt];omega,_,rfl,by rw[j,g,wy];rfl,aQ C J,J⟩⟩
   ·have y:e.1≠u:=λz=>y (by rw[if_neg (by decide),z,wF rfl]);rw[if_neg y,xa] at j;exact⟨l,_,rfl,by rw[j];exact g,C,J⟩
  ·rintro m n H1 ⟨o, rfl, g, s1, J⟩ l;rw[L,wI (wr _)] at g;subst g;refine aS ⟨D,_,rfl,l,?_,λd a2 H2 s2 a4 hk a3=>?_⟩
   ·rw[wt];have N:=xn (λe:Str × Str=>decide (e.1=u)) v;omega
   ·have G := s1.trans s2;have X:∀t,(aG a2 (.inr t)).isSome=nbP false v u t:=λt=>by
     rw[xr,a3 t,ww];show _ ↔ decide ((u,t)∈v)=true;rw[decide_eq_true_iff]
     constructor
     ·rintro⟨e,he,rfl⟩;obtain⟨y,N⟩:=wV.mp he;rw[<- wK N];exact y
     ·intro h;exact⟨_,wV.mpr ⟨h,wF rfl⟩,rfl⟩
    refine⟨_,rfl,.tup (.of (G _ _ hq)) rfl ⟨_,rfl,⟨_,.of (G _ _ ha)⟩,?_⟩⟩
    let S:Addr->Nat->LV->SH:=λD i m n I=>∃o,n=[o,some (.ref d)]/\m=List.map V.str ((c.take i).filter (nbP false v u))/\Same H2 I/\H2 D=none
    refine ck (List.map V.str c) S λD' T=>⟨?_,?_,?_,?_⟩
    ·exact⟨none,rfl,rfl,Same.new T,T⟩
    ·rintro i m n I _ ⟨o,rfl,_,C,_⟩ _;exact .of (C _ _ (G _ _ ha))
    ·rintro i m n I x hx ⟨o,rfl,g,C,r⟩ l;obtain⟨t,ht,rfl⟩:=aT hx;have a0:=(wv.mp ht).1;have j:(c.take (i+1)).filter (nbP false v u)=(c.take i).filter (nbP false v u)++(if nbP false v u t=true then [t] else []):=by
      rw[wG,ht,xm];congr 1;show List.filter _ [t]=_;rw[xv,xw]
     have O:((c.take i).filter (nbP false v u)).length<=i:=by
      have N:=xn (nbP false v u) (c.take i);rw[xi] at N;omega
     dsimp only[bp];refine⟨_,rfl,_,rfl,.dic (DGet.k (k:=.inr t) (C _ _ hk)) ⟨_,rfl,?_⟩⟩;rw[if_neg (show ¬ false=true by decide),X t];refine aF (λy=>?_) (λy=>?_)
     ·rw[if_pos y] at j;exact⟨_,rfl,l,by rw[g,wt];exact aw (by omega),_,rfl,by rw[j,g,wy];rfl,aQ C r,r⟩
     ·rw[if_neg y,xa] at j;exact⟨l,_,rfl,by rw[j];exact g,C,r⟩
    ·rintro m n I ⟨o,rfl,g,C,r⟩ l;rw[wt,wI (wr _)] at g;subst g;exact k D' I (G.trans C) (bu G r) l
theorem scPriors:FnScope ["web","one","found"] ["web","one"] (aj fT):=⟨rfl,rfl,rfl,by decide +kernel,rfl,by decide +kernel,by decide +kernel⟩
theorem ow (F:Fun K "priors" "priors" fT f fd) (B:Blt mg) (p:Cal P w K mg base 1 "places_of" ["things"] gu):FnOk P w K mg base CX0 2 f fd ["web", "one"] (nR true) := by
 refine F.ok scPriors (λvs H Q E h=>?_) (λa5 A a1 s H vs Q E M h=>?_)
 ·obtain⟨q,c,v,u,rfl,_⟩:=h
  rfl
 ·obtain⟨q, c, v, u, rfl, R, cl, el, k⟩ := h;have nd:=scPriors.nd;have sz:200000<sizeLine:=by decide
  refine⟨_,(ae (ak (i:=2) nd rfl (Or.inr rfl) (au p (M.mono (by decide)) rfl (aa (cI (aj fT) ["web","one","found"] [1] "tie" ["one"] (bd K (ai (ap K M.units) (pv 0) af (λ_ _=>rfl))) (bS (ao (bn M.units) (ai (ap K M.units) (pv 0) af (λ_ _=>rfl)) (pv 1) (aB _))) (ai (ap K M.units) (pv 0) af (λ_ _=>rfl))) ab)))
   (ah (aC (cI (aj fT) ["web","one","found"] [2] "thing" ["found"] (bd K (ai (ap K M.units) (pv 0) af (λ_ _=>rfl))) (bS (ao (dw K M.units) (pv 0) (pv 1) (by with_unfolding_all rfl))) (pv 0))))),?_⟩
  obtain⟨q',a,b,Y,e0,hq,ha,hb,rp⟩:=iI R;cases e0;have L:=rp.len;rw[wt] at L;refine⟨_,rfl,.tup (.of hq) rfl ⟨_,rfl,⟨_,.of hb⟩,?_⟩⟩
  let O:Addr->Nat->LV->SH:=λD i m n I=>∃o,n=[o,some (.str u)]/\m=List.map V.str (((v.take i).filter λe=>decide (e.2=u)).map (·.1))/\Same H I/\H D=none
  refine ck Y O λD hD=>⟨?_,?_,?_,?_⟩
  ·exact⟨none,rfl,rfl,Same.new hD,hD⟩
  ·rintro i m n I _ ⟨o,rfl,_,C,_⟩ _;exact .of (C _ _ hb)
  ·rintro i m n I x hx ⟨o,rfl,g,C,J⟩ l;obtain⟨e,ta,he,rfl,U⟩:=bH (rp.same C) hx;have a0:=(wv.mp he).1;have j:(((v.take (i+1)).filter λe=>decide (e.2=u)).map (·.1))=(((v.take i).filter λe=>decide (e.2=u)).map (·.1))++(if e.2=u then [e.1] else []):=by
    rw[wG,he,xm,wy];congr 1;show List.map _ (List.filter _ [e])=_;rw[xv,xw];by_cases Z:e.2=u
    ·rw[if_pos (by simpa using Z),if_pos Z];rfl
    ·rw[if_neg (by simpa using Z),if_neg Z];rfl
   have S:(((v.take i).filter λe=>decide (e.2=u)).map (·.1)).length<=i:=by
    rw[wt];have N:=xn (λe:Str × Str=>decide (e.2=u)) (v.take i);rw[xi] at N;omega
   dsimp only[bp];refine⟨_,rfl,.tup (.of U) rfl ⟨_,rfl,.sc rfl ⟨_,rfl,?_⟩⟩⟩;refine aF (λy=>?_) (λy=>?_)
   ·have y:e.2=u:=Classical.byContradiction λz=>by rw[if_neg (by decide),wX (λw=>z (V.str.inj w))] at y;cases y
    rw[if_pos y] at j;refine⟨_,rfl,.tup (.of U) rfl ⟨l,by rw[g,wt];omega,_,rfl,by rw[j,g,wy];rfl,aQ C J,J⟩⟩
   ·have y:e.2≠u:=λz=>y (by rw[if_neg (by decide),z,wF rfl]);rw[if_neg y,xa] at j;exact⟨l,_,rfl,by rw[j];exact g,C,J⟩
  ·rintro m n H1 ⟨o, rfl, g, s1, J⟩ l;rw[L,wI (wr _)] at g;subst g;refine aS ⟨D,_,rfl,l,?_,λd a2 H2 s2 a4 hk a3=>?_⟩
   ·rw[wt];have N:=xn (λe:Str × Str=>decide (e.2=u)) v;omega
   ·have G := s1.trans s2;have X:∀t,(aG a2 (.inr t)).isSome=nbP true v u t:=λt=>by
     rw[xr,a3 t,ww];show _ ↔ decide ((t,u)∈v)=true;rw[decide_eq_true_iff]
     constructor
     ·rintro⟨e,he,rfl⟩;obtain⟨y,N⟩:=wV.mp he;rw[<- wK N];exact y
     ·intro h;exact⟨_,wV.mpr ⟨h,wF rfl⟩,rfl⟩
    refine⟨_,rfl,.tup (.of (G _ _ hq)) rfl ⟨_,rfl,⟨_,.of (G _ _ ha)⟩,?_⟩⟩
    let W:Addr->Nat->LV->SH:=λD i m n I=>∃o,n=[o,some (.ref d)]/\m=List.map V.str ((c.take i).filter (nbP true v u))/\Same H2 I/\H2 D=none
    refine ck (List.map V.str c) W λD' T=>⟨?_,?_,?_,?_⟩
    ·exact⟨none,rfl,rfl,Same.new T,T⟩
    ·rintro i m n I _ ⟨o,rfl,_,C,_⟩ _;exact .of (C _ _ (G _ _ ha))
    ·rintro i m n I x hx ⟨o,rfl,g,C,r⟩ l;obtain⟨t,ht,rfl⟩:=aT hx;have a0:=(wv.mp ht).1;have j:(c.take (i+1)).filter (nbP true v u)=(c.take i).filter (nbP true v u)++(if nbP true v u t=true then [t] else []):=by
      rw[wG,ht,xm];congr 1;show List.filter _ [t]=_;rw[xv,xw]
     have S:((c.take i).filter (nbP true v u)).length<=i:=by
      have N:=xn (nbP true v u) (c.take i);rw[xi] at N;omega
     dsimp only[bp];refine⟨_,rfl,_,rfl,.dic (DGet.k (k:=.inr t) (C _ _ hk)) ⟨_,rfl,?_⟩⟩;rw[if_neg (show ¬ false=true by decide),X t];refine aF (λy=>?_) (λy=>?_)
     ·rw[if_pos y] at j;exact⟨_,rfl,l,by rw[g,wt];exact aw (by omega),_,rfl,by rw[j,g,wy];rfl,aQ C r,r⟩
     ·rw[if_neg y,xa] at j;exact⟨l,_,rfl,by rw[j];exact g,C,r⟩
    ·rintro m n I ⟨o,rfl,g,C,r⟩ l;rw[wt,wI (wr _)] at g;subst g;exact k D' I (G.trans C) (bu G r) l
abbrev T3:=Str × Str × Str
def t3D (t:T3):PyData:=.tuple [.str t.1,.str t.2.1,.str t.2.2]
theorem lU (o:Option T3) (t:T3):PyData.eqv (iw o) (t3D t)=decide (o=some t):=by
 cases o with
 | none=>rfl
 | some q =>
  obtain⟨a,b,c⟩:=q;obtain⟨d,e,f⟩:=t;show ((a==d)&&((b==e)&&((c==f)&&true)))=_;rw[Bool.and_true,xr];simp only[xj,beq_iff_eq,decide_eq_true_eq,Option.some.injEq,Prod.mk.injEq]
def Kt (t:T3):Prop:=(t.1=""∨Nm t.1)/\Nm t.2.1/\Nm t.2.2
theorem uF {z:Str}(h:z=""∨Nm z):PyData.canLay0 (.str z)=true:=by
 rcases h with rfl | h
 ·decide +kernel
 ·exact cS h
theorem lE {t:T3}(h:Kt t):shp (t3D t):=by
 show ((PyData.canLay0 (.str t.1)&&(PyData.canLay0 (.str t.2.1)&&(PyData.canLay0 (.str t.2.2)&&true)))&&decide (PyData.depthAll (List.map PyData.str [t.1,t.2.1,t.2.2])+1<=64))=true;rw[uF h.1,cS h.2.1,cS h.2.2,iL];rfl
theorem mq {o:Option T3}(h:∀t,o=some t->Kt t):shp (iw o):=by
 cases o with
 | none=>show SeqAt.shaped .none=true;decide +kernel
 | some q=>exact lE (h q rfl)
theorem md {us:LS}{ks:Kn}(T:Tre us ks) {u v:Str}(d:u∈us) (e:v∈us) {t:T3}(h:bc ks u v=some t):Kt t:=by
 obtain⟨q,x,y⟩:=t;obtain⟨b,_,a,c,_⟩:=T.part d e h;refine⟨?_,T.nm _ a,T.nm _ c⟩;show q=""∨Nm q;rw[<- b];rcases (T.par_in a).1 with w | w
 ·exact .inl w
 ·exact .inr (T.nm _ w)
def dI (ks:Kn) (ts wn:Prs) (t:T3):T3:=match ts.find? λe=>decide (bc ks e.1 e.2=some t) with
 | some e=>((("tie":Str),e.1,e.2):T3)
 | none=>(if ((("first":Str),t.2.1):Str × Str)∈wn then ("first":Str) else "last",t.2.1,t.2.2)
theorem kF {ks:Kn}{ts wn:Prs}{t:T3}{i:Nat}{e:Str × Str}(b:(ts.take i).find? (λe=>decide (bc ks e.1 e.2=some t))=none) (he:ts[i]? = some e) (h:bc ks e.1 e.2=some t):dI ks ts wn t=((("tie":Str),e.1,e.2):T3):=by
 have a:=(wv.mp he)
 have:ts.find? (λe=>decide (bc ks e.1 e.2=some t))=some e:=by
  conv=>lhs;rw[<- xU i ts]
  rw[List.find?_append,b,Option.none_or,xT a.1,a.2,xD,wF h]
 unfold dI;rw[this]
theorem jy {ks:Kn}{ts:Prs}{t:T3}{i:Nat}{e:Str × Str}(a:(ts.take i).find? (λe=>decide (bc ks e.1 e.2=some t))=none) (he:ts[i]? = some e) (h:bc ks e.1 e.2≠some t):(ts.take (i+1)).find? (λe=>decide (bc ks e.1 e.2=some t))=none:=by
 rw[wG,he,List.find?_append,a,Option.none_or];show List.find? _ [e]=none;rw[xD,wX h];rfl
theorem jR {ks:Kn}{ts wn:Prs}{t:T3}(a:ts.find? (λe=>decide (bc ks e.1 e.2=some t))=none):dI ks ts wn t=(if ((("first":Str),t.2.1):Str × Str)∈wn then ("first":Str) else "last",t.2.1,t.2.2):=by
 unfold dI;rw[a]
theorem rN {H:Hp}{v:V}{t:T3}(h:Rep H v (t3D t)):∃q,v=.ref q/\H q=some (.tup [.str t.1,.str t.2.1,.str t.2.2]):=by
 obtain⟨q,b,rfl,d,a⟩:=Rep.tupI h;have a:RepAll H b (List.map PyData.str [t.1,t.2.1,t.2.2]):=a;have c:=RepAll.strs a;subst c;exact⟨q,rfl,d⟩
theorem eP {H:Hp}{q:Addr}{t:T3}(h:H q=some (.tup [.str t.1,.str t.2.1,.str t.2.2])):Rep H (.ref q) (t3D t):=.tup h (.cons (.str _) (.cons (.str _) (.cons (.str _) .nil)))
theorem fJ {H H':Hp}{p:Addr}{ys:LV}(a:H p=some (.lst ys)) (b:But p H H') {v:V}{t:T3}(h:Rep H v (t3D t)):Rep H' v (t3D t):=by
 obtain⟨q,rfl,c⟩:=rN h;exact eP (bT a b c)
def kQ:Sp:=λvs H Q _=>∃(q lp pt:Addr) (us:LS) (ks:Kn) (ts ws wn:Prs) (refs:LV) (t:T3),vs=[.ref q,.ref lp,.ref pt]/\Rep H (.ref q) (aX ks ts ws wn)/\Tre us ks/\je us wn/\cV us ks ts/\H lp=some (.lst refs)/\RepAll H refs (ts.map (jw ks))/\Rep H (.ref pt) (t3D t)/\Kt t/\∀x H',Same H H'->H x=none->Rep H' (.ref x) (t3D (dI ks ts wn t))->Q (.ref x) H'
theorem scStepOf:FnScope ["house","partings","part","tie","found","word"] ["house","partings","part"] (aj jo):=⟨rfl,rfl,rfl,by decide +kernel,rfl,by decide +kernel,by decide +kernel⟩
theorem pd {f:Addr}{fd:FuncData}(F:Fun K "step_of" "step_of" jo f fd) (B:Blt mg) (Zz:mg "zip"=none):FnOk P w K mg base CX0 1 f fd ["house", "partings", "part"] kQ := by
 refine F.ok scStepOf (λvs H Q E h=>?_) (λb0 A a4 s H vs Q E j h=>?_)
 ·obtain⟨q,lp,pt,us,ks,ts,ws,wn,l,t,rfl,_⟩:=h
  rfl
 ·obtain⟨q, lp, pt, us, ks, ts, ws, wn, l, t, rfl, R, T, I, O, X, a0, Rt, M, k⟩ := h;have nd:=scStepOf.nd;refine⟨_,(ae (aV PassesOwn.never rfl (q3 K rfl Zz (aa (ai (ap K j.units) (pv 0) af (λ_ _=>rfl)) (aa (pv 1) ab))) (cj (n:=2) K rfl (aO (az (i:=3) nd rfl (Or.inl rfl)) (aO (az (i:=4) nd rfl (Or.inl rfl)) ci))) (ah (aZ (ao (bn j.units) (pv 4) (pv 2) (aB _)) (ah (aC (aN (aa aM (aa (ai (ap K j.units) (pv 3) af (λ_ _=>rfl)) (aa (ai (ap K j.units) (pv 3) af (λ_ _=>rfl)) ab)))))) aK)))
   (ae (ak (i:=5) nd rfl (Or.inl rfl) (qO (ao (jq j.units) (aN (aa aM (aa (ai (ap K j.units) (pv 2) af (λ_ _=>rfl)) ab))) (ai (ap K j.units) (pv 0) af (λ_ _=>rfl)) (by with_unfolding_all rfl)) aM aM))
   (ah (aC (aN (aa (pv 5) (aa (ai (ap K j.units) (pv 2) af (λ_ _=>rfl)) (aa (ai (ap K j.units) (pv 2) af (λ_ _=>rfl)) ab)))))))),?_⟩
  obtain⟨q',a,b,c3,d4,v,hq,_,R2,_,R4⟩:=bW R;cases v;obtain⟨b',rb,v,hb,Z⟩:=cu R2;cases v;obtain⟨a9,a5,v,a1,a6⟩:=cu R4;cases v;obtain⟨a8,v,G⟩:=rN Rt;cases v;have g:=Z.len;have d:=a0.len;rw[wt] at g d;have a3:PyData.canLayAll0 (wn.map aA)=true:=bQ λe m=>⟨hG (I e m).1,T.nm _ (I e m).2⟩
  refine⟨_,rfl,.tup (.of hq) rfl ⟨_,rfl,b,lp,_,_,rfl,.of hb,.of X,?_⟩⟩
  let U:Nat->SH:=λi C W=>∃(Y S:Option V),C=[some (.ref q),some (.ref lp),some (.ref pt),Y,S,none]/\Same H W/\(ts.take i).find? (λe=>decide (bc ks e.1 e.2=some t))=none
  refine qj (xs:=rb) (ys:=l) U ?_ ?_ ?_ ?_
  ·exact⟨none,none,rfl,Same.refl H,rfl⟩
  ·rintro i C W hi ⟨Y,S,rfl,D,_⟩;exact⟨.of (D _ _ hb),.of (D _ _ X)⟩
  ·rintro i x y p C W u ⟨Y,S,rfl,D,L⟩ hp;rw[xy] at u;obtain⟨e,ta,m,rfl,N⟩:=bH Z u.1;obtain⟨e',a7,pv⟩:=mQ a0 u.2;have ee:e=e':=wA (m.symm.trans a7);subst ee;have sp:=Same.new (o:=.tup [.ref ta,y]) hp;have c:=D.trans sp;have ep:upd W p (.tup [.ref ta,y]) p=some (.tup [.ref ta,y]):=ac;generalize upd W p (.tup [.ref ta,y])=H2 at c ep ⊢;refine⟨p,_,rfl,.of ep,rfl,_,_,rfl,_,_,rfl,rfl,?_⟩;refine⟨_,rfl,_,rfl,.tr (gO (pv.same c)) (Rt.same c) (mq λt h=>md T (O e (wE m)).1 (O e (wE m)).2.1 h) (lE M) ⟨_,rfl,?_⟩⟩;rw[if_neg (show ¬ false=true by decide),lU];refine aF (λh=>?_) (λh=>?_)
   ·have h:=wK h;refine⟨_,rfl,.tup (.of (c _ _ N)) rfl ⟨_,rfl,.tup (.of (c _ _ N)) rfl ⟨(by show 3<=sizeLine;decide),λx r=>?_⟩⟩⟩;refine k x _ (c.trans (Same.new r)) (bu c r) ?_;rw[kF L m h];exact eP ac
   ·have h:bc ks e.1 e.2≠some t:=λz=>h (wF z);exact⟨_,_,rfl,c,jy L m h⟩
  ·rintro C H1 ⟨Y, S, rfl, D, L⟩;rw[xx,g,d,Nat.min_self,wI (wr _)] at L;have a2:=jR (wn:=wn) L;apply cT (J:=λC HZ=>C=[some (.ref q),some (.ref lp),some (.ref pt),Y,S,some (.str (if ((("first":Str),t.2.1):Str × Str)∈wn then "first" else "last"))]/\Same H HZ)
   ·intro aU;refine⟨_,rfl,.tup (.of (D _ _ G)) rfl ⟨(by show 2<=sizeLine;decide),λx r=>?_⟩⟩;have c:=D.trans (Same.new (o:=.tup [V.str "first",V.str t.2.1]) r);have et:upd H1 x (.tup [V.str "first",V.str t.2.1]) x=some (.tup [V.str "first",V.str t.2.1]):=ac;generalize upd H1 x (.tup [V.str "first",V.str t.2.1])=H2 at et c ⊢;refine⟨_,rfl,.tup (.of (c _ _ hq)) rfl ⟨d4,a5,_,aA ((("first":Str),t.2.1):Str × Str),rfl,c _ _ a1,a6.same c,br et,a3,cf (e:=((("first":Str),t.2.1):Str × Str)) ⟨gk,M.2.1⟩,(by show 1<=16;decide),_,rfl,?_⟩⟩;rw[if_neg (show ¬ false=true by decide),ey];refine aF (λh=>?_) (λh=>?_)
    ·have h:=wK h;dsimp only[tC,bp];exact aU _ _ ⟨by rw[if_pos h];rfl,c⟩
    ·have h:¬ ((("first":Str),t.2.1):Str × Str)∈wn:=λz=>h (wF z);dsimp only[tC,bp];exact aU _ _ ⟨by rw[if_neg h];rfl,c⟩
   ·rintro C H2 ⟨rfl,c⟩;refine⟨_,rfl,_,rfl,.tup (.of (c _ _ G)) rfl ⟨_,rfl,.tup (.of (c _ _ G)) rfl ⟨(by show 3<=sizeLine;decide),λx r=>?_⟩⟩⟩;refine k x _ (c.trans (Same.new r)) (bu c r) ?_;rw[a2];exact eP ac
def spSteps:Sp:=λvs H Q _=>∃(q l:Addr) (us:LS) (ks:Kn) (ts ws wn:Prs) (knot:Str) (row:LS),vs=[.ref q,.str knot,.ref l]/\Rep H (.ref q) (aX ks ts ws wn)/\Tre us ks/\je us wn/\cV us ks ts/\ts.length<=200/\(knot=""∨Nm knot)/\H l=some (.lst (List.map V.str row))/\(∀u∈row,Nm u)/\row.length<=100 /\
 ∀x refs H',Same H H'->H x=none->H' x=some (.lst refs)->RepAll H' refs ((row.zip (row.drop 1)).map λe=>t3D (dI ks ts wn (knot,e.1,e.2)))->Q (.ref x) H'
theorem scSteps:FnScope ["house","knot","row","partings"] ["house","knot","row"] (aj eK):=⟨rfl,rfl,rfl,by decide +kernel,rfl,by decide +kernel,by decide +kernel⟩
theorem qa {f:Addr}{fd:FuncData}(F:Fun K "steps_along" "steps_along" eK f fd) (B:Blt mg) (Zz:mg "zip"=none) (c:Cal P w K mg base 3 "kept_partings" ["house"] jm) (g:Cal P w K mg base 1 "step_of" ["house", "partings", "part"] kQ):FnOk P w K mg base CX0 4 f fd ["house", "knot", "row"] spSteps := by
 refine F.ok scSteps (λvs H Q E h=>?_) (λb2 A a3 s H vs Q E hr h=>?_)
 ·obtain⟨q,l,us,ks,ts,ws,wn,b,a,rfl,_⟩:=h
  rfl
 ·obtain⟨q,l,us,ks,ts,ws,wn,b,a,rfl,R,T,a1,W,tl,a8,hl,S,rl,k⟩:=h;have nd:=scSteps.nd;refine⟨_,(ae (ak (i:=3) nd rfl (Or.inr rfl) (au c (hr.mono (by decide)) rfl (aa (pv 0) ab)))
   (ah (aC (cI (aj eK) ["house","knot","row","partings"] [0,3,1] "pair" ["house","partings","knot"] (pk K rfl Zz (aa (pv 2) (aa (cN (ic K) (pv 2) (cv af) dN) ab))) dh (au g (hr.mono (by decide)) rfl (aa (pv 1) (aa (pv 2) (aa (aN (aa (pv 3) (aa (ai (ap K hr.units) (pv 0) af (λ_ _=>rfl)) (aa (ai (ap K hr.units) (pv 0) af (λ_ _=>rfl)) ab)))) ab)))))))),?_⟩
  refine⟨_,rfl,q,us,ks,ts,ws,wn,rfl,R,T,W,tl,λlp U H1 s1 b0 a5 a7=>?_⟩;refine⟨_,rfl,_,rfl,_,rfl,.lst (.of (s1 _ _ hl)) λl2 a2=>?_⟩;rw[show (1:Int)=((1:Nat):Int) from rfl,jE,<- xV];have s2:=Same.new (o:=.lst (List.map V.str (a.drop 1))) a2;have e2:upd H1 l2 (.lst (List.map V.str (a.drop 1))) l2=some (.lst (List.map V.str (a.drop 1))):=ac;have m:=s1.trans s2;have I:=s2 _ _ a5;have J:=a7.same s2;have R2:=R.same m;have N:=m _ _ hl;generalize upd H1 l2 (.lst (List.map V.str (a.drop 1)))=H2 at e2 m I J R2 N ⊢;refine aS ⟨l,l2,_,_,rfl,.of N,.of e2,?_⟩;have zl:((List.map V.str a).zip (List.map V.str (a.drop 1))).length=(a.zip (a.drop 1)).length:=by simp
  have a9:(a.zip (a.drop 1)).length<=100:=by rw[xx];omega
  let Y:Addr->Nat->LV->SH:=λD i t C L=>∃o,C=[o,some (.ref q),some (.ref lp),some (.str b)]/\RepAll L t (((a.zip (a.drop 1)).take i).map λe=>t3D (dI ks ts wn (b,e.1,e.2)))/\Same H2 L/\H2 D=none
  refine kD (List.map V.str a) (List.map V.str (a.drop 1)) Y λD hD=>⟨?_,?_,?_,?_⟩
  ·exact⟨none,rfl,.nil,Same.new hD,hD⟩
  ·rintro i t C L _ ⟨o,rfl,_,O,_⟩ _;exact⟨.of (O _ _ N),.of (O _ _ e2)⟩
  ·rintro i t C L x y p M ⟨o,rfl,rp,O,G⟩ j hp;rw[xy] at M;obtain⟨u,hu,rfl⟩:=aT M.1;obtain⟨v,hv,rfl⟩:=aT M.2;have hz:(a.zip (a.drop 1))[i]? = some (u,v):=by rw[xy];exact⟨hu,hv⟩
   have b1:=(wv.mp hz).1;have X:=rp.len;rw[wt,xi] at X;have a4:v∈a:=yj (wE hv);have kt:Kt (b,u,v):=⟨a8,S u (wE hu),S v a4⟩
   have sp:=Same.new (o:=.tup [V.str u,V.str v]) hp;have ep:upd L p (.tup [V.str u,V.str v]) p=some (.tup [V.str u,V.str v]):=ac;have s3:=O.trans sp;have z:=sp _ _ j;have Z:=rp.same sp;generalize upd L p (.tup [V.str u,V.str v])=H3 at ep s3 z Z ⊢;refine gI ?_;refine⟨_,rfl,_,rfl,_,rfl,_,rfl,.tup (.of ep) rfl ⟨_,rfl,.tup (.of ep) rfl ⟨(by show 3<=sizeLine;decide),λpt a6=>?_⟩⟩⟩;have s4:=Same.new (o:=.tup [V.str b,V.str u,V.str v]) a6;have rt:Rep (upd H3 pt (.tup [V.str b,V.str u,V.str v])) (.ref pt) (t3D (b,u,v)):=eP ac;have r:=s3.trans s4;have n:=s4 _ _ z;have a0:=Z.same s4;generalize upd H3 pt (.tup [V.str b,V.str u,V.str v])=H4 at rt r n a0 ⊢;refine aS ⟨q,lp,pt,us,ks,ts,ws,wn,U,(b,u,v),rfl,R2.same r,T,a1,W,r _ _ I,J.same r,rt,kt,λx H5 s5 hx rx=>?_⟩;have d:=s5 _ _ n;refine⟨d,aw (by omega),_,rfl,?_,aQ (r.trans s5) G,G⟩;rw[wG,hz,wy];exact RepAll.append (aJ (fJ d But.upd) (a0.same s5)) (.cons (fJ d But.upd rx) .nil)
  ·rintro t C L ⟨o,rfl,rp,O,G⟩ j;rw[zl,wI (wr _)] at rp;exact k D t L (m.trans O) (bu m G) j rp
def lF:Sp:=λvs H Q _=>∃(q:Addr) (us:LS) (ks:Kn) (ts ws wn:Prs) (u:Str),vs=[.ref q,.str u]/\Rep H (.ref q) (aX ks ts ws wn)/\Tre us ks/\u∈us/\∀H',Same H H'->Q (.str (bx ks u)) H'
theorem scKnotOf:FnScope ["house","one"] ["house","one"] (aj jj):=⟨rfl,rfl,rfl,by decide +kernel,rfl,by decide +kernel,by decide +kernel⟩
theorem oN {f:Addr}{fd:FuncData}(F:Fun K "knot_of" "knot_of" jj f fd) (B:Blt mg) (a:Cal P w K mg base 1 "homes" ["house"] jc):FnOk P w K mg base CX0 2 f fd ["house","one"] lF:=by
 refine F.ok scKnotOf (λx H Q E h=>?_) (λv A b s H x Q E j h=>?_)
 ·obtain⟨q,i,l,e,g,m,u,rfl,_⟩:=h
  rfl
 ·obtain⟨q,i,l,e,g,m,u,rfl,R,T,t,k⟩:=h;have z:=scKnotOf.nd;refine⟨_,(ah (aC (ai (ap K j.units) (au a (j.mono (by decide)) rfl (aa (pv 0) ab)) (pv 1) (λ_ _=>rfl)))),?_⟩;refine⟨_,rfl,q,i,l,e,g,m,rfl,R,T,λd c o p y n r=>?_⟩;exact⟨_,rfl,.dic (.inl ⟨c,.inr u,.inl n,rfl,(r u t).symm⟩) (k o p)⟩
def mN:Sp:=λvs H Q _=>∃(q:Addr) (us:LS) (ks:Kn) (ts ws wn:Prs) (t:T3),vs=[.ref q,.str t.1,.str t.2.1,.str t.2.2]/\Rep H (.ref q) (aX ks ts ws wn)/\Tre us ks/\je us wn/\cV us ks ts/\Kt t/\∀x H',Same H H'->Rep H' (.ref x) (t3D (dI ks ts wn t))->Q (.ref x) H'
theorem scLStep:FnScope ["_law_house_here","_law_knot","_law_here","_law_there","_law_around_here","_law_tie"] ["_law_house_here","_law_knot","_law_here","_law_there"] (aj nr):=⟨rfl,rfl,rfl,by decide +kernel,rfl,by decide +kernel,by decide +kernel⟩
theorem qw {f:Addr}{fd:FuncData}(F:Fun K "_law_step" "_law_step" nr f fd) (B:Blt mg) (g:Cal P w K mg base 1 "_law_around" ["_law_knots"] fz) (c:Cal P w K mg base 2 "_law_parting" ["_law_around_here", "_law_one", "_law_other"] dJ):FnOk P w K mg base CX0 3 f fd ["_law_house_here", "_law_knot", "_law_here", "_law_there"] mN := by
 refine F.ok scLStep (λvs H Q E h=>?_) (λb0 A a2 s H vs Q E r h=>?_)
 ·obtain⟨q,us,L,ts,ws,wn,t,rfl,_⟩:=h
  rfl
 ·obtain⟨q, us, L, ts, ws, wn, t, rfl, R, T, I, a3, M, k⟩ := h;have nd:=scLStep.nd;refine⟨_,(ae (ak (i:=4) nd rfl (Or.inl rfl) (au g (r.mono (by decide)) rfl (aa (ai (ap K r.units) (pv 0) af (λ_ _=>rfl)) ab)))
   (ae (aV PassesOwn.never rfl (bd K (ai (ap K r.units) (pv 0) af (λ_ _=>rfl))) (az (i:=5) nd rfl (Or.inl rfl)) (ah (aZ (ao (bn r.units) (au c (r.mono (by decide)) rfl (aa (pv 4) (aa (ai (ap K r.units) (pv 5) af (λ_ _=>rfl)) (aa (ai (ap K r.units) (pv 5) af (λ_ _=>rfl)) ab)))) (aN (aa (pv 1) (aa (pv 2) (aa (pv 3) ab)))) (aB _)) (ah (aC (aD (lg K) (aN (aa aM ab)) (pv 5)))) aK)))
   (ae (aZ (ao (jq r.units) (aN (aa aM (aa (pv 2) ab))) (ai (ap K r.units) (pv 0) af (λ_ _=>rfl)) (by with_unfolding_all rfl)) (ah (aC (aN (aa aM (aa (pv 2) (aa (pv 3) ab)))))) aK)
   (ah (aC (aN (aa aM (aa (pv 2) (aa (pv 3) ab))))))))),?_⟩
  obtain⟨q',a,b,c3,d4,N,hq,R1,R2,_,R4⟩:=bW R;cases N;obtain⟨b',rb,N,hb,S⟩:=cu R2;cases N;obtain⟨a9,a4,N,Z,a5⟩:=cu R4;cases N;have l:=S.len;rw[wt] at l;have a1:PyData.canLayAll0 (wn.map aA)=true:=bQ λe G=>⟨hG (I e G).1,T.nm _ (I e G).2⟩
  refine⟨_,rfl,.tup (.of hq) rfl (aS ⟨a,us,L,rfl,R1,T,λd a6 H1 D a8 hd ar=>?_⟩)⟩;refine⟨_,rfl,.tup (.of (D _ _ hq)) rfl ⟨b,rfl,⟨_,.of (D _ _ hb)⟩,?_⟩⟩
  let O:Nat->SH:=λi X H'=>∃(Y:Option V),X=[some (.ref q),some (.str t.1),some (.str t.2.1),some (.str t.2.2),some (.ref d),Y]/\Same H1 H'/\(ts.take i).find? (λe=>decide (bc L e.1 e.2=some t))=none
  refine cA (R:=Q) (xs:=rb) O ?_ ?_ ?_ ?_
  ·exact⟨none,rfl,Same.refl H1,rfl⟩
  ·rintro i X H' hi ⟨Y,rfl,v,_⟩;exact .of (v _ _ (D _ _ hb))
  ·rintro _ i x X H' n ⟨Y,rfl,v,J⟩;obtain⟨e,ta,G,rfl,j⟩:=bH S n;obtain⟨hu,hv,_⟩:=a3 e (wE G);have j:=D _ _ j;dsimp only[bp];refine⟨_,rfl,_,rfl,.tup (.of (v _ _ j)) rfl ⟨_,rfl,.tup (.of (v _ _ j)) rfl (aS ⟨d,a6,us,L,e.1,e.2,rfl,v _ _ hd,ar,T,hu,hv,λy W u py=>?_⟩)⟩⟩;have C:=v.trans u;refine⟨_,rfl,_,rfl,_,rfl,(by show 3<=sizeLine;decide),λpt a7=>?_⟩;have s3:=Same.new (o:=.tup [V.str t.1,V.str t.2.1,V.str t.2.2]) a7;have rt:Rep (upd W pt (.tup [V.str t.1,V.str t.2.1,V.str t.2.2])) (.ref pt) (t3D t):=eP ac;have U:=gO (py.same s3);have p:=C.trans s3;generalize upd W pt (.tup [V.str t.1,V.str t.2.1,V.str t.2.2])=H3 at rt U p ⊢;refine .tr U rt (mq λt h=>md T hu hv h) (lE M) ⟨_,rfl,?_⟩;rw[if_neg (show ¬ false=true by decide),lU];refine aF (λh=>?_) (λh=>?_)
   ·have h:=wK h;refine⟨(by show 1<=sizeLine;decide),λl1 a0=>?_⟩;have s4:=Same.new (o:=.tup [V.str "tie"]) a0;refine⟨_,rfl,l1,ta,_,_,rfl,rfl,.of ac,.of (s4 _ _ (p _ _ j)),(by show 3<=sizeLine;decide),(λh=>by cases h),(λ_ h=>by cases h),λ_ _ x n=>?_⟩;refine k x _ ((D.trans p).trans (s4.trans (Same.new n))) ?_;rw[kF J G h];exact eP ac
   ·have h:bc L e.1 e.2≠some t:=λz=>h (wF z);exact⟨_,rfl,p,jy J G h⟩
  ·rintro X W ⟨Y,rfl,v,J⟩;rw[l,wI (wr _)] at J;have m:=jR (wn:=wn) J;have C:=D.trans v;refine⟨_,rfl,(by show 2<=sizeLine;decide),λx n=>?_⟩;have u:=C.trans (Same.new (o:=.tup [V.str "first",V.str t.2.1]) n);have et:upd W x (.tup [V.str "first",V.str t.2.1]) x=some (.tup [V.str "first",V.str t.2.1]):=ac;generalize upd W x (.tup [V.str "first",V.str t.2.1])=H3 at et u ⊢;refine⟨_,rfl,.tup (.of (u _ _ hq)) rfl ⟨d4,a4,_,aA ("first",t.2.1),rfl,u _ _ Z,a5.same u,br et,a1,cf (e:=("first",t.2.1)) ⟨gk,M.2.1⟩,(by show 1<=16;decide),_,rfl,?_⟩⟩;rw[if_neg (show ¬ false=true by decide),ey];refine aF (λh=>?_) (λh=>?_)
   ·have h:=wK h;rw[if_pos h] at m;refine⟨_,rfl,_,rfl,(by show 3<=sizeLine;decide),λx n=>?_⟩;refine k x _ (u.trans (Same.new n)) ?_;rw[m];exact eP ac
   ·have h:¬ ((("first":Str),t.2.1):Str × Str)∈wn:=λz=>h (wF z);rw[if_neg h] at m;refine⟨_,rfl,_,rfl,(by show 3<=sizeLine;decide),λx n=>?_⟩;refine k x _ (u.trans (Same.new n)) ?_;rw[m];exact eP ac
theorem rW (h:SqA H a xs) (s:Same H H'):H' a=H a:=by
 rcases h with h | h <;> rw[h,s _ _ h]
theorem eY (h:SqA H a xs):SqL K H a xs∨SqT K H a xs:=h.imp (λz=>.of z) (λz=>.of z)
theorem t4 {K:W.Frag}{a:Addr}{xs:LV}{g:TG}{tb:TS}{D:Ends}{σ:St}{H0:Hp}(Pv:Nat -> St -> Hp -> Prop) (b:SqA H0 a xs) (d:Pv 0 σ H0) (f:∀i σ H, i <= xs.length -> Pv i σ H -> H a=H0 a)
    (h:∀i x σ H,xs[i]? = some x->Pv i σ H->g x σ H λσ2 H2=>tb { D with nx:=Pv (i+1),ct:=Pv (i+1),bk:=D.nx } σ2 H2) (e:∀σ H,Pv xs.length σ H->D.nx σ H) :
    (∃xs,SqL K H0 a xs)/\(∃W:Nat->Nat->SH,(∃m,W 0 m σ H0)/\∀i m σ H,W i m σ H ->
     ((Itl K a).stop i H/\D.nx σ H)∨((Itl K a).go i H/\∃N:SH,(∀σ' H',N σ' H'->∃q,q<m/\W (i+1) q σ' H')/\∀x H',(Itl K a).yld i H x H'->g x σ H' λσ2 H2=>tb { D with nx:=N,ct:=N,bk:=D.nx } σ2 H2)) ∨
    (∃xs,SqT K H0 a xs)/\(∃W:Nat->Nat->SH,(∃m,W 0 m σ H0)/\∀i m σ H,W i m σ H ->
     ((Itt K a).stop i H/\D.nx σ H)∨((Itt K a).go i H/\∃N:SH,(∀σ' H',N σ' H'->∃q,q<m/\W (i+1) q σ' H')/\∀x H',(Itt K a).yld i H x H'->g x σ H' λσ2 H2=>tb { D with nx:=N,ct:=N,bk:=D.nx } σ2 H2)):=by
 rcases b with b | b
 ·exact .inl ⟨⟨xs,.of b⟩,li Pv d (λi σ H c p=>.of ((f i σ H c p).trans b)) h e⟩
 ·exact .inr ⟨⟨xs,.of b⟩,mC Pv d (λi σ H c p=>.of ((f i σ H c p).trans b)) h e⟩
def mR:Sp:=λvs H Q _=>∃(q:Addr) (c:LS) (es:Prs),vs=[.ref q]/\Rep H (.ref q) (vwD c es)/\c.length<=60/\es.length<=100000/\∀d H',Same H H'->H d=none->Tab H' d c (λs=>c.filter (nbP true es s))->Q (.ref d) H'
theorem scPriorsAll:FnScope ["web","table","thing"] ["web"] (aj gm):=⟨rfl,rfl,rfl,by decide +kernel,rfl,by decide +kernel,by decide +kernel⟩
theorem qD (F:Fun K "priors_of_all" "priors_of_all" gm f fd) (B:Blt mg) (j:Cal P w K mg base 2 "priors" ["web", "one"] (nR true)):FnOk P w K mg base CX0 3 f fd ["web"] mR := by
 refine F.ok scPriorsAll (λvs H Q E h=>?_) (λa0 A L s H vs Q E J h=>?_)
 ·obtain⟨q,c,I,rfl,_⟩:=h
  rfl
 ·obtain⟨q, c, I, rfl, R, Y, el, k⟩ := h;have U:=scPriorsAll.nd;refine⟨_,(ae (ak (i:=1) U rfl (Or.inl rfl) er)
   (ae (aV PassesOwn.never rfl (bd K (ai (ap K J.units) (pv 0) af (λ_ _=>rfl))) (az (i:=2) U rfl (Or.inl rfl)) (ah (cR (au j (J.mono (by decide)) rfl (aa (pv 0) (aa (pv 2) ab))) (df (pv 1) (pv 2) (dG J.units)))))
   (ah (aC (pv 1))))),?_⟩
  intro d G;have M:=Same.new (o:=.dK []) G;obtain⟨q',a,b,W,e0,hq,X,hb,rp⟩:=iI R;cases e0;refine⟨_,rfl,.tup (.of (M _ _ hq)) rfl ⟨_,rfl,⟨_,.of (M _ _ X)⟩,?_⟩⟩
  let u:Nat->SH:=λi y p=>∃C e,y=[some (.ref q),some (.ref d),C]/\Same H p/\p d=some (.dK e)/\e.length<=i/\∀s∈c.take i,∃l,aG e (.inr s)=some (.ref l)/\p l=some (.lst (List.map V.str (c.filter (nbP true I s))))
  refine cA (R:=Q) (xs:=List.map V.str c) u ?_ ?_ ?_ ?_
  ·exact⟨none,[],rfl,M,ac,wr _,λs m=>by simp at m⟩
  ·rintro i y p hi ⟨C,e,rfl,r,_⟩;exact .of (r _ _ X)
  ·rintro _ i x y p hx ⟨C, e, rfl, r, N, a1, g⟩;obtain⟨t,O,rfl⟩:=aT hx;have Z:=(wv.mp O).1;refine⟨_,rfl,_,rfl,q,c,I,t,rfl,R.same r,Y,el,λl H2 D hl v=>?_⟩;have n:=D _ _ N;refine⟨_,rfl,_,rfl,.dic (DPut.k (k:=.inr t) n (aw (by omega))) ⟨_,_,rfl,?_,ac,?_,?_⟩⟩
   ·intro z o T;rw[ag (av T G)];exact D _ _ (r _ _ T)
   ·have:=bv e (.inr t) (V.ref l);omega
   ·intro s m;rw[wG,O,wR] at m;by_cases q:s=t
    ·subst q;refine⟨l,by rw[dr,if_pos rfl],?_⟩;rw[ag (bP v n (by intro z;cases z))];exact v
    ·rcases m with m | m
     ·obtain⟨l',e1,S⟩:=g s m;refine⟨l',by rw[dr,if_neg (λz=>q (Sum.inr.inj z))];exact e1,?_⟩;rw[ag (bP (D _ _ S) n (by intro z;cases z))];exact D _ _ S
     ·exact absurd (by simpa using m) q
  ·rintro y p ⟨C,e,rfl,r,N,_,g⟩;rw[wt,wI (wr _)] at g;exact⟨_,rfl,k d p r G ⟨e,N,g⟩⟩
structure Stp (H H':Hp) (ss:LS) (e:Addr) (look:Str->Option Nat) (kvs:KV_):Prop where
 sm:Same H H'
 at_:H' e=some (.dK kvs)
 lk:∀t,aG kvs (.inr t)=(look t).map λk:Nat=>V.int (k:Int)
 nd:(kvs.map (·.1)).Nodup
 ks:∀k∈kvs.map (·.1),∃t∈ss,k=Sum.inr t
theorem Stp.len (h:Stp H H' ss e q kvs):kvs.length<=ss.length:=by
 have:=h.nd.length_le_of_subset (l₂:=ss.map (Sum.inr:Str->Key)) λk a=>by
  obtain⟨t,b,rfl⟩:=h.ks k a;exact ww.mpr ⟨t,b,rfl⟩
 simpa using this
theorem Stp.oth (h:Stp H H' ss e q kvs) (d:H b=none) (n:e≠b):Stp H (upd H' b o) ss e q kvs :=
 ⟨λc f a=>by rw[ag (av a d)];exact h.sm _ _ a,by rw[ag n];exact h.at_,h.lk,h.nd,h.ks⟩
theorem Stp.put (h:Stp H H' ss e B kvs) (he:H e=none) (i:t ∈ ss) (g:B t=none) (k:Nat) :
    Stp H (upd H' e (.dK (aY kvs (.inr t) (.int (k:Int))))) ss e (λa=>if a=t then some k else B a) (aY kvs (.inr t) (.int (k:Int))):=by
 have f:aG kvs (.inr t)=none:=by rw[h.lk,g];rfl
 refine⟨λc j d=>by rw[ag (av d he)];exact h.sm _ _ d,ac,λu=>?_,tP _ h.nd f,λq b=>?_⟩
 ·rw[dr];by_cases q:u=t
  ·subst q;rw[if_pos rfl];simp
  ·rw[if_neg (λz=>q (Sum.inr.inj z)),h.lk u];simp[q]
 ·rw[lD _ f,wy] at b;rcases wR.mp b with b | b
  ·exact h.ks q b
  ·have:q=Sum.inr t:=by simpa using b
   exact⟨t,i,this⟩
def kM:Sp:=λvs H Q _=>∃(d st:Addr) (ms ss:LS) (f:Str->LS),vs=[.ref d,.ref st]/\SqA H st (List.map V.str ms)/\ms.Nodup/\Tab H d ss f/\(∀m∈ms,m∈ss)/\ss.length<=60/\(∀t∈ss,∀u∈f t,u∈ss) /\
 ∀e kvs H',Same H H'->H e=none->H' e=some (.dK kvs)->(∀t v,aG kvs (.inr t)=some v ↔ ∃k:Nat,v=.int (k:Int)/\MG.DstS (Ner ss f) (·∈ms) k t)->Q (.ref e) H'
theorem scStepsS:FnScope ["table","starts","steps","start","edge","further","thing","near"] ["table","starts"] (aj kR):=⟨rfl,rfl,rfl,by decide +kernel,rfl,by decide +kernel,by decide +kernel⟩
theorem pU (F:Fun K "steps_from" "steps_from" kR f fd) (B:Blt mg):FnOk P w K mg base CX0 1 f fd ["table", "starts"] kM := by
 refine F.ok scStepsS (λvs H Q E h=>?_) (λd7 A c7 s H vs Q E hr h=>?_)
 ·obtain⟨d,st,W,I,f,rfl,_⟩:=h
  rfl
 ·obtain⟨d, st, W, I, fn, rfl, a4, c2, T, hs, d2, c0, k⟩ := h;have nd:=scStepsS.nd;refine⟨_,(ae (ak (i:=2) nd rfl (Or.inl rfl) er)
   (ae (aV PassesOwn.never rfl (tN K (pv 1)) (az (i:=3) nd rfl (Or.inl rfl)) (ah (cR af (df (pv 2) (pv 3) (dG hr.units)))))
   (ae (ak (i:=4) nd rfl (Or.inl rfl) (gy K rfl B (aa (pv 1) ab)))
   (ae (du PassesOwn.never (ao eU (ba K B (aa (pv 4) ab)) af (aB _)) (ae (ak (i:=5) nd rfl (Or.inl rfl) (bh ab))
   (ae (aV PassesOwn.never rfl (bt K (pv 4)) (az (i:=6) nd rfl (Or.inl rfl)) (ah (aV PassesOwn.never rfl (bt K (ai (ap K hr.units) (pv 0) (pv 6) (λ_ _=>rfl))) (az (i:=7) nd rfl (Or.inl rfl)) (ah (aZ (ao (bU K hr.units) (pv 7) (pv 2) (by with_unfolding_all rfl)) (ae (cR (aD aL (ai (ap K hr.units) (pv 2) (pv 6) (λ_ _=>rfl)) af) (df (pv 2) (pv 7) (dG hr.units)))
   (ah (be (bZ K (pv 5) (aa (pv 7) ab))))) aK)))))
   (ah (ak (i:=4) nd rfl (Or.inl rfl) (pv 5))))))
   (ah (aC (pv 2))))))),?_⟩
  have b9:∀n y,MG.WkS (Ner I fn) (·∈W) n y->y∈I:=λn y r=>MG.DstS.closed (T:=λy=>y∈I) hs (λa b ha r=>c0 a ha b r.2) r;intro e he;have d3:W.length<=I.length:=c2.length_le_of_subset hs;have h0:Stp H (upd H e (.dK [])) I e (λ_=>none) []:=⟨Same.new he,ac,λt=>rfl,xP,λk hk=>by cases hk⟩
  refine⟨_,rfl,st,rfl,?_⟩
  let b6:Nat->SH:=λi Z N=>∃o3 o4 X M o7 u,Z=[some (.ref d),some (.ref st),some (.ref e),o3,o4,X,M,o7]/\Stp H N I e (λa=>if a∈W.take i then some 0 else none) u
  refine t4 (xs:=List.map V.str W) b6 (a4.same h0.sm) ?_ ?_ ?_ ?_
  ·exact⟨none,none,none,none,none,[],rfl,h0⟩
  ·rintro i Z N hi ⟨o3,o4,X,M,o7,u,rfl,S⟩;exact(rW a4 S.sm).trans (rW a4 h0.sm).symm
  ·rintro i x Z N hx ⟨o3,o4,X,M,o7,u,rfl,S⟩;obtain⟨m,hm,rfl⟩:=aT hx;have d5:=(wv.mp hm).1;have c8:=wE hm;have b4:m∉W.take i:=λz=>by
    have e1:W.take (i+1)=W.take i++[m]:=by rw[wG,hm];rfl
    have:=c2.sublist (List.take_sublist (i+1) W);rw[e1,xB] at this;exact this.2.2 m z m (by simp) rfl
   have S':=S.put he (hs m c8) (by show (if m∈W.take i then some 0 else none)=none;rw[if_neg b4]) 0;have d0:=S.len;refine⟨_,rfl,_,rfl,.dic (DPut.k (k:=.inr m) S.at_ (aw (by omega))) ⟨_,_,_,_,_,aY u (.inr m) (.int ((0:Nat):Int)),rfl,?_⟩⟩;have e2:(λa=>if a∈W.take (i+1) then some 0 else none)=(λa=>if a=m then some 0 else if a∈W.take i then some 0 else (none:Option Nat)):=by
    funext a
    rw[wG,hm];by_cases q:a=m
    ·subst q;simp
    ·by_cases r:a∈W.take i <;> simp[q,r]
   rw[e2];exact S'
  rintro Z H1 ⟨o3,o4,X,M,o7,d8,rfl,h0⟩;rw[wt,wI (wr _)] at h0;have a9:=a4.same h0.sm;refine⟨_,rfl,_,rfl,.seq (eY a9) λl0 a7=>?_⟩;have a5:H l0=none:=by
   cases q:H l0 with
   | none=>rfl
   | some o=>rw[h0.sm _ _ q] at a7;cases a7
  have h1:=h0.oth (o:=.lst (List.map V.str W)) a5 (av h0.at_ a7)
  let b2:Nat->SH:=λm Z N=>∃L Y g u c o3 o4 X M,m+L=I.length/\Z=[some (.ref d),some (.ref st),some (.ref e),o3,some (.ref Y),o4,X,M]/\Stp H N I e c u/\H Y=none/\N Y=some (.lst (List.map V.str g))/\g.length<=60/\MG.LevS (Ner I fn) (·∈W) L c g
  refine⟨b2,
   ⟨I.length,0,l0,W,_,_,o3,X,M,o7,by omega,rfl,h1,a5,ac,by omega,MG.LevS.start (λy=>Iff.rfl) (λy hy=>if_pos hy) (λy hy=>if_neg hy)⟩,?_⟩
  rintro m Z H2 ⟨L,Y,g,u,c,o3,o4,X,M,hm,rfl,S,d4,D,d6,a0⟩;refine⟨_,rfl,_,_,rfl,Or.inl ⟨_,.of D,rfl⟩,_,_,rfl,rfl,_,rfl,?_⟩;refine aF (λhc=>?_) (λhc=>?_)
  ·have hc:(0:Int)<((List.map V.str g).length:Nat) := wK hc;rw[wt] at hc;have hL:L<I.length:=by
    cases g with
    | nil=>simp at hc
    | cons y r=>exact MG.DstS.lt b9 ((a0.edg y).mp (by simp))
   let b1:SH:=λc1 N=>∃Y g u c o3 o4 X M,c1=[some (.ref d),some (.ref st),some (.ref e),o3,some (.ref Y),o4,X,M]/\Stp H N I e c u/\H Y=none/\N Y=some (.lst (List.map V.str g))/\g.length<=60/\MG.LevS (Ner I fn) (·∈W) (L+1) c g
   refine⟨b1,
    λc1 N ⟨Y,g,u,c,o3,o4,X,M,p⟩=>⟨m-1,by omega,L+1,Y,g,u,c,o3,o4,X,M,by omega,p⟩,?_⟩
   refine⟨(by show 0<=sizeLine;decide),λlf G=>?_⟩;have a1:H lf=none:=by
    cases q:H lf with
    | none=>rfl
    | some o=>rw[S.sm _ _ q] at G;cases G
   have a8:Y≠lf:=av D G;have S1:=S.oth (o:=.lst []) a1 (av S.at_ G);refine⟨_,rfl,Y,rfl,⟨_,.of (by rw[ag a8];exact D)⟩,?_⟩
   let b0:Nat->SH:=λi Z N=>∃u c C X M,Z=[some (.ref d),some (.ref st),some (.ref e),o3,some (.ref Y),some (.ref lf),X,M]/\Stp H N I e c u/\N Y=some (.lst (List.map V.str g))/\N lf=some (.lst (List.map V.str C))/\C.Nodup/\(∀t∈C,t∈I)/\MG.MidS (Ner I fn) (·∈W) L c C (λz y=>z∈g.take i/\Ner I fn z y)
   refine cM (R:=Q) (xs:=List.map V.str g) b0 ?_ ?_ ?_ ?_
   ·exact⟨u,c,[],X,M,rfl,S1,by rw[ag a8];exact D,ac,xP,(λt ht=>by cases ht),a0.mid.wk λa b h=>by simp at h⟩
   ·rintro i Z N hi ⟨u,c,C,X,M,rfl,S,D,_⟩;exact .of D
   ·rintro _ i x Z N hx ⟨u, c, C, X, M, rfl, S, D, G, O, U, J⟩;rw[wN] at hx;obtain⟨z,hz,rfl⟩:∃z,g[i]? = some z/\V.str z=x:=by
     cases q:g[i]? with
     | none=>rw[q] at hx;cases hx
     | some e=>rw[q] at hx;exact⟨e,rfl,wA hx⟩
    have dz:=(a0.edg z).mp (wE hz);have a6:=b9 _ z dz.1;obtain⟨c9,hd,ht⟩:=T;obtain⟨l,el,hl⟩:=ht z a6;have c3:=S.sm _ _ hl;refine⟨_,rfl,_,rfl,.dic (.inl ⟨c9,.inr z,.inl (S.sm _ _ hd),rfl,el.symm⟩) ⟨l,rfl,⟨_,.of c3⟩,?_⟩⟩
    let b8:Nat->SH:=λj Z N=>∃u c C M,Z=[some (.ref d),some (.ref st),some (.ref e),o3,some (.ref Y),some (.ref lf),some (.str z),M]/\Stp H N I e c u/\N Y=some (.lst (List.map V.str g))/\N lf=some (.lst (List.map V.str C))/\C.Nodup/\(∀t∈C,t∈I)/\MG.MidS (Ner I fn) (·∈W) L c C (λa y=>(a∈g.take i/\Ner I fn a y)∨(a=z/\y∈(fn z).take j))
    refine cM (R:=Q) (xs:=List.map V.str (fn z)) b8 ?_ ?_ ?_ ?_
    ·exact⟨u,c,C,M,rfl,S,D,G,O,U,J.wk λa b h=>by simpa using h⟩
    ·rintro j Z N hj ⟨u,c,C,M,rfl,S,_⟩;exact .of (S.sm _ _ hl)
    ·rintro _ j x Z N hx ⟨u, c, C, M, rfl, S, D, G, O, U, J⟩;rw[wN] at hx;obtain⟨y,hy,rfl⟩:∃y,(fn z)[j]? = some y/\V.str y=x:=by
      cases q:(fn z)[j]? with
      | none=>rw[q] at hx;cases hx
      | some e=>rw[q] at hx;exact⟨e,rfl,wA hx⟩
     have b7:=wE hy;have b3:=c0 z a6 y b7;have a2:∀a b,((a∈g.take i/\Ner I fn a b)∨(a=z/\b∈(fn z).take (j+1)))->((a∈g.take i/\Ner I fn a b)∨(a=z/\b∈(fn z).take j))∨(a=z/\b=y):=by
      intro a b h;rcases h with h | ⟨h1,h2⟩
      ·exact .inl (.inl h)
      ·rw[wG,hy,wR] at h2;rcases h2 with h2 | h2
       ·exact .inl (.inr ⟨h1,h2⟩)
       ·exact .inr ⟨h1,by simpa using h2⟩
     refine⟨_,rfl,_,rfl,.dic (DGet.k (k:=.inr y) S.at_) ⟨_,rfl,?_⟩⟩;rw[S.lk y];refine aF (λhc=>?_) (λhc=>?_)
     ·have hc:¬ (c y).isSome=true := by simpa using hc
      have hn:c y=none:=by simpa using hc
      have d1:aG u (.inr z)=some (V.int (L:Int)):=by rw[S.lk,J.cmp z L (wr _) dz];rfl
      refine⟨_,rfl,_,rfl,.dic (.inl ⟨u,.inr z,.inl S.at_,rfl,d1.symm⟩) (.int ?_)⟩;have d0:=S.len;refine⟨_,rfl,_,rfl,.dic (DPut.k (k:=.inr y) S.at_ (aw (by omega))) ?_⟩;have S':=S.put he b3 hn (L+1);have c4:Y≠e:=bP D S.at_ (by intro z;cases z);have a3:lf≠e:=bP G S.at_ (by intro z;cases z);refine⟨_,rfl,.inl ⟨rfl,_,.of (by rw[ag a3];exact G)⟩,?_⟩;have c5:C.length<=I.length:=O.length_le_of_subset U;refine⟨_,rfl,lf,_,_,rfl,rfl,by rw[ag a3];exact G,by rw[wt];exact aw (by omega),?_⟩;refine⟨_,_,C++[y],_,rfl,S'.oth a1 (Ne.symm a3),?_,?_,?_,?_,(J.add (z:=z) (y:=y) dz ⟨a6,b7⟩ hn λa=>rfl).wk a2⟩
      ·rw[ag a8,ag c4];exact D
      ·rw[ac,wy];rfl
      ·rw[xB];refine⟨O,by simp,λa ha b hb=>?_⟩;have:b=y:=by simpa using hb
       subst this;rintro rfl;rw[(J.fur a ha).2] at hn;cases hn
      ·intro t ht;rcases wR.mp ht with ht | ht
       ·exact U t ht
       ·have:t=y:=by simpa using ht
        rw[this];exact b3
     ·have hc:(c y).isSome=true:=by
         cases q:c y with
         | none=>rw[q] at hc;exact absurd rfl hc
         | some v=>rfl
      exact⟨u,c,C,_,rfl,S,D,G,O,U,(J.skip (z:=z) hc).wk a2⟩
    ·rintro Z N ⟨u,c,C,M,rfl,S,D,G,O,U,J⟩;rw[wt,wI (wr _)] at J;refine⟨u,c,C,_,_,rfl,S,D,G,O,U,J.wk λa b h=>?_⟩;obtain⟨h1,h2⟩:=h;rw[wG,hz,wR] at h1;rcases h1 with h1 | h1
     ·exact .inl ⟨h1,h2⟩
     ·have:a=z:=by simpa using h1
      subst this;exact .inr ⟨rfl,h2.2⟩
   ·rintro Z N ⟨u,c,C,X,M,rfl,S,D,G,O,U,J⟩;rw[wt,wI (wr _)] at J;have c5:C.length<=I.length:=O.length_le_of_subset U;exact⟨_,rfl,lf,C,u,c,_,_,_,_,rfl,S,a1,G,by omega,J.next a0.edg λz y hz r=>⟨hz,r⟩⟩
  ·have c6:g=[] := by
      cases g with
      | nil=>rfl
      | cons y r=>exact absurd (wF (by simp)) hc
   subst c6;have b5:=a0.done;refine⟨_,rfl,k e u H2 S.sm he S.at_ λt v=>?_⟩;rw[S.lk t]
   constructor
   ·intro q;cases q2:c t with
    | none=>rw[q2] at q;cases q
    | some n =>
     rw[q2] at q;exact⟨n,(wA q).symm,(b5 t n).mp q2⟩
   ·rintro⟨n,rfl,dn⟩;rw[(b5 t n).mpr dn];rfl
def nmP (ss:LS) (e:Nat × Nat):Str × Str:=(ss.getD e.1 "",ss.getD e.2 "")
theorem ga {ss:LS}(f:ss.Nodup) (nm:∀s∈ss,Nm s) {a b:Nat}(c:a<ss.length) (h:ss.getD a ""=ss.getD b ""):a=b:=by
 by_cases g:b<ss.length
 ·rw[w6,w6,wP c,wP g] at h;exact(List.getElem_inj f).mp h
 ·have e:ss.getD b ""="":=by rw[w6,yk (by omega)];rfl
  have d:=(nm _ (cz c)).1;rw[h,e] at d;exact absurd d (by decide)
def nmA (ss:LS) (i:Nat):Str:=ss.getD i ""
theorem wj (a:LS):a=(List.range a.length).map (nmA a):=by
 apply List.ext_getElem?;intro i;rw[wN];by_cases b:i<a.length
 ·rw[wP b,List.getElem?_range b];simp[nmA,b]
 ·rw[yk (by omega),yk (by simpa using b)]
  rfl
theorem js {ss:LS}{es:List (Nat × Nat)}(f:ss.Nodup) (nm:∀s∈ss,Nm s) (c:∀e∈es,e.1<ss.length/\e.2<ss.length) {a b:Nat}:(nmA ss a,nmA ss b)∈es.map (nmP ss) ↔ (a,b)∈es:=by
 rw[ww]
 constructor
 ·rintro⟨e,d,q⟩;have i:=ga f nm (c e d).1 (Prod.mk.inj q).1;have g:=ga f nm (c e d).2 (Prod.mk.inj q).2;rw[<- i,<- g];exact d
 ·intro h;exact⟨(a,b),h,rfl⟩
def nxn (n:Nat) (es:List (Nat × Nat)) (a:Nat):List Nat:=(List.range n).filter λb=>decide ((a,b)∈es)
theorem nh (h:(List.range n).filter q=b::r):b<n/\q b=true/\∀c,c<n->q c=true->b<=c:=by
 have g:b∈(List.range n).filter q:=by rw[h];simp
 obtain⟨e,j⟩:=wV.mp g;refine⟨xq.mp e,j,λc f i=>?_⟩;have a:c∈(List.range n).filter q:=wV.mpr ⟨xq.mpr f,i⟩;have d:=(yh (n:=n)).filter q;rw[h] at a d;rcases wH.mp a with rfl | a
 ·exact wr _
 ·exact xA ((List.pairwise_cons.mp d).1 c a)
def gq (ss:LS) (es:List (Nat × Nat)):Prop:=∀e∈es,e.1<ss.length/\e.2<ss.length
theorem ip (b:LS) (us:List Nat) (a:Nat):atI (List.map V.str ((us++[a]).map (nmA b))) (-1)=some (.str (nmA b a)):=by
 rw[wy,wy];exact im _ _
theorem mL (T:Tre us ks) (a:k∈ks):k.1=""∨Nm k.1:=by
 rcases T.sub k a with w | w
 ·exact .inl w
 ·exact .inr (T.nm _ w)
theorem rn (T:Tre us ks) (a:k∈ks) (d:u∈us) (e:v∈us) (h:bc ks u v=some (k.1,x,y)):x∈k.2/\y∈k.2:=by
 obtain⟨b,g,f,c,_⟩:=T.part d e h;have a:(k.1,k.2)∈ks:=a;exact⟨T.kid f (by rw[b];exact a),T.kid c (by rw[g];exact a)⟩
theorem fH (T:Tre us ks) (d:cV us ks ts) (j:k ∈ ks):∀e ∈ cc ks ts wn k.1 k.2, e.1 ∈ k.2 /\ e.2 ∈ k.2 := λe a => by
 unfold cc at a;rw[gF,wR,wR] at a;rcases a with a | a | a | a
 ·cases a
 ·obtain⟨z, b, q⟩ := xM.mp a;obtain⟨c,f,_⟩:=d z b;unfold cD at q;cases hpo:bc ks z.1 z.2 with
  | none=>rw[hpo] at q;cases q
  | some t3 =>
   obtain⟨g,h,i⟩:=t3;rw[hpo] at q;have q:(if g=k.1 then some (h,i) else none)=some e:=q;by_cases b:g=k.1
   ·rw[if_pos b] at q;have q:=wA q;subst q;rw[b] at hpo;exact rn T j c f hpo
   ·rw[if_neg b] at q;cases q
 ·obtain⟨u,c,a⟩:=xH.mp a;exact gN (us:=k.2) false (λz b=>b) (ko c) e a
 ·obtain⟨u,c,a⟩:=xH.mp a;exact gN (us:=k.2) true (λz b=>b) (ko c) e a
def fN (c:LS) (ps:Prs):List (Nat × Nat):=ps.map λe=>(c.idxOf e.1,c.idxOf e.2)
theorem oE (h:∀e∈ps,e.1∈c/\e.2∈c):(fN c ps).map (nmP c)=ps:=by
 unfold fN;rw[List.map_map]
 conv=>rhs;rw[<- List.map_id ps]
 refine List.map_congr_left λe a=>?_;show (c.getD (c.idxOf e.1) "",c.getD (c.idxOf e.2) "")=e;rw[dC (h e a).1,dC (h e a).2]
theorem gg (h:∀e∈ps,e.1∈c/\e.2∈c):gq c (fN c ps):=λe b=>by
 obtain⟨f,a,rfl⟩:=ww.mp b;exact⟨xG (h f a).1,xG (h f a).2⟩
theorem rF (f:c.Nodup) (h:∀e∈ps,e.1∈c/\e.2∈c) (o:a<c.length) (n:b<c.length):(a,b)∈fN c ps ↔ (nmA c a,nmA c b)∈ps:=by
 have g:c.idxOf (nmA c a)=a:=mY f (by unfold nmA;rw[w6,wP o];rfl);have i:c.idxOf (nmA c b)=b:=mY f (by unfold nmA;rw[w6,wP n];rfl)
 constructor
 ·intro q;obtain⟨e,d,z⟩:=ww.mp q;obtain⟨k,m⟩:=Prod.mk.inj z;have l:nmA c a=e.1:=by rw[<- k];exact dC (h e d).1
  have j:nmA c b=e.2:=by rw[<- m];exact dC (h e d).2
  rw[l,j];exact d
 ·intro q;exact ww.mpr ⟨_,q,by rw[g,i]⟩
theorem tR {ss:LS}{es:List (Nat × Nat)}(d:ss.Nodup) (nm:∀s∈ss,Nm s) (b:gq ss es) (a:Nat):ss.filter (nbP false (es.map (nmP ss)) (nmA ss a))=(nxn ss.length es a).map (nmA ss):=by
 unfold nxn;have c:∀g:Str->Bool,ss.filter g=((List.range ss.length).map (nmA ss)).filter g:=λg=>by rw[<- wj ss]
 rw[c,List.filter_map];congr 1;refine List.filter_congr λi e=>?_;show decide ((nmA ss a,nmA ss i)∈es.map (nmP ss))=decide ((a,i)∈es);rw[xr,decide_eq_true_iff,decide_eq_true_iff,js d nm b]
theorem dL (h:i<c.length):nmA c i∈c:=cz h
theorem fU {c:LS}(b:c.Nodup) (nm:∀s∈c,Nm s) {ss:List Nat}(a:∀s∈ss,s<c.length) {i:Nat}:nmA c i∈ss.map (nmA c) ↔ i∈ss:=by
 rw[ww];refine⟨λ⟨s,h,e⟩=>?_,λh=>⟨i,h,rfl⟩⟩;have:=ga b nm (a s h) e;rw[<- this];exact h
theorem dM {c:LS}{es:List (Nat × Nat)}{ss:List Nat}(nd:c.Nodup) (nm:∀s ∈ c, Nm s) (val:gq c es) (hs:∀s ∈ ss, s<c.length):∀ {k i:Nat}, i<c.length -> (MG.WkS (Ner c λs => c.filter (nbP true (es.map (nmP c)) s)) (· ∈ ss.map (nmA c)) k (nmA c i) ↔ MG.Lw es ss k i)
 | 0,i,hi=>by
  constructor
  ·rintro⟨x,hx,e⟩;have e:x=nmA c i:=e;rw[e] at hx;exact(fU nd nm hs).mp hx
  ·intro h;exact⟨nmA c i,(fU nd nm hs).mpr h,rfl⟩
 | k+1,i,hi=>by
  constructor
  ·rintro⟨x,hx,z,w,hz,r⟩;have r:=wK (wV.mp r).2;obtain⟨j,hj,rfl⟩:∃j,j<c.length/\nmA c j=z:=⟨c.idxOf z,xG hz,dC hz⟩
   exact⟨j,(js nd nm val).mp r,(dM nd nm val hs hj).mp ⟨x,hx,w⟩⟩
  ·rintro⟨j,e,w⟩;have hj:=(val _ e).2;obtain⟨x,hx,w'⟩:=(dM nd nm val hs hj).mpr w;exact⟨x,hx,nmA c j,w',dL hj,wV.mpr ⟨dL hi,wF ((js nd nm val).mpr e)⟩⟩
def rJ (kvs:KV_) (c:LS) (es:List (Nat × Nat)) (ss:List Nat):Prop:=∀i v,i<c.length->(aG kvs (.inr (nmA c i))=some v ↔ ∃k:Nat,v=.int (k:Int)/\MG.Lf es ss i k)
theorem qE (d:c.Nodup) (nm:∀s∈c,Nm s) (a:gq c es) (e:∀s∈ss,s<c.length) (h:∀t v,aG kvs (.inr t)=some v ↔ ∃k:Nat,v=.int (k:Int)/\MG.DstS (Ner c λs=>c.filter (nbP true (es.map (nmP c)) s)) (·∈ss.map (nmA c)) k t):rJ kvs c es ss:=λi v b=>by
 rw[h];refine exists_congr λk=>and_congr_right λ_=>?_
 constructor
 ·rintro⟨f,j⟩;exact⟨(dM d nm a e b).mp f,λg l w=>j g l ((dM d nm a e b).mpr w)⟩
 ·rintro⟨f,j⟩;exact⟨(dM d nm a e b).mpr f,λg l w=>j g l ((dM d nm a e b).mp w)⟩
theorem mf (a:MG.Lf es ss v m) (e:(v,x)∈es) (b:MG.Lf es ss x j):m<=j+1:=xE λq=>a.2 (j+1) q ⟨x,e,b.1⟩
theorem sW (c:MG.Lf es ss v (m+1)):∃u,(v,u)∈es/\MG.Lf es ss u m:=by
 obtain⟨⟨u,e,w⟩,n⟩:=c;exact⟨u,e,w,λa b d=>n (a+1) (by omega) ⟨u,e,d⟩⟩
theorem tM (h:MG.Gp es ss k v p):∀ {z}, MG.Gp es ss k v z -> p=z := by
 induction h with
 | stop _=>intro z g;cases g;rfl
 | @step k v u p lf e lu le _ ih =>
  intro z g;cases g with
  | @step _ _ u' q lf' e' lu' le' g' =>
   have a:=le u' k e' lu' (by omega);have b:=le' u k e lu (by omega);have:u'=u:=by omega
   subst this;rw[ih g']
def mT:Sp:=λvs H Q _=>∃(q:Addr) (ss:LS) (es:List (Nat × Nat)) (ms:List Nat) (dl:Addr) (kvs:KV_) (j a:Nat),vs=[.ref q,.str (nmA ss a),.ref dl]/\Rep H (.ref q) (vwD ss (es.map (nmP ss)))/\ss.Nodup/\(∀s∈ss,Nm s)/\ss.length<=60/\es.length<=100000/\gq ss es/\H dl=some (.dK kvs)/\rJ kvs ss es ms/\a<ss.length/\MG.Lf es ms a (j+1) /\
 ∀b H',(a,b)∈es->MG.Lf es ms b j->(∀x j',(a,x)∈es->MG.Lf es ms x j'->j'<j+1->b<=x)->Same H H'->Q (.str (nmA ss b)) H'
theorem scNearer:FnScope ["web","thing","left","nearer"] ["web","thing","left"] (aj gX):=⟨rfl,rfl,rfl,by decide +kernel,rfl,by decide +kernel,by decide +kernel⟩
theorem pS (F:Fun K "first_nearer" "first_nearer" gX f fd) (B:Blt mg) (C:Cal P w K mg base 2 "nexts" ["web", "one"] (nR false)):FnOk P w K mg base CX0 3 f fd ["web", "thing", "left"] mT := by
 refine F.ok scNearer (λvs H Q E h=>?_) (λb4 A a5 s H vs Q E W h=>?_)
 ·obtain⟨q,d,m,ms,dl,g,j,a,rfl,_⟩:=h
  rfl
 ·obtain⟨q, d, m, ms, dl, g, j, a, rfl, R, a1, a0, U, el, G, a6, t, ha, z, k⟩ := h;have nd:=scNearer.nd;refine⟨_,(ae (eH (i:=3) nd rfl rfl (by rfl) (aj gX) ["web","thing","left","nearer"] ["near"] [2,1] ["near","left","thing"] rfl (bt K (au C (W.mono (by decide)) rfl (aa (pv 0) (aa (pv 1) ab)))) (λ_ _ _ _ _=>(az (i:=0) (show (["near","left","thing"]:LS).Nodup by decide) rfl (Or.inl rfl))) (λ_ _ _ _ _=>(bS (PW.pt (bR (ao (dw K W.units) (pv 0) (pv 1) (by with_unfolding_all rfl)) (bw (ao dt (ai (ap K W.units) (pv 1) (pv 0) (λ_ _=>rfl)) (ai (ap K W.units) (pv 1) (pv 2) (λ_ _=>rfl)) (aB _))))))) (λ_ _ _ _ _=>(pv 0)))
   (ah (aC (ai (ap K W.units) (pv 3) af (λ_ _=>rfl))))),?_⟩
  refine⟨_,rfl,_,rfl,q,d,_,_,rfl,R,U,by rw[wt];exact el,λl1 H1 s1 b2 y=>⟨l1,rfl,⟨_,.of y⟩,?_⟩⟩;have y:H1 l1=some (.lst (List.map V.str ((nxn d.length m a).map (nmA d)))):=by rw[<- tR a1 a0 G a];exact y
  have b3:(nxn d.length m a).length<=d.length:=by
   have:=xn (λb=>decide ((a,b)∈m)) (List.range d.length);rw[xu] at this;exact this
  let S:Addr->Nat->LV->SH:=λD i J I H'=>∃o,I=[o,some (.ref dl),some (.str (nmA d a))]/\J=List.map V.str ((((nxn d.length m a).take i).filter λb=>decide (aG g (.inr (nmA d b))=some (.int (j:Int)))).map (nmA d))/\Same H1 H'/\H1 D=none
  refine cU (List.map V.str ((nxn d.length m a).map (nmA d))) S λD hD=>⟨?_,?_,?_,?_⟩
  ·exact⟨none,rfl,rfl,Same.new hD,hD⟩
  ·rintro i J I H' _ ⟨o,rfl,_,O,_⟩ _;exact .of (O _ _ y)
  ·rintro i J I H' x T ⟨o, rfl, rfl, O, u⟩ l;rw[List.map_map,wN] at T;obtain⟨b,N,rfl⟩:∃b,(nxn d.length m a)[i]? = some b/\V.str (nmA d b)=x:=by
    cases q:(nxn d.length m a)[i]? with
    | none=>rw[q] at T;cases T
    | some e=>rw[q] at T;exact⟨e,rfl,wA T⟩
   have b1:=(wv.mp N).1;obtain⟨a7,a8⟩:=wV.mp (wE N);have b0:=xq.mp a7;have a4:=wK a8;have M:=O _ _ (s1 _ _ a6);have Y:¬ aG g (.inr (nmA d b))=some (.int (j:Int))->(((nxn d.length m a).take (i+1)).filter λb=>decide (aG g (.inr (nmA d b))=some (.int (j:Int))))=(((nxn d.length m a).take i).filter λb=>decide (aG g (.inr (nmA d b))=some (.int (j:Int)))):=λq=>by
    rw[wG,N,xm];simp[q]
   refine⟨_,rfl,_,rfl,.dic (DGet.k (k:=.inr (nmA d b)) M) ⟨_,rfl,?_⟩⟩;refine aF (λn=>?_) (λn=>?_)
   ·obtain⟨v, Z⟩ := xN.mp n;obtain⟨k1,rfl,a3⟩:=(t b v b0).mp Z;have a9:aG g (.inr (nmA d a))=some (.int ((j+1:Nat):Int)):=(t a _ ha).mpr ⟨j+1,rfl,z⟩;have b5:=mf z a4 a3;refine⟨_,rfl,_,rfl,.dic (.inl ⟨g,.inr (nmA d b),.inl M,rfl,Z.symm⟩) ⟨_,rfl,_,rfl,.dic (.inl ⟨g,.inr (nmA d a),.inl M,rfl,a9.symm⟩) (.int ⟨_,rfl,?_⟩)⟩⟩;refine aF (λp=>?_) (λp=>?_)
    ·have p:(k1:Int)<((j+1:Nat):Int):=wK p;have:k1=j:=by omega
     subst this;refine⟨_,rfl,l,?_,_,rfl,?_,aQ O u,u⟩
     ·rw[wt,wt];have p:=xn (λb=>decide (aG g (.inr (nmA d b))=some (.int (k1:Int)))) ((nxn d.length m a).take i);rw[xi] at p;exact aw (by omega)
     ·rw[wG,N,xm,wy,wy];simp[Z]
    ·have p:¬ (k1:Int)<((j+1:Nat):Int):=λq=>p (wF q);refine⟨l,_,rfl,?_,O,u⟩;rw[Y λq=>?_];rw[Z] at q;have:=V.int.inj (wA q);omega
   ·have n:¬ (aG g (.inr (nmA d b))).isSome=true:=n;refine cY ⟨l,_,rfl,?_,O,u⟩;rw[Y λq=>?_];rw[q] at n;exact n rfl
  ·rintro J I H2 ⟨o, rfl, rfl, s2, u⟩ l;rw[wt,wt,wI (wr _)] at l;have hf:((nxn d.length m a).filter λb=>decide (aG g (.inr (nmA d b))=some (.int (j:Int))))=(List.range d.length).filter λb=>decide (aG g (.inr (nmA d b))=some (.int (j:Int)))&&decide ((a,b)∈m):=by
    unfold nxn;rw[List.filter_filter]
   rw[hf] at l;have hq:∀b,b<d.length->((decide (aG g (.inr (nmA d b))=some (.int (j:Int)))&&decide ((a,b)∈m))=true ↔ (a,b)∈m/\MG.Lf m ms b j):=λb N=>by
    rw[xj,decide_eq_true_iff,decide_eq_true_iff,t b _ N]
    constructor
    ·rintro⟨⟨k,n,p⟩,h3⟩;have:(j:Int)=k:=V.int.inj n;have:j=k:=by omega
     subst this;exact⟨h3,p⟩
    ·rintro⟨n,p⟩;exact⟨⟨j,rfl,p⟩,n⟩
   cases hl:(List.range d.length).filter λb=>decide (aG g (.inr (nmA d b))=some (.int (j:Int)))&&decide ((a,b)∈m) with
   | nil =>
    obtain⟨c,L,a2⟩:=sW z;have X:=(G _ L).2;have:c∈(List.range d.length).filter λb=>decide (aG g (.inr (nmA d b))=some (.int (j:Int)))&&decide ((a,b)∈m):=wV.mpr ⟨xq.mpr X,(hq c X).mpr ⟨L,a2⟩⟩;rw[hl] at this;cases this
   | cons b r =>
    obtain⟨g1,g2,g3⟩:=nh hl;rw[hl] at l;have g2:=(hq b g1).mp g2;refine⟨_,rfl,.lst (.of l) (cF (j:=0) rfl) (k b H2 g2.1 g2.2 (λc j' n p h3=>by
     have e:=mf z n p;have e:j'=j:=by omega
     subst e;exact g3 c (G _ n).2 ((hq c (G _ n).2).mpr ⟨n,p⟩)) (s1.trans s2))⟩
theorem cX:inV (.str x) (List.map V.str l)=decide (x∈l):=by
 unfold inV;rw[List.any_map]
 induction l with
 | nil=>rfl
 | cons y l ih =>
  rw[xC,ih];show ((y==x)||decide (x∈l))=_;by_cases q:x=y
  ·subst q;simp
  ·rw[show (y==x)=false from beq_eq_false_iff_ne.mpr (λz=>q z.symm)];simp[q]
def jG:Sp:=λvs H Q _=>∃(q mem:Addr) (ks:Kn) (ts ws wn:Prs) (ms:LS),vs=[.ref q,.ref mem]/\Rep H (.ref q) (aX ks ts ws wn)/\SqA H mem (List.map V.str ms)/\wn.length<=1000/\∀x H',Same H H'->Rep H' (.ref x) (aX ks ts ws (wn.filter λe=>!decide (e.2∈ms)))->Q (.ref x) H'
theorem scWithout:FnScope ["house","members","wants"] ["house","members"] (aj dj):=⟨rfl,rfl,rfl,by decide +kernel,rfl,by decide +kernel,by decide +kernel⟩
theorem nU (F:Fun K "without_wants_of" "without_wants_of" dj f fd) (B:Blt mg):FnOk P w K mg base CX0 1 f fd ["house", "members"] jG := by
 refine F.ok scWithout (λvs H Q E h=>?_) (λa1 A W s H vs Q E u h=>?_)
 ·obtain⟨q,G,ks,ts,ws,O,p,rfl,_⟩:=h
  rfl
 ·obtain⟨q, G, ks, ts, ws, O, p, rfl, R, hm, wl, k⟩ := h;have nd:=scWithout.nd;refine⟨_,(ae (eH (i:=2) nd rfl rfl (by rfl) (aj dj) ["house","members","wants"] ["want"] [1] ["want","members"] rfl (bd K (ai (ap K u.units) (pv 0) af (λ_ _=>rfl))) (λ_ _ _ _ _=>(az (i:=0) (show (["want","members"]:LS).Nodup by decide) rfl (Or.inl rfl))) (λ_ _ _ _ _=>(bS (ao (bU K u.units) (ai (ap K u.units) (pv 0) af (λ_ _=>rfl)) (pv 1) (by with_unfolding_all rfl)))) (λ_ _ _ _ _=>(pv 0)))
   (ah (aC (aN (aa (ai (ap K u.units) (pv 0) af (λ_ _=>rfl)) (aa (ai (ap K u.units) (pv 0) af (λ_ _=>rfl)) (aa (ai (ap K u.units) (pv 0) af (λ_ _=>rfl)) (aa (cQ K B (aa (pv 2) ab)) ab)))))))),?_⟩
  obtain⟨q',a,b,c3,d4,e0,N,R1,R2,R3,R4⟩:=bW R;cases e0;obtain⟨w4,I,e4,X,rp⟩:=Rep.tupI R4;cases e4;have n:=rp.len;rw[wt] at n;refine⟨_,rfl,.tup (.of N) rfl ⟨_,rfl,⟨_,.of X⟩,?_⟩⟩
  let y:Addr->Nat->LV->SH:=λD i c m S=>∃o,m=[o,some (.ref G)]/\RepAll H c (((O.take i).filter λe=>!decide (e.2∈p)).map aA)/\c.length<=i/\Same H S/\H D=none
  refine ck I y λD Z=>⟨?_,?_,?_,?_⟩
  ·exact⟨none,rfl,.nil,wr _,Same.new Z,Z⟩
  ·rintro i c m S _ ⟨o,rfl,_,_,v,_⟩ _;exact .of (v _ _ X)
  ·rintro i c m S x hx ⟨o, rfl, g, al, v, l⟩ j;obtain⟨e,ta,he,rfl,C⟩:=bH rp hx;have a0:=(wv.mp he).1;have d:(O.take (i+1)).filter (λe=>!decide (e.2∈p))=(O.take i).filter (λe=>!decide (e.2∈p))++(if e.2∈p then [] else [e]):=by
    rw[wG,he,xm];congr 1;show List.filter _ [e]=_;by_cases z:e.2∈p <;> simp[z]
   dsimp only[bp];refine⟨_,rfl,.tup (.of (v _ _ C)) rfl ⟨_,rfl,.seq (eY (hm.same v)) rfl (bL _) ⟨_,rfl,?_⟩⟩⟩;rw[cX,if_pos rfl];refine aF (λr=>?_) (λr=>?_)
   ·have r:e.2∉p:=by simpa using r
    rw[if_neg r] at d;refine⟨_,rfl,j,aw (by omega),_,rfl,?_,?_,aQ v l,l⟩
    ·rw[d,wy];exact RepAll.append g (.cons (.tup C (.cons (.str _) (.cons (.str _) .nil))) .nil)
    ·rw[wB];exact yg al
   ·have r:e.2∈p:=by simpa using r
    rw[if_pos r,xa] at d;exact⟨j,_,rfl,by rw[d];exact g,by omega,v,l⟩
  ·rintro c m Y ⟨o,rfl,g,al,L,l⟩ j;rw[n,wI (wr _)] at g;refine⟨_,rfl,.tup (.of (L _ _ N)) rfl ⟨_,rfl,.tup (.of (L _ _ N)) rfl ⟨_,rfl,.tup (.of (L _ _ N)) rfl ⟨_,rfl,D,_,rfl,.of j,λM T=>aS ⟨by show 4<=sizeLine;decide,λx0 t=>?_⟩⟩⟩⟩⟩;have s2:=L.trans (Same.new (o:=.tup c) T);have U:upd Y M (.tup c) M=some (.tup c):=ac;generalize upd Y M (.tup c)=H2 at s2 U t;have J:=s2.trans (Same.new (o:=.tup [.ref a,.ref b,.ref c3,.ref M]) t);refine k x0 _ J (.tup ac (.cons (R1.same J) (.cons (R2.same J) (.cons (R3.same J) (.cons ?_ .nil)))));exact .tup (by rw[ag (av U t)];exact U) (g.same J)
def jP:Sp:=λvs H Q _=>∃(a:Addr) (xs:LS),vs=[.ref a]/\H a=some (.tup (List.map V.str xs))/\xs.length<=1000/\xs.Nodup/\∀d kvs H',Same H H'->H d=none->H' d=some (.dK kvs)->(∀i,i<xs.length->aG kvs (.inr (nmA xs i))=some (.int (i:Int)))->Q (.ref d) H'
theorem nV (F:Fun K "places_of" "places_of" eQ f fd) (B:Blt mg):FnOk P w K mg base CX0 1 f fd ["things"] jP := by
 refine F.ok scPlaces (λvs H Q E h=>?_) (λY A G s H vs Q E W h=>?_)
 ·obtain⟨a,xs,rfl,_⟩:=h
  rfl
 ·obtain⟨a, xs, rfl, O, hl, L, k⟩ := h;have J:=scPlaces.nd;refine⟨_,(ae (ak (i:=1) J rfl (Or.inl rfl) er)
   (ae (aV PassesOwn.never rfl (qi K rfl B.enumerate (aa (pv 0) ab)) (cj (n:=2) K rfl (aO (az (i:=2) J rfl (Or.inl rfl)) (aO (az (i:=3) J rfl (Or.inl rfl)) ci))) (ah (cR (pv 2) (df (pv 1) (pv 3) (dG W.units)))))
   (ah (aC (pv 1))))),?_⟩
  intro d r;have I:a≠d:=av O r;refine⟨_,rfl,_,rfl,.tup (.of (by rw[ag I];exact O)) ?_⟩
  let l:Nat->SH:=λi v g=>∃C u c,v=[some (.ref a),some (.ref d),C,u]/\Same H g/\g d=some (.dK c)/\c.length<=i/\(∀j,j<i->aG c (.inr (nmA xs j))=some (.int (j:Int)))
  refine oA (xs:=List.map V.str xs) l ?_ ?_ ?_ ?_
  ·exact⟨none,none,[],rfl,Same.new r,ac,wr _,λj hj=>by omega⟩
  ·rintro i v g hi ⟨C,u,c,rfl,m,_⟩;exact .of (m _ _ O)
  ·rintro i x v g p X ⟨C, u, c, rfl, m, y, Z, e⟩ R;obtain⟨t,T,rfl⟩:=aT X;have D:=(wv.mp T).1;have N:d≠p:=av y R;refine⟨p,_,rfl,.of ac,rfl,_,_,rfl,_,_,rfl,rfl,?_⟩;refine⟨_,rfl,_,rfl,_,rfl,.dic (DPut.k (k:=.inr t) (by rw[ag N];exact y) (aw (by omega))) ⟨_,_,_,rfl,?_,ac,?_,?_⟩⟩
   ·intro b o U;rw[ag (av U r)];exact Same.new R _ _ (m _ _ U)
   ·have:=bv c (.inr t) (V.int i);omega
   ·intro j hj;have S:nmA xs i=t:=by unfold nmA;rw[w6,T];rfl
    rw[dr];by_cases q:j=i
    ·subst q;rw[if_pos (by rw[S])]
    ·rw[if_neg (λz=>?_)]
     ·exact e j (by omega)
     ·have z:nmA xs j=nmA xs i:=(Sum.inr.inj z).trans S.symm;have M:j<xs.length:=by omega
      unfold nmA at z;rw[w6,w6,wP M,wP D] at z;exact q ((List.getElem_inj L).mp z)
  ·rintro v g ⟨C,u,c,rfl,m,y,_,e⟩;rw[wt] at e;exact⟨_,rfl,k d c g m r y e⟩
def nj:Expr->Scope
 | .Lambda _ _ sc _=>sc
 | _=>{ kind:=.module,names:=[],isGenerator:=false,isCoroutine:=false }
def lamP:Expr->Pos
 | .Lambda _ _ _ p=>p
 | _=>⟨0,0,0,0⟩
def vL:Stmt->Expr
 | .Assign _ (.Call _ [.Call _ _ (⟨_,e,_⟩::_) _] _ _) _=>e
 | _=>.Name "x" ⟨0,0,0,0⟩
def kA:Expr:=vL ((bY cr).getD 5 (.Pass ⟨0,0,0,0⟩))
def nW:LS:=["left","places"]
def qlW:Str:=(Str.ofString "way_between"++Str.ofString ".<locals>.")++Str.ofString "<lambda>"
theorem hfW:∀y∈(nj kA).names,y.2=NameKind.free->(aj cr).names.lookup y.1=some .cell:=by decide +kernel
theorem hnW:∀(j:Nat) (y:Str),nW[j]? = some y->(nj kA).names.lookup y=some .free/\(aj cr).names.lookup y=some .cell/\∃i,([2,5]:List Nat)[j]? = some i/\(["web","members","left","leaving","starts","places","row"]:LS)[i]? = some y
 | 0,y,h=>by cases h;exact⟨by decide +kernel,by decide +kernel,2,rfl,rfl⟩
 | 1,y,h=>by cases h;exact⟨by decide +kernel,by decide +kernel,5,rfl,rfl⟩
 | j+2,y,h=>by cases h
theorem lsW:LamScope (nj kA):=⟨rfl,rfl,rfl,by decide +kernel⟩
theorem vp {σ:St}{i j:Nat}{x y:V}(h1:σ[i]? = some (some x)) (h2:σ[j]? = some (some y)):∀(n k:Nat) (v:V),([i,j]:List Nat)[n]? = some k->([x,y]:LV)[n]? = some v->σ[k]? = some (some v)
 | 0,k,v,a,b=>by cases a;cases b;exact h1
 | 1,k,v,a,b=>by cases a;cases b;exact h2
 | n+2,k,v,a,b=>by cases a
def SameK (Pt:Addr) (H H':Hp):Prop:=∀b u,b≠Pt->H b=some u->H' b=some u
theorem SameK.trans (a:SameK q H H1) (b:SameK q H1 H2):SameK q H H2:=λc u n e=>b c u n (a c u n e)
theorem SameK.of (s:Same H H'):SameK q H H':=λb u _ e=>s b u e
def TbK (Pt:Addr) (H:Hp):Prop:=∃ps,CTab H Pt ps (lamP kA) qlW
theorem TbK.same (h:TbK q H) (s:Same H H'):TbK q H':=let ⟨a,c⟩:=h;⟨a,c.same s⟩
theorem TbK.ne (h:TbK q H) (e:H b=some u) (n:∀ps,u≠.tbl ps):b≠q:=λz=>by
 obtain⟨ps,c⟩:=h;rw[z,c.at_] at e;exact n ps (wA e).symm
theorem SameK.at (s:SameK q H H') (h:TbK q H) (e:H b=some u) (n:∀ps,u≠.tbl ps:=by intro ps z;cases z):H' b=some u:=s b u (h.ne e n) e
theorem SameK.free (s:SameK B H H') (h:TbK B H) (h':TbK B H') (e:H' b=none):H b=none := by
 cases q:H b with
 | none=>rfl
 | some u =>
  by_cases z:b=B
  ·obtain⟨a,c⟩:=h';rw[z,c.at_] at e;cases e
  ·rw[s b u z q] at e;cases e
theorem SameK.cor (s:SameK q H H') (h:TbK q H):Same (cor H) H':=let ⟨_,c⟩:=h;td c.at_ s
theorem uN (R:Rep H v d) (s:SameK q H H') (h:TbK q H):Rep H' v d:=(Rep.cor R).same (s.cor h)
theorem sqK (h:SqA H a xs) (s:SameK q H H') (t:TbK q H):SqA H' a xs:=h.imp (λz=>s.at t z) (λz=>s.at t z)
theorem lex3 (h:HT.lexLt [x1, z, G] [B, q, I]=false):B<x1 ∨ (B=x1 /\ (q<z ∨ (q=z /\ I <= G))) := by
 rw[HT.lexLt_cons] at h;by_cases b:x1=B
 ·rw[if_pos b, HT.lexLt_cons] at h;by_cases a:z=q
  ·rw[if_pos a,HT.lexLt_cons] at h;by_cases c:G=I
   ·omega
   ·rw[if_neg c] at h;have:=of_decide_eq_false h;omega
  ·rw[if_neg a] at h;have:=of_decide_eq_false h;omega
 ·rw[if_neg b] at h;have:=of_decide_eq_false h;omega
structure LeastW (es:List (Nat × Nat)) (ms:List Nat) (a u k:Nat):Prop where
 am:a∈ms
 um:u∉ms
 e:(a,u)∈es
 lf:MG.Lf es ms u k
 le:∀a' u' k',a'∈ms->u'∉ms->(a',u')∈es->MG.Lf es ms u' k'->k<k'∨(k=k'/\(a<a'∨(a=a'/\u<=u')))
def pG (Pt:Addr):Sp:=λvs H Q _=>∃(q mem:Addr) (ss:LS) (es:List (Nat × Nat)) (ms:List Nat),vs=[.ref q,.ref mem]/\Rep H (.ref q) (vwD ss (es.map (nmP ss)))/\SqA H mem (List.map V.str (ms.map (nmA ss)))/\ss.Nodup/\(∀s∈ss,Nm s)/\ss.length<=60/\es.length<=100000/\gq ss es/\ms.Nodup/\(∀m∈ms,m<ss.length)/\TbK Pt H /\
 ((∀a u k,a∈ms->u∉ms->(a,u)∈es->¬ MG.Lf es ms u k)->∀H',SameK Pt H H'->TbK Pt H'->Q .non H') /\
 (∀a u k p l H',LeastW es ms a u k->MG.Gp es ms k u p->SameK Pt H H'->TbK Pt H'->H l=none->H' l=some (.lst (List.map V.str ((a::p).map (nmA ss))))->Q (.ref l) H')
theorem scWayB:FnScope ["web","members","left","leaving","starts","places","row"] ["web","members"] (aj cr):=⟨rfl,rfl,rfl,by decide +kernel,rfl,by decide +kernel,by decide +kernel⟩
theorem su {f c Pt:Addr}{fd:FuncData}(F:Fun K "way_between" "way_between" cr f fd) (hC:fd.code=.ref c) (i6:∀h:Heap, K.In h -> W.CodeHd h c Pt) (i3:base.BuiltinsAt mg Pt) (B:Blt mg)
    (a6:Cal P w K mg base 1 "steps_from" ["table","starts"] kM) (Z:Cal P w K mg base 3 "priors_of_all" ["web"] mR) (a7:Cal P w K mg base 1 "places_of" ["things"] jP) (a1:Cal P w K mg base 3 "first_nearer" ["web","thing","left"] mT):FnOk P w K mg base CX0 4 f fd ["web","members"] (pG Pt):=by
 refine F.okC hC scWayB (λvs H Q E h=>?_) (λA d9 s H vs Q E hr h=>?_)
 ·obtain⟨q,c2,G,es,J,rfl,_⟩:=h
  rfl
 ·obtain⟨q, c2, G, es, J, rfl, R, hm, a9, b4, sl, el, a3, j3, c0, tb, kn, kr⟩ := h;have nd:=scWayB.nd;have f0:=λy hy hf=>ir (n:=s.heap.objs.size+1) (hfW y hy hf);refine⟨_,(ae (ak (i:=2) nd rfl (Or.inr rfl) (au a6 (hr.mono (by decide)) rfl (aa (au Z (hr.mono (by decide)) rfl (aa (pv 0) ab)) (aa (pv 1) ab))))
   (ae (eH (i:=3) nd rfl rfl (by rfl) (aj cr) ["web","members","left","leaving","starts","places","row"] ["tie"] [1] ["tie","members"] rfl (bd K (ai (ap K hr.units) (pv 0) af (λ_ _=>rfl))) (λ_ _ _ _ _=>(az (i:=0) (show (["tie","members"]:LS).Nodup by decide) rfl (Or.inl rfl))) (λ_ _ _ _ _=>(bS (PW.pt (bR (ao (dw K hr.units) (ai (ap K hr.units) (pv 0) af (λ_ _=>rfl)) (pv 1) (by with_unfolding_all rfl)) (bw (ao (bU K hr.units) (ai (ap K hr.units) (pv 0) af (λ_ _=>rfl)) (pv 1) (by with_unfolding_all rfl))))))) (λ_ _ _ _ _=>(pv 0)))
   (ae (eH (i:=4) nd rfl rfl (by rfl) (aj cr) ["web","members","left","leaving","starts","places","row"] ["tie"] [2] ["tie","left"] rfl (bt K (pv 3)) (λ_ _ _ _ _=>(az (i:=0) (show (["tie","left"]:LS).Nodup by decide) rfl (Or.inl rfl))) (λ_ _ _ _ _=>(bS (ao (dw K hr.units) (ai (ap K hr.units) (pv 0) af (λ_ _=>rfl)) (pv 1) (by with_unfolding_all rfl)))) (λ_ _ _ _ _=>(pv 0)))
   (ae (aZ (ao (bn hr.units) (ba K B (aa (pv 4) ab)) af (aB _)) (ah (aC eM)) aK)
   (ae (ak (i:=5) nd rfl (Or.inr rfl) (au a7 (hr.mono (by decide)) rfl (aa (ai (ap K hr.units) (pv 0) af (λ_ _=>rfl)) ab)))
   (ae (ak (i:=6) nd rfl (Or.inl rfl) (gy K rfl B (aa (tE (k:=1) (sc:=nj kA) (N:=nW) (is:=[2,5]) rfl (hr.mono (by decide)) B.min f0 (λ_=>rfl) hnW (pv 4) (uS (qual:=qlW) rfl (lY f0).1 rfl rfl i6 i3)) ab)))
   (ae (du PassesOwn.never (ao (bU K hr.units) (ai (ap K hr.units) (pv 6) (fK eN af) (λ_ _=>rfl)) (pv 1) (by with_unfolding_all rfl)) (ah (be (bZ K (pv 6) (aa (au a1 (hr.mono (by decide)) rfl (aa (pv 0) (aa (ai (ap K hr.units) (pv 6) (fK eN af) (λ_ _=>rfl)) (aa (pv 2) ab)))) ab)))))
   (ah (aC (pv 6)))))))))),?_⟩
  obtain⟨q',a,b,f1,e0,hq,ha,hb,rp⟩:=iI R;cases e0;have d7:=rp.len;rw[wt,wt] at d7;have sz:200000<sizeLine:=by decide
  have h0:(es.map (nmP G)).length<=100000:=by rw[wt];exact el
  have f6:(J.map (nmA G)).Nodup:=List.pairwise_map.mpr (j3.imp_of_mem λha hb i4 e=>i4 (ga a9 b4 (c0 _ ha) e));have f4:∀m∈J.map (nmA G),m∈G:=λm hm=>by
   obtain⟨j,hj,rfl⟩:=ww.mp hm;exact dL (c0 _ hj)
  refine⟨_,rfl,q,G,es.map (nmP G),rfl,R,sl,h0,λd H1 s1 hd T1=>?_⟩;refine⟨_,rfl,d,c2,J.map (nmA G),G,_,rfl,hm.same s1,f6,T1,f4,sl,λt ht u hu=>(wV.mp hu).1,λdl L H2 s2 k3 f9 d6=>?_⟩;have a8:=qE a9 b4 a3 c0 d6;have b7:=s1.trans s2;refine⟨_,rfl,.tup (.of (b7 _ _ hq)) rfl ⟨_,rfl,⟨_,.of (b7 _ _ hb)⟩,?_⟩⟩
  let e6:Addr->Nat->LV->SH:=λD i c1 a4 H'=>∃o,a4=[o,some (.ref c2)]/\RepAll H c1 ((((es.take i).filter λe=>decide (e.1∈J)&&!decide (e.2∈J)).map (nmP G)).map aA)/\c1.length<=i/\Same H2 H'/\H2 D=none
  refine ck f1 e6 λD hD=>⟨?_,?_,?_,?_⟩
  ·exact⟨none,rfl,.nil,wr _,Same.new hD,hD⟩
  ·rintro i c1 a4 H' _ ⟨o,rfl,_,_,Y,_⟩ _;exact .of (Y _ _ (b7 _ _ hb))
  ·rintro i c1 a4 H' x hx ⟨o, rfl, X, al, Y, c8⟩ a5;obtain⟨e,ta,he,rfl,a2⟩:=bH rp hx;rw[wN] at he;obtain⟨n,hn,rfl⟩:∃n,es[i]? = some n/\nmP G n=e:=by
    cases z:es[i]? with
    | none=>rw[z] at he;cases he
    | some n=>rw[z] at he;exact⟨n,rfl,wA he⟩
   have g8:=(wv.mp hn).1;have I:(es.take (i+1)).filter (λe=>decide (e.1∈J)&&!decide (e.2∈J))=(es.take i).filter (λe=>decide (e.1∈J)&&!decide (e.2∈J))++(if n.1∈J/\n.2∉J then [n] else []):=by
    rw[wG,hn,xm];congr 1;show List.filter _ [n]=_;by_cases z:n.1∈J <;> by_cases z2:n.2∈J <;> simp[z,z2]
   have m1:(nmP G n).1∈J.map (nmA G) ↔ n.1∈J:=fU a9 b4 c0;have m2:(nmP G n).2∈J.map (nmA G) ↔ n.2∈J:=fU a9 b4 c0;have b2:=Y _ _ (b7 _ _ a2);have g0:=(hm.same b7).same Y;dsimp only[bp];refine⟨_,rfl,.tup (.of b2) rfl ⟨_,rfl,.seq (eY g0) rfl (bL _) ⟨_,rfl,?_⟩⟩⟩;rw[cX,if_neg (by decide)];refine aF (λh1=>?_) (λh1=>?_)
   ·have h1:n.1 ∈ J := m1.mp (wK h1);refine⟨_,rfl,.tup (.of b2) rfl ⟨_,rfl,.seq (eY g0) rfl (bL _) ⟨_,rfl,?_⟩⟩⟩;rw[cX,if_pos rfl];refine aF (λh2=>?_) (λh2=>?_)
    ·have h2:n.2∉J:=λz=>by
        rw[wF (m2.mpr z)] at h2;exact absurd h2 (by decide)
     rw[if_pos ⟨h1,h2⟩] at I;refine⟨_,rfl,a5,by omega,_,rfl,?_,?_,aQ Y c8,c8⟩
     ·rw[I,wy,wy];exact RepAll.append X (.cons (.tup a2 (.cons (.str _) (.cons (.str _) .nil))) .nil)
     ·rw[wB];exact yg al
    ·have h2:n.2∈J:=Classical.byContradiction λz=>h2 (by rw[wX (λw=>z (m2.mp w))];rfl);rw[if_neg (λz=>z.2 h2),xa] at I;exact⟨a5,_,rfl,by rw[I];exact X,by omega,Y,c8⟩
   ·have h1:n.1∉J:=λz=>h1 (wF (m1.mpr z));rw[if_neg (λz=>h1 z.1),xa] at I;refine cY ⟨a5,_,rfl,by rw[I];exact X,by omega,Y,c8⟩
  rintro c1 a4 H3 ⟨o,rfl,X,al,s3,c8⟩ a5;rw[d7,wI (wr _)] at X;have g7:∀e,e∈es.filter (λe=>decide (e.1∈J)&&!decide (e.2∈J)) ↔ e∈es/\e.1∈J/\e.2∉J:=λe=>by rw[wV,xj,decide_eq_true_iff,Bool.not_eq_true',decide_eq_false_iff_not]
  generalize es.filter (λe=>decide (e.1∈J)&&!decide (e.2∈J))=lv at X g7;have f2:=b7.trans s3;have c7:=X.len;rw[wt,wt] at c7;refine⟨_,rfl,D,rfl,⟨_,.of a5⟩,?_⟩;refine cU c1 (λD2 i S a4 H'=>∃o,a4=[o,some (.ref dl)]/\RepAll H S ((((lv.take i).filter λe=>(aG L (.inr (nmA G e.2))).isSome).map (nmP G)).map aA)/\S.length<=i/\Same H3 H'/\H3 D2=none) λD2 d0=>⟨?_,?_,?_,?_⟩
  ·exact⟨none,rfl,.nil,wr _,Same.new d0,d0⟩
  ·rintro i S a4 H' _ ⟨o,rfl,_,_,Y,_⟩ _;exact .of (Y _ _ a5)
  ·rintro i S a4 H' x hx ⟨o, rfl, M, f8, Y, b3⟩ a0;obtain⟨e,ta,he,rfl,a2⟩:=bH X hx;rw[wN] at he;obtain⟨n,hn,rfl⟩:∃n,lv[i]? = some n/\nmP G n=e:=by
    cases z:lv[i]? with
    | none=>rw[z] at he;cases he
    | some n=>rw[z] at he;exact⟨n,rfl,wA he⟩
   have g8:=(wv.mp hn).1;have I:(lv.take (i+1)).filter (λe=>(aG L (.inr (nmA G e.2))).isSome)=(lv.take i).filter (λe=>(aG L (.inr (nmA G e.2))).isSome)++(if (aG L (.inr (nmA G n.2))).isSome=true then [n] else []):=by
    rw[wG,hn,xm];congr 1;show List.filter _ [n]=_;rw[xv,xw]
   have b2:=Y _ _ (f2 _ _ a2);dsimp only[bp];refine⟨_,rfl,.tup (.of b2) rfl ⟨_,rfl,.dic (DGet.k (k:=.inr (nmA G n.2)) (Y _ _ (s3 _ _ f9))) ⟨_,rfl,?_⟩⟩⟩;refine aF (λh1=>?_) (λh1=>?_)
   ·have h1:(aG L (.inr (nmA G n.2))).isSome=true:=h1;rw[if_pos h1] at I;refine⟨_,rfl,a0,by omega,_,rfl,?_,?_,aQ Y b3,b3⟩
    ·rw[I,wy,wy];exact RepAll.append M (.cons (.tup a2 (.cons (.str _) (.cons (.str _) .nil))) .nil)
    ·rw[wB];exact yg f8
   ·have h1:¬ (aG L (.inr (nmA G n.2))).isSome=true:=h1;rw[if_neg h1,xa] at I;exact⟨a0,_,rfl,by rw[I];exact M,by omega,Y,b3⟩
  rintro S a4 H4 ⟨o,rfl,M,f8,s4,b3⟩ a0;rw[c7,wI (wr _)] at M;have b8:∀e,e∈lv.filter (λe=>(aG L (.inr (nmA G e.2))).isSome) ↔ e∈es/\e.1∈J/\e.2∉J/\∃k,MG.Lf es J e.2 k:=λe=>by
   rw[wV,g7]
   constructor
   ·rintro⟨⟨h1,h2,h3⟩,h4⟩;obtain⟨v,hv⟩:=xN.mp h4;obtain⟨k,_,lk⟩:=(a8 e.2 v (a3 _ h1).2).mp hv;exact⟨h1,h2,h3,k,lk⟩
   ·rintro⟨h1,h2,h3,k,lk⟩;exact⟨⟨h1,h2,h3⟩,by rw[(a8 e.2 _ (a3 _ h1).2).mpr ⟨k,rfl,lk⟩];rfl⟩
  generalize lv.filter (λe=>(aG L (.inr (nmA G e.2))).isSome)=st at M b8;have c9:=f2.trans s4;have c6:=M.len;rw[wt,wt] at c6;refine⟨_,rfl,_,_,rfl,Or.inl ⟨_,.of a0,rfl⟩,.sc rfl ⟨_,rfl,?_⟩⟩;refine aF (λh=>?_) (λh=>?_)
  ·have h:S.length=0:=by
      rw[if_neg (by decide)] at h;have:=V.int.inj (wK h);omega
   refine kn (λa u k ha hu he lk=>?_) H4 (SameK.of c9) (tb.same c9);have:=(b8 (a,u)).mpr ⟨he,ha,hu,k,lk⟩;rw[List.eq_nil_of_length_eq_zero (c6.symm.trans h)] at this;cases this
  have h:0<S.length:=Nat.pos_of_ne_zero λz=>h (by rw[if_neg (by decide),z];exact wF rfl);refine⟨_,rfl,.tup (.of (c9 _ _ hq)) rfl ⟨a,G,rfl,c9 _ _ ha,by omega,a9,λdp c3 H5 s5 k0 j8 pl=>?_⟩⟩;have e4:=c9.trans s5;have b6:=tb.same e4;obtain⟨ps,C1⟩:=b6;have b6:TbK Pt H5:=⟨ps,C1⟩
  refine⟨_,rfl,ps,C1,λHA g c' oc k6 i7 k1 e3 d1 f7 j1 i2 e1 j9 b0=>?_⟩;have b0:SameK Pt H5 HA:=b0;have g9:TbK Pt HA:=⟨i7,CTab.made j1 i2 e1 d1 f7⟩
  have d0:=SameK.at b0 b6 (s5 _ _ a0);have d5:=SameK.at b0 b6 (s5 _ _ (s4 _ _ (s3 _ _ f9)));have e9:=SameK.at b0 b6 j8;have e7:∀ {i:Nat} {x:V},S[i]? = some x->∃(n:Nat × Nat) (ta:Addr) (k:Nat),st[i]? = some n/\x=.ref ta/\HA ta=some (.tup [.str (nmA G n.1),.str (nmA G n.2)])/\n∈st/\MG.Lf es J n.2 k/\aG L (.inr (nmA G n.2))=some (.int (k:Int)):=λ{i x} hx=>by
   obtain⟨e,ta,he,rfl,a2⟩:=bH M hx;rw[wN] at he;obtain⟨n,hn,rfl⟩:∃n,st[i]? = some n/\nmP G n=e:=by
    cases z:st[i]? with
    | none=>rw[z] at he;cases he
    | some n=>rw[z] at he;exact⟨n,rfl,wA he⟩
   have b5:=wE hn;obtain⟨h1,_,_,k,lk⟩:=(b8 n).mp b5;exact⟨n,ta,k,hn,rfl,SameK.at b0 b6 (e4 _ _ a2),b5,lk,(a8 n.2 _ (a3 _ h1).2).mpr ⟨k,rfl,lk⟩⟩
  let kf:Nat->Int:=λu=>match aG L (.inr (nmA G u)) with | some (.int z)=>z | _=>0
  have e5:∀ {u:Nat} {z:Int},aG L (.inr (nmA G u))=some (.int z)->kf u=z:=λ{u z} e=>by
   show (match aG L (.inr (nmA G u)) with | some (.int z)=>z | _=>0)=z;rw[e]
  refine⟨D2,g,S,λi=>[kf (st.getD i (0,0)).2,((st.getD i (0,0)).1:Int),((st.getD i (0,0)).2:Int)],[.ref dl,.ref dp],
   λl v Hx Qx _=>Hx g=HA g/\Hx c'=HA c'/\KnC Hx l/\Hx dl=some (.dK L)/\Hx dp=some (.dK c3)/\∃(ta:Addr) (n:Nat × Nat) (kk:Nat),v=.ref ta/\Hx ta=some (.tup [.str (nmA G n.1),.str (nmA G n.2)])/\aG L (.inr (nmA G n.2))=some (.int (kk:Int))/\aG c3 (.inr (nmA G n.1))=some (.int (n.1:Int))/\aG c3 (.inr (nmA G n.2))=some (.int (n.2:Int))/\∀kt H',H' kt=some (.tup [.int (kk:Int),.int (n.1:Int),.int (n.2:Int)])->Same Hx H'->Qx (.ref kt) H',
   rfl,rfl,.of d0,h,rfl,vp rfl rfl,λl C=>?_,λl H C Y U i x hx=>?_,λi x H' Y hx f5=>?_⟩
  ·refine tX (x:="tie") lsW C f7 (by decide +kernel) (λu=>rfl) (λv H Q E h=>⟨h.1.trans e3,h.2.1.trans d1,h.2.2.1⟩) (λ_ _ _ _ _ _ _ z=>z.elim) (λA d9 s v Hx Qx Ex hr hx=>?_);obtain⟨h1,h2,h3,h4,h5,ta,n,kk,rfl,h6,h7,h8,h9,j7⟩:=hx;have d8:∀ {b:Addr} {u:HO},Hx b=some u->(∀o,u≠knO o)->lessC Hx l b=some u:=λ{b u} e z=>by rw[bj (h3.out e z)];exact e
   have g4:=d8 h4 (by intro o z;cases z);have g5:=d8 h5 (by intro o z;cases z);have g6:=d8 h6 (by intro o z;cases z);refine⟨_,aN (aa (ai (ap K hr.units) (pv 1) (ai (ap K hr.units) (pv 0) af (λ_ _=>rfl)) (λ_ _=>rfl)) (aa (ai (ap K hr.units) (pv 2) (ai (ap K hr.units) (pv 0) af (λ_ _=>rfl)) (λ_ _=>rfl)) (aa (ai (ap K hr.units) (pv 2) (ai (ap K hr.units) (pv 0) af (λ_ _=>rfl)) (λ_ _=>rfl)) ab))),?_⟩;refine⟨_,rfl,_,rfl,.tup (.of g6) rfl (.dic (.inl ⟨L,.inr (nmA G n.2),.inl g4,rfl,h7.symm⟩) ⟨_,rfl,_,rfl,.tup (.of g6) rfl (.dic (.inl ⟨c3,.inr (nmA G n.1),.inl g5,rfl,h8.symm⟩) ⟨_,rfl,_,rfl,.tup (.of g6) rfl (.dic (.inl ⟨c3,.inr (nmA G n.2),.inl g5,rfl,h9.symm⟩) (aS ⟨by show 3<=sizeLine;decide,λkt i5 U=>?_⟩))⟩)⟩)⟩;exact j7 kt _ (fe U ac) (qG h3 (Same.new i5))
  ·obtain⟨n,ta,k,hn,rfl,a2,b5,lk,hv⟩:=e7 hx;have c4:=((b8 n).mp b5).1;refine⟨(fe U (Y _ _ e3)).trans e3.symm,(fe U (Y _ _ d1)).trans d1.symm,sE,fe U (Y _ _ d5),fe U (Y _ _ e9),ta,n,k,rfl,fe U (Y _ _ a2),hv,pl _ (a3 _ c4).1,pl _ (a3 _ c4).2,λkt H' e s=>⟨kt,rfl,?_,s⟩⟩;have en:st.getD i (0,0)=n:=by rw[w6,hn];rfl
   show H' kt=some (.tup [.int (kf (st.getD i (0,0)).2),.int ((st.getD i (0,0)).1:Int),.int ((st.getD i (0,0)).2:Int)]);rw[en,e5 hv];exact e
  ·obtain⟨n, ta, k, hn, rfl, a2, b5, lk, hv⟩ := e7 hx;obtain⟨c4,j6,j4,_⟩:=(b8 n).mp b5;have en:st.getD i (0,0)=n:=by rw[w6,hn];rfl
   have d3:SameK Pt H H':=((SameK.of e4).trans b0).trans (SameK.of Y);have f3:=g9.same Y;have LW:LeastW es J n.1 n.2 k:=⟨j6,j4,c4,lk,λa' u' k' j2 j0 g1 g3=>by
    obtain⟨j,hj,ej⟩:=List.mem_iff_getElem.mp ((b8 (a',u')).mpr ⟨g1,j2,j0,k',g3⟩);have b1:=(f5 j (by omega)).1;have i1:st.getD j (0,0)=(a',u'):=by rw[w6,wP hj,ej];rfl
    have i9:aG L (.inr (nmA G u'))=some (.int (k':Int)):=(a8 u' _ (a3 _ g1).2).mpr ⟨k',rfl,g3⟩;have b1:HT.lexLt [kf (st.getD j (0,0)).2,((st.getD j (0,0)).1:Int),((st.getD j (0,0)).2:Int)] [kf (st.getD i (0,0)).2,((st.getD i (0,0)).1:Int),((st.getD i (0,0)).2:Int)]=false:=b1;rw[en,i1,e5 hv,e5 i9] at b1;have:=lex3 b1;omega⟩
   have k5:k<G.length:=by
    obtain⟨k2,e2,d2⟩:=(d6 (nmA G n.2) _).mp hv;have:k=k2:=by have:=V.int.inj e2;omega
    subst this;exact MG.DstS.lt (λn y r=>MG.DstS.closed (T:=λy=>y∈G) f4 (λa b ha r=>(wV.mp r.2).1) r) d2
   refine⟨_,rfl,.seq (.inr (.of (Y _ _ a2))) λl hl=>?_⟩;have i8:=SameK.free d3 tb f3 hl;refine⟨λm σ HH=>∃(O:List Nat) (v:Nat),σ=[some (.ref q),some (.ref c2),some (.ref dl),some (.ref D),some (.ref D2),some (.ref dp),some (.ref l)]/\Same H' HH/\HH l=some (.lst (List.map V.str (((n.1::O)++[v]).map (nmA G))))/\v<G.length/\MG.Lf es J v m/\O.length+m=k/\∀p',MG.Gp es J m v p'->MG.Gp es J k n.2 (O++p'),⟨k,[],n.2,rfl,Same.new hl,ac,(a3 _ c4).2,lk,by simp,λp' g=>g⟩,?_⟩;rintro m σ HH ⟨O,v,rfl,b9,c5,j5,d4,k4,g2⟩;have i0:=(sqK hm d3 tb).same b9;refine⟨_,rfl,_,rfl,.lst (.of c5) (ip G (n.1::O) v) ⟨_,rfl,.seq (eY i0) rfl (bL _) ⟨_,rfl,?_⟩⟩⟩;rw[cX,if_pos rfl];have mv:nmA G v∈J.map (nmA G) ↔ v∈J:=fU a9 b4 c0;refine aF (λh2=>?_) (λh2=>?_)
   ·have h2:v∉J:=λz=>by
       rw[wF (mv.mpr z)] at h2;exact absurd h2 (by decide)
    obtain⟨j,rfl⟩:∃j,m=j+1:=by
     cases m with
     | zero=>exact absurd d4.1 h2
     | succ j=>exact⟨j,rfl⟩
    refine⟨λσ HH=>∃(O:List Nat) (v:Nat),σ=[some (.ref q),some (.ref c2),some (.ref dl),some (.ref D),some (.ref D2),some (.ref dp),some (.ref l)]/\Same H' HH/\HH l=some (.lst (List.map V.str (((n.1::O)++[v]).map (nmA G))))/\v<G.length/\MG.Lf es J v j/\O.length+j=k/\∀p',MG.Gp es J j v p'->MG.Gp es J k n.2 (O++p'),λa4 H' p=>⟨j,by omega,p⟩,?_⟩;refine⟨_,rfl,.inl ⟨rfl,_,.of c5⟩,?_⟩;refine⟨_,rfl,_,rfl,_,rfl,.lst (.of c5) (ip G (n.1::O) v) ⟨_,rfl,q,G,es,J,dl,L,j,v,rfl,(uN R d3 tb).same b9,a9,b4,sl,el,a3,b9 _ _ (Y _ _ d5),a8,j5,d4,λb H8 hb lb nv s8=>?_⟩⟩;have e8:=s8 _ _ c5;refine⟨l,_,_,rfl,rfl,e8,?_,O++[v],b,rfl,aQ (b9.trans s8) hl,?_,(a3 _ hb).2,lb,?_,λp' g=>?_⟩
    ·simp only[wt,wB,wC,xk];exact aw (by omega)
    ·rw[ac,<- List.cons_append,wy (l₁:=n.1::O++[v]),wy (l₁:=(n.1::O++[v]).map (nmA G))];rfl
    ·rw[wB];simp only[wC,xk];omega
    ·rw[xz];exact g2 _ (.step d4 hb lb nv g)
   ·have h2:v∈J:=Classical.byContradiction λz=>h2 (by rw[wX (λw=>z (mv.mp w))];rfl);have m0:m=0:=Nat.eq_zero_of_not_pos λz=>d4.2 0 z h2;subst m0;exact⟨_,rfl,kr n.1 n.2 k (O++[v]) l HH LW (g2 _ (.stop h2)) (d3.trans (SameK.of b9)) (f3.same b9) i8 c5⟩
theorem vU (h:SqA H a xs) (e:atI xs i=some x) (q:Q x H):IxX K H (.ref a) (.int i) Q:=by
 rcases h with h | h
 ·exact .lst (.of h) e q
 ·exact .tup (.of h) e q
def GrpO (es:List (Nat × Nat)) (ms:List Nat):Option (List Nat)->Prop
 | none=>∀a u k,a∈ms->u∉ms->(a,u)∈es->¬ MG.Lf es ms u k
 | some r=>∃a u k p,LeastW es ms a u k/\MG.Gp es ms k u p/\r=a::p
theorem GrpO.uniq (h:GrpO es q o) (g:GrpO es q o'):o=o' := by
 cases o with
 | none =>
  cases o' with
  | none=>rfl
  | some r =>
   obtain⟨a,u,k,p,L,_,_⟩:=g;exact absurd L.lf (h a u k L.am L.um L.e)
 | some r =>
  obtain⟨a,u,k,p,L,j,rfl⟩:=h;cases o' with
  | none=>exact absurd L.lf (g a u k L.am L.um L.e)
  | some r' =>
   obtain⟨d,e,c,t,b,m,rfl⟩:=g;have n:=L.le d e c b.am b.um b.e b.lf;have s:=b.le a u k L.am L.um L.e L.lf;have l:c=k:=by omega
   have i:d=a:=by omega
   have f:e=u:=by omega
   subst l i f;rw[tM j m]
theorem iu (h:∀x,x∈ss ↔ x∈ss'):∀ {k v:Nat},MG.Lw es ss k v ↔ MG.Lw es ss' k v
 | 0,v=>h v
 | k+1,v=>exists_congr λu=>and_congr_right λ_=>iu h
theorem dZ (h:∀x,x∈ss ↔ x∈q):MG.Lf es ss v k ↔ MG.Lf es q v k :=
 and_congr (iu h) (forall_congr' λ_=>forall_congr' λ_=>not_congr (iu h))
theorem qR (h:∀x,x∈ss ↔ x∈z) (g:MG.Gp es ss k v p):MG.Gp es z k v p:=by
 induction g with
 | stop q=>exact .stop ((h _).mp q)
 | step l e l' le _ ih=>exact .step ((dZ h).mp l) e ((dZ h).mp l') (λx j c a b=>le x j c ((dZ h).mpr a) b) ih
theorem GrpO.congr (h:∀x,x∈ss ↔ x∈q) (g:GrpO es ss o):GrpO es q o:=by
 cases o with
 | none=>exact λa u k c b e l=>g a u k ((h a).mpr c) (λz=>b ((h u).mp z)) e ((dZ h).mpr l)
 | some r =>
  obtain⟨a,u,k,p,L,j,e⟩:=g;exact⟨a,u,k,p,⟨(h a).mp L.am,λz=>L.um ((h u).mpr z),L.e,(dZ h).mp L.lf,λd f i c b e l=>L.le d f i ((h d).mpr c) (λz=>b ((h f).mp z)) e ((dZ h).mpr l)⟩,qR h j,e⟩
theorem wa (b:∀e∈es,e.1<n/\e.2<n) (g:MG.Gp es ss k v p):v<n->p.length=k+1/\∀x∈p,x<n:=by
 induction g with
 | stop _=>intro h;exact⟨rfl,λx a=>by rw[wO.mp a];exact h⟩
 | step _ e _ _ _ ih =>
  intro h;obtain⟨c,d⟩:=ih (b _ e).2;refine⟨by rw[wC,c],λx a=>?_⟩;rcases wH.mp a with rfl | a
  ·exact h
  ·exact d x a
theorem vy (g:c.Nodup) (nm:∀s∈c,Nm s) (e:gq c es) (f:∀s∈ss,s<c.length) (l:i<c.length) (h:MG.Lf es ss i k):k<c.length:=by
 have d:MG.DstS (Ner c λs=>c.filter (nbP true (es.map (nmP c)) s)) (·∈ss.map (nmA c)) k (nmA c i):=⟨(dM g nm e f l).mpr h.1,λm q w=>h.2 m q ((dM g nm e f l).mp w)⟩
 exact MG.DstS.lt (λn y r=>MG.DstS.closed (T:=λy=>y∈c) (λy o=>by
  obtain⟨j,p,rfl⟩:=ww.mp o;exact dL (f _ p)) (λa b t r=>(wV.mp r.2).1) r) d
theorem gY (h:c.Nodup) (nm:∀s∈c,Nm s) (b:gq c es) (e:∀s∈ss,s<c.length) (g:GrpO es ss (some r)):r.length<=c.length+1/\(∀x∈r,x<c.length)/\2<=r.length:=by
 obtain⟨a,u,k,p,L,i,rfl⟩:=g;have f:=(b _ L.e).2;obtain⟨l,j⟩:=wa b i f;have:=vy h nm b e f L.lf;refine⟨by rw[wC];omega,λx d=>?_,by rw[wC];omega⟩;rcases wH.mp d with rfl | d
 ·exact e _ L.am
 ·exact j x d
def fu (ks:Kn) (ts wn:Prs) (knot:Str) (row:LS):List PyData:=(row.zip (row.drop 1)).map λe=>t3D (dI ks ts wn (knot,e.1,e.2))
def GrV (H:Hp) (z:V) (ks:Kn) (ts wn:Prs) (kk:Str × LS):Option (List Nat)->Prop
 | none=>z=.non
 | some r=>∃l refs,z=.ref l/\H l=some (.lst refs)/\RepAll H refs (fu ks ts wn kk.1 (r.map (nmA kk.2)))
theorem GrV.same (h:GrV H z ks ts wn q o) (s:Same H H'):GrV H' z ks ts wn q o:=by
 cases o with
 | none=>exact h
 | some r =>
  obtain⟨l,a,b,d,c⟩:=h;exact⟨l,a,b,s _ _ d,c.same s⟩
theorem WnX.filter (W:WnX ks wn) (f:Str × Str->Bool):WnX ks (wn.filter f):=⟨W.nd.filter _,λe a=>W.at_ e (wV.mp a).1⟩
def bz (wn:Prs) (mn:LS):Prs:=wn.filter λe=>!decide (e.2∈mn)
def mw (Pt:Addr):Sp:=λvs H Q _=>∃(q mem:Addr) (us:LS) (ks:Kn) (ts ws wn:Prs) (kk:Str × LS) (mn:LS),vs=[.ref q,.ref mem]/\Rep H (.ref q) (aX ks ts ws wn)/\Tre us ks/\cV us ks ts/\WnX ks wn/\ts.length<=200/\wn.length<=122/\kk∈ks/\SqA H mem (List.map V.str mn)/\mn≠[]/\mn.Nodup/\(∀m∈mn,m∈kk.2)/\TbK Pt H /\
 ∀o z H',SameK Pt H H'->TbK Pt H'->(∀l,z=.ref l->H l=none)->GrpO (fN kk.2 (cc ks ts (bz wn mn) kk.1 kk.2)) (mn.map kk.2.idxOf) o->GrV H' z ks ts (bz wn mn) kk o->Q z H'
theorem scRingG:FnScope ["house","members","knot","rest","row"] ["house","members"] (aj fy):=⟨rfl,rfl,rfl,by decide +kernel,rfl,by decide +kernel,by decide +kernel⟩
theorem q5 (F:Fun K "ring_of_group" "ring_of_group" fy f fd) (B:Blt mg) (t:Cal P w K mg base 2 "knot_of" ["house", "one"] lF) (c:Cal P w K mg base 1 "without_wants_of" ["house", "members"] jG) (I:Cal P w K mg base 4 "view" ["house", "knot"] oH) (r:Cal P w K mg base 4 "way_between" ["web", "members"] (pG Pt)) (n:Cal P w K mg base 4 "steps_along" ["house", "knot", "row"] spSteps):FnOk P w K mg base CX0 5 f fd ["house", "members"] (mw Pt) := by
 refine F.ok scRingG (λvs H Q E h=>?_) (λb3 A a9 s H vs Q E hr h=>?_)
 ·obtain⟨q,M,us,ks,ts,Z,wn,d,o,rfl,_⟩:=h
  rfl
 ·obtain⟨q, M, us, ks, ts, Z, wn, d, o, rfl, R, T, O, WX, tl, wl, v, D, a5, a6, mk, tb, k⟩ := h;have nd:=scRingG.nd;have X:∀u∈d.2,u∈us:=λu hu=>T.isIn v hu;have S:=cg T v;have G:d.2.length<=60:=by
   have:=dg S X;have:=T.len;omega
  have N:WnX ks (bz wn o):=WnX.filter WX _;obtain⟨m0,mr,rfl⟩:∃m0 mr,o=m0::mr:=by
   cases o with
   | nil=>exact absurd rfl a5
   | cons a b=>exact⟨a,b,rfl⟩
  have a0:=mk m0 (by simp);refine⟨_,(ae (ak (i:=2) nd rfl (Or.inl rfl) (au t (hr.mono (by decide)) rfl (aa (pv 0) (aa (ai (ap K hr.units) (pv 1) af (λ_ _=>rfl)) ab))))
   (ae (ak (i:=3) nd rfl (Or.inl rfl) (au c (hr.mono (by decide)) rfl (aa (pv 0) (aa (pv 1) ab))))
   (ae (ak (i:=4) nd rfl (Or.inl rfl) (au r (hr.mono (by decide)) rfl (aa (au I (hr.mono (by decide)) rfl (aa (pv 3) (aa (pv 2) ab))) (aa (pv 1) ab))))
   (ae (aZ (ao vc (pv 4) eM (aB _)) (ah (aC eM)) aK)
   (ah (aC (au n (hr.mono (by decide)) rfl (aa (pv 3) (aa (pv 2) (aa (pv 4) ab)))))))))),?_⟩
  refine⟨_,rfl,_,rfl,vU D (x:=.str m0) (cF (j:=0) rfl) (aS ⟨q,us,ks,ts,Z,wn,m0,rfl,R,T,X _ a0,λH1 s1=>?_⟩)⟩;rw[T.par v a0];generalize m0::mr=o at D a5 a6 mk k N;refine⟨_,rfl,_,rfl,q,M,ks,ts,Z,wn,o,rfl,R.same s1,D.same s1,by omega,λx H2 s2 r2=>?_⟩;have r2:Rep H2 (.ref x) (aX ks ts Z (bz wn o)):=r2;refine⟨_,rfl,_,rfl,x,us,ks,ts,Z,bz wn o,d,rfl,r2,T,O,N,v,tl,λy H3 s3 ry=>?_⟩;have ve:=fH (wn:=bz wn o) T O v;have ry:Rep H3 y (vwD d.2 (cc ks ts (bz wn o) d.1 d.2)):=ry;obtain⟨vw,_,_,_,rfl,_⟩:=iI ry;have vl:=oV (ks:=ks) (ts:=ts) (wn:=bz wn o) (knot:=d.1) G tl;rw[<- oE ve] at ry;have U:=gg ve;have a4:(fN d.2 (cc ks ts (bz wn o) d.1 d.2)).length<=100000:=by unfold fN;rw[wt];omega
  generalize fN d.2 (cc ks ts (bz wn o) d.1 d.2)=es at ry U k a4;have z:=(s1.trans s2).trans s3;have W:=tb.same z;have Y:(o.map d.2.idxOf).map (nmA d.2)=o:=by
   rw[List.map_map]
   conv=>rhs;rw[<- List.map_id o]
   exact List.map_congr_left λm D=>dC (mk m D)
  have a2:(o.map d.2.idxOf).Nodup:=List.pairwise_map.mpr (a6.imp_of_mem λ{x y} ha hb a8 e=>a8 (by
   have h:=congrArg (nmA d.2) e;have h1:nmA d.2 (d.2.idxOf x)=x:=dC (mk x ha);have h2:nmA d.2 (d.2.idxOf y)=y:=dC (mk y hb);rw[h1,h2] at h;exact h))
  have a3:∀m∈o.map d.2.idxOf,m<d.2.length:=λm D=>by
   obtain⟨x,hx,rfl⟩:=ww.mp D;exact xG (mk x hx)
  have J:∀s∈d.2,Nm s:=λs hs=>T.nm _ (X s hs);refine⟨_,rfl,vw,M,d.2,es,o.map d.2.idxOf,rfl,ry,by rw[Y];exact D.same z,S,J,G,a4,U,a2,a3,W,λb0 H4 s4 C=>?_,λa u kn p l H4 L g s4 C b2 hl=>?_⟩
  ·refine⟨_,rfl,.non ⟨_,rfl,?_⟩⟩;refine aF (λ_=>?_) (λh=>(h (wF (rfl:V.non=V.non))).elim);exact k none .non H4 ((SameK.of z).trans s4) C (λl e=>by cases e) b0 rfl
  ·have go:GrpO es (o.map d.2.idxOf) (some (a :: p)) := ⟨a, u, kn, p, L, g, rfl⟩
   obtain⟨rl,a7,_⟩:=gY S J U a3 go;refine⟨_,rfl,.non ⟨_,rfl,?_⟩⟩;refine aF (λh=>?_) (λ_=>?_)
   ·have h:V.ref l=V.non:=wK h;cases h
   ·refine⟨_, rfl, _, rfl, _, rfl, x, l, us, ks, ts, Z, bz wn o, d.1, (a :: p).map (nmA d.2), rfl, uN (r2.same s3) s4 W, T, WnX.ok T N, O, tl, mL T v, hl, λu hu => ?_, by rw[wt]; omega, λx5 a1 H5 s5 b1 hx rp => ?_⟩
    ·obtain⟨i,hi,rfl⟩:=ww.mp hu;exact J _ (dL (a7 i hi))
    ·exact k (some (a::p)) (.ref x5) H5 (((SameK.of z).trans s4).trans (SameK.of s5)) (C.same s5) (λl e=>by
        cases e;exact bu z (SameK.free s4 W C b1)) go ⟨x5,a1,rfl,hx,rp⟩
theorem sw {es:List (Nat × Nat)}{s n P t L:Nat}{me par:Nat->Nat}{rw:Nat->List Nat}(b:MG.Bf es s n P t L me par rw) {i:Nat}(a:i<L):∃us,rw i=us++[me i]:=by
 rcases yf i with z | z
 ·rw[z,b.rw0,b.at0];exact⟨[],rfl⟩
 ·exact⟨_,b.row i z a⟩
theorem jv {c:LS}(a:c.Nodup) {i:Nat}(b:i<c.length):c.idxOf (nmA c i)=i:=mY a (by unfold nmA;rw[w6,wP b];rfl)
theorem sn {c:LS}(a:c.Nodup) {i j:Nat}(d:i<c.length) (b:j<c.length) (e:nmA c i=nmA c j):i=j:=by rw[<- jv a d,e,jv a b]
structure RwG (H0 H:Hp) (lr lm:Addr) (c:LS) (L:Nat) (me:Nat->Nat) (rw:Nat->List Nat) (refs:LV) (mt:LS):Prop where
 hr:H lr=some (.lst refs)
 rl:refs.length+1=L
 at_:∀i,i+1<L->∃a,refs[i]? = some (.ref a)/\H a=some (.lst (List.map V.str (((rw (i+1)).drop 1).map (nmA c))))/\a≠lm/\a≠lr
 hm:H lm=some (.lst (List.map V.str mt))
 ml:mt.length<=60+L
 mm:∀j,j<c.length->(nmA c j∈mt ↔ ∃i,0<i/\i<L/\me i=j)
 s:Same H0 H
 fr:H0 lr=none
 fm:H0 lm=none
 ne:lr≠lm
theorem RwG.same {c:LS}{L:Nat}{me:Nat->Nat}{rw:Nat->List Nat}{q:LV}{mt:LS}(h:RwG H0 H B z c L me rw q mt) (s:Same H H'):RwG H0 H' B z c L me rw q mt :=
 ⟨s _ _ h.hr,h.rl,λi d=>let ⟨a,b,f,e⟩:=h.at_ i d;⟨a,b,s _ _ f,e⟩,s _ _ h.hm,h.ml,h.mm,h.s.trans s,h.fr,h.fm,h.ne⟩
theorem RwG.add {c:LS}{L t:Nat}{me:Nat -> Nat}{rw:Nat -> List Nat}{B:LV}{mt:LS}{row:List Nat}(h:RwG H0 H I G c L me rw B mt) (A:c.Nodup) (x:t<c.length) (C:0<L)
    (s:Same (upd H G (.lst (List.map V.str mt++[V.str (nmA c t)]))) H1) (k:H a=none) (y:H1 a=some (.lst (List.map V.str ((row.drop 1).map (nmA c))))) :
    RwG H0 (upd H1 I (.lst (B++[V.ref a]))) I G c (L+1) (λi=>if i=L then t else me i) (λi=>if i=L then row else rw i) (B++[V.ref a]) (mt++[nmA c t]):=by
 have p:a≠G:=λz=>by rw[z,h.hm] at k;cases k
 have g:a≠I:=λz=>by rw[z,h.hr] at k;cases k
 have E:=h.rl;refine⟨ac,by rw[wB,<- h.rl];rfl,λi D=>?_,?_,by rw[wB];have:=h.ml;simp only[wC,xk];omega,λj w=>?_,?_,h.fr,h.fm,h.ne⟩
 ·by_cases q:i+1=L
  ·refine⟨a,?_,?_,p,g⟩
   ·rw[xX (by omega),show i-B.length=0 by omega];rfl
   ·rw[ag g,if_pos q];exact y
  ·obtain⟨b,l,d,v,u⟩:=h.at_ i (by omega);refine⟨b,?_,?_,v,u⟩
   ·rw[xY (by omega)];exact l
   ·rw[ag u,if_neg q];exact s _ _ (by rw[ag v];exact d)
 ·rw[ag (Ne.symm h.ne),s _ _ ac,wy];rfl
 ·rw[wR, h.mm j w, wO]
  constructor
  ·rintro (⟨i,m,l,d⟩ | e)
   ·exact⟨i,m,by omega,by rw[if_neg (by omega)];exact d⟩
   ·exact⟨L,C,by omega,by rw[if_pos rfl];exact(sn A w x e).symm⟩
  ·rintro⟨i,m,l,d⟩;by_cases q:i=L
   ·rw[if_pos q] at d;exact .inr (by rw[d])
   ·rw[if_neg q] at d;exact .inl ⟨i,m,by omega,d⟩
 ·intro b o f;have r:b≠G:=λz=>by rw[z,h.fm] at f;cases f
  have n:b≠I:=λz=>by rw[z,h.fr] at f;cases f
  rw[ag n];exact s _ _ (by rw[ag r];exact h.s _ _ f)
theorem mH {es:List (Nat × Nat)}{s n P t L:Nat}{me par:Nat->Nat}{rw:Nat->List Nat}(b:MG.Bf es s n P t L me par rw) {i:Nat}(c:0<i) (a:i<L):∃us,(rw i).drop 1=us++[me i]/\2<=(rw i).length:=by
 obtain⟨f,e⟩:=sw b (show par i<L from Nat.lt_trans (b.low i c a) a);have d:1<=(rw (par i)).length:=by rw[e,wB];simp only[wC,xk];omega
 refine⟨(rw (par i)).drop 1,?_,?_⟩
 ·rw[b.row i c a,ym d]
 ·rw[b.row i c a,wB];simp only[wC,xk];omega
theorem t8 {es:List (Nat × Nat)}{s n P t L:Nat}{me par:Nat -> Nat}{rw:Nat -> List Nat}(b:MG.Bf es s n P t L me par rw):∀i, i<L -> (rw i).length <= i+1 := by
 intro i
 induction i using Nat.strongRecOn with
 | ind i ih =>
  intro a;rcases yf i with z | z
  ·rw[z,b.rw0];exact wr _
  ·have c:=b.low i z a;have:=ih (par i) c (by omega);rw[b.row i z a,wB];simp only[wC,xk];omega
theorem pY {es:List (Nat × Nat)}{ss:List Nat}{n P t L:Nat}{me par:Nat -> Nat}{rw:Nat -> List Nat}(b:MG.Bf (MG.esx es ss n) n (n+1) P t L me par rw) (f:∀e ∈ es, e.1<n /\ e.2<n) {i:Nat}(a:0<i) (c:i<L):(me i ∈ ss -> (rw i).length=2) /\ (me i ∉ ss -> 3 <= (rw i).length) := by
 have g:=b.arr i a c;have k:=b.low i a c
 constructor
 ·intro d;have j:par i=0:=by
   rcases MG.mem_esx.mp g with⟨z,_⟩ | ⟨_,z⟩
   ·exact b.inj (par i) 0 (by omega) b.pos (z.trans b.at0.symm)
   ·exact absurd d z
  rw[b.row i a c,j,b.rw0];rfl
 ·intro d;have j:par i≠0:=λz=>by
   rw[z,b.at0] at g;rcases MG.mem_esx.mp g with⟨_,h⟩ | ⟨h,_⟩
   ·exact d h
   ·have:=(f _ h).1;simp only at this;omega
  obtain⟨_,_,l⟩:=mH b (Nat.pos_of_ne_zero j) (show par i<L by omega);rw[b.row i a c,wB];simp only[wC,xk];omega
theorem sO (c:∀e∈es,e.1<n/\e.2<n) (f:∀s∈ss,s<n):∀e∈MG.esx es ss n,e.1<n+1/\e.2<n+1:=λe h=>by
 obtain⟨a,b⟩:=e;rcases MG.mem_esx.mp h with⟨d,g⟩ | ⟨d,_⟩
 ·have:=f b g;exact⟨by simp only;omega,by simp only;omega⟩
 ·have:=c _ d;exact⟨by have:=this.1;simp only at this ⊢;omega,by have:=this.2;simp only at this ⊢;omega⟩
def pw:Sp:=λvs H Q _=>∃(q mem:Addr) (us:LS) (ks:Kn) (ts ws wn:Prs) (kk:Str × LS) (mn:LS),vs=[.ref q,.str kk.1,.ref mem]/\Rep H (.ref q) (aX ks ts ws wn)/\Tre us ks/\cV us ks ts/\WnX ks wn/\ts.length<=200/\wn.length<=122/\kk∈ks/\SqA H mem (List.map V.str mn)/\mn≠[]/\mn.Nodup/\(∀m∈mn,m∈kk.2) /\
 ∀o z H',Same H H'->GrpO (fN kk.2 (cc ks ts (bz wn mn) kk.1 kk.2)) (mn.map kk.2.idxOf) o->GrV H' z ks ts (bz wn mn) kk o->Q z H'
theorem scDueG:FnScope ["_law_house_here","_law_knot","_law_members_here","_law_bare","_law_edges_here","_law_kids","_law_rows","_law_met","_law_at","_law_row","_law_kid","_law_way_there"] ["_law_house_here","_law_knot","_law_members_here"] (aj ji):=⟨rfl,rfl,rfl,by decide +kernel,rfl,by decide +kernel,by decide +kernel⟩
theorem tu (F:Fun K "_law_due" "_law_due" ji f fd) (B:Blt mg) (Zz:mg "zip"=none) (a7:Cal P w K mg base 3 "_law_edges" ["_law_house_here", "_law_knot"] gP) (b3:Cal P w K mg base 3 "_law_step" ["_law_house_here", "_law_knot", "_law_here", "_law_there"] mN):FnOk P w K mg base CX0 4 f fd ["_law_house_here", "_law_knot", "_law_members_here"] pw := by
 refine F.ok scDueG (λvs H Q E h=>?_) (λp8 A m6 s H vs Q E hr h=>?_)
 ·obtain⟨q,b5,us,ks,ts,ws,wn,c,I,rfl,_⟩:=h
  rfl
 ·obtain⟨q, b5, us, ks, ts, ws, wn, c, I, rfl, R, T, g6, WX, tl, wl, c0, hm, q0, n8, mk, k⟩ := h;have nd:=scDueG.nd;have d3:∀u∈c.2,u∈us:=λu hu=>T.isIn c0 hu;have d1:=cg T c0;have o8:c.2.length<=60:=by
   have:=dg d1 d3;have:=T.len;omega
  have j1:WnX ks (bz wn I):=WnX.filter WX _;refine⟨_,(ae (ak (i:=3) nd rfl (Or.inr rfl) (aD rm (cN tx (pv 0) dN (cv af)) (aN (aa (cQ K B (aa (cI (aj ji) ["_law_house_here","_law_knot","_law_members_here","_law_bare","_law_edges_here","_law_kids","_law_rows","_law_met","_law_at","_law_row","_law_kid","_law_way_there"] [2] "_law_want" ["_law_members_here"] (bd K (ai (ap K hr.units) (pv 0) af (λ_ _=>rfl))) (bS (ao (bU K hr.units) (ai (ap K hr.units) (pv 0) af (λ_ _=>rfl)) (pv 1) (by with_unfolding_all rfl))) (pv 0)) ab)) ab))))
   (ae (ak (i:=4) nd rfl (Or.inl rfl) (au a7 (hr.mono (by decide)) rfl (aa (pv 3) (aa (pv 1) ab))))
   (ae (ak (i:=5) nd rfl (Or.inl rfl) (ai (ap K hr.units) (fY K rfl hr.units B (aa (ai (ap K hr.units) (pv 0) af (λ_ _=>rfl)) ab)) (pv 1) (λ_ _=>rfl)))
   (ae (eH (i:=6) nd rfl rfl (by rfl) (aj ji) ["_law_house_here","_law_knot","_law_members_here","_law_bare","_law_edges_here","_law_kids","_law_rows","_law_met","_law_at","_law_row","_law_kid","_law_way_there"] ["_law_kid"] [2] ["_law_kid","_law_members_here"] rfl (bd K (pv 5)) (λ_ _ _ _ _=>(az (i:=0) (show (["_law_kid","_law_members_here"]:LS).Nodup by decide) rfl (Or.inl rfl))) (λ_ _ _ _ _=>(bS (ao (dw K hr.units) (pv 0) (pv 1) (by with_unfolding_all rfl)))) (λ_ _ _ _ _=>(bh (aa (pv 0) ab))))
   (ae (ak (i:=7) nd rfl (Or.inl rfl) (gy K rfl B (aa (pv 2) ab)))
   (ae (ak (i:=8) nd rfl (Or.inl rfl) af)
   (ae (du PassesOwn.never (ao dt (pv 8) (ba K B (aa (pv 6) ab)) (aB _)) (ae (ak (i:=9) nd rfl (Or.inl rfl) (ai (ap K hr.units) (pv 6) (pv 8) (λ_ _=>rfl)))
   (ae (ak (i:=8) nd rfl (Or.inl rfl) (aD aL (pv 8) af))
   (ah (aV PassesOwn.never rfl (bd K (pv 5)) (az (i:=10) nd rfl (Or.inl rfl)) (ae (aZ (PW.pt (bR (ao (dw K hr.units) (aN (aa (ai (ap K hr.units) (pv 9) (fK eN af) (λ_ _=>rfl)) (aa (pv 10) ab))) (pv 4) (by with_unfolding_all rfl)) (bR (ao (dw K hr.units) (pv 10) (pv 2) (by with_unfolding_all rfl)) (bw (ao eU (ba K B (aa (pv 9) ab)) af (aB _)))))) (ae (ak (i:=11) nd rfl (Or.inl rfl) (aD aL (pv 9) (bh (aa (pv 10) ab))))
   (ah (aC (gT (aj ji) ["_law_house_here","_law_knot","_law_members_here","_law_bare","_law_edges_here","_law_kids","_law_rows","_law_met","_law_at","_law_row","_law_kid","_law_way_there"] ["_law_one","_law_other"] [3,1] ["_law_one","_law_other","_law_bare","_law_knot"] rfl (si K rfl Zz (aa (pv 11) (aa (cN (ic K) (pv 11) (cv af) dN) ab))) (λ_ _ _ _ _=>(cj (n:=2) K rfl (aO (az (i:=0) (show (["_law_one","_law_other","_law_bare","_law_knot"]:LS).Nodup by decide) rfl (Or.inl rfl)) (aO (az (i:=1) (show (["_law_one","_law_other","_law_bare","_law_knot"]:LS).Nodup by decide) rfl (Or.inl rfl)) ci)))) (λ_ _ _ _ _=>dh) (λ_ _ _ _ _=>(au b3 (hr.mono (by decide)) rfl (aa (pv 2) (aa (pv 3) (aa (pv 0) (aa (pv 1) ab)))))))))) aK)
   (ah (aZ (PW.pt (bR (ao (dw K hr.units) (aN (aa (ai (ap K hr.units) (pv 9) (fK eN af) (λ_ _=>rfl)) (aa (pv 10) ab))) (pv 4) (by with_unfolding_all rfl)) (bw (ao (bU K hr.units) (pv 10) (pv 7) (by with_unfolding_all rfl))))) (ae (be (bZ K (pv 7) (aa (pv 10) ab)))
   (ah (be (bZ K (pv 6) (aa (aD aL (pv 9) (bh (aa (pv 10) ab))) ab))))) aK))))))))
   (ah (aC eM))))))))),?_⟩
  obtain⟨q',a,b,c3,d4,e0,hq,R1,R2,R3,R4⟩:=bW R;cases e0;obtain⟨w4,i7,e4,hw,rp⟩:=Rep.tupI R4;cases e4;have g1:=rp.len;rw[wt] at g1;refine⟨_,rfl,_,rfl,q,_,rfl,hq,λp1 H1 s1 h1=>?_⟩;have h1:H1 p1=some (.tup [.ref a,.ref b,.ref c3]):=h1;refine⟨_,rfl,.tup (.of (s1 _ _ hq)) rfl ⟨_,rfl,⟨_,.of (s1 _ _ hw)⟩,?_⟩⟩
  let i4:Addr->Nat->LV->SH:=λD i r O U=>∃o,O=[o,some (.ref b5)]/\RepAll H r (((wn.take i).filter λe=>!decide (e.2∈I)).map aA)/\r.length<=i/\Same H1 U/\H1 D=none
  refine ck i7 i4 λD hD=>⟨?_,?_,?_,?_⟩
  ·exact⟨none,rfl,.nil,wr _,Same.new hD,hD⟩
  ·rintro i r O U _ ⟨o,rfl,_,_,sm,_⟩ _;exact .of (sm _ _ (s1 _ _ hw))
  ·rintro i r O U x hx ⟨o, rfl, b0, al, sm, Y⟩ M;obtain⟨e,ta,he,rfl,j0⟩:=bH rp hx;have d5:=(wv.mp he).1;have G:(wn.take (i+1)).filter (λe=>!decide (e.2∈I))=(wn.take i).filter (λe=>!decide (e.2∈I))++(if e.2∈I then [] else [e]):=by
    rw[wG,he,xm];congr 1;show List.filter _ [e]=_;by_cases z:e.2∈I <;> simp[z]
   dsimp only[bp];refine⟨_,rfl,.tup (.of (sm _ _ (s1 _ _ j0))) rfl ⟨_,rfl,.seq (eY ((hm.same s1).same sm)) rfl (bL _) ⟨_,rfl,?_⟩⟩⟩;rw[cX,if_pos rfl];refine aF (λh1=>?_) (λh1=>?_)
   ·have h1:e.2∉I:=by simpa using h1
    rw[if_neg h1] at G;refine⟨_,rfl,M,aw (by omega),_,rfl,?_,?_,aQ sm Y,Y⟩
    ·rw[G,wy];exact RepAll.append b0 (.cons (.tup j0 (.cons (.str _) (.cons (.str _) .nil))) .nil)
    ·rw[wB];exact yg al
   ·have h1:e.2∈I:=by simpa using h1
    rw[if_pos h1,xa] at G;exact⟨M,_,rfl,by rw[G];exact b0,by omega,sm,Y⟩
  rintro r O H2 ⟨o,rfl,b0,al,s2,Y⟩ M;rw[g1,wI (wr _)] at b0;refine aS ⟨D,r,rfl,.of M,λw0 n1=>aS ⟨by show 1<=sizeLine;decide,λx0 j2=>?_⟩⟩;have a6:=s1.trans s2;have s3:=Same.new (o:=.tup r) n1;have e3:upd H2 w0 (.tup r) w0=some (.tup r):=ac;generalize upd H2 w0 (.tup r)=H3 at s3 e3 j2 ⊢;have s4:=Same.new (o:=.tup [V.ref w0]) j2;have e4:upd H3 x0 (.tup [V.ref w0]) x0=some (.tup [V.ref w0]):=ac;generalize upd H3 x0 (.tup [V.ref w0])=H4 at s4 e4 ⊢;have f1:=(a6.trans s3).trans s4;refine⟨p1,x0,_,_,rfl,rfl,s4 _ _ (s3 _ _ (s2 _ _ h1)),e4,by show 4<=sizeLine;decide,λZ H5 s5 h5=>?_⟩;have d2:=f1.trans s5;have r5:Rep H5 (.ref Z) (aX ks ts ws (bz wn I)):=.tup h5 (.cons (R1.same d2) (.cons (R2.same d2) (.cons (R3.same d2) (.cons (.tup (s5 _ _ (s4 _ _ e3)) (b0.same d2)) .nil))));have o3:(bz wn I).length<=122:=wM (xn _ _) wl;refine⟨_,rfl,_,rfl,Z,us,ks,ts,ws,bz wn I,c.1,c.2,rfl,r5,T,g6,j1,c0,tl,o3,λle o5 H6 s6 p2 d8 f2 el i1=>?_⟩;have g9:=d2.trans s6;have r6:=r5.same s6;have f6:=fH (wn:=bz wn I) T g6 c0;have m2:PyData.canLayAll0 ((cc ks ts (bz wn I) c.1 c.2).map aA)=true:=bQ λe he=>⟨T.nm _ (i1 e he).1,T.nm _ (i1 e he).2⟩
  have a8:=gg f6;have k2:=λ{a b:Nat}=>rF (a:=a) (b:=b) d1 f6;generalize fN c.2 (cc ks ts (bz wn I) c.1 c.2)=es at a8 k2 k;refine⟨_,rfl,.tup (.of (g9 _ _ hq)) rfl (aS (dQ (R1.same g9) T λD2 dk m1 l6=>?_))⟩;obtain⟨la,n7,b7⟩:=l6 c c0;have s7:=Same.new (o:=.dK dk) m1;refine⟨_,rfl,.dic (.inl ⟨dk,.inr c.1,.inl ac,rfl,n7.symm⟩) ?_⟩;have b7:=s7 _ _ b7;have d9:=g9.trans s7;have r7:=r6.same s7;have d8:=s7 _ _ d8;have f2:=f2.same s7;generalize upd H6 D2 (.dK dk)=H7 at d9 b7 r7 d8 f2 ⊢;have g3:=hm.same d9;have b9:∀j,j<c.2.length->(nmA c.2 j∈I ↔ j∈I.map c.2.idxOf):=λj hj=>by
   rw[ww]
   constructor
   ·intro h;exact⟨_,h,jv d1 hj⟩
   ·rintro⟨x,hx,e⟩;have:nmA c.2 j=x:=by rw[<- e];exact dC (mk x hx)
    rw[this];exact hx
  refine⟨_,rfl,_,rfl,⟨_,.of b7⟩,?_⟩
  let j9:Addr->Nat->LV->SH:=λD i r O U=>∃o,O=[o,some (.ref b5)]/\r.length=((List.range i).filter λx=>decide (x∈I.map c.2.idxOf)).length/\(∀(j:Nat) (x:V),r[j]? = some x->∃(a:Addr) (t:Nat),x=V.ref a/\((List.range i).filter λx=>decide (x∈I.map c.2.idxOf))[j]? = some t/\U a=some (.lst [.str (nmA c.2 t)])/\H7 a=none/\a≠D)/\Same H7 U/\H7 D=none/\U D=some (.lst r)
  refine ck (List.map V.str c.2) j9 λD hD=>⟨?_,?_,?_,?_⟩
  ·exact⟨none,rfl,rfl,λj x h=>by simp at h,Same.new hD,hD,ac⟩
  ·rintro i r O U _ ⟨o,rfl,_,_,sm,_⟩ _;exact .of (sm _ _ b7)
  ·rintro i r O U x hx ⟨o, rfl, al, b8, sm, Y, _⟩ M;obtain⟨t,ht,rfl⟩:=aT hx;have d5:=(wv.mp ht).1;have et:nmA c.2 i=t:=by unfold nmA;rw[w6,ht];rfl
   have G:(List.range (i+1)).filter (λx=>decide (x∈I.map c.2.idxOf))=(List.range i).filter (λx=>decide (x∈I.map c.2.idxOf))++(if i∈I.map c.2.idxOf then [i] else []):=by
    rw[List.range_succ,xm];congr 1;rw[xv,xw];by_cases z:i∈I.map c.2.idxOf
    ·rw[if_pos (wF z),if_pos z]
    ·rw[if_neg (λw=>z (wK w)),if_neg z]
   have p6:r.length<=i:=by
    rw[al];have:=xn (λx=>decide (x∈I.map c.2.idxOf)) (List.range i);rw[xu] at this;exact this
   dsimp only[bp];refine⟨_,rfl,_,rfl,.seq (eY (g3.same sm)) rfl (bL _) ⟨_,rfl,?_⟩⟩;rw[cX,if_neg (by decide)];refine aF (λh1=>?_) (λh1=>?_)
   ·have h1:i ∈ I.map c.2.idxOf := (b9 i d5).mp (by rw[et]; exact wK h1);rw[if_pos h1] at G;refine⟨_,rfl,by show 1<=sizeLine;decide,λl1 a9=>?_⟩;have nl:l1≠D:=λz=>by rw[z,M] at a9;cases a9
    have sl:=Same.new (o:=.lst [V.str t]) a9;refine⟨sl _ _ M,aw (by omega),_,rfl,?_,?_,aQ (sm.trans sl) Y,Y,ac⟩
    ·rw[G,wB,wB,al];rfl
    ·intro j x d0;rw[G];by_cases z:j<r.length
     ·rw[xY z] at d0;obtain⟨a2,t2,e1,e2,e3,e4,e5⟩:=b8 j x d0;refine⟨a2,t2,e1,?_,?_,e4,e5⟩
      ·rw[xY (by omega)];exact e2
      ·rw[ag e5];exact sl _ _ e3
     ·have zj:j=r.length:=by
         have:=(wv.mp d0).1;rw[wB] at this;simp only[wC,xk] at this;omega
      subst zj;rw[xX (wr _),Nat.sub_self] at d0;cases d0;refine⟨l1,i,rfl,?_,?_,bu sm a9,nl⟩
      ·rw[al,xX (wr _),Nat.sub_self];rfl
      ·rw[ag nl,et];exact ac
   ·have h1:i∉I.map c.2.idxOf:=λz=>h1 (wF (by rw[<- et];exact(b9 i d5).mpr z));rw[if_neg h1,xa] at G;exact⟨M,_,rfl,by rw[G];exact al,by rw[G];exact b8,sm,Y,M⟩
  rintro f4 O H8 ⟨o,rfl,d6,b8,s8,Y,_⟩ b4;rw[wt] at d6 b8;have f0:∀j,j∈(List.range c.2.length).filter (λx=>decide (x∈I.map c.2.idxOf)) ↔ j∈I.map c.2.idxOf:=λj=>by
   rw[wV,decide_eq_true_iff,xq];refine⟨λh=>h.2,λh=>⟨?_,h⟩⟩;obtain⟨x,hx,rfl⟩:=ww.mp h;exact xG (mk x hx)
  have l0:((List.range c.2.length).filter λx=>decide (x∈I.map c.2.idxOf)).Pairwise (·<·):=yh.filter _;have a5:∀j∈(List.range c.2.length).filter (λx=>decide (x∈I.map c.2.idxOf)),j<c.2.length:=λj hj=>xq.mp (wV.mp hj).1;generalize (List.range c.2.length).filter (λx=>decide (x∈I.map c.2.idxOf))=ss at d6 b8 f0 l0 a5;have b9:∀j,j<c.2.length->(nmA c.2 j∈I ↔ j∈ss):=λj hj=>(b9 j hj).trans (f0 j).symm;have k:∀o z U,Same H U->GrpO es ss o->GrV U z ks ts (bz wn I) c o->Q z U:=λo z U s g v=>k o z U s (g.congr f0) v;clear f0;refine⟨_,rfl,_,rfl,.seq (eY (g3.same s8)) λlm e8=>?_⟩;have s9:=Same.new (o:=.lst (List.map V.str I)) e8;have e9:upd H8 lm (.lst (List.map V.str I)) lm=some (.lst (List.map V.str I)):=ac;have n2:D≠lm:=av b4 e8;have c8:RwG H7 (upd H8 lm (.lst (List.map V.str I))) D lm c.2 (ss.length+1) (MG.mS ss c.2.length) (MG.rS ss c.2.length) f4 I := by
   refine⟨s9 _ _ b4,by rw[d6],λi hi=>?_,e9,by have:=n8.length_le_of_subset mk;omega,λj hj=>?_,s8.trans s9,Y,bu s8 e8,n2⟩
   ·have k3:i<f4.length:=by omega
    obtain⟨a2,t2,e1,e2,e3,e4,e5⟩:=b8 i _ (wP k3);refine⟨a2,by rw[wP k3,e1],?_,av e3 e8,e5⟩;have e6:MG.rS ss c.2.length (i+1)=[c.2.length,t2]:=by
     unfold MG.rS;rw[if_neg (by omega),Nat.add_sub_cancel,w6,e2];rfl
    rw[e6];exact s9 _ _ e3
   ·rw[b9 j hj]
    constructor
    ·intro h;obtain⟨i,hi,e⟩:=List.mem_iff_getElem.mp h;refine⟨i+1,by omega,by omega,?_⟩;unfold MG.mS;rw[if_neg (by omega),Nat.add_sub_cancel,w6,wP hi];exact e
    ·rintro⟨i,h0,hi,e⟩;unfold MG.mS at e;have j3:i-1<ss.length:=by omega
     rw[if_neg (by omega),w6,wP j3] at e;have e:ss[i-1]=j:=e;rw[<- e];exact xR j3
  have k9:=MG.Bf.starts a5 l0 a8;generalize upd H8 lm (.lst (List.map V.str I))=H9 at c8 ⊢;clear e9 s9 b8 d6 b4
  let k8:Nat->SH:=λm σ U=>∃(p L:Nat) (C W:Nat->Nat) (X:Nat->List Nat) (N:LV) (mt:LS) (o9 a3 a0:Option V),m=c.2.length+1-p/\σ=[some (.ref q),some (.str c.1),some (.ref b5),some (.ref Z),some (.ref le),some (.ref la),some (.ref D),some (.ref lm),some (.int (p:Int)),o9,a3,a0]/\p+1<=L/\MG.Bf (MG.esx es ss c.2.length) c.2.length (c.2.length+1) (p+1) 0 L C W X/\MG.NoB es ss C (p+1)/\RwG H7 U D lm c.2 L C X N mt
  refine⟨k8,
   ⟨_,0,_,_,_,_,_,_,none,none,none,rfl,rfl,by omega,k9,λp v h1 h2=>absurd (show p=0 by omega) h2,c8⟩,?_⟩
  clear k9 c8;rintro m σ l5 ⟨p,L,C,W,X,N,mt,o9,a3,a0,rfl,rfl,p3,bf,nb,l⟩;have Ln:=bf.few;have rl:=l.rl;refine⟨_,rfl,_,rfl,_,_,rfl,Or.inl ⟨_,.of l.hr,rfl⟩,.int ⟨_,rfl,?_⟩⟩;refine aF (λh=>?_) (λh=>?_)
  ·have h:(p:Int)<((N.length:Nat):Int) := wK h;have S:p+1<L:=by omega
   let i2:SH:=λO U=>∃(L:Nat) (C W:Nat->Nat) (X:Nat->List Nat) (N:LV) (mt:LS) (o9 a3 a0:Option V),O=[some (.ref q),some (.str c.1),some (.ref b5),some (.ref Z),some (.ref le),some (.ref la),some (.ref D),some (.ref lm),some (.int ((p+1:Nat):Int)),o9,a3,a0]/\p+1+1<=L/\MG.Bf (MG.esx es ss c.2.length) c.2.length (c.2.length+1) (p+1+1) 0 L C W X/\MG.NoB es ss C (p+1+1)/\RwG H7 U D lm c.2 L C X N mt
   refine⟨i2,
    λO U ⟨L,C,W,X,N,mt,o9,a3,a0,h1,h2⟩=>⟨c.2.length+1-(p+1),by omega,p+1,L,C,W,X,N,mt,o9,a3,a0,rfl,h1,h2⟩,?_⟩
   obtain⟨ra,b2,a4,f3,n6⟩:=l.at_ p S;refine⟨_,rfl,_,rfl,.lst (.of l.hr) (cF b2) ?_⟩;dsimp only[bp];refine⟨_,rfl,.int ?_⟩;refine⟨_,rfl,_,rfl,⟨_,.of (l.s _ _ b7)⟩,?_⟩
   let j8:Nat->SH:=λj σ U=>∃(L:Nat) (C W:Nat->Nat) (X:Nat->List Nat) (N:LV) (mt:LS) (a3 a0:Option V),σ=[some (.ref q),some (.str c.1),some (.ref b5),some (.ref Z),some (.ref le),some (.ref la),some (.ref D),some (.ref lm),some (.int ((p+1:Nat):Int)),some (.ref ra),a3,a0]/\p+1<L/\MG.Bf (MG.esx es ss c.2.length) c.2.length (c.2.length+1) (p+1) j L C W X/\MG.NoB es ss C (p+1)/\(C (p+1)∉ss->∀v,v<j->(C (p+1),v)∈es->v∉ss)/\N[p]? = some (.ref ra)/\RwG H7 U D lm c.2 L C X N mt
   refine cA (R:=Q) (xs:=List.map V.str c.2) j8 ?_ ?_ ?_ ?_
   ·exact⟨L,C,W,X,N,mt,a3,a0,rfl,S,bf,nb,λ_ v hv=>absurd hv (Nat.not_lt_zero v),b2,l⟩
   ·rintro j σ U hj ⟨_,_,_,_,_,_,_,_,rfl,_,_,_,_,_,j7⟩;exact .of (j7.s _ _ b7)
   ·rintro _ j z σ c2 hz ⟨L, C, W, X, N, mt, a3, a0, rfl, S, bf, nb, ng, b2, l⟩;obtain⟨ch,g2,rfl⟩:=aT hz;have hj:=(wv.mp g2).1;have c6:nmA c.2 j=ch:=by unfold nmA;rw[w6,g2];rfl
    have k7:=d3 ch (wE g2);have k0:p+1≠0:=Nat.succ_ne_zero p;have g0:C (p+1)<c.2.length:=by
     have h1:=bf.lt (p+1) S;have h2:C (p+1)≠c.2.length:=λz=>k0 (bf.inj _ 0 S bf.pos (z.trans bf.at0.symm));omega
    have k4:=d3 _ (dL g0);have Ln:=bf.few;obtain⟨p4,f8,a4,f3,n6⟩:=l.at_ p S;rw[b2] at f8;cases f8;obtain⟨p9,m7,c5⟩:=mH bf (show 0<p+1 by omega) S;obtain⟨i5,j4⟩:=pY bf a8 (show 0<p+1 by omega) S;have p7:=t8 bf (p+1) S;have dl:((X (p+1)).drop 1).length=(X (p+1)).length-1:=xO ..;have c9:atI (List.map V.str (((X (p+1)).drop 1).map (nmA c.2))) (-1)=some (.str (nmA c.2 (C (p+1)))):=by rw[m7];exact ip _ _ _
    have mj:=k2 g0 hj;rw[c6] at mj;have h7:=b9 j hj;rw[c6] at h7;have f7:∀ {HZ:Hp} {tt:Addr} {Q:VK},Same c2 HZ->HZ tt=some (.tup [V.str (nmA c.2 (C (p+1))),V.str ch])->Q (.bl (decide ((C (p+1),j)∈es))) HZ->InR K false HZ (.ref tt) (.ref le) Q:=λ{HZ tt Q} sz et hq=>by
     refine .tr (d:=aA (nmA c.2 (C (p+1)),ch)) ((l.s.trans sz) _ _ d8) (f2.same (l.s.trans sz)) (br et) m2 (cf (e:=(nmA c.2 (C (p+1)),ch)) ⟨T.nm _ k4,T.nm _ k7⟩) (by show 1<=16;decide) ?_;rw[if_neg (show ¬ false=true by decide),ey,show decide ((nmA c.2 (C (p+1)),ch)∈cc ks ts (bz wn I) c.1 c.2)=decide ((C (p+1),j)∈es) from decide_eq_decide.mpr mj.symm];exact hq
    apply cT (J:=λσ HZ=>σ=[some (.ref q),some (.str c.1),some (.ref b5),some (.ref Z),some (.ref le),some (.ref la),some (.ref D),some (.ref lm),some (.int ((p+1:Nat):Int)),some (.ref ra),some (.str ch),a0]/\Same c2 HZ/\¬ ((C (p+1),j)∈es/\j∈ss/\C (p+1)∉ss))
    ·intro aU;refine⟨_,rfl,_,rfl,.lst (.of a4) c9 ⟨_,rfl,(by show 2<=sizeLine;decide),λtt h6=>?_⟩⟩;have st:=Same.new (o:=.tup [V.str (nmA c.2 (C (p+1))),V.str ch]) h6;have et:upd c2 tt (.tup [V.str (nmA c.2 (C (p+1))),V.str ch]) tt=some (.tup [V.str (nmA c.2 (C (p+1))),V.str ch]):=ac;generalize upd c2 tt (.tup [V.str (nmA c.2 (C (p+1))),V.str ch])=c4 at st et ⊢;refine⟨_,rfl,f7 st et ⟨_,rfl,?_⟩⟩;refine aF (λhc=>?_) (λhc=>cY (aU _ _ ⟨rfl,st,λz=>hc (wF z.1)⟩));have hc:=wK hc;refine⟨_,rfl,_,rfl,.seq (eY (((g3.same l.s).same st))) rfl (bL _) ⟨_,rfl,?_⟩⟩;rw[cX,if_neg (by decide)];refine aF (λhn=>?_) (λhn=>cY (aU _ _ ⟨rfl,st,λz=>hn (wF (h7.mpr z.2.1))⟩));have hn:=h7.mp (wK hn);have f5:=st _ _ a4;refine⟨_,rfl,_,_,rfl,Or.inl ⟨_,.of f5,rfl⟩,_,_,rfl,rfl,_,rfl,?_⟩;rw[wt,wt];refine aF (λhg=>?_) (λhg=>?_)
     ·have hg:(1:Int)<(((X (p+1)).drop 1).length:Nat):=wK hg;have k5:C (p+1)∉ss:=λz=>by
       have:=i5 z;omega
      obtain⟨a1,u1,k1,b1,m0,n4,l8,l9,m5,m9,o0⟩:=bf.found S a8 a5 nb hn hc k0 k5 (ng k5);have go:GrpO es ss (some (a1::b1)):=⟨a1,u1,k1,b1,⟨n4,l8,l9,m5,o0⟩,m9,rfl⟩
      have i9:(X (p+1)).drop 1++[j]=a1::b1:=by
       have:=congrArg (List.drop 1) m0;rw[ym (by omega)] at this;exact this
      obtain⟨gl,o6,_⟩:=gY d1 (λs hs=>T.nm _ (d3 s hs)) a8 a5 go;refine⟨_,rfl,_,rfl,(by show 1<=sizeLine;decide),λl1 a9=>?_⟩;have a6:=Same.new (o:=.lst [V.str ch]) a9;refine .lst (a6 _ _ f5) ac ?_ λl2 c5=>?_
      ·rw[wt,wt];show _+1<=sizeLine;exact aw (by omega)
      have c7:=Same.new (o:=.lst (List.map V.str (((X (p+1)).drop 1).map (nmA c.2))++[V.str ch])) c5;have e7:upd (upd c4 l1 (.lst [V.str ch])) l2 (.lst (List.map V.str (((X (p+1)).drop 1).map (nmA c.2))++[V.str ch])) l2=some (.lst (List.map V.str ((a1::b1).map (nmA c.2)))):=by rw[ac,<- i9,wy,wy,List.map_singleton,List.map_singleton,c6]
      generalize upd (upd c4 l1 (.lst [V.str ch])) l2 (.lst (List.map V.str (((X (p+1)).drop 1).map (nmA c.2))++[V.str ch]))=i3 at c7 e7 ⊢;have sA:=(l.s.trans st).trans (a6.trans c7);have g4:∀z∈(a1::b1).map (nmA c.2),Nm z:=λz hz=>by
       obtain⟨i,hi,rfl⟩:=ww.mp hz;exact T.nm _ (d3 _ (dL (o6 i hi)))
      have j6:((a1::b1).map (nmA c.2)).length<=61:=by rw[wt];omega
      have k:=k (some (a1::b1));unfold GrV fu at k;dsimp only at k;generalize (a1::b1).map (nmA c.2)=row at e7 g4 j6 k;refine⟨_,rfl,_,rfl,_,rfl,.lst (.of e7) λl7 o4=>?_⟩;rw[show (1:Int)=((1:Nat):Int) from rfl,jE,<- xV];have f1:=Same.new (o:=.lst (List.map V.str (row.drop 1))) o4;have g5:upd i3 l7 (.lst (List.map V.str (row.drop 1))) l7=some (.lst (List.map V.str (row.drop 1))):=ac;have c1:=f1 _ _ e7;have sB:=sA.trans f1;generalize upd i3 l7 (.lst (List.map V.str (row.drop 1)))=i8 at g5 c1 sB ⊢;refine aS ⟨l2,l7,_,_,rfl,.of c1,.of g5,?_⟩;have zl:((List.map V.str row).zip (List.map V.str (row.drop 1))).length=(row.zip (row.drop 1)).length:=by simp
      have o7:(row.zip (row.drop 1)).length<=100:=by rw[xx];omega
      let l3:Addr->Nat->LV->SH:=λD i r O U=>∃o1 o2,O=[o1,o2,some (.ref Z),some (.str c.1)]/\RepAll U r (((row.zip (row.drop 1)).take i).map λe=>t3D (dI ks ts (bz wn I) (c.1,e.1,e.2)))/\Same i8 U/\i8 D=none
      refine kD (List.map V.str row) (List.map V.str (row.drop 1)) l3 λD hD=>⟨?_,?_,?_,?_⟩
      ·exact⟨none,none,rfl,.nil,Same.new hD,hD⟩
      ·rintro i r O U _ ⟨o1,o2,rfl,_,sm,_⟩ _;exact⟨.of (sm _ _ c1),.of (sm _ _ g5)⟩
      ·rintro i r O U x y pp g7 ⟨o1,o2,rfl,rp,sm,Y⟩ M n0;rw[xy] at g7;obtain⟨u,hu,rfl⟩:=aT g7.1;obtain⟨v,hv,rfl⟩:=aT g7.2;have hz:(row.zip (row.drop 1))[i]? = some (u,v):=by rw[xy];exact⟨hu,hv⟩
       have d5:=(wv.mp hz).1;have j5:=rp.len;rw[wt,xi] at j5;have m8:v∈row:=yj (wE hv);have kt:Kt (c.1,u,v):=⟨mL T c0,g4 u (wE hu),g4 v m8⟩
       have sp:=Same.new (o:=.tup [V.str u,V.str v]) n0;have k6:=sm.trans sp;have i0:=sp _ _ M;have n5:=rp.same sp;refine⟨pp,_,rfl,.of ac,rfl,_,_,rfl,_,_,rfl,rfl,?_⟩;dsimp only[nJ];rw[if_pos rfl];refine⟨_,rfl,_,rfl,_,rfl,_,rfl,Z,us,ks,ts,ws,bz wn I,(c.1,u,v),rfl,r7.same (sB.trans k6),T,WnX.ok T j1,g6,kt,λx9 H9 s9 r9=>?_⟩;have b6:=s9 _ _ i0;refine⟨b6,aw (by omega),_,_,rfl,?_,aQ (k6.trans s9) Y,Y⟩;rw[wG,hz,wy];exact RepAll.append (aJ (fJ b6 But.upd) (n5.same s9)) (.cons (fJ b6 But.upd r9) .nil)
      ·rintro r O U ⟨o1,o2,rfl,rp,sm,Y⟩ M;rw[zl,wI (wr _)] at rp;exact k (.ref D) U (d9.trans (sB.trans sm)) go ⟨D,r,rfl,M,rp⟩
     ·have hg:¬ (1:Int)<(((X (p+1)).drop 1).length:Nat):=λz=>hg (wF z);refine aU _ _ ⟨rfl,st,λz=>?_⟩;have:=j4 z.2.2;omega
    ·rintro σ HZ ⟨rfl, sZ, n3⟩;have l:=l.same sZ;have a4:=sZ _ _ a4;refine⟨_,rfl,_,rfl,.lst (.of a4) c9 ⟨_,rfl,(by show 2<=sizeLine;decide),λtt h6=>?_⟩⟩;have st:=Same.new (o:=.tup [V.str (nmA c.2 (C (p+1))),V.str ch]) h6;have et:upd HZ tt (.tup [V.str (nmA c.2 (C (p+1))),V.str ch]) tt=some (.tup [V.str (nmA c.2 (C (p+1))),V.str ch]):=ac;have l:=l.same st;have a4:=st _ _ a4;generalize upd HZ tt (.tup [V.str (nmA c.2 (C (p+1))),V.str ch])=c4 at st et l a4 ⊢;have h8:C (p+1)∉ss->∀v,v<j+1->(C (p+1),v)∈es->v∉ss:=λhm v hv he hs=>by
      by_cases z:v=j
      ·subst z;exact n3 ⟨he,hs,hm⟩
      ·exact ng hm v (by omega) he hs
     refine⟨_,rfl,f7 (sZ.trans st) et ⟨_,rfl,?_⟩⟩;refine aF (λhc=>?_) (λhc=>?_)
     ·have hc := wK hc;refine⟨_,rfl,_,rfl,.seq (.inl (.of l.hm)) rfl (bL _) ⟨_,rfl,?_⟩⟩;rw[cX,if_pos rfl];have g8:=l.mm j hj;rw[c6] at g8;refine aF (λhn=>?_) (λhn=>?_)
      ·have hn:ch ∉ mt := by simpa using hn
       have i6:∀i,i<L->C i≠j:=λi hi e=>by
        by_cases z:i=0
        ·rw[z,bf.at0] at e;omega
        ·exact hn (g8.mpr ⟨i,by omega,hi,e⟩)
       have m4:j∉ss:=λz=>by
        obtain⟨i,hi,e,_⟩:=bf.old 0 j bf.pos (MG.mem_esx.mpr (.inl ⟨bf.at0,z⟩)) (.inl (by omega));exact i6 i hi e
       have m3:(C (p+1),j)∈MG.esx es ss c.2.length:=MG.mem_esx.mpr (.inr ⟨hc,m4⟩);have p5:=l.ml;refine⟨_,rfl,.inl ⟨rfl,_,.of l.hm⟩,_,rfl,lm,_,_,rfl,rfl,l.hm,by rw[wt];exact aw (by omega),?_⟩;have f9:upd c4 lm (.lst (List.map V.str mt++[V.str ch])) D=some (.lst N):=by rw[ag l.ne];exact l.hr
       have h9:upd c4 lm (.lst (List.map V.str mt++[V.str ch])) ra=some (.lst (List.map V.str (((X (p+1)).drop 1).map (nmA c.2)))):=by rw[ag f3];exact a4
       refine⟨_,rfl,.inl ⟨rfl,_,.of f9⟩,_,rfl,_,rfl,(by show 1<=sizeLine;decide),λl1 a9=>?_⟩;subst c6;have a6:=Same.new (o:=.lst [V.str (nmA c.2 j)]) a9;refine .lst (a6 _ _ h9) ac ?_ λl2 c5=>?_
       ·rw[wt,wt];show _+1<=sizeLine;exact aw (by omega)
       ·have c7:=Same.new (o:=.lst (List.map V.str (((X (p+1)).drop 1).map (nmA c.2))++[V.str (nmA c.2 j)])) c5;have d7:=bu a6 c5;have l4:l2≠lm:=λz=>by rw[z,ac] at d7;cases d7
        rw[ag l4] at d7;have p0:=l.rl;refine aS ⟨D,_,_,rfl,rfl,c7 _ _ (a6 _ _ f9),aw (by omega),?_⟩;refine⟨L+1,_,_,_,N++[V.ref l2],mt++[nmA c.2 j],_,_,rfl,by omega,bf.add S m3 i6 (by omega),λi v h1 h2 h3 h4=>?_,λh v hv he=>?_,?_,l.add d1 hj (by omega) (row:=X (p+1)++[j]) (a6.trans c7) d7 ?_⟩
        ·dsimp only at h3 h4;rw[if_neg (by omega)] at h3 h4;exact nb i v h1 h2 h3 h4
        ·try dsimp only at h he
         rw[if_neg (by omega)] at h he;exact h8 h v hv he
        ·rw[xY (by omega)];exact b2
        ·rw[ac,ym (by omega),wy,wy];rfl
      ·have hn:ch∈mt:=Classical.byContradiction λz=>hn (by simpa using z);obtain⟨i,h0,hi,e⟩:=g8.mp hn;exact⟨L,C,W,X,N,mt,_,_,rfl,S,bf.skip (.inr ⟨i,hi,e⟩),nb,h8,b2,l⟩
     ·have hc:(C (p+1),j)∉es:=λz=>hc (wF z);refine cY ?_;refine⟨L,C,W,X,N,mt,_,_,rfl,S,bf.skip (.inl λz=>?_),nb,h8,b2,l⟩;rcases MG.mem_esx.mp z with⟨w,_⟩ | ⟨w,_⟩
      ·omega
      ·exact hc w
   ·rintro σ c2 ⟨L,C,W,X,N,mt,a3,a0,rfl,S,bf,nb,ng,b2,l⟩;rw[wt] at bf ng;have n9:¬ (C (p+1),c.2.length)∈MG.esx es ss c.2.length:=λz=>by
     rcases MG.mem_esx.mp z with⟨_,w⟩ | ⟨w,_⟩
     ·exact absurd (a5 _ w) (xp _)
     ·exact absurd (a8 _ w).2 (xp _)
    refine⟨L,C,W,X,N,mt,_,_,_,rfl,S,(bf.skip (.inl n9)).next (sO a8 a5),λi v h1 h2 h3 h4=>?_,l⟩;by_cases z:i=p+1
    ·subst z;exact ng h3 v (a8 _ h4).2 h4
    ·exact nb i v (by omega) h2 h3 h4
  ·have h:¬ (p:Int)<((N.length:Nat):Int):=λz=>h (wF z);have e:p+1=L:=by omega
   exact k none .non l5 (d9.trans l.s) (λa u kn ha hu he=>bf.shut2 e a8 (e ▸ nb) ha hu he) rfl
def iD:Sp:=λvs H Q _=>∃(e:Addr) (one:Str) (refs:LV) (ps:List (Str × Str)),vs=[.ref e,.str one]/\H e=some (.lst refs)/\RepAll H refs (ps.map aA)/\ps.length<=100000/\∀l fs H',Same H H'->H l=none->H' l=some (.lst (List.map V.str fs))->fs.Nodup->fs≠[]->(∀z∈fs,z∈one::ps.map (·.2))->Q (.ref l) H'
theorem lN (F:Fun K "_law_reached" "_law_reached" gj f fd) (B:Blt mg):FnOk P w K mg base CX0 1 f fd ["_law_edges_here", "_law_one"] iD := by
 refine F.ok scReached (λvs H Q E h=>?_) (λa5 A Y s H vs Q E X h=>?_)
 ·obtain⟨e,one,C,D,rfl,_⟩:=h
  rfl
 ·obtain⟨e, one, C, D, rfl, he, rp, a2, k⟩ := h;have N:=scReached.nd;refine⟨_,(ae (ak (i:=2) N rfl (Or.inl rfl) (bh (aa (pv 1) ab)))
   (ae (ak (i:=3) N rfl (Or.inl rfl) af)
   (ae (du PassesOwn.never (ao dt (pv 3) (ba K B (aa (pv 2) ab)) (aB _)) (ae (aV PassesOwn.never rfl (bt K (pv 0)) (cj (n:=2) K rfl (aO (az (i:=4) N rfl (Or.inl rfl)) (aO (az (i:=5) N rfl (Or.inl rfl)) ci))) (ah (aZ (PW.pt (bR (ao (bn X.units) (pv 4) (ai (ap K X.units) (pv 2) (pv 3) (λ_ _=>rfl)) (aB _)) (bw (ao (bU K X.units) (pv 5) (pv 2) (by with_unfolding_all rfl))))) (ah (be (bZ K (pv 2) (aa (pv 5) ab)))) aK)))
   (ah (ak (i:=3) N rfl (Or.inl rfl) (aD aL (pv 3) af)))))
   (ah (aC (pv 2)))))),?_⟩
  have S:=rp.len;rw[wt] at S;refine⟨_,rfl,(by show 1<=sizeLine;decide),λv u=>?_⟩;have a4:e≠v:=av he u;have sz:200000<sizeLine:=by decide
  let L:Nat->SH:=λm G t=>∃(i:Nat) (d:LS) (o p:Option V),m=D.length+2-i/\G=[some (.ref e),some (.str one),some (.ref v),some (.int (i:Int)),o,p]/\i<=D.length+1/\i<=d.length/\t v=some (.lst (List.map V.str d))/\(d.Nodup/\d≠[])/\(∀z∈d,z∈one::D.map (·.2))/\Same H t
  refine⟨L,
   ⟨_,0,[one],none,none,rfl,rfl,wW _,wW _,ac,⟨by simp,by simp⟩,λz Z=>by rw[wO.mp Z];simp,Same.new u⟩,?_⟩
  rintro m G H1 ⟨i,d,o,p,rfl,rfl,a1,a3,I,g,c,U⟩;have r:=dg g.1 c;rw[wC,wt] at r;refine⟨_,rfl,_,rfl,_,_,rfl,Or.inl ⟨_,.of I,rfl⟩,.int ⟨_,rfl,?_⟩⟩;rw[wt];refine aF (λh=>?_) (λh=>?_)
  ·have h:(i:Int)<((d.length:Nat):Int) := wK h
   let M:SH:=λT t=>∃(d:LS) (o p:Option V),T=[some (.ref e),some (.str one),some (.ref v),some (.int ((i+1:Nat):Int)),o,p]/\i+1<=d.length/\t v=some (.lst (List.map V.str d))/\(d.Nodup/\d≠[])/\(∀z∈d,z∈one::D.map (·.2))/\Same H t
   refine⟨M,
    λT t ⟨d,o,p,h1,h2⟩=>⟨D.length+2-(i+1),by omega,i+1,d,o,p,rfl,h1,by omega,h2⟩,?_⟩
   refine⟨_,rfl,e,rfl,⟨_,.of (U _ _ he)⟩,?_⟩
   let O:Nat->SH:=λj G t=>∃(d:LS) (o p:Option V),G=[some (.ref e),some (.str one),some (.ref v),some (.int (i:Int)),o,p]/\i+1<=d.length/\t v=some (.lst (List.map V.str d))/\(d.Nodup/\d≠[])/\(∀z∈d,z∈one::D.map (·.2))/\Same H t
   refine cM (R:=Q) (xs:=C) O ?_ ?_ ?_ ?_
   ·exact⟨d,o,p,rfl,by omega,I,g,c,U⟩
   ·rintro j G t hj ⟨d,o,p,rfl,_,_,_,_,sm⟩;exact .of (sm _ _ he)
   ·rintro _ j x G H2 hx ⟨d, o, p, rfl, y, l, g, c, J⟩;obtain⟨q,ta,hq,rfl,a0⟩:=bH (rp.same J) hx;have r:=dg g.1 c;rw[wC,wt] at r;refine⟨ta,_,rfl,.of a0,rfl,_,_,rfl,_,_,rfl,rfl,?_⟩;refine⟨_,rfl,_,rfl,_,rfl,.lst (.of l) (de (by omega)) (.sc rfl ⟨_,rfl,?_⟩)⟩;refine aF (λ_=>?_) (λ_=>?_)
    ·refine⟨_, rfl, _, rfl, .seq (.inl (.of l)) rfl (bL _) ⟨_, rfl, ?_⟩⟩;rw[jb];refine aF (λW=>?_) (λ_=>?_)
     ·have W:q.2 ∉ d := by simpa using W
      refine⟨_,rfl,.inl ⟨rfl,_,.of l⟩,_,rfl,v,_,_,rfl,rfl,l,by rw[wt];omega,?_⟩;refine⟨d++[q.2],_,_,rfl,by rw[wB];omega,?_,?_,λz Z=>?_,aQ J u⟩
      ·rw[ac];simp
      ·refine⟨?_,by simp⟩;rw[xB];exact⟨g.1,by simp,λa ha b hb=>by rw[wO.mp hb];exact λz=>W (z ▸ ha)⟩
      ·rcases wR.mp Z with w | w
       ·exact c z w
       ·rw[wO.mp w];exact wY _ (ww.mpr ⟨q,wE hq,rfl⟩)
     ·exact⟨d,_,_,rfl,y,l,g,c,J⟩
    ·exact cY ⟨d,_,_,rfl,y,l,g,c,J⟩
   ·rintro G H2 ⟨d,o,p,rfl,y,l,g,c,J⟩;exact⟨_,rfl,.int ⟨d,o,p,rfl,y,l,g,c,J⟩⟩
  ·exact⟨_,rfl,k v d H1 U u I g.1 g.2 c⟩
theorem nB (n:l≠p) (v:PenV H p a):PenV (upd H l o) p a:=let ⟨i,m,e,q⟩:=v;⟨i,m,by rw[ag (Ne.symm n)];exact e,q⟩
theorem iU (h:H0 l=none) (b:But p H0 H):But p H0 (upd H l o):=λc u n e=>by rw[ag (av e h)];exact b c u n e
def jC (K:W.Frag):Sp:=λvs H Q _=>∃(p a q:Addr) (us:LS) (ks:Kn) (ts ws wn:Prs) (kk:Str × LS),vs=[.ref p,.ref q,.str kk.1]/\Pen K H p a/\Rep H (.ref q) (aX ks ts ws wn)/\Tre us ks/\cV us ks ts/\WnX ks wn/\ts.length<=200/\wn.length<=122/\kk∈ks/\kk.2≠[] /\
 ∀mem mn H',SqA H' mem (List.map V.str mn)->mn≠[]->mn.Nodup->(∀m∈mn,m∈kk.2)->mem≠p->PenV H' p a->But p H H'->Q (.ref mem) H'
theorem scMembers:FnScope ["_law_pen_here","_law_house_here","_law_knot","_law_kids","_law_edges_here","_law_found","_law_sort","_law_some","_law_once","_law_kid"] ["_law_pen_here","_law_house_here","_law_knot"] (aj gh):=⟨rfl,rfl,rfl,by decide +kernel,rfl,by decide +kernel,by decide +kernel⟩
theorem ol (F:Fun K "_law_members" "_law_members" gh f fd) (B:Blt mg) (b:Cal P w K mg base 1 "_law_draw" ["_law_pen_here", "_law_most"] (dR K)) (I:Cal P w K mg base 3 "_law_edges" ["_law_house_here", "_law_knot"] gP) (v:Cal P w K mg base 1 "_law_reached" ["_law_edges_here", "_law_one"] iD):FnOk P w K mg base CX0 4 f fd ["_law_pen_here", "_law_house_here", "_law_knot"] (jC K) := by
 refine F.ok scMembers (λvs H Q E h=>?_) (λk0 A h4 s H vs Q E G h=>?_)
 ·obtain⟨p,a,q,us,ks,ts,ws,wn,c,rfl,_⟩:=h
  rfl
 ·obtain⟨p,a,q,us,ks,ts,ws,wn,c,rfl,hP,R,T,e2,WX,tl,wl,a6,f5,k⟩:=h;have nd:=scMembers.nd;have i4:∀u∈c.2,u∈us:=λu hu=>T.isIn a6 hu;have h8:=cg T a6;have j0:c.2.length<=60:=by
   have:=dg h8 i4;have:=T.len;omega
  refine⟨_,(ae (ak (i:=3) nd rfl (Or.inl rfl) (ai (ap K G.units) (fY K rfl G.units B (aa (ai (ap K G.units) (pv 1) af (λ_ _=>rfl)) ab)) (pv 2) (λ_ _=>rfl)))
   (ae (ak (i:=4) nd rfl (Or.inl rfl) (au I (G.mono (by decide)) rfl (aa (pv 1) (aa (pv 2) ab))))
   (ae (ak (i:=5) nd rfl (Or.inl rfl) (bh (aa (ai (ap K G.units) (pv 3) (au b (G.mono (by decide)) rfl (aa (pv 0) (aa (ba K B (aa (pv 3) ab)) ab))) (λ_ _=>rfl)) ab)))
   (ae (ak (i:=6) nd rfl (Or.inl rfl) (au b (G.mono (by decide)) rfl (aa (pv 0) (aa af ab))))
   (ae (aZ (ao dt (pv 6) af (aB _)) (ae (ak (i:=7) nd rfl (Or.inl rfl) (au v (G.mono (by decide)) rfl (aa (pv 4) (aa (ai (ap K G.units) (pv 5) af (λ_ _=>rfl)) ab))))
   (ah (be (bZ K (pv 5) (aa (ai (ap K G.units) (pv 7) (ai (ap K G.units) (bh (aa (aD pi (ba K B (aa (pv 7) ab)) af) (aa (au b (G.mono (by decide)) rfl (aa (pv 0) (aa (ba K B (aa (pv 7) ab)) ab))) ab))) (aD cH (pv 6) af) (λ_ _=>rfl)) (λ_ _=>rfl)) ab))))) aK)
   (ae (aZ (ao eU (pv 6) af (aB _)) (ah (ak (i:=5) nd rfl (Or.inl rfl) (aD aL (pv 5) (cI (aj gh) ["_law_pen_here","_law_house_here","_law_knot","_law_kids","_law_edges_here","_law_found","_law_sort","_law_some","_law_once","_law_kid"] [0] "_law_kid" ["_law_pen_here"] (bd K (pv 3)) (bS (ao (bn G.units) (au b (G.mono (by decide)) rfl (aa (pv 1) (aa af ab))) af (aB _))) (pv 0))))) aK)
   (ae (aZ (PW.pt (bR (ao (bn G.units) (pv 6) af (aB _)) (bw (ao (bn G.units) (au b (G.mono (by decide)) rfl (aa (pv 0) (aa af ab))) af (aB _))))) (ah (ak (i:=5) nd rfl (Or.inl rfl) (gy K rfl B (aa (pv 3) ab)))) aK)
   (ae (ak (i:=8) nd rfl (Or.inl rfl) (bh ab))
   (ae (aV PassesOwn.never rfl (bt K (pv 5)) (az (i:=9) nd rfl (Or.inl rfl)) (ah (aZ (ao (bU K G.units) (pv 9) (pv 8) (by with_unfolding_all rfl)) (ah (be (em K (pv 8) (aa (au b (G.mono (by decide)) rfl (aa (pv 0) (aa (aD aL (ba K B (aa (pv 8) ab)) af) ab))) (aa (pv 9) ab))))) aK)))
   (ah (aC (ai (ap K G.units) (bh (aa (pv 8) (aa (cQ K B (aa (pv 8) ab)) ab))) (au b (G.mono (by decide)) rfl (aa (pv 0) (aa af ab))) (λ_ _=>rfl))))))))))))),?_⟩
  obtain⟨q',ha,hb,k3,j4,e0,hq,R1,R2,R3,R4⟩:=bW R;cases e0;refine⟨_,rfl,.tup (.of hq) rfl (aS (dQ R1 T λD2 dk h1 g4=>?_))⟩;obtain⟨la,i3,b1⟩:=g4 c a6;have s1:=Same.new (o:=.dK dk) h1;refine⟨_,rfl,.dic (.inl ⟨dk,.inr c.1,.inl ac,rfl,i3.symm⟩) ?_⟩;have b1:=s1 _ _ b1;have v1:=aI s1 hP.2;generalize upd H D2 (.dK dk)=H1 at s1 b1 v1 ⊢;refine⟨_,rfl,_,rfl,q,us,ks,ts,ws,wn,c.1,c.2,rfl,R.same s1,T,e2,WX,a6,tl,wl,λle a5 H2 s2 g1 g5 g0 el j5=>?_⟩;have c5:=fH (wn:=wn) T e2 a6;generalize cc ks ts wn c.1 c.2=es at g0 el c5;have h0:=s1.trans s2;have v2:=aI s2 v1;have b2:=But.of_same (p:=p) h0;have C:=s2 _ _ b1;have c9:(List.map V.str c.2).length=c.2.length:=wt ..;have i9:0<c.2.length:=List.length_pos_iff.mpr f5;have a4:la≠p:=λz=>by
   obtain⟨i,n,e,_⟩:=v2;rw[z,e] at C;cases C
  have g9:le≠p:=Ne.symm (v1.ne g1);refine⟨_,rfl,_,rfl,_,rfl,_,_,rfl,SqA.len (.inr C),p,a,_,rfl,hP.but b2 v2,by rw[c9];omega,by rw[c9];omega,λr3 H3 g3 h7 v3 e3=>?_⟩;have b3:=But.of_eq e3;obtain⟨j3,rfl⟩:=xc g3;rw[c9] at h7;have a8:j3<c.2.length:=by omega
  refine .tup (.of (b3 _ _ a4 C)) (de a8) (aS ⟨by show 1<=sizeLine;decide,λlf c2=>?_⟩);have Y:lf≠p:=Ne.symm (v3.ne c2);have s4:=Same.new (o:=.lst [V.str (c.2.getD j3 "")]) c2;have e4:upd H3 lf (.lst [V.str (c.2.getD j3 "")]) lf=some (.lst [V.str (c.2.getD j3 "")]):=ac;have v4:=aI s4 v3;have b4:=b3.trans (But.of_same (p:=p) s4);have f0:H2 lf=none:=by
   cases z:H2 lf with
   | none=>rfl
   | some o=>rw[b3 lf o Y z] at c2;cases c2
  generalize upd H3 lf (.lst [V.str (c.2.getD j3 "")])=H4 at e4 v4 b4 ⊢;refine⟨_,rfl,p,a,5,rfl,hP.but (b2.trans b4) v4,by decide,by decide,λr5 H5 k1 j6 v5 e5=>?_⟩;have b5:=b4.trans (But.of_eq e5);have c8:H5 lf=some (.lst [V.str (c.2.getD j3 "")]):=(e5 lf Y).trans e4;apply cT (J:=λZ HZ=>∃(l:Addr) (g:LS) (o7 o8 W:Option V),Z=[some (.ref p),some (.ref q),some (.str c.1),some (.ref la),some (.ref le),some (.ref l),some (.int r5),o7,o8,W]/\HZ l=some (.lst (List.map V.str g))/\g≠[]/\(∀m∈g,m∈c.2)/\g.length<=2/\l≠p/\PenV HZ p a/\But p H2 HZ)
  ·intro aU;refine⟨_,rfl,.int ⟨_,rfl,?_⟩⟩;refine aF (λhc=>?_) (λ_=>aU _ _ ⟨lf,[c.2.getD j3 ""],none,none,none,rfl,c8,by simp,λm N=>by rw[wO.mp N];exact cz a8,by show 1<=2;decide,Y,v5,b5⟩);have hc:r5<3:=wK hc;obtain⟨j7,i6⟩:=bX v2;have d7:RepAll H5 a5 (es.map aA):=aJ (aH i6 b5) g0;refine⟨_,rfl,_,rfl,.lst (.of c8) (cF (j:=0) rfl) (aS ⟨le,c.2.getD j3 "",a5,es,rfl,b5 _ _ g9 g5,d7,el,λls S H6 s6 e6 d2 i0 i1 d6=>?_⟩)⟩;have fk:∀z∈S,z∈c.2:=λz hz=>by
    rcases wH.mp (d6 z hz) with e | e
    ·rw[e];exact cz a8
    ·obtain⟨x,hx,rfl⟩:=ww.mp e;exact(c5 x hx).2
   have j1:S.length<=c.2.length:=i0.length_le_of_subset fk;have i8:0<S.length:=List.length_pos_iff.mpr i1;have v6:=aI s6 v5;have b6:=b5.trans (But.of_same (p:=p) s6);have e1:=s6 _ _ c8;have g2:ls≠p:=Ne.symm (v5.ne e6);have b0:(List.map V.str S).length=S.length:=wt ..;refine⟨_,rfl,.inl ⟨rfl,_,.of e1⟩,?_⟩;refine⟨_,rfl,_,rfl,_,_,rfl,Or.inl ⟨_,.of d2,rfl⟩,_,_,rfl,rfl,?_⟩;refine⟨_,rfl,_,rfl,_,_,rfl,Or.inl ⟨_,.of d2,rfl⟩,p,a,_,rfl,hP.but (b2.trans b6) v6,by rw[b0];omega,by rw[b0];omega,λr7 H7 h5 h2 v7 e7=>?_⟩;rw[b0] at h2;have b7:=b6.trans (But.of_eq e7);refine aS ⟨by show 2<=sizeLine;decide,λl2 g6=>?_⟩;have s8:=Same.new (o:=.lst [V.int (((List.map V.str S).length:Nat)-1),V.int r7]) g6;have e8:upd H7 l2 (.lst [V.int (((List.map V.str S).length:Nat)-1),V.int r7]) l2=some (.lst [V.int (((List.map V.str S).length:Nat)-1),V.int r7]):=ac;have U:=aI s8 v7;have b8:=b7.trans (But.of_same (p:=p) s8);have i7:=s8 _ _ ((e7 lf Y).trans e1);have h9:=s8 _ _ ((e7 ls g2).trans d2);refine⟨_,rfl,_,_,rfl,rfl,by show (0:Int)<2;decide,?_⟩;obtain⟨m,N,d9⟩:∃m:Nat,atI [V.int ((S.length:Nat)-1),V.int r7] (r5 % 2)=some (.int (m:Int))/\m<S.length:=by
    have:r5 % 2=0∨r5 % 2=1:=by omega
    rcases this with e | e <;> rw[e]
    ·exact⟨S.length-1,by rw[show ((S.length-1:Nat):Int)=(S.length:Int)-1 by omega];rfl,by omega⟩
    ·obtain⟨m,rfl⟩:=xc h5;exact⟨m,rfl,by omega⟩
   refine .lst (.of e8) (by rw[b0];exact N) (.lst (.of h9) (de d9) ?_);refine aS ⟨lf,_,_,rfl,rfl,i7,by show 1<sizeLine;decide,?_⟩;refine aU _ _ ⟨lf,[c.2.getD j3 "",S.getD m ""],_,_,_,rfl,ac,by simp,λx hx=>?_,wr 2,Y,?_,?_⟩
   ·simp only[wH,List.not_mem_nil,or_false] at hx;rcases hx with rfl | rfl
    ·exact cz a8
    ·exact fk _ (cz d9)
   ·exact nB Y U
   ·exact iU f0 b8
  rintro Z H6 ⟨l,g,o7,o8,W,rfl,hl,y,O,a9,nl,v6,b6⟩;apply cT (J:=λZ HZ=>∃(l:Addr) (g:LS) (o7 o8 W:Option V),Z=[some (.ref p),some (.ref q),some (.str c.1),some (.ref la),some (.ref le),some (.ref l),some (.int r5),o7,o8,W]/\HZ l=some (.lst (List.map V.str g))/\g≠[]/\(∀m∈g,m∈c.2)/\g.length<=62/\l≠p/\PenV HZ p a/\But p H2 HZ)
  ·intro aU;refine⟨_,rfl,_,_,rfl,rfl,_,rfl,?_⟩;refine aF (λ_=>?_) (λ_=>aU _ _ ⟨l,g,_,_,_,rfl,hl,y,O,by omega,nl,v6,b6⟩);refine⟨_,rfl,_,rfl,_,rfl,⟨_,.of (b6 _ _ a4 C)⟩,?_⟩
   let d4:Addr->Nat->LV->SH:=λD i c4 c1 H'=>∃(o:Option V) (gl:LS),c1=[o,some (.ref p)]/\c4=List.map V.str gl/\(∀m∈gl,m∈c.2)/\gl.length<=i/\PenV H' p a/\But p H6 H'/\H6 D=none/\D≠p
   refine ck (List.map V.str c.2) d4 λD hD=>⟨?_,?_,?_,?_⟩
   ·exact⟨none,[],rfl,rfl,λm N=>by simp at N,wr _,aI (Same.new hD) v6,But.of_same (Same.new hD),hD,Ne.symm (v6.ne hD)⟩
   ·rintro i c4 c1 H' _ ⟨o,gl,rfl,_,_,_,_,bm,_⟩ _;exact .of (bm _ _ a4 (b6 _ _ a4 C))
   ·rintro i c4 c1 H' x hx ⟨o,gl,rfl,rfl,hg,d0,vm,bm,c3,nD⟩ a1;obtain⟨t,ht,rfl⟩:=aT hx;have j2:=(wv.mp ht).1;dsimp only[bp];refine⟨_,rfl,p,a,4,rfl,hP.but ((b2.trans b6).trans bm) vm,by decide,by decide,λr H8 g7 g8 U e8=>.sc rfl ⟨_,rfl,?_⟩⟩;have a3:=(e8 D nD).trans a1;have f3:=bm.trans (But.of_eq e8);refine aF (λ_=>?_) (λ_=>?_)
    ·refine⟨_,rfl,a3,by rw[wt];exact aw (by omega),_,gl++[t],rfl,by rw[wy];rfl,λm N=>?_,by rw[wB];exact yg d0,nB nD U,iU c3 f3,c3,nD⟩;rcases wR.mp N with z | z
     ·exact hg m z
     ·rw[wO.mp z];exact wE ht
    ·exact⟨a3,_,gl,rfl,rfl,hg,by omega,U,f3,c3,nD⟩
   ·rintro c4 c1 H8 ⟨o,gl,rfl,rfl,hg,d0,U,b8,c3,nD⟩ a1;rw[wt] at d0;refine .lst (b8 _ _ nl hl) a1 ?_ λl3 f8=>?_
    ·rw[wt,wt];exact xA (aw (by omega))
    ·have s9:=Same.new (o:=.lst (List.map V.str g++List.map V.str gl)) f8;refine aU _ _ ⟨l3,g++gl,_,_,_,rfl,by rw[ac,wy],by simp[y],λm N=>?_,by rw[wB];omega,Ne.symm (U.ne f8),aI s9 U,(b6.trans b8).trans (But.of_same s9)⟩;rcases wR.mp N with z | z
     ·exact O m z
     ·exact hg m z
  rintro Z H7 ⟨l,g,o7,o8,W,rfl,hl,y,O,a9,nl,v7,b7⟩;apply cT (J:=λZ HZ=>∃(l:Addr) (g:LS) (o7 o8 W:Option V),Z=[some (.ref p),some (.ref q),some (.str c.1),some (.ref la),some (.ref le),some (.ref l),some (.int r5),o7,o8,W]/\HZ l=some (.lst (List.map V.str g))/\g≠[]/\(∀m∈g,m∈c.2)/\g.length<=62/\l≠p/\PenV HZ p a/\But p H2 HZ)
  ·intro aU;refine⟨_,rfl,.sc rfl ⟨_,rfl,?_⟩⟩;refine aF (λ_=>?_) (λ_=>cY (aU _ _ ⟨l,g,_,_,_,rfl,hl,y,O,a9,nl,v7,b7⟩));refine⟨_,rfl,p,a,4,rfl,hP.but (b2.trans b7) v7,by decide,by decide,λr H8 g7 g8 U e8=>.sc rfl ⟨_,rfl,?_⟩⟩;have b8:=b7.trans (But.of_eq e8);refine aF (λ_=>?_) (λ_=>aU _ _ ⟨l,g,_,_,_,rfl,(e8 l nl).trans hl,y,O,a9,nl,U,b8⟩);refine⟨_,rfl,_,rfl,.seq (.inr (.of (b8 _ _ a4 C))) λl4 f2=>?_⟩;have s9:=Same.new (o:=.lst (List.map V.str c.2)) f2;exact aU _ _ ⟨l4,c.2,_,_,_,rfl,ac,f5,λm N=>N,by omega,Ne.symm (U.ne f2),aI s9 U,b8.trans (But.of_same s9)⟩
  rintro Z H8 ⟨l,g,o7,o8,W,rfl,hl,y,O,a9,nl,U,b8⟩;refine⟨by show 0<=sizeLine;decide,λL a0=>?_⟩;have s9:=Same.new (o:=.lst []) a0;have e9:upd H8 L (.lst []) L=some (.lst []):=ac;have v9:=aI s9 U;have b9:=b8.trans (But.of_same (p:=p) s9);have d3:=s9 _ _ hl;have a2:L≠p:=Ne.symm (U.ne a0);have h3:l≠L:=av hl a0;have f6:H2 L=none:=by
   cases z:H2 L with
   | none=>rfl
   | some o=>rw[b8 L o a2 z] at a0;cases a0
  generalize upd H8 L (.lst [])=H9 at e9 v9 b9 d3 ⊢;refine⟨_,rfl,_,rfl,⟨_,.of d3⟩,?_⟩
  let f1:Nat->SH:=λi Z H'=>∃(d:LS) (W:Option V),Z=[some (.ref p),some (.ref q),some (.str c.1),some (.ref la),some (.ref le),some (.ref l),some (.int r5),o7,some (.ref L),W]/\H' L=some (.lst (List.map V.str d))/\d.Nodup/\(∀m∈d,m∈c.2)/\(i≠0->d≠[])/\PenV H' p a/\But p H2 H'/\H' l=some (.lst (List.map V.str g))
  refine cM (R:=Q) (xs:=List.map V.str g) f1 ?_ ?_ ?_ ?_
  ·exact⟨[],_,rfl,e9,xP,λm N=>by simp at N,λz=>absurd rfl z,v9,b9,d3⟩
  ·rintro i Z H' hi ⟨d,W,rfl,_,_,_,_,_,_,a7⟩;exact .of a7
  ·rintro _ i x Z H' hx ⟨d, W, rfl, M, X, ok, one, vm, bm, a7⟩;obtain⟨t,ht,rfl⟩:=aT hx;have i2:=O t (wE ht);have j8:d.length<=c.2.length:=X.length_le_of_subset ok;have c0:(List.map V.str d).length=d.length:=wt ..;dsimp only[bp];refine⟨_,rfl,_,rfl,.seq (.inl (.of M)) rfl (bL _) ⟨_,rfl,?_⟩⟩;rw[cX,if_pos rfl];refine aF (λhn=>?_) (λhn=>?_)
   ·have hn:t∉d:=by simpa using hn
    refine⟨_,rfl,.inl ⟨rfl,_,.of M⟩,?_⟩;refine⟨_,rfl,_,rfl,_,_,rfl,Or.inl ⟨_,.of M,rfl⟩,.int (aS ⟨p,a,_,rfl,hP.but (b2.trans bm) vm,by omega,by rw[c0];omega,λr HA i5 h6 vA eA=>?_⟩)⟩;rw[c0] at h6;obtain⟨n,rfl⟩:=xc i5;have f4:=(eA L a2).trans M;refine⟨_,rfl,aS ⟨L,_,_,n,_,rfl,rfl,rfl,f4,by rw[c0];omega,by rw[c0];exact aw (by omega),?_⟩⟩;have pm:(d.take n++t::d.drop n).Perm (t::d):=by
     have:=List.perm_middle (a:=t) (l₁:=d.take n) (l₂:=d.drop n)
     rwa [xU] at this
    refine⟨d.take n++t::d.drop n,_,rfl,?_,pm.nodup_iff.mpr (xf.mpr ⟨hn,X⟩),λm N=>?_,λ_=>by simp,nB a2 vA,iU f6 (bm.trans (But.of_eq eA)),?_⟩
    ·rw[ac,wy,xb,List.map_take,xV]
    ·rcases wH.mp (pm.mem_iff.mp N) with z | z
     ·rw[z];exact i2
     ·exact ok m z
    ·rw[ag h3];exact(eA l nl).trans a7
   ·have hn:t∈d:=Classical.byContradiction λz=>hn (by simpa using z);exact⟨d,_,rfl,M,X,ok,λ_ z=>(by rw[z] at hn;simp at hn),vm,bm,a7⟩
  ·rintro Z HB ⟨d,W,rfl,M,X,ok,one,vB,bB,_⟩;have one:d≠[]:=one (by rw[wt];exact λz=>y (List.eq_nil_of_length_eq_zero z));refine⟨_,rfl,_,rfl,L,_,rfl,.of M,λlt f7=>aS ⟨by show 2<=sizeLine;decide,λl5 d1=>?_⟩⟩;have sC:=Same.new (o:=.tup (List.map V.str d)) f7;have eC:upd HB lt (.tup (List.map V.str d)) lt=some (.tup (List.map V.str d)):=ac;have f9:lt≠p:=Ne.symm (vB.ne f7);have vC:=aI sC vB;have bC:=bB.trans (But.of_same (p:=p) sC);have c7:=sC _ _ M;generalize upd HB lt (.tup (List.map V.str d))=HC at eC vC bC c7 d1 ⊢;have sD:=Same.new (o:=.lst [V.ref L,V.ref lt]) d1;have eD:upd HC l5 (.lst [V.ref L,V.ref lt]) l5=some (.lst [V.ref L,V.ref lt]):=ac;have d8:l5≠p:=Ne.symm (vC.ne d1);have vD:=aI sD vC;have bD:=bC.trans (But.of_same (p:=p) sD);have c6:=sD _ _ c7;have d5:=sD _ _ eC;generalize upd HC l5 (.lst [V.ref L,V.ref lt])=HD at eD vD bD c6 d5 ⊢;refine⟨_,rfl,p,a,2,rfl,hP.but (b2.trans bD) vD,by decide,by decide,λr HE k2 j9 vE eE=>?_⟩;have bE:=b2.trans (bD.trans (But.of_eq eE));have:r=0∨r=1:=by omega
   rcases this with rfl | rfl
   ·exact .lst (.of ((eE l5 d8).trans eD)) rfl (k L d HE (.inl ((eE L a2).trans c6)) one X ok a2 vE bE)
   ·exact .lst (.of ((eE l5 d8).trans eD)) rfl (k lt d HE (.inr ((eE lt f9).trans d5)) one X ok f9 vE bE)
theorem qh (T:Tre us ks) (i:cV us ks ts) (o:fB us q) (f:je us wn) (s:ts.length <= 200) (E:q.length <= 60) (C:wn.length <= 122):Sw (aX ks ts q wn) 2500000 4 := by
 have b:∀ {z:Str},z∈us->Sw (.str z) 82 0:=λh=>gL (.inr (T.nm _ h));have y:Sw (cZ ks) 620000 3 := by
  have r:∀d ∈ ks.map dH, Sw d 10107 2 := λd a => by
   obtain⟨k,l,rfl⟩:=ww.mp a;have g:∀u∈k.2,u∈us:=λu j=>T.isIn l j;have D:=dg (cg T l) g;have:=T.len;refine(Sw.tuple (n:=5050) (k:=1) λd a=>?_).mono (by show 3+2 * (5050+2)<=10107;decide) (wr _);rcases wH.mp a with rfl | a
   ·refine(gL ?_).mono (by decide) (by decide);rcases T.sub k l with w | w
    ·exact .inl w
    ·exact .inr (T.nm _ w)
   ·rw[wO.mp a];have v:∀d∈k.2.map PyData.str,Sw d 82 0:=λd a=>by
     obtain⟨u,j,rfl⟩:=ww.mp a;exact b (g u j)
    have:=Sw.tuple v;rw[wt] at this;exact this.mono (by omega) (wr _)
  have:=Sw.tuple r;have p:=T.few;rw[wt] at this;exact this.mono (by omega) (wr _)
 have A:∀ {z:Str},(z="first"∨z="last")->Sw (.str z) 82 0:=λh=>by
  rcases h with rfl | rfl
  ·exact⟨by decide +kernel,rfl,wr 0,by decide +kernel⟩
  ·exact⟨by decide +kernel,rfl,wr 0,by decide +kernel⟩
 have t:=hZ (ps:=ts) (m:=200) (λe c=>⟨b (i e c).1,b (i e c).2.1⟩) s;have x:=hZ (ps:=q) (m:=200) (λe c=>⟨b (o e c).1,b (o e c).2⟩) (by omega);have B:=hZ (ps:=wn) (m:=200) (λe c=>⟨A (f e c).1,b (f e c).2⟩) (by omega);refine(Sw.tuple (n:=620000) (k:=3) λd a=>?_).mono (by show 3+4 * (620000+2)<=2500000;decide) (wr _);rcases wH.mp a with rfl | a
 ·exact y
 ·rcases wH.mp a with rfl | a
  ·exact t.mono (by decide) (by decide)
  ·rcases wH.mp a with rfl | a
   ·exact x.mono (by decide) (by decide)
   ·rw[wO.mp a];exact B.mono (by decide) (by decide)
def K3 (t:T3):Prop:=Nm t.1/\Nm t.2.1/\Nm t.2.2
theorem uj:Nm "tie":=by refine⟨by decide +kernel,by decide +kernel,?_⟩;decide +kernel
theorem sR (T:Tre us ks) (a:cV us ks ts) (c:Nm t.2.1) (h2:Nm t.2.2):K3 (dI ks ts wn t):=by
 unfold dI;cases h:ts.find? λe=>decide (bc ks e.1 e.2=some t) with
 | some e =>
  have b:=a e (List.mem_of_find?_eq_some h);exact⟨uj,T.nm _ b.1,T.nm _ b.2.1⟩
 | none =>
  refine⟨?_,c,h2⟩;show Nm (if ((("first":Str),t.2.1):Str × Str)∈wn then ("first":Str) else "last")
  split
  ·exact gk
  ·exact mD
theorem vQ (h:K3 t):Sw (t3D t) 255 1:=by
 refine(Sw.tuple (n:=82) (k:=0) λd a=>?_).mono (by show 3+3 * (82+2)<=255;decide) (wr _);rcases wH.mp a with rfl | a
 ·exact gL (.inr h.1)
 ·rcases wH.mp a with rfl | a
  ·exact gL (.inr h.2.1)
  ·rw[wO.mp a];exact gL (.inr h.2.2)
theorem rL {x:V}:¬ (if true=true then !decide (x=x) else decide (x=x))=true:=by simp
def oG (K:W.Frag):Sp:=λvs H Q _=>∃(a:Addr) (ns:List Int),vs=[.ref a]/\SqL K H a (ns.map V.int)/\∀p H',Pen K H' p a->H p=none->Same H H'->Q (.ref p) H'
theorem tm (F:Fun K "_law_pen" "_law_pen" rz f fd) (B:Blt mg):FnOk P w K mg base CX0 1 f fd ["_law_script"] (oG K):=by
 refine F.ok scPen (λe H Q E h=>?_) (λd A c s H e Q E j h=>?_)
 ·obtain⟨a,ns,rfl,_⟩:=h
  rfl
 ·obtain⟨a,ns,rfl,g,k⟩:=h;have i:=scPen.nd;refine⟨_,(ah (aC (bh (aa (pv 0) (aa af (aa af ab)))))),?_⟩;refine⟨_,rfl,(by show 3<=sizeLine;decide),λp b=>?_⟩;exact k p _ (Pen.new (ns:=ns) g b ⟨0,0,ac,by decide,by decide⟩) b (Same.new b)
theorem qB {us:LS}(T:Tre us ks) (S:Sw (aX ks ts q wn) 2500000 4) (b:Bool) {mn:LS}(h:∀m∈mn,m∈us) (e:mn.length<=60):Shw (.tuple [aX ks ts q wn,ik b (mn.map PyData.str)]):=by
 have f:Sw (ik b (mn.map PyData.str)) (3+60 * (82+2)) 1:=Sw.seq b (λd a=>by
  obtain⟨m,c,rfl⟩:=ww.mp a;exact Sw.nm (T.nm _ (h m c))) (by rw[wt];exact e)
 refine(Sw.tuple (n:=2500000) (k:=4) λd a=>?_).shw (by decide) (wM (show 3+2 * (2500000+2)<=6000000 by decide) (by decide));rcases wH.mp a with rfl | a
 ·exact S
 ·rw[wO.mp a];exact f.mono (by decide) (by decide)
def nq (ks:Kn) (ts wn:Prs) (kk:Str × LS):Option (List Nat)->PyData
 | none=>.none
 | some r=>.list (fu ks ts wn kk.1 (r.map (nmA kk.2)))
theorem mK (h:GrV H z ks ts wn q o):Rep H z (nq ks ts wn q o):=by
 cases o with
 | none =>
  have h:z=.non:=h;rw[h];exact .non
 | some r =>
  obtain⟨l,a,rfl,c,b⟩:=h;exact .lst c b
theorem sV (T:Tre us ks) (j:cV us ks ts) (f:q ∈ ks) (t:q.2.length <= 60) (m:gq q.2 es) (h:∀s ∈ B, s<q.2.length) (g:GrpO es B o):Shw (nq ks ts wn q o) := by
 cases o with
 | none=>exact(Sw.shw (n:=4) (k:=0) ⟨rfl,rfl,wr 0,by show (PyData.shown .none).length<=4;decide +kernel⟩ (by decide) (by decide))
 | some r =>
  have c:∀s∈q.2,Nm s:=λs h=>T.nm _ (T.isIn f h);obtain⟨D,l,_⟩:=gY (cg T f) c m h g;have p:∀z∈r.map (nmA q.2),Nm z:=λz y=>by
   obtain⟨i,x,rfl⟩:=ww.mp y;exact c _ (dL (l i x))
  have C:(fu ks ts wn q.1 (r.map (nmA q.2))).length<=61:=by
   unfold fu;rw[wt,xx,xO,wt];omega
  refine(Sw.list (n:=255) (k:=1) (ds:=fu ks ts wn q.1 (r.map (nmA q.2))) λd v=>?_).shw (by decide) (wM (show _<=2+61 * (255+2) from by have:=Nat.mul_le_mul_right (255+2) C;omega) (by decide));obtain⟨e,u,rfl⟩:=ww.mp v;have w:e.1∈r.map (nmA q.2):=(List.of_mem_zip (a:=e.1) (b:=e.2) u).1;have A:e.2∈r.map (nmA q.2):=yj (List.of_mem_zip (a:=e.1) (b:=e.2) u).2;exact vQ (sR T j (p _ w) (p _ A))
theorem TbK.but (h:TbK q H) (b:But p H H') (n:q≠p) (v:PenV H p a):TbK q H':=by
 obtain⟨j,c⟩:=h;refine⟨j,c.tri,b _ _ n c.at_,c.code.imp id λ⟨k,g,l,d,f⟩=>⟨k,g,l,b _ _ (λz=>?_) d,f⟩⟩;obtain⟨i,m,e,_⟩:=v;rw[z,e] at d;cases d
theorem TbK.upd (h:TbK q H) (e:H l=some (.lst ys)):TbK q (L2.upd H l (.lst zs)):=by
 obtain⟨f,c⟩:=h;refine⟨f,c.tri,by rw[ag (bP c.at_ e (by intro z;cases z))];exact c.at_,c.code.imp id λ⟨g,d,i,a,b⟩=>⟨g,d,i,by rw[ag (bP a e (by intro z;cases z))];exact a,b⟩⟩
def cE (Pt:Addr) (H:Hp):Hp:=λb=>if b=Pt then none else H b
theorem fj (h:H b=some u) (n:b≠q):cE q H b=some u:=by unfold cE;rw[if_neg n];exact h
theorem iG (h:cE q H b=some u):b≠q/\H b=some u:=by
 unfold cE at h;by_cases z:b=q
 ·rw[if_pos z] at h;cases h
 ·rw[if_neg z] at h;exact⟨z,h⟩
theorem butK (b:But p (cE q H0) H) (s:SameK q H H'):But p (cE q H0) H':=λc u n e=>s c u (iG e).1 (b c u n e)
theorem vM (b:Same (cE q H0) H) (s:SameK q H H'):Same (cE q H0) H':=λc u e=>s c u (iG e).1 (b c u e)
theorem jh (t:TbK q H) (R:Rep H v d):Rep (cE q H) v d:=(Rep.cor R).same λb u e=>by
 obtain⟨h,w⟩:=pH e;refine fj h (t.ne h λc z=>?_);subst z;rcases w with⟨a,w⟩ | ⟨a,w⟩ <;> cases w
theorem ul (t:TbK q H) (h:SqA H a xs):SqA (cE q H) a xs:=h.imp (λz=>fj z (t.ne z (by intro b z;cases z))) (λz=>fj z (t.ne z (by intro b z;cases z)))
theorem ig (n:z≠p) (v:PenV H p a):PenV (cE z H) p a:=let ⟨i,m,e,q⟩:=v;⟨i,m,fj e (Ne.symm n),q⟩
theorem ua (t:TbK B H) (n:B ≠ p) (h:Pen K H p a):Pen K (cE B H) p a := by
 obtain⟨⟨c,q⟩,v⟩:=h;refine⟨⟨c,λf b=>?_⟩,ig n v⟩;obtain⟨i,m,e,_⟩:=v;rcases q H (λ_ _ _ e=>e) with h | h
 ·refine .inl ?_;rcases h with h | ⟨u,h⟩
  ·refine .inl (b a _ (λz=>?_) (fj h (t.ne h (by intro d z;cases z))));rw[z,e] at h;cases c with
   | nil=>cases h
   | cons x l=>cases h
  ·refine .inr ⟨u,b a _ (λz=>?_) (fj h (t.ne h (by intro d z;cases z)))⟩;rw[z,e] at h;cases h
 ·exact .inr h
theorem lh (R:Rep H (.ref q) d) (c:∀ {H':Hp}{ds:List PyData},Same H H'->RepAll H' (List.map V.str mn) ds->Rep H' (.ref z) (ik b ds)) (a:H B=none):Rep (L2.upd H B (.tup [.ref q,.ref z])) (.ref B) (.tuple [d,ik b (mn.map PyData.str)]) :=
 .tup ac (.cons (R.same (Same.new a)) (.cons (c (Same.new a) (RepAll.of_strs mn)) .nil))
def mZ (Pt:Addr) (K:W.Frag):Sp:=λvs H Q _=>∃(a:Addr) (ns:List Int),vs=[.ref a]/\SqL K H a (ns.map V.int)/\H Pt=some (.tbl #[])/\∀H',Q (.bl true) H'
theorem scLaw:FnScope ["_law_script","_law_pen_here","_law_many","_law_units","_law_house_here","_law_full","_law_turn","_law_knot","_law_members_here","_law_due_here","_law_again","_law_told","_law_found"] ["_law_script"] (aj hY):=⟨rfl,rfl,rfl,by decide +kernel,rfl,by decide +kernel,by decide +kernel⟩
theorem vd {f O:Addr}{fd:FuncData}(F:Fun K "law" "law" hY f fd) (B:Blt mg) (a1:Cal P w K mg base 1 "_law_pen" ["_law_script"] (oG K)) (c:Cal P w K mg base 1 "_law_draw" ["_law_pen_here", "_law_most"] (dR K)) (M:Cal P w K mg base 2 "_law_names" ["_law_pen_here", "_law_many"] (mE K))
    (J:Cal P w K mg base 5 "_law_house" ["_law_pen_here","_law_units","_law_deep"] (lR K)) (C:Cal P w K mg base 4 "_law_members" ["_law_pen_here","_law_house_here","_law_knot"] (jC K)) (W:Cal P w K mg base 4 "_law_due" ["_law_house_here","_law_knot","_law_members_here"] pw) (t:Cal P w K mg base 5 "ring_of_group" ["house","members"] (mw O)) :
    FnOk P w K mg base CX0 6 f fd ["_law_script"] (mZ O K):=by
 refine F.ok scLaw (λvs H Q E h=>?_) (λn2 A i8 s H vs Q E g h=>?_)
 ·obtain⟨a,ns,rfl,_⟩:=h
  rfl
 ·obtain⟨a, ns, rfl, hS, hT, k⟩ := h;have nd:=scLaw.nd;refine⟨_,(ae (ak (i:=1) nd rfl (Or.inl rfl) (au a1 (g.mono (by decide)) rfl (aa (pv 0) ab)))
   (ae (ak (i:=2) nd rfl (Or.inl rfl) (ai (ap K g.units) (bh (aa (aD aL af (au c (g.mono (by decide)) rfl (aa (pv 1) (aa af ab)))) (aa (aD aL af (au c (g.mono (by decide)) rfl (aa (pv 1) (aa af ab)))) ab))) (nz B (aa (jk (bn g.units) (au c (g.mono (by decide)) rfl (aa (pv 1) (aa af ab))) af (aB _)) ab)) (λ_ _=>rfl)))
   (ae (ak (i:=3) nd rfl (Or.inl rfl) (au M (g.mono (by decide)) rfl (aa (pv 1) (aa (pv 2) ab))))
   (ae (ak (i:=4) nd rfl (Or.inl rfl) (au J (g.mono (by decide)) rfl (aa (pv 1) (aa (pv 3) (aa (au c (g.mono (by decide)) rfl (aa (pv 1) (aa af ab))) ab)))))
   (ae (eH (i:=5) nd rfl rfl (by rfl) (aj hY) ["_law_script","_law_pen_here","_law_many","_law_units","_law_house_here","_law_full","_law_turn","_law_knot","_law_members_here","_law_due_here","_law_again","_law_told","_law_found"] ["_law_name","_law_some"] [] ["_law_name","_law_some"] rfl (bd K (ai (ap K g.units) (pv 4) af (λ_ _=>rfl))) (λ_ _ _ _ _=>(cj (n:=2) K rfl (aO (az (i:=0) (show (["_law_name","_law_some"]:LS).Nodup by decide) rfl (Or.inl rfl)) (aO (az (i:=1) (show (["_law_name","_law_some"]:LS).Nodup by decide) rfl (Or.inl rfl)) ci)))) (λ_ _ _ _ _=>(bS (ao (pN K g.units) (pv 1) (aN ab) (by with_unfolding_all rfl)))) (λ_ _ _ _ _=>(pv 0)))
   (ae (aV PassesOwn.never rfl (cG rfl B.range (aa (aD aL af (au c (g.mono (by decide)) rfl (aa (pv 1) (aa af ab)))) ab)) (az (i:=6) nd rfl (Or.inl rfl)) (ae (ak (i:=7) nd rfl (Or.inl rfl) (ai (ap K g.units) (pv 5) (ai (ap K g.units) (bh (aa (au c (g.mono (by decide)) rfl (aa (pv 1) (aa (ba K B (aa (pv 5) ab)) ab))) (aa af ab))) (nz B (aa (jk (bn g.units) (au c (g.mono (by decide)) rfl (aa (pv 1) (aa af ab))) af (aB _)) ab)) (λ_ _=>rfl)) (λ_ _=>rfl)))
   (ae (ak (i:=8) nd rfl (Or.inl rfl) (au C (g.mono (by decide)) rfl (aa (pv 1) (aa (pv 4) (aa (pv 7) ab)))))
   (ae (ak (i:=9) nd rfl (Or.inl rfl) (au W (g.mono (by decide)) rfl (aa (pv 4) (aa (pv 7) (aa (pv 8) ab)))))
   (ah (aV PassesOwn.never rfl (cG rfl B.range (aa af ab)) (az (i:=10) nd rfl (Or.inl rfl)) (ae (ak (i:=11) nd rfl (Or.inl rfl) (iX g.gd g.units B (aa (aN (aa (pv 4) (aa (pv 8) ab))) ab)))
   (ae (ak (i:=12) nd rfl (Or.inl rfl) (au t (g.mono (by decide)) rfl (aa (pv 4) (aa (pv 8) ab))))
   (ae (aZ (PW.pt (vH (ao (eS g.units) (iX g.gd g.units B (aa (pv 12) ab)) (iX g.gd g.units B (aa (pv 9) ab)) (aB _)) (vf (ao (eS g.units) (iX g.gd g.units B (aa (aN (aa (pv 4) (aa (pv 8) ab))) ab)) (pv 11) (aB _))))) (ah (aC rV)) aK)
   (ah (aZ (uO (vX K "list" B (aa (pv 12) (aa (uh B) ab)))) (ah (be (bZ K (pv 12) (aa af ab)))) aK)))))))))))
   (ah (aC rV)))))))),?_⟩
  refine⟨_,rfl,a,ns,rfl,hS,λp H1 hP k1 s1=>?_⟩;have S:O≠p:=av hT k1;have h7:TbK O H1:=⟨#[],trivial,s1 _ _ hT,.inl rfl⟩
  have v1:=hP.2;refine⟨_,rfl,p,a,14,rfl,hP,by decide,by decide,λr2 H2 l8 n1 v2 e2=>.int ?_⟩;have b2:=But.of_eq e2;refine⟨_,rfl,p,a,30,rfl,hP.but b2 v2,by decide,by decide,λr3 H3 m5 l5 v3 e3=>.int ?_⟩;have b3:=b2.trans (But.of_eq e3);refine aS ⟨(by show 2<=sizeLine;decide),λld f5=>?_⟩;have s4:=Same.new (o:=.lst [V.int (1+r2),V.int (1+r3)]) f5;have ed:upd H3 ld (.lst [V.int (1+r2),V.int (1+r3)]) ld=some (.lst [V.int (1+r2),V.int (1+r3)]):=ac;have v4:=aI s4 v3;have b4:=b3.trans (But.of_same (p:=p) s4);have k0:ld≠p:=Ne.symm (v3.ne f5);generalize upd H3 ld (.lst [V.int (1+r2),V.int (1+r3)])=H4 at ed v4 b4 ⊢;refine⟨_,rfl,p,a,8,rfl,hP.but b4 v4,by decide,by decide,λr5 H5 n3 l9 v5 e5=>.sc rfl (aS ⟨_,rfl,.bl ?_⟩)⟩;have b5:=b4.trans (But.of_eq e5);obtain⟨m,hm,m1,g0⟩:∃m:Nat,atI [V.int (1+r2),V.int (1+r3)] (if (if false=true then !decide (V.int r5=V.int 0) else decide (V.int r5=V.int 0))=true then 1 else 0)=some (.int (m:Int))/\1<=m/\m<=60:=by
   generalize (if false=true then !decide (V.int r5=V.int 0) else decide (V.int r5=V.int 0))=bb;cases bb
   ·obtain⟨m,hm⟩:=xc (show 0<=1+r2 by omega);exact⟨m,by rw[<- hm];rfl,by omega,by omega⟩
   ·obtain⟨m,hm⟩:=xc (show 0<=1+r3 by omega);exact⟨m,by rw[<- hm];rfl,by omega,by omega⟩
  refine .lst (.of ((e5 ld k0).trans ed)) hm ?_;refine⟨_,rfl,_,rfl,p,a,m,rfl,hP.but b5 v5,g0,λun us H6 h4 k6 k9 k5 _ g9 v6 k3=>?_⟩;have b6:=b5.trans k3;refine⟨_,rfl,_,rfl,_,rfl,p,a,5,rfl,hP.but b6 v6,by decide,by decide,λr7 H7 l3 m7 v7 e7=>?_⟩;have g5:=But.of_eq e7;have b7:=b6.trans g5;have g8:=g5 un _ g9 k5;refine aS ⟨p,a,un,us,r7,rfl,hP.but b7 v7,g8,g9,k6,k9,by omega,λq G ts ws wn H8 R T a3 wi c3 tl wl nl v8 i9=>?_⟩;have b8:=b7.trans i9;have h3:=h7.but b8 S v1;have SW:=qh T a3 wi (WnX.ok T c3) tl wl nl;obtain⟨q',ha,hb,l7,l0,e0,hq,R1,_⟩:=bW R;cases e0;obtain⟨l6,f9,e0,e4,rk⟩:=eJ R1;cases e0;refine⟨_,rfl,.tup (.of hq) rfl ⟨_,rfl,⟨_,.of e4⟩,?_⟩⟩;have f1:=rk.len;rw[wt] at f1;have m8:=T.few
  let h8:Addr->Nat->LV->SH:=λD i c1 b0 I=>∃o1 o2,b0=[o1,o2]/\c1=List.map V.str (((G.take i).filter λk=>!k.2.isEmpty).map (·.1))/\Same H8 I/\H8 D=none
  refine ck f9 h8 λD hD=>⟨?_,?_,?_,?_⟩
  ·exact⟨none,none,rfl,rfl,Same.new hD,hD⟩
  ·rintro i c1 b0 I _ ⟨o1,o2,rfl,_,sm,_⟩ _;exact .of (sm _ _ e4)
  ·rintro i c1 b0 I x hx ⟨o1,o2,rfl,rfl,sm,a9⟩ N;obtain⟨d,hd,rd⟩:=rk.get hx;rw[wN] at hd;obtain⟨kn,c5,rfl⟩:∃kn,G[i]? = some kn/\dH kn=d:=by
    cases z:G[i]? with
    | none=>rw[z] at hd;cases hd
    | some n=>rw[z] at hd;exact⟨n,rfl,wA hd⟩
   have m4:=(wv.mp c5).1;obtain⟨ta,la,rfl,k7,j0⟩:=gR rd;have L:((G.take (i+1)).filter λk=>!k.2.isEmpty)=((G.take i).filter λk=>!k.2.isEmpty)++(if (!kn.2.isEmpty)=true then [kn] else []):=by
    rw[wG,c5,xm];congr 1;show List.filter _ [kn]=_;rw[xv,xw]
   have al:((G.take i).filter λk=>!k.2.isEmpty).length<=i:=by
    have h2:=xn (λk:Str × LS=>!k.2.isEmpty) (G.take i);rw[xi] at h2;omega
   refine⟨ta,_,rfl,.of (sm _ _ k7),rfl,_,_,rfl,_,_,rfl,rfl,?_⟩;refine⟨_,rfl,(by show 0<=sizeLine;decide),λee j5=>?_⟩;have se:=Same.new (o:=.tup []) j5;refine⟨la,ee,_,rfl,rfl,.of (se _ _ (sm _ _ j0)),ac,⟨_,rfl,?_⟩⟩;have a8:=se _ _ N;have g7:=sm.trans se;have j8:(!(kn.2.map V.str).isEmpty)=!kn.2.isEmpty:=by cases kn.2 <;> rfl
   rw[j8];refine aF (λh1=>?_) (λh1=>?_)
   ·rw[if_pos h1] at L;refine⟨_,rfl,a8,by rw[wt,wt];exact aw (by omega),_,_,rfl,?_,aQ g7 a9,a9⟩;rw[L,wy,wy];rfl
   ·rw[if_neg h1,xa] at L;exact⟨a8,_,_,rfl,by rw[L],g7,a9⟩
  rintro c1 b0 H9 ⟨o1,o2,rfl,i1,s9,a9⟩ N;rw[f1,wI (wr _)] at i1;subst i1;have c6:∀z,z∈(G.filter λk=>!k.2.isEmpty).map (·.1)->∃Z∈G,Z.1=z/\Z.2≠[]:=λz hz=>by
   obtain⟨kn,c5,rfl⟩:=ww.mp hz;obtain⟨h1,h2⟩:=wV.mp c5;exact⟨kn,h1,rfl,λe=>by rw[e] at h2;cases h2⟩
  have c8:0<((G.filter λk=>!k.2.isEmpty).map (·.1)).length:=by
   obtain⟨u,hu⟩:∃u,u∈us:=by
    cases us with
    | nil=>simp at h4;omega
    | cons u l=>exact⟨u,by simp⟩
   obtain⟨Z,v,g4⟩:=T.has hu;refine List.length_pos_iff.mpr λe=>?_;have:Z.1∈(G.filter λk=>!k.2.isEmpty).map (·.1):=ww.mpr ⟨Z,wV.mpr ⟨v,by cases z:Z.2 with | nil=>rw[z] at g4;cases g4 | cons _ _=>rfl⟩,rfl⟩;rw[e] at this;cases this
  have f3:((G.filter λk=>!k.2.isEmpty).map (·.1)).length<=1000:=by
   rw[wt];have:=xn (λk:Str × LS=>!k.2.isEmpty) G;omega
  generalize (G.filter λk=>!k.2.isEmpty).map (·.1)=a5 at N c6 c8 f3;have v9:=aI s9 v8;have b9:=b8.trans (But.of_same (p:=p) s9);have c2:=h3.same s9;have a4:Pen K (cE O H9) p a:=ua c2 S (hP.but b9 v9);have RB:Rep (cE O H9) (.ref q) (aX G ts ws wn):=jh c2 (R.same s9);have a0:=fj N (c2.ne N (by intro ps z;cases z));have nD:D≠p:=Ne.symm (v8.ne a9);obtain⟨ys,d3⟩:=bX (ig S v9);have d1:(List.map V.str a5).length=a5.length:=wt ..;have d5:But p (cE O H9) H9:=λb u _ e=>(iG e).2;have kB:∀ {H I:Hp},But p (cE O H9) H->SameK O H I->But p (cE O H9) I:=λ{H I} b s=>butK b s;clear hP R rk e4 hq R1 b9 b8 h3 h7 v8;generalize cE O H9=HB at a4 RB a0 d3 d5 kB;refine⟨_,rfl,p,a,10,rfl,a4.but d5 v9,by decide,by decide,λrA HA m2 m0 vA eA=>.int (aS ⟨_,rfl,by omega,by omega,?_⟩)⟩
  let g2:Nat->SH:=λi σ I=>∃(o6 o7 o8 o9 Y a2 U:Option V),σ=[some (.ref a),some (.ref p),some (.int (m:Int)),some (.ref un),some (.ref q),some (.ref D),o6,o7,o8,o9,Y,a2,U]/\PenV I p a/\But p HB I/\TbK O I
  refine fb (R:=Q) g2 ?_ ?_ ?_
  ·exact⟨none,none,none,none,none,none,none,rfl,vA,d5.trans (But.of_eq eA),c2.but (But.of_eq eA) S v9⟩
  ·rintro _ i σ HC hi ⟨o6, o7, o8, o9, Y, a2, U, rfl, vC, bC, g1⟩;dsimp only[bp];refine⟨_,rfl,_,rfl,_,rfl,_,_,rfl,Or.inl ⟨_,.of (bC _ _ nD a0),rfl⟩,p,a,_,rfl,a4.but bC vC,by rw[d1];omega,by rw[d1];omega,λr1 HE j1 j9 vE eE=>?_⟩;rw[d1] at j9;have bE:=bC.trans (But.of_eq eE);have f0:=g1.but (But.of_eq eE) S vC;refine⟨by show 2<=sizeLine;decide,λl2 h9=>?_⟩;have sF:=Same.new (o:=.lst [V.int r1,V.int 0]) h9;have eF:upd HE l2 (.lst [V.int r1,V.int 0]) l2=some (.lst [V.int r1,V.int 0]):=ac;have vF:=aI sF vE;have bF:=bE.trans (But.of_same (p:=p) sF);have e8:=f0.same sF;have j7:l2≠p:=Ne.symm (vE.ne h9);generalize upd HE l2 (.lst [V.int r1,V.int 0])=HF at eF vF bF e8 ⊢;refine⟨_,rfl,p,a,3,rfl,a4.but bF vF,by decide,by decide,λc0 HG m9 n0 vG eG=>.sc rfl (aS ⟨_,rfl,.bl ?_⟩)⟩;have bG:=bF.trans (But.of_eq eG);have i0:=e8.but (But.of_eq eG) S vF;obtain⟨j,hj,f2⟩:∃j:Nat,atI [V.int r1,V.int 0] (if (if false=true then !decide (V.int c0=V.int 0) else decide (V.int c0=V.int 0))=true then 1 else 0)=some (.int (j:Int))/\j<a5.length:=by
    generalize (if false=true then !decide (V.int c0=V.int 0) else decide (V.int c0=V.int 0))=bb;cases bb
    ·obtain⟨j,rfl⟩:=xc j1;exact⟨j,rfl,by omega⟩
    ·exact⟨0,rfl,c8⟩
   refine .lst (.of ((eG l2 j7).trans eF)) hj (.lst (.of (bG _ _ nD a0)) (de f2) ?_);obtain⟨Z,v,j6,j4⟩:=c6 _ (cz f2);rw[<- j6];have RG:=dU d3 bG RB;have c7:Z.2.length<=60:=by
    have:=dg (cg T v) λu hu=>T.isIn v hu;have:=T.len;omega
   refine⟨_,rfl,_,rfl,_,rfl,p,a,q,us,G,ts,ws,wn,Z,rfl,a4.but bG vG,RG,T,a3,c3,tl,nl,v,j4,λX mn HI g6 i4 d4 mk m6 vI bI=>?_⟩;have h5:=bG.trans bI;have j3:=i0.but bI S vG;have RI:=dU d3 h5 RB;refine⟨_,rfl,_,rfl,_,rfl,q,X,us,G,ts,ws,wn,Z,mn,rfl,RI,T,a3,c3,tl,nl,v,g6,i4,d4,mk,λo z HJ sJ go gv=>?_⟩;have vJ:=aI sJ vI;have bJ:=h5.trans (But.of_same (p:=p) sJ);have b1:=j3.same sJ;have i5:=g6.same sJ;have h0:=jh b1 (mK gv);have RJ:=jh b1 (RI.same sJ);have d9:=ul b1 i5;have vO:=ig S vJ;have kJ:∀ {H I:Hp},Same (cE O HJ) H->SameK O H I->Same (cE O HJ) I:=λ{H I} b s=>vM b s;have f6:Same (cE O HJ) HJ:=λb u e=>(iG e).2;obtain⟨bb,e6⟩:=d9.seq;have SB:=qB T SW bb (mn:=mn) (λx hx=>T.isIn v (mk x hx)) (wM (d4.length_le_of_subset mk) c7);have ve:=fH (wn:=bz wn mn) T a3 v;have g3:∀x∈mn.map Z.2.idxOf,x<Z.2.length:=λx hx=>by
    obtain⟨y,hy,rfl⟩:=ww.mp hx;exact xG (mk y hy)
   have SR:=sV (wn:=bz wn mn) T a3 v c7 (gg ve) g3 go;clear i5 gv sJ RI RG i0 e8 f0 g1 bG bF bE bC;generalize cE O HJ=HO at h0 RJ d9 vO kJ f6 e6;refine⟨_,rfl,by decide,by decide,?_⟩
   let f4:Nat->SH:=λj σ I=>∃(Y a2 U:Option V),σ=[some (.ref a),some (.ref p),some (.int (m:Int)),some (.ref un),some (.ref q),some (.ref D),some (.int (0+(i:Int))),some (.str Z.1),some (.ref X),some z,Y,a2,U]/\Same HO I/\But p HB I/\TbK O I
   refine fb (R:=Q) f4 ?_ ?_ ?_
   ·exact⟨_,_,_,rfl,f6,bJ,b1⟩
   ·rintro _ j2 σ HK l4 ⟨Y, a2, U, rfl, sK, bK, a7⟩;dsimp only[bp];refine⟨_,rfl,_,rfl,by show 2<=sizeLine;decide,λtt h6=>aS ⟨_,rfl,.tr (lh (RJ.same sK) (λs r=>e6 (sK.trans s) r) h6) SB.sb SB.hd SB.dp SB.ln ?_⟩⟩;have sT:=Same.new (o:=.tup [V.ref q,V.ref X]) h6;have a6:=sK.trans sT;have d2:=bK.trans (But.of_same (p:=p) sT);have c9:=a7.same sT;generalize upd HK tt (.tup [V.ref q,V.ref X])=HL at a6 d2 c9 ⊢;generalize k8:(PyData.tuple [aX G ts ws wn,ik bb (mn.map PyData.str)]).shown=sh;refine⟨_,rfl,_,rfl,q,X,us,G,ts,ws,wn,Z,mn,rfl,RJ.same a6,T,a3,c3,tl,nl,v,d9.same a6,i4,d4,mk,c9,λo2 z2 HM sM k2 hz i6 f8=>?_⟩;have eo:=i6.uniq go;subst eo;have c4:=kJ a6 sM;have i7:=kB d2 sM;refine⟨_,rfl,_,rfl,.tr (mK f8) SR.sb SR.hd SR.dp SR.ln ⟨_,rfl,_,rfl,.tr (h0.same c4) SR.sb SR.hd SR.dp SR.ln ?_⟩⟩;generalize (nq G ts (bz wn mn) Z o2).shown=sr;refine .sc rfl ⟨_,rfl,?_⟩;refine aF (λh=>?_) (λ_=>?_)
    ·exact absurd h rL
    refine⟨_,rfl,_,rfl,by show 2<=sizeLine;decide,λt3 i2=>aS ⟨_,rfl,.tr (lh (RJ.same c4) (λs r=>e6 (c4.trans s) r) i2) SB.sb SB.hd SB.dp SB.ln ?_⟩⟩;have s3:=Same.new (o:=.tup [V.ref q,V.ref X]) i2;have d7:=c4.trans s3;have e1:=i7.trans (But.of_same (p:=p) s3);have d6:=k2.same s3;have e9:=f8.same s3;generalize upd HM t3 (.tup [V.ref q,V.ref X])=HN at d7 e1 d6 e9 ⊢;rw[k8];refine⟨_,rfl,.sc rfl ⟨_,rfl,?_⟩⟩;refine aF (λh=>?_) (λ_=>?_)
    ·exact absurd h rL
    cases o2 with
    | none =>
     have ex:z2=.non:=e9;subst ex;refine⟨_,rfl,_,_,false,rfl,.non,rfl,_,rfl,?_⟩;refine cY ?_;exact⟨_,_,_,rfl,d7,e1,d6⟩
    | some r =>
     obtain⟨l,k4,rfl,hl,rp⟩:=e9;have rl:=rp.len;refine⟨_,rfl,_,_,true,rfl,.lst hl,rfl,_,rfl,?_⟩;refine rq ?_;have l1:k4.length<=100:=by
      rw[rl];unfold fu;obtain⟨h1,_,_⟩:=gY (cg T v) (λs hs=>T.nm _ (T.isIn v hs)) (gg ve) g3 go;rw[wt,xx,wt];omega
     have d8:=hz l rfl;have d0:HO l=none:=bu a6 d8;refine⟨_,rfl,.inl ⟨rfl,_,.of hl⟩,l,_,_,rfl,rfl,hl,aw (by omega),?_⟩;refine⟨_,_,_,rfl,aQ d7 d0,?_,d6.upd hl⟩;by_cases f7:l=p
     ·obtain⟨i3,m3,e3,_⟩:=vO;rw[f7] at d0;rw[d0] at e3;cases e3
     ·refine iU ?_ e1;cases zz:HB l with
      | none=>rfl
      | some u=>rw[d2 l u f7 zz] at d8;cases d8
   ·rintro σ HK ⟨Y,a2,U,rfl,sK,bK,a7⟩;exact⟨_,_,_,_,_,_,_,rfl,aI sK vO,bK,a7⟩
  ·rintro σ HC ⟨o6,o7,o8,o9,Y,a2,U,rfl,_⟩;exact k HC
theorem ar1 {us:List Value}(h:us.length=1):∃a,us=[a]:=List.length_eq_one_iff.mp h
theorem ar2 {us:List Value}(h:us.length=2):∃z q,us=[z,q]:=by
 obtain⟨z,t,rfl⟩:=yn h;obtain⟨q,rfl⟩:=ar1 (Nat.succ.inj h);exact⟨z,q,rfl⟩
theorem ar3 {us:List Value}(h:us.length=3):∃z q B,us=[z,q,B]:=by
 obtain⟨z,t,rfl⟩:=yn h;obtain⟨q,B,rfl⟩:=ar2 (Nat.succ.inj h);exact⟨z,q,B,rfl⟩
theorem ar4 {us:List Value}(h:us.length=4):∃q z G B,us=[q,z,G,B]:=by
 obtain⟨q,t,rfl⟩:=yn h;obtain⟨z,G,B,rfl⟩:=ar3 (Nat.succ.inj h);exact⟨q,z,G,B,rfl⟩
structure FH (K:W.Frag) (mg:MS) (n:Str) (st:Stmt) (f:Addr) (fd:FuncData):Prop where
 F:Fun K n n st f fd
 g:mg n=some (.ref f)
theorem fh_mk {K:W.Frag}{h:Heap}{mg:MS}{n:Str}{st:Stmt}{f:Addr}{od q:Option Addr}{I:Array (OV)}{J kV z B cd ct:Value}(X:K.In h) (G:h.Ns mainGlobals mg) (a:W.nsIn K mainGlobals n=some (some (.ref f)))
    (l:K.lookup f=some ⟨J,od,.func (W.fnOf n n (dO st) (bY st) (aj st) .none kV z B q cd ct),I⟩) (c:W.codeIn K cd n=true) (k:W.keepIn K (.ref f)=true) :
    FH K mg n st f (W.fnOf n n (dO st) (bY st) (aj st) .none kV z B q cd ct):=⟨vg l c k,W.mg_of X G a⟩
section
variable {K:W.Frag}{mg:MS}{n:Str}{st:Stmt}{f:Addr}{fd:FuncData}{r:Nat}{sp:Sp}
theorem FH.cl (h:FH K mg n st f fd) (l:W.OpenLaw) (w:World) (a:Heap) {ps:LS}(o:FnOk l.prog w K mg a CX0 r f fd ps sp) (b:∀(kV z G:Value) (B:Option Addr) (q ct:Value) (us:List Value),us.length=ps.length->bindArgs (W.fnOf n n (dO st) (bY st) (aj st) .none kV z G B q ct) ⟨us,[]⟩=pure (ps.zip us):=by intro _ _ _ _ _ _ us hl;first | (obtain⟨_,rfl⟩:=ar1 hl;rfl) | (obtain⟨_,_,rfl⟩:=ar2 hl;rfl) | (obtain⟨_,_,_,rfl⟩:=ar3 hl;rfl) | (obtain⟨_,_,_,_,rfl⟩:=ar4 hl;rfl)):Cal l.prog w K mg a r n ps sp:=⟨_,_,o,h.g,h.F.kp,h.F.binds b⟩
end
theorem rM {K:W.Frag}{h:Heap}{c J:Addr}{I:Obj}{z:Array Value}{B:Str}{U tg O:Tok}{q text:Int}{G:Bool}(l:K.lookup c=some I) (d:I.cls=.type "code") (e:I.data=.fields z) (g:z[11]? = some (.ref J)) (b:z.getD 11 .none=.ref J) (j:z.getD 18 .none=.str B U) (f:z.getD 7 .none=.int q tg) (i:z.getD 9 .none=.bool G) (a:z.getD 10 .none=.int text O) (k:c≠J) (X:K.In h):W.CodeHd h c J:=⟨I,z,B,U,q,tg,G,text,O,X _ _ l,d,e,g,b,j,f,i,a,k⟩
theorem hd_ex {K:W.Frag}{h:Heap}{O:Addr}{x:FuncData}{oc:Value}{od:Option Addr}{sl:Array (OV)}{c G:Addr}{I:Obj}{q:Array Value}{B:Str}{U tg Y:Tok}{z text:Int}{J:Bool}(X:K.In h) (m:W.nsIn K mainGlobals "way_between"=some (some (.ref O))) (o:K.lookup O=some ⟨oc,od,.func x,sl⟩) (n:x.code=.ref c) (l:K.lookup c=some I) (i:I.cls=.type "code") (j:I.data=.fields q) (k:q[11]? = some (.ref G)) (g:q.getD 11 .none=.ref G) (e:q.getD 18 .none=.str B U) (b:q.getD 7 .none=.int z tg) (d:q.getD 9 .none=.bool J) (a:q.getD 10 .none=.int text Y) (f:c≠G):∃c,W.CodeHd h c G:=⟨c,rM l i j k g e b d a f X⟩
theorem all_mk {l:W.OpenLaw}{w:World}{K:W.Frag}{h:Heap}{mg:MS}{fa f1 f2 f3 f4 f5 f6 f7 f8 f9 k8 k2 j9 g2 m5 e1 l1 e8 k4 e4 i5 k1 h0 l6 l5 l0 g6 m1 e9 e5 g8 m3 l7 j1 i4 i1 i7 g3:Addr}{d1 d2 d3 d4 d5 d6 d7 d8 d9 j8 j4 g7 g4 g0 l2 k7 m6 k6 j5 a6 l4 g9 l9 i9 m0 f0 g1 k3 e7 j7 i6 m4 l8 e6 l3 e3 k9:FuncData}(X:K.In h) (G:h.Ns mainGlobals mg) (k0:mg "law"=some (.ref fa))
    (h1:FH K mg "nexts" gJ f1 d1)
    (h2:FH K mg "priors" fT f2 d2)
    (h3:FH K mg "places_of" eQ f3 d3)
    (h4:FH K mg "first_nearer" gX f4 d4)
    (h5:FH K mg "priors_of_all" gm f5 d5)
    (h6:FH K mg "steps_from" kR f6 d6)
    (h7:FH K mg "knot_of" jj f7 d7)
    (h8:FH K mg "children" gG f8 d8)
    (h9:FH K mg "homes" kx f9 d9)
    (d0:FH K mg "parting_by" gn k8 j8)
    (b4:FH K mg "line_down" gC k2 j4)
    (c9:FH K mg "view" ni j9 g7)
    (b5:FH K mg "kept_partings" dF g2 g4)
    (b1:FH K mg "view_by" ff m5 g0)
    (c2:FH K mg "wanted" gU e1 l2)
    (b7:FH K mg "ring_of_group" fy l1 k7)
    (c0:FH K mg "steps_along" eK e8 m6)
    (a8:FH K mg "step_of" jo k4 k6)
    (c4:FH K mg "without_wants_of" dj e4 j5)
    (a7:FH K mg "way_between" cr i5 a6)
    (c1:FH K mg "_law_pen" rz k1 l4)
    (c7:FH K mg "_law_draw" nL h0 g9)
    (a4:FH K mg "_law_names" cP l6 l9)
    (b0:FH K mg "_law_tree" kj l5 i9)
    (a2:FH K mg "_law_around" jl l0 m0)
    (b6:FH K mg "_law_path" no g6 f0)
    (b9:FH K mg "_law_parting" fM m1 g1)
    (c3:FH K mg "_law_edges" iK e9 k3)
    (Z:FH K mg "_law_reached" gj e5 e7)
    (a5:FH K mg "_law_wants" kS g8 j7)
    (b8:FH K mg "_law_kept" nQ m3 i6)
    (a9:FH K mg "_law_waiting" ia l7 m4)
    (c5:FH K mg "_law_house" kI j1 l8)
    (c8:FH K mg "_law_step" nr i4 e6)
    (c6:FH K mg "_law_due" ji i1 l3)
    (b2:FH K mg "_law_members" gh i7 e3)
    (b3:FH K mg "law" hY g3 k9)
    (B:Blt mg) (T:mg "zip"=none)
    {c Pt:Addr} {o2:Obj} {ws:Array Value} {e0:Str} {tf tg tt:Tok} {a1 text:Int} {j6:Bool} (eZ:a6.code=.ref c) (lZ:K.lookup c=some o2) (j2:o2.cls=.type "code") (j3:o2.data=.fields ws) (m2:ws[11]? = some (.ref Pt)) (i0:ws.getD 11 .none=.ref Pt) (i8:ws.getD 18 .none=.str e0 tf) (k5:ws.getD 7 .none=.int a1 tg) (e2:ws.getD 9 .none=.bool j6) (i3:ws.getD 10 .none=.int text tt) (j0:c≠Pt)
    : ∃fd:FuncData,(∀(s:Shared) (v:Value),BindsTo s fd ⟨[v],[]⟩ [("_law_script",v)])/\∀base:Heap,K.In base->base.Ns mainGlobals mg->base.BuiltinsAt mg Pt->FnOk l.prog w K mg base CX0 6 fa fd ["_law_script"] (mZ Pt K):=by
 have e:=k0.symm.trans b3.g;cases e;have a3:=b3.F;obtain⟨_,_,kV,dc,pm,an,cd,ct,_,rfl,_,_⟩:=a3.ex;refine⟨W.fnOf "law" "law" (dO hY) (bY hY) (aj hY) .none kV dc pm an cd ct,λs v=>.of_eq rfl,λbase XB GB g5=>?_⟩;have hC:=eZ;have i2:=λ(h:Heap) (XH:K.In h)=>rM lZ j2 j3 m2 i0 i8 k5 e2 i3 j0 XH;have N:=c1.cl l w base (tm c1.F B);have a:=c7.cl l w base (tZ c7.F B);have D:=a4.cl l w base (rj a4.F B a);have d:=a2.cl l w base (pB a2.F B);have J:=b6.cl l w base (sP b6.F B);have b:=b9.cl l w base (rE b9.F B J);have O:=h9.cl l w base (ro h9.F B);have I:=b4.cl l w base (tQ b4.F B);have z:=d0.cl l w base (ou d0.F B T I);have F:=b0.cl l w base (sY b0.F B a);have o:=Z.cl l w base (oq Z.F B);have C:=a5.cl l w base (qC a5.F B a);have E:=b8.cl l w base (sN b8.F B a d b);have f:=c3.cl l w base (qr c3.F B d b);have q:=a9.cl l w base (nK a9.F B a d b f o);have x:=c5.cl l w base (qT c5.F B a F C E q);have M:=h8.cl l w base (lH h8.F B);have U:=c2.cl l w base (oR c2.F B);have L:=h3.cl l w base (nM h3.F B);have g:=b5.cl l w base (qX b5.F B O z);have S:=b1.cl l w base (oT b1.F B M U L);have a0:=c9.cl l w base (tG c9.F B S g);have j:=h3.cl l w base (nA h3.F B);have Y:=h1.cl l w base (rB h1.F B j);have V:=h2.cl l w base (ow h2.F B j);have R:=h7.cl l w base (oN h7.F B O);have Q:=a8.cl l w base (pd a8.F B T);have u:=c0.cl l w base (qa c0.F B T g Q);have H:=c8.cl l w base (qw c8.F B d b);have n:=Z.cl l w base (lN Z.F B);have p:=b2.cl l w base (ol b2.F B a f n);have P:=c6.cl l w base (tu c6.F B T f H);have A:=h3.cl l w base (nV h3.F B);have k:=h5.cl l w base (qD h5.F B V);have y:=h6.cl l w base (pU h6.F B);have r:=h4.cl l w base (pS h4.F B Y);have i:=c4.cl l w base (nU c4.F B);have t:=a7.cl l w base (su a7.F hC i2 g5 B y k A r);have m:=b7.cl l w base (q5 b7.F B R i a0 t u);exact vd a3 B N a D x p P m
theorem walk {l:W.OpenLaw}{q:Program}{B:LS}{XP:(Str -> OV) -> Heap -> Prop}{O:World -> Heap -> Prop}{d:DefRec}{K:Params -> W.Frag}{I:Addr}(y:l.most=some 63) (m:d.params.defaults=[])
    (Q:∀(w:World) (h:Heap),O w h->(K w.params).In h) (t:∀(w:World) (h:Heap),O w h->h.get? I=some (W.tabObj #[])) (n:∀w:World,(K w.params).lookup I=none) (M:∀(w:World) (h:Heap),(K w.params).In h->∃c,W.CodeHd h c I)
    (F:∀(w:World) (mg:MS) (J:Addr) (h:Heap),(K w.params).In h->h.Ns mainGlobals mg->mg d.name=some (.ref J) ->
     ∃fd:FuncData,(∀(s:Shared) (u:Value),BindsTo s fd ⟨[u],[]⟩ [("_law_script",u)])/\∀base:Heap,(K w.params).In base->base.Ns mainGlobals mg->base.BuiltinsAt mg I->FnOk l.prog w (K w.params) mg base CX0 6 J fd ["_law_script"] (mZ I (K w.params))) :
    W.WalkO q B XP O l.row.toRowW d [] (λf U=>PySem.call f U):=by
 refine Att.attach_call y m λw r p mg Z J o T V x a U P G Y R S A j g b i D=>?_;have k:=Q w _ Y;obtain⟨fd,L,v⟩:=F w mg J _ k G.T.g j;obtain⟨c,E⟩:=M w _ k;exact oP k G.T.g G.T.b G.T.builtins G.T.nolimit D G.T.bmain (t w _ Y) (n w) E g b (wM i (by decide)) ⟨rfl,by decide,by decide,rfl⟩ v L (λH C N=>⟨a,P,rfl,N,C,λ_=>rfl⟩) λH e X z=>z
end
end K43
open PySem PySem.W PyProof.Rows
set_option maxRecDepth 100000 in
set_option maxHeartbeats 0 in
theorem PySem.Challenge.cw_orderkeep_k43_rings_of_groups_holds : PySem.Challenge.rw_orderkeep_k43_rings_of_groups.Holds := by
 w_on;o_law;k_head;(case hw=>w_witness2)
 k_fill
 refine K43.walk (l:=PySem.Challenge.rw_orderkeep_k43_rings_of_groups) rfl rfl (λw h Y=>Y.1) (λw h Y=>Y.2 _ (.head _)) ?KP ?HC ?F
 case KP=>exact λw=>rfl
 case HC =>
  intro w h KX;refine' K43.hd_ex KX ?a1 ?l1 ?eZ ?lZ ?qZ1 ?qZ2 ?qZ3 ?qZ4 ?qZ5 ?qZ6 ?qZ7 ?qZ8 ?qZ9
  (case a1=>k_is)
  (case l1=>k_is)
  (case eZ=>exact rfl)
  (case lZ=>k_is)
  (case qZ1=>exact rfl)
  (case qZ2=>exact rfl)
  (case qZ3=>exact rfl)
  (case qZ4=>exact rfl)
  (case qZ5=>exact rfl)
  (case qZ6=>exact rfl)
  (case qZ7=>exact rfl)
  (case qZ8=>exact rfl)
  (case qZ9=>decide)
 case F =>
  intro w mg fa h KX G hmg;refine' K43.all_mk KX G hmg (K43.fh_mk KX G ?_ ?_ ?_ ?_) (K43.fh_mk KX G ?_ ?_ ?_ ?_) (K43.fh_mk KX G ?_ ?_ ?_ ?_) (K43.fh_mk KX G ?_ ?_ ?_ ?_) (K43.fh_mk KX G ?_ ?_ ?_ ?_) (K43.fh_mk KX G ?_ ?_ ?_ ?_) (K43.fh_mk KX G ?_ ?_ ?_ ?_) (K43.fh_mk KX G ?_ ?_ ?_ ?_) (K43.fh_mk KX G ?_ ?_ ?_ ?_) (K43.fh_mk KX G ?_ ?_ ?_ ?_) (K43.fh_mk KX G ?_ ?_ ?_ ?_) (K43.fh_mk KX G ?_ ?_ ?_ ?_) (K43.fh_mk KX G ?_ ?_ ?_ ?_) (K43.fh_mk KX G ?_ ?_ ?_ ?_) (K43.fh_mk KX G ?_ ?_ ?_ ?_) (K43.fh_mk KX G ?_ ?_ ?_ ?_) (K43.fh_mk KX G ?_ ?_ ?_ ?_) (K43.fh_mk KX G ?_ ?_ ?_ ?_) (K43.fh_mk KX G ?_ ?_ ?_ ?_) (K43.fh_mk KX G ?aW ?lW ?cW ?kW) (K43.fh_mk KX G ?_ ?_ ?_ ?_) (K43.fh_mk KX G ?_ ?_ ?_ ?_) (K43.fh_mk KX G ?_ ?_ ?_ ?_) (K43.fh_mk KX G ?_ ?_ ?_ ?_) (K43.fh_mk KX G ?_ ?_ ?_ ?_) (K43.fh_mk KX G ?_ ?_ ?_ ?_) (K43.fh_mk KX G ?_ ?_ ?_ ?_) (K43.fh_mk KX G ?_ ?_ ?_ ?_) (K43.fh_mk KX G ?_ ?_ ?_ ?_) (K43.fh_mk KX G ?_ ?_ ?_ ?_) (K43.fh_mk KX G ?_ ?_ ?_ ?_) (K43.fh_mk KX G ?_ ?_ ?_ ?_) (K43.fh_mk KX G ?_ ?_ ?_ ?_) (K43.fh_mk KX G ?_ ?_ ?_ ?_) (K43.fh_mk KX G ?_ ?_ ?_ ?_) (K43.fh_mk KX G ?_ ?_ ?_ ?_) (K43.fh_mk KX G ?_ ?_ ?_ ?_) ⟨W.mg_none_of KX G ?_,W.mg_none_of KX G ?_,W.mg_none_of KX G ?_,W.mg_none_of KX G ?_,W.mg_none_of KX G ?_,W.mg_none_of KX G ?_,W.mg_none_of KX G ?_,W.mg_none_of KX G ?_,W.mg_none_of KX G ?_,W.mg_none_of KX G ?_,W.mg_none_of KX G ?_,W.mg_none_of KX G ?_,W.mg_none_of KX G ?_,W.mg_none_of KX G ?_,W.mg_none_of KX G ?_⟩ (W.mg_none_of KX G ?_)  ?eZ ?lZ ?qZ1 ?qZ2 ?qZ3 ?qZ4 ?qZ5 ?qZ6 ?qZ7 ?qZ8 ?qZ9
  (case aW=>k_is)
  (case lW=>k_is)
  (case eZ=>exact rfl)
  (case lZ=>k_is)
  (case qZ1=>exact rfl)
  (case qZ2=>exact rfl)
  (case qZ3=>exact rfl)
  (case qZ4=>exact rfl)
  (case qZ5=>exact rfl)
  (case qZ6=>exact rfl)
  (case qZ7=>exact rfl)
  (case qZ8=>exact rfl)
  (case qZ9=>decide)
  all_goals try k_is
  all_goals try kernel_rfl
  all_goals exact rfl
end
