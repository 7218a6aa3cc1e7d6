import PyProof.Rows.All
import Wide.All
import OpenK.AllK
import Wide.FinOn
import Lean
import PyProof.EqAt
import PyProof.EqKinds
import PyProof.TupleCall
import PyProof.Rows.SumAny
import PyProof.StationsW
import PyProof.ExcClass3
import OpenK.KOwn
import KE.KTryDeep
import KE.KIsAll
import PyProof.ExcAttrAll.ValueError
import PyProof.ExcBaseAll.ValueError
import PyProof.InstStoreFacts
import PyProof.RulesTry
import PyProof.Rows.SortStr
import PyProof.TupleOfSeq
import KE.KxWritten
import PyProof.Conv_bool
import KE.KStrOpen
import PyProof.Rows.FStr
import PyProof.SetRoads
import PyProof.DictKinds
import PyProof.Rows.Range3
import PyProof.FactsAll.tuple_2
import PyProof.CollectIter
import PyProof.TupleOfGen
import KE.KSortTup
import PyProof.AttrMissHeap
import KE.KDictOf
import PyProof.StrOps2
import PyProof.DictWalks
import KE.KDictList
import PyProof.Rows.ZipGen
import PySem.Challenge.RW_orderkeep_k39_orders_and_waiting_ties
namespace PySem.W.Fast
def tw12012915654715403940:=0
def tw531843693103716824:=0
def tw15746395459445191202:=0
def tw13400569282935137675:=0
def tw3505401524416113588:=0
def tw10028105555816398980:=0
def tw11173114882817960373:=0
def tw2370469456665781667:=0
def tw6526850808479019812:=0
def tw1638332158221807106:=0
def tw14092400466388053627:=0
def tw8867752357602547551:=0
def tw7374496672193936676:=0
def tw12302306850772210244:=0
def tw6089546425686504158:=0
def tw2854537119621256861:=0
def tw10666945585225735462:=0
def tw426920188550098157:=0
def tw11953674843608310009:=0
def tw13131195270583173081:=0
def tw6030514873807413411:=0
def tw775285475602493575:=0
def tw5220703797751650294:=0
def tw7933002922109690269:=0
def tw11915982420045807039:=0
def tw4100222363229417243:=0
def tw11600523534140719322:=0
def tw1481401189368051461:=0
def tw18258899982530198103:=0
def tw10105365819728664479:=0
def tw4330599281655803964:=0
def tw8596709755659645637:=0
def tw4613422748909635924:=0
def tw9180908254335011276:=0
def tw17179588413564567167:=0
def tw11845815787943818176:=0
def tw3551257306418384688:=0
def tw5203267182041379869:=0
def tw14429787457964039576:=0
def tw18222284154630736650:=0
def tw10000132626799688470:=0
def tw265010999111482783:=0
def tw10329787935284740285:=0
def tw17417183179796946589:=0
def tw10728403976918300014:=0
def tw10942668756388682405:=0
def tw13695270804724659790:=0
def tw5817388215652623211:=0
def tw12074946446872477412:=0
def tw4848155488273577967:=0
def tw8292318410459172974:=0
def tw4283464072192302369:=0
def tw16693807332198978254:=0
def tw197787140193397665:=0
def tw5275258703819277587:=0
def tw6884305025080589707:=0
def tw10786141269181020273:=0
def tw5379437805745995004:=0
def tw10262049705829646722:=0
def tw17767564909773826126:=0
def tw911424987059947513:=0
def tw11726666705343423814:=0
def tw1765043772827668699:=0
def tw17590602867416777361:=0
def tw12152521402367835252:=0
def tw6286978974355874083:=0
def tw13915145876334724998:=0
def tw12159759203139066096:=0
def tw14499662740921927029:=0
def tw784092709374532103:=0
def tw5288644507194992322:=0
def tw17129663690038136308:=0
def tw13325943435870722343:=0
def tw1619085468152458869:=0
def tw16555121244099409313:=0
def tw3701011059965132383:=0
def tw3797025693110168494:=0
def tw9797717944434066863:=0
def tw17444584870749520084:=0
def tw9815505097060481877:=0
def tw7488050792463279749:=0
def tw13176099260365299940:=0
def tw1733860562300521696:=0
def tw4449289461465317775:=0
def tw476817486169151222:=0
def tw16256215125887944997:=0
def tw12037135580847346999:=0
def tw6701103223366220988:=0
def tw5146664370768287352:=0
def tw1977777399449489148:=0
def tw5927784112019408582:=0
def tw12623853213602484355:=0
def tw7973536412524684360:=0
def tw13748780312371624873:=0
def tw6141435399477636734:=0
def tw2422068919316599461:=0
def tw7504682968427635854:=0
def tw6271390021087642614:=0
def tw7435345827172175752:=0
def tw16706935957748680851:=0
def tw1484515739636955666:=0
def tw15817662590199826099:=0
def tw3502056746122404130:=0
def tw3786183907877570765:=0
def tw11277967833790834429:=0
def tw18361290947232322562:=0
def tw3209198591326873515:=0
def tw18154684286306894588:=0
def tw6789067318925018696:=0
def tw431199351742559068:=0
def tw9077022812854593542:=0
def tw7029461763896045740:=0
def tw7123005776157899957:=0
def tw16400360130880220883:=0
def tw6768199186583141217:=0
def tw15723123536774453987:=0
def tw8671773646365064201:=0
def tw241444166087136644:=0
def tw845595941327966873:=0
def tw7688012416886296083:=0
def tw2955606614732255126:=0
def tw8392813103507180918:=0
def tw18002212551360399522:=0
def tw18017774514075799188:=0
def tw3794339136610395134:=0
def tw4647323728026714128:=0
def tw9002481258931384645:=0
def tw17643595064283244048:=0
def tw4788769842084315691:=0
def tw18092777621774216156:=0
def tw4352002623318152493:=0
def tw721741016525526861:=0
def tw3693670333730910435:=0
def tw12845620018244169106:=0
def tw14855549159546668990:=0
def tw4469912575752225096:=0
def tw1033142192549361673:=0
def tw11735867733642536332:=0
def tw3558233398513064433:=0
def tw13482785567426170677:=0
def tw13867110947240153184:=0
def tw18436355760013320194:=0
def tw1487642104492205649:=0
def tw12261722956194482056:=0
def tw9669303100968105516:=0
def tw4368754905788531275:=0
def tw11894093293286592572:=0
def tw3305877132794119993:=0
def tw7132540685870381827:=0
def tw12181568877292987665:=0
def tw6284042838540509954:=0
def tw5320597503525240705:=0
def tw1718785189669852337:=0
def tw6621268036264885317:=0
def tw2355664499464858714:=0
def tw16188898465985469063:=0
def tw9153296411027325199:=0
def tw7912569699172078103:=0
def tw9295877398383473764:=0
def tw10333677660506090364:=0
def tw161906090151814865:=0
def tw13463706384939634009:=0
def tw12843126730753914605:=0
def tw9872105013379649005:=0
def tw6671960078027479973:=0
def tw4798738393496479784:=0
def tw1359828417589484382:=0
def tw2247354709108545995:=0
def tw18437988668916888204:=0
def tw282895465235917454:=0
def tw11256398790264768944:=0
def tw3375536663919015020:=0
def tw10736191851421572136:=0
def tw8046708571126795330:=0
def tw8679748427565943719:=0
def tw17236003347940007728:=0
def tw14327940537596740259:=0
def tw4793628859317984553:=0
def tw6634702008413561537:=0
def tw297315860328785974:=0
def tw15955734167066075134:=0
def tw14587602073477681832:=0
def tw9248424658186519141:=0
def tw6847358586643189753:=0
def tw2708845648862107388:=0
def tw3441503662977059026:=0
def tw17382094299794145277:=0
def tw4932371229581804723:=0
def tw13657124543553445998:=0
def tw676988530934687977:=0
def tw13872651720337867617:=0
def tw6508198795895471401:=0
def tw12691745034688677437:=0
def tw1506760446691564978:=0
def tw3264403392636152118:=0
def tw12997742535383078727:=0
def tw12169403303387649599:=0
def tw13492745681491807974:=0
def tw3771983819800412829:=0
def tw9386385719366122434:=0
def tw18444183717813884616:=0
def tw17449034366274767810:=0
def tw17654418962451379893:=0
def tw1188346314725176178:=0
def tw7965706196600698673:=0
def tw6742788550536901954:=0
def tw2974708040242929722:=0
def tw5773468641178936720:=0
def tw14109166369023301293:=0
def tw5257663229511833637:=0
def tw10285277637437537689:=0
def tw12134367675486958394:=0
def tw6890379800348659432:=0
def tw10564647633359751101:=0
def tw17463817272574324091:=0
def tw13014402477348632685:=0
def tw6859700718878340771:=0
def tw14630458497200331391:=0
def tw5097608058527986472:=0
def tw10662547873207354307:=0
def tw9479271897832014974:=0
def tw9952432431407000143:=0
def tw8971264208584886983:=0
def tw11700936734339006523:=0
def tw645402751221006042:=0
def tw10101903623953007986:=0
def tw15197181064169732085:=0
def tw2558360349372493045:=0
def tw639037855708455514:=0
def tw10660376373020808701:=0
def tw11199415275555594444:=0
def tw15195206700528709996:=0
def tw3888146347380608767:=0
def tw18124190489250551338:=0
def tw85957123124439490:=0
def tw7989653531594586692:=0
def tw1437023384099306972:=0
def tw1825790219995015023:=0
def tw318358881851220270:=0
def tw14802159981803858807:=0
def tw5395643657039035173:=0
def tw4813988440293266516:=0
def tw6363889592466912789:=0
def tw8016304588010205517:=0
def tw13723439671970982455:=0
def tw18174256297925867235:=0
def tw12500246205026353864:=0
def tw11739776143021348465:=0
def tw10877346668699027261:=0
def tw3904941577452671382:=0
def tw6397823695328146673:=0
def tw12990754801819878485:=0
def tw8813499458215427307:=0
def tw11351890003618790868:=0
def tw7680307203295440053:=0
def tw2527794186780523836:=0
def tw14657006142629783505:=0
def tw9357987391825750298:=0
def tw12214863834895903245:=0
def tw4091189100051324764:=0
def tw9878183908286967713:=0
def tw4092563884179138466:=0
def tw2404954922750563658:=0
def tw1634479333634134618:=0
def tw11911256418401731859:=0
def tw9843638743724492796:=0
def tw9803338246071981060:=0
def tw4121809845475650865:=0
def tw9564329470026990732:=0
def tw11251642044712057532:=0
def tw13090388676483534648:=0
def tw17599202832673709343:=0
def tw12439081876014287988:=0
def tw18169241419303936094:=0
def tw7576942934372855092:=0
def tw5626710538487181477:=0
def tw5372002796327776007:=0
def tw5971954945777972425:=0
def tw6511181885844338621:=0
def tw17310817077388108221:=0
def tw1071584353038427055:=0
def tw13223183796910071689:=0
def tw15579333297249280701:=0
def tw18406788644075458702:=0
def tw3428888889899780741:=0
def tw3659909274190446351:=0
def tw2754261864615452299:=0
def tw10089726355655388936:=0
def tw12330373845515118276:=0
def tw16291207181703636721:=0
def tw7126588612267121384:=0
def tw16819541630398035634:=0
def tw1179070787484803650:=0
def tw17339901510639839914:=0
def tw5154448884755237050:=0
def tw1644254499079864608:=0
def tw18060234817799447073:=0
def tw11178341497692721722:=0
def tw13908861116307839270:=0
def tw17199242672010041154:=0
def tw11184596439189645771:=0
def tw17720881934255184365:=0
def tw17040526145709701261:=0
def tw16284314439924909271:=0
def tw2211270537915835624:=0
def tw7536568504926315164:=0
def tw5190458090310056210:=0
def tw3902540601865027931:=0
def tw4584989930284888109:=0
def tw2543218003802702156:=0
def tw18230265757098678109:=0
def tw4337409487213334578:=0
def tw16509155580062281432:=0
def tw15010500279756921934:=0
def tw5216259773418751106:=0
def tw8146971263536756412:=0
def tw13755694686361269742:=0
def tw16079050107492814556:=0
def tw6137242494951668327:=0
def tw1383506133598284137:=0
def tw9465026816899824351:=0
def tw7264332667987971724:=0
def tw2026850163120465462:=0
def tw14891557962096749697:=0
end PySem.W.Fast
noncomputable section
set_option autoImplicit true
set_option Elab.async false
set_option linter.all false
set_option maxRecDepth 100000
namespace L2
open PySem PySem.Spec PyProof.Rows
abbrev Key:=Sum Int Str
def keyIs:Key->Value->Bool
 | .inl k,v=>Value.isInt k v
 | .inr x,v=>Value.isStrOf x v
def keyH (w:World):Key->Int
 | .inl k=>hashInt k
 | .inr x=>hashStr w x
theorem keyIs_shape:∀ {k:Key}{v:Value},keyIs k v=true->(∃i t,k=Sum.inl i/\v=Value.int i t)∨(∃x t,k=Sum.inr x/\v=Value.str x t)
 | .inl i,v,h=>by
  obtain⟨t,e⟩:=Value.isInt_shape (k:=i) (v:=v) h
  exact .inl ⟨i,t,rfl,e⟩
 | .inr x,v,h=>by
  obtain⟨t,e⟩:=Value.isStrOf_shape (x:=x) (v:=v) h
  exact .inr ⟨x,t,rfl,e⟩
theorem keyIs_int (i:Int) (t:Tok):keyIs (.inl i) (.int i t)=true:=by simp[keyIs,Value.isInt]
theorem keyIs_str (x:Str) (t:Tok):keyIs (.inr x) (.str x t)=true:=by simp[keyIs,Value.isStrOf]
theorem key_ll (a b:Int):decide ((Sum.inl a:Key)=Sum.inl b)=(a==b):=by
 by_cases e:a=b
 ·subst e;simp
 ·have h:¬ (Sum.inl a:Key)=Sum.inl b:=fun q=>e (Sum.inl.inj q)
  rw[decide_eq_false h]
  exact(beq_eq_false_iff_ne.mpr e).symm
theorem key_rr (a b:Str):decide ((Sum.inr a:Key)=Sum.inr b)=decide (a=b):=by
 by_cases e:a=b
 ·subst e;simp
 ·have h:¬ (Sum.inr a:Key)=Sum.inr b:=fun q=>e (Sum.inr.inj q)
  rw[decide_eq_false h,decide_eq_false e]
theorem key_lr (a:Int) (b:Str):decide ((Sum.inl a:Key)=Sum.inr b)=false:=decide_eq_false (fun q=>nomatch q)
theorem key_rl (a:Str) (b:Int):decide ((Sum.inr a:Key)=Sum.inl b)=false:=decide_eq_false (fun q=>nomatch q)
def mixKind (prog:Program) (w:World):PySem.KeyKind prog w Key where
 is:=keyIs
 hash:=keyH w
 inj:=fun v a b ha hb=>by
  rcases keyIs_shape ha with⟨i,t,rfl,rfl⟩ | ⟨x,t,rfl,rfl⟩
  ·rcases keyIs_shape hb with⟨j,u,rfl,e⟩ | ⟨y,u,rfl,e⟩
   ·injection e with e1 _;rw[e1]
   ·exact nomatch e
  ·rcases keyIs_shape hb with⟨j,u,rfl,e⟩ | ⟨y,u,rfl,e⟩
   ·exact nomatch e
   ·injection e with e1 _;rw[e1]
 byValue:=fun k v h=>by
  rcases keyIs_shape h with⟨i,t,rfl,rfl⟩ | ⟨x,t,rfl,rfl⟩ <;> rfl
 pyHash:=fun hv h=>by
  rcases keyIs_shape hv with⟨i,t,rfl,rfl⟩ | ⟨x,t,rfl,rfl⟩
  ·exact wpAny_pyHash_int h
  ·exact wpAny_pyHash_str h
 eqBool:=fun hu hv h=>by
  rcases keyIs_shape hu with⟨i,t,rfl,rfl⟩ | ⟨x,t,rfl,rfl⟩
  ·rcases keyIs_shape hv with⟨j,u,rfl,rfl⟩ | ⟨y,u,rfl,rfl⟩
   ·rw[key_ll] at h;exact wpAny_eqBool_int h
   ·rw[key_lr] at h;exact SeqAt.EqAt.int_str i t y u _ _ _ _ h
  ·rcases keyIs_shape hv with⟨j,u,rfl,rfl⟩ | ⟨y,u,rfl,rfl⟩
   ·rw[key_rl] at h;exact SeqAt.EqAt.str_int x t j u _ _ _ _ h
   ·rw[key_rr] at h;exact wpAny_eqBool_str h
 «strs»:=fun k x t v h=>by
  rcases keyIs_shape h with⟨i,u,rfl,e⟩ | ⟨y,u,rfl,e⟩
  ·exact nomatch e
  ·injection e with e1 _
   subst e1
   cases v <;> rfl
theorem mixKind_int (prog:Program) (w:World) (i:Int) (t:Tok):(mixKind prog w).is (.inl i) (.int i t)=true:=keyIs_int i t
theorem mixKind_str (prog:Program) (w:World) (x:Str) (t:Tok):(mixKind prog w).is (.inr x) (.str x t)=true:=keyIs_str x t
end L2
namespace L2
open PySem PySem.Spec PyProof.Rows
inductive V where
 | non | bl (b:Bool) | int (i:Int) | str (x:Str) | byt (b:Array UInt8) | flt (b:UInt64) | ref (a:Addr) | ty (n:String)
 deriving DecidableEq
def RelV:V->Value->Prop
 | .non,u=>u=Value.none
 | .bl b,u=>u=Value.bool b
 | .int i,u=>∃t,u=Value.int i t
 | .str x,u=>∃t,u=Value.str x t
 | .byt b,u=>∃t,u=Value.bytes b t
 | .flt b,u=>∃t,u=Value.float b t
 | .ref a,u=>u=Value.ref a
 | .ty n,u=>u=Value.type n
abbrev Vals:List V->List Value->Prop:=Paired RelV
theorem Vals.length (r:Vals xs us):xs.length=us.length:=Paired.length r
theorem Vals.get:∀ {xs:List V}{us:List Value}{i:Nat}{x:V},Vals xs us->xs[i]? = some x->∃u,us[i]? = some u/\RelV x u
 | _,_,_,_,.nil,e=>by simp at e
 | _,_,0,_,.cons r _,e=>by simp at e;subst e;exact⟨_,rfl,r⟩
 | _,_,i+1,x,.cons _ t,e=>by
  obtain⟨u,h1,h2⟩:=Vals.get (i:=i) (x:=x) t (by simpa using e)
  exact⟨u,by simpa using h1,h2⟩
theorem Vals.set (r:RelV x u):∀ {xs:List V}{us:List Value}(i:Nat),Vals xs us->Vals (xs.set i x) (us.set i u)
 | _,_,_,.nil=>.nil
 | _,_,0,.cons _ t=>.cons r t
 | _,_,i+1,.cons q t=>.cons q (Vals.set r i t)
theorem Vals.append:∀ {xs ys:List V}{us ws:List Value},Vals xs us->Vals ys ws->Vals (xs++ys) (us++ws)
 | _,_,_,_,.nil,s=>s
 | _,_,_,_,.cons r t,s=>.cons r (Vals.append t s)
theorem Vals.take:∀ {xs:List V}{us:List Value}(n:Nat),Vals xs us->Vals (xs.take n) (us.take n)
 | _,_,0,_=>.nil
 | _,_,_+1,.nil=>.nil
 | _,_,n+1,.cons r t=>.cons r (Vals.take n t)
theorem Vals.drop:∀ {xs:List V}{us:List Value}(n:Nat),Vals xs us->Vals (xs.drop n) (us.drop n)
 | _,_,0,r=>r
 | _,_,_+1,.nil=>.nil
 | _,_,n+1,.cons _ t=>Vals.drop n t
def RelO:Option V->Option Value->Prop
 | some v,some u=>RelV v u
 | none,none=>True
 | _,_=>False
def KV:List (κ × V)->List (κ × Value)->Prop:=Paired fun (p:κ × V) (q:κ × Value)=>p.1=q.1/\RelV p.2 q.2
def kV:Key->V
 | .inl i=>.int i
 | .inr x=>.str x
inductive HO where
    | lst (xs:List V)
    | tup (xs:List V)
    | dK (kvs:List (Key × V)) | dT (kvs:List (List Key × V))
    | set (S:Int->Bool) (n:Nat)
    | ins (C dx:Addr) (fs:List (Str × V))
    | own (x:Addr)
    | xd (fs:List (Str × V))
    | met (f x:Addr)
    | rng (lo hi:Int)
    | frz (o:Obj) (u:HO)
    | tbl (ps:Array Value)
    | ext (φ:Heap->Prop)
abbrev Hp:=Addr->Option HO
def upd (H:Hp) (a:Addr) (o:HO):Hp:=fun b=>if b=a then some o else H b
theorem upd_same:upd H a o a=some o:=by unfold upd;rw[if_pos rfl]
theorem upd_ne (h:b≠a):upd H a o b=H b:=by unfold upd;rw[if_neg h]
theorem upd_upd:upd (upd H a o) a u=upd H a u:=by
 funext b;unfold upd;split <;> rfl
theorem ne_of {H:Hp}{a b:Addr}{o u:HO}(h:H a=some o) (h':H b=some u) (d:o≠u):a≠b:=by
 intro e;subst e;rw[h] at h';exact d (Option.some.inj h')
theorem ne_of_none {H:Hp}{a b:Addr}{o:HO}(h:H a=some o) (h':H b=none):a≠b:=by
 intro e;subst e;rw[h] at h';cases h'
def TupN (h:Heap) (a:Addr) (items:Array Value):Prop:=∃o,h.get? a=some o/\o.cls=.type "tuple"/\∃n,o.data=.seq items n/\o.dict=none
theorem TupN.tup (x:TupN h a items):IsTup h a items:=let ⟨o,e,c,n,d,_⟩:=x;⟨o,e,c,n,d⟩
theorem TupN.new (h:Heap) (items:Array Value):TupN (h.push { cls:=.type "tuple",data:=.seq items }) h.objs.size items:=⟨_,Heap.get?_push_size _ rfl,rfl,_,rfl,rfl⟩
section
variable (P:Program) (w:World)
def ObjOk (H:Hp) (h:Heap) (a:Addr):HO -> Prop
 | .lst xs=>xs.length<=sizeLine/\∃(its:List Value) (n:Nat),Vals xs its/\h.get? a=some { cls:=.type "list",data:=.seq its.toArray n }
 | .tup xs=>xs.length<=sizeLine/\∃its:List Value,Vals xs its/\TupN h a its.toArray
 | .dK kvs=>kvs.length<=sizeLine/\(a==sysModules)=false/\∃vs,KV kvs vs/\h.DictOf (mixKind P w) a vs
 | .dT kvs=>kvs.length<=sizeLine/\(a==sysModules)=false/\∃xs:List (List Key × Addr × Value),
     Paired (fun (p:List Key × V) (q:List Key × Addr × Value)=>p.1=q.1/\H q.2.1=some (.tup (p.1.map kV))/\RelV p.2 q.2.2) kvs xs /\
     ∃o es ep,h.get? a=some o/\o.ExactDict/\o.data=.dict es ep/\es.toList=xs.map (entryOfKey (tupleKind (mixKind P w)))/\(xs.map (·.1)).Nodup
 | .set S n=>h.SetOf (intKind P w) a S n
 | .ins C dx fs=>H dx=some (.own a)/\fs.length<=1000/\dx≠a/\h.get? a=some (W.instObj C dx) /\
     ∃mA,h.Ns1 dx mA/\(∀f,RelO (fs.lookup f) (mA f))/\PySem.Within mA (fs.map (·.1))
 | .own _=>∃o,h.get? a=some o
 | .xd fs=>∃mA,h.Ns1 a mA/\∀f,RelO (fs.lookup f) (mA f)
 | .rng lo hi=>∃t u v,h.get? a=some { cls:=.type "range",data:=.fields #[.int lo t,.int hi u,.int 1 v] }
 | .frz o u=>h.get? a=some o/\ObjOk H h a u
 | .tbl ps=>h.get? a=some { cls:=.none,data:=.fields ps }
 | .met f x=>h.get? a=some (W.methodObj (.ref f) (.ref x))
 | .ext φ=>φ h/\(∃o,h.get? a=some o)/\∀h1 h2:Heap,φ h1->(∀o,h1.get? a=some o->h2.get? a=some o)->φ h2
def HOk (H:Hp) (h:Heap):Prop:=∀a o,H a=some o->ObjOk P w H h a o
end
section
variable {P:Program}{w:World}{H H':Hp}{h h':Heap}{a:Addr}{o:HO}
theorem ObjOk.lt (x:ObjOk P w H h a o):a<h.objs.size:=by
 cases o with
 | lst xs=>obtain⟨_,_,_,_,e⟩:=x;exact Heap.lt_size e
 | tup xs=>obtain⟨_,_,_,p⟩:=x;exact p.tup.lt
 | dK kvs=>obtain⟨_,_,_,_,o,_,_,e,_⟩:=x;exact Heap.lt_size e
 | dT kvs=>obtain⟨_,_,_,_,o,_,_,e,_⟩:=x;exact Heap.lt_size e
 | set S n=>obtain⟨o,_,_,_,e,_⟩:=x;exact Heap.lt_size e
 | ins C dx fs=>obtain⟨_,_,_,e,_⟩:=x;exact Heap.lt_size e
 | own y=>obtain⟨_,e⟩:=x;exact Heap.lt_size e
 | xd fs=>obtain⟨_,⟨_,_,_,e,_⟩,_⟩:=x;exact Heap.lt_size e
 | rng lo hi=>obtain⟨_,_,_,e⟩:=x;exact Heap.lt_size e
 | frz ob u=>obtain⟨e,_⟩:=x;exact Heap.lt_size e
 | tbl ps=>exact Heap.lt_size (show h.get? a=some _ from x)
 | met f y=>exact Heap.lt_size (show h.get? a=some _ from x)
 | ext φ=>obtain⟨_,⟨_,e⟩,_⟩:=x;exact Heap.lt_size e
theorem Paired.mapP:∀ {l₁:List α}{l₂:List β},Paired F l₁ l₂->(∀a b,F a b->G a b)->Paired G l₁ l₂
 | _,_,.nil,_=>.nil
 | _,_,.cons r t,f=>.cons (f _ _ r) (Paired.mapP t f)
theorem ObjOk.stay (x:ObjOk P w H h a o) (k:∀b u,(b=a∨H b=some (.own a))->h.get? b=some u->h'.get? b=some u)
    (ho:∀b,H b=some (.own a)->H' b=some (.own a)) (ht:∀b xs,H b=some (.tup xs)->H' b=some (.tup xs)):ObjOk P w H' h' a o:=by
 induction o with
 | lst xs=>obtain⟨z,its,n,r,e⟩:=x;exact⟨z,its,n,r,k _ _ (.inl rfl) e⟩
 | tup xs=>obtain⟨z,its,r,ob,e,c⟩:=x;exact⟨z,its,r,ob,k _ _ (.inl rfl) e,c⟩
 | dK kvs=>obtain⟨z,y,vs,r,ob,es,ep,e,c⟩:=x;exact⟨z,y,vs,r,ob,es,ep,k _ _ (.inl rfl) e,c⟩
 | dT kvs =>
  obtain⟨z,y,xs,r,ob,es,ep,e,c⟩:=x
  exact⟨z,y,xs,Paired.mapP r fun p q z=>⟨z.1,ht _ _ z.2.1,z.2.2⟩,ob,es,ep,k _ _ (.inl rfl) e,c⟩
 | set S n=>obtain⟨ob,es,ep,t,e,c⟩:=x;exact⟨ob,es,ep,t,k _ _ (.inl rfl) e,c⟩
 | ins C dx fs =>
  obtain⟨d,z,ne,e,mA,⟨od,es,ep,e2,c⟩,r⟩:=x
  exact⟨ho _ d,z,ne,k _ _ (.inl rfl) e,mA,⟨od,es,ep,k _ _ (.inr d) e2,c⟩,r⟩
 | own y=>obtain⟨ob,e⟩:=x;exact⟨ob,k _ _ (.inl rfl) e⟩
 | xd fs=>obtain⟨mA,⟨od,es,ep,e,c⟩,r⟩:=x;exact⟨mA,⟨od,es,ep,k _ _ (.inl rfl) e,c⟩,r⟩
 | rng lo hi=>obtain⟨t,u,v,e⟩:=x;exact⟨t,u,v,k _ _ (.inl rfl) e⟩
 | frz ob u ih=>obtain⟨e,q⟩:=x;exact⟨k _ _ (.inl rfl) e,ih q⟩
 | tbl ps =>
  have e:h.get? a=some { cls:=.none,data:=.fields ps }:=x
  show h'.get? a=some { cls:=.none,data:=.fields ps }
  exact k a _ (.inl rfl) e
 | met f y =>
  have e:h.get? a=some (W.methodObj (.ref f) (.ref y)):=x
  show h'.get? a=some (W.methodObj (.ref f) (.ref y))
  exact k a _ (.inl rfl) e
 | ext φ=>obtain⟨p,⟨o,e⟩,st⟩:=x;exact⟨st _ _ p fun o q=>k _ _ (.inl rfl) q,⟨o,k _ _ (.inl rfl) e⟩,st⟩
theorem HOk.lt (x:HOk P w H h) (e:H a=some o):a<h.objs.size:=(x a o e).lt
theorem HOk.fresh (x:HOk P w H h) (e:h.objs.size<=a):H a=none:=by
 cases q:H a with
 | none=>rfl
 | some u=>exact absurd (Nat.lt_of_lt_of_le (x.lt q) e) (Nat.lt_irrefl _)
theorem HOk.kept (x:HOk P w H h) (k:∀b u,h.get? b=some u->h'.get? b=some u):HOk P w H h':=fun a o e =>
 (x a o e).stay (fun b u _ q=>k b u q) (fun _ q=>q) fun _ _ q=>q
theorem HOk.laid (x:HOk P w H h) (k:∀b u,h.get? b=some u->h'.get? b=some u) (hp:h.objs.size<=a) (new:ObjOk P w (upd H a o) h' a o):HOk P w (upd H a o) h':=fun b u e=>by
 have hn:=x.fresh hp
 by_cases hb:b=a
 ·subst hb;rw[upd_same] at e;cases e;exact new
 ·rw[upd_ne hb] at e
  exact(x b u e).stay (fun c v _ q=>k c v q) (fun c q=>by rw[upd_ne (ne_of_none q hn)];exact q) fun c xs q=>by rw[upd_ne (ne_of_none q hn)];exact q
end
def Rd (H:Hp) (a:Addr) (u:HO):Prop:=H a=some u∨∃o,H a=some (.frz o u)
theorem Rd.ok (r:Rd H a u) (x:HOk P w H h):ObjOk P w H h a u:=by
 rcases r with r | ⟨o,r⟩
 ·exact x a u r
 ·obtain⟨_,q⟩:=x a _ r
  exact q
def Mut:Option HO->Prop
 | some (.lst _)=>True
 | some (.dK _)=>True
 | some (.dT _)=>True
 | some (.set _ _)=>True
 | some (.ins _ _ _)=>True
 | some (.ext _)=>True
 | _=>False
section
variable {P:Program}{w:World}{H:Hp}{h h':Heap}{x e:Addr}{o':HO}
theorem HOk.write (ok:HOk P w H h) (mu:Mut (H x)) (he:e=x ∨ H e=some (.own x)) (k:∀b u, b ≠ e -> h.get? b=some u -> h'.get? b=some u) (heo:∃u, h'.get? e=some u)
    (new:ObjOk P w (upd H x o') h' x o'):HOk P w (upd H x o') h':=fun b u q=>by
 have nown:∀c y,H c=some (.own y)->c≠x:=fun c y r z=>by subst z;rw[r] at mu;exact mu
 have ntup:∀c xs,H c=some (.tup xs)->c≠x:=fun c xs r z=>by subst z;rw[r] at mu;exact mu
 by_cases hb:b=x
 ·subst hb;rw[upd_same] at q;cases q;exact new
 ·rw[upd_ne hb] at q
  by_cases hbe:b=e
  ·have q':H b=some (.own x):=by
      rcases he with z | z
      ·exact absurd (hbe.trans z) hb
      ·rw[hbe];exact z
   rw[q] at q';cases q'
   obtain⟨v,hv⟩:=heo
   exact⟨v,by rw[hbe];exact hv⟩
  ·refine(ok b u q).stay (fun c v hc r=>k c v ?_ r) (fun c r=>by rw[upd_ne (nown c b r)];exact r) fun c xs r=>by rw[upd_ne (ntup c xs r)];exact r
   rcases hc with rfl | hc
   ·exact hbe
   ·rintro rfl
    rcases he with z | z
    ·exact nown c b hc z
    ·rw[hc] at z;cases z;exact hb rfl
end
structure Un (fs ex:List Addr) (H H':Hp) (h h':Heap):Prop where
 keep:∀b o,h.get? b=some o->H b=none->b∉fs->b∉ex->h'.get? b=some o
 slot:∀b o,h.get? b=some o->H b=none->b∈fs->b∉ex->∃sl,h'.get? b=some { o with slots:=sl }
 free:∀b o,h.get? b=some o->H b=none->b∉ex->H' b=none
 there:∀b o,h.get? b=some o->b∉ex->∃o',h'.get? b=some o'
 tups:∀b xs,H b=some (.tup xs)->H' b=some (.tup xs)
 frzs:∀b o u,H b=some (.frz o u)->H' b=some (.frz o u)
 tbls:∀b ps,H b=some (.tbl ps)->∃more,H' b=some (.tbl (ps++more))
section
variable {fs fs' ex ex':List Addr}{H H1 H2:Hp}{h h1 h2 h':Heap}{a x e:Addr}{o:HO}
theorem Un.any (u:Un fs ex H H1 h h1) (q:h.get? b=some ob) (n:H b=none) (hx:b∉ex):∃sl,h1.get? b=some { ob with slots:=sl }:=by
 by_cases hb:b∈fs
 ·exact u.slot b ob q n hb hx
 ·exact⟨ob.slots,u.keep b ob q n hb hx⟩
theorem Un.kept (k:∀b u,h.get? b=some u->h'.get? b=some u):Un fs ex H H h h' :=
 ⟨fun b ob q _ _ _=>k b ob q,fun b ob q _ _ _=>⟨ob.slots,k b ob q⟩,fun _ _ _ n _=>n,fun b ob q _=>⟨ob,k b ob q⟩,fun _ _ q=>q,fun _ _ _ q=>q,fun _ ps q=>⟨#[],by rw[q];simp⟩⟩
theorem Un.refl:Un fs ex H H h h:=Un.kept fun _ _ q=>q
theorem Un.laid (k:∀b u,h.get? b=some u->h'.get? b=some u) (hp:h.objs.size<=a) (hn:H a=none):Un fs ex H (upd H a o) h h' where
 keep:=fun b u q _ _ _=>k b u q
 slot:=fun b u q _ _ _=>⟨u.slots,k b u q⟩
 free:=fun b u q n _=>by rw[upd_ne (Nat.ne_of_lt (Nat.lt_of_lt_of_le (Heap.lt_size q) hp))];exact n
 there:=fun b u q _=>⟨u,k b u q⟩
 tups:=fun b xs q=>by rw[upd_ne (ne_of_none q hn)];exact q
 frzs:=fun b u xs q=>by rw[upd_ne (ne_of_none q hn)];exact q
 tbls:=fun b ps q=>⟨#[],by rw[upd_ne (ne_of_none q hn),q];simp⟩
theorem Un.write (mu:Mut (H x)) (he:e=x∨H e=some (.own x)) (k:∀b u,b≠e->h.get? b=some u->h'.get? b=some u) (heo:∃u,h'.get? e=some u):Un fs ex H (upd H x o) h h':=by
 have hx:∀b,H b=none->b≠x:=fun b n z=>by subst z;rw[n] at mu;exact mu
 have hb:∀b,H b=none->b≠e:=fun b n z=>by
  subst z
  rcases he with r | r
  ·exact hx b n r
  ·rw[n] at r;cases r
 have hm:∀b u,H b=some u->¬ Mut (some u)->b≠x:=fun b u q nm z=>by subst z;rw[q] at mu;exact nm mu
 refine⟨fun b u q n _ _=>k b u (hb b n) q,fun b u q n _ _=>⟨u.slots,k b u (hb b n) q⟩,fun b u q n _=>by rw[upd_ne (hx b n)];exact n,fun b u q _=>?_,
  fun b xs q=>by rw[upd_ne (hm b _ q fun z=>z)];exact q,fun b u xs q=>by rw[upd_ne (hm b _ q fun z=>z)];exact q,fun b ps q=>⟨#[],by rw[upd_ne (hm b _ q fun z=>z),q];simp⟩⟩
 by_cases hbe:b=e
 ·subst hbe;exact heo
 ·exact⟨u,k b u hbe q⟩
end
def trk (h:Heap) (H:Hp):List Addr:=(List.range h.objs.size).filter fun a=>(H a).isSome
def hidT (h:Heap) (H:Hp):Heap:=W.hideAll h (trk h H)
theorem hidT_size (h:Heap) (H:Hp):(hidT h H).objs.size=h.objs.size:=W.hideAll_size _ _
theorem hidT_get (e:h.get? b=some o) (n:H b=none):(hidT h H).get? b=some o :=
 W.hideAll_get _ e fun hm=>by
  have q:(H b).isSome=true:=(List.mem_filter.mp hm).2
  rw[n] at q;simp at q
theorem of_hidT (e:(hidT h H).get? b=some o):h.get? b=some o/\H b=none:=by
 have e':h.get? b=some o:=W.of_hideAll (trk h H) e
 refine⟨e',?_⟩
 cases q:H b with
 | none=>rfl
 | some x =>
  have hm:b∈trk h H:=List.mem_filter.mpr ⟨List.mem_range.mpr (Heap.lt_size e'),by simp[q]⟩
  have z:(hidT h H).get? b=none:=W.hideAll_none (trk h H) hm
  rw[z] at e;cases e
def allNews (g h:Heap) (L:Addr):List (Addr × Obj):=(List.range h.objs.size).filterMap fun a=>if a=L∨(g.get? a).isSome=true then none else (h.get? a).map fun o=>(a,o)
def rest (g h:Heap) (L d:Addr):List (Addr × Obj):=(allNews g h L).filter fun p=>decide (p.1≠d)
end L2
namespace L2
open PySem PySem.Spec PyProof.Rows
structure Mod (K:W.Frag) (mg:Str->Option Value) (base:Heap):Prop where
 kin:K.In base
 glob:base.Ns mainGlobals mg
 blt:∃mb,base.Ns builtinsNs mb/\∀x:Str,x≠"__name__"->mb x=bootBuiltins x
 nolimit:base.NoLimit
structure Cx where
 prog:Program
 w:World
 K:W.Frag
 mg:Str->Option Value
 base:Heap
 A:Around
 N:List Str
 s₀:Shared
 H₀:Hp
 env:Env
 outer:List Env
 stack:List Env
 ex:List Addr
 fn:Str->Bool
 calm:Bool
 pn:List (Addr × Obj)
 xe:Value->Shared->Prop
def frs (l:List Env):List Addr:=l.filterMap (·.frame)
abbrev Cx.fs (X:Cx):List Addr:=frs X.outer
def Vis (sc:Scope) (x:Str):Prop:=sc.names.lookup x=some .local∨sc.names.lookup x=some .cell∨sc.names.lookup x=some .free
def Loc (sc:Scope) (x:Str):Prop:=sc.names.lookup x=some .local∨sc.names.lookup x=some .cell
def Look (env:Env) (h:Heap) (m:Str->Option Value) (x:Str) (u:Value):Prop :=
 (env.kindOf x=some .local/\m x=some u)∨((env.kindOf x=some .cell∨env.kindOf x=some .free)/\∃c,env.cells.lookup x=some c/\h.IsCell c (some u))
structure Cx.Ok (X:Cx):Prop where
 mod:Mod X.K X.mg X.base
 kind:X.env.scope.kind=.function
 glob:X.env.globals=mainGlobals
 blt:X.env.builtins=builtinsNs
 above:X.s₀.heap.objs.size<=X.env.locals
 inj:∀x y c,X.env.cells.lookup x=some c->X.env.cells.lookup y=some c->x=y
 has:∀x,(X.env.kindOf x=some .cell∨X.env.kindOf x=some .free)->∃c,X.env.cells.lookup x=some c
 cab:∀x c,X.fn x=true->X.env.cells.lookup x=some c->X.s₀.heap.objs.size<=c
 hd:X.calm=true->X.A.handled=none
 frames:X.A.frames=some X.stack
 stk:X.stack=X.outer∨(X.stack=X.env::X.outer/\X.env.frame=some X.env.locals)
 exf:∀b∈X.ex,b≠X.env.locals/\∀x c,X.env.cells.lookup x=some c->c≠b
 bs:∀b o,X.base.get? b=some o->X.s₀.heap.get? b=some o/\X.H₀ b=none
 bsz:X.base.objs.size<=X.s₀.heap.objs.size
 noex:∀b o,X.base.get? b=some o->b∉X.ex
 exfs:∀b∈X.ex,b∉X.fs
 funs:X.s₀.heap.FunFrames X.base X.outer
 frf:∀b∈X.fs,X.H₀ b=none
structure Inv (X:Cx) (pins:List (Addr × Obj)) (σ:List (Option V)) (H:Hp) (s:Shared):Prop where
 ok:X.Ok
 os:s.os=X.s₀.os
 bare:AllBare s.gens
 base:Un X.fs X.ex X.H₀ H X.s₀.heap s.heap
 loc:∃m,s.heap.Ns X.env.locals m/\∀(i:Nat) (x:Str) (v:V),X.N[i]? = some x->σ[i]? = some (some v)->Vis X.env.scope x->∃u,RelV v u/\Look X.env s.heap m x u
 cell:∀x c,X.env.cells.lookup x=some c->∃v,s.heap.IsCell c v
 free:H X.env.locals=none
 freeC:∀x c,X.env.cells.lookup x=some c->H c=none
 pin:∀p∈X.pn++pins,s.heap.get? p.1=some p.2/\H p.1=none/\p.1≠X.env.locals/\p.1∉X.fs/\∀v,p.2.data≠.cell v
 hok:HOk X.prog X.w H s.heap
 len:σ.length=X.N.length
section
variable {X:Cx}{pins:List (Addr × Obj)}{σ:List (Option V)}{H H':Hp}{s:Shared}{h':Heap}
theorem Cx.Ok.nofr (ok:X.Ok) (e:X.base.get? b=some o):b∉X.fs:=fun hb=>by
 have:=(ok.funs.mem hb).1
 rw[e] at this;cases this
theorem Inv.bs (I:Inv X pins σ H s):∀b o,X.base.get? b=some o->s.heap.get? b=some o/\H b=none:=fun b o e =>
 ⟨I.base.keep b o (I.ok.bs b o e).1 (I.ok.bs b o e).2 (I.ok.nofr e) (I.ok.noex b o e),I.base.free b o (I.ok.bs b o e).1 (I.ok.bs b o e).2 (I.ok.noex b o e)⟩
theorem Inv.bk (I:Inv X pins σ H s):∀b o,X.base.get? b=some o->s.heap.get? b=some o:=fun b o e=>(I.bs b o e).1
theorem Inv.mod (I:Inv X pins σ H s):Mod X.K X.mg X.base:=I.ok.mod
theorem Inv.kIn (I:Inv X pins σ H s):X.K.In s.heap:=I.ok.mod.kin.keeps I.bk
theorem Inv.lt (I:Inv X pins σ H s):X.env.locals<s.heap.objs.size:=let ⟨_,hn,_⟩:=I.loc;hn.lt
theorem Inv.sz (I:Inv X pins σ H s):X.s₀.heap.objs.size<=s.heap.objs.size:=Nat.le_trans I.ok.above (Nat.le_of_lt I.lt)
theorem Inv.nofs (I:Inv X pins σ H s) (h:s.heap.objs.size<=a):a∉X.fs:=fun hb=>by
 obtain⟨_,o,ho,_⟩:=I.ok.funs.mem hb
 exact absurd (Nat.lt_of_lt_of_le (Heap.lt_size ho) (Nat.le_trans I.sz h)) (Nat.lt_irrefl _)
theorem Inv.cne (I:Inv X pins σ H s):∀x c,X.env.cells.lookup x=some c->c≠X.env.locals:=fun x c e z=>by
 obtain⟨v,o,ho,hd⟩:=I.cell x c e
 obtain⟨m,⟨o',es,ep,ho',hd',_⟩,_⟩:=I.loc
 rw[z,ho'] at ho;cases ho;rw[hd'] at hd;cases hd
theorem Inv.funs (I:Inv X pins σ H s):s.heap.FunFrames X.base X.outer := by
 have all:∀(l:List Env),(∀b∈frs l,b∈X.fs)->X.s₀.heap.FunFrames X.base l->s.heap.FunFrames X.base l:=by
  intro l
  induction l with
  | nil=>intro _ _;trivial
  | cons env r ih =>
   intro hs hl
   obtain⟨hk,⟨L,o,hf,hn,ho,hd⟩,hr⟩:=hl
   have hL:L∈X.fs:=hs L (by unfold frs;rw[List.filterMap_cons,hf];exact List.mem_cons_self)
   obtain⟨sl,e⟩:=I.base.slot L o ho (I.ok.frf L hL) hL fun z=>I.ok.exfs L z hL
   exact⟨hk,⟨L,_,hf,hn,e,hd⟩,ih (fun b hb=>hs b (by unfold frs;rw[List.filterMap_cons,hf];exact List.mem_cons_of_mem _ hb)) hr⟩
 exact all X.outer (fun _ hb=>hb) I.ok.funs
theorem Inv.stack (I:Inv X pins σ H s):s.heap.FunFrames X.base X.stack:=by
 rcases I.ok.stk with e | ⟨e,hf⟩
 ·rw[e];exact I.funs
 ·rw[e]
  obtain⟨m,hn,_⟩:=I.loc
  refine .cons (by rw[I.ok.kind];decide) hf hn ?_ I.funs
  exact Heap.get?_none_of_le (Nat.le_trans I.ok.bsz I.ok.above)
theorem Inv.stkSub (I:Inv X pins σ H s):∀b∈frs X.stack,b∈X.env.locals::X.fs:=fun b hb=>by
 rcases I.ok.stk with e | ⟨e,hf⟩
 ·rw[e] at hb;exact List.mem_cons_of_mem _ hb
 ·rw[e] at hb
  unfold frs at hb
  rw[List.filterMap_cons,hf] at hb
  exact hb
theorem Inv.stkFree (I:Inv X pins σ H s):∀b∈frs X.stack,H b=none:=fun b hb=>by
 rcases List.mem_cons.mp (I.stkSub b hb) with e | hb
 ·rw[e];exact I.free
 ·obtain⟨_,o,ho,_⟩:=I.ok.funs.mem hb
  exact I.base.free b o ho (I.ok.frf b hb) fun z=>I.ok.exfs b z hb
theorem Inv.step {g':Array GenState}{t':Nat}{d':Drawn}{ch:List Addr}(I:Inv X pins σ H s)
    (hch:∀b∈ch,(b∈X.ex∨X.s₀.heap.objs.size<=b)/\b≠X.env.locals/\(∀x c,X.env.cells.lookup x=some c->c≠b)/\∀p∈X.pn++pins,p.1≠b)
    (keep:∀b o,b≠X.env.locals->b∉X.fs->b∉ch->s.heap.get? b=some o->H b=none->h'.get? b=some o)
    (slot:∀b o,b≠X.env.locals->b∈X.fs->b∉ch->s.heap.get? b=some o->H b=none->∃sl,h'.get? b=some { o with slots:=sl }) (free:∀b o,b∉ch->s.heap.get? b=some o->H b=none->H' b=none)
    (there:∀b o,b∉ch->s.heap.get? b=some o->∃o',h'.get? b=some o')
    (tups:∀b xs,H b=some (.tup xs)->H' b=some (.tup xs)) (frzs:∀b o u,H b=some (.frz o u)->H' b=some (.frz o u)) (tbls:∀b ps,H b=some (.tbl ps)->∃more,H' b=some (.tbl (ps++more)))
    (ns:∀m,s.heap.Ns X.env.locals m->h'.Ns X.env.locals m) (hok:HOk X.prog X.w H' h') (hg:AllBare g') :
    Inv X pins σ H' { s with heap:=h',gens:=g',drawn:=d',toks:=t' }:=by
 have neL:∀b o,X.s₀.heap.get? b=some o->b≠X.env.locals:=fun b o e=>Nat.ne_of_lt (Nat.lt_of_lt_of_le (Heap.lt_size e) I.ok.above)
 have neC:∀b o,X.s₀.heap.get? b=some o->b∉X.ex->b∉ch:=fun b o e hx hb=>by
  rcases (hch b hb).1 with z | z
  ·exact hx z
  ·exact absurd (Nat.lt_of_lt_of_le (Heap.lt_size e) z) (Nat.lt_irrefl _)
 have cellK:∀x c,X.env.cells.lookup x=some c->∀v,s.heap.IsCell c v->h'.IsCell c v:=fun x c e v ⟨o,ho,hd⟩=>by
  have nch:c∉ch:=fun z=>(hch c z).2.2.1 x c e rfl
  by_cases hc:c∈X.fs
  ·obtain⟨sl,q⟩:=slot c o (I.cne x c e) hc nch ho (I.freeC x c e)
   exact⟨_,q,hd⟩
  ·exact⟨o,keep c o (I.cne x c e) hc nch ho (I.freeC x c e),hd⟩
 refine⟨I.ok,I.os,hg,⟨fun b o e n hb hx=>?_,fun b o e n hb hx=>?_,fun b o e n hx=>?_,fun b o e hx=>?_,fun b xs e=>tups b xs (I.base.tups b xs e),fun b o xs e=>frzs b o xs (I.base.frzs b o xs e),fun b ps e=>?_⟩,?_,fun x c e=>?_,?_,fun x c e=>?_,fun p hp=>?_,hok,I.len⟩
 ·exact keep b o (neL b o e) hb (neC b o e hx) (I.base.keep b o e n hb hx) (I.base.free b o e n hx)
 ·obtain⟨sl,e1⟩:=I.base.slot b o e n hb hx
  obtain⟨sl',e2⟩:=slot b _ (neL b o e) hb (neC b o e hx) e1 (I.base.free b o e n hx)
  exact⟨sl',e2⟩
 ·obtain⟨o',e1⟩:=I.base.there b o e hx
  exact free b o' (neC b o e hx) e1 (I.base.free b o e n hx)
 ·obtain⟨o',e1⟩:=I.base.there b o e hx
  exact there b o' (neC b o e hx) e1
 ·obtain⟨m1,e1⟩:=I.base.tbls b ps e
  obtain⟨m2,e2⟩:=tbls b _ e1
  exact⟨m1++m2,by rw[e2,Array.append_assoc]⟩
 ·obtain⟨m,hn,hl⟩:=I.loc
  refine⟨m,ns m hn,fun i x v e1 e2 e3=>?_⟩
  obtain⟨u,r,l⟩:=hl i x v e1 e2 e3
  refine⟨u,r,?_⟩
  rcases l with l | ⟨k,c,e,z⟩
  ·exact .inl l
  ·exact .inr ⟨k,c,e,cellK x c e _ z⟩
 ·obtain⟨v,z⟩:=I.cell x c e
  exact⟨v,cellK x c e v z⟩
 ·obtain⟨m,⟨o,_,_,ho,_⟩,_⟩:=I.loc
  exact free _ o (fun z=>(hch _ z).2.1 rfl) ho I.free
 ·obtain⟨v,o,ho,hd⟩:=I.cell x c e
  exact free c o (fun z=>(hch c z).2.2.1 x c e rfl) ho (I.freeC x c e)
 ·obtain⟨e,n,ne,nf,d⟩:=I.pin p hp
  have nch:p.1∉ch:=fun z=>(hch p.1 z).2.2.2 p hp rfl
  exact⟨keep p.1 p.2 ne nf nch e n,free p.1 p.2 nch e n,ne,nf,d⟩
theorem Inv.un {t':Nat}(I:Inv X pins σ H s) (u:Un X.fs [] H H' s.heap h') (hok:HOk X.prog X.w H' h'):Inv X pins σ H' { s with heap:=h',toks:=t' }:=by
 obtain⟨m,⟨o,es,ep,ho,r⟩,_⟩:=id I.loc
 obtain⟨sl,hL⟩:=u.any ho I.free (by simp)
 exact I.step (g':=s.gens) (d':=s.drawn) (ch:=[]) (fun _ z=>nomatch z) (fun b o _ hb _ e n=>u.keep b o e n hb (by simp)) (fun b o _ hb _ e n=>u.slot b o e n hb (by simp)) (fun b o _ e n=>u.free b o e n (by simp)) (fun b o _ e=>u.there b o e (by simp)) u.tups u.frzs u.tbls (fun m' hm=>by
  obtain⟨o',es',ep',ho',r'⟩:=hm
  rw[ho] at ho';cases ho'
  exact⟨_,es',ep',hL,r'⟩) hok I.bare
theorem Inv.call {g':Array GenState}{t':Nat}{d':Drawn}{ch:List Addr}(I:Inv X pins σ H s) (u:Un (frs X.stack) ch H H' s.heap h') (hok:HOk X.prog X.w H' h') (hg:AllBare g')
    (hch:∀b∈ch,(b∈X.ex∨X.s₀.heap.objs.size<=b)/\b≠X.env.locals/\(∀x c,X.env.cells.lookup x=some c->c≠b)/\∀p∈X.pn++pins,p.1≠b) :
    Inv X pins σ H' { s with heap:=h',gens:=g',drawn:=d',toks:=t' }:=by
 obtain⟨m,⟨o,es,ep,ho,r⟩,_⟩:=id I.loc
 obtain⟨sl,hL⟩:=u.any ho I.free fun z=>(hch _ z).2.1 rfl
 exact I.step (ch:=ch) hch (fun b o hL hb hc e n=>u.keep b o e n (fun z=>(List.mem_cons.mp (I.stkSub b z)).elim hL hb) hc) (fun b o _ _ hc e n=>u.any e n hc) (fun b o hc e n=>u.free b o e n hc) (fun b o hc e=>u.there b o e hc) u.tups u.frzs u.tbls (fun m' hm=>by
  obtain⟨o',es',ep',ho',r'⟩:=hm
  rw[ho] at ho';cases ho'
  exact⟨_,es',ep',hL,r'⟩) hok hg
theorem Inv.turned {t':Nat}(I:Inv X pins σ H s) (k:∀b o,b≠it->s.heap.get? b=some o->h'.get? b=some o) (hn:H it=none) (hL:it≠X.env.locals)
    (h1:it∈X.ex∨X.s₀.heap.objs.size<=it) (h2:∀x c,X.env.cells.lookup x=some c->c≠it) (h3:∀p∈X.pn++pins,p.1≠it):Inv X pins σ H { s with heap:=h',toks:=t' }:=by
 have nit:∀b u,H b=some u->b≠it:=fun b u e z=>by rw[z,hn] at e;cases e
 refine I.step (g':=s.gens) (d':=s.drawn) (ch:=[it]) (fun b hb=>?_) (fun b o _ _ hc e _=>k b o (fun z=>hc (by simp[z])) e) (fun b o _ _ hc e _=>⟨o.slots,k b o (fun z=>hc (by simp[z])) e⟩) (fun _ _ _ _ n=>n)
  (fun b o hc e=>⟨o,k b o (fun z=>hc (by simp[z])) e⟩) (fun _ _ e=>e) (fun _ _ _ e=>e) (fun b ps e=>⟨#[],by rw[e];simp⟩) (fun m hm=>?_) (fun b u e=>?_) I.bare
 ·have e:b=it:=by simpa using hb
  subst e
  exact⟨h1,hL,h2,h3⟩
 ·obtain⟨o,es,ep,ho,r⟩:=hm
  exact⟨o,es,ep,k _ o (Ne.symm hL) ho,r⟩
 ·refine(I.hok b u e).stay (fun c v hc q=>k c v ?_ q) (fun _ q=>q) fun _ _ q=>q
  rcases hc with z | z
  ·rw[z];exact nit b u e
  ·exact nit c _ z
theorem Inv.tok (I:Inv X pins σ H s) (t:Nat):Inv X pins σ H { s with toks:=t }:=I.un (h':=s.heap) (t':=t) Un.refl I.hok
theorem Inv.kept (I:Inv X pins σ H s) (k:∀b u,s.heap.get? b=some u->h'.get? b=some u):Inv X pins σ H { s with heap:=h',toks:=t' }:=I.un (Un.kept k) (I.hok.kept k)
theorem Inv.laid (I:Inv X pins σ H s) (k:∀b u,s.heap.get? b=some u->h'.get? b=some u) (hp:s.heap.objs.size<=a) (new:ObjOk X.prog X.w (upd H a o) h' a o) :
    Inv X pins σ (upd H a o) { s with heap:=h',toks:=t' }:=I.un (Un.laid k hp (I.hok.fresh hp)) (I.hok.laid k hp new)
theorem Inv.write (I:Inv X pins σ H s) (mu:Mut (H x)) (he:e=x∨H e=some (.own x)) (k:∀b u,b≠e->s.heap.get? b=some u->h'.get? b=some u) (heo:∃u,h'.get? e=some u)
    (new:ObjOk X.prog X.w (upd H x o) h' x o):Inv X pins σ (upd H x o) { s with heap:=h',toks:=t' }:=I.un (Un.write mu he k heo) (I.hok.write mu he k heo new)
theorem Inv.pins_of (I:Inv X pins σ H s) (h:∀p∈pins',s.heap.get? p.1=some p.2/\H p.1=none/\p.1≠X.env.locals/\p.1∉X.fs/\∀v,p.2.data≠.cell v):Inv X pins' σ H s :=
 ⟨I.ok,I.os,I.bare,I.base,I.loc,I.cell,I.free,I.freeC,fun p hp=>(List.mem_append.mp hp).elim (fun z=>I.pin p (List.mem_append_left _ z)) (h p),I.hok,I.len⟩
theorem nodup_ix {N:List Str}(hN:N.Nodup) {i j:Nat}{x:Str}(a:N[i]? = some x) (b:N[j]? = some x):i=j:=by
 obtain⟨h1,e1⟩:=List.getElem?_eq_some_iff.mp a
 obtain⟨h2,e2⟩:=List.getElem?_eq_some_iff.mp b
 exact(List.getElem_inj hN).mp (e1.trans e2.symm)
theorem store_ok2 {M:Model}{i:Nat}{x:Str}{Q:Unit -> Shared -> Prop}(I:Inv X pins σ H s) (hN:X.N.Nodup) (hi:X.N[i]? = some x) (hx:Loc X.env.scope x) (r:RelV v u)
    (h:∀s',Inv X pins (σ.set i (some v)) H s'->(∃a,Heap.SameBut a s.heap s'.heap/\(a=X.env.locals∨X.env.cells.lookup x=some a))->Q () s') (hf:X.fn x=true∨X.env.scope.names.lookup x=some .local:=by first | exact .inl rfl | exact .inr rfl | assumption):wpAny M A (storeName X.env x u) Q E s:=by
 obtain⟨m,hn,hl⟩:=id I.loc
 have hcls:(X.env.scope.kind==.class||(X.env.scope.kind==.module&&X.env.locals != X.env.globals))=false:=by rw[I.ok.kind];rfl
 have hiσ:i<σ.length:=by rw[I.len];exact(List.getElem?_eq_some_iff.mp hi).1
 have cne:=I.cne
 have tracked:∀ {a:Addr} {h':Heap},(∃o,s.heap.get? a=some o/\H a=none)->Heap.SameBut a s.heap h'->HOk X.prog X.w H h':=fun {a h'} ha hs b ob e=>by
  obtain⟨_,_,hfree⟩:=ha
  refine(I.hok b ob e).stay (fun c w' hc q=>(hs.2 c ?_).trans q) (fun _ q=>q) fun _ _ q=>q
  rintro rfl
  rcases hc with rfl | hc
  ·rw[hfree] at e;cases e
  ·rw[hfree] at hc;cases hc
 rcases hx with hk | hk
 ·refine wpAny_storeName_local hk hn (fun h' hn' hs => ?_) hcls
  obtain⟨oL,_,_,hoL,_⟩:=id hn
  refine h _ ⟨I.ok,I.os,I.bare,⟨fun b o e n hb hx=>?_,fun b o e n hb hx=>?_,I.base.free,fun b o e hx=>?_,I.base.tups,I.base.frzs,I.base.tbls⟩,⟨_,hn',fun j y v' e1 e2 e3=>?_⟩,fun y c e=>?_,I.free,I.freeC,fun p hp=>?_,tracked ⟨oL,hoL,I.free⟩ hs,by simpa using I.len⟩ ⟨_,hs,.inl rfl⟩
  ·exact(hs.2 b (Nat.ne_of_lt (Nat.lt_of_lt_of_le (Heap.lt_size e) I.ok.above))).trans (I.base.keep b o e n hb hx)
  ·obtain⟨sl,e1⟩:=I.base.slot b o e n hb hx
   exact⟨sl,(hs.2 b (Nat.ne_of_lt (Nat.lt_of_lt_of_le (Heap.lt_size e) I.ok.above))).trans e1⟩
  ·obtain⟨o',e1⟩:=I.base.there b o e hx
   exact⟨o',(hs.2 b (Nat.ne_of_lt (Nat.lt_of_lt_of_le (Heap.lt_size e) I.ok.above))).trans e1⟩
  ·by_cases hj:j=i
   ·subst hj
    rw[hi] at e1;cases e1
    rw[List.getElem?_set_self hiσ] at e2
    cases e2
    exact⟨u,r,.inl ⟨hk,by simp⟩⟩
   ·rw[List.getElem?_set_ne (Ne.symm hj)] at e2
    obtain⟨u',r',q⟩:=hl j y v' e1 e2 e3
    refine⟨u',r',?_⟩
    rcases q with⟨k,e⟩ | ⟨k,c,e,z⟩
    ·refine .inl ⟨k,?_⟩
     have:y≠x:=fun e=>hj (nodup_ix hN e1 (e ▸ hi))
     simp[this,e]
    ·exact .inr ⟨k,c,e,z.sameBut hs (cne y c e)⟩
  ·obtain⟨w',z⟩:=I.cell y c e
   exact⟨w',z.sameBut hs (cne y c e)⟩
  ·obtain⟨e,n,ne,nf,d⟩:=I.pin p hp
   exact⟨(hs.2 p.1 ne).trans e,n,ne,nf,d⟩
 ·have hfn:X.fn x=true := by
     rcases hf with z | z
     ·exact z
     ·rw[z] at hk;cases hk
  obtain⟨c,hc⟩:=I.ok.has x (.inl hk)
  obtain⟨w',z⟩:=I.cell x c hc
  refine wpAny_storeName_cell I.ok.kind hk hc z (fun h' hc' hs=>?_)
  obtain⟨oc,hoc,hocd⟩:=id z
  refine h { s with heap:=h' } ⟨I.ok,I.os,I.bare,⟨fun b o e n hb hx=>?_,fun b o e n hb hx=>?_,I.base.free,fun b o e hx=>?_,I.base.tups,I.base.frzs,I.base.tbls⟩,⟨m,hn.sameBut hs (Ne.symm (cne x c hc)),fun j y v' e1 e2 e3=>?_⟩,fun y c' e=>?_,I.free,I.freeC,fun p hp=>?_,tracked ⟨oc,hoc,I.freeC x c hc⟩ hs,by simpa using I.len⟩ ⟨c,hs,.inr hc⟩
  ·exact(hs.2 b (Nat.ne_of_lt (Nat.lt_of_lt_of_le (Heap.lt_size e) (I.ok.cab x c hfn hc)))).trans (I.base.keep b o e n hb hx)
  ·obtain⟨sl,e1⟩:=I.base.slot b o e n hb hx
   exact⟨sl,(hs.2 b (Nat.ne_of_lt (Nat.lt_of_lt_of_le (Heap.lt_size e) (I.ok.cab x c hfn hc)))).trans e1⟩
  ·obtain⟨o',e1⟩:=I.base.there b o e hx
   exact⟨o',(hs.2 b (Nat.ne_of_lt (Nat.lt_of_lt_of_le (Heap.lt_size e) (I.ok.cab x c hfn hc)))).trans e1⟩
  ·by_cases hj:j=i
   ·subst hj
    rw[hi] at e1;cases e1
    rw[List.getElem?_set_self hiσ] at e2
    cases e2
    exact⟨u,r,.inr ⟨.inl hk,c,hc,hc'⟩⟩
   ·rw[List.getElem?_set_ne (Ne.symm hj)] at e2
    obtain⟨u',r',q⟩:=hl j y v' e1 e2 e3
    refine⟨u',r',?_⟩
    rcases q with q | ⟨k,c',e,z'⟩
    ·exact .inl q
    ·refine .inr ⟨k,c',e,z'.sameBut hs ?_⟩
     rintro rfl
     exact hj (nodup_ix hN e1 (I.ok.inj _ _ _ e hc ▸ hi))
  ·by_cases hcc:c'=c
   ·subst hcc;exact⟨_,hc'⟩
   ·obtain⟨w2,z2⟩:=I.cell y c' e
    exact⟨w2,z2.sameBut hs hcc⟩
  ·obtain⟨e,n,ne,nf,d⟩:=I.pin p hp
   refine⟨(hs.2 p.1 ?_).trans e,n,ne,nf,d⟩
   intro q
   rw[q,hoc] at e
   have q':oc=p.2:=Option.some.inj e
   exact d w' (by rw[<- q'];exact hocd)
theorem store_ok (I:Inv X pins σ H s) (hN:X.N.Nodup) (hi:X.N[i]? = some x) (hx:Loc X.env.scope x) (r:RelV v u)
    (h:∀s',Inv X pins (σ.set i (some v)) H s'->Q () s') (hf:X.fn x=true∨X.env.scope.names.lookup x=some .local:=by first | exact .inl rfl | exact .inr rfl | assumption):wpAny M A (storeName X.env x u) Q E s :=
 store_ok2 I hN hi hx r (fun s' I' _=>h s' I') hf
theorem Inv.call' (I:Inv X pins σ H s) (ho:s'.os=s.os) (u:Un (frs X.stack) ch H H' s.heap s'.heap) (hok:HOk X.prog X.w H' s'.heap) (hg:AllBare s'.gens)
    (hch:∀b∈ch,(b∈X.ex∨X.s₀.heap.objs.size<=b)/\b≠X.env.locals/\(∀x c,X.env.cells.lookup x=some c->c≠b)/\∀p∈X.pn++pins,p.1≠b):Inv X pins σ H' s':=by
 obtain⟨h',g',d',t',o'⟩:=s'
 have e:o'=s.os:=ho
 subst e
 exact I.call (g':=g') (t':=t') (d':=d') u hok hg hch
end
abbrev XK:=Value->Option Addr->Hp->Prop
abbrev St:=List (Option V)
abbrev VK:=V->Hp->Prop
abbrev TE:=St->Hp->VK->Prop
abbrev TT:=St->Hp->(Bool->Hp->Prop)->Prop
abbrev TA:=St->Hp->(List V->Hp->Prop)->Prop
structure Ends where
 nx:St->Hp->Prop
 rt:VK
 bk:St->Hp->Prop:=fun _ _=>False
 ct:St->Hp->Prop:=fun _ _=>False
abbrev TS:=Ends->St->Hp->Prop
def EP (X:Cx) (pins:List (Addr × Obj)) (σ:St) (Q:VK) (u:Value) (s':Shared):Prop:=∃v H',Inv X pins σ H' s'/\RelV v u/\Q v H'
def TP (X:Cx) (pins:List (Addr × Obj)) (σ:St) (Q:Bool->Hp->Prop) (b:Bool) (s':Shared):Prop:=∃H',Inv X pins σ H' s'/\Q b H'
def AP (X:Cx) (pins:List (Addr × Obj)) (σ:St) (Q:List V->Hp->Prop) (us:List Value) (s':Shared):Prop:=∃vs H',Inv X pins σ H' s'/\Vals vs us/\Q vs H'
def SP (X:Cx) (pins:List (Addr × Obj)) (D:Ends) (f:Flow) (s':Shared):Prop :=
 match f with
 | .next=>∃σ' H',Inv X pins σ' H' s'/\D.nx σ' H'
 | .brk=>∃σ' H',Inv X pins σ' H' s'/\D.bk σ' H'
 | .cont=>∃σ' H',Inv X pins σ' H' s'/\D.ct σ' H'
 | .ret u=>∃v σ' H',Inv X pins σ' H' s'/\RelV v u/\D.rt v H'
def PE (X:Cx) (e:Expr) (t:TE):Prop :=
 ∀(pins:List (Addr × Obj)) (s:Shared) (σ:St) (H:Hp) (Q:VK),Inv X pins σ H s->t σ H Q->wpAny (model X.prog X.w) X.A (eval e X.env) (EP X pins σ Q) X.xe s
def PT (X:Cx) (e:Expr) (t:TT):Prop :=
 ∀(pins:List (Addr × Obj)) (s:Shared) (σ:St) (H:Hp) (Q:Bool->Hp->Prop),Inv X pins σ H s->t σ H Q->wpAny (model X.prog X.w) X.A (isTrue e X.env (eval e X.env)) (TP X pins σ Q) X.xe s
def PW (X:Cx) (e:Expr) (t:TT):Prop :=
 ∀(whole:Sem Value) (pins:List (Addr × Obj)) (s:Shared) (σ:St) (H:Hp) (Q:Bool->Hp->Prop),Inv X pins σ H s->t σ H Q->wpAny (model X.prog X.w) X.A (isTrue e X.env whole) (TP X pins σ Q) X.xe s
theorem PW.pt (h:PW X e t):PT X e t:=h _
def PA (X:Cx) (es:List Expr) (t:TA):Prop :=
 ∀(pos:Pos) (pins:List (Addr × Obj)) (s:Shared) (σ:St) (H:Hp) (Q:List V->Hp->Prop),Inv X pins σ H s->t σ H Q->wpAny (model X.prog X.w) X.A (spliced (backTo pos (starEach es X.env))) (AP X pins σ Q) X.xe s
def PS (X:Cx) (st:Stmt) (t:TS):Prop :=
 ∀(pins:List (Addr × Obj)) (s:Shared) (σ:St) (H:Hp) (D:Ends),Inv X pins σ H s->t D σ H->wpAny (model X.prog X.w) X.A (exec st X.env) (SP X pins D) X.xe s
def PSs (X:Cx) (st:List Stmt) (t:TS):Prop :=
 ∀(pins:List (Addr × Obj)) (s:Shared) (σ:St) (H:Hp) (D:Ends),Inv X pins σ H s->t D σ H->wpAny (model X.prog X.w) X.A (execs st X.env) (SP X pins D) X.xe s
theorem thn (h:wpAny M A t Q E s) (hQ:∀a s,Q a s->Q' a s):wpAny M A t Q' E s:=wpAny_mono h hQ fun _ _ x=>x
end L2
namespace L2
open PySem PySem.Spec PyProof.Rows
section
variable {X:Cx}
def tVar (i:Nat):TE:=fun σ H Q=>∃v,σ[i]? = some (some v)/\Q v H
def tC (v:V):TE:=fun _ H Q=>Q v H
theorem pe_var (hN:X.N[i]? = some x) (hv:Vis X.env.scope x) (hd:(x==("__debug__":Str))=false:=by decide) (hcd:(x==("__classdict__":Str))=false:=by decide):PE X (.Name x pos) (tVar i):=by
 intro pins s σ H Q I h
 obtain⟨v,e,h⟩:=h
 obtain⟨m,hn,hl⟩:=I.loc
 obtain⟨u,r,l⟩:=hl i x v hN e hv
 have fin:EP X pins σ Q u s:=⟨v,H,I,r,h⟩
 rcases l with⟨hk,hm⟩ | ⟨hk,c,hc,hcell⟩
 ·exact wpAny_Name (wpAny_loadName_local I.ok.kind hk hn hm fin) hd
 ·rcases hk with hk | hk
  ·exact wpAny_Name (wpAny_loadName_cell I.ok.kind hk hc hcell fin) hd
  ·exact wpAny_Name (wpAny_loadName_free I.ok.kind hk hc hcell fin hcd) hd
theorem pe_int {i j pos}:PE X (.Constant (.int i) j pos) (tC (.int i)):=fun _ _ _ H _ I h=>wpAny_Constant_int ⟨.int i,H,I.tok _,⟨_,rfl⟩,h⟩
theorem pe_bl {b j pos}:PE X (.Constant (.bool b) j pos) (tC (.bl b)):=fun _ _ _ H _ I h=>Constant_bool ⟨.bl b,H,I,rfl,h⟩
theorem pe_non {j pos}:PE X (.Constant .none j pos) (tC .non):=fun _ _ _ H _ I h=>Constant_none ⟨.non,H,I,rfl,h⟩
theorem pe_str {x j pos}:PE X (.Constant (.str x) j pos) (tC (.str x)):=fun _ _ _ H _ I h=>Calls.Constant_str ⟨.str x,H,I.tok _,⟨_,rfl⟩,h⟩
def Gl (X:Cx) (x:Str):Prop:=X.env.kindOf x=some .globalImplicit
theorem ld_glob (I:Inv X pins σ H s) (hg:Gl X x) (hm:X.mg x=some u) (h:Q u s)
    (hd:(x==("__debug__":Str))=false:=by decide):wpAny (model X.prog X.w) X.A (eval (.Name x pos) X.env) Q E s :=
 Calls.Name_function_global I.ok.kind hg (Calls.loadGlobal_global (by rw[I.ok.glob];exact I.mod.glob.keeps I.bk) hm h) hd
theorem ld_blt (I:Inv X pins σ H s) (hg:Gl X x) (hm:X.mg x=none) (hv:bootBuiltins x=some u) (h:Q u s)
    (hn:x≠"__name__":=by decide) (hd:(x==("__debug__":Str))=false:=by decide):wpAny (model X.prog X.w) X.A (eval (.Name x pos) X.env) Q E s:=by
 obtain⟨mb,h1,h2⟩:=I.mod.blt
 exact Calls.Name_function_global I.ok.kind hg (Calls.loadGlobal_builtin (by rw[I.ok.glob];exact I.mod.glob.keeps I.bk) hm (by rw[I.ok.blt];exact h1.keeps I.bk) ((h2 x hn).trans hv) h) hd
theorem pe_glob (hg:Gl X x) (hm:X.mg x=some u) (r:RelV v u) (hd:(x==("__debug__":Str))=false:=by decide):PE X (.Name x pos) (tC v) :=
 fun _ _ _ H _ I h=>ld_glob I hg hm ⟨v,H,I,r,h⟩ hd
theorem pe_bltn (hg:Gl X x) (hm:X.mg x=none) (hv:bootBuiltins x=some u) (r:RelV v u) (hn:x≠"__name__":=by decide) (hd:(x==("__debug__":Str))=false:=by decide):PE X (.Name x pos) (tC v) :=
 fun _ _ _ H _ I h=>ld_blt I hg hm hv ⟨v,H,I,r,h⟩ hn hd
variable {a b:Expr}{ta tb:TE}{pos:Pos}
def tB (t:TE):TT:=fun σ H Q=>t σ H fun x H1=>∃c,x=.bl c/\Q c H1
theorem pt_val (h:PE X e t) (he:∀whole,isTrue e X.env whole=(do let v ← whole;standAt e.pos;holding [v] (truthy v)):=by intro _;rfl):PT X e (tB t):=by
 intro pins s σ H Q I hw
 refine isTrue_plain (thn (h pins s σ H _ I hw) fun v s1 ⟨x,H1,I1,r1,q1⟩=>?_) (he _)
 obtain⟨d,rfl,q⟩:=q1
 cases r1
 exact wpAny_truthy_bool ⟨H1,I1,q⟩
variable {tA tB':TT}{rest:List Expr}
def tAnd (t u:TT):TT:=fun σ H Q=>t σ H fun c H1=>if c=true then u σ H1 Q else Q false H1
def tOr (t u:TT):TT:=fun σ H Q=>t σ H fun c H1=>if c=true then Q true H1 else u σ H1 Q
def tNot (t:TT):TT:=fun σ H Q=>t σ H fun c H1=>Q (!c) H1
theorem pw_and1 (ha:PT X a tA):PW X (.BoolOp .And [a] pos) tA:=by
 intro wh pins s σ H Q I h
 refine isTrue_and (thn (ha pins s σ H Q I h) fun c s1 e=>?_)
 cases c with
 | true=>exact isTrue_and_nil e
 | false=>exact e
theorem pw_or1 (ha:PT X a tA):PW X (.BoolOp .Or [a] pos) tA:=by
 intro wh pins s σ H Q I h
 refine isTrue_or (thn (ha pins s σ H Q I h) fun c s1 e=>?_)
 cases c with
 | false=>exact isTrue_or_nil e
 | true=>exact e
theorem pw_and (ha:PT X a tA) (hb:PW X (.BoolOp .And (b::rest) pos) tB'):PW X (.BoolOp .And (a::b::rest) pos) (tAnd tA tB'):=by
 intro wh pins s σ H Q I h
 refine isTrue_and (thn (ha pins s σ H _ I h) fun c s1 ⟨H1,I1,q1⟩=>?_)
 cases c with
 | true=>exact hb wh pins s1 σ H1 Q I1 q1
 | false=>exact⟨H1,I1,q1⟩
theorem pw_or (ha:PT X a tA) (hb:PW X (.BoolOp .Or (b::rest) pos) tB'):PW X (.BoolOp .Or (a::b::rest) pos) (tOr tA tB'):=by
 intro wh pins s σ H Q I h
 refine isTrue_or (thn (ha pins s σ H _ I h) fun c s1 ⟨H1,I1,q1⟩=>?_)
 cases c with
 | true=>exact⟨H1,I1,q1⟩
 | false=>exact hb wh pins s1 σ H1 Q I1 q1
theorem pt_not (ha:PT X a tA):PT X (.UnaryOp .Not a pos) (tNot tA):=by
 intro pins s σ H Q I h
 exact isTrue_not (ha pins s σ H (fun c H1=>Q (!c) H1) I h)
def tAndV (ta tb:TE):TE:=fun σ H Q=>ta σ H fun x H1=>∃c,x=.bl c/\if c=true then tb σ H1 Q else Q (.bl false) H1
theorem pe_one {op}(h:PE X a t):PE X (.BoolOp op [a] pos) t:=fun pins s σ H Q I hw=>BoolOp_one (h pins s σ H Q I hw)
theorem pe_and (ha:PE X a ta) (hb:PE X (.BoolOp .And (b::rest) pos) tb):PE X (.BoolOp .And (a::b::rest) pos) (tAndV ta tb):=by
 intro pins s σ H Q I h
 refine BoolOp_and (thn (ha pins s σ H _ I h) fun v s1 ⟨x,H1,I1,r1,q1⟩=>?_)
 obtain⟨c,rfl,q1⟩:=q1
 cases r1
 refine wpAny_truthy_bool ?_
 cases c with
 | true=>exact hb pins s1 σ H1 Q I1 q1
 | false=>exact⟨.bl false,H1,I1,rfl,q1⟩
end
end L2
namespace L2
open PySem PySem.Spec PyProof.Rows
def SqL (K:W.Frag) (H:Hp) (a:Addr) (xs:List V):Prop :=
 Rd H a (.lst xs) ∨
  ∃(o:Obj) (its:Array Value) (n:Nat),K.lookup a=some o/\o.cls=.type "list"/\o.dict=none/\o.data=.seq its n/\its.size<=sizeLine/\Vals xs its.toList
def SqT (K:W.Frag) (H:Hp) (a:Addr) (xs:List V):Prop :=
 Rd H a (.tup xs) ∨
  ∃(o:Obj) (its:Array Value) (n:Nat),K.lookup a=some o/\o.cls=.type "tuple"/\o.data=.seq its n/\its.size<=sizeLine/\Vals xs its.toList
def absV:Value->Option V
 | .none=>some .non
 | .bool b=>some (.bl b)
 | .int i _=>some (.int i)
 | .str x _=>some (.str x)
 | .bytes b _=>some (.byt b)
 | .float b _=>some (.flt b)
 | .ref a=>some (.ref a)
 | .type n=>some (.ty n)
 | _=>none
theorem RelV.abs (r:RelV x u):absV u=some x:=by
 cases x with
 | non=>cases r;rfl
 | bl _=>cases r;rfl
 | int _=>obtain⟨t,rfl⟩:=r;rfl
 | str _=>obtain⟨t,rfl⟩:=r;rfl
 | byt _=>obtain⟨t,rfl⟩:=r;rfl
 | flt _=>obtain⟨t,rfl⟩:=r;rfl
 | ref _=>cases r;rfl
 | ty _=>cases r;rfl
theorem RelV.inj (r:RelV x u) (q:RelV y u):x=y:=Option.some.inj (r.abs.symm.trans q.abs)
theorem Vals.inj:∀ {xs ys:List V}{us:List Value},Vals xs us->Vals ys us->xs=ys
 | _,_,_,.nil,.nil=>rfl
 | _,_,_,.cons r t,.cons r' t'=>by rw[r.inj r',Vals.inj t t']
section
variable {X:Cx}{pins:List (Addr × Obj)}{σ:St}{H:Hp}{s:Shared}{a:Addr}{xs ys:List V}
theorem SqL.of {K:W.Frag}(h:H a=some (.lst xs)):SqL K H a xs:=.inl (.inl h)
theorem SqT.of {K:W.Frag}(h:H a=some (.tup xs)):SqT K H a xs:=.inl (.inl h)
theorem Inv.list (I:Inv X pins σ H s) (h:SqL X.K H a xs):∃its:List Value,Vals xs its/\PlainL s.heap a its.toArray/\xs.length<=sizeLine:=by
 rcases h with h | ⟨o,its,n,hk,hc,hd,hs,hz,r⟩
 ·obtain⟨z,its,n,r,e⟩:=h.ok I.hok
  exact⟨its,r,⟨_,n,e,rfl,rfl,rfl⟩,z⟩
 ·refine⟨its.toList,r,⟨o,n,I.kIn a o hk,hc,hd,by simpa using hs⟩,?_⟩
  have e:=r.length
  simp only[Array.length_toList] at e
  omega
theorem Inv.tuple (I:Inv X pins σ H s) (h:SqT X.K H a xs):∃its:List Value,Vals xs its/\IsTup s.heap a its.toArray/\xs.length<=sizeLine:=by
 rcases h with h | ⟨o,its,n,hk,hc,hs,hz,r⟩
 ·obtain⟨z,its,r,p⟩:=h.ok I.hok
  exact⟨its,r,p.tup,z⟩
 ·refine⟨its.toList,r,⟨o,I.kIn a o hk,hc,n,by simpa using hs⟩,?_⟩
  have e:=r.length
  simp only[Array.length_toList] at e
  omega
theorem Inv.list_inj (I:Inv X pins σ H s) (h:SqL X.K H a xs) (h':SqL X.K H a ys):xs=ys:=by
 obtain⟨its,r,⟨o,n,e,_,_,d⟩,_⟩:=I.list h
 obtain⟨its',r',⟨o',n',e',_,_,d'⟩,_⟩:=I.list h'
 rw[e] at e';cases e'
 rw[d] at d'
 injection d' with d1 _
 have:its=its':=by simpa using congrArg Array.toList d1
 subst this
 exact r.inj r'
theorem Inv.tuple_inj (I:Inv X pins σ H s) (h:SqT X.K H a xs) (h':SqT X.K H a ys):xs=ys:=by
 obtain⟨its,r,⟨o,e,_,n,d⟩,_⟩:=I.tuple h
 obtain⟨its',r',⟨o',e',_,n',d'⟩,_⟩:=I.tuple h'
 rw[e] at e';cases e'
 rw[d] at d'
 injection d' with d1 _
 have:its=its':=by simpa using congrArg Array.toList d1
 subst this
 exact r.inj r'
end
abbrev Cx.wish (X:Cx) (E:Value->Shared->Prop):Cx:={ X with xe:=E }
abbrev Cx.nox (X:Cx):Cx:=X.wish fun _ _=>False
theorem Cx.Ok.wish {X:Cx}(ok:X.Ok) (E:Value->Shared->Prop):(X.wish E).Ok :=
 ⟨ok.mod,ok.kind,ok.glob,ok.blt,ok.above,ok.inj,ok.has,ok.cab,ok.hd,ok.frames,ok.stk,ok.exf,ok.bs,ok.bsz,ok.noex,ok.exfs,ok.funs,ok.frf⟩
theorem Cx.Ok.unwish {X:Cx}{E:Value->Shared->Prop}(ok:(X.wish E).Ok):X.Ok :=
 ⟨ok.mod,ok.kind,ok.glob,ok.blt,ok.above,ok.inj,ok.has,ok.cab,ok.hd,ok.frames,ok.stk,ok.exf,ok.bs,ok.bsz,ok.noex,ok.exfs,ok.funs,ok.frf⟩
section
variable {X:Cx}{pins:List (Addr × Obj)}{σ:St}{H:Hp}{s:Shared}{E:Value->Shared->Prop}
theorem Inv.wish (I:Inv X pins σ H s) (E:Value->Shared->Prop):Inv (X.wish E) pins σ H s:=⟨I.ok.wish E,I.os,I.bare,I.base,I.loc,I.cell,I.free,I.freeC,I.pin,I.hok,I.len⟩
theorem Inv.unwish (I:Inv (X.wish E) pins σ H s):Inv X pins σ H s:=⟨I.ok.unwish,I.os,I.bare,I.base,I.loc,I.cell,I.free,I.freeC,I.pin,I.hok,I.len⟩
theorem SP.unwish (h:SP (X.wish E) pins D f s'):SP X pins D f s':=by
 cases f with
 | next=>obtain⟨σ',H',I,q⟩:=h;exact⟨σ',H',I.unwish,q⟩
 | brk=>obtain⟨σ',H',I,q⟩:=h;exact⟨σ',H',I.unwish,q⟩
 | cont=>obtain⟨σ',H',I,q⟩:=h;exact⟨σ',H',I.unwish,q⟩
 | ret u=>obtain⟨v,σ',H',I,r,q⟩:=h;exact⟨v,σ',H',I.unwish,r,q⟩
theorem PSs.nox {st:List Stmt}{t:TS}(h:PSs X.nox st t):PSs X st t:=fun pins s σ H D I hw =>
 wpAny_mono (h pins s σ H D (I.wish _) hw) (fun _ _ q=>q.unwish) fun _ _ z=>False.elim z
end
section
variable {X:Cx}{st:Stmt}{rest:List Stmt}{t u:TS}{e:Expr}{te:TE}{pos:Pos}
def tNext:TS:=fun D σ H=>D.nx σ H
def tSeq (t u:TS):TS:=fun D σ H=>t { D with nx:=u D } σ H
theorem pss_nil:PSs X [] tNext:=fun _ _ σ H _ I h=>wpAny_execs_nil ⟨σ,H,I,h⟩
theorem pss_cons (h1:PS X st t) (h2:PSs X rest u):PSs X (st::rest) (tSeq t u):=by
 intro pins s σ H D I h
 refine wpAny_execs_cons (thn (h1 pins s σ H { D with nx:=u D } I h) fun f s1 q=>?_)
 cases f with
 | next =>
  obtain⟨σ',H',I',q⟩:=q
  exact h2 pins s1 σ' H' D I' q
 | ret v=>exact q
 | brk=>exact q
 | cont=>exact q
theorem pss_one (h1:PS X st t):PSs X [st] t:=by
 intro pins s σ H D I h
 refine wpAny_execs_cons (thn (h1 pins s σ H D I h) fun f s1 q=>?_)
 cases f with
 | next=>exact wpAny_execs_nil q
 | ret v=>exact q
 | brk=>exact q
 | cont=>exact q
theorem Inv.quiet (I:Inv X pins σ H s):interactive X.env=false:=by simp[interactive,I.ok.kind]
def tDrop (te:TE):TS:=fun D σ H=>te σ H fun _ H1=>D.nx σ H1
theorem ps_expr (he:PE X e te) (hs:swapsWith e none pos.line X.env=pure false:=by rfl):PS X (.Expr e pos) (tDrop te):=by
 intro pins s σ H D I h
 exact wpAny_Expr_any (thn (he pins s σ H _ I h) fun v s1 ⟨x,H1,I1,r1,q1⟩=>⟨σ,H1,I1,q1⟩) I.quiet hs
def tRet (te:TE):TS:=fun D σ H=>te σ H D.rt
theorem ps_ret (he:PE X e te):PS X (.Return (some e) pos) (tRet te):=by
 intro pins s σ H D I h
 exact wpAny_Return_some (thn (he pins s σ H _ I h) fun v s1 ⟨x,H1,I1,r1,q1⟩=>⟨x,σ,H1,I1,r1,q1⟩)
def tIfS (c:TT) (t u:TS):TS:=fun D σ H=>c σ H fun b H1=>if b=true then t D σ H1 else u D σ H1
theorem ps_if (hc:PT X c tc) (ha:PSs X a t) (hb:PSs X b u):PS X (.If c a b pos) (tIfS tc t u):=by
 intro pins s σ H D I h
 refine wpAny_If (thn (hc pins s σ H _ I h) fun d s1 ⟨H1,I1,q1⟩=>?_)
 cases d with
 | true=>exact ha pins s1 σ H1 D I1 q1
 | false=>exact hb pins s1 σ H1 D I1 q1
end
abbrev TG:=V->St->Hp->(St->Hp->Prop)->Prop
abbrev TGs:=List V->St->Hp->(St->Hp->Prop)->Prop
def PG (X:Cx) (target:Expr) (t:TG):Prop :=
 ∀(pins:List (Addr × Obj)) (s:Shared) (σ:St) (H:Hp) (v:V) (u:Value) (Q:St->Hp->Prop),Inv X pins σ H s->RelV v u->t v σ H Q ->
  wpAny (model X.prog X.w) X.A (assign target X.env u) (fun _ s'=>∃σ' H',Inv X pins σ' H' s'/\Q σ' H') X.xe s
def PGs (X:Cx) (ts:List Expr) (t:TGs):Prop :=
 ∀(pins:List (Addr × Obj)) (s:Shared) (σ:St) (H:Hp) (vs:List V) (us:List Value) (Q:St->Hp->Prop),Inv X pins σ H s->Vals vs us->t vs σ H Q ->
  wpAny (model X.prog X.w) X.A (assignInOrder ((assignEach ts X.env).map (·.2)) us) (fun _ s'=>∃σ' H',Inv X pins σ' H' s'/\Q σ' H') X.xe s
abbrev TSet:=V->V->V->Hp->(Hp->Prop)->Prop
def PSet (X:Cx) (t:TSet):Prop :=
 ∀(pins:List (Addr × Obj)) (s:Shared) (σ:St) (H:Hp) (o i v:V) (ov iv u:Value) (Q:Hp->Prop),Inv X pins σ H s->RelV o ov->RelV i iv->RelV v u->t o i v H Q ->
  wpAny (model X.prog X.w) X.A (setItem ov iv u) (fun _ s'=>∃H',Inv X pins σ H' s'/\Q H') X.xe s
section
variable {X:Cx}{pos:Pos}
def gName (i:Nat):TG:=fun v σ H Q=>Q (σ.set i (some v)) H
theorem pg_name (hN:X.N.Nodup) (hi:X.N[i]? = some x) (hx:Loc X.env.scope x) (hf:X.fn x=true∨X.env.scope.names.lookup x=some .local:=by first | exact .inl rfl | exact .inr rfl | assumption):PG X (.Name x pos) (gName i):=by
 intro pins s σ H v u Q I r h
 exact wpAny_assign_Name (store_ok I hN hi hx r (fun s' I'=>⟨_,H,I',h⟩) hf)
def gNil:TGs:=fun vs σ H Q=>vs=[]/\Q σ H
def gCons (t:TG) (u:TGs):TGs:=fun vs σ H Q=>∃v r,vs=v::r/\t v σ H fun σ' H'=>u r σ' H' Q
theorem pgs_nil:PGs X [] gNil:=by
 intro pins s σ H vs us Q I r h
 obtain⟨e,h⟩:=h
 subst e
 cases r
 exact assignInOrder_nil ⟨σ,H,I,h⟩
theorem pgs_cons (h1:PG X e t) (h2:PGs X es u)
    (hs:(assignEach (e::es) X.env).map (·.2)=assign e X.env::(assignEach es X.env).map (·.2):=by rfl):PGs X (e::es) (gCons t u):=by
 intro pins s σ H vs us Q I r h
 obtain⟨v,vr,e1,h⟩:=h
 subst e1
 cases r with
 | cons r rr =>
  rw[hs]
  refine assignInOrder_cons (thn (h1 pins s σ H _ _ _ I r h) fun _ s1 ⟨σ1,H1,I1,q1⟩=>?_)
  exact h2 pins s1 σ1 H1 _ _ Q I1 rr q1
def gTup (K:W.Frag) (n:Nat) (t:TGs):TG:=fun v σ H Q=>∃a xs,v=.ref a/\SqT K H a xs/\xs.length=n/\t xs σ H Q
theorem pg_tup (hc:X.calm=true) (h:PGs X es t)
    (hn:(assignEach es X.env).length=n:=by rfl) (hst:(assignEach es X.env).findIdx? (·.1)=none:=by rfl):PG X (.Tuple es k pos) (gTup X.K n t):=by
 intro pins s σ H v u Q I r hw
 obtain⟨a,xs,e1,hq,hl,hw⟩:=hw
 subst e1
 cases r
 obtain⟨its,rv,ht,hz⟩:=I.tuple hq
 refine assign_Tuple_tuple (I.ok.hd hc) ht (by simp[hn,<- hl,rv.length]) hst fun h' hx=>?_
 have I1:Inv X pins σ H { s with heap:=h' }:=I.kept (t':=s.toks) fun b o e=>hx b o (Nat.ne_of_lt (Heap.lt_size e)) e
 exact h pins _ σ H xs _ Q I1 (by simpa using rv) hw
def gSub (to ti:TE) (t:TSet):TG:=fun v σ H Q=>to σ H fun o H1=>ti σ H1 fun i H2=>t o i v H2 fun H3=>Q σ H3
theorem pg_sub (ho:PE X o to) (hi:PE X i ti) (hs:PSet X t)
    (ha:∀v,assign (.Subscript o i pos) X.env v=(do
     let ov ← holding [v] (eval o X.env)
     let iv ← holding [v,ov] (eval i X.env)
     standAt pos
     holding [v,ov,iv] (setItem ov iv v)
     release [v,ov,iv] []):=by intro _;rfl):PG X (.Subscript o i pos) (gSub to ti t):=by
 intro pins s σ H v u Q I r h
 rw[ha]
 refine wpAny_bind (wpAny_holding (thn (ho pins s σ H _ I h) fun ov s1 ⟨x,H1,I1,r1,q1⟩=>?_))
 refine wpAny_bind (wpAny_holding (thn (hi pins s1 σ H1 _ I1 q1) fun iv s2 ⟨y,H2,I2,r2,q2⟩=>?_))
 refine wpAny_bind (wpAny_standAt (wpAny_bind (wpAny_holding (thn (hs pins s2 σ H2 x y v ov iv u _ I2 r1 r2 r q2) fun _ s3 ⟨H3,I3,q3⟩=>?_))))
 exact wpAny_release ⟨σ,H3,I3,q3⟩
def tAsg (te:TE) (g:TG):TS:=fun D σ H=>te σ H fun x H1=>g x σ H1 D.nx
theorem ps_asg (he:PE X e te) (hg:PG X tg g) (hs:swapsWithSole [tg] e pos.line X.env=pure false:=by rfl) (hw:swappedStores [tg] e X.env=pure none:=by rfl)
    (h1:(assignEach [tg] X.env).map (·.2)=[assign tg X.env]:=by rfl):PS X (.Assign [tg] e pos) (tAsg te g):=by
 intro pins s σ H D I h
 refine wpAny_Assign_stores (thn (he pins s σ H _ I h) fun v s1 ⟨x,H1,I1,r1,q1⟩=>?_) hs hw
 rw[h1]
 exact thn (hg pins s1 σ H1 x v _ I1 r1 q1) fun _ s2 q=>q
theorem ps_set (hN:X.N.Nodup) (hi:X.N[i]? = some x) (hx:Loc X.env.scope x) (he:PE X e te) (hs:swapsWith e (some (.Name x pos')) pos.line X.env=pure false:=by rfl) (hf:X.fn x=true∨X.env.scope.names.lookup x=some .local:=by first | exact .inl rfl | exact .inr rfl | assumption) :
    PS X (.Assign [.Name x pos'] e pos) (tAsg te (gName i)):=by
 intro pins s σ H D I h
 refine wpAny_Assign_Name (thn (he pins s σ H _ I h) fun v s1 ⟨y,H1,I1,r1,q1⟩=>?_) hs
 exact store_ok I1 hN hi hx r1 (fun s2 I2=>⟨_,H1,I2,q1⟩) hf
def tPar (i j:Nat) (ta:TA):TS:=fun D σ H=>ta σ H fun vs H1=>∃v w,vs=[v,w]/\D.nx ((σ.set i (some v)).set j (some w)) H1
theorem ps_par {kt k2 pt2}(hc:X.calm=true) (hN:X.N.Nodup) (hi:X.N[i]? = some x) (hj:X.N[j]? = some y) (hij:i ≠ j)
    (hx:X.env.scope.names.lookup x=some .local) (hy:X.env.scope.names.lookup y=some .local) (ha:PA X [a,b] ta)
    (hw:swappedStores [.Tuple [.Name x px,.Name y py] kt pt] (.Tuple [a,b] k2 pt2) X.env=pure (some [x,y]))
    (hs:swapsWithSole [.Tuple [.Name x px,.Name y py] kt pt] (.Tuple [a,b] k2 pt2) pos.line X.env=pure false:=by rfl) :
    PS X (.Assign [.Tuple [.Name x px,.Name y py] kt pt] (.Tuple [a,b] k2 pt2) pos) (tPar i j ta):=by
 intro pins s σ H D I h
 rw[exec_Assign_arm]
 refine wpAny_bind (wpAny_standAt ?_)
 rw[hs]
 refine wpAny_bind (wpAny_pure ?_)
 rw[if_neg (by decide)]
 refine wpAny_bind (Tuple_ (thn (ha _ pins s σ H _ I h) fun us s1 ⟨vs,H1,I1,r1,q1⟩=>?_))
 obtain⟨v,w,e1,q1⟩:=q1
 subst e1
 obtain⟨u1, u2, rfl, rv, rw'⟩:∃u1 u2, us=[u1, u2] /\ RelV v u1 /\ RelV w u2 := by
  cases r1 with
  | cons p q =>
   cases q with
   | cons p' q' =>
    cases q'
    exact⟨_,_,rfl,p,p'⟩
 refine wpAny_newObj_type ?_ (by show 2<=sizeLine;decide)
 have I2:Inv X pins σ H1 { s1 with heap:=s1.heap.push { cls:=.type "tuple",data:=.seq [u1,u2].toArray } }:=I1.kept (t':=s1.toks) fun b o e=>Heap.get?_push_of_some _ e
 rw[hw]
 refine wpAny_bind (wpAny_pure ?_)
 show wpAny (model X.prog X.w) X.A (do rule "assign.swapped-stores";let items ← unpackItems (.ref s1.heap.objs.size) 2 none;assignInOrder [fun v=>bindName X.env y v,fun v=>bindName X.env x v] items.reverse;pure Flow.next) _ _ _
 refine wpAny_bind (wpAny_rule (wpAny_bind (unpackItems_tuple (items:=#[u1,u2]) (I.ok.hd hc) (IsTup.new s1.heap _) fun h' hx'=>?_)))
 have I3:=I2.kept (h':=h') (t':=s1.toks) fun b o e=>hx' b o (Nat.ne_of_lt (Heap.lt_size e)) e
 show wpAny _ _ (assignInOrder [fun v=>bindName X.env y v,fun v=>bindName X.env x v] [u2,u1] >>= fun _=>pure Flow.next) _ _ _
 refine wpAny_bind (assignInOrder_cons (wpAny_bindName (store_ok I3 hN hj (.inl hy) rw' (fun s2 I4=>?_) (.inr hy))))
 refine assignInOrder_cons (wpAny_bindName (store_ok I4 hN hi (.inl hx) rv (fun s3 I5=>assignInOrder_nil (wpAny_pure ?_)) (.inr hx)))
 rw[List.set_comm _ _ (Ne.symm hij)] at I5
 exact⟨_,H1,I5,q1⟩
end
section
variable {X:Cx}{pos:Pos}
def tWhile (c:TT) (tb:TS):TS:=fun D σ H=>∃W:Nat->St->Hp->Prop,(∃m,W m σ H)/\∀m σ H,W m σ H ->
 c σ H fun b H1=>if b=true then ∃N:St->Hp->Prop,(∀σ' H',N σ' H'->∃m',m'<m/\W m' σ' H')/\tb { D with nx:=N,ct:=N,bk:=D.nx } σ H1 else D.nx σ H1
theorem ps_while (hp:PassesOwn (model X.prog X.w) X.A X.env X.xe) (hc:PT X c tc) (hb:PSs X body tb):PS X (.While c body [] pos) (tWhile tc tb) := by
 intro pins s σ H D I h
 obtain⟨W,⟨m0,w0⟩,turn⟩:=h
 refine wpAny_While (codeAny_whileLoop (fun n s'=>∃σ' H',Inv X pins σ' H' s'/\W n σ' H') ?_ m0 ⟨σ,H,I,w0⟩)
 rintro n s1 ⟨σ1,H1,I1,w1⟩
 refine wpAny_passesOwn hp (thn (hc pins s1 σ1 H1 _ I1 (turn n σ1 H1 w1)) fun b s2 ⟨H2,I2,q2⟩=>?_)
 cases b with
 | true =>
  obtain⟨N,hN,q2⟩:=q2
  rw[if_pos rfl]
  refine wpAny_passesOwn hp (thn (hb pins s2 σ1 H2 _ I2 q2) fun f s3 q3=>?_)
  cases f with
  | next =>
   obtain⟨σ3,H3,I3,n3⟩:=q3
   obtain⟨m',hm,w3⟩:=hN σ3 H3 n3
   exact⟨m',hm,σ3,H3,I3,w3⟩
  | cont =>
   obtain⟨σ3,H3,I3,n3⟩:=q3
   obtain⟨m',hm,w3⟩:=hN σ3 H3 n3
   exact⟨m',hm,σ3,H3,I3,w3⟩
  | brk=>exact q3
  | ret v=>exact q3
 | false =>
  rw[if_neg Bool.false_ne_true]
  exact wpAny_execs_nil ⟨σ1,H2,I2,q2⟩
end
structure It where
 go:Nat->Hp->Prop
 yld:Nat->Hp->V->Hp->Prop
 stop:Nat->Hp->Prop
def FpOk (X:Cx) (pins:List (Addr × Obj)) (H:Hp) (b:Addr):Prop :=
 H b=none/\b≠X.env.locals/\b∉X.fs/\(b∈X.ex∨X.s₀.heap.objs.size<=b)/\(∀x c,X.env.cells.lookup x=some c->c≠b)/\∀p∈X.pn++pins,p.1≠b
theorem Inv.fpOk (I:Inv X pins σ H s) (hb:s.heap.objs.size<=b) (hn:H' b=none):FpOk X pins H' b:=by
 refine⟨hn,Nat.ne_of_gt (Nat.lt_of_lt_of_le I.lt hb),I.nofs hb,.inr (Nat.le_trans I.sz hb),fun x c e z=>?_,fun p hp z=>?_⟩
 ·obtain⟨v,q⟩:=I.cell x c e
  exact absurd (Nat.lt_of_lt_of_le q.lt (by rw[z];exact hb)) (Nat.lt_irrefl _)
 ·exact absurd (Nat.lt_of_lt_of_le (Heap.lt_size (I.pin p hp).1) (by rw[z];exact hb)) (Nat.lt_irrefl _)
structure Turn (P:Program) (w:World) (K:W.Frag) (tg:Expr) (J:It) (fp:List Addr) (it:Addr) (tn:Nat -> Heap -> Prop):Prop where
 mem:it∈fp
 obj:∀i h,tn i h->∀b∈fp,∃o,h.get? b=some o/\∀v,o.data≠.cell v
 keep:∀i h h',tn i h->(∀b∈fp,∀o,h.get? b=some o->h'.get? b=some o)->tn i h'
 item:∀(X:Cx),X.prog=P->X.w=w->X.K=K->X.calm=true->∀(i:Nat) (pins:List (Addr × Obj)) (s:Shared) (σ:St) (H:Hp) (E:Value->Shared->Prop),Inv X pins σ H s->(∀b∈fp,FpOk X pins H b)->tn i s.heap->J.go i H ->
  wpAny (model P w) X.A (pyNext (.ref it)) (fun r s1=>∃u,r=some u /\
   wpAny (model P w) X.A (letOwnedTupleGo tg (.ref it) u) (fun _ s2=>∃x H',Inv X pins σ H' s2/\RelV x u/\J.yld i H x H'/\tn (i+1) s2.heap/\∀b∈fp,H' b=none) E s1) E s
 done:∀(X:Cx),X.prog=P->X.w=w->X.K=K->X.calm=true->∀(i:Nat) (pins:List (Addr × Obj)) (s:Shared) (σ:St) (H:Hp) (E:Value->Shared->Prop),Inv X pins σ H s->(∀b∈fp,FpOk X pins H b)->tn i s.heap->J.stop i H ->
  wpAny (model P w) X.A (pyNext (.ref it)) (fun r s1=>r=none/\Inv X pins σ H s1) E s
 self:∀(A:Around) (i:Nat) (s:Shared) (Q:Value->Shared->Prop) (E:Value->Shared->Prop),tn i s.heap->Q (.ref it) s->wpAny (model P w) A (pyIter (.ref it)) Q E s
abbrev TI:=St->Hp->(It->Hp->Prop)->Prop
def PIE (X:Cx) (pins:List (Addr × Obj)) (σ:St) (tg:Expr) (R:It->Hp->Prop) (itv:Value) (s2:Shared):Prop :=
 ∃(it:Addr) (fp:List Addr) (tn:Nat->Heap->Prop) (J:It) (H':Hp),itv=.ref it/\Inv X pins σ H' s2/\Turn X.prog X.w X.K tg J fp it tn/\tn 0 s2.heap/\(∀b∈fp,FpOk X pins H' b)/\R J H'
def PI (X:Cx) (tg iter:Expr) (wi:TI):Prop :=
 ∀(pins:List (Addr × Obj)) (s:Shared) (σ:St) (H:Hp) (R:It->Hp->Prop),Inv X pins σ H s->wi σ H R ->
  wpAny (model X.prog X.w) X.A (eval iter X.env) (fun v s1=>wpAny (model X.prog X.w) X.A (pyIter v) (PIE X pins σ tg R) X.xe s1) X.xe s
theorem go_of (ho:s.heap.get? it=some o) (hc:o.cls=.type n) (hd:o.data=.fields vs)
    (hn:["enumerate","zip","dict_itemiterator","dict_reverseitemiterator","odict_iterator","itertools.zip_longest","itertools.pairwise"].contains n=false) (hQ:Q () s):wpAny M A (letOwnedTupleGo tg (.ref it) u) Q E s:=by
 unfold letOwnedTupleGo
 cases tg <;> first
  | exact wpAny_pure hQ
  | (cases u <;> first
      | exact wpAny_pure hQ
      | (refine wpAny_bind (wpAny_load ho ?_)
         rw[hc,hd]
         show wpAny M A (if (["enumerate","zip","dict_itemiterator","dict_reverseitemiterator","odict_iterator","itertools.zip_longest","itertools.pairwise"].contains n&&vs[0]?==some (rawInt _))=true then _ else _) Q E s
         rw[if_neg (by intro h;rw[hn,Bool.false_and] at h;cases h)]
         exact wpAny_pure hQ))
def Itl (K:W.Frag) (a:Addr):It :=
 ⟨fun i H=>∃xs x,SqL K H a xs/\xs[i]? = some x,fun i H x H'=>H'=H/\∀xs,SqL K H a xs->xs[i]? = some x,fun i H=>∃xs,SqL K H a xs/\xs.length<=i⟩
def Itt (K:W.Frag) (a:Addr):It :=
 ⟨fun i H=>∃xs x,SqT K H a xs/\xs[i]? = some x,fun i H x H'=>H'=H/\∀xs,SqT K H a xs->xs[i]? = some x,fun i H=>∃xs,SqT K H a xs/\xs.length<=i⟩
def Itr (lo:Int) (n:Nat):It:=⟨fun i _=>i<n,fun i H x H'=>H'=H/\x=.int (lo+i),fun i _=>n<=i⟩
theorem turn_list {P:Program}{w:World}{K:W.Frag}{tg:Expr}(a it:Addr):Turn P w K tg (Itl K a) [it] it (fun i h=>h.IsListIter it a i) where
 mem:=by simp
 obj:=fun i h st b hb=>by
  have e:b=it:=by simpa using hb
  subst e
  obtain⟨o,e,c,d⟩:=st
  exact⟨o,e,fun v z=>by rw[d] at z;cases z⟩
 keep:=fun i h h' st k=>st.at fun o e=>k it (by simp) o e
 item:=by
  intro X hP hw hK hc i pins s σ H E I hf st hg
  subst hP hw hK
  obtain⟨xs,x,hq,hx⟩:=hg
  obtain⟨its,rv,p,hz⟩:=I.list hq
  obtain⟨u,hu,ru⟩:=rv.get hx
  obtain⟨f0,f1,f2,f3,f4,f5⟩:=hf it (by simp)
  refine wpAny_pyNext_list_item st p.isList (x:=u) (by simpa using hu) fun h' st' sb=>?_
  have I1:Inv X pins σ H { s with heap:=h' }:=I.turned (t':=s.toks) (fun b o hb e=>(sb.2 b hb).trans e) f0 f1 f3 f4 f5
  obtain⟨o,e,c,d⟩:=id st'
  exact⟨u,rfl,go_of (s:={ s with heap:=h' }) e c d (by decide) ⟨x,H,I1,ru,⟨rfl,fun ys hy=>by rw[I.list_inj hy hq];exact hx⟩,st',fun b hb=>(hf b hb).1⟩⟩
 done:=by
  intro X hP hw hK hc i pins s σ H E I hf st hg
  subst hP hw hK
  obtain⟨xs,hq,hx⟩:=hg
  obtain⟨its,rv,p,hz⟩:=I.list hq
  obtain⟨f0,f1,f2,f3,f4,f5⟩:=hf it (by simp)
  have hl:=rv.length
  exact wpAny_pyNext_list_end (I.ok.hd hc) st p.isList (by simp;omega) fun h' eb=>⟨rfl,I.turned (t':=s.toks) (fun b o hb e=>eb b o hb e) f0 f1 f3 f4 f5⟩
 self:=fun _ _ _ _ _ st h=>wpAny_pyIter_listiter st h
theorem turn_tuple {P:Program}{w:World}{K:W.Frag}{tg:Expr}(a it:Addr):Turn P w K tg (Itt K a) [it] it (fun i h=>h.IsTupleIter it a i) where
 mem:=by simp
 obj:=fun i h st b hb=>by
  have e:b=it:=by simpa using hb
  subst e
  obtain⟨o,e,c,d⟩:=st
  exact⟨o,e,fun v z=>by rw[d] at z;cases z⟩
 keep:=fun i h h' st k=>st.at fun o e=>k it (by simp) o e
 item:=by
  intro X hP hw hK hc i pins s σ H E I hf st hg
  subst hP hw hK
  obtain⟨xs,x,hq,hx⟩:=hg
  obtain⟨its,rv,p,hz⟩:=I.tuple hq
  obtain⟨u,hu,ru⟩:=rv.get hx
  obtain⟨f0,f1,f2,f3,f4,f5⟩:=hf it (by simp)
  refine wpAny_pyNext_tuple_item st (show s.heap.IsTuple a its.toArray from p) (x:=u) (by simpa using hu) fun h' st' sb=>?_
  have I1:Inv X pins σ H { s with heap:=h' }:=I.turned (t':=s.toks) (fun b o hb e=>(sb.2 b hb).trans e) f0 f1 f3 f4 f5
  obtain⟨o,e,c,d⟩:=id st'
  exact⟨u,rfl,go_of (s:={ s with heap:=h' }) e c d (by decide) ⟨x,H,I1,ru,⟨rfl,fun ys hy=>by rw[I.tuple_inj hy hq];exact hx⟩,st',fun b hb=>(hf b hb).1⟩⟩
 done:=by
  intro X hP hw hK hc i pins s σ H E I hf st hg
  subst hP hw hK
  obtain⟨xs,hq,hx⟩:=hg
  obtain⟨its,rv,p,hz⟩:=I.tuple hq
  obtain⟨f0,f1,f2,f3,f4,f5⟩:=hf it (by simp)
  have hl:=rv.length
  exact wpAny_pyNext_tuple_end (I.ok.hd hc) st (show s.heap.IsTuple a its.toArray from p) (by simp;omega) fun h' eb=>⟨rfl,I.turned (t':=s.toks) (fun b o hb e=>eb b o hb e) f0 f1 f3 f4 f5⟩
 self:=fun _ _ _ _ _ st h=>wpAny_pyIter_tupleiter st h
theorem turn_range {P:Program}{w:World}{K:W.Frag}{tg:Expr}(it:Addr) (lo:Int) (n:Nat):Turn P w K tg (Itr lo n) [it] it (fun i h => IsRangeIter h it (lo+(i:Nat) * 1) ((n:Int)-(i:Nat)) 1) where
 mem:=by simp
 obj:=fun i h st b hb=>by
  have e:b=it:=by simpa using hb
  subst e
  exact⟨_,st,fun v z=>by
   have z':Data.fields _=Data.cell v:=z
   cases z'⟩
 keep:=fun i h h' st k=>k it (by simp) _ st
 item:=by
  intro X hP hw hK hc i pins s σ H E I hf st hg
  subst hP hw hK
  obtain⟨f0,f1,f2,f3,f4,f5⟩:=hf it (by simp)
  have W:=Walks.range (prog:=X.prog) (w:=X.w) (I.ok.hd hc) it lo 1 n
  refine W.item i s _ _ hg st fun v h' tk hv st' kk=>?_
  obtain⟨t,rfl⟩:=hv
  have I1:Inv X pins σ H { s with heap:=h',toks:=tk }:=I.turned (fun b o hb e=>kk b o (by simpa using hb) e) f0 f1 f3 f4 f5
  refine⟨_,rfl,go_of (s:={ s with heap:=h',toks:=tk }) (n:="range_iterator") st' rfl rfl (by decide) ⟨.int (lo+i),H,I1,⟨t,?_⟩,⟨rfl,rfl⟩,st',fun b hb=>(hf b hb).1⟩⟩
  rw[Int.mul_one]
 done:=by
  intro X hP hw hK hc i pins s σ H E I hf st hg
  subst hP hw hK
  obtain⟨f0,f1,f2,f3,f4,f5⟩:=hf it (by simp)
  exact wpAny_pyNext_range_end (I.ok.hd hc) st (by have:n<=i:=hg;omega) fun h' eb=>⟨rfl,I.turned (t':=s.toks) (fun b o hb e=>eb b o hb e) f0 f1 f3 f4 f5⟩
 self:=fun _ _ _ _ _ st h=>wpAny_pyIter_rangeiter st h
end L2
namespace L2
open PySem PySem.Spec PyProof.Rows
section
variable {X:Cx}{tg:Expr}
def iList (K:W.Frag) (tl:TE):TI:=fun σ H R=>tl σ H fun x H1=>∃a,x=.ref a/\(∃xs,SqL K H1 a xs)/\R (Itl K a) H1
def iTup (K:W.Frag) (tl:TE):TI:=fun σ H R=>tl σ H fun x H1=>∃a,x=.ref a/\(∃xs,SqT K H1 a xs)/\R (Itt K a) H1
theorem pi_list {l:Expr}{tl:TE}(hl:PE X l tl):PI X tg l (iList X.K tl):=by
 intro pins s σ H R I h
 refine thn (hl pins s σ H _ I h) fun v s1 ⟨x,H1,I1,r1,q1⟩=>?_
 obtain⟨a,e,⟨xs,hq⟩,q⟩:=q1
 subst e
 cases r1
 obtain⟨its,rv,p,hz⟩:=I1.list hq
 refine wpAny_pyIter_list p.isList ?_
 refine⟨s1.heap.objs.size,[s1.heap.objs.size],_,_,H1,rfl,I1.kept (t':=s1.toks) fun b o e=>Heap.get?_push_of_some _ e,turn_list a _,⟨_,Heap.get?_push_size _ rfl,rfl,rfl⟩,fun b hb=>?_,q⟩
 have e:b=s1.heap.objs.size:=by simpa using hb
 subst e
 exact I1.fpOk (Nat.le_refl _) (I1.hok.fresh (Nat.le_refl _))
theorem pi_tup {l:Expr}{tl:TE}(hl:PE X l tl):PI X tg l (iTup X.K tl):=by
 intro pins s σ H R I h
 refine thn (hl pins s σ H _ I h) fun v s1 ⟨x,H1,I1,r1,q1⟩=>?_
 obtain⟨a,e,⟨xs,hq⟩,q⟩:=q1
 subst e
 cases r1
 obtain⟨its,rv,p,hz⟩:=I1.tuple hq
 refine wpAny_pyIter_tuple (show s1.heap.IsTuple a its.toArray from p) ?_
 refine⟨s1.heap.objs.size,[s1.heap.objs.size],_,_,H1,rfl,I1.kept (t':=s1.toks) fun b o e=>Heap.get?_push_of_some _ e,turn_tuple a _,⟨_,Heap.get?_push_size _ rfl,rfl,rfl⟩,fun b hb=>?_,q⟩
 have e:b=s1.heap.objs.size:=by simpa using hb
 subst e
 exact I1.fpOk (Nat.le_refl _) (I1.hok.fresh (Nat.le_refl _))
theorem range_it {R:It->Hp->Prop}{lo hi:Int}{tk:Nat}(I:Inv X pins σ H s) (h1:-(2 ^ 62)<=lo) (h2:lo<2 ^ 62) (h3:-(2 ^ 62)<=hi) (h4:hi<2 ^ 62)
    (q:R (Itr lo (hi-lo).toNat) H):wpAny (model X.prog X.w) X.A (pyIter (.ref s.heap.objs.size)) (PIE X pins σ tg R) E { s with heap:=s.heap.push { cls:=.type "range",data:=.fields #[.int lo t,.int hi u,.int 1 v] },toks:=tk }:=by
 refine wpAny_pyIter_range (IsRange.new ..) (small_one h1 h2 h3 h4) ?_
 have I1:Inv X pins σ H { s with heap:=s.heap.push { cls:=.type "range",data:=.fields #[.int lo t,.int hi u,.int 1 v] },toks:=tk }:=I.kept fun b o e=>Heap.get?_push_of_some _ e
 refine⟨(s.heap.push { cls:=.type "range",data:=.fields #[.int lo t,.int hi u,.int 1 v] }).objs.size,[(s.heap.push { cls:=.type "range",data:=.fields #[.int lo t,.int hi u,.int 1 v] }).objs.size],_,_,H,rfl,
  I1.kept (t':=tk) fun b o e=>Heap.get?_push_of_some _ e,turn_range _ lo (hi-lo).toNat,?_,fun b hb=>?_,q⟩
 ·have e1:lo+((0:Nat):Int) * 1=lo:=by simp
  have e2:(((hi-lo).toNat:Nat):Int)-((0:Nat):Int)=Builtin.Range.rangeSize lo hi 1:=by rw[rangeSize_one];split <;> omega
  show IsRangeIter _ _ (lo+((0:Nat):Int) * 1) ((((hi-lo).toNat:Nat):Int)-((0:Nat):Int)) 1
  rw[e1,e2]
  exact Heap.get?_push_size _ rfl
 ·have e:b=(s.heap.push { cls:=.type "range",data:=.fields #[.int lo t,.int hi u,.int 1 v] }).objs.size:=by simpa using hb
  subst e
  exact I1.fpOk (Nat.le_refl _) (I1.hok.fresh (Nat.le_refl _))
def iRng1 (ta:TA):TI:=fun σ H R=>ta σ H fun vs H1=>∃j:Int,vs=[.int j]/\-(2 ^ 62)<=j/\j<2 ^ 62/\R (Itr 0 j.toNat) H1
theorem pi_range1 (hg:Gl X "range") (hm:X.mg "range"=none) (ha:PA X [a] ta) (hs:starEach [a] X.env=[(false,eval a X.env)]:=by rfl):PI X tg (.Call (.Name "range" p) [a] [] pos) (iRng1 ta):=by
 intro pins s σ H R I h
 refine Call_ (ld_blt I hg hm boot_range (PyProof.Rows.callWith_type1 (thn (ha pos pins s σ H _ I h) fun us s1 ⟨vs,H1,I1,r1,q1⟩=>?_) hs rfl))
 obtain⟨j,e,q1,q2,q⟩:=q1
 subst e
 cases r1 with
 | cons r rr =>
  cases rr
  obtain⟨t,rfl⟩:=r
  exact call_range_1 (range_it I1 (by omega) (by omega) q1 q2 (by simpa using q))
def tFor (wi:TI) (g:TG) (tb:TS):TS:=fun D σ H=>wi σ H fun J H1=>∃W:Nat->Nat->St->Hp->Prop,(∃m,W 0 m σ H1)/\∀i m σ H,W i m σ H ->
 (J.stop i H/\D.nx σ H)∨(J.go i H/\∃N:St->Hp->Prop,(∀σ' H',N σ' H'->∃m',m'<m/\W (i+1) m' σ' H')/\∀x H',J.yld i H x H'->g x σ H' fun σ2 H2=>tb { D with nx:=N,ct:=N,bk:=D.nx } σ2 H2)
def pinsAt (fp:List Addr) (h:Heap):List (Addr × Obj):=fp.filterMap fun b=>(h.get? b).map fun o=>(b,o)
theorem mem_pinsAt (hb:b∈fp) (e:h.get? b=some o):(b,o)∈pinsAt fp h:=List.mem_filterMap.mpr ⟨b,hb,by rw[e];rfl⟩
theorem of_pinsAt (hp:p∈pinsAt fp h):p.1∈fp/\h.get? p.1=some p.2:=by
 obtain⟨b,hb,e⟩:=List.mem_filterMap.mp hp
 cases q:h.get? b with
 | none=>rw[q] at e;cases e
 | some o =>
  rw[q] at e
  have e':(b,o)=p:=Option.some.inj e
  subst e'
  exact⟨hb,q⟩
theorem Inv.pinned (I:Inv X pins σ H s) (hf:∀b∈fp,FpOk X pins H b) (ho:∀b∈fp,∃o,s.heap.get? b=some o/\∀v,o.data≠.cell v):Inv X (pins++pinsAt fp s.heap) σ H s :=
 I.pins_of fun p hp=>(List.mem_append.mp hp).elim (fun z=>I.pin p (List.mem_append_right _ z)) fun z=>by
  obtain⟨hb,e⟩:=of_pinsAt z
  obtain⟨f0,f1,f2,_⟩:=hf p.1 hb
  obtain⟨o,e',d⟩:=ho p.1 hb
  rw[e] at e';cases e'
  exact⟨e,f0,f1,f2,d⟩
theorem Inv.unpinned (I:Inv X (pins++pl) σ H s):Inv X pins σ H s:=I.pins_of fun p hp=>I.pin p (List.mem_append_right _ (List.mem_append_left _ hp))
theorem ps_for (hp:PassesOwn (model X.prog X.w) X.A X.env X.xe) (hc:X.calm=true) (hi:PI X tg iter wi) (hg:PG X tg g) (hb:PSs X body tb)
    (hs:∀x,foldedSetIterable iter X.env x=pure x:=by intro _;rfl):PS X (.For tg iter body [] pos) (tFor wi g tb):=by
 intro pins s σ H D I h
 refine wpAny_For (thn (hi pins s σ H _ I h) fun v s1 h1=>thn h1 fun itv s2 h2=>?_) hs
 obtain⟨it,fp,tn,J,H2,e,I2,T,st2,f2,W,⟨m0,w0⟩,turn⟩:=h2
 subst e
 have stat:∀ {H':Hp},(∀b∈fp,H' b=none)->∀b∈fp,FpOk X pins H' b:=fun hn b hb=>⟨hn b hb,(f2 b hb).2⟩
 refine codeAny_forLoop_any (fun n s'=>∃i σ' H',Inv X pins σ' H' s'/\tn i s'.heap/\(∀b∈fp,H' b=none)/\W i n σ' H') ?_ m0 ⟨0,σ,H2,I2,st2,fun b hb=>(f2 b hb).1,w0⟩
 rintro n s3 ⟨i,σ3,H3,I3,st3,fr3,w3⟩
 rcases turn i n σ3 H3 w3 with⟨stop,qn⟩ | ⟨go,N,hN,step⟩
 ·refine wpAny_passesOwn hp (thn (T.done X rfl rfl rfl hc i pins s3 σ3 H3 X.xe I3 (stat fr3) st3 stop) fun r s4 ⟨hr,I4⟩=>?_)
  subst hr
  exact wpAny_execs_nil ⟨σ3,H3,I4,qn⟩
 ·refine wpAny_passesOwn hp (thn (T.item X rfl rfl rfl hc i pins s3 σ3 H3 X.xe I3 (stat fr3) st3 go) fun r s4 ⟨u,hr,h4⟩=>?_)
  subst hr
  refine wpAny_passesOwn hp (thn h4 fun _ s5 ⟨x,H5,I5,r5,y5,st5,fr5⟩=>?_)
  have I5':=I5.pinned (stat fr5) (T.obj _ _ st5)
  refine wpAny_passesOwn hp (thn (hg _ s5 σ3 H5 x u _ I5' r5 (step x H5 y5)) fun _ s6 ⟨σ6,H6,I6,q6⟩=>?_)
  refine wpAny_passesOwn hp (thn (hb _ s6 σ6 H6 _ I6 q6) fun f s7 q7=>?_)
  have again:∀ {σ7:St} {H7:Hp},Inv X (pins++pinsAt fp s5.heap) σ7 H7 s7->N σ7 H7->∃m,m<n/\∃i σ' H',Inv X pins σ' H' s7/\tn i s7.heap/\(∀b∈fp,H' b=none)/\W i m σ' H':=fun {σ7 H7} I7 n7=>by
   obtain⟨m',hm,w7⟩:=hN σ7 H7 n7
   refine⟨m',hm,i+1,σ7,H7,I7.unpinned,T.keep _ _ _ st5 fun b hb o e=>(I7.pin (b,o) (List.mem_append_right _ (List.mem_append_right _ (mem_pinsAt hb e)))).1,fun b hb=>?_,w7⟩
   obtain⟨o,e,d⟩:=T.obj _ _ st5 b hb
   exact(I7.pin (b,o) (List.mem_append_right _ (List.mem_append_right _ (mem_pinsAt hb e)))).2.1
  cases f with
  | next=>obtain⟨σ7,H7,I7,n7⟩:=q7;exact again I7 n7
  | cont=>obtain⟨σ7,H7,I7,n7⟩:=q7;exact again I7 n7
  | brk=>obtain⟨σ7,H7,I7,q7⟩:=q7;exact⟨σ7,H7,I7.unpinned,q7⟩
  | ret v=>obtain⟨x7,σ7,H7,I7,r7,q7⟩:=q7;exact⟨x7,σ7,H7,I7.unpinned,r7,q7⟩
end
theorem for_list {K:W.Frag}{a:Addr}{xs:List V}{g:TG}{tb:TS}{D:Ends}{σ:St}{H:Hp}(Pv:Nat -> St -> Hp -> Prop) (h0:Pv 0 σ H) (hl:∀i σ H, i <= xs.length -> Pv i σ H -> SqL K H a xs)
    (hs:∀i x σ H,xs[i]? = some x->Pv i σ H->g x σ H fun σ2 H2=>tb { D with nx:=Pv (i+1),ct:=Pv (i+1),bk:=D.nx } σ2 H2) (hd:∀σ H,Pv xs.length σ H->D.nx σ H) :
    ∃W:Nat->Nat->St->Hp->Prop,(∃m,W 0 m σ H)/\∀i m σ H,W i m σ H ->
     ((Itl K a).stop i H/\D.nx σ H)∨((Itl K a).go i H/\∃N:St->Hp->Prop,(∀σ' H',N σ' H'->∃m',m'<m/\W (i+1) m' σ' H')/\∀x H',(Itl K a).yld i H x H'->g x σ H' fun σ2 H2=>tb { D with nx:=N,ct:=N,bk:=D.nx } σ2 H2):=by
 refine⟨fun i m σ H=>m=xs.length-i/\i<=xs.length/\Pv i σ H,⟨xs.length,by simp,Nat.zero_le _,h0⟩,?_⟩
 rintro i m σ H ⟨rfl,hi,p⟩
 have q:=hl i σ H hi p
 by_cases hlt:i<xs.length
 ·refine .inr ⟨⟨xs,xs[i],q,by simp[hlt]⟩,Pv (i+1),fun σ' H' p'=>⟨xs.length-(i+1),by omega,rfl,hlt,p'⟩,fun x H' y=>?_⟩
  obtain⟨e,y⟩:=y
  subst e
  exact hs i x σ _ (y xs q) p
 ·have e:i=xs.length:=by omega
  subst e
  exact .inl ⟨⟨xs,q,Nat.le_refl _⟩,hd σ H p⟩
theorem for_tup {K:W.Frag}{a:Addr}{xs:List V}{g:TG}{tb:TS}{D:Ends}{σ:St}{H:Hp}(Pv:Nat -> St -> Hp -> Prop) (h0:Pv 0 σ H) (hl:∀i σ H, i <= xs.length -> Pv i σ H -> SqT K H a xs)
    (hs:∀i x σ H,xs[i]? = some x->Pv i σ H->g x σ H fun σ2 H2=>tb { D with nx:=Pv (i+1),ct:=Pv (i+1),bk:=D.nx } σ2 H2) (hd:∀σ H,Pv xs.length σ H->D.nx σ H) :
    ∃W:Nat->Nat->St->Hp->Prop,(∃m,W 0 m σ H)/\∀i m σ H,W i m σ H ->
     ((Itt K a).stop i H/\D.nx σ H)∨((Itt K a).go i H/\∃N:St->Hp->Prop,(∀σ' H',N σ' H'->∃m',m'<m/\W (i+1) m' σ' H')/\∀x H',(Itt K a).yld i H x H'->g x σ H' fun σ2 H2=>tb { D with nx:=N,ct:=N,bk:=D.nx } σ2 H2):=by
 refine⟨fun i m σ H=>m=xs.length-i/\i<=xs.length/\Pv i σ H,⟨xs.length,by simp,Nat.zero_le _,h0⟩,?_⟩
 rintro i m σ H ⟨rfl,hi,p⟩
 have q:=hl i σ H hi p
 by_cases hlt:i<xs.length
 ·refine .inr ⟨⟨xs,xs[i],q,by simp[hlt]⟩,Pv (i+1),fun σ' H' p'=>⟨xs.length-(i+1),by omega,rfl,hlt,p'⟩,fun x H' y=>?_⟩
  obtain⟨e,y⟩:=y
  subst e
  exact hs i x σ _ (y xs q) p
 ·have e:i=xs.length:=by omega
  subst e
  exact .inl ⟨⟨xs,q,Nat.le_refl _⟩,hd σ H p⟩
theorem for_range {lo:Int}{n:Nat}{g:TG}{tb:TS}{D:Ends}{σ:St}{H:Hp}(Pv:Nat -> St -> Hp -> Prop) (h0:Pv 0 σ H)
    (hs:∀i σ H,i<n->Pv i σ H->g (.int (lo+i)) σ H fun σ2 H2=>tb { D with nx:=Pv (i+1),ct:=Pv (i+1),bk:=D.nx } σ2 H2) (hd:∀σ H,Pv n σ H->D.nx σ H) :
    ∃W:Nat->Nat->St->Hp->Prop,(∃m,W 0 m σ H)/\∀i m σ H,W i m σ H ->
     ((Itr lo n).stop i H/\D.nx σ H)∨((Itr lo n).go i H/\∃N:St->Hp->Prop,(∀σ' H',N σ' H'->∃m',m'<m/\W (i+1) m' σ' H')/\∀x H',(Itr lo n).yld i H x H'->g x σ H' fun σ2 H2=>tb { D with nx:=N,ct:=N,bk:=D.nx } σ2 H2):=by
 refine⟨fun i m σ H=>m=n-i/\i<=n/\Pv i σ H,⟨n,by simp,Nat.zero_le _,h0⟩,?_⟩
 rintro i m σ H ⟨rfl,hi,p⟩
 by_cases hlt:i<n
 ·refine .inr ⟨hlt,Pv (i+1),fun σ' H' p'=>⟨n-(i+1),by omega,rfl,hlt,p'⟩,fun x H' y=>?_⟩
  obtain⟨e,y⟩:=y
  subst e y
  exact hs i σ _ hlt p
 ·have e:i=n:=by omega
  subst e
  exact .inl ⟨Nat.le_refl _,hd σ H p⟩
end L2
namespace L2
open PySem PySem.Spec PyProof.Rows
abbrev R2:=V->V->Hp->VK->Prop
def OpR (X:Cx) (f:Value->Value->Sem Value) (r:R2):Prop :=
 ∀(pins:List (Addr × Obj)) (s:Shared) (σ:St) (H:Hp) (x y:V) (v u:Value) (Q:VK),Inv X pins σ H s->RelV x v->RelV y u->r x y H Q ->
  wpAny (model X.prog X.w) X.A (f v u) (EP X pins σ Q) X.xe s
def UnR (X:Cx) (f:Value->Sem Value) (r:V->Hp->VK->Prop):Prop :=
 ∀(pins:List (Addr × Obj)) (s:Shared) (σ:St) (H:Hp) (x:V) (v:Value) (Q:VK),Inv X pins σ H s->RelV x v->r x H Q ->
  wpAny (model X.prog X.w) X.A (f v) (EP X pins σ Q) X.xe s
def CallR (X:Cx) (f:Value) (r:List V->Hp->VK->Prop):Prop :=
 ∀(pins:List (Addr × Obj)) (s:Shared) (σ:St) (H:Hp) (xs:List V) (us:List Value) (Q:VK),Inv X pins σ H s->Vals xs us->r xs H Q ->
  wpAny (model X.prog X.w) X.A (call f us) (EP X pins σ Q) X.xe s
def tOp (r:R2) (ta tb:TE):TE:=fun σ H Q=>ta σ H fun x H1=>tb σ H1 fun y H2=>r x y H2 Q
def tUn (r:V->Hp->VK->Prop) (ta:TE):TE:=fun σ H Q=>ta σ H fun x H1=>r x H1 Q
def rI (C:Int->Int->Prop) (g:Int->Int->V):R2:=fun x y H Q=>∃i j,x=.int i/\y=.int j/\C i j/\Q (g i j) H
def rI0 (g:Int->Int->V):R2:=fun x y H Q=>∃i j,x=.int i/\y=.int j/\Q (g i j) H
def rU (g:Int->V):V->Hp->VK->Prop:=fun x H Q=>∃i,x=.int i/\Q (g i) H
section
variable {X:Cx}{a b c:Expr}{ta tb tc:TE}{pos:Pos}
theorem binT (ha:PE X a ta) (hb:PE X b tb) {R:V->V->Hp->Prop}(I:Inv X pins σ H s)
    (h:ta σ H fun x H1=>tb σ H1 fun y H2=>R x y H2) {f:Value->Value->Sem Value}
    (hf:∀v u s2 x y H2,Inv X pins σ H2 s2->RelV x v->RelV y u->R x y H2->wpAny (model X.prog X.w) X.A (f v u) Q X.xe s2) :
    wpAny (model X.prog X.w) X.A (eval a X.env) (fun v s₁=>wpAny (model X.prog X.w) X.A (eval b X.env) (fun u s₂=>wpAny (model X.prog X.w) X.A (f v u) Q X.xe s₂) X.xe s₁) X.xe s:=by
 refine thn (ha pins s σ H _ I h) fun v s1 ⟨x,H1,I1,r1,q1⟩=>?_
 refine thn (hb pins s1 σ H1 _ I1 q1) fun u s2 ⟨y,H2,I2,r2,q2⟩=>?_
 exact hf v u s2 x y H2 I2 r1 r2 q2
theorem pe_op {op:Operator}{r:R2}(ho:OpR X (binaryOp op) r) (ha:PE X a ta) (hb:PE X b tb):PE X (.BinOp a op b pos) (tOp r ta tb):=by
 intro pins s σ H Q I h
 exact wpAny_BinOp (binT ha hb I h fun v u s2 x y H2 I2 rx ry q=>ho pins s2 σ H2 x y v u Q I2 rx ry q)
theorem pe_un (ho:UnR X (unaryOp op) r) (ha:PE X a ta):PE X (.UnaryOp op a pos) (tUn r ta):=by
 intro pins s σ H Q I h
 exact UnaryOp_ (thn (ha pins s σ H _ I h) fun v s1 ⟨x,H1,I1,r1,q1⟩=>ho pins s1 σ H1 x v Q I1 r1 q1)
theorem opI {f:Value->Value->Sem Value}{C:Int->Int->Prop}{g:Int->Int->Int}
    (rule:∀(i j:Int) (t u:Tok) (s:Shared) (Q:Value->Shared->Prop) (E:Value->Shared->Prop),C i j->Q (.int (g i j) s.toks) { s with toks:=s.toks+1 }->wpAny (model X.prog X.w) X.A (f (.int i t) (.int j u)) Q E s) :
    OpR X f (rI C fun i j=>.int (g i j)):=by
 intro pins s σ H x y v u Q I rx ry h
 obtain⟨i,j,rfl,rfl,hc,q⟩:=h
 obtain⟨t,rfl⟩:=rx
 obtain⟨t',rfl⟩:=ry
 exact rule i j t t' s _ _ hc ⟨.int (g i j),H,I.tok _,⟨_,rfl⟩,q⟩
theorem opI0 {f:Value->Value->Sem Value}{g:Int->Int->Int}
    (rule:∀(i j:Int) (t u:Tok) (s:Shared) (Q:Value->Shared->Prop) (E:Value->Shared->Prop),Q (.int (g i j) s.toks) { s with toks:=s.toks+1 }->wpAny (model X.prog X.w) X.A (f (.int i t) (.int j u)) Q E s) :
    OpR X f (rI0 fun i j=>.int (g i j)):=by
 intro pins s σ H x y v u Q I rx ry h
 obtain⟨i,j,rfl,rfl,q⟩:=h
 obtain⟨t,rfl⟩:=rx
 obtain⟨t',rfl⟩:=ry
 exact rule i j t t' s _ _ ⟨.int (g i j),H,I.tok _,⟨_,rfl⟩,q⟩
theorem opB0 {f:Value->Value->Sem Value}{g:Int->Int->Bool}
    (rule:∀(i j:Int) (t u:Tok) (s:Shared) (Q:Value->Shared->Prop) (E:Value->Shared->Prop),Q (.bool (g i j)) s->wpAny (model X.prog X.w) X.A (f (.int i t) (.int j u)) Q E s) :
    OpR X f (rI0 fun i j=>.bl (g i j)):=by
 intro pins s σ H x y v u Q I rx ry h
 obtain⟨i,j,rfl,rfl,q⟩:=h
 obtain⟨t,rfl⟩:=rx
 obtain⟨t',rfl⟩:=ry
 exact rule i j t t' s _ _ ⟨.bl (g i j),H,I,rfl,q⟩
def CDiv (i j:Int):Prop:=0<j/\j<1073741824
def CPow (i j:Int):Prop:=0<=j/\j<=1000000/\i.natAbs<2 ^ 64
def CMul (i j:Int):Prop:=(-(2 ^ 64)<i/\i<2 ^ 64)∨(-(2 ^ 64)<j/\j<2 ^ 64)
theorem CMul.ok (h:CMul i j):IntMulOk i j:=by
 rcases h with⟨h1,h2⟩ | ⟨h1,h2⟩
 ·exact .of_left (intBits_le_64 h1 h2)
 ·exact .of_right (intBits_le_64 h1 h2)
theorem op_add:OpR X (binaryOp .Add) (rI0 fun i j=>.int (i+j)):=opI0 fun _ _ _ _ _ _ _ q=>add_int q
theorem op_sub:OpR X (binaryOp .Sub) (rI0 fun i j=>.int (i-j)):=opI0 fun _ _ _ _ _ _ _ q=>sub_int q
theorem op_mul:OpR X (binaryOp .Mult) (rI CMul fun i j=>.int (i * j)):=opI fun _ _ _ _ _ _ _ hc q=>mul_int q hc.ok
theorem op_fdiv:OpR X (binaryOp .FloorDiv) (rI CDiv fun i j=>.int (i / j)):=opI fun i j _ _ _ _ _ hc q=>by
 have h1:(0:Int)<j:=hc.1
 have h2:j<1073741824:=hc.2
 exact floordiv_int (by omega) (by rw[Int.fdiv_eq_ediv_of_nonneg i (by omega)];exact q) (.inl (PyProof.noPylong_small (by omega)))
theorem op_mod:OpR X (binaryOp .Mod) (rI (fun _ j=>0<j) fun i j=>.int (i % j)):=opI fun i j _ _ _ _ _ hc q=>by
 have h1:(0:Int)<j:=hc
 exact mod_int' (by omega) (by rw[Int.fmod_eq_emod_of_nonneg i (by omega)];exact q)
theorem op_pow:OpR X (binaryOp .Pow) (rI CPow fun i j=>.int (i ^ j.toNat)):=opI fun _ _ _ _ _ _ _ hc q=>pow_int_small hc.1 hc.2.1 hc.2.2 q
theorem unI {f:Value->Sem Value}{g:Int->Int}
    (rule:∀(i:Int) (t:Tok) (s:Shared) (Q:Value->Shared->Prop) (E:Value->Shared->Prop),Q (.int (g i) s.toks) { s with toks:=s.toks+1 }->wpAny (model X.prog X.w) X.A (f (.int i t)) Q E s) :
    UnR X f (rU fun i=>.int (g i)):=by
 intro pins s σ H x v Q I rx h
 obtain⟨i,rfl,q⟩:=h
 obtain⟨t,rfl⟩:=rx
 exact rule i t s _ _ ⟨.int (g i),H,I.tok _,⟨_,rfl⟩,q⟩
theorem un_neg:UnR X (unaryOp .USub) (rU fun i=>.int (-i)):=unI fun _ _ _ _ _ q=>neg_int q
end
def scal:V->V->Bool
 | .non,.non=>true | .non,.int _=>true | .int _,.non=>true | .non,.bl _=>true | .bl _,.non=>true | .non,.str _=>true | .str _,.non=>true
 | .int _,.int _=>true | .bl _,.bl _=>true | .str _,.str _=>true | .byt _,.byt _=>true
 | .int _,.str _=>true | .str _,.int _=>true | .bl _,.str _=>true | .str _,.bl _=>true
 | _,_=>false
def rEq:R2:=fun x y H Q=>scal x y=true/\Q (.bl (decide (x=y))) H
def rNe:R2:=fun x y H Q=>scal x y=true/\Q (.bl (!decide (x=y))) H
theorem dec_int:decide (V.int i=V.int j)=(i==j):=by
 rw[Bool.eq_iff_iff]
 simp
theorem dec_bl:decide (V.bl i=V.bl j)=(i==j):=by
 rw[Bool.eq_iff_iff]
 simp
theorem dec_str:decide (V.str i=V.str j)=(i==j):=by
 rw[Bool.eq_iff_iff]
 simp
theorem dec_byt:decide (V.byt i=V.byt j)=(i.toList==j.toList):=by
 rw[Bool.eq_iff_iff]
 cases i
 cases j
 simp
section
variable {X:Cx}{a b c:Expr}{ta tb tc:TE}{pos:Pos}
theorem fin_bl (I:Inv X pins σ H s) (q:Q (.bl k) H) (e:k=k'):EP X pins σ Q (.bool k') s:=by
 subst e
 exact⟨.bl k,H,I,rfl,q⟩
theorem op_eq:OpR X (compareOp .Eq) rEq:=by
 intro pins s σ H x y v u Q I rx ry h
 obtain⟨hs,q⟩:=h
 cases x with
 | non =>
  cases rx
  cases y with
  | non=>cases ry;exact PySem.EqNone.eq_none_none (fin_bl I q (by simp))
  | bl j=>cases ry;exact PySem.EqNone.eq_none_bool (fin_bl I q (by simp))
  | int j=>obtain⟨t',rfl⟩:=ry;exact PySem.EqNone.eq_none_int (fin_bl I q (by simp))
  | str j=>obtain⟨t',rfl⟩:=ry;exact PySem.EqNone.eq_none_str (fin_bl I q (by simp))
  | _=>exact absurd (show false=true from hs) Bool.false_ne_true
 | bl i =>
  cases rx
  cases y with
  | non=>cases ry;exact PySem.EqNone.eq_bool_none (fin_bl I q (by simp))
  | bl j=>cases ry;exact eq_bool (fin_bl I q dec_bl)
  | str j=>obtain⟨t',rfl⟩:=ry;exact PySem.EqMixed.eq_bool_str (fin_bl I q (by simp))
  | _=>exact absurd (show false=true from hs) Bool.false_ne_true
 | int i =>
  obtain⟨t,rfl⟩:=rx
  cases y with
  | non=>cases ry;exact PySem.EqNone.eq_int_none (fin_bl I q (by simp))
  | int j=>obtain⟨t',rfl⟩:=ry;exact eq_int (fin_bl I q dec_int)
  | str j=>obtain⟨t',rfl⟩:=ry;exact PySem.EqMixed.eq_int_str (fin_bl I q (by simp))
  | _=>exact absurd (show false=true from hs) Bool.false_ne_true
 | str i =>
  obtain⟨t,rfl⟩:=rx
  cases y with
  | non=>cases ry;exact PySem.EqNone.eq_str_none (fin_bl I q (by simp))
  | bl j=>cases ry;exact PySem.EqMixed.eq_str_bool (fin_bl I q (by simp))
  | int j=>obtain⟨t',rfl⟩:=ry;exact PySem.EqMixed.eq_str_int (fin_bl I q (by simp))
  | str j=>obtain⟨t',rfl⟩:=ry;exact eq_str (fin_bl I q dec_str)
  | _=>exact absurd (show false=true from hs) Bool.false_ne_true
 | byt i =>
  obtain⟨t,rfl⟩:=rx
  cases y with
  | byt j=>obtain⟨t',rfl⟩:=ry;exact W.eq_bytes (fin_bl I q dec_byt)
  | _=>exact absurd (show false=true from hs) Bool.false_ne_true
 | _=>cases y <;> exact absurd (show false=true from hs) Bool.false_ne_true
theorem op_ne:OpR X (compareOp .NotEq) rNe:=by
 intro pins s σ H x y v u Q I rx ry h
 obtain⟨hs,q⟩:=h
 cases x with
 | non =>
  cases rx
  cases y with
  | non=>cases ry;exact PySem.EqNone.ne_none_none (fin_bl I q (by simp))
  | bl j=>cases ry;exact PySem.EqNone.ne_none_bool (fin_bl I q (by simp))
  | int j=>obtain⟨t',rfl⟩:=ry;exact PySem.EqNone.ne_none_int (fin_bl I q (by simp))
  | str j=>obtain⟨t',rfl⟩:=ry;exact PySem.EqNone.ne_none_str (fin_bl I q (by simp))
  | _=>exact absurd (show false=true from hs) Bool.false_ne_true
 | bl i =>
  cases rx
  cases y with
  | non=>cases ry;exact PySem.EqNone.ne_bool_none (fin_bl I q (by simp))
  | bl j=>cases ry;exact ne_bool (fin_bl I q (congrArg not dec_bl))
  | str j=>obtain⟨t',rfl⟩:=ry;exact PySem.EqMixed.ne_bool_str (fin_bl I q (by simp))
  | _=>exact absurd (show false=true from hs) Bool.false_ne_true
 | int i =>
  obtain⟨t,rfl⟩:=rx
  cases y with
  | non=>cases ry;exact PySem.EqNone.ne_int_none (fin_bl I q (by simp))
  | int j=>obtain⟨t',rfl⟩:=ry;exact ne_int (fin_bl I q (congrArg not dec_int))
  | str j=>obtain⟨t',rfl⟩:=ry;exact PySem.EqMixed.ne_int_str (fin_bl I q (by simp))
  | _=>exact absurd (show false=true from hs) Bool.false_ne_true
 | str i =>
  obtain⟨t,rfl⟩:=rx
  cases y with
  | non=>cases ry;exact PySem.EqNone.ne_str_none (fin_bl I q (by simp))
  | bl j=>cases ry;exact PySem.EqMixed.ne_str_bool (fin_bl I q (by simp))
  | int j=>obtain⟨t',rfl⟩:=ry;exact PySem.EqMixed.ne_str_int (fin_bl I q (by simp))
  | str j=>obtain⟨t',rfl⟩:=ry;exact ne_str (fin_bl I q (congrArg not dec_str))
  | _=>exact absurd (show false=true from hs) Bool.false_ne_true
 | byt i =>
  obtain⟨t,rfl⟩:=rx
  cases y with
  | byt j=>obtain⟨t',rfl⟩:=ry;exact W.ne_bytes (fin_bl I q (congrArg not dec_byt))
  | _=>exact absurd (show false=true from hs) Bool.false_ne_true
 | _=>cases y <;> exact absurd (show false=true from hs) Bool.false_ne_true
theorem op_lt:OpR X (compareOp .Lt) (rI0 fun i j=>.bl (decide (i<j))):=opB0 fun _ _ _ _ _ _ _ q=>lt_int q
theorem op_le:OpR X (compareOp .LtE) (rI0 fun i j=>.bl (decide (i<=j))):=opB0 fun _ _ _ _ _ _ _ q=>le_int q
theorem op_gt:OpR X (compareOp .Gt) (rI0 fun i j=>.bl (decide (j<i))):=opB0 fun _ _ _ _ _ _ _ q=>gt_int q
theorem op_ge:OpR X (compareOp .GtE) (rI0 fun i j=>.bl (decide (j<=i))):=opB0 fun _ _ _ _ _ _ _ q=>ge_int q
theorem op_lt_str:OpR X (compareOp .Lt) (fun x y H Q=>∃i j,x=.str i/\y=.str j/\Q (.bl (decide (i.cps.toList<j.cps.toList))) H):=by
 intro pins s σ H x y v u Q I rx ry h
 obtain⟨i,j,rfl,rfl,q⟩:=h
 obtain⟨t,rfl⟩:=rx
 obtain⟨t',rfl⟩:=ry
 exact lt_str (fin_bl I q rfl)
theorem op_isN:OpR X (compareOp .Is) (fun x y H Q=>y=.non/\Q (.bl (decide (x=.non))) H):=by
 intro pins s σ H x y v u Q I rx ry h
 obtain⟨rfl,q⟩:=h
 cases ry
 refine is_none_gen (fin_bl I q ?_)
 cases x <;> first
  | (cases rx;rfl)
  | (obtain⟨t,rfl⟩:=rx;rfl)
theorem op_notN:OpR X (compareOp .IsNot) (fun x y H Q=>y=.non/\Q (.bl (!decide (x=.non))) H):=by
 intro pins s σ H x y v u Q I rx ry h
 obtain⟨rfl,q⟩:=h
 cases ry
 refine isnot_none_gen (fin_bl I q ?_)
 cases x <;> first
  | (cases rx;rfl)
  | (obtain⟨t,rfl⟩:=rx;rfl)
theorem nomark (b:Expr) (h:op≠.In:=by decide) (h2:op≠.NotIn:=by decide):behindInMarks op b=false:=by
 have e1:(op==CmpOp.In)=false:=by cases op <;> first | rfl | exact absurd rfl h
 have e2:(op==CmpOp.NotIn)=false:=by cases op <;> first | rfl | exact absurd rfl h2
 cases b <;> simp[behindInMarks,e1,e2]
theorem pe_cmpR {op:CmpOp}{r:R2}(ho:OpR X (compareOp op) r) (ha:PE X a ta) (hb:PE X b tb) (hm:behindInMarks op b=false):PE X (.Compare a [op] [b] pos) (tOp r ta tb):=by
 intro pins s σ H Q I h
 exact wpAny_Compare1 (binT ha hb I h fun v u s2 x y H2 I2 rx ry q=>ho pins s2 σ H2 x y v u Q I2 rx ry q) hm
def tTest (t:TE):TT:=fun σ H Q=>t σ H fun x H'=>∃k,x=.bl k/\Q k H'
theorem pt_cmpR (ho:OpR X (compareOp op) r) (ha:PE X a ta) (hb:PE X b tb) (hm:behindInMarks op b=false):PT X (.Compare a [op] [b] pos) (tTest (tOp r ta tb)):=by
 intro pins s σ H Q I h
 refine wpAny_isTrue_Compare1 (thn (ha pins s σ H _ I h) fun v s1 ⟨x,H1,I1,r1,q1⟩=>thn (hb pins s1 σ H1 _ I1 q1) fun u s2 ⟨y,H2,I2,r2,q2⟩ =>
  thn (ho pins s2 σ H2 x y v u _ I2 r1 r2 q2) fun c s3 ⟨z,H3,I3,r3,k,e,q3⟩=>?_) hm
 subst e
 cases r3
 exact wpAny_truthy_bool ⟨H3,I3,q3⟩
def tChain (r r':R2) (ta tb tc:TE):TE:=fun σ H Q=>ta σ H fun x H1=>tb σ H1 fun y H2=>r x y H2 fun z H3=>∃k,z=.bl k /\
 (if k=true then tc σ H3 fun w' H4=>r' y w' H4 Q else Q (.bl false) H3)
theorem pe_chain (ho:OpR X (compareOp op) r) (ho':OpR X (compareOp op') r') (ha:PE X a ta) (hb:PE X b tb) (hc:PE X c tc)
    (hm:lastMarks [op,op'] [b,c]=false:=by with_unfolding_all rfl):PE X (.Compare a [op,op'] [b,c] pos) (tChain r r' ta tb tc):=by
 intro pins s σ H Q I h
 refine Compare_chain (thn (ha pins s σ H _ I h) fun v s1 ⟨x,H1,I1,r1,q1⟩=>chain_link (thn (hb pins s1 σ H1 _ I1 q1) fun u s2 ⟨y,H2,I2,r2,q2⟩ =>
  thn (ho pins s2 σ H2 x y v u _ I2 r1 r2 q2) fun d s3 ⟨z,H3,I3,r3,k,e,q3⟩=>?_)) hm
 subst e
 cases r3
 refine wpAny_truthy_bool ?_
 cases k with
 | false=>exact ite_ff ⟨.bl false,H3,I3,rfl,q3⟩
 | true=>exact ite_tt (chain_last (thn (hc pins s3 σ H3 _ I3 q3) fun w' s4 ⟨z',H4,I4,r4,q4⟩=>ho' pins s4 σ H4 y z' u w' Q I4 r2 r4 q4))
theorem line63:(sizeLine:Nat)<2 ^ 63:=by rw[sizeLine_eq];decide
theorem op_add_str:OpR X (binaryOp .Add) (fun x y H Q=>∃i j,x=.str i/\y=.str j/\i.length+j.length<=sizeLine/\Q (.str (i++j)) H):=by
 intro pins s σ H x y v u Q I rx ry h
 obtain⟨i,j,rfl,rfl,hz,q⟩:=h
 obtain⟨t,rfl⟩:=rx
 obtain⟨t',rfl⟩:=ry
 exact add_str (fun t' tk=>⟨.str (i++j),H,I.tok _,⟨_,rfl⟩,q⟩) hz
theorem vals1 (r:Vals [x] us):∃u,us=[u]/\RelV x u:=by
 cases r with
 | cons r1 r2=>cases r2;exact⟨_,rfl,r1⟩
theorem vals2 (r:Vals [x,y] us):∃u w',us=[u,w']/\RelV x u/\RelV y w':=by
 cases r with
 | cons r1 r2 =>
  cases r2 with
  | cons r3 r4=>cases r4;exact⟨_,_,rfl,r1,r3⟩
theorem call_abs:CallR X (.builtin "abs") (fun xs H Q=>∃i,xs=[.int i]/\Q (.int (if i<0 then -i else i)) H):=by
 intro pins s σ H xs us Q I r h
 obtain⟨i,rfl,q⟩:=h
 obtain⟨u,rfl,t,rfl⟩:=vals1 r
 exact call_abs_int fun u tk=>⟨.int (if i<0 then -i else i),H,I.tok _,⟨_,rfl⟩,q⟩
theorem call_min2 (hc:X.calm=true):CallR X (.builtin "min") (fun xs H Q=>∃i j,xs=[.int i,.int j]/\Q (.int (if j<i then j else i)) H):=by
 intro pins s σ H xs us Q I r h
 obtain⟨i,j,rfl,q⟩:=h
 obtain⟨u,w',rfl,⟨t,rfl⟩,⟨t',rfl⟩⟩:=vals2 r
 refine min_two_ints (I.ok.hd hc) fun h' tk k=>⟨_,H,I.kept k,?_,q⟩
 by_cases hj:j<i
 ·rw[if_pos hj,if_pos hj];exact⟨_,rfl⟩
 ·rw[if_neg hj,if_neg hj];exact⟨_,rfl⟩
theorem call_int1:CallR X (.type "int") (fun xs H Q=>(∃i,xs=[.int i]/\Q (.int i) H)∨∃k,xs=[.bl k]/\Q (.int (if k then 1 else 0)) H):=by
 intro pins s σ H xs us Q I r h
 rcases h with⟨i,rfl,q⟩ | ⟨k,rfl,q⟩
 ·obtain⟨u,rfl,t,rfl⟩:=vals1 r
  exact call_int_int ⟨.int i,H,I,⟨_,rfl⟩,q⟩
 ·obtain⟨u,rfl,r1⟩:=vals1 r
  cases r1
  exact call_int_bool ⟨.int (if k then 1 else 0),H,I.tok _,⟨_,rfl⟩,q⟩
def LenV (K:W.Frag) (x:V) (H:Hp) (n:Nat):Prop :=
 match x with
 | .str y=>y.length<=sizeLine/\n=y.length
 | .byt y=>y.size<=sizeLine/\n=y.size
 | .ref p=>(∃xs,SqL K H p xs/\n=xs.length)∨∃xs,SqT K H p xs/\n=xs.length
 | _=>False
theorem call_len:CallR X (.builtin "len") (fun xs H Q => ∃x n, xs=[x] /\ LenV X.K x H n /\ Q (.int n) H) := by
 intro pins s σ H xs us Q I r h
 obtain⟨x,n,rfl,e,q⟩:=h
 obtain⟨u,rfl,rx⟩:=vals1 r
 have hl:=line63
 have hs:sizeLine=16777216:=sizeLine_eq
 cases x with
 | str y =>
  obtain⟨t,rfl⟩:=rx
  obtain⟨hy,e'⟩:y.length<=sizeLine/\n=y.length:=e
  subst e'
  exact len_str (by omega) ⟨.int _,H,I.tok _,⟨_,rfl⟩,q⟩
 | byt y =>
  obtain⟨t,rfl⟩:=rx
  obtain⟨hy,e'⟩:y.size<=sizeLine/\n=y.size:=e
  subst e'
  exact W.len_bytes (by omega) ⟨.int _,H,I.tok _,⟨_,rfl⟩,q⟩
 | ref p =>
  cases rx
  have e':(∃xs,SqL X.K H p xs/\n=xs.length)∨∃xs,SqT X.K H p xs/\n=xs.length:=e
  rcases e' with⟨xs,hx,e'⟩ | ⟨xs,hx,e'⟩
  ·subst e'
   obtain⟨its,r',pl,hz⟩:=I.list hx
   have hlen:=r'.length
   exact Calls.call_len_list pl.isList (by simp only[List.size_toArray];omega) ⟨.int xs.length,H,I.tok _,⟨_,by simp only[List.size_toArray];rw[hlen]⟩,q⟩
  ·subst e'
   obtain⟨its,r',pl,hz⟩:=I.tuple hx
   have hlen:=r'.length
   exact len_tuple pl (by simp only[List.size_toArray];omega) ⟨.int xs.length,H,I.tok _,⟨_,by simp only[List.size_toArray];rw[hlen]⟩,q⟩
 | _=>exact(show False from e).elim
end
end L2
namespace L2
open PySem PySem.Spec PyProof.Rows
structure ObjM (h:Heap) (x dx C:Addr) (mA:Str->Option Value):Prop where
 obj:h.get? x=some (W.instObj C dx)
 ns:h.Ns1 dx mA
 ne:dx≠x
theorem lookIn_ns {h:Heap}{dx:Addr}{mA:Str -> Option Value}(n:h.Ns1 dx mA):∃od, h.get? dx=some od /\ ∀name, W.lookIn name od=some (mA name) := by
 obtain⟨o,es,ep,ho,hd,hk,_,hm⟩:=n
 refine⟨o,ho,fun name=>?_⟩
 have e:=hm name
 unfold nsFind findBy at e
 rw[<- Array.find?_toList] at e
 unfold W.lookIn
 rw[hd]
 dsimp only
 split
 ·rename_i y q
  rw[q] at e
  exact congrArg some e
 ·rename_i q
  rw[q] at e
  have a:es.toList.any (·.refKey)=false:=by
   rw[List.any_eq_false]
   intro y hy
   obtain⟨z,t,hkey⟩:=hk y (Array.mem_toList_iff.mp hy)
   simp[DictEntry.refKey,hkey]
  have a':¬ es.toList.any (·.refKey)=true:=by rw[a];exact Bool.false_ne_true
  rw[if_neg a']
  exact congrArg some e
theorem ObjM.look (I:ObjM h x dx C mA):∃od,W.InstAt h x (W.instObj C dx) C (some od)/\∀name,W.lookIn name od=some (mA name) :=
 let ⟨od,ho,hl⟩:=lookIn_ns I.ns
 ⟨od,⟨I.obj,rfl,rfl,ho⟩,hl⟩
theorem RelO.some_of (r:RelO (some v) o):∃u,o=some u/\RelV v u:=by
 cases o with
 | none=>exact(show False from r).elim
 | some u=>exact⟨u,rfl,r⟩
section
variable {P:Program}{w:World}{H H':Hp}{h h':Heap}{a C dx:Addr}{fs fs':List (Str × V)}
theorem ins_get (hok:HOk P w H h) (e:H a=some (.ins C dx fs)):∃mA,ObjM h a dx C mA/\(∀f,RelO (fs.lookup f) (mA f))/\PySem.Within mA (fs.map (·.1))/\fs.length<=1000/\H dx=some (.own a):=by
 obtain⟨d,z,ne,ob,mA,n,r,q⟩:=(show ObjOk P w H h a (.ins C dx fs) from hok a _ e)
 exact⟨mA,⟨ob,n,ne⟩,r,q,z,d⟩
end
structure Cls (K:W.Frag) (C:Addr):Prop where
 pg:W.plainGet K C Str.empty=true
 hd:W.hasDictIn K C=true
 po:W.plainOver K C=true
 sa:W.findIn K (.ref C) "__setattr__"=some (some (.builtin "object.__setattr__"))
theorem Cls.get {K:W.Frag}{C:Addr}(c:Cls K C) (f:Str):W.plainGet K C f=true:=c.pg
section
variable {X:Cx}{pins:List (Addr × Obj)}{σ:St}{H:Hp}{s:Shared}{A:Around}{E:Value->Shared->Prop}{Q:Value->Shared->Prop}{c:Value}{b:Bool}
inductive TyOf (K:W.Frag) (H:Hp):V -> Value -> Prop where
 | non:TyOf K H .non (.type "NoneType")
 | bl (x:Bool):TyOf K H (.bl x) (.type "bool")
 | int (i:Int):TyOf K H (.int i) (.type "int")
 | str (x:Str):TyOf K H (.str x) (.type "str")
 | flt (x:UInt64):TyOf K H (.flt x) (.type "float")
 | lst {a:Addr} {xs:List V} (e:H a=some (.lst xs)):TyOf K H (.ref a) (.type "list")
 | frz {a:Addr} {o:Obj} {xs:List V} (e:H a=some (.frz o (.lst xs))):TyOf K H (.ref a) (.type "list")
 | tup {a:Addr} {xs:List V} (e:H a=some (.tup xs)):TyOf K H (.ref a) (.type "tuple")
 | dK {a:Addr} {kvs:List (Key × V)} (e:H a=some (.dK kvs)):TyOf K H (.ref a) (.type "dict")
 | dT {a:Addr} {kvs:List (List Key × V)} (e:H a=some (.dT kvs)):TyOf K H (.ref a) (.type "dict")
 | ins {a C dx:Addr} {fs:List (Str × V)} (e:H a=some (.ins C dx fs)) (cl:Cls K C) (ha:W.findIn K (.ref C) "__class__"=some (some (.builtin "object.__class__")))
     (hn:W.specialIn K (.builtin "object.__class__") "__get__"=some (some (.builtin "getset_descriptor.__get__"))) (htk:W.takesIn K (.builtin "object.__class__")=some true)
     (hm:W.mroIn K C (.type "object")=some true):TyOf K H (.ref a) (.ref C)
theorem isinst_ok (I:Inv X pins σ H s) (rx:RelV x u) (ty:TyOf X.K H x t) (e:W.kitOne X.K t c=some b) (h:∀tk,Q (.bool b) { s with toks:=tk }) :
    wpAny (model X.prog X.w) A (call (.builtin "isinstance") [u,c]) Q E s:=by
 cases ty with
 | non=>cases (show u=Value.none from rx);exact W.kia_one W.kitx_none I.kIn True.intro e (fun z=>nomatch z) h
 | bl y=>cases (show u=Value.bool y from rx);exact W.kia_one W.kitx_bool I.kIn True.intro e (fun z=>nomatch z) h
 | int i=>obtain⟨t,q⟩:=(show ∃t,u=Value.int i t from rx);cases q;exact W.kia_one W.kitx_int I.kIn True.intro e (fun z=>nomatch z) h
 | str y=>obtain⟨t,q⟩:=(show ∃t,u=Value.str y t from rx);cases q;exact W.kia_one W.kitx_str I.kIn True.intro e (fun z=>nomatch z) h
 | flt y=>obtain⟨t,q⟩:=(show ∃t,u=Value.float y t from rx);cases q;exact W.kia_one W.kitx_float I.kIn True.intro e (fun z=>nomatch z) h
 | @lst a xs ea =>
  cases (show u=Value.ref a from rx)
  obtain⟨_,_,n,_,h1⟩:=(show ObjOk X.prog X.w H s.heap a (.lst xs) from I.hok a _ ea)
  exact W.kia_one W.kitx_list I.kIn ⟨_,h1,rfl⟩ e (fun z=>nomatch z) h
 | @frz a ob xs ea =>
  cases (show u=Value.ref a from rx)
  obtain⟨_,_,_,n,_,h1⟩:=(show ObjOk X.prog X.w H s.heap a (.frz ob (.lst xs)) from I.hok a _ ea)
  exact W.kia_one W.kitx_list I.kIn ⟨_,h1,rfl⟩ e (fun z=>nomatch z) h
 | @tup a xs ea =>
  cases (show u=Value.ref a from rx)
  obtain⟨_,_,_,p⟩:=(show ObjOk X.prog X.w H s.heap a (.tup xs) from I.hok a _ ea)
  obtain⟨o,h1,h2,_⟩:=p
  exact W.kia_one W.kitx_tuple I.kIn ⟨o,h1,h2⟩ e (fun z=>nomatch z) h
 | @dK a kvs ea =>
  cases (show u=Value.ref a from rx)
  obtain⟨_,_,vs,_,p⟩:=(show ObjOk X.prog X.w H s.heap a (.dK kvs) from I.hok a _ ea)
  obtain⟨o,es,ep,h1,h2,_⟩:=p
  exact W.kia_one W.kitx_dict I.kIn ⟨o,h1,h2.1⟩ e (fun z=>nomatch z) h
 | @dT a kvs ea =>
  cases (show u=Value.ref a from rx)
  obtain⟨_,_,xs,_,o,es,ep,h1,h2,_⟩:=(show ObjOk X.prog X.w H s.heap a (.dT kvs) from I.hok a _ ea)
  exact W.kia_one W.kitx_dict I.kIn ⟨o,h1,h2.1⟩ e (fun z=>nomatch z) h
 | @ins a C dx fs ea cl ha hn htk hm =>
  cases (show u=Value.ref a from rx)
  obtain⟨mA,O,_⟩:=ins_get I.hok ea
  obtain⟨od,J,_⟩:=O.look
  exact W.kia_one (W.kitx_own (cl.get _) cl.hd ha hn htk hm) I.kIn J e (fun z=>nomatch z) h
end
end L2
namespace L2
open PySem PySem.Spec PyProof.Rows
structure Room (k:Nat) (A:Around):Prop where
 hd:A.handled=none
 dp:A.depth+3 * k+5<recursionLimit
 un:A.units+16 * k+200<cLine
 gd:A.guards=some []
theorem Room.mono (r:Room k A) (h:j<=k):Room j A:=⟨r.hd,by have:=r.dp;omega,by have:=r.un;omega,r.gd⟩
theorem Room.deeper (r:Room (k+1) A) (env:Env):Room k (A.deeper env) :=
 ⟨r.hd,by have:=r.dp;show A.depth+1+3 * k+5<_;omega,by have:=r.un;show A.units+3+16 * k+200<_;omega,r.gd⟩
theorem Room.depth (r:Room k A):A.depth<recursionLimit:=by have:=r.dp;omega
theorem Room.units (r:Room k A):A.units+64<cLine:=by have:=r.un;omega
def tNil:TA:=fun _ H Q=>Q [] H
def tCons (ta:TE) (tr:TA):TA:=fun σ H Q=>ta σ H fun x H1=>tr σ H1 fun xs H2=>Q (x::xs) H2
section
variable {X:Cx}{e:Expr}{es:List Expr}{te:TE}{t:TA}{pos:Pos}
theorem pa_nil:PA X [] tNil:=fun _ _ _ _ H Q I h=>Calls.spliced_nil ⟨[],H,I,.nil,h⟩
theorem pa_cons (ha:PE X e te) (hr:PA X es t) (hs:starEach (e::es) X.env=(false,eval e X.env)::starEach es X.env:=by rfl):PA X (e::es) (tCons te t):=by
 intro pos pins s σ H Q I h
 rw[hs]
 show wpAny _ _ (spliced ((false,eval e X.env)::backTo pos (starEach es X.env))) _ _ s
 refine Calls.spliced_cons (thn (ha pins s σ H _ I h) fun u s1 ⟨x,H1,I1,r1,q1⟩=>?_)
 exact thn (hr pos pins s1 σ H1 _ I1 q1) fun us s2 ⟨xs,H2,I2,r2,q2⟩=>⟨x::xs,H2,I2,.cons r1 r2,q2⟩
def tTup (t:TA):TE:=fun σ H Q=>t σ H fun xs H1=>xs.length<=sizeLine/\∀p,H1 p=none->Q (.ref p) (upd H1 p (.tup xs))
def tLst (t:TA):TE:=fun σ H Q=>t σ H fun xs H1=>xs.length<=sizeLine/\∀p,H1 p=none->Q (.ref p) (upd H1 p (.lst xs))
theorem pe_tup {x1}(h:PA X es t):PE X (.Tuple es x1 pos) (tTup t):=by
 intro pins s σ H Q I hq
 refine wpAny_Tuple_spliced (thn (h pos pins s σ H _ I hq) fun us s1 ⟨xs,H1,I1,r,z,q⟩=>⟨by rw[<- r.length];exact z,?_⟩)
 have hf:H1 s1.heap.objs.size=none:=I1.hok.fresh (Nat.le_refl _)
 refine⟨.ref s1.heap.objs.size,upd H1 s1.heap.objs.size (.tup xs),I1.laid (t':=s1.toks) (fun b u e=>Heap.get?_push_of_some _ e) (Nat.le_refl _) ?_,rfl,q _ hf⟩
 exact⟨z,us,r,⟨_,Heap.get?_push_size _ rfl,rfl,_,rfl,rfl⟩⟩
theorem pe_lst (h:PA X es t):PE X (.List es pos) (tLst t):=by
 intro pins s σ H Q I hq
 refine wpAny_List_spliced (thn (h pos pins s σ H _ I hq) fun us s1 ⟨xs,H1,I1,r,z,q⟩=>⟨by rw[<- r.length];exact z,?_⟩)
 have hf:H1 s1.heap.objs.size=none:=I1.hok.fresh (Nat.le_refl _)
 refine⟨.ref s1.heap.objs.size,upd H1 s1.heap.objs.size (.lst xs),I1.laid (t':=s1.toks) (fun b u e=>Heap.get?_push_of_some _ e) (Nat.le_refl _) ?_,rfl,q _ hf⟩
 exact⟨z,us,0,r,Heap.get?_push_size _ rfl⟩
end
abbrev Sp:=List V->Hp->VK->XK->Prop
abbrev CXT:=List Env->Hp->Shared->XK->Value->Shared->Prop
structure Env0 (P:Program) (w:World) (K:W.Frag) (mg:Str->Option Value) (base:Heap) (A:Around) (outer:List Env) (s:Shared) (H:Hp):Prop where
 frames:A.frames=some outer
 mod:Mod K mg base
 bs:∀b o,base.get? b=some o->s.heap.get? b=some o/\H b=none
 bsz:base.objs.size<=s.heap.objs.size
 funs:s.heap.FunFrames base outer
 frf:∀b∈frs outer,H b=none
 hok:HOk P w H s.heap
 bare:AllBare s.gens
def CE (outer:List Env) (P:Program) (w:World) (H:Hp) (s:Shared) (Q:VK) (u:Value) (s':Shared):Prop :=
 ∃v H',s'.os=s.os/\AllBare s'.gens/\Un (frs outer) [] H H' s.heap s'.heap/\HOk P w H' s'.heap/\RelV v u/\Q v H'
def CR (CX:CXT) (outer:List Env) (P:Program) (w:World) (H:Hp) (s:Shared) (Q:VK) (E:XK) (r:Result) (s':Shared):Prop :=
 match r with
 | .ok (.ret u)=>CE outer P w H s Q u s'
 | .ok _=>False
 | .error e=>CX outer H s E e s'
structure FnOk (P:Program) (w:World) (K:W.Frag) (mg:Str->Option Value) (base:Heap) (CX:CXT) (k:Nat) (f:Addr) (fd:FuncData) (ps:List Str) (sp:Sp):Prop where
 len:∀vs H Q E,sp vs H Q E->vs.length=ps.length
 run:∀(A:Around) (outer:List Env) (s:Shared) (H:Hp) (args:Args) (us:List Value) (vs:List V) (Q:VK) (E:XK),Room k A->Env0 P w K mg base A outer s H->BindsTo s fd args (ps.zip us)->Vals vs us->sp vs H Q E ->
  codeAny (model P w) A (.call (.ref f) args) (CR CX outer P w H s Q E) s
theorem FnOk.imp {P:Program}{w:World}{K:W.Frag}{mg:Str->Option Value}{base:Heap}{CX:CXT}{k:Nat}{f:Addr}{fd:FuncData}{ps:List Str}{sp sp':Sp}(F:FnOk P w K mg base CX k f fd ps sp)
    (h:∀vs H Q E,sp' vs H Q E->sp vs H Q E):FnOk P w K mg base CX k f fd ps sp' :=
 ⟨fun vs H Q E q=>F.len vs H Q E (h _ _ _ _ q),fun A outer s H args us vs Q E hr he hb hv hs=>F.run A outer s H args us vs Q E hr he hb hv (h _ _ _ _ hs)⟩
section
variable {X:Cx}{pins:List (Addr × Obj)}{σ:St}{H:Hp}{s s':Shared}
theorem Inv.env0 (I:Inv X pins σ H s):Env0 X.prog X.w X.K X.mg X.base X.A X.stack s H :=
 ⟨I.ok.frames,I.ok.mod,I.bs,Nat.le_trans I.ok.bsz I.sz,I.stack,I.stkFree,I.hok,I.bare⟩
theorem Inv.after (I:Inv X pins σ H s) (h:CE X.stack X.prog X.w H s Q u s'):EP X pins σ Q u s':=by
 obtain⟨v,H',os,bare,un,hok,r,q⟩:=h
 obtain⟨hh,g,d,t,os'⟩:=s'
 obtain rfl:os'=s.os:=os
 exact⟨v,H',I.call (h':=hh) (g':=g) (d':=d) (t':=t) (ch:=[]) un hok bare (fun b z=>absurd z (by simp)),r,q⟩
end
def tCall (sp:Sp) (dvs:List V) (E:XK) (t:TA):TE:=fun σ H Q=>t σ H fun vs H1=>sp (vs++dvs) H1 Q E
def Binds (K:W.Frag) (fd:FuncData) (ps:List Str) (ds:List Value):Prop :=
 ∀(s:Shared) (us:List Value),K.In s.heap->(us++ds).length=ps.length->BindsTo s fd ⟨us,[]⟩ (ps.zip (us++ds))
theorem Binds.all {K:W.Frag}{fd:FuncData}{ps:List Str}(h:∀us:List Value,us.length=ps.length->bindArgs fd ⟨us,[]⟩=pure (ps.zip us)):Binds K fd ps []:=fun s us _ hl=>by
 rw[List.append_nil] at hl ⊢
 exact .of_eq (h us hl)
def Passes (CX:CXT) (X:Cx) (E:XK):Prop:=∀(pins:List (Addr × Obj)) (σ:St) (H:Hp) (s:Shared) (e:Value) (s':Shared),Inv X pins σ H s->CX X.stack H s E e s'->X.xe e s'
section
variable {X:Cx}{CX:CXT}{k:Nat}{f C:Addr}{fd:FuncData}{ps:List Str}{sp:Sp}{dvs:List V}{ds:List Value}{E:XK}{x m:Str}{p pos apos:Pos}{e o:Expr}{es:List Expr}{ta:TE}{t:TA}
theorem run_fn (F:FnOk X.prog X.w X.K X.mg X.base CX k f fd ps sp) (hr:Room k X.A) (hb:Binds X.K fd ps ds) (hd:Vals dvs ds) (hx:Passes CX X E)
    (I:Inv X pins σ H s) (r:Vals vs us) (h:sp (vs++dvs) H Q E):wpAny (model X.prog X.w) X.A (call (.ref f) us) (EP X pins σ Q) X.xe s:=by
 have r2:Vals (vs++dvs) (us++ds):=r.append hd
 have hl:(us++ds).length=ps.length:=by rw[<- r2.length];exact F.len _ _ _ _ h
 refine wpAny_call (codeAny_mono (F.run X.A X.stack s H ⟨us,[]⟩ (us++ds) (vs++dvs) Q E hr I.env0 (hb s us I.kIn hl) r2 h) fun r s' hq=>?_)
 cases r with
 | error e=>exact hx pins σ H s e s' I hq
 | ok fl =>
  cases fl with
  | ret u=>exact I.after hq
  | next=>exact False.elim hq
  | brk=>exact False.elim hq
  | cont=>exact False.elim hq
theorem pe_call (F:FnOk X.prog X.w X.K X.mg X.base CX k f fd ps sp) (hr:Room k X.A) (hg:Gl X x) (hm:X.mg x=some (.ref f)) (hk:W.keepIn X.K (.ref f)=true) (hb:Binds X.K fd ps ds) (hd:Vals dvs ds) (hx:Passes CX X E)
    (ha:PA X (e::es) t) (hdb:(x==("__debug__":Str))=false:=by decide) (he:starEach (e::es) X.env=(false,eval e X.env)::starEach es X.env:=by rfl) (hpl:(backTo pos (starEach es X.env)).any (·.1)=false:=by rfl) :
    PE X (.Call (.Name x p) (e::es) [] pos) (tCall sp dvs E t):=by
 intro pins s σ H Q I h
 refine wpAny_Call_Name_kw (ld_glob I hg hm ?_ hdb)
 refine W.callWith_K (h₀:=X.base) I.ok.mod.kin hk (thn (ha pos pins s σ H _ I h) fun us s1 ⟨vs,H1,I1,r,q⟩=>⟨I1.kIn,?_⟩) he hpl
 exact run_fn F hr hb hd hx I1 r q
end
structure FnScope (N P:List Str) (sc:Scope):Prop where
 kind:sc.kind=.function
 co:sc.isCoroutine=false
 gen:sc.isGenerator=false
 nd:N.Nodup
 pre:N.take P.length=P
 par:∀x∈P,sc.names.lookup x=some .local∨sc.names.lookup x=some .cell
 nofree:∀y∈sc.names,y.2≠.free
theorem bindL_out {kindOf:Str -> Option NameKind}{x:Str}:∀ {binds:List (Str × Value)}{m:Str -> Option Value}, (∀v, (x, v) ∉ binds) -> bindL kindOf binds m x=m x
 | [],_,_=>rfl
 | (n,v)::r,m,h=>by
  unfold bindL
  rw[bindL_out fun w hw=>h w (List.mem_cons_of_mem _ hw)]
  split
  ·have:x≠n:=by rintro rfl;exact h v List.mem_cons_self
   simp[this]
  ·rfl
theorem bindC_out {kindOf:Str -> Option NameKind}{x:Str}:∀ {binds:List (Str × Value)}{m:Str -> Option Value}, (∀v, (x, v) ∉ binds) -> bindC kindOf binds m x=m x
 | [],_,_=>rfl
 | (n,v)::r,m,h=>by
  unfold bindC
  rw[bindC_out fun w hw=>h w (List.mem_cons_of_mem _ hw)]
  split
  ·rfl
  ·have:x≠n:=by rintro rfl;exact h v List.mem_cons_self
   simp[this]
theorem bindL_get {kindOf:Str->Option NameKind}{x:Str}:∀ {P:List Str}{vs:List Value}{i:Nat}{m:Str->Option Value},P.Nodup->P[i]? = some x->vs[i]? = some v->kindOf x=some .local ->
    bindL kindOf (P.zip vs) m x=some v
 | [],_,_,_,_,h,_,_=>by simp at h
 | _::_,[],_,_,_,_,h,_=>by simp at h
 | p::P,w::vs,0,m,nd,h1,h2,hk=>by
  simp at h1 h2;subst h1;subst h2
  show bindL kindOf ((p,w)::P.zip vs) m p=_
  unfold bindL
  rw[bindL_out fun v hv=>(List.nodup_cons.mp nd).1 (List.of_mem_zip hv).1,if_pos hk]
  simp
 | p::P,w::vs,i+1,m,nd,h1,h2,hk=>by
  show bindL kindOf ((p,w)::P.zip vs) m x=_
  unfold bindL
  exact bindL_get (i:=i) (List.nodup_cons.mp nd).2 (by simpa using h1) (by simpa using h2) hk
theorem bindC_get {kindOf:Str->Option NameKind}{x:Str}:∀ {P:List Str}{vs:List Value}{i:Nat}{m:Str->Option Value},P.Nodup->P[i]? = some x->vs[i]? = some v->kindOf x≠some .local ->
    bindC kindOf (P.zip vs) m x=some v
 | [],_,_,_,_,h,_,_=>by simp at h
 | _::_,[],_,_,_,_,h,_=>by simp at h
 | p::P,w::vs,0,m,nd,h1,h2,hk=>by
  simp at h1 h2;subst h1;subst h2
  show bindC kindOf ((p,w)::P.zip vs) m p=_
  unfold bindC
  rw[bindC_out fun v hv=>(List.nodup_cons.mp nd).1 (List.of_mem_zip hv).1,if_neg hk]
  simp
 | p::P,w::vs,i+1,m,nd,h1,h2,hk=>by
  show bindC kindOf ((p,w)::P.zip vs) m x=_
  unfold bindC
  exact bindC_get (i:=i) (List.nodup_cons.mp nd).2 (by simpa using h1) (by simpa using h2) hk
def start (N:List Str) (vs:List V):St:=vs.map some++List.replicate (N.length-vs.length) none
def cxOf (CX:CXT) (P:Program) (w:World) (K:W.Frag) (mg:Str->Option Value) (base:Heap) (N:List Str) (qual:Str) (scope:Scope) (f:Addr) (cd:Value) (A:Around) (outer:List Env) (s:Shared) (H:Hp) (E:XK):Cx where
 prog:=P
 w:=w
 K:=K
 mg:=mg
 base:=base
 A:=A.deeper (envOfC qual scope s.heap.objs.size f cd)
 N:=N
 s₀:=s
 H₀:=H
 env:=envOfC qual scope s.heap.objs.size f cd
 outer:=outer
 stack:=envOfC qual scope s.heap.objs.size f cd::outer
 ex:=[]
 calm:=true
 fn:=fun _=>true
 pn:=[]
 xe:=fun e s'=>wpAny (model P w) (A.deeper (envOfC qual scope s.heap.objs.size f cd)) (leaving (envOfC qual scope s.heap.objs.size f cd) e) (fun _ s''=>CX outer H s E e s'') (fun e' s''=>CX outer H s E e' s'') s'
theorem cell_has {sc:Scope}{n:Nat}{x:Str}(h:sc.names.lookup x=some .cell):∃c,(cellsFrom n sc.names []).lookup x=some c:=by
 have q:=W.cellsFrom_some sc.names n [] (.inl h)
 exact Option.isSome_iff_exists.mp q
theorem inv_start {CX:CXT}{P:Program}{w:World}{K:W.Frag}{mg:Str -> Option Value}{base:Heap}{N ps:List Str}{qual:Str}{scope:Scope}{f:Addr}{cd:Value}{A:Around}{outer:List Env}{s s1:Shared}{H:Hp}{E:XK}{us:List Value}{vs:List V}
    (S:FnScope N ps scope) (hd:A.handled=none) (e0:Env0 P w K mg base A outer s H) (hl:vs.length=ps.length) (r:Vals vs us)
    (x:InCallC s s.heap.objs.size (bindL (envOfC qual scope s.heap.objs.size f cd).kindOf (ps.zip us) fun _=>none) (cellsFrom (s.heap.objs.size+1) scope.names []) (bindC (envOfC qual scope s.heap.objs.size f cd).kindOf (ps.zip us) fun _=>none) s1) :
    Inv (cxOf CX P w K mg base N qual scope f cd A outer s H E) [] (start N vs) H s1:=by
 have hpl:ps.length<=N.length:=by have:=congrArg List.length S.pre;rw[List.length_take] at this;omega
 obtain⟨h1,tk,rfl,hk⟩:=x.done
 have noA:∀b:Addr,b∉(cxOf CX P w K mg base N qual scope f cd A outer s H E).ex:=fun b z=>absurd (show b∈([]:List Addr) from z) (by simp)
 refine⟨⟨e0.mod,S.kind,rfl,rfl,Nat.le_refl _,fun y z c h1 h2=>?_,fun y hy=>?_,fun y c _ h=>?_,fun _=>hd,Around.frames_deeper e0.frames,.inr ⟨rfl,rfl⟩,fun b z=>absurd z (noA b),e0.bs,e0.bsz,fun b _ _=>noA b,fun b z=>absurd z (noA b),e0.funs,e0.frf⟩,
  rfl,e0.bare,Un.kept hk,⟨_,x.toInCall.ns,fun i y v h1 h2 h3=>?_⟩,fun y c h=>⟨_,x.cell y c h⟩,e0.hok.fresh (Nat.le_refl _),fun y c h=>?_,fun p hp=>absurd (show p∈([]:List (Addr × Obj)) from hp) (by simp),e0.hok.kept hk,?_⟩
 ·exact name_of_addr x.apart (PySem.mem_of_lookup h1) (PySem.mem_of_lookup h2)
 ·have hy:scope.names.lookup y=some .cell∨scope.names.lookup y=some .free:=hy
  rcases hy with hy | hy
  ·exact cell_has hy
  ·exact absurd rfl (S.nofree _ (PySem.mem_of_lookup hy))
 ·exact Nat.le_of_lt (x.above y c (PySem.mem_of_lookup h))
 ·have hi:i<vs.length := by
     unfold start at h2
     by_cases hi:i<vs.length
     ·exact hi
     ·rw[List.getElem?_append_right (by simpa using hi)] at h2
      rw[List.getElem?_replicate] at h2
      split at h2 <;> cases h2
  have ha:vs[i]? = some v:=by
   unfold start at h2
   rw[List.getElem?_append_left (by simpa using hi),List.getElem?_map] at h2
   cases e:vs[i]? with
   | none=>rw[e] at h2;cases h2
   | some a=>rw[e] at h2;cases h2;rfl
  obtain⟨u,hu,rv⟩:=r.get ha
  have hp:ps[i]? = some y:=by
   rw[<- S.pre,List.getElem?_take_of_lt (by omega)];exact h1
  have ndP:ps.Nodup:=by rw[<- S.pre];exact S.nd.sublist (List.take_sublist _ _)
  refine⟨u,rv,?_⟩
  rcases S.par y (List.mem_of_getElem? hp) with k | k
  ·exact .inl ⟨k,bindL_get ndP hp hu k⟩
  ·obtain⟨c,e⟩:=cell_has (n:=s.heap.objs.size+1) k
   refine .inr ⟨.inl k,c,e,?_⟩
   have q:=x.cell y c e
   rw[bindC_get ndP hp hu (by show scope.names.lookup y≠_;rw[k];decide)] at q
   exact q
 ·exact e0.hok.fresh (Nat.le_of_lt (x.above y c (PySem.mem_of_lookup h)))
 ·unfold start
  show _=N.length
  rw[List.length_append,List.length_map,List.length_replicate]
  omega
theorem fn_of {CX:CXT}{P:Program}{w:World}{K:W.Frag}{mg:Str -> Option Value}{base:Heap}{k:Nat}{f:Addr}{name qual:Str}{params:Arguments}{body:List Stmt}{scope:Scope}{dV kV doc pm cdv ct oc:Value}{an od:Option Addr}
    {osl:Array (Option Value)} {N ps:List Str} {sp:Sp} (lk:K.lookup f=some ⟨oc,od,.func (W.fnOf name qual params body scope dV kV doc pm an cdv ct),osl⟩) (hcd:W.codeIn K cdv qual=true) (S:FnScope N ps scope)
    (len:∀vs H Q E,sp vs H Q E->vs.length=ps.length)
    (hbody:∀(A:Around) (outer:List Env) (s:Shared) (H:Hp) (vs:List V) (Q:VK) (E:XK),Room k (A.deeper (envOfC qual scope s.heap.objs.size f cdv))->sp vs H Q E ->
     ∃t,PSs (cxOf CX P w K mg base N qual scope f cdv A outer s H E) body t/\t { nx:=fun _ H'=>Q .non H',rt:=Q } (start N vs) H) :
    FnOk P w K mg base CX (k+1) f (W.fnOf name qual params body scope dV kV doc pm an cdv ct) ps sp:=by
 refine⟨len,fun A outer s H args us vs Q E hr e0 hb r hsp=>?_⟩
 have hl:=len _ _ _ _ hsp
 have KX:K.In s.heap:=e0.mod.kin.keeps fun b o e=>(e0.bs b o e).1
 have lim:s.heap.NoLimit:=e0.mod.nolimit.keeps fun b o e=>(e0.bs b o e).1
 have hkind:∀y∈ps.zip us,scope.names.lookup y.1=some .local∨(scope.names.lookup y.1=some .cell/\((cellsFrom (s.heap.objs.size+1) scope.names []).lookup y.1).isSome=true):=fun ⟨n,v⟩ hy=>by
  rcases S.par n (List.of_mem_zip hy).1 with q | q
  ·exact .inl q
  ·exact .inr ⟨q,W.cellsFrom_some _ _ _ (.inl q)⟩
 refine codeAny_call_function hr.depth (KX _ _ lk) rfl S.co S.gen rfl (W.codeRec_of KX hcd) (hb _ _ _ _ ?_)
 refine wpAny_newFunctionEnv_cells S.kind hkind fun env he s1 x=>?_
 subst he
 refine⟨lim.keeps x.toInCall.keep,codeAny_func ?_⟩
 obtain⟨t,ht,hq⟩:=hbody A outer s H vs Q E (hr.deeper _) hsp
 have I:Inv (cxOf CX P w K mg base N qual scope f cdv A outer s H E) [] (start N vs) H s1:=inv_start S hr.hd e0 hl r x
 refine wpAny_mono (ht [] s1 (start N vs) H _ I hq) (fun fl s' hs=>?_) fun e s' hs=>hs
 have fin:∀ {σ':St} {H':Hp} {v:V} {u:Value},Inv (cxOf CX P w K mg base N qual scope f cdv A outer s H E) [] σ' H' s'->RelV v u->Q v H'->CE outer P w H s Q u s' :=
  fun {σ' H' v u} J rv q=>⟨v,H',J.os,J.bare,J.base,J.hok,rv,q⟩
 cases fl with
 | ret u =>
  obtain⟨v,σ',H',J,rv,q⟩:=hs
  exact fin J rv q
 | next =>
  obtain⟨σ',H',J,q⟩:=hs
  exact fin (v:=V.non) (u:=Value.none) J rfl q
 | brk =>
  obtain⟨_,_,_,q⟩:=hs
  exact False.elim q
 | cont =>
  obtain⟨_,_,_,q⟩:=hs
  exact False.elim q
end L2
namespace L2
open PySem PySem.Spec PyProof.Rows
section
variable {X:Cx}{x:Str}{p pos:Pos}{e:Expr}{es:List Expr}{t:TA}{id T:String}{r:List V->Hp->VK->Prop}
def tCB (r:List V->Hp->VK->Prop) (t:TA):TE:=fun σ H Q=>t σ H fun vs H1=>r vs H1 Q
theorem pe_callB (hc:CallR X (.builtin id) r) (hg:Gl X x) (hm:X.mg x=none) (hv:bootBuiltins x=some (.builtin id)) (ha:PA X (e::es) t) (hn:x≠"__name__":=by decide) (hdb:(x==("__debug__":Str))=false:=by decide)
    (he:starEach (e::es) X.env=(false,eval e X.env)::starEach es X.env:=by rfl) (hpl:(backTo pos (starEach es X.env)).any (·.1)=false:=by rfl):PE X (.Call (.Name x p) (e::es) [] pos) (tCB r t):=by
 intro pins s σ H Q I h
 refine wpAny_Call_Name_kw (ld_blt I hg hm hv ?_ hn hdb)
 exact PyProof.Rows.callWith_builtin1 (thn (ha pos pins s σ H _ I h) fun us s1 ⟨vs,H1,I1,r1,q1⟩=>hc pins s1 σ H1 vs us Q I1 r1 q1) he hpl
theorem pe_callTy (hc:CallR X (.type T) r) (hg:Gl X x) (hm:X.mg x=none) (hv:bootBuiltins x=some (.type T)) (ha:PA X (e::es) t) (hn:x≠"__name__":=by decide) (hdb:(x==("__debug__":Str))=false:=by decide)
    (he:starEach (e::es) X.env=(false,eval e X.env)::starEach es X.env:=by rfl) (hpl:(backTo pos (starEach es X.env)).any (·.1)=false:=by rfl):PE X (.Call (.Name x p) (e::es) [] pos) (tCB r t):=by
 intro pins s σ H Q I h
 refine wpAny_Call_Name_kw (ld_blt I hg hm hv ?_ hn hdb)
 exact PyProof.Rows.callWith_type1 (thn (ha pos pins s σ H _ I h) fun us s1 ⟨vs,H1,I1,r1,q1⟩=>hc pins s1 σ H1 vs us Q I1 r1 q1) he hpl
end
end L2
namespace HT
open PySem PyProof.Rows
section
open PySem.SeqAt
open PySem.AutoSeq1 (wpAny_loadPart')
open PySem.MeetsSeq PySem.MeetsSeq2 PySem.MeetsSeq3
end
section
variable {prog:Program}{w:World}{A:Around}{E:Value->Shared->Prop}{s:Shared}
theorem cat_tup (ht:IsTup s.heap t vs.toArray) (hb:IsTup s.heap b ws.toArray) (hv:vs ≠ [])
    (h1:ws=[]->Q (.ref t) s) (h2:ws≠[]->Q (.ref s.heap.objs.size) { s with heap:=s.heap.push { cls:=.type "tuple",data:=.seq (vs++ws).toArray } })
    (hsz:vs.length+ws.length<=sizeLine):wpAny (model prog w) A (binaryOp .Add (.ref t) (.ref b)) Q E s:=by
 obtain⟨⟨cls,dd,data,sl⟩,ho,hc,n,hd⟩:=id ht
 obtain⟨⟨cls2,dd2,data2,sl2⟩,ho2,hc2,n2,hd2⟩:=id hb
 simp only at hc hd hc2 hd2
 subst hc hd hc2 hd2
 have e:vs.toArray++ws.toArray=(vs++ws).toArray:=by simp
 by_cases hw:ws=[]
 ·exact concat_meets ⟨_,ho,rfl⟩ ⟨_,ho2,rfl⟩ noFill_tuple_add seq_tuple_add PySem.F.slot_tuple_add PySem.F.entry_tuple_add (PySem.F.args_tuple_add_2 _ _)
     (tuple_addW1 t b vs.toArray ws.toArray n n2 dd dd2 sl sl2 (by simpa using hv) (by simp[hw])) ⟨ho,ho2,h1 hw⟩
 ·refine concat_meets ⟨_,ho,rfl⟩ ⟨_,ho2,rfl⟩ noFill_tuple_add seq_tuple_add PySem.F.slot_tuple_add PySem.F.entry_tuple_add (PySem.F.args_tuple_add_2 _ _)
     (tuple_addW2 t b vs.toArray ws.toArray n n2 dd dd2 sl sl2 (by simpa using hv) (by simpa using hw) (by rw[List.size_toArray,List.size_toArray];exact hsz)) ⟨ho,ho2,?_⟩
  rw[e]
  exact h2 hw
def sIx (n d:Nat):Option Int->Nat
 | none=>d
 | some v=>if v<0 then (v+(n:Int)).toNat else min v.toNat n
theorem sIx_none (n d:Nat):sIx n d none=d:=rfl
theorem sIx_nat (n d k:Nat):sIx n d (some (k:Int))=min k n:=by
 show (if (k:Int)<0 then ((k:Int)+(n:Int)).toNat else min (k:Int).toNat n)=min k n
 rw[if_neg (by omega),Int.toNat_natCast]
theorem sIx_le (n d:Nat) (hd:d<=n) (o:Option Int):sIx n d o<=n:=by
 cases o with
 | none=>exact hd
 | some v =>
  show (if v<0 then (v+(n:Int)).toNat else min v.toNat n)<=n
  by_cases hv:v<0
  ·rw[if_pos hv];omega
  ·rw[if_neg hv];exact Nat.min_le_right _ _
theorem clip_eq (v:Int) (n d:Nat):(if v<0 then max (v+(n:Int)) 0 else min v (n:Int))=((sIx n d (some v):Nat):Int):=by
 show (if v<0 then max (v+(n:Int)) 0 else min v (n:Int))=(((if v<0 then (v+(n:Int)).toNat else min v.toNat n):Nat):Int)
 by_cases hv:v<0
 ·simp only[if_pos hv];omega
 ·simp only[if_neg hv];omega
theorem adjust_gen (lo hi:Option Int) (n:Nat):Builtin.Slice.sliceAdjust lo hi 1 (n:Int)=(((sIx n 0 lo:Nat):Int),((sIx n n hi:Nat):Int)):=by
 have h1:¬ ((1:Int)<0):=by omega
 unfold Builtin.Slice.sliceAdjust
 simp only[h1,if_false]
 refine Prod.ext ?_ ?_
 ·cases lo with
  | none=>rfl
  | some v=>exact clip_eq v n 0
 ·cases hi with
  | none=>rfl
  | some v=>exact clip_eq v n n
theorem places_gen (i j:Nat):Builtin.Slice.slicePlaces (i:Int) (j:Int) 1=j-i:=by
 unfold Builtin.Slice.slicePlaces
 have h1:(1:Int) > 0:=by omega
 simp only[h1,if_true,Int.ediv_one]
 split <;> omega
theorem slicePart_ (p:IsPart v o) (h:Q o s):wpAny (model prog w) A (Builtin.Slice.slicePartIndex v) Q E s:=by
 cases p with
 | none=>exact slicePart_none h
 | int i t=>exact slicePart_int h
theorem sliceApplied_gen {lo hi:Option Int}{n:Nat}{Q:Int × Int × Nat->Shared->Prop}(hs:s.heap.IsSliceOf sl vl vu .none) (pl:IsPart vl lo) (pu:IsPart vu hi)
    (h:Q (((sIx n 0 lo:Nat):Int),1,sIx n n hi-sIx n 0 lo) s):wpAny (model prog w) A (Builtin.Slice.sliceApplied (.ref sl) (pure (n:Int))) Q E s:=by
 obtain⟨os,hos,hcs,hds⟩:=id hs
 unfold Builtin.Slice.sliceApplied Builtin.Slice.sliceFields
 refine wpAny_bind (wpAny_bind (wpAny_field hos hds (x:=vl) rfl (wpAny_bind (wpAny_field hos hds (x:=vu) rfl (wpAny_bind (wpAny_field hos hds (x:=.none) rfl (wpAny_pure ?_)))))))
 refine wpAny_bind (slicePart_none ?_)
 show wpAny _ _ (if ((1:Int)==0)=true then _ else _) _ _ s
 rw[if_neg (by decide)]
 refine wpAny_bind (slicePart_ pl (wpAny_bind (slicePart_ pu (wpAny_bind (wpAny_pure ?_)))))
 show wpAny _ _ (match Builtin.Slice.sliceAdjust lo hi 1 (n:Int) with | (lo,hi)=>pure (lo,(1:Int),Builtin.Slice.slicePlaces lo hi 1)) _ _ s
 rw[adjust_gen lo hi n]
 show wpAny _ _ (pure (((sIx n 0 lo:Nat):Int),(1:Int),Builtin.Slice.slicePlaces ((sIx n 0 lo:Nat):Int) ((sIx n n hi:Nat):Int) 1)) _ _ s
 rw[places_gen]
 exact wpAny_pure h
theorem pick_gen (xs:Array Value) (i k:Nat):((List.range k).filterMap fun (m:Nat)=>xs[((i:Int)+(m:Int) * 1).toNat]?).toArray=((xs.toList.drop i).take k).toArray:=by
 have e:(fun (m:Nat)=>xs[((i:Int)+(m:Int) * 1).toNat]?)=fun m=>xs[i+m]?:=by
  funext m
  have:((i:Int)+(m:Int) * 1).toNat=i+m:=by omega
  rw[this]
 rw[e]
 have:=pick_run xs i k
 rw[List.filterMap_map] at this
 have e2:((fun x=>xs[x]?) ∘ fun x=>i+x)=fun m=>xs[i+m]?:=rfl
 rw[e2] at this
 rw[this]
theorem getItem_tuple_cut {items:Array Value}{lo hi:Option Int}(ht:IsTup s.heap t items) (hs:s.heap.IsSliceOf sl vl vu .none) (pl:IsPart vl lo) (pu:IsPart vu hi)
    (hw:¬ (sIx items.size 0 lo=0/\sIx items.size items.size hi=items.size))
    (h:Q (.ref s.heap.objs.size) { s with heap:=s.heap.push { cls:=.type "tuple",data:=.seq ((items.toList.drop (sIx items.size 0 lo)).take (sIx items.size items.size hi-sIx items.size 0 lo)).toArray } })
    (hsz:items.size<=sizeLine):wpAny (model prog w) A (getItem (.ref t) (.ref sl)) Q E s:=by
 have htake:sizeOk (.seq ((items.toList.drop (sIx items.size 0 lo)).take (sIx items.size items.size hi-sIx items.size 0 lo)).toArray):=by
  show ((items.toList.drop (sIx items.size 0 lo)).take (sIx items.size items.size hi-sIx items.size 0 lo)).toArray.size<=sizeLine
  rw[List.size_toArray,List.length_take,List.length_drop,Array.length_toList]
  omega
 have hj:sIx items.size items.size hi<=items.size:=sIx_le _ _ (Nat.le_refl _) hi
 obtain⟨os,hos,hcs,hds⟩:=id hs
 have hTs:s.TypeIs (.ref sl) "slice":=⟨os,hos,hcs⟩
 unfold getItem
 try with_reducible refine wpAny_holding ?_
 first | refine wpAny_bind (wpAny_pure ?_) | skip
 refine wpAny_bind (wpAny_sequenceKey ht.typeIs (by decide) ?_)
 refine wpAny_bind (wpAny_callSpecial?_slot (name:=Str.ofString "__getitem__") ht.typeIs PyProof.Rows.slot_tuple_getitem
  (wpAny_call_entry PyProof.Rows.slot_tuple_getitem ht.typeIs entry_tuple_getitem ?_ (args_tuple_getitem _ _)))
 show wpAny _ _ (Builtin.Tuple.tupleItemsOf (.ref t) >>= _) _ _ s
 refine wpAny_bind (tupleItemsOf_ ht ?_)
 refine wpAny_bind (wpAny_typeOf hTs ?_)
 rw[if_pos (by decide)]
 refine wpAny_bind (sliceApplied_gen hs pl pu ?_)
 have hno:¬ ((((sIx items.size 0 lo:Nat):Int)==0&&(1:Int)==1&&(sIx items.size items.size hi-sIx items.size 0 lo)==items.size)=true):=by
  intro q
  rw[Bool.and_eq_true,Bool.and_eq_true] at q
  have q1:((sIx items.size 0 lo:Nat):Int)=0:=eq_of_beq q.1.1
  have q2:sIx items.size items.size hi-sIx items.size 0 lo=items.size:=eq_of_beq q.2
  exact hw ⟨by omega,by omega⟩
 show wpAny _ _ (if (((sIx items.size 0 lo:Nat):Int)==0&&(1:Int)==1&&(sIx items.size items.size hi-sIx items.size 0 lo)==items.size)=true then _ else _) _ _ s
 rw[if_neg hno,pick_gen]
 first
  | exact wpAny_bind (m:=Builtin.Tuple.tupleExact _) (wpAny_newObj_type (wpAny_pure ⟨_,rfl,wpAny_pure h⟩) htake)
  | exact wpAny_bind (m:=Builtin.Tuple.tupleExact _) (wpAny_newObj_type (wpAny_bind (wpAny_pure (wpAny_pure ⟨_,rfl,wpAny_pure h⟩))) htake)
  | exact wpAny_bind (wpAny_bind (m:=Builtin.Tuple.tupleExact _) (wpAny_newObj_type (wpAny_pure (wpAny_pure ⟨_,rfl,wpAny_pure h⟩)) htake))
  | exact wpAny_bind (wpAny_bind (m:=Builtin.Tuple.tupleExact _) (wpAny_newObj_type (wpAny_pure ⟨_,rfl,wpAny_pure h⟩) htake))
end
end HT
namespace L2
open PySem PySem.Spec PyProof.Rows
abbrev TO:=St->Hp->(Option Int->Hp->Prop)->Prop
def PO (X:Cx) (e:Option Expr) (t:TO):Prop :=
 ∀(pins:List (Addr × Obj)) (s:Shared) (σ:St) (H:Hp) (Q:Option Int->Hp->Prop),Inv X pins σ H s->t σ H Q ->
  wpAny (model X.prog X.w) X.A (evalPart e X.env) (fun u s'=>∃o H',Inv X pins σ H' s'/\IsPart u o/\Q o H') X.xe s
def tNoPart:TO:=fun _ H Q=>Q none H
def tPart (t:TE):TO:=fun σ H Q=>t σ H fun x H1=>∃i,x=.int i/\Q (some i) H1
section
variable {X:Cx}{e:Expr}{te:TE}{lo hi:Option Expr}{tl th:TO}{pos p2:Pos}
theorem po_none:PO X none tNoPart:=by
 intro pins s σ H Q I h
 rw[evalPart_none]
 exact wpAny_pure ⟨none,H,I,.none,h⟩
theorem po_some (h:PE X e te):PO X (some e) (tPart te):=by
 intro pins s σ H Q I hw
 rw[evalPart_some]
 refine thn (h pins s σ H _ I hw) fun u s1 ⟨x,H1,I1,r1,q1⟩=>?_
 obtain⟨i,rfl,q⟩:=q1
 obtain⟨t,rfl⟩:=r1
 exact⟨some i,H1,I1,.int i t,q⟩
def SlR (X:Cx) (r:V->Option Int->Option Int->Hp->VK->Prop):Prop :=
 ∀(pins:List (Addr × Obj)) (s:Shared) (σ:St) (H:Hp) (x:V) (v vl vu:Value) (lo hi:Option Int) (sl:Addr) (Q:VK),Inv X pins σ H s->RelV x v->s.heap.IsSliceOf sl vl vu .none->IsPart vl lo->IsPart vu hi->r x lo hi H Q ->
  ∃T id,typeLookup (.type T) "__getitem__"=pure (some (.builtin id))/\s.TypeIs v T/\wpAny (model X.prog X.w) X.A (getItem v (.ref sl)) (EP X pins σ Q) X.xe s
def tSl (r:V->Option Int->Option Int->Hp->VK->Prop) (te:TE) (tl th:TO):TE:=fun σ H Q=>te σ H fun x H1=>tl σ H1 fun l H2=>th σ H2 fun u H3=>r x l u H3 Q
theorem pe_slice (hr:SlR X r) (he:PE X e te) (hl:PO X lo tl) (hu:PO X hi th):PE X (.Subscript e (.Slice lo hi none p2) pos) (tSl r te tl th):=by
 intro pins s σ H Q I h
 refine Subscript_ (thn (he pins s σ H _ I h) fun v s1 ⟨x,H1,I1,r1,q1⟩=>?_)
 refine wpAny_Slice (thn (hl pins s1 σ H1 _ I1 q1) fun vl s2 ⟨l,H2,I2,pl,q2⟩=>thn (hu pins s2 σ H2 _ I2 q2) fun vu s3 ⟨u,H3,I3,pu,q3⟩=>?_)
 rw[evalPart_none]
 refine wpAny_pure ?_
 have I4:Inv X pins σ H3 { s3 with heap:=s3.heap.push { cls:=.type "slice",data:=.fields #[vl,vu,.none] } }:=I3.kept (t':=s3.toks) fun b ob q=>Heap.get?_push_of_some _ q
 obtain⟨T,id,hT,ht,hg⟩:=hr pins { s3 with heap:=s3.heap.push { cls:=.type "slice",data:=.fields #[vl,vu,.none] } } σ H3 x v vl vu l u s3.heap.objs.size Q I4 r1 (Heap.IsSliceOf.new ..) pl pu q3
 show wpAny (model X.prog X.w) X.A (subscriptTail e (.Slice lo hi none p2) v (.ref s3.heap.objs.size)) (EP X pins σ Q) X.xe { s3 with heap:=s3.heap.push { cls:=.type "slice",data:=.fields #[vl,vu,.none] } }
 exact tail_any (ops:=[.ref s3.heap.objs.size,v]) ht hT hg (by with_unfolding_all rfl)
def cutV (xs:List V) (lo hi:Option Int):List V:=(xs.drop (HT.sIx xs.length 0 lo)).take (HT.sIx xs.length xs.length hi-HT.sIx xs.length 0 lo)
theorem cutV_length (xs:List V) (lo hi:Option Int):(cutV xs lo hi).length<=xs.length:=by
 unfold cutV
 rw[List.length_take,List.length_drop]
 omega
def rSlT (K:W.Frag):V->Option Int->Option Int->Hp->VK->Prop:=fun x lo hi H Q=>∃a xs,x=.ref a/\SqT K H a xs /\
 ¬ (HT.sIx xs.length 0 lo=0/\HT.sIx xs.length xs.length hi=xs.length)/\∀p,H p=none->Q (.ref p) (upd H p (.tup (cutV xs lo hi)))
theorem sl_tup:SlR X (rSlT X.K):=by
 intro pins s σ H x v vl vu lo hi sl Q I rx hs pl pu h
 obtain⟨a,xs,rfl,hx,hw,q⟩:=h
 cases rx
 obtain⟨its,r,ht,hz⟩:=I.tuple hx
 have hlen:its.toArray.size=xs.length:=by rw[List.size_toArray];exact r.length.symm
 refine⟨"tuple",_,PyProof.Rows.slot_tuple_getitem.lookup,ht.typeIs,?_⟩
 refine HT.getItem_tuple_cut ht hs pl pu (by rw[hlen];exact hw) ?_ (by rw[hlen];exact hz)
 rw[hlen]
 refine⟨.ref s.heap.objs.size,_,I.laid (t':=s.toks) (o:=.tup (cutV xs lo hi)) (fun b ob q=>Heap.get?_push_of_some _ q) (Nat.le_refl _) ?_,rfl,q _ (I.hok.fresh (Nat.le_refl _))⟩
 exact⟨Nat.le_trans (cutV_length xs lo hi) hz,_,(r.drop (HT.sIx xs.length 0 lo)).take (HT.sIx xs.length xs.length hi-HT.sIx xs.length 0 lo),TupN.new _ _⟩
def rCatT (K:W.Frag):R2:=fun x y H Q=>∃a b xs ys,x=.ref a/\y=.ref b/\SqT K H a xs/\SqT K H b ys/\xs≠[]/\xs.length+ys.length<=sizeLine /\
 (ys=[]->Q (.ref a) H)/\(ys≠[]->∀p,H p=none->Q (.ref p) (upd H p (.tup (xs++ys))))
theorem Vals.nil_iff (r:Vals xs us):us=[] ↔ xs=[]:=by
 cases r with
 | nil=>simp
 | cons _ _=>simp
theorem op_catT:OpR X (binaryOp .Add) (rCatT X.K):=by
 intro pins s σ H x y v u Q I rx ry h
 obtain⟨a,b,xs,ys,rfl,rfl,ha,hb,hx,hz,q1,q2⟩:=h
 cases rx
 cases ry
 obtain⟨its,r1,p1,_⟩:=I.tuple ha
 obtain⟨its2,r2,p2,_⟩:=I.tuple hb
 refine HT.cat_tup p1 p2 (fun z=>hx (r1.nil_iff.mp z)) (fun z=>⟨.ref a,H,I,rfl,q1 (r2.nil_iff.mp z)⟩) (fun z=>?_) (by rw[<- r1.length,<- r2.length];exact hz)
 refine⟨.ref s.heap.objs.size,_,I.laid (t':=s.toks) (o:=.tup (xs++ys)) (fun b ob q=>Heap.get?_push_of_some _ q) (Nat.le_refl _) ?_,rfl,q2 (fun w=>z (r2.nil_iff.mpr w)) _ (I.hok.fresh (Nat.le_refl _))⟩
 exact⟨by rw[List.length_append];exact hz,_,r1.append r2,TupN.new _ _⟩
end
end L2
namespace L2
open PySem PySem.Spec PyProof.Rows
def ixN (n:Nat) (i:Int):Option Nat:=if 0<=i then (if i<n then some i.toNat else none) else if -(n:Int)<=i then some (i+n).toNat else none
def atI {α:Type}(xs:List α) (i:Int):Option α:=(ixN xs.length i).bind fun j=>xs[j]?
theorem ixN_seq (h:ixN n i=some j):seqIndex? i n=some j /\ j<n /\ -(n:Int) <= i /\ i<n := by
 unfold ixN at h
 by_cases h0:0<=i
 ·rw[if_pos h0] at h
  by_cases h1:i<n
  ·rw[if_pos h1] at h
   have e:i.toNat=j:=Option.some.inj h
   exact⟨by rw[seqIndex_of h0 h1,e],by omega,by omega,h1⟩
  ·rw[if_neg h1] at h;cases h
 ·rw[if_neg h0] at h
  by_cases h1:-(n:Int)<=i
  ·rw[if_pos h1] at h
   have e:(i+n).toNat=j:=Option.some.inj h
   exact⟨by rw[seqIndex_neg (by omega) h1,e],by omega,h1,by omega⟩
  ·rw[if_neg h1] at h;cases h
theorem atI_get (h:atI xs i=some v):∃j,seqIndex? i xs.length=some j/\xs[j]? = some v/\j<xs.length/\-(xs.length:Int)<=i/\i<xs.length:=by
 unfold atI at h
 cases e:ixN xs.length i with
 | none=>rw[e] at h;cases h
 | some j =>
  rw[e] at h
  obtain⟨h1,h2,h3,h4⟩:=ixN_seq e
  exact⟨j,h1,h,h2,h3,h4⟩
theorem atI_nat {α:Type}{xs:List α}{j:Nat}{v:α}(h:xs[j]? = some v):atI xs (j:Int)=some v:=by
 have hj:j<xs.length:=(List.getElem?_eq_some_iff.mp h).1
 have e:ixN xs.length (j:Int)=some j:=by
  unfold ixN
  rw[if_pos (by omega),if_pos (by omega)];simp
 unfold atI;rw[e];exact h
theorem atI_last (xs:List α) (v:α):atI (xs++[v]) (-1)=some v:=by
 have hl:(xs++[v]).length=xs.length+1:=by simp
 have e:ixN (xs++[v]).length (-1)=some xs.length:=by
  unfold ixN
  rw[hl,if_neg (by decide),if_pos (by omega)]
  congr 1
  omega
 unfold atI
 rw[e]
 show (xs++[v])[xs.length]? = some v
 simp
def PlainIx (b:Expr):Prop:=∀o i,subscripted b false o i=operate [o,i] (getItem o i)
def IxR (X:Cx) (r:R2):Prop :=
 ∀(value slice:Expr) (pins:List (Addr × Obj)) (s:Shared) (σ:St) (H:Hp) (x y:V) (v u:Value) (Q:VK),Inv X pins σ H s->RelV x v->RelV y u->r x y H Q ->
  subscripted slice false v u=operate [v,u] (getItem v u)->wpAny (model X.prog X.w) X.A (subscriptTail value slice v u) (EP X pins σ Q) X.xe s
def MtR (X:Cx) (id:String) (r:V->List V->Hp->VK->Prop):Prop :=
 ∀(pins:List (Addr × Obj)) (s:Shared) (σ:St) (H:Hp) (x:V) (xs:List V) (v:Value) (us:List Value) (Q:VK),Inv X pins σ H s->RelV x v->Vals xs us->r x xs H Q ->
  wpAny (model X.prog X.w) X.A (call (.builtin id) (v::us)) (EP X pins σ Q) X.xe s
section
variable {X:Cx}{a b:Expr}{ta tb:TE}{pos:Pos}
theorem pe_ix (hr:IxR X r) (ha:PE X a ta) (hb:PE X b tb) (hs:PlainIx b):PE X (.Subscript a b pos) (tOp r ta tb):=by
 intro pins s σ H Q I h
 exact Subscript_ (binT ha hb I h fun v u s2 x y H2 I2 rx ry q=>hr a b pins s2 σ H2 x y v u Q I2 rx ry q (hs _ _))
def rIxL (K:W.Frag):R2:=fun x y H Q=>∃p xs i v,x=.ref p/\y=.int i/\SqL K H p xs/\atI xs i=some v/\Q v H
def rIxT (K:W.Frag):R2:=fun x y H Q=>∃p xs i v,x=.ref p/\y=.int i/\SqT K H p xs/\atI xs i=some v/\Q v H
def rIxS:R2:=fun x y H Q=>∃z i c,x=.str z/\y=.int i/\z.length<=sizeLine/\atI z.cps.toList i=some c/\Q (.str ⟨#[c]⟩) H
theorem ix_list:IxR X (rIxL X.K) := by
 intro value slice pins s σ H x y v u Q I rx ry h hs
 obtain⟨p,xs,i,z,rfl,rfl,hq,he,q⟩:=h
 cases rx
 obtain⟨t,rfl⟩:=ry
 obtain⟨its,r,pl,hz⟩:=I.list hq
 obtain⟨j,h1,h2,h3,h4,h5⟩:=atI_get he
 obtain⟨w,ew,rw'⟩:=r.get h2
 have hl:=r.length
 have hn:=line63
 have fin:EP X pins σ Q w s:=⟨z,H,I,rw',q⟩
 by_cases h0:0<=i
 ·have hj:i.toNat=j:=by
     rw[seqIndex_of h0 h5] at h1
     exact Option.some.inj h1
  exact item_listR pl.isList h0 (by omega) (by rw[hj];simpa using ew) fin hs
 ·have hj:(i+(its.toArray.size:Int)).toNat=j:=by
     rw[seqIndex_neg (by omega) h4] at h1
     rw[List.size_toArray,<- hl]
     exact Option.some.inj h1
  exact subscriptTail_builtinR (x:=w) pl.isList.typeIs slot_list_getitem.lookup
   (wpAny_getItem_list_neg (Q:=fun r s'=>r=w/\EP X pins σ Q r s') pl.isList (by omega) (by rw[List.size_toArray] <;> omega) (by omega) (by rw[hj];simpa using ew) ⟨rfl,fin⟩) hs
theorem ix_tup:IxR X (rIxT X.K):=by
 intro value slice pins s σ H x y v u Q I rx ry h hs
 obtain⟨p,xs,i,z,rfl,rfl,hq,he,q⟩:=h
 cases rx
 obtain⟨t,rfl⟩:=ry
 obtain⟨its,r,pl,hz⟩:=I.tuple hq
 obtain⟨j,h1,h2,h3,h4,h5⟩:=atI_get he
 obtain⟨w,ew,rw'⟩:=r.get h2
 have hl:=r.length
 have hn:=line63
 have fin:EP X pins σ Q w s:=⟨z,H,I,rw',q⟩
 exact subscriptTail_builtinR (x:=w) pl.typeIs slot_tuple_getitem.lookup
  (getItem_tuple (j:=j) (Q:=fun r s'=>r=w/\EP X pins σ Q r s') pl (by omega) (by omega) (by rw[List.size_toArray,<- hl];exact h1) (by simpa using ew) ⟨rfl,fin⟩) hs
theorem ix_str:IxR X rIxS:=by
 intro value slice pins s σ H x y v u Q I rx ry h hs
 obtain⟨z,i,c,rfl,rfl,hz,he,q⟩:=h
 obtain⟨t,rfl⟩:=rx
 obtain⟨t',rfl⟩:=ry
 obtain⟨j,h1,h2,h3,h4,h5⟩:=atI_get he
 have hl:z.cps.toList.length=z.length:=by simp[Str.length]
 rw[hl] at h1 h4 h5
 have hn:=line63
 exact tail_any (typeIs_str s z t) slot_str_getitem.lookup (getItem_str (c:=c) (by
  have e1:decide (i < -(2 ^ 63:Int))=false:=decide_eq_false (by omega)
  have e2:decide (i ≥ 2 ^ 63)=false:=decide_eq_false (by omega)
  rw[e1,e2,Bool.or_false]) (by rw[h1];simpa using h2) ⟨.str ⟨#[c]⟩,H,I.tok _,⟨_,rfl⟩,q⟩) hs
theorem mapSeq_set (its:List Value) (n j:Nat) (u:Value):Obj.mapSeq (·.setIfInBounds j u) { cls:=.type "list",data:=.seq its.toArray n }={ cls:=.type "list",data:=.seq (its.set j u).toArray n }:=by
 simp[Obj.mapSeq]
theorem Inv.lst (I:Inv X pins σ H s) (h:H p=some (.lst xs)) :
    ∃(its:List Value) (n:Nat),Vals xs its/\s.heap.get? p=some { cls:=.type "list",data:=.seq its.toArray n }/\xs.length<=sizeLine:=by
 obtain⟨z,its,n,r,e⟩:=I.hok p _ h
 exact⟨its,n,r,e,z⟩
theorem Inv.lstUpd {xs ys:List V}{its its':List Value}{n n':Nat}{f:Obj->Obj}(I:Inv X pins σ H s) (h:H p=some (.lst xs))
    (ho:s.heap.get? p=some { cls:=.type "list",data:=.seq its.toArray n }) (hf:f { cls:=.type "list",data:=.seq its.toArray n }={ cls:=.type "list",data:=.seq its'.toArray n' }) (r:Vals ys its') (hz:ys.length<=sizeLine) (t:Nat) :
    Inv X pins σ (upd H p (.lst ys)) { s with heap:=s.heap.update p f,toks:=t }:=by
 have e:(s.heap.update p f).get? p=some { cls:=.type "list",data:=.seq its'.toArray n' }:=by
  rw[Heap.get?_update_self f ho (by rw[hf] <;> rfl),hf]
 refine I.write (x:=p) (e:=p) (by rw[h];trivial) (.inl rfl) (fun b u hb q=>(Heap.get?_update_other _ _ (Ne.symm hb)).trans q) ⟨_,e⟩ ?_
 exact⟨hz,its',n',r,e⟩
def rSetL:V->V->V->Hp->(Hp->Prop)->Prop:=fun o i v H Q=>∃p xs k j,o=.ref p/\i=.int k/\H p=some (.lst xs)/\ixN xs.length k=some j/\Q (upd H p (.lst (xs.set j v)))
theorem set_list:PSet X rSetL := by
 intro pins s σ H o i v ov iv u Q I ro ri rv h
 obtain⟨p,xs,k,j,rfl,rfl,hp,hj,q⟩:=h
 cases ro
 obtain⟨t,rfl⟩:=ri
 obtain⟨its,n,r,ho,hz⟩:=I.lst hp
 obtain⟨h1,h2,h3,h4⟩:=ixN_seq hj
 have hl:=r.length
 have hn:=line63
 have I':Inv X pins σ (upd H p (.lst (xs.set j v))) { s with heap:=s.heap.update p (Obj.mapSeq (·.setIfInBounds j u)) } :=
  I.lstUpd hp ho (mapSeq_set its n j u) (r.set rv j) (by rw[List.length_set];exact hz) s.toks
 by_cases h0:0<=k
 ·have hk:k.toNat=j:=by
     rw[seqIndex_of h0 h4] at h1
     exact Option.some.inj h1
  exact W.ki_setAt ho h0 (by omega) (by rw[List.size_toArray,<- hl];exact h4) (by rw[hk];exact⟨_,I',q⟩)
 ·have hk:(k+(its.toArray.size:Int)).toNat=j:=by
     rw[seqIndex_neg (by omega) h3] at h1
     rw[List.size_toArray,<- hl]
     exact Option.some.inj h1
  exact W.ki_setBack ho (by omega) (by rw[List.size_toArray,<- hl];exact h3) (by omega) (by rw[hk];exact⟨_,I',q⟩)
theorem slice_bounds (lo hi:Option Int) (n:Nat):(sliceBounds lo hi none n).1=((HT.sIx n 0 lo:Nat):Int) /\ (sliceBounds lo hi none n).2.1=((HT.sIx n n hi:Nat):Int) /\ (sliceBounds lo hi none n).2.2=1 := by
 refine⟨?_,?_,rfl⟩
 ·cases lo with
  | none=>simp[sliceBounds,HT.sIx]
  | some i =>
   simp only[sliceBounds,HT.sIx,Option.getD_none,show (1:Int) > 0 by decide,if_true]
   by_cases h:i<0
   ·simp only[h,if_true] <;> omega
   ·simp only[h,if_false] <;> omega
 ·cases hi with
  | none=>simp[sliceBounds,HT.sIx]
  | some i =>
   simp only[sliceBounds,HT.sIx,Option.getD_none,show (1:Int) > 0 by decide,if_true]
   by_cases h:i<0
   ·simp only[h,if_true] <;> omega
   ·simp only[h,if_false] <;> omega
theorem slicePick_cut (its:List Value) (lo hi:Option Int):slicePick its.toArray lo hi none=((its.drop (HT.sIx its.length 0 lo)).take (HT.sIx its.length its.length hi-HT.sIx its.length 0 lo)).toArray:=by
 obtain⟨h1,h2,h3⟩:=slice_bounds lo hi its.toArray.size
 unfold slicePick
 rw[h1,h2,h3]
 simp only[sliceRange_one,pick_run,List.size_toArray] <;> rfl
def rSlL (K:W.Frag):V->Option Int->Option Int->Hp->VK->Prop:=fun x lo hi H Q=>∃a xs,x=.ref a/\SqL K H a xs/\∀p,H p=none->Q (.ref p) (upd H p (.lst (cutV xs lo hi)))
theorem sl_list:SlR X (rSlL X.K):=by
 intro pins s σ H x v vl vu lo hi sl Q I rx hs pl pu h
 obtain⟨a,xs,rfl,hx,q⟩:=h
 cases rx
 obtain⟨its,r,ht,hz⟩:=I.list hx
 have hlen:=r.length
 refine⟨"list",_,slot_list_getitem.lookup,ht.isList.typeIs,?_⟩
 refine wpAny_getItem_list_slice ht.isList hs pl pu .none (by simp) ?_ (by rw[List.size_toArray] <;> omega)
 rw[slicePick_cut,<- hlen]
 refine⟨.ref s.heap.objs.size,_,I.laid (t':=s.toks) (o:=.lst (cutV xs lo hi)) (fun b ob q=>Heap.get?_push_of_some _ q) (Nat.le_refl _) ?_,rfl,q _ (I.hok.fresh (Nat.le_refl _))⟩
 exact⟨Nat.le_trans (cutV_length xs lo hi) hz,_,0,(r.drop (HT.sIx xs.length 0 lo)).take (HT.sIx xs.length xs.length hi-HT.sIx xs.length 0 lo),Heap.get?_push_size _ rfl⟩
def flatV:V->Bool
 | .non=>true
 | .bl _=>true
 | .int _=>true
 | .str _=>true
 | _=>false
def eqV:V->V->Bool
 | .non,.non=>true
 | .bl a,.bl b=>a==b
 | .bl a,.int b=>(if a then 1 else 0)==b
 | .int a,.bl b=>a==(if b then 1 else 0)
 | .int a,.int b=>a==b
 | .str a,.str b=>a==b
 | _,_=>false
theorem eqAt_V (ry:RelV y u) (rx:RelV x v) (fy:flatV y=true) (fx:flatV x=true):SeqAt.EqAt A s u v (eqV y x):=by
 cases y with
 | non =>
  cases ry
  cases x with
  | non=>cases rx;exact SeqAt.EqAt.same _
  | bl b=>cases rx;exact SeqAt.EqAt.none_bool b
  | int b=>obtain⟨t,rfl⟩:=rx;exact SeqAt.EqAt.none_int b t
  | str b=>obtain⟨t,rfl⟩:=rx;exact SeqAt.EqAt.none_str b t
  | _=>exact absurd (show false=true from fx) Bool.false_ne_true
 | bl a =>
  cases ry
  cases x with
  | non=>cases rx;exact SeqAt.EqAt.bool_none a
  | bl b=>cases rx;exact SeqAt.EqAt.bool_bool a b
  | int b=>obtain⟨t,rfl⟩:=rx;exact SeqAt.EqAt.bool_int a b t
  | str b=>obtain⟨t,rfl⟩:=rx;exact SeqAt.EqAt.bool_str a b t
  | _=>exact absurd (show false=true from fx) Bool.false_ne_true
 | int a =>
  obtain⟨t',rfl⟩:=ry
  cases x with
  | non=>cases rx;exact SeqAt.EqAt.int_none a t'
  | bl b=>cases rx;exact SeqAt.EqAt.int_bool a t' b
  | int b=>obtain⟨t,rfl⟩:=rx;exact SeqAt.EqAt.int_int a t' b t
  | str b=>obtain⟨t,rfl⟩:=rx;exact SeqAt.EqAt.int_str a t' b t
  | _=>exact absurd (show false=true from fx) Bool.false_ne_true
 | str a =>
  obtain⟨t',rfl⟩:=ry
  cases x with
  | non=>cases rx;exact SeqAt.EqAt.str_none a t'
  | bl b=>cases rx;exact SeqAt.EqAt.str_bool a t' b
  | int b=>obtain⟨t,rfl⟩:=rx;exact SeqAt.EqAt.str_int a t' b t
  | str b=>obtain⟨t,rfl⟩:=rx;exact SeqAt.EqAt.str_str a t' b t
  | _=>exact absurd (show false=true from fx) Bool.false_ne_true
 | _=>exact absurd (show false=true from fy) Bool.false_ne_true
def eqU (x:V) (u:Value):Bool:=match u with
 | .none=>eqV .non x
 | .bool b=>eqV (.bl b) x
 | .int i _=>eqV (.int i) x
 | .str z _=>eqV (.str z) x
 | _=>false
theorem eqU_of (r:RelV y u) (f:flatV y=true):eqU x u=eqV y x:=by
 cases y with
 | non=>cases r;rfl
 | bl b=>cases r;rfl
 | int i=>obtain⟨t,rfl⟩:=r;rfl
 | str z=>obtain⟨t,rfl⟩:=r;rfl
 | _=>exact absurd (show false=true from f) Bool.false_ne_true
theorem any_eqU:∀ {xs:List V}{us:List Value},Vals xs us->xs.all flatV=true->us.any (eqU x)=xs.any fun y=>eqV y x
 | _,_,.nil,_=>rfl
 | y::xs,u::us,.cons r t,f=>by
  rw[List.all_cons,Bool.and_eq_true] at f
  rw[List.any_cons,List.any_cons,eqU_of r f.1,any_eqU t f.2]
theorem mem_eqAt (rx:RelV x v) (fx:flatV x=true):∀ {xs:List V}{us:List Value},Vals xs us->xs.all flatV=true->∀u∈us,SeqAt.EqAt A s u v (eqU x u)
 | _,_,.nil,_=>fun u hu=>by cases hu
 | y::xs,u::us,.cons r t,f=>fun u' hu=>by
  rw[List.all_cons,Bool.and_eq_true] at f
  rcases List.mem_cons.mp hu with rfl | hu
  ·rw[eqU_of r f.1];exact eqAt_V r rx f.1 fx
  ·exact mem_eqAt rx fx t f.2 u' hu
def inV (x:V) (xs:List V):Bool:=xs.any fun y=>eqV y x
def rIn (K:W.Frag) (neg:Bool):R2:=fun x y H Q=>∃p xs,y=.ref p/\(SqL K H p xs∨SqT K H p xs)/\flatV x=true/\xs.all flatV=true/\Q (.bl (if neg then !inV x xs else inV x xs)) H
theorem op_in_seq:OpR X (compareOp .In) (rIn X.K false):=by
 intro pins s σ H x y v u Q I rx ry h
 obtain⟨p,xs,rfl,hq,fx,fs,q⟩:=h
 cases ry
 rcases hq with hq | hq
 ·obtain⟨its,r,pl,hz⟩:=I.list hq
  refine SeqAt.in_listAt (eqU x) pl.isList (fun w hw=>mem_eqAt rx fx r fs w (by simpa using hw)) ⟨.bl _,H,I,rfl,?_⟩
  rw[show its.toArray.any (eqU x)=its.any (eqU x) by simp,any_eqU r fs]
  exact q
 ·obtain⟨its,r,pl,hz⟩:=I.tuple hq
  refine SeqAt.in_tupleAt (eqU x) pl (fun w hw=>mem_eqAt rx fx r fs w (by simpa using hw)) ⟨.bl _,H,I,rfl,?_⟩
  rw[show its.toArray.any (eqU x)=its.any (eqU x) by simp,any_eqU r fs]
  exact q
theorem op_notIn_seq:OpR X (compareOp .NotIn) (rIn X.K true):=by
 intro pins s σ H x y v u Q I rx ry h
 obtain⟨p,xs,rfl,hq,fx,fs,q⟩:=h
 cases ry
 rcases hq with hq | hq
 ·obtain⟨its,r,pl,hz⟩:=I.list hq
  refine SeqAt.notIn_listAt (eqU x) pl.isList (fun w hw=>mem_eqAt rx fx r fs w (by simpa using hw)) ⟨.bl _,H,I,rfl,?_⟩
  rw[show its.toArray.any (eqU x)=its.any (eqU x) by simp,any_eqU r fs]
  exact q
 ·obtain⟨its,r,pl,hz⟩:=I.tuple hq
  refine SeqAt.notIn_tupleAt (eqU x) pl (fun w hw=>mem_eqAt rx fx r fs w (by simpa using hw)) ⟨.bl _,H,I,rfl,?_⟩
  rw[show its.toArray.any (eqU x)=its.any (eqU x) by simp,any_eqU r fs]
  exact q
theorem call_list_of:CallR X (.type "list") (fun xs H Q => ∃p ys, xs=[.ref p] /\ (SqL X.K H p ys ∨ SqT X.K H p ys) /\ ∀l, H l=none -> Q (.ref l) (upd H l (.lst ys))) := by
 intro pins s σ H xs us Q I r h
 obtain⟨p,ys,rfl,hq,q⟩:=h
 obtain⟨u,rfl,rx⟩:=vals1 r
 cases rx
 have fin:∀(its:List Value),Vals ys its->ys.length<=sizeLine->∀(h':Heap) (c':Nat),(∀b o',s.heap.get? b=some o'->h'.get? b=some o') ->
     h'.get? s.heap.objs.size=some { cls:=.type "list",dict:=none,data:=.seq its.toArray c',slots:=#[] }->EP X pins σ Q (.ref s.heap.objs.size) { s with heap:=h' }:=fun its r' hz h' c' kp e =>
  ⟨.ref s.heap.objs.size,_,I.laid (t':=s.toks) kp (Nat.le_refl _) (show ObjOk X.prog X.w _ h' _ (.lst ys) from⟨hz,its,c',r',e⟩),rfl,q _ (I.hok.fresh (Nat.le_refl _))⟩
 rcases hq with hq | hq
 ·obtain⟨its,r',pl,hz⟩:=I.list hq
  have hlen:=r'.length
  obtain⟨o,ho,hc,n,hd⟩:=pl.isList
  exact call_list_seq p (.inl rfl) ho hc hd (fun h' c' kp e=>fin its r' hz h' c' kp e) (by simp only[List.size_toArray] <;> omega)
 ·obtain⟨its,r',pl,hz⟩:=I.tuple hq
  have hlen:=r'.length
  obtain⟨o,ho,hc,n,hd⟩:=pl
  exact call_list_seq p (.inr rfl) ho hc hd (fun h' c' kp e=>fin its r' hz h' c' kp e) (by simp only[List.size_toArray] <;> omega)
theorem call_tuple_of:CallR X (.type "tuple") (fun xs H Q => ∃p ys, xs=[.ref p] /\ ((SqL X.K H p ys /\ ∀l, H l=none -> Q (.ref l) (upd H l (.tup ys))) ∨ (SqT X.K H p ys /\ Q (.ref p) H))) := by
 intro pins s σ H xs us Q I r h
 obtain⟨p,ys,rfl,h⟩:=h
 obtain⟨u,rfl,rx⟩:=vals1 r
 cases rx
 rcases h with⟨hq,q⟩ | ⟨hq,q⟩
 ·obtain⟨its,r',pl,hz⟩:=I.list hq
  have hlen:=r'.length
  refine call_tuple_list pl.isList (fun h' kp=>?_) (by simp only[List.size_toArray] <;> omega)
  have I1:Inv X pins σ H { s with heap:=h' }:=I.kept (t':=s.toks) kp
  have I2:Inv X pins σ (upd H h'.objs.size (.tup ys)) { s with heap:=h'.push { cls:=.type "tuple",data:=.seq its.toArray } } :=
   I1.laid (t':=s.toks) (fun b o e=>Heap.get?_push_of_some _ e) (Nat.le_refl _) (show ObjOk X.prog X.w _ _ _ (.tup ys) from⟨hz,its,r',TupN.new _ _⟩)
  exact⟨.ref h'.objs.size,_,I2,rfl,q _ (I1.hok.fresh (Nat.le_refl _))⟩
 ·obtain⟨its,r',pl,hz⟩:=I.tuple hq
  exact call_tuple_same pl ⟨.ref p,H,I,rfl,q⟩
def tyV (K:W.Frag) (T:String) (x:V) (H:Hp):Prop := match x with
 | .str _=>T="str"
 | .int _=>T="int"
 | .ref p=>(T="list"/\∃xs,SqL K H p xs)∨(T="tuple"/\∃o,K.lookup p=some o/\o.cls=.type "tuple"/\o.dict=none) ∨
     (T="dict"/\((∃kvs,H p=some (.dK kvs))∨∃kvs,H p=some (.dT kvs)))∨(T="set"/\∃S n,H p=some (.set S n))
 | _=>False
theorem tyV_is (I:Inv X pins σ H s) (r:RelV x v) (ty:tyV X.K T x H) :
    s.TypeIs v T/\∀a,v=.ref a->∃ob,s.heap.get? a=some ob/\ob.dict=none:=by
 cases x with
 | str z =>
  obtain⟨t,rfl⟩:=r
  cases (show T="str" from ty)
  exact⟨typeIs_str s z t,fun _ e=>nomatch e⟩
 | int i =>
  obtain⟨t,rfl⟩:=r
  cases (show T="int" from ty)
  exact⟨typeIs_int s i t,fun _ e=>nomatch e⟩
 | ref p =>
  cases r
  rcases ty with⟨rfl,xs,hq⟩ | ⟨rfl,o,hk,hc,hd⟩ | ⟨rfl,hk⟩ | ⟨rfl,S,n,hk⟩
  ·obtain⟨its,_,pl,_⟩:=I.list hq
   refine⟨pl.isList.typeIs,fun a e=>?_⟩
   cases e
   obtain⟨o,n,e,c,hd,_⟩:=pl
   exact⟨o,e,hd⟩
  ·refine⟨⟨o,I.kIn p o hk,hc⟩,fun a e=>?_⟩
   cases e
   exact⟨o,I.kIn _ o hk,hd⟩
  ·have z:∃o, s.heap.get? p=some o /\ o.ExactDict := by
      rcases hk with⟨kvs,hk⟩ | ⟨kvs,hk⟩
      ·obtain⟨_,_,_,_,o,_,_,e,ex,_⟩:=I.hok p _ hk
       exact⟨o,e,ex⟩
      ·obtain⟨_,_,_,_,o,_,_,e,ex,_⟩:=I.hok p _ hk
       exact⟨o,e,ex⟩
   obtain⟨o,e,ex⟩:=z
   refine⟨⟨o,e,ex.1⟩,fun a e2=>?_⟩
   cases e2
   exact⟨o,e,ex.2.1⟩
  ·obtain⟨o,_,_,_,e,ex,_⟩:=I.hok p _ hk
   refine⟨⟨o,e,ex.1⟩,fun a e2=>?_⟩
   cases e2
   exact⟨o,e,ex.2.1⟩
 | _=>exact False.elim ty
def tBM0 (K:W.Frag) (T:String) (r:V->List V->Hp->VK->Prop) (to:TE):TE:=fun σ H Q=>to σ H fun x H1=>tyV K T x H1/\r x [] H1 Q
def tBM (K:W.Frag) (T:String) (r:V->List V->Hp->VK->Prop) (to:TE) (t:TA):TE:=fun σ H Q=>to σ H fun x H1=>tyV K T x H1/\t σ H1 fun xs H2=>r x xs H2 Q
variable {o e:Expr}{es:List Expr}{to:TE}{t:TA}{name:Str}{apos cpos:Pos}{T id:String}{r:V->List V->Hp->VK->Prop}
theorem pe_bm0 (pa:PlainAttrs T) (slot:Slot T name id) (hty:typeOf (.builtin id)=pure (.type "method_descriptor")) (hm:MtR X id r) (ho:PE X o to)
    (hbase:attributeBase o name X.env (eval o X.env)=eval o X.env:=by rfl) (hline:(apos.endLine==cpos.line)=true:=by rfl):PE X (.Call (.Attribute o name apos) [] [] cpos) (tBM0 X.K T r to):=by
 intro pins s σ H Q I h
 refine wpAny_Call_method0_late hbase hline (thn (ho pins s σ H _ I h) fun v s1 ⟨x,H1,I1,r1,ty,q1⟩=>?_)
 obtain⟨h1,h2⟩:=tyV_is I1 r1 ty
 exact⟨T,id,pa,slot,hty,h1,h2,Calls.callWith_builtin rfl (PySem.evalArgs_none (hm pins s1 σ H1 x [] v [] Q I1 r1 .nil q1))⟩
theorem pe_bm (pa:PlainAttrs T) (slot:Slot T name id) (hty:typeOf (.builtin id)=pure (.type "method_descriptor")) (hm:MtR X id r) (ho:PE X o to) (ha:PA X (e :: es) t)
    (hbase:attributeBase o name X.env (eval o X.env)=eval o X.env:=by rfl)
    (hfew:((backTo cpos (starEach (e::es) X.env)).all (fun x=>!x.1)&&(backToKw cpos (keywordEach [] X.env)).all (fun x=>x.1.isSome)
     && decide ((e::es).length+([]:List Keyword).length+(if ([]:List Keyword).isEmpty then 0 else 1)<30))=true:=by rfl)
    (hline:(apos.endLine==cpos.line)=true:=by rfl) (hs:starEach (e::es) X.env=(false,eval e X.env)::starEach es X.env:=by rfl) (hplain:(backTo cpos (starEach es X.env)).any (·.1)=false:=by rfl) :
    PE X (.Call (.Attribute o name apos) (e::es) [] cpos) (tBM X.K T r to t):=by
 intro pins s σ H Q I h
 refine wpAny_Call_method_late hbase hfew hline rfl (thn (ho pins s σ H _ I h) fun v s1 ⟨x,H1,I1,r1,ty,q1⟩=>?_)
 obtain⟨h1,h2⟩:=tyV_is I1 r1 ty
 refine⟨T,id,pa,slot,hty,h1,h2,?_⟩
 have hA:=ha cpos pins s1 σ H1 _ I1 q1
 rw[hs] at hA ⊢
 refine Calls.callWith_builtin (by show (false||(backTo cpos (starEach es X.env)).any (·.1))=false;rw[hplain] <;> rfl) (Calls.evalArgs_plain ?_)
 exact thn hA fun us s2 ⟨vs,H2,I2,r2,q2⟩=>hm pins s2 σ H2 x vs v us Q I2 r1 r2 q2
end
end L2
namespace L2
open PySem PySem.Spec PyProof.Rows
def MtM (X:Cx) (id:String) (r:V->List V->Hp->VK->Prop):Prop :=
 ∀(pins:List (Addr × Obj)) (s:Shared) (σ:St) (H:Hp) (x:V) (xs:List V) (v:Value) (us:List Value) (Q:VK),Inv X pins σ H s->RelV x v->Vals xs us->r x xs H Q ->
  wpAny (model X.prog X.w) X.A (call (.builtin id) (v::us)) (EP X pins σ Q) X.xe s
theorem Vals.one:∀ {x:V}{us:List Value},Vals [x] us->∃u,us=[u]/\RelV x u
 | _,_,.cons r .nil=>⟨_,rfl,r⟩
theorem Vals.zero:∀ {us:List Value},Vals [] us->us=[]
 | _,.nil=>rfl
theorem Vals.reverse (h:Vals xs us):Vals xs.reverse us.reverse:=by
 induction h with
 | nil=>exact .nil
 | cons r t ih=>rw[List.reverse_cons,List.reverse_cons];exact Vals.append ih (.cons r .nil)
section
variable {X:Cx}{pins:List (Addr × Obj)}{σ:St}{H:Hp}{s:Shared}{l b:Addr}{xs ys zs:List V}
theorem Inv.lset {its its':List Value}{n:Nat}{f:Array Value->Array Value}{t':Nat}(I:Inv X pins σ H s) (hH:H l=some (.lst xs))
    (e:s.heap.get? l=some { cls:=.type "list",data:=.seq its.toArray n }) (hf:f its.toArray=its'.toArray) (hv:Vals ys its') (hz:ys.length<=sizeLine) :
    Inv X pins σ (upd H l (.lst ys)) { s with heap:=s.heap.update l (Obj.mapSeq f),toks:=t' }:=by
 have q:=PySem.IsL.update e f
 rw[hf] at q
 refine I.write (x:=l) (e:=l) (by rw[hH];exact trivial) (.inl rfl) (fun b' u hb hu=>(Heap.get?_update_other s.heap (Obj.mapSeq f) (Ne.symm hb)).trans hu) ⟨_,q⟩ ?_
 exact⟨hz,its',_,hv,q⟩
theorem Inv.lnew (I:Inv X pins σ H s) (hv:Vals ys its) (hz:ys.length<=sizeLine) :
    Inv X pins σ (upd H s.heap.objs.size (.lst ys)) { s with heap:=s.heap.push { cls:=.type "list",data:=.seq its.toArray },toks:=t' } :=
 I.laid (fun _ _ q=>Heap.get?_push_of_some _ q) (Nat.le_refl _) ⟨hz,its,0,hv,Heap.get?_push_size _ rfl⟩
theorem Inv.fresh (I:Inv X pins σ H s):H s.heap.objs.size=none:=I.hok.fresh (Nat.le_refl _)
theorem Inv.lstM (I:Inv X pins σ H s) (hH:H l=some (.lst xs)):xs.length<=sizeLine/\∃(its:List Value) (n:Nat),Vals xs its/\xs.length=its.length/\s.heap.get? l=some { cls:=.type "list",data:=.seq its.toArray n }:=by
 obtain⟨z,its,n,r,e⟩:=I.hok l _ hH
 exact⟨z,its,n,r,r.length,e⟩
theorem notLongL (h:n<=sizeLine):Builtin.List.listTooLong n=false:=by
 unfold Builtin.List.listTooLong
 exact decide_eq_false (by omega)
end
section
variable {X:Cx}
def rAppend:V->List V->Hp->VK->Prop:=fun x vs H Q=>∃l xs y,x=.ref l/\vs=[y]/\H l=some (.lst xs)/\xs.length<sizeLine/\Q .non (upd H l (.lst (xs++[y])))
theorem mt_append:MtM X "list.append" rAppend:=by
 intro pins s σ H x vs v us Q I rx rv h
 obtain⟨l,xs,y,rfl,rfl,hH,hz,q⟩:=h
 cases rx
 obtain⟨u,rfl,ru⟩:=rv.one
 obtain⟨z,its,n,r,hl,e⟩:=I.lstM hH
 refine call_meets F.slot_list_append ⟨_,e,rfl⟩ F.entry_list_append (F.args_list_append_2 _ _) (PySem.list_append l its.toArray n u (by rw[List.size_toArray];omega)) ⟨e,?_⟩
 refine⟨.non,_,I.lset (its':=its++[u]) hH e (by simp) (r.append (.cons ru .nil)) ?_,rfl,q⟩
 rw[List.length_append,List.length_singleton]
 omega
def rExtend:V->List V->Hp->VK->Prop:=fun x vs H Q=>∃l b xs zs,x=.ref l/\vs=[.ref b]/\H l=some (.lst xs)/\H b=some (.lst zs)/\xs.length+zs.length<=sizeLine/\Q .non (upd H l (.lst (xs++zs)))
theorem mt_extend:MtM X "list.extend" rExtend:=by
 intro pins s σ H x vs v us Q I rx rv h
 obtain⟨l,b,xs,zs,rfl,rfl,hH,hB,hz,q⟩:=h
 cases rx
 obtain⟨u,rfl,ru⟩:=rv.one
 cases ru
 obtain⟨z,its,n,r,hl,e⟩:=I.lstM hH
 obtain⟨z2,its2,n2,r2,hl2,e2⟩:=I.lstM hB
 have hsz:its.toArray.size+its2.toArray.size<=sizeLine:=by rw[List.size_toArray,List.size_toArray];omega
 have hlong:¬ (!its.toArray.isEmpty&&Builtin.List.listTooLong (its.toArray.size+its2.toArray.size))=true:=by
  rw[notLongL hsz,Bool.and_false]
  exact Bool.false_ne_true
 refine call_meets F.slot_list_extend ⟨_,e,rfl⟩ F.entry_list_extend (F.args_list_extend_2 _ _)
  (AutoSeq1.list_extend_list_list_0 l its.toArray n b its2.toArray n2 hlong (by rw[List.size_toArray];omega) (by omega)) ⟨e,e2,?_⟩
 refine⟨.non,_,I.lset (its':=its++its2) hH e (by simp) (r.append r2) ?_,rfl,q⟩
 rw[List.length_append]
 omega
def rReverse:V->List V->Hp->VK->Prop:=fun x vs H Q=>∃l xs,x=.ref l/\vs=[]/\H l=some (.lst xs)/\Q .non (upd H l (.lst xs.reverse))
theorem mt_reverse:MtM X "list.reverse" rReverse:=by
 intro pins s σ H x vs v us Q I rx rv h
 obtain⟨l,xs,rfl,rfl,hH,q⟩:=h
 cases rx
 have hus:=rv.zero
 subst hus
 obtain⟨z,its,n,r,hl,e⟩:=I.lstM hH
 refine call_meets F.slot_list_reverse ⟨_,e,rfl⟩ F.entry_list_reverse (F.args_list_reverse_1 _) (AutoSeq1.list_reverse_list_0 l its.toArray n (by rw[List.size_toArray];omega)) ⟨e,?_⟩
 refine⟨.non,_,I.lset (its':=its.reverse) hH e (by simp) r.reverse ?_,rfl,q⟩
 rw[List.length_reverse]
 omega
def rCat:R2:=fun x y H Q=>∃l b xs zs,x=.ref l/\y=.ref b/\H l=some (.lst xs)/\H b=some (.lst zs)/\xs.length+zs.length<=sizeLine/\∀p,H p=none->Q (.ref p) (upd H p (.lst (xs++zs)))
theorem op_cat:OpR X (binaryOp .Add) rCat:=by
 intro pins s σ H x y v u Q I rx ry h
 obtain⟨l,b,xs,zs,rfl,rfl,hH,hB,hz,q⟩:=h
 cases rx
 cases ry
 obtain⟨z,its,n,r,hl,e⟩:=I.lstM hH
 obtain⟨z2,its2,n2,r2,hl2,e2⟩:=I.lstM hB
 refine PySem.P.add_list e e2 ?_ (by rw[List.size_toArray,List.size_toArray];omega)
 have ea:its.toArray++its2.toArray=(its++its2).toArray:=by simp
 rw[ea]
 exact⟨.ref _,_,I.lnew (t':=s.toks) (r.append r2) (by rw[List.length_append];omega),rfl,q _ I.fresh⟩
end
end L2
namespace L2
open PySem PySem.Spec PyProof.Rows
section
variable {κ:Type} [DecidableEq κ]
def valV (kvs:List (κ × V)) (k:κ):Option V:=(kvs.find? fun kv=>decide (kv.1=k)).map (·.2)
def putK (kvs:List (κ × V)) (k:κ) (v:V):List (κ × V) :=
 if (kvs.any fun kv=>decide (kv.1=k))=true then kvs.map (fun kv=>if kv.1=k then (kv.1,v) else kv) else kvs++[(k,v)]
theorem valV_nil:valV ([]:List (κ × V)) k=none:=rfl
theorem valV_pos {p:κ × V}{r:List (κ × V)}{k:κ}(e:p.1=k):valV (p::r) k=some p.2:=by simp[valV,List.find?_cons,e]
theorem valV_neg {p:κ × V}{r:List (κ × V)}{k:κ}(e:¬ p.1=k):valV (p::r) k=valV r k:=by simp[valV,List.find?_cons,e]
theorem valV_any (k:κ):∀kvs:List (κ × V),(kvs.any fun kv=>decide (kv.1=k))=(valV kvs k).isSome
 | []=>rfl
 | p::r=>by
  rw[List.any_cons]
  by_cases e:p.1=k
  ·simp only[valV_pos e,decide_eq_true e,Bool.true_or,Option.isSome_some]
  ·rw[valV_neg e,decide_eq_false e,Bool.false_or];exact valV_any k r
theorem valV_map (k j:κ) (y:V):∀kvs:List (κ × V), valV (kvs.map fun kv => if kv.1=k then (kv.1, y) else kv) j=(valV kvs j).map fun x => if j=k then y else x
 | []=>rfl
 | p::r=>by
  have ih:=valV_map k j y r
  rw[List.map_cons]
  by_cases h:p.1=k
  ·rw[if_pos h]
   by_cases e:p.1=j
   ·rw[valV_pos (p:=(p.1,y)) e,valV_pos e,Option.map_some,if_pos (e.symm.trans h)]
   ·rw[valV_neg (p:=(p.1,y)) e,valV_neg e,ih]
  ·rw[if_neg h]
   by_cases e:p.1=j
   ·rw[valV_pos (p:=p) e,valV_pos e,Option.map_some,if_neg (fun z=>h (e.trans z))]
   ·rw[valV_neg (p:=p) e,valV_neg e,ih]
theorem valV_snoc (k j:κ) (y:V):∀kvs:List (κ × V),valV kvs k=none->valV (kvs++[(k,y)]) j=if j=k then some y else valV kvs j
 | [],_=>by
  by_cases e:k=j
  ·rw[if_pos e.symm];exact valV_pos (p:=(k,y)) e
  ·rw[if_neg (fun z=>e z.symm)];exact valV_neg (p:=(k,y)) e
 | p::r,hn=>by
  rw[List.cons_append]
  have hk:¬ p.1=k:=fun z=>by rw[valV_pos z] at hn;cases hn
  rw[valV_neg hk] at hn
  have ih:=valV_snoc k j y r hn
  by_cases e:p.1=j
  ·rw[valV_pos e,valV_pos e,if_neg (fun z=>hk (e.trans z))]
  ·rw[valV_neg e,valV_neg e,ih]
theorem valV_put (kvs:List (κ × V)) (k j:κ) (y:V):valV (putK kvs k y) j=if j=k then some y else valV kvs j := by
 unfold putK
 by_cases a:(kvs.any fun kv=>decide (kv.1=k))=true
 ·rw[if_pos a,valV_map]
  rw[valV_any] at a
  by_cases e:j=k
  ·obtain⟨x,hx⟩:=Option.isSome_iff_exists.mp a
   rw[if_pos e,e,hx,Option.map_some,if_pos rfl]
  ·rw[if_neg e]
   cases valV kvs j with
   | none=>rfl
   | some x=>rw[Option.map_some,if_neg e]
 ·rw[if_neg a]
  refine valV_snoc k j y kvs ?_
  rw[valV_any] at a
  cases q:valV kvs k with
  | none=>rfl
  | some x=>rw[q] at a;exact(a rfl).elim
theorem length_putK (kvs:List (κ × V)) (k:κ) (v:V):(putK kvs k v).length<=kvs.length+1:=by
 unfold putK
 split
 ·rw[List.length_map];omega
 ·rw[List.length_append,List.length_cons,List.length_nil];omega
theorem putK_new {kvs:List (κ × V)}{k:κ}(v:V) (h:valV kvs k=none):putK kvs k v=kvs++[(k,v)]:=by
 unfold putK
 rw[valV_any,h]
 exact if_neg (by decide)
theorem RelO.isSome_eq (r:RelO o u):o.isSome=u.isSome:=by
 cases o with
 | none=>cases u with
  | none=>rfl
  | some _=>exact(show False from r).elim
 | some _=>cases u with
  | none=>exact(show False from r).elim
  | some _=>rfl
theorem KV.val {kvs:List (κ × V)}{vs:List (κ × Value)}(r:KV kvs vs) (k:κ):RelO (valV kvs k) (valueAt vs k) := by
 unfold KV at r
 induction r with
 | nil=>exact True.intro
 | @cons p q ps qs h t ih =>
  obtain⟨h1,h2⟩:=h
  by_cases e:p.1=k
  ·have e':q.1=k:=h1.symm.trans e
   have b:valueAt (q::qs) k=some q.2:=by simp[valueAt,List.find?_cons,e']
   rw[valV_pos e,b];exact h2
  ·have e':¬ q.1=k:=fun z=>e (h1.trans z)
   have b:valueAt (q::qs) k=valueAt qs k:=by simp[valueAt,List.find?_cons,e']
   rw[valV_neg e,b];exact ih
theorem KV.any (r:KV kvs vs) (k:κ):(kvs.any fun kv=>decide (kv.1=k))=vs.any fun kv=>decide (kv.1=k):=by
 unfold KV at r
 induction r with
 | nil=>rfl
 | cons h t ih=>rw[List.any_cons,List.any_cons,ih,h.1]
theorem KV.repl (r:KV kvs vs) (k:κ) (ry:RelV y u) :
    KV (kvs.map fun kv=>if kv.1=k then (kv.1,y) else kv) (vs.map fun kv=>if kv.1=k then (kv.1,u) else kv):=by
 unfold KV at r ⊢
 induction r with
 | nil=>exact .nil
 | @cons p q ps qs h t ih =>
  rw[List.map_cons,List.map_cons]
  refine .cons ?_ ih
  obtain⟨h1,h2⟩:=h
  by_cases e:p.1=k
  ·rw[if_pos e,if_pos (h1.symm.trans e)];exact⟨h1,ry⟩
  ·rw[if_neg e,if_neg (fun z=>e (h1.trans z))];exact⟨h1,h2⟩
theorem KV.put (r:KV kvs vs) (k:κ) (ry:RelV y u):KV (putK kvs k y) (stored vs k u):=by
 unfold putK stored
 rw[r.any k]
 by_cases e:(vs.any fun kv=>decide (kv.1=k))=true
 ·rw[if_pos e,if_pos e];exact r.repl k ry
 ·rw[if_neg e,if_neg e];exact Paired.snoc r ⟨rfl,ry⟩
theorem KV.length (r:KV kvs vs):kvs.length=vs.length:=Paired.length r
end
theorem kV_is (r:RelV (kV k) u):(mixKind P w).is k u=true:=by
 cases k with
 | inl i=>obtain⟨t,e⟩:=(show ∃t,u=Value.int i t from r);subst e;exact mixKind_int P w i t
 | inr x=>obtain⟨t,e⟩:=(show ∃t,u=Value.str x t from r);subst e;exact mixKind_str P w x t
theorem items_are:∀ {ks:List Key}{us:List Value},Vals (ks.map kV) us->ItemsAre (mixKind P w) ks us
 | [],_,r=>by rw[List.map_nil] at r;cases r;exact .nil
 | k::ks,_,r=>by
  rw[List.map_cons] at r
  cases r with
  | cons h t=>exact .cons (kV_is h) (items_are t)
abbrev KT (H:Hp):List (List Key × V)->List (List Key × Addr × Value)->Prop:=Paired fun p q=>p.1=q.1/\H q.2.1=some (.tup (p.1.map kV))/\RelV p.2 q.2.2
theorem KT.val {kvs:List (List Key × V)}{xs:List (List Key × Addr × Value)}(r:KT H kvs xs) (k:List Key):RelO (valV kvs k) ((atKey xs k).map (·.2)) := by
 induction r with
 | nil=>exact True.intro
 | @cons p q ps qs h t ih =>
  obtain⟨h1,_,h2⟩:=h
  by_cases e:p.1=k
  ·have e':q.1=k:=h1.symm.trans e
   have b:atKey (q::qs) k=some q.2:=by simp[atKey,List.find?_cons,e']
   rw[valV_pos e,b];exact h2
  ·have e':¬ q.1=k:=fun z=>e (h1.trans z)
   have b:atKey (q::qs) k=atKey qs k:=by simp[atKey,List.find?_cons,e']
   rw[valV_neg e,b];exact ih
theorem KT.repl (r:KT H kvs xs) (k:List Key) (ry:RelV y u) :
    KT H (kvs.map fun kv=>if kv.1=k then (kv.1,y) else kv) (xs.map (putAt k u)):=by
 induction r with
 | nil=>exact .nil
 | @cons p q ps qs h t ih =>
  rw[List.map_cons,List.map_cons]
  refine .cons ?_ ih
  obtain⟨h1,h2,h3⟩:=h
  unfold putAt
  by_cases e:p.1=k
  ·rw[if_pos e,if_pos (h1.symm.trans e)];exact⟨h1,h2,ry⟩
  ·rw[if_neg e,if_neg (fun z=>e (h1.trans z))];exact⟨h1,h2,h3⟩
theorem KT.put (r:KT H kvs xs) (k:List Key) (hb:H b=some (.tup (k.map kV))) (ry:RelV y u) :
    KT H (putK kvs k y) (storedH xs k b u):=by
 have e:(kvs.any fun kv=>decide (kv.1=k))=(atKey xs k).isSome:=by
  rw[valV_any,(r.val k).isSome_eq,Option.isSome_map]
 unfold putK storedH
 rw[e]
 by_cases q:(atKey xs k).isSome=true
 ·rw[if_pos q,if_pos q];exact r.repl k ry
 ·rw[if_neg q,if_neg q];exact Paired.snoc r ⟨rfl,hb,ry⟩
theorem KT.keeps (r:KT H kvs xs) (ht:∀b ys,H b=some (.tup ys)->H' b=some (.tup ys)):KT H' kvs xs :=
 Paired.mapP r fun _ _ z=>⟨z.1,ht _ _ z.2.1,z.2.2⟩
section
variable {P:Program}{w:World}{H:Hp}{h:Heap}{a:Addr}
theorem rd_of (ok:HOk P w H h) (e:Rd H a u):ObjOk P w H h a u:=e.ok ok
theorem dk_rd (ok:HOk P w H h) (e:Rd H a (.dK kvs)):kvs.length<=sizeLine/\(a==sysModules)=false/\∃vs,KV kvs vs/\h.DictOf (mixKind P w) a vs :=
 show ObjOk P w H h a (.dK kvs) from rd_of ok e
theorem dk_of (ok:HOk P w H h) (e:H a=some (.dK kvs)):kvs.length<=sizeLine/\(a==sysModules)=false/\∃vs,KV kvs vs/\h.DictOf (mixKind P w) a vs:=dk_rd ok (.inl e)
theorem key_of (ok:HOk P w H h) (e:H a=some (.tup (ks.map kV))):(tupleKind (mixKind P w)).is h ks a:=by
 obtain⟨_,its,r,o,h1,h2,n,h3,_⟩:=(show ObjOk P w H h a (.tup (ks.map kV)) from ok a _ e)
 exact⟨o,its.toArray,n,h1,h2,h3,by simpa using items_are r⟩
theorem dt_rd (ok:HOk P w H h) (e:Rd H a (.dT kvs)):kvs.length <= sizeLine /\ (a==sysModules)=false /\
    ∃xs,KT H kvs xs/\h.DictOfH (tupleKind (mixKind P w)) a xs:=by
 obtain⟨z,y,xs,r,o,es,ep,h1,h2,h3,h4,h5⟩:=(show ObjOk P w H h a (.dT kvs) from rd_of ok e)
 refine⟨z,y,xs,r,o,es,ep,h1,h2,h3,h4,fun x hx=>?_,h5⟩
 have all:∀ {l:List (List Key × V)} {m:List (List Key × Addr × Value)}, KT H l m -> ∀x ∈ m, (tupleKind (mixKind P w)).is h x.1 x.2.1 := by
  intro l m q
  induction q with
  | nil=>intro x hx;exact nomatch hx
  | @cons p q ps qs hq t ih =>
   intro x hx
   rcases List.mem_cons.mp hx with e | hx
   ·subst e
    exact key_of ok (by rw[<- hq.1];exact hq.2.1)
   ·exact ih x hx
 exact all r x hx
theorem dt_of (ok:HOk P w H h) (e:H a=some (.dT kvs)):kvs.length<=sizeLine/\(a==sysModules)=false /\
    ∃xs,KT H kvs xs/\h.DictOfH (tupleKind (mixKind P w)) a xs:=dt_rd ok (.inl e)
end
def DGet (H:Hp) (a:Addr) (y:V) (r:Option V):Prop :=
 (∃kvs k,Rd H a (.dK kvs)/\y=kV k/\r=valV kvs k)∨∃kvs k b,Rd H a (.dT kvs)/\y=.ref b/\H b=some (.tup (k.map kV))/\r=valV kvs k
def DPut (H:Hp) (a:Addr) (y v:V) (H':Hp):Prop :=
 (∃kvs k,H a=some (.dK kvs)/\y=kV k/\kvs.length<sizeLine/\H'=upd H a (.dK (putK kvs k v))) ∨
 ∃kvs k b,H a=some (.dT kvs)/\y=.ref b/\H b=some (.tup (k.map kV))/\kvs.length<sizeLine/\H'=upd H a (.dT (putK kvs k v))
theorem DGet.k {kvs:List (Key × V)}{k:Key}(e:H a=some (.dK kvs)):DGet H a (kV k) (valV kvs k):=.inl ⟨kvs,k,.inl e,rfl,rfl⟩
theorem DPut.k {kvs:List (Key × V)}{k:Key}(e:H a=some (.dK kvs)) (hl:kvs.length<sizeLine):DPut H a (kV k) v (upd H a (.dK (putK kvs k v))):=.inl ⟨kvs,k,e,rfl,hl,rfl⟩
theorem DPut.t {kvs:List (List Key × V)}{k:List Key}(e:H a=some (.dT kvs)) (eb:H b=some (.tup (k.map kV))) (hl:kvs.length<sizeLine) :
    DPut H a (.ref b) v (upd H a (.dT (putK kvs k v))):=.inr ⟨kvs,k,b,e,rfl,eb,hl,rfl⟩
section
variable {X:Cx}{pins:List (Addr × Obj)}{σ:St}{H:Hp}{s:Shared}{a:Addr}{y v:V}{u r:Value}{o:Option V}{A:Around}{E:Value->Shared->Prop}
theorem Inv.big (I:Inv X pins σ H s):sysModules<s.heap.objs.size:=by
 have h:mainGlobals<s.heap.objs.size:=(I.mod.glob.keeps I.bk).lt
 exact Nat.lt_trans (by decide) h
theorem d_getItem (hu:A.units+1<cLine) (I:Inv X pins σ H s) (g:DGet H a y (some v)) (ry:RelV y u) (h:∀w' s',Inv X pins σ H s'->RelV v w'->Q w' s') :
    wpAny (model X.prog X.w) A (getItem (.ref a) u) Q E s:=by
 rcases g with⟨kvs,k,e,ey,l⟩ | ⟨kvs,k,b,e,ey,eb,l⟩
 ·subst ey
  obtain⟨z,hd,vs,rel,dd⟩:=dk_rd I.hok e
  obtain⟨w',hw,rw'⟩:=RelO.some_of (v:=v) (o:=valueAt vs k) (by rw[l];exact rel.val k)
  exact wpAny_getItem_of (kV_is ry) dd.mapOf hw (h w' _ (I.tok _) rw')
 ·subst ey
  cases (show u=Value.ref b from ry)
  obtain⟨z,hd,xs,rel,dd⟩:=dt_rd I.hok e
  obtain⟨w',hw,rw'⟩:=RelO.some_of (v:=v) (o:=(atKey xs k).map (·.2)) (by rw[l];exact rel.val k)
  obtain⟨p,hp,hp2⟩:=Option.map_eq_some_iff.mp hw
  refine wpAny_getItem_heap (tupleKind_room_in1 hu) (key_of I.hok eb) dd hp ?_
  rw[hp2]
  exact h w' _ (I.tok _) rw'
theorem d_in (hu:A.units+1<cLine) (I:Inv X pins σ H s) (g:DGet H a y o) (ry:RelV y u) (h:∀s',Inv X pins σ H s'->Q (.bool o.isSome) s') :
    wpAny (model X.prog X.w) A (compareOp .In u (.ref a)) Q E s:=by
 rcases g with⟨kvs,k,e,ey,l⟩ | ⟨kvs,k,b,e,ey,eb,l⟩
 ·subst ey
  obtain⟨z,hd,vs,rel,dd⟩:=dk_rd I.hok e
  refine wpAny_in_of (kV_is ry) hd dd.mapOf ?_
  rw[<- (rel.val k).isSome_eq,<- l]
  exact h _ (I.tok _)
 ·subst ey
  cases (show u=Value.ref b from ry)
  obtain⟨z,hd,xs,rel,dd⟩:=dt_rd I.hok e
  refine wpAny_in_heap (tupleKind_room_in1 hu) (key_of I.hok eb) hd dd ?_
  have q:=(rel.val k).isSome_eq
  rw[Option.isSome_map] at q
  rw[<- q,<- l]
  exact h _ (I.tok _)
theorem d_notIn (hu:A.units+1<cLine) (I:Inv X pins σ H s) (g:DGet H a y o) (ry:RelV y u) (h:∀s',Inv X pins σ H s'->Q (.bool (!o.isSome)) s') :
    wpAny (model X.prog X.w) A (compareOp .NotIn u (.ref a)) Q E s:=by
 rcases g with⟨kvs,k,e,ey,l⟩ | ⟨kvs,k,b,e,ey,eb,l⟩
 ·subst ey
  obtain⟨z,hd,vs,rel,dd⟩:=dk_rd I.hok e
  refine wpAny_notIn_of (kV_is ry) hd dd.mapOf ?_
  rw[<- (rel.val k).isSome_eq,<- l]
  exact h _ (I.tok _)
 ·subst ey
  cases (show u=Value.ref b from ry)
  obtain⟨z,hd,xs,rel,dd⟩:=dt_rd I.hok e
  refine wpAny_notIn_heap (tupleKind_room_in1 hu) (key_of I.hok eb) hd dd ?_
  have q:=(rel.val k).isSome_eq
  rw[Option.isSome_map] at q
  rw[<- q,<- l]
  exact h _ (I.tok _)
theorem d_write (I:Inv X pins σ H s) (mu:Mut (H a)) (hs:Heap.SameBut a s.heap h') (he:∃q,h'.get? a=some q) (new:ObjOk X.prog X.w (upd H a ob) h' a ob) :
    Inv X pins σ (upd H a ob) { s with heap:=h',toks:=t' } :=
 I.write (x:=a) (e:=a) mu (.inl rfl) (fun b q hb z=>(hs.2 b hb).trans z) he new
theorem dk_new (z:kvs.length<=sizeLine) (hd:(a==sysModules)=false) (rel:KV kvs vs) (dd:h'.DictOf (mixKind P w) a vs) :
    ObjOk P w H' h' a (.dK kvs):=⟨z,hd,vs,rel,dd⟩
theorem d_setItem (hu:A.units+1<cLine) (I:Inv X pins σ H s) (g:DPut H a y v H') (ry:RelV y u) (rv:RelV v r) (h:∀s',Inv X pins σ H' s'->Q () s') :
    wpAny (model X.prog X.w) A (setItem (.ref a) u r) Q E s:=by
 rcases g with⟨kvs,k,e,ey,l,eH⟩ | ⟨kvs,k,b,e,ey,eb,l,eH⟩
 ·subst ey eH
  obtain⟨z,hd,vs,rel,dd⟩:=dk_of I.hok e
  have hz:vs.length<=sizeLine:=by rw[<- rel.length];exact z
  have hl:(putK kvs k v).length<=sizeLine:=by have:=length_putK kvs k v;omega
  refine wpAny_setItem_pairs (hsz:=hz) (kV_is ry) dd fun h' dd' hs=>h _ ?_
  have he:∃q,h'.get? a=some q:=let ⟨q,_,_,hq,_⟩:=dd';⟨q,hq⟩
  exact d_write I (by rw[e];exact True.intro) hs he (dk_new hl hd (rel.put k rv) dd')
 ·subst ey eH
  cases (show u=Value.ref b from ry)
  obtain⟨z,hd,xs,rel,dd⟩:=dt_of I.hok e
  have hz:xs.length<=sizeLine:=by rw[<- Paired.length rel];exact z
  have hl:(putK kvs k v).length<=sizeLine:=by have:=length_putK kvs k v;omega
  refine wpAny_setItem_heap (hsz:=hz) (tupleKind_room_in1 hu) (key_of I.hok eb) dd fun h' dd' hs=>h _ ?_
  obtain⟨q,es,ep,hq,h2,h3,h4,_,h5⟩:=dd'
  refine d_write I (by rw[e];exact True.intro) hs ⟨q,hq⟩ ⟨hl,hd,_,(rel.put k eb rv).keeps fun c ys ec=>?_,q,es,ep,hq,h2,h3,h4,h5⟩
  rw[upd_ne (ne_of ec e (fun z=>nomatch z))]
  exact ec
end
section
variable {X:Cx}{pins:List (Addr × Obj)}{σ:St}{H:Hp}{s:Shared}{a:Addr}{kvs:List (Key × V)}{k:Key}{u:Value}{A:Around}{E:Value->Shared->Prop}
theorem d_len (I:Inv X pins σ H s) (e:Rd H a (.dK kvs)) (h:∀t s',Inv X pins σ H s'->Q (.int kvs.length t) s'):wpAny (model X.prog X.w) A (call (.builtin "len") [.ref a]) Q E s:=by
 obtain⟨z,hd,vs,rel,dd⟩:=dk_rd I.hok e
 refine call_len_dict hd dd (by rw[<- rel.length];rw[sizeLine_eq] at z;omega) ?_
 rw[<- rel.length]
 exact h _ _ (I.tok _)
end
theorem dict_typeIs (I:Inv X pins σ H s) (g:DGet H a y o):s.TypeIs (.ref a) "dict":=by
 rcases g with⟨kvs,k,e,_,_⟩ | ⟨kvs,k,b,e,_,_,_⟩
 ·obtain⟨_,_,vs,_,dd⟩:=dk_rd I.hok e
  exact dd.typeIs
 ·obtain⟨_,_,xs,_,dd⟩:=dt_rd I.hok e
  exact dd.typeIs
theorem dk_empty (h:Heap) (hb:sysModules<h.objs.size):ObjOk P w H (h.push { cls:=.type "dict",data:=.dict #[] }) h.objs.size (.dK []) :=
 ⟨Nat.zero_le _,beq_eq_false_iff_ne.mpr (Ne.symm (Nat.ne_of_lt hb)),[],.nil,Heap.DictOf.new h⟩
theorem dt_empty (h:Heap) (hb:sysModules<h.objs.size):ObjOk P w H (h.push { cls:=.type "dict",data:=.dict #[] }) h.objs.size (.dT []) :=
 ⟨Nat.zero_le _,beq_eq_false_iff_ne.mpr (Ne.symm (Nat.ne_of_lt hb)),[],.nil,_,#[],0,Heap.get?_push_size _ rfl,⟨rfl,rfl,rfl⟩,rfl,rfl,List.nodup_nil⟩
def tDNewK:TE:=fun _ H Q=>∀p,H p=none->Q (.ref p) (upd H p (.dK []))
def tDNewT:TE:=fun _ H Q=>∀p,H p=none->Q (.ref p) (upd H p (.dT []))
section
variable {X:Cx}{pos:Pos}
theorem pe_dnewK:PE X (.Dict [] [] pos) tDNewK:=fun pins s σ H Q I h =>
 wpAny_Dict_empty ⟨.ref s.heap.objs.size,_,I.laid (a:=s.heap.objs.size) (o:=.dK []) (t':=s.toks) (fun _ _ q=>Heap.get?_push_of_some _ q) (Nat.le_refl _) (dk_empty s.heap I.big),rfl,h _ (I.hok.fresh (Nat.le_refl _))⟩
theorem pe_dnewT:PE X (.Dict [] [] pos) tDNewT:=fun pins s σ H Q I h =>
 wpAny_Dict_empty ⟨.ref s.heap.objs.size,_,I.laid (a:=s.heap.objs.size) (o:=.dT []) (t':=s.toks) (fun _ _ q=>Heap.get?_push_of_some _ q) (Nat.le_refl _) (dt_empty s.heap I.big),rfl,h _ (I.hok.fresh (Nat.le_refl _))⟩
end
def tPairs:List (TE × TE)->St->Hp->(List (V × V)->Hp->Prop)->Prop
 | [],_,H,Q=>Q [] H
 | (tk,tv)::r,σ,H,Q=>tk σ H fun x H1=>tv σ H1 fun y H2=>tPairs r σ H2 fun ps H3=>Q ((x,y)::ps) H3
abbrev VV:List (V × V)->List (Value × Value)->Prop:=Paired fun p q=>RelV p.1 q.1/\RelV p.2 q.2
def PPs (X:Cx) (pos:Pos) (keys:List (Option Expr)) (values:List Expr) (trs:List (TE × TE)):Prop :=
 ∀(pins:List (Addr × Obj)) (s:Shared) (σ:St) (H:Hp) (Q:List (V × V)->Hp->Prop),Inv X pins σ H s->tPairs trs σ H Q ->
  wpAny (model X.prog X.w) X.A (evalPairs (pairTrees keys values X.env pos)) (fun vs s'=>∃ps H',Inv X pins σ H' s'/\VV ps vs/\Q ps H') X.xe s
theorem pps_nil:PPs X pos [] [] []:=fun pins s σ H Q I h=>pairTrees_nil_walk ⟨[],H,I,.nil,h⟩
theorem pps_cons (hk:PE X k tk) (hv:PE X v tv) (hr:PPs X pos ks vs trs) :
    PPs X pos (some k::ks) (v::vs) ((tk,tv)::trs):=fun pins s σ H Q I h =>
 pairTrees_cons_walk (thn (hk pins s σ H _ I h) fun u s1 ⟨x,H1,I1,rx,q1⟩=>thn (hv pins s1 σ H1 _ I1 q1) fun w2 s2 ⟨y,H2,I2,ry,q2⟩ =>
  thn (hr pins s2 σ H2 _ I2 q2) fun ws s3 ⟨ps,H3,I3,rel,q3⟩=>⟨(x,y)::ps,H3,I3,.cons ⟨rx,ry⟩ rel,q3⟩)
def mergeK (kvs more:List (Key × V)):List (Key × V):=more.foldl (fun acc kv=>putK acc kv.1 kv.2) kvs
theorem KV.merge:∀ {more:List (Key × V)}{rs:List (Key × Value)}{kvs:List (Key × V)}{vs:List (Key × Value)}, KV more rs -> KV kvs vs -> KV (mergeK kvs more) (merged vs rs) := by
 intro more rs kvs vs r
 unfold KV at r
 induction r generalizing kvs vs with
 | nil=>intro q;exact q
 | @cons p q ps qs h t ih =>
  intro r0
  have e:KV (putK kvs p.1 p.2) (stored vs q.1 q.2):=by
   have:=r0.put p.1 h.2
   rw[<- h.1];exact this
  exact ih e
theorem length_mergeK:∀(more kvs:List (Key × V)),(mergeK kvs more).length<=kvs.length+more.length
 | [],kvs=>by show kvs.length<=kvs.length+0;omega
 | p::r,kvs=>by
  have h1:=length_mergeK r (putK kvs p.1 p.2)
  have h2:=length_putK kvs p.1 p.2
  show (mergeK (putK kvs p.1 p.2) r).length<=_
  rw[List.length_cons];omega
theorem carries_of:∀ {kvs:List (Key × V)}{ws:List (Value × Value)}, VV (kvs.map fun kv => (kV kv.1, kv.2)) ws -> ∃rs, Carries (mixKind P w) ws rs /\ KV kvs rs
 | [],_,r=>by rw[List.map_nil] at r;cases r;exact⟨[],True.intro,.nil⟩
 | p::kvs,_,r=>by
  rw[List.map_cons] at r
  cases r with
  | @cons a b as bs h t =>
   obtain⟨rs,c,q⟩:=carries_of (P:=P) (w:=w) t
   obtain⟨b1,b2⟩:=b
   exact⟨(p.1,b2)::rs,⟨kV_is h.1,rfl,c⟩,.cons ⟨rfl,h.2⟩ q⟩
def tDisp (trs:List (TE × TE)):TE:=fun σ H Q=>∀p,H p=none->tPairs trs σ (upd H p (.dK [])) fun ps H2=>H2 p=some (.dK [])/\∃kvs:List (Key × V),ps=kvs.map (fun kv=>(kV kv.1,kv.2))/\kvs.length<=15/\Q (.ref p) (upd H2 p (.dK (mergeK [] kvs)))
theorem pe_disp (h:PPs X pos keys values trs) (hall:keys.all (·.isSome)=true) (hl:keys.length=values.length) (h0:keys≠[])
    (h15:keys.length<=15):PE X (.Dict keys values pos) (tDisp trs):=by
 intro pins s σ H Q I q
 have hn:=I.hok.fresh (Nat.le_refl s.heap.objs.size)
 have I1:=I.laid (a:=s.heap.objs.size) (o:=.dK []) (h':=s.heap.push { cls:=.type "dict",data:=.dict #[] }) (t':=s.toks) (fun _ _ q=>Heap.get?_push_of_some _ q) (Nat.le_refl _) (dk_empty s.heap I.big)
 refine wpAny_Dict_walk (knd:=mixKind X.prog X.w) hall hl h0 h15 (thn (h pins _ σ _ _ I1 (q _ hn)) fun ws s2 ⟨ps,H2,I2,rel,e,kvs,ep,lk,q2⟩=>?_)
 subst ep
 obtain⟨rs,c,rk⟩:=carries_of (P:=X.prog) (w:=X.w) rel
 obtain⟨z,hd,vs0,r0,dd⟩:=dk_of I2.hok e
 cases r0
 refine⟨rs,c,dd,fun h' dd' hs=>⟨.ref s.heap.objs.size,_,?_,rfl,q2⟩⟩
 have hz:(mergeK [] kvs).length<=sizeLine:=by
  have h1:=length_mergeK kvs []
  rw[List.length_nil] at h1
  rw[sizeLine_eq];omega
 have he:∃q,h'.get? s.heap.objs.size=some q:=let ⟨q,_,_,hq,_⟩:=dd';⟨q,hq⟩
 exact d_write I2 (by rw[e];exact True.intro) hs he (dk_new hz hd (rk.merge .nil) dd')
end L2
namespace Att
open PySem PySem.W PySem.Calls PyProof.Rows
theorem ints_of_wellAll:∀(ns:List Int) (vs:List Value), WellAll P h vs (ns.map WData.int) -> IntsAre vs ns := by
 intro ns
 induction ns with
 | nil =>
  intro vs w
  rw[List.map_nil] at w
  cases w
  exact .nil
 | cons n ns ih =>
  intro vs w
  rw[List.map_cons] at w
  cases w with
  | cons a b =>
   cases a
   exact .cons _ _ (ih _ b)
theorem script_of {l:OpenLaw}{n:Nat}(hn:l.most=some n) {P:Params}{args:List WData}{vals:List Value}
    (hpre:l.row.toRowW.claim.pre args=true) (hwl:WellAll P h vals args) :
    ∃a vs ns,vals=[Value.ref a]/\args=[WData.list (ns.map WData.int)]/\h.get? a=some { cls:=.type "list",data:=.seq vs.toArray }/\IntsAre vs ns/\ns.length<=n:=by
 have hsh:WShape.hasAll [] args [.list .int]=true:=(pre_splitW hpre).1
 have hc:l.pre.holds [] { args:=args }=true:=(pre_splitW hpre).2
 obtain⟨d,r,rfl,h1,h2⟩:=hasAllW_cons hsh
 obtain rfl:=hasAllW_nil h2
 obtain⟨xs,rfl,h3⟩:=hasW_list h1
 obtain⟨ns,rfl⟩:=items_int h3
 have hlen:ns.length<=n:=by
  unfold OpenLaw.pre at hc
  have h4:(WTm.not (.lt (.lit (.int (n:Int))) (.len (.arg 0)))).holds [] { args:=[.list (ns.map .int)] }=true:=by
   have h4:=(holds_andW hc).1
   rw[hn] at h4
   exact h4
  have h5:=condW_of h4 (w_not (w_lt w_lit (w_len_list (w_arg rfl))))
  rw[List.length_map] at h5
  refine Nat.le_of_not_lt fun q=>?_
  have q':(n:Int)<((ns.length:Nat):Int):=by omega
  first
   | (rw[decide_eq_true q'] at h5;exact absurd h5 (by decide))
   | (simp at h5;omega)
 cases hwl with
 | cons w1 w2 =>
  cases w2
  cases w1 with
  | list ho hall=>exact⟨_,_,ns,rfl,rfl,ho,ints_of_wellAll ns _ hall,hlen⟩
theorem post_true (l:OpenLaw) (args:List WData):l.row.toRowW.claim.post args (.bool true) args=true :=
 postW_of (r:=l.row.toRowW) (X:=(true==true))
  (show WShape.has [] (.bool true) .bool=true by first | rfl | decide | simp[WShape.has,WShape.arms,WShape.armsAll])
  (show (WTm.eq .res (.lit (.bool true))).value [] { args:=args,res:=some (.bool true),after:=args }=some (.bool (true==true)) from w_eq_bool (w_res rfl) w_lit) rfl
theorem attach_call {l:OpenLaw}{n:Nat}{loose:List Str}{XP:(Str -> Option Value) -> Heap -> Prop}{YP:World -> Heap -> Prop}{d:DefRec}
    (hn:l.most=some n) (hdf:d.params.defaults=[])
    (call:∀(w:World) (s₀ s₁:Shared) (mg mb:Str->Option Value) (fa:Addr) (o:Obj) (pm cd doc:Value) (a:Addr) (vs:List Value) (ns:List Int),
     Ground q loose [] XP w s₀ mg mb s₁.heap->YP w s₁.heap ->
     s₁.heap.get? fa=some o->o.data=.func (docDef d.name d.params d.body d.scope pm cd doc)->s₁.heap.CodeRec cd d.name->mg d.name=some (.ref fa) ->
     s₁.heap.get? a=some { cls:=.type "list",data:=.seq vs.toArray }->IntsAre vs ns->ns.length<=n->s₁.gens=#[] ->
     codeAny (model l.prog w) callerA (.call (.ref fa) ⟨[.ref a],[]⟩) (fun r s'=>r=.ok (.ret (.bool true))/\OldK s₁.heap s'.heap/\s'.os=s₁.os/\AllBare s'.gens) s₁) :
    WalkO q loose XP YP l.row.toRowW d [] (fun f vs=>PySem.call f vs):=by
 intro w s₀ s₁ mg mb G Y fa o pm cd doc dV kV ho hd hcd hD hmg hg args vals as hpre hlay hrd hwl hlo
 obtain rfl:dV=.none:=Dflts.none hD hdf
 obtain rfl:kV=.none:=Dflts.noKw hD
 obtain⟨a,vs,ns,rfl,rfl,hobj,hints,hlen⟩:=script_of hn hpre hwl
 refine enter_call (codeAny_mono (call w s₀ s₁ mg mb fa o pm cd doc a vs ns G Y ho (fd_plain hd) hcd hmg hobj hints hlen hg) fun r s' hq=>?_)
 obtain⟨rfl,h2,h3,h4⟩:=hq
 exact⟨.inl ⟨.bool true,.bool true,[],rfl,fun _=>rfl,.bool true,post_true l _,fun _=>⟨List.Pairwise.nil,fun _ hm=>(nomatch hm)⟩⟩,h2,h3,h4⟩
end Att
namespace L2
open PySem PySem.Spec PyProof.Rows
theorem vals_ints:∀ {vs:List Value}{ns:List Int},IntsAre vs ns->Vals (ns.map V.int) vs
 | _,_,.nil=>.nil
 | _,_,.cons n t h=>.cons ⟨t,rfl⟩ (vals_ints h)
def Only (H:Hp):Prop:=∀b,H b=none∨∃o xs,H b=some (.frz o (.lst xs))
theorem law_call {P:Program}{w:World}{K:W.Frag}{mg mb:Str -> Option Value}{CX:CXT}{k:Nat}{fa a:Addr}{fd:FuncData}{x:Str}{sp:Sp}{s₁:Shared}{vs:List Value}{ns:List Int}
    (KX:K.In s₁.heap) (hns:s₁.heap.Ns mainGlobals mg) (hb:s₁.heap.Ns builtinsNs mb) (hbb:∀x:Str,x≠"__name__"->mb x=bootBuiltins x) (hlim:s₁.heap.NoLimit) (hg:s₁.gens=#[])
    (ha:s₁.heap.get? a=some { cls:=.type "list",data:=.seq vs.toArray }) (hi:IntsAre vs ns) (hl:ns.length<=sizeLine) (hr:Room k callerA)
    (F:∀base:Heap,K.In base->base.Ns mainGlobals mg->FnOk P w K mg base CX k fa fd [x] sp) (hbind:∀(s:Shared) (u:Value),BindsTo s fd ⟨[u],[]⟩ [(x,u)])
    (hsp:∀H:Hp,Only H->SqL K H a (ns.map V.int)->sp [.ref a] H (fun v _=>v=.bl true) fun _ _ _=>False)
    (hCX:∀H e s',CX [] H s₁ (fun _ _ _=>False) e s'->False) :
    codeAny (model P w) callerA (.call (.ref fa) ⟨[.ref a],[]⟩) (fun r s'=>r=.ok (.ret (.bool true))/\OldK s₁.heap s'.heap/\s'.os=s₁.os/\AllBare s'.gens) s₁:=by
 have rv:=vals_ints hi
 have lenV:=hi.length
 have core:∀H:Hp, Only H -> SqL K H a (ns.map V.int) -> HOk P w H s₁.heap -> (∀b, H b ≠ none -> b=a) -> (H a ≠ none -> K.lookup a=none) ->
     codeAny (model P w) callerA (.call (.ref fa) ⟨[.ref a],[]⟩) (fun r s'=>r=.ok (.ret (.bool true))/\OldK s₁.heap s'.heap/\s'.os=s₁.os/\AllBare s'.gens) s₁:=by
  intro H hO hS hok hA hK
  have base_of:∀ {b:Addr} {o:Obj},s₁.heap.get? b=some o->H b=none->(hidT s₁.heap H).get? b=some o:=fun e n=>hidT_get e n
  have noA:∀ {b:Addr} {o:Obj} {es:Array DictEntry} {ep:Nat},s₁.heap.get? b=some o->o.data=.dict es ep->H b=none:=fun {b o es ep} e d=>by
   cases q:H b with
   | none=>rfl
   | some u =>
    have e':b=a:=hA b (by rw[q];simp)
    subst e'
    rw[ha] at e;cases e
    have d':Data.seq vs.toArray _=Data.dict es ep:=d
    cases d'
  have nsK:∀ {b:Addr} {m:Str->Option Value},s₁.heap.Ns b m->(hidT s₁.heap H).Ns b m:=fun {b m} ⟨o,es,ep,e,d,r⟩=>⟨o,es,ep,base_of e (noA e d),d,r⟩
  have hKb:K.In (hidT s₁.heap H):=fun b o e=>base_of (KX b o e) (by
   cases q:H b with
   | none=>rfl
   | some u =>
    have e':b=a:=hA b (by rw[q];simp)
    subst e'
    rw[hK (by rw[q];simp)] at e;cases e)
  have hM:Mod K mg (hidT s₁.heap H):=⟨hKb,nsK hns,⟨mb,nsK hb,hbb⟩,let ⟨mc,h1,h2⟩:=hlim;⟨mc,nsK h1,h2⟩⟩
  have e0:Env0 P w K mg (hidT s₁.heap H) callerA [] s₁ H:=⟨rfl,hM,fun b o e=>of_hidT e,Nat.le_of_eq (hidT_size _ _),trivial,fun b hb=>absurd (show b∈([]:List Addr) from hb) (by simp),hok,.of_eq hg⟩
  refine codeAny_mono ((F _ hKb (nsK hns)).run callerA [] s₁ H ⟨[.ref a],[]⟩ [.ref a] [.ref a] _ _ hr e0 (hbind s₁ (.ref a)) (.cons rfl .nil) (hsp H hO hS)) fun r s' h=>?_
  cases r with
  | error e=>exact(hCX H e s' h).elim
  | ok fl =>
   cases fl with
   | next=>exact False.elim h
   | brk=>exact False.elim h
   | cont=>exact False.elim h
   | ret u =>
    obtain⟨v,H',os,bare,un,hok',r',q⟩:=h
    have q':v=.bl true:=q
    subst q'
    obtain rfl:u=Value.bool true:=r'
    refine⟨rfl,OldK.of_keep fun b o e=>?_,os,bare⟩
    cases q:H b with
    | none=>exact un.keep b o e q (by intro z;exact absurd (show b∈([]:List Addr) from z) (by simp)) (by simp)
    | some u =>
     rcases hO b with z | ⟨ob,xs,z⟩
     ·rw[q] at z;cases z
     ·have z2:=un.frzs b ob _ z
      obtain⟨e1,_⟩:=hok b _ z
      obtain⟨e2,_⟩:=hok' b _ z2
      rw[e] at e1;cases e1
      exact e2
 cases hk:K.lookup a with
 | some o =>
  have e:=KX a o hk
  rw[ha] at e
  cases e
  refine core (fun _=>none) (fun _=>.inl rfl) (.inr ⟨_,vs.toArray,_,hk,rfl,rfl,rfl,by rw[List.size_toArray,lenV];exact hl,by simpa using rv⟩) (fun b u z=>by have z':(none:Option HO)=some u:=z;cases z') (fun b z=>absurd rfl z) fun z=>absurd rfl z
 | none =>
  refine core (fun b=>if b=a then some (.frz { cls:=.type "list",data:=.seq vs.toArray } (.lst (ns.map V.int))) else none) (fun b=>?_) (.inl (.inr ⟨{ cls:=.type "list",data:=.seq vs.toArray },if_pos rfl⟩)) (fun b u z=>?_) (fun b z=>?_) fun _=>hk
  ·by_cases hb:b=a
   ·exact .inr ⟨_,_,if_pos hb⟩
   ·exact .inl (if_neg hb)
  ·by_cases hb:b=a
   ·have z':=(if_pos hb).symm.trans z
    cases z'
    subst hb
    exact⟨ha,by rw[List.length_map];exact hl,vs,_,rv,ha⟩
   ·have z':=(if_neg hb).symm.trans z
    cases z'
  ·by_cases hb:b=a
   ·exact hb
   ·exact absurd (if_neg hb) z
end L2
namespace L2
open PySem PySem.Spec PyProof.Rows
theorem walk_of {l:W.OpenLaw}{n k:Nat}{loose:List Str}{XP:(Str -> Option Value) -> Heap -> Prop}{YP:World -> Heap -> Prop}{d:DefRec}{K:Params -> W.Frag}{CX:World -> CXT}{sp:World -> Sp}{x:Str}
    (hn:l.most=some n) (hn2:n<=sizeLine) (hdf:d.params.defaults=[]) (hr:Room k callerA)
    (hY:∀(w:World) (h:Heap),YP w h->(K w.params).In h)
    (F:∀(w:World) (mg:Str->Option Value) (fa:Addr) (h:Heap),(K w.params).In h->h.Ns mainGlobals mg->mg d.name=some (.ref fa) ->
     ∃fd:FuncData,(∀(s:Shared) (u:Value),BindsTo s fd ⟨[u],[]⟩ [(x,u)]) /\
      ∀base:Heap,(K w.params).In base->base.Ns mainGlobals mg->FnOk l.prog w (K w.params) mg base (CX w) k fa fd [x] (sp w))
    (hsp:∀(w:World) (H:Hp) (a:Addr) (ns:List Int),ns.length<=n->Only H->SqL (K w.params) H a (ns.map V.int)->sp w [.ref a] H (fun v _=>v=.bl true) fun _ _ _=>False)
    (hCX:∀(w:World) (H:Hp) (s:Shared) (e:Value) (s':Shared),CX w [] H s (fun _ _ _=>False) e s'->False) :
    W.WalkO q loose XP YP l.row.toRowW d [] (fun f vs=>PySem.call f vs):=by
 refine Att.attach_call hn hdf fun w s₀ s₁ mg mb fa o pm cd doc a vs ns G Y ho hd hcd hmg hobj hints hlen hg=>?_
 have KX:=hY w _ Y
 obtain⟨fd,hb,hF⟩:=F w mg fa _ KX G.T.g hmg
 exact law_call KX G.T.g G.T.b G.T.builtins G.T.nolimit hg hobj hints (Nat.le_trans hlen hn2) hr hF hb (fun H hO hS=>hsp w H a ns hlen hO hS) fun H e s'=>hCX w H s₁ e s'
end L2
namespace L2
open PySem PySem.Spec PyProof.Rows
def defArgs (s:Stmt):Arguments:=match s with
 | .FunctionDef _ a _ _ _ _ _ _ _ _=>a
 | _=>{ posonlyargs:=[],args:=[],vararg:=none,kwonlyargs:=[],kw_defaults:=[],kwarg:=none,defaults:=[] }
def defBody (s:Stmt):List Stmt:=match s with
 | .FunctionDef _ _ b _ _ _ _ _ _ _=>b
 | _=>[]
def defScope (s:Stmt):Scope:=match s with
 | .FunctionDef _ _ _ _ _ _ sc _ _ _=>sc
 | _=>{ kind:=.function,names:=[],isGenerator:=false,isCoroutine:=false }
abbrev CX0:CXT:=fun _ _ _ _ _ _=>False
abbrev E0:XK:=fun _ _ _=>False
theorem pass0:Passes CX0 X E0:=fun _ _ _ _ _ _ _ h=>h.elim
structure Fun (K:W.Frag) (x qual:Str) (st:Stmt) (f:Addr) (fd:FuncData):Prop where
 ex:∃(oc:Value) (od:Option Addr) (kV doc pm:Value) (an:Option Addr) (cdv ct:Value) (osl:Array (Option Value)),
  fd=W.fnOf x qual (defArgs st) (defBody st) (defScope st) .none kV doc pm an cdv ct/\K.lookup f=some ⟨oc,od,.func fd,osl⟩/\W.codeIn K cdv qual=true
 kp:W.keepIn K (.ref f)=true
section
variable {P:Program}{w:World}{K:W.Frag}{mg:Str->Option Value}{base:Heap}
theorem Fun.ok {x qual:Str}{st:Stmt}{f:Addr}{fd:FuncData}{N ps:List Str}{k:Nat}{sp:Sp}(F:Fun K x qual st f fd) (S:FnScope N ps (defScope st)) (len:∀vs H Q E, sp vs H Q E -> vs.length=ps.length)
    (hbody:∀(cdv:Value) (A:Around) (outer:List Env) (s:Shared) (H:Hp) (vs:List V) (Q:VK) (E:XK),Room k (A.deeper (envOfC qual (defScope st) s.heap.objs.size f cdv))->sp vs H Q E ->
     ∃t,PSs (cxOf CX0 P w K mg base N qual (defScope st) f cdv A outer s H E).nox (defBody st) t/\t { nx:=fun _ H'=>Q .non H',rt:=Q } (start N vs) H):FnOk P w K mg base CX0 (k+1) f fd ps sp:=by
 obtain⟨oc,od,kV,doc,pm,an,cdv,ct,osl,rfl,lk,hcd⟩:=F.ex
 refine fn_of lk hcd S len fun A outer s H vs Q E hr hsp=>?_
 obtain⟨t,h,q⟩:=hbody cdv A outer s H vs Q E hr hsp
 exact⟨t,h.nox,q⟩
theorem Fun.binds {x qual:Str}{st:Stmt}{f:Addr}{fd:FuncData}{ps:List Str}(F:Fun K x qual st f fd)
    (h:∀(kV doc pm:Value) (an:Option Addr) (cdv ct:Value) (us:List Value),us.length=ps.length->bindArgs (W.fnOf x qual (defArgs st) (defBody st) (defScope st) .none kV doc pm an cdv ct) ⟨us,[]⟩=pure (ps.zip us)):Binds K fd ps []:=by
 obtain⟨oc,od,kV,doc,pm,an,cdv,ct,osl,rfl,lk,hcd⟩:=F.ex
 exact .all (h kV doc pm an cdv ct)
theorem fun_mk {x qual:Str}{st:Stmt}{f:Addr}{oc:Value}{od an:Option Addr}{osl:Array (Option Value)}{kV doc pm cdv ct:Value}(l:K.lookup f=some ⟨oc,od,.func (W.fnOf x qual (defArgs st) (defBody st) (defScope st) .none kV doc pm an cdv ct),osl⟩)
    (c:W.codeIn K cdv qual=true) (k:W.keepIn K (.ref f)=true):Fun K x qual st f (W.fnOf x qual (defArgs st) (defBody st) (defScope st) .none kV doc pm an cdv ct):=⟨⟨oc,od,kV,doc,pm,an,cdv,ct,osl,rfl,l,c⟩,k⟩
end
theorem small1000 (h:n<=1000):n<sizeLine:=Nat.lt_of_le_of_lt h (by decide)
section
variable {X:Cx}
theorem pv (i:Nat) (hN:X.N[i]? = some x:=by rfl) (hv:Vis X.env.scope x:=by first | exact Or.inl rfl | exact Or.inr (Or.inl rfl) | exact Or.inr (Or.inr rfl)) (hd:(x==("__debug__":Str))=false:=by decide)
    (hcd:(x==("__classdict__":Str))=false:=by decide):PE X (.Name x pos) (tVar i):=pe_var hN hv hd hcd
theorem call_lenD:CallR X (.builtin "len") (fun xs H Q=>∃a kvs,xs=[V.ref a]/\H a=some (.dK kvs)/\Q (.int kvs.length) H):=by
 intro pins s σ H xs us Q I r h
 obtain⟨a,kvs,rfl,ha,q⟩:=h
 obtain⟨u,rfl,ru⟩:=vals1 r
 cases ru
 exact d_len I (.inl ha) fun t s' I'=>⟨.int kvs.length,H,I',⟨t,rfl⟩,q⟩
end
theorem iteF {A B:Prop}(h:B):if false=true then A else B:=by
 rw[if_neg Bool.false_ne_true]
 exact h
theorem iteT {A B:Prop}(h:A):if true=true then A else B:=by
 rw[if_pos rfl]
 exact h
theorem ite2 {c A B:Prop} [Decidable c] (h1:c->A) (h2:¬ c->B):if c then A else B:=by
 by_cases h:c
 ·rw[if_pos h]
  exact h1 h
 ·rw[if_neg h]
  exact h2 h
def Same (H H':Hp):Prop:=∀b o,H b=some o->H' b=some o
theorem Same.refl (H:Hp):Same H H:=fun _ _ h=>h
theorem Same.trans (a:Same H H1) (b:Same H1 H2):Same H H2:=fun c o h=>b c o (a c o h)
section
variable {κ:Type} [DecidableEq κ]
theorem valV_not {kvs:List (κ × V)}{k:κ}(h:valV kvs k=none):¬ k∈kvs.map (·.1):=by
 intro m
 obtain⟨p,hp,e⟩:=List.mem_map.mp m
 have q:(kvs.any fun kv=>decide (kv.1=k))=true:=List.any_eq_true.mpr ⟨p,hp,decide_eq_true e⟩
 rw[valV_any,h] at q
 exact absurd q (by simp)
theorem valV_in {kvs:List (κ × V)}{k:κ}(h:valV kvs k=some v):k∈kvs.map (·.1):=by
 have q:(kvs.any fun kv=>decide (kv.1=k))=true:=by
  rw[valV_any,h]
  all_goals rfl
 obtain⟨p,hp,e⟩:=List.any_eq_true.mp q
 exact List.mem_map.mpr ⟨p,hp,of_decide_eq_true e⟩
theorem nd_snoc:∀ {l:List κ}{k:κ},l.Nodup->¬ k∈l->(l++[k]).Nodup
 | [],k,_,_=>by simp
 | a::r,k,h,hk=>by
  obtain⟨h1,h2⟩:=List.nodup_cons.mp h
  show (a::(r++[k])).Nodup
  refine List.nodup_cons.mpr ⟨fun m=>?_,nd_snoc h2 fun m=>hk (List.mem_cons.mpr (Or.inr m))⟩
  rcases List.mem_append.mp m with q | q
  ·exact h1 q
  ·exact hk (List.mem_cons.mpr (Or.inl (List.mem_singleton.mp q).symm))
theorem nd_putK {kvs:List (κ × V)}{k:κ}(v:V) (hn:(kvs.map (·.1)).Nodup) (h:valV kvs k=none):((putK kvs k v).map (·.1)).Nodup:=by
 rw[putK_new v h,List.map_append]
 exact nd_snoc hn (valV_not h)
end
end L2
set_option maxHeartbeats 4000000
namespace L2
open PySem PySem.Spec PyProof.Rows
theorem clos_go {env:Env}{f:Str × NameKind -> List (Str × Addr) -> Sem (ForInStep (List (Str × Addr)))}
    (f1:∀n k r,k≠NameKind.free->f (n,k) r=pure (.yield r))
    (f2:∀n c r,env.cells.lookup n=some c->f (n,NameKind.free) r=pure (.yield ((n,c)::r))) :
    ∀(names:List (Str × NameKind)) (acc:List (Str × Addr)),
    (∀y∈names,y.2=NameKind.free->∃c,env.cells.lookup y.1=some c) ->
    (∀x c,acc.lookup x=some c->env.cells.lookup x=some c) ->
    ∃cl,forIn names acc f=(pure cl:Sem (List (Str × Addr)))/\(∀x c,cl.lookup x=some c->env.cells.lookup x=some c) /\
     (∀x,(acc.lookup x).isSome=true->(cl.lookup x).isSome=true)/\∀y∈names,y.2=NameKind.free->(cl.lookup y.1).isSome=true
 | [],acc,_,h=>⟨acc,by rw[List.forIn_nil],h,fun _ q=>q,fun y hy=>nomatch hy⟩
 | (n, k) :: r, acc, hn, h => by
  by_cases hk:k=NameKind.free
  ·subst hk
   obtain⟨c,hc⟩:=hn (n,.free) List.mem_cons_self rfl
   have hc':env.cells.lookup n=some c:=hc
   obtain⟨cl,e,a,b,d⟩:=clos_go f1 f2 r ((n,c)::acc) (fun y hy=>hn y (List.mem_cons_of_mem _ hy)) (fun x c' q=>by
    rw[List.lookup_cons] at q
    cases e:x==n with
    | true =>
     rw[e] at q
     cases q
     rw[show x=n from LawfulBEq.eq_of_beq e]
     exact hc'
    | false =>
     rw[e] at q
     exact h x c' q)
   refine⟨cl,?_,a,fun x q=>b x ?_,fun y hy hf=>?_⟩
   ·rw[List.forIn_cons,f2 n c acc hc',pure_bind]
    exact e
   ·rw[List.lookup_cons]
    cases x==n with
    | true=>rfl
    | false=>exact q
   ·rcases List.mem_cons.mp hy with rfl | hy
    ·refine b _ ?_
     rw[List.lookup_cons]
     simp
    ·exact d y hy hf
  ·obtain⟨cl,e,a,b,d⟩:=clos_go f1 f2 r acc (fun y hy=>hn y (List.mem_cons_of_mem _ hy)) h
   refine⟨cl,?_,a,b,fun y hy hf=>?_⟩
   ·rw[List.forIn_cons,f1 n k acc hk,pure_bind]
    exact e
   ·rcases List.mem_cons.mp hy with rfl | hy
    ·exact absurd hf hk
    ·exact d y hy hf
theorem clos_ok {scope:Scope}{env:Env}(hf:∀y ∈ scope.names, y.2=NameKind.free -> ∃c, env.cells.lookup y.1=some c) :
    ∃cl,closureFor scope env=pure cl/\(∀x c,cl.lookup x=some c->env.cells.lookup x=some c) /\
     ∀y∈scope.names,y.2=NameKind.free->∃c,cl.lookup y.1=some c:=by
 have go:=clos_go (env:=env) (f:=fun (x:Str × NameKind) (r:List (Str × Addr))=>match x with
     | (name,kind)=>if (kind==NameKind.free)=true then do let c ← cellOf env name;pure (ForInStep.yield ((name,c)::r)) else pure (ForInStep.yield r))
  (fun n k r hk=>by
   have z:(k==NameKind.free)=false:=by simpa using hk
   simp only[z,Bool.false_eq_true,if_false])
  (fun n c r hc=>by
   simp only[beq_self_eq_true,if_true,cellOf,hc,pure_bind])
  scope.names [] hf (fun x c q=>by cases q)
 obtain⟨cl,e,a,_,d⟩:=go
 refine⟨cl,?_,a,fun y hy z=>Option.isSome_iff_exists.mp (d y hy z)⟩
 simp only[closureFor]
 first
  | exact e
  | (simp only[bind_pure];exact e)
  | (refine Eq.trans ?_ e;simp only[bind_pure])
def cxC (X:Cx) (scope:Scope) (N:List Str) (cl:List (Str × Addr)) (C:Addr) (s₀:Shared) (H₀:Hp) (ex:List Addr):Cx where
 prog:=X.prog
 w:=X.w
 K:=X.K
 mg:=X.mg
 base:=X.base
 A:=X.A
 N:=N
 s₀:=s₀
 H₀:=H₀
 env:=compEnvC scope cl C X.env
 outer:=X.stack
 stack:=X.stack
 ex:=ex
 fn:=fun _=>false
 calm:=X.calm
 pn:=[]
 xe:=fun _ _=>False
def inSt (k:Nat) (fr:List Nat) (σ:St):St:=List.replicate k none++fr.map fun i=>(σ[i]?).join
def frOk (osc scope:Scope) (NX:List Str) (fr:List Nat):Bool:=fr.all fun i=>match NX[i]? with
 | some x=>(decide (osc.names.lookup x=some .cell)||decide (osc.names.lookup x=some .free))&&decide (scope.names.lookup x=some .free)
 | none=>false
structure CompSc (osc scope:Scope) (NX own:List Str) (fr:List Nat) (N:List Str):Prop where
 kind:scope.kind=.function
 nocell:∀y∈scope.names,y.2≠NameKind.cell
 loc:∀y∈scope.names,y.2=NameKind.local->scope.names.lookup y.1=some .local
 free:∀y∈scope.names,y.2=NameKind.free->osc.names.lookup y.1=some .cell∨osc.names.lookup y.1=some .free
 names:N.map some=own.map some++fr.map fun i=>NX[i]?
 outer:frOk osc scope NX fr=true
def compOk (osc scope:Scope) (NX own:List Str) (fr:List Nat) (N:List Str):Bool :=
 decide (scope.kind=.function)&&(scope.names.all (fun y=>decide (y.2≠NameKind.cell))&&(scope.names.all (fun y=>decide (y.2=NameKind.local->scope.names.lookup y.1=some .local)) &&
  (scope.names.all (fun y=>decide (y.2=NameKind.free->(osc.names.lookup y.1=some .cell∨osc.names.lookup y.1=some .free)))&&(decide (N.map some=own.map some++fr.map fun i=>NX[i]?)&&frOk osc scope NX fr))))
theorem CompSc.of (h:compOk osc scope NX own fr N=true):CompSc osc scope NX own fr N:=by
 unfold compOk at h
 simp only[Bool.and_eq_true,decide_eq_true_eq,List.all_eq_true] at h
 obtain⟨h1,h2,h3,h4,h5,h6⟩:=h
 exact⟨h1,h2,h3,h4,h5,h6⟩
theorem CompSc.len (S:CompSc osc scope NX own fr N):N.length=own.length+fr.length:=by
 have h:=congrArg List.length S.names
 simpa using h
theorem lookup_relabel_free {env:Env}:∀ {names:List (Str × NameKind)}{x:Str}, names.lookup x=some .free ->
    (names.map fun (n,k)=>if (k==NameKind.free&&env.scope.kind==.function&&env.kindOf n==some .cell) then (n,NameKind.cell) else (n,k)).lookup x=some .cell ∨
    (names.map fun (n,k)=>if (k==NameKind.free&&env.scope.kind==.function&&env.kindOf n==some .cell) then (n,NameKind.cell) else (n,k)).lookup x=some .free
 | [],_,h=>by simp at h
 | (n,k)::r,x,h=>by
  have ih:=@lookup_relabel_free env r x
  cases hx:x==n with
  | true =>
   simp only[List.lookup_cons,hx] at h
   cases h
   simp only[List.map_cons]
   split
   ·left;simp[List.lookup_cons,hx]
   ·right;simp[List.lookup_cons,hx]
  | false =>
   simp only[List.lookup_cons,hx] at h
   simp only[List.map_cons]
   split
   ·simp only[List.lookup_cons,hx];exact ih h
   ·simp only[List.lookup_cons,hx];exact ih h
theorem of_relabel {env:Env}:∀ {names:List (Str × NameKind)}{x:Str}{k':NameKind},
    (names.map fun (n,k)=>if (k==NameKind.free&&env.scope.kind==.function&&env.kindOf n==some .cell) then (n,NameKind.cell) else (n,k)).lookup x=some k' ->
    k'=.cell∨k'=.free->(∀y∈names,y.2≠NameKind.cell)->∃y∈names,y.1=x/\y.2=.free
 | [],_,_,h,_,_=>by simp at h
 | (n, k) :: r, x, k', h, hk, nc => by
  have ih:=@of_relabel env r x k'
  simp only[List.map_cons] at h
  cases hx:x==n with
  | true =>
   have ex:x=n:=LawfulBEq.eq_of_beq hx
   refine⟨(n,k),List.mem_cons_self,ex.symm,?_⟩
   have nck:k≠.cell:=nc (n,k) List.mem_cons_self
   by_cases z:k=.free
   ·exact z
   ·have zb:(k==NameKind.free)=false:=by simpa using z
    simp only[zb,Bool.false_and,Bool.false_eq_true,if_false,List.lookup_cons,hx] at h
    cases h
    rcases hk with q | q
    ·exact absurd q nck
    ·exact absurd q z
  | false =>
   have h':(r.map fun (n,k)=>if (k==NameKind.free&&env.scope.kind==.function&&env.kindOf n==some .cell) then (n,NameKind.cell) else (n,k)).lookup x=some k':=by
    split at h
    ·simpa only[List.lookup_cons,hx] using h
    ·simpa only[List.lookup_cons,hx] using h
   obtain⟨y,hy,a,b⟩:=ih h' hk fun z hz=>nc z (List.mem_cons_of_mem _ hz)
   exact⟨y,List.mem_cons_of_mem _ hy,a,b⟩
section
variable {X:Cx}{pins:List (Addr × Obj)}{σ:St}{H:Hp}{s:Shared}
def PTs (X:Cx) (ifs:List Expr) (t:TT):Prop :=
 ∀(pins:List (Addr × Obj)) (s:Shared) (σ:St) (H:Hp) (Q:Bool->Hp->Prop),Inv X pins σ H s->t σ H Q ->
  wpAny (model X.prog X.w) X.A (forIn ifs true fun c r=>if r=true then do let ok ← isTrue c X.env (eval c X.env);pure (ForInStep.yield ok) else pure (ForInStep.yield r)) (TP X pins σ Q) X.xe s
def tYes:TT:=fun _ H Q=>Q true H
theorem pts_nil:PTs X [] tYes:=fun _ _ _ H _ I h=>wpAny_tests_nil ⟨H,I,h⟩
theorem pts_one (h:PT X c t):PTs X [c] t:=fun pins s σ H Q I q=>wpAny_tests_one (h pins s σ H Q I q)
theorem nx (h:wpAny M A t Q (fun _ _=>False) s) (hQ:∀a s,Q a s->Q' a s):wpAny M A t Q' E s :=
 wpAny_mono h hQ fun _ _ f=>f.elim
theorem inv_block {scope:Scope}{own:List Str}{fr:List Nat}{N:List Str}{cl:List (Str × Addr)}{s3 s4:Shared}{H3:Hp}{fp:List Addr}{m:Str -> Option Value}
    (hc:X.calm=true) (S:CompSc X.env.scope scope X.N own fr N)
    (c1:∀x c,cl.lookup x=some c->X.env.cells.lookup x=some c) (c2:∀y∈scope.names,y.2=NameKind.free->∃c,cl.lookup y.1=some c)
    (I3:Inv X pins σ H3 s3) (f3:∀b∈fp,FpOk X pins H3 b/\b<s3.heap.objs.size)
    (hk:∀b o,s3.heap.get? b=some o->s4.heap.get? b=some o) (hn:s4.heap.Ns s3.heap.objs.size m) (ho:s4.os=s3.os) (hg:s4.gens=s3.gens) :
    Inv (cxC X scope N cl s3.heap.objs.size s3 H3 fp) [] (inSt own.length fr σ) H3 s4:=by
 have kindF:(compEnvC scope cl s3.heap.objs.size X.env).scope.kind=.function:=by
  show (relabel scope X.env).kind=.function
  exact S.kind
 refine⟨⟨I3.ok.mod,kindF,I3.ok.glob,I3.ok.blt,Nat.le_refl _,?_,?_,?_,I3.ok.hd,I3.ok.frames,.inl rfl,?_,?_,?_,?_,?_,I3.stack,I3.stkFree⟩,ho,?_,Un.kept hk,⟨m,hn,?_⟩,?_,?_,?_,?_,I3.hok.kept hk,?_⟩
 ·exact fun x y c h1 h2=>I3.ok.inj x y c (c1 x c h1) (c1 y c h2)
 ·intro x hx
  have hx':(relabel scope X.env).names.lookup x=some .cell∨(relabel scope X.env).names.lookup x=some .free:=hx
  obtain⟨k',hk',hkk⟩:∃k',(relabel scope X.env).names.lookup x=some k'/\(k'=NameKind.cell∨k'=NameKind.free):=by
   rcases hx' with q | q
   ·exact⟨_,q,.inl rfl⟩
   ·exact⟨_,q,.inr rfl⟩
  obtain⟨y,hy,e,hf⟩:=of_relabel (env:=X.env) hk' hkk S.nocell
  subst e
  exact c2 y hy hf
 ·exact fun x c h=>by cases h
 ·intro b hb
  obtain⟨f,hl⟩:=f3 b hb
  refine⟨Nat.ne_of_lt hl,fun x c h=>f.2.2.2.2.1 x c (c1 x c h)⟩
 ·exact fun b o e=>I3.bs b o e
 ·exact Nat.le_trans I3.ok.bsz I3.sz
 ·intro b o e hb
  obtain⟨f,hl⟩:=f3 b hb
  rcases f.2.2.2.1 with z | z
  ·exact I3.ok.noex b o e z
  ·exact absurd (Nat.lt_of_lt_of_le (Heap.lt_size e) (Nat.le_trans I3.ok.bsz z)) (Nat.lt_irrefl _)
 ·intro b hb
  obtain⟨f,hl⟩:=f3 b hb
  show b∉frs X.stack
  intro z
  rcases List.mem_cons.mp (I3.stkSub b z) with q | q
  ·exact f.2.1 q
  ·exact f.2.2.1 q
 ·rw[hg];exact I3.bare
 ·intro i x v h1 h2 h3
  have h1:N[i]? = some x:=h1
  obtain⟨m0,hn0,hl0⟩:=I3.loc
  have hi:own.length<=i:=by
   refine Nat.le_of_not_lt fun q=>?_
   unfold inSt at h2
   rw[List.getElem?_append_left (by simpa using q),List.getElem?_replicate] at h2
   split at h2 <;> cases h2
  obtain⟨j,rfl⟩:=Nat.exists_eq_add_of_le hi
  have h2':(fr.map fun i=>(σ[i]?).join)[j]? = some (some v):=by
   unfold inSt at h2
   rw[List.getElem?_append_right (by simp)] at h2
   simpa using h2
  rw[List.getElem?_map] at h2'
  cases ej:fr[j]? with
  | none=>rw[ej] at h2';cases h2'
  | some k =>
   rw[ej] at h2'
   have e2:(σ[k]?).join=some v:=Option.some.inj h2'
   have eσ:σ[k]? = some (some v):=by
    cases q:σ[k]? with
    | none=>rw[q] at e2;cases e2
    | some o=>rw[q] at e2;exact congrArg some e2
   have eN:X.N[k]? = some x:=by
    have q:=congrArg (fun l=>l[own.length+j]?) S.names
    simp only[List.getElem?_map,h1,List.getElem?_append_right (show (own.map some).length<=own.length+j by simp),List.length_map,Nat.add_sub_cancel_left,ej,Option.map_some] at q
    exact(Option.some.inj q).symm
   have ok:=List.all_eq_true.mp S.outer k (List.mem_of_getElem? ej)
   rw[eN] at ok
   simp only[Bool.and_eq_true,Bool.or_eq_true,decide_eq_true_eq] at ok
   obtain⟨ok1,ok2⟩:=ok
   have vis:Vis X.env.scope x:=.inr ok1
   obtain⟨u,r,l⟩:=hl0 k x v eN eσ vis
   refine⟨u,r,?_⟩
   rcases l with⟨l,_⟩ | ⟨_,c,e,z⟩
   ·have l:X.env.scope.names.lookup x=some .local:=l
    rcases ok1 with q | q
    ·rw[l] at q;cases q
    ·rw[l] at q;cases q
   ·obtain⟨c',e'⟩:=c2 (x,.free) (PySem.mem_of_lookup ok2) rfl
    have e':cl.lookup x=some c':=e'
    have ec:c'=c:=Option.some.inj ((c1 x c' e').symm.trans e)
    subst ec
    refine .inr ⟨lookup_relabel_free (env:=X.env) ok2,c',e',?_⟩
    obtain⟨o,h1,h2⟩:=z
    exact⟨o,hk _ _ h1,h2⟩
 ·intro x c e
  obtain⟨v,o,h1,h2⟩:=I3.cell x c (c1 x c e)
  exact⟨v,o,hk _ _ h1,h2⟩
 ·exact I3.hok.fresh (Nat.le_refl _)
 ·exact fun x c e=>I3.freeC x c (c1 x c e)
 ·intro p hp
  exact absurd hp (by simp[cxC])
 ·show (inSt own.length fr σ).length=N.length
  rw[S.len]
  simp[inSt]
end
section
variable {prog:Program}{w:World}{A:Around}{R:Result->Shared->Prop}{s:Shared}
theorem comp_loop (J:Nat -> Shared -> Prop)
    (turn:∀k s, J k s -> ∀E:Value -> Shared -> Prop, wpAny (model prog w) A (pyNext it) (fun r s1 => match r with
     | none=>R (.ok .next) s1
     | some v => wpAny (model prog w) A (letOwnedTupleGo tg it v) (fun _ s2 => wpAny (model prog w) A (assign tg env v) (fun _ s3 =>
         wpAny (model prog w) A (forIn ifs true fun c r=>if r=true then do let ok ← isTrue c env (eval c env);pure (ForInStep.yield ok) else pure (ForInStep.yield r)) (fun ok s4 =>
          if ok=true then wpAny (model prog w) A (eval elt env) (fun x s5=>wpAny (model prog w) A (call (.builtin "list.append") [acc,x]) (fun _ s6=>∃m,m<k/\J m s6) E s5) E s4
          else ∃m,m<k/\J m s4) E s3) E s2) E s1) E s)
    (k:Nat) (h:J k s):codeAny (model prog w) A (.compLoop (.ListComp elt [⟨tg,iter,ifs,0⟩] scope pos) 0 it acc env) R s:=by
 refine codeAny_loop rfl J (fun k s hJ=>?_) k h
 show wpAny _ A ((compTurn (.ListComp elt [⟨tg,iter,ifs,0⟩] scope pos) 0 it acc env).onRaise (fun e=>do noteFrame e env;theTreesLotGoes e)) _ _ s
 refine wpAny_noted ?_
 rw[compTurn_list]
 refine wpAny_bind (wpAny_standAt (wpAny_bind (thn (turn k s hJ _) fun r s1 h1=>?_)))
 cases r with
 | none=>exact wpAny_pure h1
 | some v =>
  refine wpAny_bind (thn h1 fun _ s2 h2=>wpAny_bind (thn h2 fun _ s3 h3=>wpAny_bind (thn h3 fun ok s4 h4=>?_)))
  cases ok with
  | false=>exact wpAny_pure ⟨rfl,h4⟩
  | true=>exact wpAny_bind (wpAny_bind (thn h4 fun x s5 h5=>wpAny_bind (thn h5 fun _ s6 h6=>wpAny_pure (wpAny_pure ⟨rfl,h6⟩))))
end
def tCompW (k:Nat) (fr:List Nat) (g:TG) (tc:TT) (te:TE) (J:It) (σ:St) (H1:Hp) (Q:VK):Prop :=
 ∀D,H1 D=none->∃W:Nat->Nat->List V->St->Hp->Prop,(∃m,W 0 m [] (inSt k fr σ) (upd H1 D (.lst [])))/\∀i m acc σ' H',W i m acc σ' H'->H' D=some (.lst acc) ->
  (J.stop i H'/\Q (.ref D) H')∨(J.go i H'/\∃N:List V->St->Hp->Prop,(∀acc' σ2 H2,N acc' σ2 H2->∃m',m'<m/\W (i+1) m' acc' σ2 H2)/\∀x H2,J.yld i H' x H2->g x σ' H2 fun σ2 H3=>tc σ2 H3 fun b H4 =>
   if b=true then te σ2 H4 fun y H5=>H5 D=some (.lst acc)/\acc.length<sizeLine/\N (acc++[y]) σ2 (upd H5 D (.lst (acc++[y])))
   else H4 D=some (.lst acc)/\N acc σ2 H4)
def tComp (k:Nat) (fr:List Nat) (wi:TI) (g:TG) (tc:TT) (te:TE):TE:=fun σ H Q=>wi σ H fun J H1=>tCompW k fr g tc te J σ H1 Q
section
variable {X:Cx}{pins:List (Addr × Obj)}{σ:St}{H:Hp}{s:Shared}{tg elt iter:Expr}{ifs:List Expr}{scope:Scope}{pos:Pos}
theorem comp_block {own:List Str}{fr:List Nat}{N:List Str}{cl:List (Str × Addr)}{fp:List Addr}{J:It}{tn:Nat -> Heap -> Prop}{POST:Value -> Addr -> Result -> Shared -> Prop}
    (hc:X.calm=true) (S:CompSc X.env.scope scope X.N own fr N)
    (c1:∀x c,cl.lookup x=some c->X.env.cells.lookup x=some c) (c2:∀y∈scope.names,y.2=NameKind.free->∃c,cl.lookup y.1=some c)
    (hg:∀C s₀ H₀ ex,PG (cxC X scope N cl C s₀ H₀ ex) tg g) (ht:∀C s₀ H₀ ex,PTs (cxC X scope N cl C s₀ H₀ ex) ifs tc) (he:∀C s₀ H₀ ex,PE (cxC X scope N cl C s₀ H₀ ex) elt te)
    (I2:Inv X pins σ H2 s2) (T:Turn X.prog X.w X.K tg J fp it tn) (t2:tn 0 s2.heap) (f2:∀b∈fp,FpOk X pins H2 b) (q:tCompW own.length fr g tc te J σ H2 Q)
    (fin:∀D C s' H' m,Inv X pins σ H' s'->FpOk X pins H' C->s'.heap.Ns C m->Q (.ref D) H'->POST (.ref D) C (.ok .next) s') :
    wpAny (model X.prog X.w) X.A (newList []) (fun acc s3=>wpAny (model X.prog X.w) X.A (newFunctionEnv scope X.env.globals cl [] X.env.qual none .none (some X.env)) (fun cenv s4 =>
     codeAny (model X.prog X.w) X.A (.compStart (.ListComp elt [⟨tg,iter,ifs,0⟩] scope pos) 0 (.ref it) acc { cenv with scope:=relabel scope X.env }) (POST acc cenv.locals) s4) E s3) E s2:=by
 refine wpAny_newObj_type (wpAny_newFunctionEnv S.nocell (by intro y hy;simp at hy) (fun h4 ns4 sb4=>?_) S.kind)
 dsimp only at ns4 sb4 ⊢
 have hD:H2 s2.heap.objs.size=none:=I2.hok.fresh (Nat.le_refl _)
 obtain⟨W,⟨m0,w0⟩,turn⟩:=q s2.heap.objs.size hD
 have I3:Inv X pins σ (upd H2 s2.heap.objs.size (.lst [])) { s2 with heap:=s2.heap.push { cls:=.type "list",dict:=none,data:=.seq ([]:List Value).toArray },toks:=s2.toks } :=
  I2.laid (fun b u q=>Heap.get?_push_of_some _ q) (Nat.le_refl _) ⟨Nat.zero_le _,[],_,.nil,Heap.get?_push_size _ rfl⟩
 generalize hh3:s2.heap.push { cls:=.type "list",dict:=none,data:=.seq ([]:List Value).toArray }=h3 at *
 have z3:h3.objs.size=s2.heap.objs.size+1:=by rw[<- hh3,Heap.size_push]
 have k23:∀b o,s2.heap.get? b=some o->h3.get? b=some o:=fun b o e=>by rw[<- hh3];exact Heap.get?_push_of_some _ e
 have k34:∀b o,h3.get? b=some o->h4.get? b=some o:=fun b o e=>sb4.extBut b o (Nat.ne_of_lt (Heap.lt_size e)) (Heap.get?_push_of_some _ e)
 have fpl:∀b∈fp,b<s2.heap.objs.size:=fun b hb=>by
  obtain⟨o,e,_⟩:=T.obj _ _ t2 b hb
  exact Heap.lt_size e
 have f3:∀b∈fp,FpOk X pins (upd H2 s2.heap.objs.size (.lst [])) b/\b<h3.objs.size:=fun b hb=>by
  refine⟨⟨?_,(f2 b hb).2⟩,by rw[z3];exact Nat.lt_succ_of_lt (fpl b hb)⟩
  rw[upd_ne (Nat.ne_of_lt (fpl b hb))]
  exact(f2 b hb).1
 generalize hs3:({ s2 with heap:=h3,toks:=s2.toks }:Shared)=s3 at I3
 have es3:s3.heap=h3:=by rw[<- hs3]
 have hs3':({ s2 with heap:=h3 }:Shared)=s3:=hs3
 have I4:=inv_block (s3:=s3) (s4:={ s3 with heap:=h4,toks:=s3.toks+([]:List (Str × Value)).length }) hc S c1 c2 I3 (by rw[es3];exact f3) (by rw[es3];exact k34) (m:=fun x=>([]:List (Str × Value)).reverse.lookup x) (by rw[es3];exact ns4) rfl rfl
 rw[es3] at I4
 have stat:∀ {H':Hp} {s':Shared} {σ':St} {pl:List (Addr × Obj)},Inv (cxC X scope N cl h3.objs.size s3 (upd H2 s2.heap.objs.size (.lst [])) fp) pl σ' H' s'->(∀p∈pl,p.1∉fp)->(∀b∈fp,H' b=none)->∀b∈fp,FpOk (cxC X scope N cl h3.objs.size s3 (upd H2 s2.heap.objs.size (.lst [])) fp) pl H' b:=fun {H' s' σ' pl} I' hpl hn b hb=>by
  refine⟨hn b hb,Nat.ne_of_lt (f3 b hb).2,I'.ok.exfs b hb,.inl hb,fun x c e=>(f2 b hb).2.2.2.2.1 x c (c1 x c e),fun p hp=>?_⟩
  intro z
  exact hpl p (by simpa [cxC] using hp) (z ▸ hb)
 have loop:∀s4:Shared, s4={ s3 with heap := h4, toks := s3.toks+([]:List (Str × Value)).length } ->
     codeAny (model X.prog X.w) X.A (.compLoop (.ListComp elt [⟨tg,iter,ifs,0⟩] scope pos) 0 (.ref it) (.ref s2.heap.objs.size) (compEnvC scope cl h3.objs.size X.env)) (POST (.ref s2.heap.objs.size) h3.objs.size) s4:=by
  rintro s4 rfl
  refine comp_loop (fun n s'=>∃i acc σ' H',Inv (cxC X scope N cl h3.objs.size s3 (upd H2 s2.heap.objs.size (.lst [])) fp) [] σ' H' s'/\tn i s'.heap/\(∀b∈fp,H' b=none)/\H' s2.heap.objs.size=some (.lst acc)/\W i n acc σ' H') ?_ m0
   ⟨0,[],_,_,I4,T.keep _ _ _ t2 fun b hb o e=>k34 b o (k23 b o e),fun b hb=>(f3 b hb).1.1,upd_same,w0⟩
  rintro n s5 ⟨i,acc,σ5,H5,I5,t5,fr5,d5,w5⟩ E'
  rcases turn i n acc σ5 H5 w5 d5 with⟨stop,qn⟩ | ⟨go,NN,hNN,step⟩
  ·refine thn (T.done (cxC X scope N cl h3.objs.size s3 (upd H2 s2.heap.objs.size (.lst [])) fp) rfl rfl rfl hc i [] s5 σ5 H5 E' I5 (stat I5 (by simp) fr5) t5 stop) fun r s6 ⟨hr,I6⟩=>?_
   subst hr
   obtain⟨m6,n6,_⟩:=id I6.loc
   have J6:Inv X pins σ H5 s6:=I3.call' (ch:=fp) I6.os I6.base I6.hok I6.bare fun b hb=>⟨(f2 b hb).2.2.2.1,(f2 b hb).2.1,(f2 b hb).2.2.2.2.1,(f2 b hb).2.2.2.2.2⟩
   exact fin _ _ s6 H5 m6 J6 (I2.fpOk (by rw[z3];exact Nat.le_succ _) I6.free) n6 qn
  ·refine thn (T.item (cxC X scope N cl h3.objs.size s3 (upd H2 s2.heap.objs.size (.lst [])) fp) rfl rfl rfl hc i [] s5 σ5 H5 E' I5 (stat I5 (by simp) fr5) t5 go) fun r s6 ⟨u,hr,h6⟩=>?_
   subst hr
   refine thn h6 fun _ s7 ⟨x,H7,I7,r7,y7,t7,fr7⟩=>?_
   have I7':=I7.pinned (stat I7 (by simp) fr7) (T.obj _ _ t7)
   have backTn:∀ {s':Shared} {H':Hp} {σ':St},Inv (cxC X scope N cl h3.objs.size s3 (upd H2 s2.heap.objs.size (.lst [])) fp) ([]++pinsAt fp s7.heap) σ' H' s'->tn (i+1) s'.heap/\∀b∈fp,H' b=none:=fun {s' H' σ'} I'=>by
    refine⟨T.keep _ _ _ t7 fun b hb o e=>(I'.pin (b,o) (List.mem_append_right _ (List.mem_append_right _ (mem_pinsAt hb e)))).1,fun b hb=>?_⟩
    obtain⟨o,e,_⟩:=T.obj _ _ t7 b hb
    exact(I'.pin (b,o) (List.mem_append_right _ (List.mem_append_right _ (mem_pinsAt hb e)))).2.1
   refine nx (hg _ _ _ _ _ s7 σ5 H7 x u _ I7' r7 (step x H7 y7)) fun _ s8 ⟨σ8,H8,I8,q8⟩=>?_
   refine nx (ht _ _ _ _ _ s8 σ8 H8 _ I8 q8) fun ok s9 ⟨H9,I9,q9⟩=>?_
   cases ok with
   | false =>
    obtain⟨d9,n9⟩:=q9
    obtain⟨m',hm,w9⟩:=hNN _ _ _ n9
    obtain⟨a1,a2⟩:=backTn I9
    exact⟨m',hm,i+1,acc,σ8,H9,I9.unpinned,a1,a2,d9,w9⟩
   | true =>
    rw[if_pos rfl]
    refine nx (he _ _ _ _ _ s9 σ8 H9 _ I9 q9) fun y s10 ⟨v,H10,I10,r10,d10,l10,n10⟩=>?_
    obtain⟨m',hm,w10⟩:=hNN _ _ _ n10
    refine nx (mt_append _ s10 σ8 H10 (.ref s2.heap.objs.size) [v] (.ref s2.heap.objs.size) [y] (fun _ H'=>H'=upd H10 s2.heap.objs.size (.lst (acc++[v]))) I10 rfl (.cons r10 .nil) ⟨_,acc,v,rfl,rfl,d10,l10,rfl⟩) fun _ s11 ⟨_,H11,I11,_,e11⟩=>?_
    subst e11
    obtain⟨a1,a2⟩:=backTn I11
    exact⟨m',hm,i+1,_,σ8,_,I11.unpinned,a1,a2,upd_same,w10⟩
 exact codeAny_compStart_list (loop _ (by rw[<- hs3])) (T.self _ 0 _ _ _ (T.keep _ _ _ t2 fun b hb o e=>k34 b o (k23 b o e)) (loop _ (by rw[<- hs3])))
theorem pe_comp (osc:Scope) (NX own:List Str) (fr:List Nat) (N:List Str) (hc:X.calm=true)
    (hi:PI X tg iter wi) (hg:∀cl C s₀ H₀ ex,PG (cxC X scope N cl C s₀ H₀ ex) tg g) (ht:∀cl C s₀ H₀ ex,PTs (cxC X scope N cl C s₀ H₀ ex) ifs tc) (he:∀cl C s₀ H₀ ex,PE (cxC X scope N cl C s₀ H₀ ex) elt te)
    (hs:∀x,foldedSetIterable iter X.env x=pure x:=by intro _;rfl) (hosc:X.env.scope=osc:=by rfl) (hNX:X.N=NX:=by rfl) (hS:compOk osc scope NX own fr N=true:=by decide +kernel) :
    PE X (.ListComp elt [⟨tg,iter,ifs,0⟩] scope pos) (tComp own.length fr wi g tc te):=by
 intro pins s σ H Q I h
 have S:CompSc X.env.scope scope X.N own fr N:=by rw[hosc,hNX];exact CompSc.of hS
 obtain⟨cl,ecl,c1,c2⟩:=clos_ok (scope:=scope) (env:=X.env) fun y hy hf=>I.ok.has y.1 (S.free y hy hf)
 rw[eval_ListComp]
 refine wpAny_comprehension_free (use:=none) rfl hs ecl S.kind S.loc (thn (hi pins s σ H _ I h) fun v s1 h1=>thn h1 fun itv s2 h2=>?_)
 obtain⟨it,fp,tn,J,H2,e,I2,T,t2,f2,q⟩:=h2
 subst e
 refine comp_block (POST:=fun acc C=>compPost (model X.prog X.w) X.A X.xe none (EP X pins σ Q) acc C) hc S c1 c2 (hg cl) (ht cl) (he cl) I2 T t2 f2 q fun D C s' H' m I' fC ns q'=>?_
 refine⟨m,ns,fun h' sb=>⟨.ref D,H',?_,rfl,q'⟩⟩
 obtain⟨g0,g1,_,g3,g4,g5⟩:=fC
 exact I'.turned (t':=s'.toks) (fun b o hb e=>(sb.2 b hb).trans e) g0 g1 g3 g4 g5
theorem ps_setC (hN:X.N.Nodup) (hi':X.N[i]? = some x) (hx:X.env.scope.names.lookup x=some .local)
    (hsw:swapsWith (.ListComp elt [⟨tg,iter,ifs,0⟩] scope pos) (some (.Name x px)) spos.line X.env=pure true)
    (osc:Scope) (NX own:List Str) (fr:List Nat) (N:List Str) (hc:X.calm=true)
    (hi:PI X tg iter wi) (hg:∀cl C s₀ H₀ ex,PG (cxC X scope N cl C s₀ H₀ ex) tg g) (ht:∀cl C s₀ H₀ ex,PTs (cxC X scope N cl C s₀ H₀ ex) ifs tc) (he:∀cl C s₀ H₀ ex,PE (cxC X scope N cl C s₀ H₀ ex) elt te)
    (hs:∀x,foldedSetIterable iter X.env x=pure x:=by intro _;rfl) (hosc:X.env.scope=osc:=by rfl) (hNX:X.N=NX:=by rfl) (hS:compOk osc scope NX own fr N=true:=by decide +kernel) :
    PS X (.Assign [.Name x px] (.ListComp elt [⟨tg,iter,ifs,0⟩] scope pos) spos) (tAsg (tComp own.length fr wi g tc te) (gName i)):=by
 intro pins s σ H D I h
 have S:CompSc X.env.scope scope X.N own fr N:=by rw[hosc,hNX];exact CompSc.of hS
 obtain⟨cl,ecl,c1,c2⟩:=clos_ok (scope:=scope) (env:=X.env) fun y hy hf=>I.ok.has y.1 (S.free y hy hf)
 rw[exec_Assign_Name_used _ _ _ _ hsw]
 refine wpAny_bind (wpAny_standAt (wpAny_bind ?_))
 show wpAny _ X.A (do let _ ← comprehension (.ListComp elt [⟨tg,iter,ifs,0⟩] scope pos) scope X.env _ (newList []) false (eval iter X.env) (some (assign (.Name x px) X.env))) _ _ s
 refine wpAny_bind (thn (wpAny_comprehension_free (use:=some (assign (.Name x px) X.env)) (Q:=fun _ s'=>SP X pins D .next s') rfl hs ecl S.kind S.loc (thn (hi pins s σ H _ I h) fun v s1 h1=>thn h1 fun itv s2 h2=>?_)) fun _ s' hq=>wpAny_pure (wpAny_pure hq))
 obtain⟨it,fp,tn,J,H2,e,I2,T,t2,f2,q⟩:=h2
 subst e
 refine comp_block (POST:=fun acc C=>compPost (model X.prog X.w) X.A X.xe (some (assign (.Name x px) X.env)) (fun _ s'=>SP X pins D .next s') acc C) hc S c1 c2 (hg cl) (ht cl) (he cl) I2 T t2 f2 q fun D' C s' H' m I' fC ns q'=>?_
 show wpAny _ X.A (assign (.Name x px) X.env (.ref D')) _ _ s'
 refine wpAny_assign_Name (store_ok2 I' hN hi' (.inl hx) (show RelV (.ref D') (.ref D') from rfl) (fun s3 I3 sb=>?_) (.inr hx))
 obtain⟨a,sb,ha⟩:=sb
 obtain⟨g0,g1,g2,g3,g4,g5⟩:=fC
 have aC:C≠a:=by
  rcases ha with z | z
  ·rw[z];exact g1
  ·exact fun w=>g4 x a z w.symm
 refine⟨m,ns.sameBut sb aC,fun h' sb'=>⟨_,H',?_,q'⟩⟩
 exact I3.turned (t':=s3.toks) (fun b o hb e=>(sb'.2 b hb).trans e) g0 g1 g3 g4 g5
end
end L2
namespace L2
open PySem PySem.Spec PyProof.Rows
def sgV (x:Str) (i:Nat):Option V:=(x.cps[i]?).map fun c=>V.str ⟨#[c]⟩
def Its (x:Str):It:=⟨fun i _=>i<x.cps.size,fun i H v H'=>H'=H/\sgV x i=some v,fun i _=>x.cps.size<=i⟩
theorem turn_signs {P:Program}{w:World}{K:W.Frag}{tg:Expr}(T:String) (it:Addr) (x:Str) (t:Tok)
    (hn:["enumerate","zip","dict_itemiterator","dict_reverseitemiterator","odict_iterator","itertools.zip_longest","itertools.pairwise"].contains T=false)
    (W:∀A:Around,A.handled=none->Walks P w A it [it] [it] x.cps.size (SignAt x) (fun i h=>h.IsStrIter it T x t i))
    (hs:∀(A:Around) (i:Nat) (s:Shared) (Q:Value->Shared->Prop) (E:Value->Shared->Prop),s.heap.IsStrIter it T x t i->Q (.ref it) s->wpAny (model P w) A (pyIter (.ref it)) Q E s) :
    Turn P w K tg (Its x) [it] it (fun i h=>h.IsStrIter it T x t i/\i<=x.cps.size) where
 mem:=by simp
 obj:=fun i h st b hb=>by
  have e:b=it:=by simpa using hb
  subst e
  obtain⟨o,e,c,d⟩:=st.1
  exact⟨o,e,fun v z=>by rw[d] at z;cases z⟩
 keep:=fun i h h' st k=>⟨by
  obtain⟨o,e,c⟩:=st.1
  exact⟨o,k it (by simp) o e,c⟩,st.2⟩
 item:=by
  intro X hP hw hK hc i pins s σ H E I hf st hg
  subst hP hw hK
  obtain⟨f0,f1,f2,f3,f4,f5⟩:=hf it (by simp)
  refine(W X.A (I.ok.hd hc)).item i s _ _ hg st.1 fun v h' tk hv st' kk=>?_
  obtain⟨c,u,hcp,rfl⟩:=hv
  have I1:Inv X pins σ H { s with heap:=h',toks:=tk }:=I.turned (fun b o hb e=>kk b o (by simpa using hb) e) f0 f1 f3 f4 f5
  obtain⟨o,e,cc,d⟩:=id st'
  refine⟨_,rfl,go_of (s:={ s with heap:=h',toks:=tk }) e cc d hn ⟨.str ⟨#[c]⟩,H,I1,⟨u,rfl⟩,⟨rfl,?_⟩,⟨st',?_⟩,fun b hb=>(hf b hb).1⟩⟩
  ·unfold sgV;rw[hcp];rfl
  ·exact hg
 done:=by
  intro X hP hw hK hc i pins s σ H E I hf st hg
  subst hP hw hK
  obtain⟨f0,f1,f2,f3,f4,f5⟩:=hf it (by simp)
  have e:i=x.cps.size:=Nat.le_antisymm st.2 hg
  subst e
  exact(W X.A (I.ok.hd hc)).done s _ _ st.1 fun h' tk kk=>⟨rfl,I.turned (fun b o hb e=>kk b o (by simpa using hb) e) f0 f1 f3 f4 f5⟩
 self:=fun A i s Q E st h=>hs A i s Q E st.1 h
def iStr (tl:TE):TI:=fun σ H R=>tl σ H fun x H1=>∃z,x=.str z/\R (Its z) H1
theorem pi_str {X:Cx}{tg l:Expr}{tl:TE}(hl:PE X l tl):PI X tg l (iStr tl) := by
 intro pins s σ H R I h
 refine thn (hl pins s σ H _ I h) fun v s1 ⟨x,H1,I1,r1,q1⟩=>?_
 obtain⟨z,e,q⟩:=q1
 subst e
 obtain⟨t,rfl⟩:=r1
 have fin:∀(T:String),["enumerate","zip","dict_itemiterator","dict_reverseitemiterator","odict_iterator","itertools.zip_longest","itertools.pairwise"].contains T=false ->
     (∀A:Around,A.handled=none->Walks X.prog X.w A s1.heap.objs.size [s1.heap.objs.size] [s1.heap.objs.size] z.cps.size (SignAt z) (fun i h=>h.IsStrIter s1.heap.objs.size T z t i)) ->
     (∀(A:Around) (i:Nat) (s:Shared) (Q:Value->Shared->Prop) (E:Value->Shared->Prop),s.heap.IsStrIter s1.heap.objs.size T z t i->Q (.ref s1.heap.objs.size) s->wpAny (model X.prog X.w) A (pyIter (.ref s1.heap.objs.size)) Q E s) ->
     PIE X pins σ tg R (.ref s1.heap.objs.size) { s1 with heap:=s1.heap.push { cls:=.type T,data:=.fields #[.str z t,.int 0 0] } }:=fun T hn W hs=>by
  refine⟨_,[s1.heap.objs.size],_,_,H1,rfl,I1.kept (t':=s1.toks) fun b o e=>Heap.get?_push_of_some _ e,turn_signs T _ z t hn W hs,⟨⟨_,Heap.get?_push_size _ rfl,rfl,rfl⟩,Nat.zero_le _⟩,fun b hb=>?_,q⟩
  have e:b=s1.heap.objs.size:=by simpa using hb
  subst e
  exact I1.fpOk (Nat.le_refl _) (I1.hok.fresh (Nat.le_refl _))
 cases ha:z.cps.all (·<128)
 ·exact wpAny_pyIter_wide ha (fin "str_iterator" (by decide) (fun A hA=>Walks.strWide hA _ z t) fun A i s Q E st h=>wpAny_pyIter_striter_wide st h)
 ·exact wpAny_pyIter_ascii ha (fin "str_ascii_iterator" (by decide) (fun A hA=>Walks.strAscii hA _ z t) fun A i s Q E st h=>wpAny_pyIter_striter_ascii st h)
def Ite (K:W.Frag) (a:Addr):It :=
 ⟨fun i H=>∃xs x,SqL K H a xs/\xs[i]? = some x,fun i H v H'=>∃p x,H p=none/\v=.ref p/\(∀xs,SqL K H a xs->xs[i]? = some x)/\H'=upd H p (.tup [.int i,x]),fun i H=>∃xs,SqL K H a xs/\xs.length<=i⟩
theorem turn_enum {P:Program}{w:World}{K:W.Frag}{elts:List Expr}{k:Nat}{tp:Pos}(a e it:Addr) (hne:e ≠ it) :
    Turn P w K (.Tuple elts k tp) (Ite K a) [e,it] e (fun i h=>(∃old,IsEnum h e it i old)/\h.IsListIter it a i) where
 mem:=by simp
 obj:=fun i h st b hb=>by
  obtain⟨⟨old,he⟩,hit⟩:=st
  have hb:b=e∨b=it:=by simpa using hb
  rcases hb with z | z
  ·subst z
   exact⟨_,he,fun v z=>by cases z⟩
  ·subst z
   obtain⟨o,e1,c,d⟩:=hit
   exact⟨o,e1,fun v z=>by rw[d] at z;cases z⟩
 keep:=fun i h h' st kk=>by
  obtain⟨⟨old,he⟩,hit⟩:=st
  exact⟨⟨old,kk e (by simp) _ he⟩,hit.at fun o q=>kk it (by simp) o q⟩
 item := by
  intro X hP hw hK hc i pins s σ H E I hf st hg
  subst hP hw hK
  obtain⟨⟨old,he⟩,hit⟩:=st
  obtain⟨xs,x,hq,hx⟩:=hg
  obtain⟨its,rv,p,hz⟩:=I.list hq
  obtain⟨u,hu,ru⟩:=rv.get hx
  obtain⟨f0,f1,f2,f3,f4,f5⟩:=hf e (by simp)
  obtain⟨g0,g1,g2,g3,g4,g5⟩:=hf it (by simp)
  refine wpAny_pyNext_enum_item he hit p.isList (x:=u) (by simpa using hu) hne fun h1 ho hit1 ht1 hz1 k1=>?_
  have hel:e<s.heap.objs.size:=Heap.lt_size he
  have hil:it<s.heap.objs.size:=by obtain⟨o,q,_⟩:=hit;exact Heap.lt_size q
  refine⟨_,rfl,wpAny_letOwnedTupleGo_enum ho fun h2 he2 sb2=>?_⟩
  have sb2:Heap.SameBut e h1 h2:=sb2
  have T2:h2.get? s.heap.objs.size=some { cls:=.type "tuple",data:=.seq #[.int i s.toks,u] }:=(sb2.2 _ (Nat.ne_of_gt hel)).trans ht1
  have hp:H s.heap.objs.size=none:=I.hok.fresh (Nat.le_refl _)
  have nit:∀b v,H b=some v->b≠e/\b≠it:=fun b v q=>⟨fun z=>(by rw[z,f0] at q;cases q),fun z=>(by rw[z,g0] at q;cases q)⟩
  have kk:∀b o,b≠e->b≠it->s.heap.get? b=some o->h2.get? b=some o:=fun b o n1 n2 q=>(sb2.2 b n1).trans (k1 b o n1 n2 q)
  have up:∀b v,H b=some v->upd H s.heap.objs.size (.tup [.int i,x]) b=some v:=fun b v q=>by rw[upd_ne (ne_of_none q hp)];exact q
  have I1:Inv X pins σ (upd H s.heap.objs.size (.tup [.int i, x])) { s with heap := h2, gens := s.gens, drawn := s.drawn, toks := s.toks+1 } := by
   refine I.step (g':=s.gens) (d':=s.drawn) (ch:=[e,it]) (fun b hb=>?_) (fun b o _ _ hb q _=>kk b o (fun z=>hb (by simp[z])) (fun z=>hb (by simp[z])) q) (fun b o _ _ hb q _=>⟨o.slots,kk b o (fun z=>hb (by simp[z])) (fun z=>hb (by simp[z])) q⟩) (fun b o _ q n=>?_)
    (fun b o hb q=>⟨o,kk b o (fun z=>hb (by simp[z])) (fun z=>hb (by simp[z])) q⟩) (fun b ys q=>up b _ q) (fun b o v q=>up b _ q) (fun b ps q=>⟨#[],by rw[up b _ q];simp⟩) (fun m hm=>?_) (fun b v q=>?_) I.bare
   ·have hb:b=e∨b=it:=by simpa using hb
    rcases hb with z | z
    ·subst z;exact⟨f3,f1,f4,f5⟩
    ·subst z;exact⟨g3,g1,g4,g5⟩
   ·rw[upd_ne (Nat.ne_of_lt (Heap.lt_size q))];exact n
   ·obtain⟨o,es,ep,ho,r⟩:=hm
    exact⟨o,es,ep,kk _ o (Ne.symm f1) (Ne.symm g1) ho,r⟩
   ·by_cases hb:b=s.heap.objs.size
    ·subst hb
     rw[upd_same] at q
     have q':HO.tup [V.int i,x]=v:=Option.some.inj q
     subst q'
     exact⟨by show 2<=sizeLine;decide,[.int i s.toks,u],.cons ⟨_,rfl⟩ (.cons ru .nil),⟨_,T2,rfl,_,rfl,rfl⟩⟩
    ·rw[upd_ne hb] at q
     refine(I.hok b v q).stay (fun c v' hc q'=>?_) (fun c q=>up c _ q) fun c ys q=>up c _ q
     rcases hc with z | z
     ·rw[z] at q' ⊢;exact kk b v' (nit b v q).1 (nit b v q).2 q'
     ·exact kk c v' (nit c _ z).1 (nit c _ z).2 q'
  refine⟨.ref s.heap.objs.size,upd H s.heap.objs.size (.tup [.int i,x]),I1,rfl,⟨_,x,hp,rfl,fun ys hy=>by rw[I.list_inj hy hq];exact hx,rfl⟩,⟨⟨u,?_⟩,?_⟩,fun b hb=>?_⟩
  ·exact(by simpa using he2)
  ·exact hit1.at fun o q=>(sb2.2 it (Ne.symm hne)).trans q
  ·have hb:b=e∨b=it:=by simpa using hb
   rcases hb with z | z
   ·rw[z,upd_ne (Nat.ne_of_lt hel)];exact f0
   ·rw[z,upd_ne (Nat.ne_of_lt hil)];exact g0
 done:=by
  intro X hP hw hK hc i pins s σ H E I hf st hg
  subst hP hw hK
  obtain⟨⟨old,he⟩,hit⟩:=st
  obtain⟨xs,hq,hx⟩:=hg
  obtain⟨its,rv,p,hz⟩:=I.list hq
  obtain⟨g0,g1,g2,g3,g4,g5⟩:=hf it (by simp)
  have hl:=rv.length
  exact wpAny_pyNext_enum_end (I.ok.hd hc) he hit p.isList (by simp;omega) fun h' eb=>⟨rfl,I.turned (t':=s.toks) (fun b o hb q=>eb b o hb q) g0 g1 g3 g4 g5⟩
 self:=fun _ _ _ _ _ st h=>by
  obtain⟨⟨old,he⟩,_⟩:=st
  exact wpAny_pyIter_enum he h
end L2
namespace L2
open PySem PySem.Spec PyProof.Rows
mutual
inductive Rep (H:Hp):V->PyData->Prop
 | non:Rep H .non .none
 | bl (b:Bool):Rep H (.bl b) (.bool b)
 | int (i:Int):Rep H (.int i) (.int i)
 | str (x:Str):Rep H (.str x) (.str x)
 | lst {a:Addr} {xs:List V} {ds:List PyData}:H a=some (.lst xs)->RepAll H xs ds->Rep H (.ref a) (.list ds)
 | tup {a:Addr} {xs:List V} {ds:List PyData}:H a=some (.tup xs)->RepAll H xs ds->Rep H (.ref a) (.tuple ds)
inductive RepAll (H:Hp):List V->List PyData->Prop
 | nil:RepAll H [] []
 | cons {x:V} {xs:List V} {d:PyData} {ds:List PyData}:Rep H x d->RepAll H xs ds->RepAll H (x::xs) (d::ds)
end
mutual
theorem Rep.reads (ok:HOk P w H h):∀ {v:V}{d:PyData}{u:Value},Rep H v d->RelV v u->∃as,Reads h u d as
 | _,_,_,.non,r=>by cases r;exact⟨_,.none⟩
 | _,_,_,.bl b,r=>by cases r;exact⟨_,.bool b⟩
 | _,_,_,.int i,r=>by obtain⟨t,rfl⟩:=r;exact⟨_,.int i t⟩
 | _,_,_,.str x,r=>by obtain⟨t,rfl⟩:=r;exact⟨_,.str x t⟩
 | _,_,_,.lst (a:=a) (xs:=xs) e rs,r=>by
  cases r
  obtain⟨_,its,n,rv,eh⟩:=(show ObjOk P w H h a (.lst xs) from ok a _ e)
  obtain⟨as,z⟩:=RepAll.reads ok rs rv
  exact⟨_,.list eh rfl rfl (by simpa using z)⟩
 | _,_,_,.tup (a:=a) (xs:=xs) e rs,r=>by
  cases r
  obtain⟨_,its,rv,o,eh,hc,n,hd,_⟩:=(show ObjOk P w H h a (.tup xs) from ok a _ e)
  obtain⟨as,z⟩:=RepAll.reads ok rs rv
  exact⟨_,.tuple eh hc hd (by simpa using z)⟩
theorem RepAll.reads (ok:HOk P w H h):∀ {vs:List V}{ds:List PyData}{us:List Value}, RepAll H vs ds -> Vals vs us -> ∃as, ReadsAll h us ds as
 | _,_,_,.nil,r=>by cases r;exact⟨_,.nil⟩
 | _,_,_,.cons q qs,r=>by
  cases r with
  | cons r1 r2 =>
   obtain⟨as,z⟩:=Rep.reads ok q r1
   obtain⟨bs,zs⟩:=RepAll.reads ok qs r2
   exact⟨_,.cons z zs⟩
end
mutual
theorem Rep.same (s:Same H H'):∀ {v:V}{d:PyData},Rep H v d->Rep H' v d
 | _,_,.non=>.non
 | _,_,.bl b=>.bl b
 | _,_,.int i=>.int i
 | _,_,.str x=>.str x
 | _,_,.lst e rs=>.lst (s _ _ e) (rs.same s)
 | _,_,.tup e rs=>.tup (s _ _ e) (rs.same s)
theorem RepAll.same (s:Same H H'):∀ {vs:List V}{ds:List PyData},RepAll H vs ds->RepAll H' vs ds
 | _,_,.nil=>.nil
 | _,_,.cons q qs=>.cons (q.same s) (qs.same s)
end
section
variable {X:Cx}
def shp (d:PyData):Prop:=SeqAt.shaped d=true
def rEqD:R2:=fun x y H Q=>∃da db,Rep H x da/\Rep H y db/\shp da/\shp db/\Q (.bl (PyData.eqv da db)) H
def rNeD:R2:=fun x y H Q=>∃da db,Rep H x da/\Rep H y db/\shp da/\shp db/\Q (.bl (!PyData.eqv da db)) H
theorem op_eqD (hu:X.A.units+64<cLine):OpR X (compareOp .Eq) rEqD:=by
 intro pins s σ H x y v u Q I rx ry h
 obtain⟨da,db,ra,rb,sa,sb,q⟩:=h
 obtain⟨as,za⟩:=ra.reads I.hok rx
 obtain⟨bs,zb⟩:=rb.reads I.hok ry
 exact eq_dataH za zb sa sb hu ⟨.bl _,H,I,rfl,q⟩
theorem op_neD (hu:X.A.units+64<cLine):OpR X (compareOp .NotEq) rNeD:=by
 intro pins s σ H x y v u Q I rx ry h
 obtain⟨da,db,ra,rb,sa,sb,q⟩:=h
 obtain⟨as,za⟩:=ra.reads I.hok rx
 obtain⟨bs,zb⟩:=rb.reads I.hok ry
 exact ne_dataH za zb sa sb hu ⟨.bl _,H,I,rfl,q⟩
theorem op_le_str:OpR X (compareOp .LtE) (fun x y H Q=>∃i j,x=.str i/\y=.str j/\Q (.bl (!decide (j.cps.toList<i.cps.toList))) H):=by
 intro pins s σ H x y v u Q I rx ry h
 obtain⟨i,j,rfl,rfl,q⟩:=h
 obtain⟨t,rfl⟩:=rx
 obtain⟨t',rfl⟩:=ry
 exact PySem.P.le_str (fin_bl I q (by simp))
theorem all_range (bs:List Bool):((List.range bs.length).all fun i=>bs.getD i false)=bs.all id:=by
 rw[Bool.eq_iff_iff,List.all_eq_true,List.all_eq_true]
 constructor
 ·intro h b hb
  obtain⟨i,hi,rfl⟩:=List.mem_iff_getElem.mp hb
  have:=h i (by simpa using hi)
  simpa [List.getD_eq_getElem?_getD,hi] using this
 ·intro h i hi
  have hi:i<bs.length:=by simpa using hi
  have:=h bs[i] (List.getElem_mem hi)
  simpa [List.getD_eq_getElem?_getD,hi] using this
theorem vals_bl {bs:List Bool}{its:List Value}(r:Vals (bs.map V.bl) its) {i:Nat}(e:its[i]? = some v):v=.bool (bs.getD i false):=by
 have hl:=r.length
 rw[List.length_map] at hl
 have hi:i<bs.length:=by rw[hl];exact(List.getElem?_eq_some_iff.mp e).1
 obtain⟨u,hu,ru⟩:=r.get (i:=i) (x:=V.bl (bs.getD i false)) (by rw[List.getElem?_map];simp[List.getD_eq_getElem?_getD,hi])
 rw[e] at hu
 cases hu
 exact ru
theorem call_all_bl (hc:X.calm=true):CallR X (.builtin "all") (fun xs H Q=>∃p bs,xs=[.ref p]/\H p=some (.lst (List.map V.bl bs))/\Q (.bl (bs.all id)) H):=by
 intro pins s σ H xs us Q I r h
 obtain⟨p,bs,rfl,e,q⟩:=h
 obtain⟨u,rfl,ru⟩:=vals1 r
 cases ru
 obtain⟨hz,its,n,rv,eh⟩:=(show ObjOk X.prog X.w H s.heap p (.lst (List.map V.bl bs)) from I.hok p _ e)
 have hl:s.heap.IsList p its.toArray:=⟨_,eh,rfl,n,rfl⟩
 have hlen:its.length=bs.length:=by have:=rv.length;rw[List.length_map] at this;exact this.symm
 have hpl:p<s.heap.objs.size:=Heap.lt_size eh
 refine call_all_walk (wpAny_pyIter_list hl ?_)
 refine⟨s.heap.objs.size,[s.heap.objs.size,p],[s.heap.objs.size],its.toArray.size,_,_,fun i=>bs.getD i false,rfl,
  Walks.list (A:=X.A.in1) (I.ok.hd hc) _ p (Nat.ne_of_lt hpl) its.toArray,⟨⟨_,Heap.get?_push_size _ rfl,rfl,rfl⟩,⟨_,Heap.get?_push_of_some _ eh,rfl,n,rfl⟩⟩,?_,fun h' tk hk=>?_⟩
 ·intro i v s' Q' E' hv hQ'
  have hv:its[i]? = some v:=by simpa using hv
  rw[vals_bl rv hv]
  exact wpAny_pure hQ'
 ·refine⟨.bl _,H,I.kept fun b o eb=>hk b o (by simpa using Nat.ne_of_lt (Heap.lt_size eb)) (Heap.get?_push_of_some _ eb),rfl,?_⟩
  rw[List.size_toArray,hlen,all_range]
  exact q
theorem strs_of:∀ {ys:List Str}{us:List Value}, Vals (ys.map V.str) us -> StrsAre us ys
 | [],us,r=>by cases r;exact .nil
 | y::ys,us,r=>by
  cases r with
  | cons r1 r2 =>
   obtain⟨t,rfl⟩:=r1
   exact .cons y t (strs_of r2)
def rJoin:V->List V->Hp->VK->Prop:=fun x xs H Q=>∃z p ys,x=.str z/\xs=[.ref p]/\H p=some (.lst (List.map V.str ys))/\(ys.map (·.length)).sum+ys.length * z.length<=16777216/\Q (.str (Txt.join z ys)) H
theorem mt_join:MtR X "str.join" rJoin:=by
 intro pins s σ H x xs v us Q I rx rv h
 obtain⟨z,p,ys,rfl,rfl,e,hz,q⟩:=h
 obtain⟨t,rfl⟩:=rx
 obtain⟨u,rfl,ru⟩:=vals1 rv
 cases ru
 obtain⟨_,its,n,rv,eh⟩:=(show ObjOk X.prog X.w H s.heap p (.lst (List.map V.str ys)) from I.hok p _ e)
 exact join_list (D:=p) (items:=its.toArray) ⟨_,eh,rfl,n,rfl⟩ (by simpa using strs_of rv) hz fun t' k=>⟨.str _,H,I.tok k,⟨t',rfl⟩,q⟩
def rSlS:V->Option Int->Option Int->Hp->VK->Prop:=fun x lo hi H Q=>∃z,x=.str z/\z.length<=sizeLine/\Q (.str (Txt.slice z lo hi)) H
theorem sl_str:SlR X rSlS:=by
 intro pins s σ H x v vl vu lo hi sl Q I rx hs pl pu h
 obtain⟨z,rfl,hz,q⟩:=h
 obtain⟨t,rfl⟩:=rx
 refine⟨"str",_,PySem.F.slot_str_getitem.lookup,typeIs_str _ _ _,?_⟩
 obtain⟨o,h1,h2,h3⟩:=hs
 have fin:∀t' k,EP X pins σ Q (.str (Txt.slice z lo hi) t') { s with toks:=k }:=fun t' k=>⟨.str _,H,I.tok k,⟨t',rfl⟩,q⟩
 cases pl with
 | none=>cases pu with
  | none=>exact wpAny_getItem_str_slice (l:=none) (u:=none) (st:=none) ⟨o,h1,h2,h3⟩ rfl (post_val_or_str ⟨Nat.le_trans (Txt.slice_le z _ _) hz,fin⟩)
  | int j tj=>exact wpAny_getItem_str_slice (l:=none) (u:=some (j,tj)) (st:=none) ⟨o,h1,h2,h3⟩ rfl (post_val_or_str ⟨Nat.le_trans (Txt.slice_le z _ _) hz,fin⟩)
 | int i ti=>cases pu with
  | none=>exact wpAny_getItem_str_slice (l:=some (i,ti)) (u:=none) (st:=none) ⟨o,h1,h2,h3⟩ rfl (post_val_or_str ⟨Nat.le_trans (Txt.slice_le z _ _) hz,fin⟩)
  | int j tj=>exact wpAny_getItem_str_slice (l:=some (i,ti)) (u:=some (j,tj)) (st:=none) ⟨o,h1,h2,h3⟩ rfl (post_val_or_str ⟨Nat.le_trans (Txt.slice_le z _ _) hz,fin⟩)
def rIsi (K:W.Frag) (c:String):List V->Hp->VK->Prop:=fun xs H Q=>∃x t b,xs=[x,.ty c]/\TyOf K H x t/\W.kitOne K t (.type c)=some b/\Q (.bl b) H
theorem call_isi (c:String):CallR X (.builtin "isinstance") (rIsi X.K c):=by
 intro pins s σ H xs us Q I r h
 obtain⟨x,t,b,rfl,ty,e,q⟩:=h
 obtain⟨u,w',rfl,ru,rw'⟩:=vals2 r
 cases rw'
 exact isinst_ok I ru ty e fun tk=>⟨.bl b,H,I.tok tk,rfl,q⟩
theorem any_readOf (ok:HOk P w H h):∀ {xs:List V}{ds:List PyData}{us:List Value}, RepAll H xs ds -> Vals xs us -> PyData.canLayAll0 ds=true -> us.any (fun u => PyData.eqv (SeqAt.readOf h u) d)=ds.any fun e => PyData.eqv e d
 | _,_,_,.nil,r,_=>by cases r;rfl
 | _,_,_,.cons q qs,r,hl=>by
  cases r with
  | cons r1 r2 =>
   have hl':=Bool.and_eq_true_iff.mp (show (PyData.canLay0 _&&PyData.canLayAll0 _)=true from hl)
   obtain⟨as,z⟩:=q.reads ok r1
   rw[List.any_cons,List.any_cons,SeqAt.readOf_eq hl'.1 z,any_readOf ok qs r2 hl'.2]
theorem mem_readOf {P:Program}{w:World}{H:Hp}{A:Around}{s:Shared}(ok:HOk P w H s.heap) {d:PyData}{x:V}{v:Value}{bs:List Addr}(zx:Reads s.heap v d bs) (hd:d.canLay0=true) (hu:A.units+d.depth<cLine) :
    ∀ {xs:List V} {ds:List PyData} {us:List Value},RepAll H xs ds->Vals xs us->PyData.canLayAll0 ds=true->∀u∈us,SeqAt.EqAt A s u v (PyData.eqv (SeqAt.readOf s.heap u) d)
 | _,_,_,.nil,r,_=>by cases r;intro u hu;cases hu
 | _, _, _, .cons q qs, r, hl => by
  cases r with
  | cons r1 r2 =>
   have hl':=Bool.and_eq_true_iff.mp (show (PyData.canLay0 _&&PyData.canLayAll0 _)=true from hl)
   intro u hm
   rcases List.mem_cons.mp hm with rfl | hm
   ·obtain⟨as,z⟩:=q.reads ok r1
    rw[SeqAt.readOf_eq hl'.1 z]
    exact SeqAt.eqAt_reads _ _ _ _ _ _ _ _ z zx hl'.1 hd (Nat.lt_of_le_of_lt (Nat.add_le_add_left (Nat.min_le_right _ _) _) hu)
   ·exact mem_readOf (x:=x) ok zx hd hu qs r2 hl'.2 u hm
def rInD (neg:Bool):R2:=fun x y H Q=>∃p xs ds d,y=.ref p/\H p=some (.lst xs)/\RepAll H xs ds/\Rep H x d/\PyData.canLayAll0 ds=true/\d.canLay0=true/\d.depth<=16 /\
 Q (.bl (if neg then !(ds.any fun e=>PyData.eqv e d) else ds.any fun e=>PyData.eqv e d)) H
theorem op_inD (hu:X.A.units+64<cLine):OpR X (compareOp .In) (rInD false):=by
 intro pins s σ H x y v u Q I rx ry h
 obtain⟨p,xs,ds,d,rfl,e,rs,r,cs,c,dp,q⟩:=h
 cases ry
 obtain⟨_,its,n,rv,eh⟩:=(show ObjOk X.prog X.w H s.heap p (.lst xs) from I.hok p _ e)
 obtain⟨bs,zx⟩:=r.reads I.hok rx
 refine SeqAt.in_listAt (fun u=>PyData.eqv (SeqAt.readOf s.heap u) d) ⟨_,eh,rfl,n,rfl⟩ (fun w hw=>mem_readOf (x:=x) I.hok zx c (by show X.A.units+1+d.depth<cLine;omega) rs rv cs w (by simpa using hw)) ⟨.bl _,H,I,rfl,?_⟩
 rw[show its.toArray.any (fun u=>PyData.eqv (SeqAt.readOf s.heap u) d)=its.any (fun u=>PyData.eqv (SeqAt.readOf s.heap u) d) by simp,any_readOf I.hok rs rv cs]
 exact q
theorem op_notInD (hu:X.A.units+64<cLine):OpR X (compareOp .NotIn) (rInD true):=by
 intro pins s σ H x y v u Q I rx ry h
 obtain⟨p,xs,ds,d,rfl,e,rs,r,cs,c,dp,q⟩:=h
 cases ry
 obtain⟨_,its,n,rv,eh⟩:=(show ObjOk X.prog X.w H s.heap p (.lst xs) from I.hok p _ e)
 obtain⟨bs,zx⟩:=r.reads I.hok rx
 refine SeqAt.notIn_listAt (fun u=>PyData.eqv (SeqAt.readOf s.heap u) d) ⟨_,eh,rfl,n,rfl⟩ (fun w hw=>mem_readOf (x:=x) I.hok zx c (by show X.A.units+1+d.depth<cLine;omega) rs rv cs w (by simpa using hw)) ⟨.bl _,H,I,rfl,?_⟩
 rw[show its.toArray.any (fun u=>PyData.eqv (SeqAt.readOf s.heap u) d)=its.any (fun u=>PyData.eqv (SeqAt.readOf s.heap u) d) by simp,any_readOf I.hok rs rv cs]
 exact q
end
end L2
namespace L2
open PySem PySem.Spec PyProof.Rows
structure Cal (P:Program) (w:World) (K:W.Frag) (mg:Str->Option Value) (base:Heap) (k:Nat) (x:Str) (ps:List Str) (sp:Sp):Prop where
 ex:∃(f:Addr) (fd:FuncData),FnOk P w K mg base CX0 k f fd ps sp/\mg x=some (.ref f)/\W.keepIn K (.ref f)=true/\Binds K fd ps []
section
variable {X:Cx}{x:Str}{ps:List Str}{sp:Sp}{k j:Nat}{p pos:Pos}{e:Expr}{es:List Expr}{t:TA}
theorem pe_cal (c:Cal X.prog X.w X.K X.mg X.base k x ps sp) (hr:Room k X.A) (hg:Gl X x) (ha:PA X (e::es) t)
    (hs:starEach (e::es) X.env=(false,eval e X.env)::starEach es X.env:=by rfl) (hpl:(backTo pos (starEach es X.env)).any (·.1)=false:=by rfl) (hdb:(x==("__debug__":Str))=false:=by decide) :
    PE X (.Call (.Name x p) (e::es) [] pos) (tCall sp [] E0 t):=by
 obtain⟨f,fd,G,mf,kp,b⟩:=c.ex
 exact pe_call G hr hg mf kp b .nil pass0 ha (hdb:=hdb) (he:=hs) (hpl:=hpl)
end
section
variable {X:Cx}
inductive AddR (H:Hp):V->V->VK->Prop
 | int {i j:Int} {Q:VK}:Q (.int (i+j)) H->AddR H (.int i) (.int j) Q
 | str {i j:Str} {Q:VK}:i.length+j.length<=sizeLine->Q (.str (i++j)) H->AddR H (.str i) (.str j) Q
 | lst {l b:Addr} {xs zs:List V} {Q:VK}:H l=some (.lst xs)->H b=some (.lst zs)->xs.length+zs.length<=sizeLine->(∀p,H p=none->Q (.ref p) (upd H p (.lst (xs++zs))))->AddR H (.ref l) (.ref b) Q
theorem op_addX:OpR X (binaryOp .Add) (fun x y H Q=>AddR H x y Q):=by
 intro pins s σ H x y v u Q I rx ry h
 cases h with
 | int q=>exact op_add pins s σ H _ _ v u Q I rx ry ⟨_,_,rfl,rfl,q⟩
 | str hz q=>exact op_add_str pins s σ H _ _ v u Q I rx ry ⟨_,_,rfl,rfl,hz,q⟩
 | lst h1 h2 hz q=>exact op_cat pins s σ H _ _ v u Q I rx ry ⟨_,_,_,_,rfl,rfl,h1,h2,hz,q⟩
inductive EqR (neg:Bool) (H:Hp):V->V->VK->Prop
 | sc {x y:V} {Q:VK}:scal x y=true->Q (.bl (if neg then !decide (x=y) else decide (x=y))) H->EqR neg H x y Q
 | tr {x y:V} {da db:PyData} {Q:VK}:Rep H x da->Rep H y db->shp da->shp db->Q (.bl (if neg then !PyData.eqv da db else PyData.eqv da db)) H->EqR neg H x y Q
theorem op_eqX (hu:X.A.units+64<cLine):OpR X (compareOp .Eq) (fun x y H Q=>EqR false H x y Q):=by
 intro pins s σ H x y v u Q I rx ry h
 cases h with
 | sc h q=>exact op_eq pins s σ H _ _ v u Q I rx ry ⟨h,q⟩
 | tr ra rb sa sb q=>exact op_eqD hu pins s σ H _ _ v u Q I rx ry ⟨_,_,ra,rb,sa,sb,q⟩
theorem op_neX (hu:X.A.units+64<cLine):OpR X (compareOp .NotEq) (fun x y H Q=>EqR true H x y Q):=by
 intro pins s σ H x y v u Q I rx ry h
 cases h with
 | sc h q=>exact op_ne pins s σ H _ _ v u Q I rx ry ⟨h,q⟩
 | tr ra rb sa sb q=>exact op_neD hu pins s σ H _ _ v u Q I rx ry ⟨_,_,ra,rb,sa,sb,q⟩
inductive SlX (K:W.Frag) (H:Hp):V->Option Int->Option Int->VK->Prop
 | str {z:Str} {lo hi:Option Int} {Q:VK}:z.length<=sizeLine->Q (.str (Txt.slice z lo hi)) H->SlX K H (.str z) lo hi Q
 | lst {a:Addr} {xs:List V} {lo hi:Option Int} {Q:VK}:SqL K H a xs->(∀p,H p=none->Q (.ref p) (upd H p (.lst (cutV xs lo hi))))->SlX K H (.ref a) lo hi Q
theorem sl_X:SlR X (fun x lo hi H Q=>SlX X.K H x lo hi Q):=by
 intro pins s σ H x v vl vu lo hi sl Q I rx hs pl pu h
 cases h with
 | str hz q=>exact sl_str pins s σ H _ v vl vu lo hi sl Q I rx hs pl pu ⟨_,rfl,hz,q⟩
 | lst h1 q=>exact sl_list pins s σ H _ v vl vu lo hi sl Q I rx hs pl pu ⟨_,_,rfl,h1,q⟩
end
section
variable {X:Cx}
inductive CmR (f:Int->Int->Bool) (g:Str->Str->Bool) (H:Hp):V->V->VK->Prop
 | int {i j:Int} {Q:VK}:Q (.bl (f i j)) H->CmR f g H (.int i) (.int j) Q
 | str {i j:Str} {Q:VK}:Q (.bl (g i j)) H->CmR f g H (.str i) (.str j) Q
theorem op_leX:OpR X (compareOp .LtE) (fun x y H Q=>CmR (fun i j=>decide (i<=j)) (fun i j=>!decide (j.cps.toList<i.cps.toList)) H x y Q):=by
 intro pins s σ H x y v u Q I rx ry h
 cases h with
 | int q=>exact op_le pins s σ H _ _ v u Q I rx ry ⟨_,_,rfl,rfl,q⟩
 | str q=>exact op_le_str pins s σ H _ _ v u Q I rx ry ⟨_,_,rfl,rfl,q⟩
theorem op_ltX:OpR X (compareOp .Lt) (fun x y H Q=>CmR (fun i j=>decide (i<j)) (fun i j=>decide (i.cps.toList<j.cps.toList)) H x y Q):=by
 intro pins s σ H x y v u Q I rx ry h
 cases h with
 | int q=>exact op_lt pins s σ H _ _ v u Q I rx ry ⟨_,_,rfl,rfl,q⟩
 | str q=>exact op_lt_str pins s σ H _ _ v u Q I rx ry ⟨_,_,rfl,rfl,q⟩
inductive IsB (neg:Bool) (H:Hp):V->V->VK->Prop
 | int {i:Int} {b:Bool} {Q:VK}:Q (.bl neg) H->IsB neg H (.int i) (.bl b) Q
 | bl {c b:Bool} {Q:VK}:Q (.bl (if neg then !decide (c=b) else decide (c=b))) H->IsB neg H (.bl c) (.bl b) Q
 | non {x:V} {Q:VK}:Q (.bl (if neg then !decide (x=.non) else decide (x=.non))) H->IsB neg H x .non Q
theorem op_isNotX:OpR X (compareOp .IsNot) (fun x y H Q=>IsB true H x y Q):=by
 intro pins s σ H x y v u Q I rx ry h
 cases h with
 | int q =>
  obtain⟨t,rfl⟩:=rx
  cases ry
  exact wpAny_isNot_other (by rfl) (by intro z;cases z) ⟨.bl _,H,I,rfl,q⟩
 | @bl c b _ q =>
  cases rx
  cases ry
  exact wpAny_isNot_plain (by rfl) (fin_bl I q (by cases c <;> cases b <;> rfl))
 | non q=>exact op_notN pins s σ H _ _ v u Q I rx ry ⟨rfl,q⟩
theorem op_isX:OpR X (compareOp .Is) (fun x y H Q=>IsB false H x y Q):=by
 intro pins s σ H x y v u Q I rx ry h
 cases h with
 | int q =>
  obtain⟨t,rfl⟩:=rx
  cases ry
  exact wpAny_is_other (by rfl) (by intro z;cases z) ⟨.bl _,H,I,rfl,q⟩
 | @bl c b _ q =>
  cases rx
  cases ry
  exact wpAny_is_plain (by rfl) (fin_bl I q (by cases c <;> cases b <;> rfl))
 | non q=>exact op_isN pins s σ H _ _ v u Q I rx ry ⟨rfl,q⟩
theorem m_join (K:W.Frag) (ho:PE X o to) (ha:PA X [e] t)
    (hbase:attributeBase o "join" X.env (eval o X.env)=eval o X.env:=by rfl)
    (hfew:((backTo cpos (starEach [e] X.env)).all (fun x=>!x.1)&&(backToKw cpos (keywordEach [] X.env)).all (fun x=>x.1.isSome)
     && decide ([e].length+([]:List Keyword).length+(if ([]:List Keyword).isEmpty then 0 else 1)<30))=true:=by rfl)
    (hline:(apos.endLine==cpos.line)=true:=by rfl) (hs:starEach [e] X.env=(false,eval e X.env)::starEach [] X.env:=by rfl) (hplain:(backTo cpos (starEach [] X.env)).any (·.1)=false:=by rfl) (hK:X.K=K:=by rfl) :
    PE X (.Call (.Attribute o "join" apos) [e] [] cpos) (tBM K "str" rJoin to t):=hK ▸ pe_bm PySem.F.plainAttrs_str PySem.F.slot_str_join PySem.F.type_str_join mt_join ho ha hbase hfew hline hs hplain
theorem m_append (K:W.Frag) (ho:PE X o to) (ha:PA X [e] t)
    (hbase:attributeBase o "append" X.env (eval o X.env)=eval o X.env:=by rfl)
    (hfew:((backTo cpos (starEach [e] X.env)).all (fun x=>!x.1)&&(backToKw cpos (keywordEach [] X.env)).all (fun x=>x.1.isSome)
     && decide ([e].length+([]:List Keyword).length+(if ([]:List Keyword).isEmpty then 0 else 1)<30))=true:=by rfl)
    (hline:(apos.endLine==cpos.line)=true:=by rfl) (hs:starEach [e] X.env=(false,eval e X.env)::starEach [] X.env:=by rfl) (hplain:(backTo cpos (starEach [] X.env)).any (·.1)=false:=by rfl) (hK:X.K=K:=by rfl) :
    PE X (.Call (.Attribute o "append" apos) [e] [] cpos) (tBM K "list" rAppend to t):=hK ▸ pe_bm PySem.F.plainAttrs_list PySem.F.slot_list_append PySem.F.type_list_append mt_append ho ha hbase hfew hline hs hplain
theorem sl_K (K:W.Frag) (hK:X.K=K:=by rfl):SlR X (fun x lo hi H Q=>SlX K H x lo hi Q):=hK ▸ sl_X
theorem pi_listK (K:W.Frag) (hl:PE X l tl) (hK:X.K=K:=by rfl):PI X tg l (iList K tl):=hK ▸ pi_list hl
theorem pi_tupK (K:W.Frag) (hl:PE X l tl) (hK:X.K=K:=by rfl):PI X tg l (iTup K tl):=hK ▸ pi_tup hl
end
theorem gYes {i:Nat}{A B:St->Hp->Prop}(h:A (σ.set i (some v)) H):gName i v σ H fun σ2 H3=>tYes σ2 H3 fun b H4=>if b=true then A σ2 H4 else B σ2 H4:=by
 show (if true=true then A (σ.set i (some v)) H else B (σ.set i (some v)) H)
 rw[if_pos rfl]
 exact h
section
variable {K:W.Frag}{k:Nat}{fr:List Nat}{g:TG}{tc:TT}{te:TE}{σ:St}{H1:Hp}{Q:VK}
theorem comp_items (xs:List V) (Ok:Hp -> Prop) (hgo:∀i H, Ok H -> i<xs.length -> J.go i H) (hyl:∀i H x H', Ok H -> i<xs.length -> J.yld i H x H' -> H'=H /\ xs[i]? = some x) (hst:∀H, Ok H -> J.stop xs.length H)
    (Pv:Addr->Nat->List V->St->Hp->Prop)
    (h:∀D,H1 D=none->Pv D 0 [] (inSt k fr σ) (upd H1 D (.lst []))/\(∀i acc σ' H',i<=xs.length->Pv D i acc σ' H'->H' D=some (.lst acc)->Ok H') /\
     (∀i acc σ' H' x,xs[i]? = some x->Pv D i acc σ' H'->H' D=some (.lst acc)->g x σ' H' fun σ2 H3=>tc σ2 H3 fun b H4 =>
      if b=true then te σ2 H4 fun y H5=>H5 D=some (.lst acc)/\acc.length<sizeLine/\Pv D (i+1) (acc++[y]) σ2 (upd H5 D (.lst (acc++[y]))) else H4 D=some (.lst acc)/\Pv D (i+1) acc σ2 H4) /\
     ∀acc σ' H',Pv D xs.length acc σ' H'->H' D=some (.lst acc)->Q (.ref D) H'):tCompW k fr g tc te J σ H1 Q:=by
 intro D hD
 obtain⟨h0,hok,hs,hd⟩:=h D hD
 refine⟨fun i m acc σ' H'=>m=xs.length-i/\i<=xs.length/\Pv D i acc σ' H',⟨xs.length,by simp,Nat.zero_le _,h0⟩,?_⟩
 rintro i m acc σ' H' ⟨rfl,hi,p⟩ hacc
 have ok:=hok i acc σ' H' hi p hacc
 by_cases hlt:i<xs.length
 ·refine .inr ⟨hgo i H' ok hlt,Pv D (i+1),fun acc' σ2 H2 p'=>⟨xs.length-(i+1),by omega,rfl,hlt,p'⟩,fun x H2 y=>?_⟩
  obtain⟨e,hx⟩:=hyl i H' x H2 ok hlt y
  subst e
  exact hs i acc σ' H2 x hx p hacc
 ·have e:i=xs.length:=by omega
  subst e
  exact .inl ⟨hst H' ok,hd acc σ' H' p hacc⟩
def rngV (n:Nat):List V:=(List.range n).map fun i=>V.int (0+(i:Nat))
theorem comp_range (Pv:Addr -> Nat -> List V -> St -> Hp -> Prop)
    (h:∀D,H1 D=none->Pv D 0 [] (inSt k fr σ) (upd H1 D (.lst [])) /\
     (∀i acc σ' H',i<n->Pv D i acc σ' H'->H' D=some (.lst acc)->g (.int (0+(i:Nat))) σ' H' fun σ2 H3=>tc σ2 H3 fun b H4 =>
      if b=true then te σ2 H4 fun y H5=>H5 D=some (.lst acc)/\acc.length<sizeLine/\Pv D (i+1) (acc++[y]) σ2 (upd H5 D (.lst (acc++[y]))) else H4 D=some (.lst acc)/\Pv D (i+1) acc σ2 H4) /\
     ∀acc σ' H',Pv D n acc σ' H'->H' D=some (.lst acc)->Q (.ref D) H'):tCompW k fr g tc te (Itr 0 n) σ H1 Q:=by
 have hl:(rngV n).length=n:=by simp[rngV]
 refine comp_items (rngV n) (fun _=>True) (fun i H _ hi=>by rw[hl] at hi;exact hi) (fun i H x H' _ hi y=>⟨y.1,?_⟩) (fun H _=>by show n<=(rngV n).length;rw[hl];exact Nat.le_refl _) Pv fun D hD=>?_
 ·rw[hl] at hi
  rw[y.2]
  simp[rngV,hi]
 ·obtain⟨a,b,c⟩:=h D hD
  refine⟨a,fun _ _ _ _ _ _ _=>trivial,fun i acc σ' H' x hx p hacc=>?_,by rw[hl];exact c⟩
  have hi:i<n:=by rw[<- hl];exact(List.getElem?_eq_some_iff.mp hx).1
  have e:x=V.int (0+(i:Nat)):=by
   simp[rngV,hi] at hx
   rw[<- hx];simp
  subst e
  exact b i acc σ' H' hi p hacc
theorem comp_list (xs:List V) (Pv:Addr -> Nat -> List V -> St -> Hp -> Prop)
    (h:∀D,H1 D=none->Pv D 0 [] (inSt k fr σ) (upd H1 D (.lst []))/\(∀i acc σ' H',i<=xs.length->Pv D i acc σ' H'->H' D=some (.lst acc)->SqL K H' a xs) /\
     (∀i acc σ' H' x,xs[i]? = some x->Pv D i acc σ' H'->H' D=some (.lst acc)->g x σ' H' fun σ2 H3=>tc σ2 H3 fun b H4 =>
      if b=true then te σ2 H4 fun y H5=>H5 D=some (.lst acc)/\acc.length<sizeLine/\Pv D (i+1) (acc++[y]) σ2 (upd H5 D (.lst (acc++[y]))) else H4 D=some (.lst acc)/\Pv D (i+1) acc σ2 H4) /\
     ∀acc σ' H',Pv D xs.length acc σ' H'->H' D=some (.lst acc)->Q (.ref D) H'):tCompW k fr g tc te (Itl K a) σ H1 Q :=
 comp_items xs (fun H=>SqL K H a xs) (fun i H q hi=>⟨xs,xs[i],q,by simp[hi]⟩) (fun i H x H' q hi y=>⟨y.1,y.2 xs q⟩) (fun H q=>⟨xs,q,Nat.le_refl _⟩) Pv h
theorem comp_tup (xs:List V) (Pv:Addr -> Nat -> List V -> St -> Hp -> Prop)
    (h:∀D,H1 D=none->Pv D 0 [] (inSt k fr σ) (upd H1 D (.lst []))/\(∀i acc σ' H',i<=xs.length->Pv D i acc σ' H'->H' D=some (.lst acc)->SqT K H' a xs) /\
     (∀i acc σ' H' x,xs[i]? = some x->Pv D i acc σ' H'->H' D=some (.lst acc)->g x σ' H' fun σ2 H3=>tc σ2 H3 fun b H4 =>
      if b=true then te σ2 H4 fun y H5=>H5 D=some (.lst acc)/\acc.length<sizeLine/\Pv D (i+1) (acc++[y]) σ2 (upd H5 D (.lst (acc++[y]))) else H4 D=some (.lst acc)/\Pv D (i+1) acc σ2 H4) /\
     ∀acc σ' H',Pv D xs.length acc σ' H'->H' D=some (.lst acc)->Q (.ref D) H'):tCompW k fr g tc te (Itt K a) σ H1 Q :=
 comp_items xs (fun H=>SqT K H a xs) (fun i H q hi=>⟨xs,xs[i],q,by simp[hi]⟩) (fun i H x H' q hi y=>⟨y.1,y.2 xs q⟩) (fun H q=>⟨xs,q,Nat.le_refl _⟩) Pv h
def signsV (z:Str):List V:=z.cps.toList.map fun c=>V.str ⟨#[c]⟩
theorem comp_str (Pv:Addr -> Nat -> List V -> St -> Hp -> Prop)
    (h:∀D,H1 D=none->Pv D 0 [] (inSt k fr σ) (upd H1 D (.lst [])) /\
     (∀i acc σ' H' c,z.cps.toList[i]? = some c->Pv D i acc σ' H'->H' D=some (.lst acc)->g (.str ⟨#[c]⟩) σ' H' fun σ2 H3=>tc σ2 H3 fun b H4 =>
      if b=true then te σ2 H4 fun y H5=>H5 D=some (.lst acc)/\acc.length<sizeLine/\Pv D (i+1) (acc++[y]) σ2 (upd H5 D (.lst (acc++[y]))) else H4 D=some (.lst acc)/\Pv D (i+1) acc σ2 H4) /\
     ∀acc σ' H',Pv D z.cps.toList.length acc σ' H'->H' D=some (.lst acc)->Q (.ref D) H'):tCompW k fr g tc te (Its z) σ H1 Q:=by
 have hl:(signsV z).length=z.cps.toList.length:=by simp[signsV]
 refine comp_items (signsV z) (fun _=>True) (fun i H _ hi=>by rw[hl] at hi;show i<z.cps.size;simpa using hi) (fun i H x H' _ hi y=>⟨y.1,?_⟩) (fun H _=>by show z.cps.size<=(signsV z).length;rw[hl];simp) Pv fun D hD=>?_
 ·have y2:=y.2
  unfold sgV at y2
  simp only[signsV,List.getElem?_map,Array.getElem?_toList]
  exact y2
 ·obtain⟨a,b,c⟩:=h D hD
  refine⟨a,fun _ _ _ _ _ _ _=>trivial,fun i acc σ' H' x hx p hacc=>?_,by rw[hl];exact c⟩
  simp only[signsV,List.getElem?_map] at hx
  cases e:z.cps.toList[i]? with
  | none=>rw[e] at hx;cases hx
  | some cc =>
   rw[e] at hx
   cases hx
   exact b i acc σ' H' cc e p hacc
end
def But (p:Addr) (H H':Hp):Prop:=∀b o,b≠p->H b=some o->H' b=some o
theorem But.refl (p:Addr) (H:Hp):But p H H:=fun _ _ _ h=>h
theorem But.trans (a:But p H H1) (b:But p H1 H2):But p H H2:=fun c o n h=>b c o n (a c o n h)
theorem But.upd:But p H (upd H p o):=fun b o' n h=>by rw[upd_ne n];exact h
theorem But.of_same (s:Same H H'):But p H H':=fun b o _ h=>s b o h
theorem Same.new (h:H p=none):Same H (upd H p o):=fun b o' e=>by rw[upd_ne (ne_of_none e h)];exact e
theorem Rd.but (b:But p H H') (n:a≠p) (h:Rd H a u):Rd H' a u:=by
 rcases h with h | ⟨o,h⟩
 ·exact .inl (b _ _ n h)
 ·exact .inr ⟨o,b _ _ n h⟩
theorem SqL.but {K:W.Frag}{p:Addr}{H H':Hp}(b:But p H H') {a:Addr}{xs:List V}(n:a≠p) (h:SqL K H a xs):SqL K H' a xs:=by
 rcases h with h | h
 ·exact .inl (h.but b n)
 ·exact .inr h
structure Blt (mg:Str->Option Value):Prop where
 len:mg "len"=none
 range:mg "range"=none
 abs:mg "abs"=none
 all:mg "all"=none
 repr:mg "repr"=none
 isinstance:mg "isinstance"=none
 str:mg "str"=none
 int:mg "int"=none
 bool:mg "bool"=none
 enumerate:mg "enumerate"=none
 list:mg "list"=none
 tuple:mg "tuple"=none
 dict:mg "dict"=none
 min:mg "min"=none
 max:mg "max"=none
section
variable {X:Cx}{p pos:Pos}{e f:Expr}{t:TA}
def rLen (K:W.Frag):List V->Hp->VK->Prop:=fun xs H Q=>∃x n,xs=[x]/\LenV K x H n/\Q (.int n) H
def rAbs:List V->Hp->VK->Prop:=fun xs H Q=>∃i,xs=[.int i]/\Q (.int (if i<0 then -i else i)) H
def rAll:List V->Hp->VK->Prop:=fun xs H Q=>∃p bs,xs=[.ref p]/\H p=some (.lst (List.map V.bl bs))/\Q (.bl (bs.all id)) H
theorem b_len (K:W.Frag) (B:Blt X.mg) (ha:PA X [e] t) (hg:Gl X "len":=by rfl) (he:starEach [e] X.env=(false,eval e X.env)::starEach [] X.env:=by rfl) (hpl:(backTo pos (starEach [] X.env)).any (·.1)=false:=by rfl) (hK:X.K=K:=by rfl):PE X (.Call (.Name "len" p) [e] [] pos) (tCB (rLen K) t) :=
 hK ▸ pe_callB call_len hg B.len PySem.boot_len ha (by decide) (by decide) he hpl
theorem b_abs (B:Blt X.mg) (ha:PA X [e] t) (hg:Gl X "abs":=by rfl) (he:starEach [e] X.env=(false,eval e X.env)::starEach [] X.env:=by rfl) (hpl:(backTo pos (starEach [] X.env)).any (·.1)=false:=by rfl):PE X (.Call (.Name "abs" p) [e] [] pos) (tCB rAbs t) :=
 pe_callB call_abs hg B.abs boot_abs ha (by decide) (by decide) he hpl
theorem b_all (hc:X.calm=true) (B:Blt X.mg) (ha:PA X [e] t) (hg:Gl X "all":=by rfl) (he:starEach [e] X.env=(false,eval e X.env)::starEach [] X.env:=by rfl) (hpl:(backTo pos (starEach [] X.env)).any (·.1)=false:=by rfl):PE X (.Call (.Name "all" p) [e] [] pos) (tCB rAll t) :=
 pe_callB (call_all_bl hc) hg B.all boot_all ha (by decide) (by decide) he hpl
theorem b_isi (K:W.Frag) (c:String) (B:Blt X.mg) (ha:PA X [e,f] t) (hg:Gl X "isinstance":=by rfl) (he:starEach [e,f] X.env=(false,eval e X.env)::starEach [f] X.env:=by rfl) (hpl:(backTo pos (starEach [f] X.env)).any (·.1)=false:=by rfl) (hK:X.K=K:=by rfl):PE X (.Call (.Name "isinstance" p) [e,f] [] pos) (tCB (rIsi K c) t) :=
 hK ▸ pe_callB (call_isi c) hg B.isinstance boot_isinstance ha (by decide) (by decide) he hpl
theorem g_str (B:Blt X.mg) (hg:Gl X "str":=by rfl):PE X (.Name "str" p) (tC (.ty "str")):=pe_bltn hg B.str PyProof.Rows.boot_str rfl
theorem g_bool (B:Blt X.mg) (hg:Gl X "bool":=by rfl):PE X (.Name "bool" p) (tC (.ty "bool")):=pe_bltn hg B.bool PyProof.Rows.boot_bool rfl
theorem g_list (B:Blt X.mg) (hg:Gl X "list":=by rfl):PE X (.Name "list" p) (tC (.ty "list")):=pe_bltn hg B.list (show bootBuiltins "list"=some (.type "list") by decide +kernel) rfl
end
end L2
namespace L2
open PySem PySem.Spec PyProof.Rows PySem.Builtin PySem.Builtin.Str
theorem len_app (x y:Str):(x++y).length=x.length+y.length:=by
 show (x.cps++y.cps).size=x.cps.size+y.cps.size
 rw[Array.size_append]
theorem sum_le {ys:List Str}{n:Nat}(h:∀y∈ys,y.length<=n):(ys.map (·.length)).sum<=ys.length * n:=by
 induction ys with
 | nil=>simp
 | cons y r ih =>
  have h1:=h y (by simp)
  have h2:=ih fun z hz=>h z (List.mem_cons_of_mem _ hz)
  simp only[List.map_cons,List.sum_cons,List.length_cons]
  rw[Nat.succ_mul]
  omega
theorem at_ok {α:Type}{xs:List α}{j:Int}(h0:0<=j) (h1:j<xs.length):∃v,atI xs j=some v/\v∈xs:=by
 obtain⟨k,rfl⟩:=Int.eq_ofNat_of_zero_le h0
 have hk:k<xs.length:=by omega
 exact⟨xs[k],atI_nat (by simp[hk]),List.getElem_mem hk⟩
theorem at_int {ns:List Int}{j:Int}(h0:0<=j) (h1:j<(ns.map V.int).length):∃c,atI (ns.map V.int) j=some (.int c):=by
 obtain⟨v,e,m⟩:=at_ok h0 h1
 obtain⟨c,_,rfl⟩:=List.mem_map.mp m
 exact⟨c,e⟩
theorem fst_small (x:Int):-(2 ^ 64)<x % 2147483647/\x % 2147483647<2 ^ 64:=by
 have h1:=Int.emod_nonneg x (show (2147483647:Int)≠0 by decide)
 have h2:=Int.emod_lt_of_pos x (show (0:Int)<2147483647 by decide)
 omega
def PenV (H:Hp) (p a:Addr):Prop:=∃(i n:Int),H p=some (.lst [.ref a,.int i,.int n])/\0<=i/\0<=n
def Pen (K:W.Frag) (H:Hp) (p a:Addr):Prop:=(∃ns:List Int,∀H',But p H H'->SqL K H' a (ns.map V.int))/\PenV H p a
theorem Pen.but {K:W.Frag}{H H':Hp}{p a:Addr}(h:Pen K H p a) (b:But p H H') (v:PenV H' p a):Pen K H' p a:=⟨let ⟨ns,q⟩:=h.1;⟨ns,fun H2 b2=>q H2 (b.trans b2)⟩,v⟩
theorem Pen.new {K:W.Frag}{H:Hp}{p a:Addr}{ns:List Int}{o:HO}(h:SqL K H a (ns.map V.int)) (hp:H p=none) (v:PenV (upd H p o) p a):Pen K (upd H p o) p a := by
 refine⟨⟨ns,fun H' b=>?_⟩,v⟩
 rcases h with h | h
 ·have n:a≠p:=by
     rcases h with h | ⟨ob,h⟩
     ·exact ne_of_none h hp
     ·exact ne_of_none h hp
  have s:Same H (upd H p o):=Same.new hp
  exact SqL.but (fun c o' n' e=>b c o' n' (s c o' e)) n (.inl h)
 ·exact .inr h
theorem PenV.upd (h:PenV H p a) (n:p≠D):PenV (L2.upd H D o) p a:=let ⟨i,m,e,q⟩:=h;⟨i,m,by rw[upd_ne n];exact e,q⟩
theorem PenV.ne (h:PenV H p a) (e:H D=none):p≠D:=let ⟨_,_,q,_⟩:=h;ne_of_none q e
theorem But.at (b:But p H H') (hD:H D=none):But p H (L2.upd H' D o):=fun c o' n h=>by rw[upd_ne (ne_of_none h hD)];exact b c o' n h
theorem But.of_eq (h:∀b,b≠p->H' b=H b):But p H H':=fun b o n e=>(h b n).trans e
theorem But.free (b:But p H H') (n:D≠p) (h:H' D=none):H D=none:=by
 cases e:H D with
 | none=>rfl
 | some o=>rw[b D o n e] at h;cases h
def spDraw (K:W.Frag):Sp:=fun vs H Q _=>∃(p a:Addr) (m:Int),vs=[.ref p,.int m]/\Pen K H p a/\0<m/\m<1073741824/\∀r H',0<=r->r<m->PenV H' p a->(∀b,b≠p->H' b=H b)->Q (.int r) H'
end L2
namespace L2
open PySem PySem.Spec PyProof.Rows
section
variable {X:Cx}
inductive InR (K:W.Frag) (neg:Bool) (H:Hp):V -> V -> VK -> Prop
 | dic {a:Addr} {y:V} {o:Option V} {Q:VK}:DGet H a y o->Q (.bl (if neg then !o.isSome else o.isSome)) H->InR K neg H y (.ref a) Q
 | seq {p:Addr} {x:V} {xs:List V} {Q:VK}:(SqL K H p xs∨SqT K H p xs)->flatV x=true->xs.all flatV=true->Q (.bl (if neg then !inV x xs else inV x xs)) H->InR K neg H x (.ref p) Q
 | tr {p:Addr} {x:V} {xs:List V} {ds:List PyData} {d:PyData} {Q:VK}:H p=some (.lst xs)->RepAll H xs ds->Rep H x d->PyData.canLayAll0 ds=true->d.canLay0=true->d.depth<=16 ->
     Q (.bl (if neg then !(ds.any fun e=>PyData.eqv e d) else ds.any fun e=>PyData.eqv e d)) H->InR K neg H x (.ref p) Q
theorem op_inX (K:W.Frag) (hu:X.A.units+64<cLine) (hK:X.K=K:=by rfl):OpR X (compareOp .In) (fun x y H Q=>InR K false H x y Q):=by
 subst hK
 intro pins s σ H x y v u Q I rx ry h
 cases h with
 | dic g q =>
  cases ry
  exact d_in (by omega) I g rx fun s' I'=>⟨.bl _,H,I',rfl,q⟩
 | seq hq fx fs q=>exact op_in_seq pins s σ H _ _ v u Q I rx ry ⟨_,_,rfl,hq,fx,fs,q⟩
 | tr e rs r cs c dp q=>exact op_inD hu pins s σ H _ _ v u Q I rx ry ⟨_,_,_,_,rfl,e,rs,r,cs,c,dp,q⟩
theorem op_notInX (K:W.Frag) (hu:X.A.units+64<cLine) (hK:X.K=K:=by rfl):OpR X (compareOp .NotIn) (fun x y H Q=>InR K true H x y Q):=by
 subst hK
 intro pins s σ H x y v u Q I rx ry h
 cases h with
 | dic g q =>
  cases ry
  exact d_notIn (by omega) I g rx fun s' I'=>⟨.bl _,H,I',rfl,q⟩
 | seq hq fx fs q=>exact op_notIn_seq pins s σ H _ _ v u Q I rx ry ⟨_,_,rfl,hq,fx,fs,q⟩
 | tr e rs r cs c dp q=>exact op_notInD hu pins s σ H _ _ v u Q I rx ry ⟨_,_,_,_,rfl,e,rs,r,cs,c,dp,q⟩
inductive IxX (K:W.Frag) (H:Hp):V->V->VK->Prop
 | lst {p:Addr} {xs:List V} {i:Int} {v:V} {Q:VK}:SqL K H p xs->atI xs i=some v->Q v H->IxX K H (.ref p) (.int i) Q
 | tup {p:Addr} {xs:List V} {i:Int} {v:V} {Q:VK}:SqT K H p xs->atI xs i=some v->Q v H->IxX K H (.ref p) (.int i) Q
 | str {z:Str} {i:Int} {c:Nat} {Q:VK}:z.length<=sizeLine->atI z.cps.toList i=some c->Q (.str ⟨#[c]⟩) H->IxX K H (.str z) (.int i) Q
 | dic {a:Addr} {y v:V} {Q:VK}:DGet H a y (some v)->Q v H->IxX K H (.ref a) y Q
theorem ix_X (K:W.Frag) (hu:X.A.units+64<cLine) (hK:X.K=K:=by rfl):IxR X (fun x y H Q=>IxX K H x y Q):=by
 subst hK
 intro value slice pins s σ H x y v u Q I rx ry h hs
 cases h with
 | lst hq e q=>exact ix_list value slice pins s σ H _ _ v u Q I rx ry ⟨_,_,_,_,rfl,rfl,hq,e,q⟩ hs
 | tup hq e q=>exact ix_tup value slice pins s σ H _ _ v u Q I rx ry ⟨_,_,_,_,rfl,rfl,hq,e,q⟩ hs
 | str hz e q=>exact ix_str value slice pins s σ H _ _ v u Q I rx ry ⟨_,_,_,rfl,rfl,hz,e,q⟩ hs
 | dic g q =>
  cases rx
  exact tail_any (dict_typeIs I g) PySem.F.slot_dict_getitem.lookup (d_getItem (by omega) I g ry fun w' s3 I3 rw'=>⟨_,H,I3,rw',q⟩) hs
inductive SetX (H:Hp):V->V->V->(Hp->Prop)->Prop
 | lst {p:Addr} {xs:List V} {k:Int} {j:Nat} {v:V} {Q:Hp->Prop}:H p=some (.lst xs)->ixN xs.length k=some j->Q (upd H p (.lst (xs.set j v)))->SetX H (.ref p) (.int k) v Q
 | dic {a:Addr} {y v:V} {H':Hp} {Q:Hp->Prop}:DPut H a y v H'->Q H'->SetX H (.ref a) y v Q
theorem set_X (hu:X.A.units+64<cLine):PSet X (fun o i v H Q=>SetX H o i v Q):=by
 intro pins s σ H o i v ov iv u Q I ro ri rv h
 cases h with
 | lst e ej q=>exact set_list pins s σ H _ _ _ ov iv u Q I ro ri rv ⟨_,_,_,_,rfl,rfl,e,ej,q⟩
 | dic g q =>
  cases ro
  exact d_setItem (by omega) I g ri rv fun s4 I4=>⟨_,I4,q⟩
theorem pg_tupK (K:W.Frag) (hc:X.calm=true) (h:PGs X es t)
    (hn:(assignEach es X.env).length=n:=by rfl) (hst:(assignEach es X.env).findIdx? (·.1)=none:=by rfl) (hK:X.K=K:=by rfl):PG X (.Tuple es k pos) (gTup K n t):=hK ▸ pg_tup hc h hn hst
variable {p pos p2 pos2:Pos}{e f:Expr}{t:TA}
end
end L2
namespace L2
open PySem PySem.Spec PyProof.Rows
section
variable {X:Cx}{p pos p2 pos2:Pos}{e f:Expr}{t:TA}
def rTupL (K:W.Frag):List V->Hp->VK->Prop:=fun xs H Q=>∃a ys,xs=[.ref a]/\SqL K H a ys/\∀l,H l=none->Q (.ref l) (upd H l (.tup ys))
theorem b_tuple (K:W.Frag) (B:Blt X.mg) (ha:PA X [e] t) (hg:Gl X "tuple":=by rfl) (he:starEach [e] X.env=(false,eval e X.env)::starEach [] X.env:=by rfl) (hpl:(backTo pos (starEach [] X.env)).any (·.1)=false:=by rfl) (hK:X.K=K:=by rfl) :
    PE X (.Call (.Name "tuple" p) [e] [] pos) (tCB (rTupL K) t):=by
 subst hK
 refine pe_callTy (r:=rTupL X.K) (fun pins s σ H xs us Q I r h=>?_) hg B.tuple (show bootBuiltins "tuple"=some (.type "tuple") by decide +kernel) ha (by decide) (by decide) he hpl
 obtain⟨a,ys,rfl,hq,q⟩:=h
 exact call_tuple_of pins s σ H _ us Q I r ⟨a,ys,rfl,.inl ⟨hq,q⟩⟩
inductive LstR (K:W.Frag) (H:Hp):V->VK->Prop
 | seq {a:Addr} {ys:List V} {Q:VK}:(SqL K H a ys∨SqT K H a ys)->(∀l,H l=none->Q (.ref l) (upd H l (.lst ys)))->LstR K H (.ref a) Q
 | rng {a:Addr} {n:Nat} {Q:VK}:H a=some (.rng 0 (n:Int))->n<=1000->(∀l,H l=none->Q (.ref l) (upd H l (.lst (rngV n))))->LstR K H (.ref a) Q
def rLst (K:W.Frag):List V->Hp->VK->Prop:=fun xs H Q=>∃x,xs=[x]/\LstR K H x Q
theorem vals_rng (hl:its.length=n) (h:∀i v, its[i]? = some v -> ∃t, v=Value.int (0+(i:Nat) * 1) t):Vals (rngV n) its := by
 subst hl
 have key:∀(its:List Value) (k:Nat), (∀i v, its[i]? = some v -> ∃t, v=Value.int (0+((k+i:Nat):Int)) t) -> Vals ((List.range' k its.length).map fun i => V.int (0+(i:Nat))) its := by
  intro its
  induction its with
  | nil=>intro k _;exact .nil
  | cons u r ih =>
   intro k h
   rw[List.length_cons,List.range'_succ,List.map_cons]
   refine .cons ?_ (ih (k+1) fun i v e=>?_)
   ·obtain⟨t,e⟩:=h 0 u rfl
    exact⟨t,by rw[e,Nat.add_zero]⟩
   ·obtain⟨t,e'⟩:=h (i+1) v (by simpa using e)
    exact⟨t,by rw[e',show ((k+(i+1):Nat):Int)=((k+1+i:Nat):Int) by omega]⟩
 have:=key its 0 fun i v e=>by
  obtain⟨t,e'⟩:=h i v e
  exact⟨t,by rw[e',Int.mul_one,Nat.zero_add]⟩
 rw[rngV,List.range_eq_range']
 exact this
theorem b_list (K:W.Frag) (hc:X.calm=true) (B:Blt X.mg) (ha:PA X [e] t) (hg:Gl X "list":=by rfl) (he:starEach [e] X.env=(false,eval e X.env)::starEach [] X.env:=by rfl) (hpl:(backTo pos (starEach [] X.env)).any (·.1)=false:=by rfl) (hK:X.K=K:=by rfl) :
    PE X (.Call (.Name "list" p) [e] [] pos) (tCB (rLst K) t):=by
 subst hK
 refine pe_callTy (r:=rLst X.K) (fun pins s σ H xs us Q I r h=>?_) hg B.list (show bootBuiltins "list"=some (.type "list") by decide +kernel) ha (by decide) (by decide) he hpl
 obtain⟨x,rfl,h⟩:=h
 cases h with
 | seq hq q=>exact call_list_of pins s σ H _ us Q I r ⟨_,_,rfl,hq,q⟩
 | @rng a n _ ea hn q =>
  obtain⟨u,rfl,ru⟩:=vals1 r
  cases ru
  obtain⟨t1,t2,t3,eh⟩:=(show ObjOk X.prog X.w H s.heap a (.rng 0 (n:Int)) from I.hok a _ ea)
  refine call_list_range (n:=n) (I.ok.hd hc) eh (small_one (by decide) (by decide) (by omega) (by omega)) (by rw[rangeSize_one];split <;> omega) (by omega) fun h' tk acc' c' hk hl hi=>?_
  have hv:Vals (rngV n) acc'.toList:=vals_rng (by simpa using hi.1) fun i v e=>hi.2 i v (by simpa using e)
  refine⟨.ref _,_,I.laid (o:=.lst (rngV n)) hk (Nat.le_refl _) ⟨?_,acc'.toList,c',hv,by simpa using hl⟩,rfl,q _ (I.hok.fresh (Nat.le_refl _))⟩
  have:(rngV n).length=n:=by simp[rngV]
  rw[this]
  exact Nat.le_of_lt (small1000 hn)
theorem b_min (hc:X.calm=true) (B:Blt X.mg) (ha:PA X [e,f] t) (hg:Gl X "min":=by rfl) (he:starEach [e,f] X.env=(false,eval e X.env)::starEach [f] X.env:=by rfl) (hpl:(backTo pos (starEach [f] X.env)).any (·.1)=false:=by rfl) :
    PE X (.Call (.Name "min" p) [e,f] [] pos) (tCB (fun xs H Q=>∃i j,xs=[.int i,.int j]/\Q (.int (if j<i then j else i)) H) t) :=
 pe_callB (call_min2 hc) hg B.min (show bootBuiltins "min"=some (.builtin "min") by decide +kernel) ha (by decide) (by decide) he hpl
theorem ins_at {its:List Value}{k:Nat}{x:Int}(hx:x=(k:Int)) (hk:k<=its.length) :
    (fun xs:Array Value=>have k:=if x<0 then (x+(xs.size:Int)).toNat else min x.toNat xs.size;(xs.extract 0 k).push u++xs.extract k) its.toArray=(its.take k++u::its.drop k).toArray:=by
 subst hx
 simp only[List.size_toArray]
 rw[if_neg (by omega),Int.toNat_natCast,Nat.min_eq_left hk]
 simp[List.extract_eq_drop_take]
 exact List.take_of_length_le (by rw[List.length_drop];omega)
def rInsert:V->List V->Hp->VK->Prop:=fun x vs H Q=>∃l xs i k y,x=.ref l/\vs=[.int i,y]/\i=((k:Nat):Int)/\H l=some (.lst xs)/\k<=xs.length/\xs.length<sizeLine/\Q .non (upd H l (.lst (xs.take k++y::xs.drop k)))
theorem mt_insert:MtR X "list.insert" rInsert:=by
 intro pins s σ H x vs v us Q I rx rv h
 obtain⟨l,xs,i,k,y,rfl,rfl,hi,hH,hk,hz,q⟩:=h
 cases rx
 obtain⟨u1,u2,rfl,r1,r2⟩:=vals2 rv
 obtain⟨t,rfl⟩:=r1
 obtain⟨z,its,n,r,hl,e⟩:=I.lstM hH
 have hs:its.length<=sizeLine:=by omega
 have hfit:Builtin.List.listFitsIndex i=true:=by
  have h1:i<2 ^ 63:=by have:=line63;omega
  exact fitsIndex_both (by omega) h1
 have ME:=PySem.AutoSeq1.list_insert_list_int_val_1 l its.toArray n i t u2 (by simp[hfit]) (by rw[List.size_toArray];exact hs)
 refine call_meets F.slot_list_insert ⟨_,e,rfl⟩ F.entry_list_insert (F.args_list_insert_3 _ _ _) ME ⟨e,?_⟩
 refine⟨.non,_,I.lset (its':=its.take k++u2::its.drop k) hH e (ins_at hi (by omega)) (Vals.append (r.take k) (.cons r2 (r.drop k))) ?_,rfl,q⟩
 simp only[List.length_append,List.length_cons,List.length_take,List.length_drop]
 omega
theorem m_insert (K:W.Frag) (ho:PE X o to) (ha:PA X [e, f] t)
    (hbase:attributeBase o "insert" X.env (eval o X.env)=eval o X.env:=by rfl)
    (hfew:((backTo cpos (starEach [e,f] X.env)).all (fun x=>!x.1)&&(backToKw cpos (keywordEach [] X.env)).all (fun x=>x.1.isSome)
     && decide ([e,f].length+([]:List Keyword).length+(if ([]:List Keyword).isEmpty then 0 else 1)<30))=true:=by rfl)
    (hline:(apos.endLine==cpos.line)=true:=by rfl) (hs:starEach [e,f] X.env=(false,eval e X.env)::starEach [f] X.env:=by rfl) (hplain:(backTo cpos (starEach [f] X.env)).any (·.1)=false:=by rfl) (hK:X.K=K:=by rfl) :
    PE X (.Call (.Attribute o "insert" apos) [e,f] [] cpos) (tBM K "list" rInsert to t):=hK ▸ pe_bm PySem.F.plainAttrs_list PySem.F.slot_list_insert PySem.F.type_list_insert mt_insert ho ha hbase hfew hline hs hplain
end
end L2
namespace L2
open PySem PySem.Spec PyProof.Rows
def Nm (s:Str):Prop:=1<=s.length/\s.length<=8/\∀c∈s.cps.toList,97<=c/\c<=122
def pairD (e:Str × Str):PyData:=.tuple [.str e.1,.str e.2]
def webD (ss:List Str) (ts:List (Str × Str)):PyData:=.tuple [.tuple (ss.map .str),.tuple (ts.map pairD)]
section
variable {H H':Hp}
theorem Rep.tupI (h:Rep H v (.tuple ds)):∃a xs,v=.ref a/\H a=some (.tup xs)/\RepAll H xs ds:=by
 cases h with
 | tup e r=>exact⟨_,_,rfl,e,r⟩
theorem Rep.strI (h:Rep H v (.str s)):v=.str s:=by cases h;rfl
theorem RepAll.nilI (h:RepAll H xs []):xs=[]:=by cases h;rfl
theorem RepAll.consI (h:RepAll H xs (d::ds)):∃y ys,xs=y::ys/\Rep H y d/\RepAll H ys ds:=by
 cases h with
 | cons a b=>exact⟨_,_,rfl,a,b⟩
theorem RepAll.strs:∀ {xs:List V}{ss:List Str},RepAll H xs (ss.map PyData.str)->xs=ss.map V.str
 | _,[],h=>by rw[h.nilI];rfl
 | _,s::ss,h=>by
  obtain⟨y,ys,rfl,a,b⟩:=RepAll.consI h
  rw[a.strI,RepAll.strs b];rfl
theorem RepAll.of_strs:∀(ss:List Str),RepAll H (ss.map V.str) (ss.map PyData.str)
 | []=>.nil
 | s::ss=>.cons (.str s) (RepAll.of_strs ss)
theorem RepAll.len (h:RepAll H xs ds):xs.length=ds.length:=by
 induction ds generalizing xs with
 | nil=>rw[h.nilI];rfl
 | cons d ds ih =>
  obtain⟨y,ys,rfl,a,b⟩:=h.consI
  simp[ih b]
theorem RepAll.get {xs:List V}{ds:List PyData}(h:RepAll H xs ds) {i:Nat}(e:xs[i]? = some x):∃d,ds[i]? = some d/\Rep H x d:=by
 induction ds generalizing xs i with
 | nil=>rw[h.nilI] at e;simp at e
 | cons d ds ih =>
  obtain⟨y,ys,rfl,a,b⟩:=h.consI
  cases i with
  | zero=>simp at e;subst e;exact⟨d,rfl,a⟩
  | succ i=>simpa using ih b (by simpa using e)
theorem RepAll.append (h:RepAll H xs ds) (g:RepAll H ys es):RepAll H (xs++ys) (ds++es):=by
 induction ds generalizing xs with
 | nil=>rw[h.nilI];exact g
 | cons d ds ih =>
  obtain⟨y,zs,rfl,a,b⟩:=h.consI
  exact .cons a (ih b)
theorem RepAll.take (h:RepAll H xs ds):∀k,RepAll H (xs.take k) (ds.take k):=by
 induction ds generalizing xs with
 | nil=>intro k;rw[h.nilI];simp;exact .nil
 | cons d ds ih =>
  obtain⟨y,zs,rfl,a,b⟩:=h.consI
  intro k
  cases k with
  | zero=>exact .nil
  | succ k=>exact .cons a (ih b k)
theorem RepAll.drop (h:RepAll H xs ds):∀k,RepAll H (xs.drop k) (ds.drop k):=by
 induction ds generalizing xs with
 | nil=>intro k;rw[h.nilI];simp;exact .nil
 | cons d ds ih =>
  obtain⟨y,zs,rfl,a,b⟩:=h.consI
  intro k
  cases k with
  | zero=>exact .cons a b
  | succ k=>exact ih b k
theorem pair_at (h:Rep H v (pairD e)):∃a,v=.ref a/\H a=some (.tup [.str e.1,.str e.2]):=by
 obtain⟨a,xs,rfl,ha,r⟩:=Rep.tupI h
 obtain⟨y,ys,rfl,r1,r⟩:=r.consI
 obtain⟨z,zs,rfl,r2,r⟩:=r.consI
 have e1:=RepAll.nilI r
 subst e1
 rw[r1.strI,r2.strI] at ha
 exact⟨a,rfl,ha⟩
theorem pair_rep (h:H a=some (.tup [.str s,.str t])):Rep H (.ref a) (pairD (s,t)):=.tup h (.cons (.str _) (.cons (.str _) .nil))
theorem web_at (h:Rep H v (webD ss ts)):∃q a b xs,v=.ref q/\H q=some (.tup [.ref a,.ref b])/\H a=some (.tup (ss.map V.str))/\H b=some (.tup xs)/\RepAll H xs (ts.map pairD):=by
 obtain⟨q,ws,rfl,hq,r0⟩:=Rep.tupI h
 obtain⟨y,ys,rfl,r1,r3⟩:=r0.consI
 obtain⟨z,zs,rfl,r2,r4⟩:=r3.consI
 obtain⟨a,xa,rfl,ha,ra⟩:=Rep.tupI r1
 obtain⟨b,xb,rfl,hb,rb⟩:=Rep.tupI r2
 have e1:=RepAll.nilI r4
 subst e1
 have e2:=RepAll.strs ra
 subst e2
 exact⟨q,a,b,xb,rfl,hq,ha,hb,rb⟩
end
end L2
namespace MG
variable {α:Type}
def Walk (R:α->α->Prop):Nat->α->α->Prop
 | 0,x,y=>x=y
 | n+1,x,y=>∃z,Walk R n x z/\R z y
def Rch (R:α->α->Prop) (x y:α):Prop:=∃n,Walk R n x y
def Dst (R:α->α->Prop) (x:α) (d:Nat) (y:α):Prop:=Walk R d x y/\∀k,k<d->¬ Walk R k x y
variable {R:α->α->Prop}{x:α}
theorem Dst.uniq (a:Dst R x d y) (b:Dst R x e y):d=e:=by
 rcases Nat.lt_trichotomy d e with h | h | h
 ·exact absurd a.1 (b.2 d h)
 ·exact h
 ·exact absurd b.1 (a.2 e h)
theorem Rch.dst (h:Rch R x y):∃d, Dst R x d y := by
 obtain⟨n,h⟩:=h
 induction n using Nat.strongRecOn generalizing y with
 | _ n ih =>
  by_cases e:∃k,k<n/\Walk R k x y
  ·obtain⟨k,hk,w⟩:=e
   exact ih k hk w
  ·exact⟨n,h,fun k hk w=>e ⟨k,hk,w⟩⟩
theorem Dst.rch (h:Dst R x d y):Rch R x y:=⟨d,h.1⟩
theorem Dst.pred (h:Dst R x (d+1) y):∃z,Dst R x d z/\R z y:=by
 obtain⟨⟨z,w,r⟩,m⟩:=h
 exact⟨z,⟨w,fun k hk w'=>m (k+1) (by omega) ⟨z,w',r⟩⟩,r⟩
theorem Dst.zero:Dst R x 0 x:=⟨rfl,fun k hk=>by omega⟩
theorem Dst.of_zero (h:Dst R x 0 y):y=x:=h.1.symm
theorem Dst.below (h:Dst R x d y):∀e, e <= d -> ∃z, Dst R x e z := by
 induction d generalizing y with
 | zero => intro e he; have:e=0 := by omega
           subst this;exact⟨y,h⟩
 | succ d ih =>
  intro e he
  by_cases q:e=d+1
  ·subst q;exact⟨y,h⟩
  ·obtain⟨z,hz,_⟩:=h.pred
   exact ih hz e (by omega)
theorem Rch.refl:Rch R x x:=⟨0,rfl⟩
theorem Rch.step (h:Rch R x y) (r:R y z):Rch R x z:=by
 obtain⟨n,w⟩:=h
 exact⟨n+1,y,w,r⟩
theorem Rch.closed {S:α -> Prop}(h0:S x) (hs:∀y z, S y -> R y z -> S z) {y:α}(h:Rch R x y):S y := by
 obtain⟨n,w⟩:=h
 induction n generalizing y with
 | zero => have:x=y := w
           subst this;exact h0
 | succ n ih =>
  obtain⟨z,w,r⟩:=w
  exact hs z y (ih w) r
structure Lev (R:α->α->Prop) (x:α) (L:Nat) (look:α->Option Nat) (edge:List α):Prop where
 snd:∀y k,look y=some k->Dst R x k y/\k<=L
 cmp:∀y k,k<=L->Dst R x k y->look y=some k
 edg:∀y,y∈edge ↔ Dst R x L y
structure Mid (R:α->α->Prop) (x:α) (L:Nat) (look:α->Option Nat) (further:List α) (done:α->α->Prop):Prop where
 snd:∀y k,look y=some k->(Dst R x k y/\k<=L)∨(k=L+1/\y∈further)
 cmp:∀y k,k<=L->Dst R x k y->look y=some k
 fur:∀y,y∈further->Dst R x (L+1) y/\look y=some (L+1)
 dn:∀z y,done z y->(look y).isSome=true
theorem Lev.start [DecidableEq α] (h:∀y,look y=if y=x then some 0 else none):Lev R x 0 look [x]:=by
 refine⟨fun y k e=>?_,fun y k hk d=>?_,fun y=>?_⟩
 ·rw[h] at e
  split at e
  ·rename_i q;subst q;cases e;exact⟨Dst.zero,Nat.le_refl _⟩
  ·cases e
 ·have:k=0:=by omega
  subst this
  rw[h,if_pos d.of_zero]
 ·rw[List.mem_singleton]
  exact⟨fun e=>e ▸ Dst.zero,fun d=>d.of_zero⟩
theorem Lev.mid (h:Lev R x L look edge):Mid R x L look [] (fun _ _=>False) :=
 ⟨fun y k e=>.inl (h.snd y k e),h.cmp,fun y hy=>(nomatch hy),fun _ _ f=>f.elim⟩
theorem Mid.skip (h:Mid R x L look further done) (e:(look y).isSome=true):Mid R x L look further (fun a b=>done a b∨(a=z/\b=y)) :=
 ⟨h.snd,h.cmp,h.fur,fun a b d=>by
  rcases d with d | ⟨_,q⟩
  ·exact h.dn a b d
  ·rw[q];exact e⟩
theorem Mid.add (h:Mid R x L look further done) (hz:Dst R x L z) (r:R z y) (e:look y=none)
    [DecidableEq α] (hl:∀a,look' a=if a=y then some (L+1) else look a):Mid R x L look' (further++[y]) (fun a b=>done a b∨(a=z/\b=y)):=by
 have dy:Dst R x (L+1) y:=by
  refine⟨⟨z,hz.1,r⟩,fun k hk w=>?_⟩
  obtain⟨d,dd⟩:=Rch.dst ⟨k,w⟩
  have hd:d<=k:=Nat.le_of_not_lt fun q=>dd.2 k q w
  rw[h.cmp y d (by omega) dd] at e
  cases e
 refine⟨fun a k q=>?_,fun a k hk d=>?_,fun a ha=>?_,fun a b d=>?_⟩
 ·rw[hl] at q
  split at q
  ·rename_i ea;cases q;subst ea;exact .inr ⟨rfl,by simp⟩
  ·rcases h.snd a k q with q' | ⟨q1,q2⟩
   ·exact .inl q'
   ·exact .inr ⟨q1,by simp[q2]⟩
 ·rw[hl]
  split
  ·rename_i ea;subst ea;have:=d.uniq dy;omega
  ·exact h.cmp a k hk d
 ·rcases List.mem_append.mp ha with q | q
  ·refine⟨(h.fur a q).1,?_⟩
   rw[hl]
   split
   ·rfl
   ·exact(h.fur a q).2
  ·have:a=y:=by simpa using q
   subst this
   exact⟨dy,by rw[hl,if_pos rfl]⟩
 ·rw[hl]
  split
  ·rfl
  ·rename_i nb
   rcases d with d | ⟨_,q⟩
   ·exact h.dn a b d
   ·exact absurd q nb
theorem Mid.wk (h:Mid R x L look further done) (w:∀a b,done' a b->done a b):Mid R x L look further done' :=
 ⟨h.snd,h.cmp,h.fur,fun a b d=>h.dn a b (w a b d)⟩
theorem Mid.next {L:Nat}{look:α->Option Nat}{further edge:List α}{done:α->α->Prop}(h:Mid R x L look further done) (he:∀y,y∈edge ↔ Dst R x L y) (hd:∀z y,z∈edge->R z y->done z y):Lev R x (L+1) look further:=by
 have key:∀y,Dst R x (L+1) y->y∈further/\look y=some (L+1):=fun y d=>by
  obtain⟨z,dz,r⟩:=d.pred
  have s:=h.dn z y (hd z y ((he z).mpr dz) r)
  obtain⟨k,e⟩:=Option.isSome_iff_exists.mp s
  rcases h.snd y k e with⟨q,hk⟩ | ⟨q1,q2⟩
  ·have:=q.uniq d;omega
  ·subst q1;exact⟨q2,e⟩
 refine⟨fun y k e=>?_,fun y k hk d=>?_,fun y=>⟨fun q=>(h.fur y q).1,fun d=>(key y d).1⟩⟩
 ·rcases h.snd y k e with⟨q,hk⟩ | ⟨q1,q2⟩
  ·exact⟨q,by omega⟩
  ·subst q1;exact⟨(h.fur y q2).1,Nat.le_refl _⟩
 ·by_cases q:k=L+1
  ·subst q;exact(key y d).2
  ·exact h.cmp y k (by omega) d
theorem Lev.done (h:Lev R x L look []):∀y k,look y=some k ↔ Dst R x k y:=fun y k=>by
 refine⟨fun e=>(h.snd y k e).1,fun d=>?_⟩
 by_cases q:k<=L
 ·exact h.cmp y k q d
 ·obtain⟨z,hz⟩:=d.below L (by omega)
  exact(nomatch (h.edg z).mpr hz)
end MG
namespace MG
variable {α:Type}{R:α->α->Prop}{x:α}
theorem Dst.lt {ss:List α}(hin:∀y, Rch R x y -> y ∈ ss) {L:Nat}{y:α}(d:Dst R x L y):L<ss.length := by
 have key:∀n, n <= L+1 -> ∃zs:List α, zs.length=n /\ zs.Nodup /\ ∀z ∈ zs, ∃e, e<n /\ Dst R x e z := by
  intro n
  induction n with
  | zero=>intro _;exact⟨[],rfl,List.nodup_nil,fun z hz=>by cases hz⟩
  | succ n ih =>
   intro hn
   obtain⟨zs,hl,hnd,hz⟩:=ih (by omega)
   obtain⟨z,dz⟩:=d.below n (by omega)
   refine⟨z::zs,by simp[hl],List.nodup_cons.mpr ⟨fun hm=>?_,hnd⟩,fun w hw=>?_⟩
   ·obtain⟨e,he,de⟩:=hz z hm
    have:=de.uniq dz
    omega
   ·rcases List.mem_cons.mp hw with rfl | hw
    ·exact⟨n,by omega,dz⟩
    ·obtain⟨e,he,de⟩:=hz w hw
     exact⟨e,by omega,de⟩
 obtain⟨zs,hl,hnd,hz⟩:=key (L+1) (Nat.le_refl _)
 have:=hnd.length_le_of_subset (l₂:=ss) fun z hm=>by
  obtain⟨e,_,de⟩:=hz z hm
  exact hin z de.rch
 omega
theorem Rch.map (f:α->β) (h:∀a b,R a b->S (f a) (f b)) (r:Rch R x y):Rch S (f x) (f y):=by
 obtain⟨n,w⟩:=r
 refine⟨n,?_⟩
 induction n generalizing y with
 | zero =>
  have w:x=y:=w
  subst w
  exact rfl
 | succ n ih =>
  obtain⟨z,w,r⟩:=w
  exact⟨f z,ih w,h z y r⟩
end MG
namespace L2
open PySem PySem.Spec PyProof.Rows
theorem canLay_nm (h:Nm s):PyData.canLay0 (.str s)=true:=by
 show (s.cps.all (·<0x110000))=true
 rw[<- Array.all_toList,List.all_eq_true]
 intro c hc
 have:=h.2.2 c hc
 exact decide_eq_true (by omega)
theorem canLay_strs:∀ss:List Str,(∀s∈ss,Nm s)->PyData.canLayAll0 (ss.map PyData.str)=true
 | [],_=>rfl
 | s::ss,h=>by
  show (PyData.canLay0 (.str s)&&PyData.canLayAll0 (ss.map PyData.str))=true
  rw[canLay_strs ss fun x hx=>h x (List.mem_cons_of_mem _ hx),canLay_nm (h s (by simp))]
  rfl
theorem eqv_shp (h:shp d):PyData.eqv d d=true:=SeqAt.eqv_refl d (SeqAt.canLay_of_shaped h)
theorem for_enum {K:W.Frag}{a:Addr}{xs:List V}{g:TG}{tb:TS}{D:Ends}{σ:St}{H:Hp}(Pv:Nat -> St -> Hp -> Prop) (h0:Pv 0 σ H) (hl:∀i σ H, i <= xs.length -> Pv i σ H -> SqL K H a xs)
    (hs:∀i x σ H p,xs[i]? = some x->Pv i σ H->H p=none->g (.ref p) σ (upd H p (.tup [.int i,x])) fun σ2 H2=>tb { D with nx:=Pv (i+1),ct:=Pv (i+1),bk:=D.nx } σ2 H2) (hd:∀σ H,Pv xs.length σ H->D.nx σ H) :
    ∃W:Nat->Nat->St->Hp->Prop,(∃m,W 0 m σ H)/\∀i m σ H,W i m σ H ->
     ((Ite K a).stop i H/\D.nx σ H)∨((Ite K a).go i H/\∃N:St->Hp->Prop,(∀σ' H',N σ' H'->∃m',m'<m/\W (i+1) m' σ' H')/\∀x H',(Ite K a).yld i H x H'->g x σ H' fun σ2 H2=>tb { D with nx:=N,ct:=N,bk:=D.nx } σ2 H2):=by
 refine⟨fun i m σ H=>m=xs.length-i/\i<=xs.length/\Pv i σ H,⟨xs.length,by simp,Nat.zero_le _,h0⟩,?_⟩
 rintro i m σ H ⟨rfl,hi,p⟩
 have q:=hl i σ H hi p
 by_cases hlt:i<xs.length
 ·refine .inr ⟨⟨xs,xs[i],q,by simp[hlt]⟩,Pv (i+1),fun σ' H' p'=>⟨xs.length-(i+1),by omega,rfl,hlt,p'⟩,fun x H' y=>?_⟩
  obtain⟨r,z,hr,rfl,hz,rfl⟩:=y
  exact hs i z σ H r (hz xs q) p hr
 ·have e:i=xs.length:=by omega
  subst e
  exact .inl ⟨⟨xs,q,Nat.le_refl _⟩,hd σ H p⟩
def spPlaces:Sp:=fun vs H Q _=>∃a xs,vs=[.ref a]/\H a=some (.lst (List.map V.str xs))/\xs.length<=1000 /\
 ∀d kvs H',Same H H'->H d=none->H' d=some (.dK kvs)->(∀s,(valV kvs (.inr s)).isSome=true ↔ s∈xs)->(∀s v,valV kvs (.inr s)=some v->∃j:Nat,v=.int j/\xs[j]? = some s)->Q (.ref d) H'
structure Web (H:Hp) (v:V) (ss:List Str) (ts:List (Str × Str)):Prop where
 rep:Rep H v (webD ss ts)
 nd:ss.Nodup
 nm:∀s∈ss,Nm s
 len:ss.length<=60
 few:ts.length<=401
 inn:∀e∈ts,e.1∈ss/\e.2∈ss
theorem Web.same (h:Web H v ss ts) (s:Same H H'):Web H' v ss ts:=⟨h.rep.same s,h.nd,h.nm,h.len,h.few,h.inn⟩
def nxtL (ss:List Str) (ts:List (Str × Str)) (s:Str):List Str:=ss.filter fun t=>decide ((s,t)∈ts)
def flipE (ts:List (Str × Str)):List (Str × Str):=ts.map fun e=>(e.2,e.1)
def Tab (H:Hp) (d:Addr) (ss:List Str) (f:Str->List Str):Prop:=∃kvs,H d=some (.dK kvs)/\∀s∈ss,∃l,valV kvs (.inr s)=some (.ref l)/\H l=some (.lst (List.map V.str (f s)))
theorem Tab.same (h:Tab H d ss f) (s:Same H H'):Tab H' d ss f:=let ⟨kvs,a,b⟩:=h;⟨kvs,s _ _ a,fun x hx=>let ⟨l,c,e⟩:=b x hx;⟨l,c,s _ _ e⟩⟩
def Ner (ss:List Str) (f:Str->List Str) (a b:Str):Prop:=a∈ss/\b∈f a
def Tie (ts:List (Str × Str)) (a b:Str):Prop:=(a,b)∈ts
end L2
namespace MG
variable {α:Type}{R:α->α->Prop}{x:α}
variable {es:List (Nat × Nat)}{goal:Nat}
end MG
namespace MG
variable {es:List (Nat × Nat)}
end MG
namespace L2
open PySem PySem.Spec PyProof.Rows
theorem same_free (s:Same H H') (h:H' b=none):H b=none:=by
 cases q:H b with
 | none=>rfl
 | some o=>rw[s _ _ q] at h;cases h
theorem same_at (s:Same H H') (h:H b=none):Same H (upd H' b o):=fun c o' hc=>by
 rw[upd_ne (ne_of_none hc h)];exact s _ _ hc
theorem penSame (s:Same H H') (v:PenV H p a):PenV H' p a:=let ⟨i,m,e,q⟩:=v;⟨i,m,s _ _ e,q⟩
section
variable {X:Cx}{p pos p2 pos2:Pos}{e f:Expr}{t:TA}
theorem vals_get {xs:List V}{us:List Value}(r:Vals xs us) {j:Nat}(e:us[j]? = some u):∃x,xs[j]? = some x/\RelV x u:=by
 induction r generalizing j with
 | nil=>simp at e
 | @cons a b as bs h t ih =>
  cases j with
  | zero=>simp at e;subst e;exact⟨a,rfl,h⟩
  | succ j=>simpa using ih (by simpa using e)
end
end L2
namespace MG
section
variable {α:Type} [DecidableEq α]
def ix:List α->α->Nat
 | [],_=>0
 | a::r,x=>if a=x then 0 else ix r x+1
theorem ix_here (a:α) (r:List α):ix (a::r) a=0:=by show (if a=a then 0 else _)=0;rw[if_pos rfl]
theorem ix_next (r:List α) (h:a≠x):ix (a::r) x=ix r x+1:=by show (if a=x then 0 else _)=_;rw[if_neg h]
theorem ix_at (nd:l.Nodup):∀ {i:Nat}{x:α}, l[i]? = some x -> ix l x=i := by
 induction l with
 | nil=>intro i x e;simp at e
 | cons a r ih =>
  intro i x e
  have ⟨h1,h2⟩:=List.nodup_cons.mp nd
  cases i with
  | zero=>simp at e;subst e;exact ix_here a r
  | succ i =>
   have e':r[i]? = some x:=by simpa using e
   have hx:=List.mem_of_getElem? e'
   rw[ix_next r (fun q:a=x=>h1 (q ▸ hx)),ih h2 e']
theorem at_ix {l:List α}{x:α}(h:x ∈ l):l[ix l x]? = some x := by
 induction l with
 | nil=>cases h
 | cons a r ih =>
  by_cases q:a=x
  ·subst q;rw[ix_here];rfl
  ·rw[ix_next r q]
   rcases List.mem_cons.mp h with h | h
   ·exact absurd h.symm q
   ·simpa using ih h
theorem ix_lt {l:List α}{x:α}(h:x∈l):ix l x<l.length:=(List.getElem?_eq_some_iff.mp (at_ix h)).1
theorem ix_inj {l:List α}{x y:α}(h:x∈l) (g:y∈l) (e:ix l x=ix l y):x=y:=by
 have h1:=at_ix h
 rw[e,at_ix g] at h1
 exact(Option.some.inj h1).symm
end
variable {es:List (Nat × Nat)}
end MG
namespace L2
open PySem PySem.Spec PyProof.Rows
open PySem.AutoSeq1 (wpAny_loadPart')
section
variable {prog:Program}{w:World}{A:Around}{E:Value->Shared->Prop}{s:Shared}
theorem nextT_item (hj:s.heap.IsTupleIter jt tt i) (htt:s.heap.IsTuple tt its) (hy:its[i]? = some y)
    (hQ:∀h',h'.IsTupleIter jt tt (i+1)->Heap.SameBut jt s.heap h'->Q y { s with heap:=h' }):wpAny (model prog w) A (Builtin.SmallTypes.nextOf (.ref jt)) Q E s:=by
 obtain⟨oj,hoj,cj,dj⟩:=id hj
 obtain⟨ot,hot,_,nt,dt⟩:=htt
 unfold Builtin.SmallTypes.nextOf
 refine wpAny_bind (wpAny_callSpecial?_slot (name:=Str.ofString "__next__") hj.typeIs F.slot_tuple_iterator_next (wpAny_call_entry F.slot_tuple_iterator_next hj.typeIs F.entry_tuple_iterator_next ?_ (F.args_tuple_iterator_next_1 _)))
 show wpAny _ _ (field (.ref jt) 0 >>= _) _ _ s
 refine wpAny_bind (wpAny_field hoj dj (x:=.ref tt) rfl ?_)
 show wpAny _ _ (if (Value.ref tt==Value.none)=true then _ else _) _ _ s
 rw[if_neg (show ¬ ((Value.ref tt==Value.none)=true) from Bool.false_ne_true)]
 show wpAny _ _ (field (.ref jt) 1 >>= _) _ _ s
 refine wpAny_bind (wpAny_field hoj dj (x:=.int i 0) rfl (wpAny_bind (wpAny_seqItems hot dt ?_)))
 simp only[Int.toNat_natCast,hy]
 refine wpAny_bind (wpAny_setField hoj dj (by simp) (wpAny_pure ⟨y,rfl,wpAny_pure (hQ _ ?_ (Heap.SameBut.update ..))⟩))
 exact⟨_,Heap.get?_update_self _ hoj (Obj.isFreed_of_fields (Obj.data_mapFields dj _)),(Obj.cls_mapFields ..).trans cj,by rw[Obj.data_mapFields dj];simp[rawInt]⟩
theorem nextT_end (hh:A.handled=none) (hj:s.heap.IsTupleIter jt tt i) (htt:s.heap.IsTuple tt its) (hy:its[i]? = none)
    (hE:∀h' e,Heap.ExtBut jt s.heap h'->(∃o,h'.get? e=some o/\o.cls=.type "StopIteration")->E (.ref e) { s with heap:=h' }):wpAny (model prog w) A (Builtin.SmallTypes.nextOf (.ref jt)) Q E s:=by
 obtain⟨oj,hoj,cj,dj⟩:=id hj
 obtain⟨ot,hot,_,nt,dt⟩:=htt
 unfold Builtin.SmallTypes.nextOf
 refine wpAny_bind (wpAny_callSpecial?_slot (name:=Str.ofString "__next__") hj.typeIs F.slot_tuple_iterator_next (wpAny_call_entry F.slot_tuple_iterator_next hj.typeIs F.entry_tuple_iterator_next ?_ (F.args_tuple_iterator_next_1 _)))
 show wpAny _ _ (field (.ref jt) 0 >>= _) _ _ s
 refine wpAny_bind (wpAny_field hoj dj (x:=.ref tt) rfl ?_)
 show wpAny _ _ (if (Value.ref tt==Value.none)=true then _ else _) _ _ s
 rw[if_neg (show ¬ ((Value.ref tt==Value.none)=true) from Bool.false_ne_true)]
 show wpAny _ _ (field (.ref jt) 1 >>= _) _ _ s
 refine wpAny_bind (wpAny_field hoj dj (x:=.int i 0) rfl (wpAny_bind (wpAny_seqItems hot dt ?_)))
 simp only[Int.toNat_natCast,hy]
 refine wpAny_bind (wpAny_rule (wpAny_bind (wpAny_setField hoj dj (by simp) ?_)))
 show wpAny _ _ (newExc (.type "StopIteration") [] >>= _) _ _ _
 refine wpAny_bind ?_
 simp only[newExc,newTuple]
 refine wpAny_bind (wpAny_newObj_type (wpAny_bind (m:=firstArgMember _ _) (wpAny_of_eq (a:=Value.none) (by first | rfl | (simp only[firstArgMember];rfl)) ?_)) (by size_fits))
 refine wpAny_newObj_type ?_ (by size_fits)
 simp only[raiseNew]
 refine wpAny_bind (wpAny_handled ?_)
 first | rw[show A.in1.handled=none from hh] | rw[hh]
 refine wpAny_bind (wpAny_pure (wpAny_throw (hE _ _ (((Heap.SameBut.update ..).extBut.push _).push _) ⟨_,Heap.get?_push_size _ rfl,rfl⟩)))
theorem drawsT (hh:A.handled=none) (jt tt:Addr) (hne:tt≠jt) (its:Array Value) :
    Draws prog w A jt [jt,tt] its.size (fun i y=>its[i]? = some y) (fun i h=>h.IsTupleIter jt tt i/\h.IsTuple tt its) where
 live:=fun i h st=>let ⟨o,e,_⟩:=st.1;⟨o,e⟩
 frame:=fun i h h' st k=>⟨let ⟨o,e,r⟩:=st.1;⟨o,k jt (by simp) o e,r⟩,let ⟨o,e,r⟩:=st.2;⟨o,k tt (by simp) o e,r⟩⟩
 item:=fun i s Q E hi st hQ=>nextT_item st.1 st.2 (y:=its[i]) (by simp[hi]) fun h' j' sb=>hQ _ h' s.toks (by simp[hi]) ⟨j',st.2.extBut sb.extBut hne⟩ sb
 done:=fun s Q E st hE=>nextT_end hh st.1 st.2 (by simp) hE
set_option maxHeartbeats 1000000 in
theorem meets_enumT (l:Addr) (its:Array Value) (n:Nat) (dct:Option Addr) (sl:Array (Option Value)) :
    Meets (Builtin.«enumerate.__new__» ⟨[.type "enumerate",.ref l],[]⟩) (fun _ R s=>s.heap.get? l=some { cls:=.type "tuple",dict:=dct,data:=.seq its n,slots:=sl } /\
     R (.ok (.ret (.ref (s.heap.push { cls:=.type "tuple_iterator",data:=.fields #[.ref l,.int 0 0] }).objs.size)))
      { s with heap:=(s.heap.push { cls:=.type "tuple_iterator",data:=.fields #[.ref l,.int 0 0] }).push { cls:=.type "enumerate",data:=.fields #[.none,.bool false,.ref s.heap.objs.size,rawInt 0,.none,.none] } }) :=
 .of_wp fun prog w A R s h => by
  obtain⟨h0,g0,d0,t0,os0⟩:=s
  obtain⟨hl,h⟩:=h
  have hsub:=sub_enumerate
  have hT:Heap.IsTuple (Shared.heap ⟨h0,g0,d0,t0,os0⟩) l its:=⟨_,hl,rfl,n,rfl⟩
  wp_walk using wpAny_loadPart' hl
  refine wpAny_stack_any fun st=>wpAny_pure ?_
  split
  ·rename_i c _ _ _ _ _
   cases (c==Value.type "enumerate")
   ·wp_walk using wpAny_loadPart' hl,wpAny_pyIter_tuple hT
    exact⟨_,rfl,h⟩
   ·wp_walk using wpAny_loadPart' hl,wpAny_pyIter_tuple hT
    exact⟨_,rfl,h⟩
  ·wp_walk using wpAny_loadPart' hl,wpAny_pyIter_tuple hT
   exact⟨_,rfl,h⟩
theorem call_enumT (hT:s.heap.IsTuple l its)
    (h:∀h',IsEnum h' (s.heap.objs.size+1) s.heap.objs.size 0 .none->h'.IsTupleIter s.heap.objs.size l 0->(∀b o,s.heap.get? b=some o->h'.get? b=some o)->Q (.ref (s.heap.objs.size+1)) { s with heap:=h' }) :
    wpAny (model prog w) A (call (.type "enumerate") [.ref l]) Q E s:=by
 obtain⟨⟨c,dct,dt,sl⟩,hl,hc,n,hd⟩:=hT
 replace hc:c=.type "tuple":=hc
 replace hd:dt=.seq its n:=hd
 subst hc hd
 refine callType_new F.called_enumerate (by decide) (F.typeCall_enumerate_1 _) (F.newCall_enumerate_1 _) (fun obj=>F.args_object_init_2 obj _) F.entry_enumerate_new (meets_enumT l its n dct sl) ⟨hl,?_⟩
 have hz:(s.heap.push { cls:=.type "tuple_iterator",data:=.fields #[.ref l,.int 0 0] }).objs.size=s.heap.objs.size+1:=Heap.size_push ..
 show _/\_
 rw[hz]
 have he:IsEnum ((s.heap.push { cls:=.type "tuple_iterator",data:=.fields #[.ref l,.int 0 0] }).push { cls:=.type "enumerate",data:=.fields #[.none,.bool false,.ref s.heap.objs.size,rawInt 0,.none,.none] }) (s.heap.objs.size+1) s.heap.objs.size 0 .none:=by
  have:=Heap.get?_push_size (s.heap.push { cls:=.type "tuple_iterator",data:=.fields #[.ref l,.int 0 0] }) (o:={ cls:=.type "enumerate",data:=.fields #[.none,.bool false,.ref s.heap.objs.size,rawInt 0,.none,.none] }) rfl
  rw[hz] at this;exact this
 exact⟨⟨_,he,rfl⟩,h _ he ⟨_,Heap.get?_push_of_some _ (Heap.get?_push_size _ rfl),rfl,rfl⟩ fun b o x=>Heap.get?_push_of_some _ (Heap.get?_push_of_some _ x)⟩
end
def IteT (K:W.Frag) (a:Addr):It :=
 ⟨fun i H=>∃xs x,SqT K H a xs/\xs[i]? = some x,fun i H v H'=>∃p x,H p=none/\v=.ref p/\(∀xs,SqT K H a xs->xs[i]? = some x)/\H'=upd H p (.tup [.int i,x]),fun i H=>∃xs,SqT K H a xs/\xs.length<=i⟩
theorem turn_enumT {P:Program}{w:World}{K:W.Frag}{elts:List Expr}{k:Nat}{tp:Pos}(a e it:Addr) (hne:e ≠ it) :
    Turn P w K (.Tuple elts k tp) (IteT K a) [e,it] e (fun i h=>(∃old,IsEnum h e it i old)/\h.IsTupleIter it a i) where
 mem:=by simp
 obj:=fun i h st b hb=>by
  obtain⟨⟨old,he⟩,hit⟩:=st
  have hb:b=e∨b=it:=by simpa using hb
  rcases hb with z | z
  ·subst z
   exact⟨_,he,fun v z=>by cases z⟩
  ·subst z
   obtain⟨o,e1,c,d⟩:=hit
   exact⟨o,e1,fun v z=>by rw[d] at z;cases z⟩
 keep:=fun i h h' st kk=>by
  obtain⟨⟨old,he⟩,hit⟩:=st
  exact⟨⟨old,kk e (by simp) _ he⟩,let ⟨o,q,r⟩:=hit;⟨o,kk it (by simp) o q,r⟩⟩
 item := by
  intro X hP hw hK hc i pins s σ H E I hf st hg
  subst hP hw hK
  obtain⟨⟨old,he⟩,hit⟩:=st
  obtain⟨xs,x,hq,hx⟩:=hg
  obtain⟨its,rv,p,hz⟩:=I.tuple hq
  obtain⟨u,hu,ru⟩:=rv.get hx
  obtain⟨f0,f1,f2,f3,f4,f5⟩:=hf e (by simp)
  obtain⟨g0,g1,g2,g3,g4,g5⟩:=hf it (by simp)
  have hel:e<s.heap.objs.size:=Heap.lt_size he
  have hil:it<s.heap.objs.size:=by obtain⟨o,q,_⟩:=hit;exact Heap.lt_size q
  have hae:a≠e:=fun z=>by
   obtain⟨o,q,c,_⟩:=p
   rw[z,he] at q;cases q;simp at c
  have hai:a≠it:=fun z=>by
   obtain⟨o,q,c,_⟩:=p
   obtain⟨o',q',c',_⟩:=hit
   rw[z,q'] at q;cases q;rw[c] at c';simp at c'
  have hul:=(List.getElem?_eq_some_iff.mp hu).1
  refine wpAny_pyNext_enum_itemD (drawsT (A:=X.A.in1) (show X.A.in1.handled=none from I.ok.hd hc) it a hai its.toArray) he ⟨hit,p⟩ (by simpa using hul) hne (by simp[hne,Ne.symm hae]) fun u' h1 tk hu' ho hit1 ht1 hz1 k1=>?_
  have eu:u'=u:=by
   have:its[i]? = some u':=by simpa using hu'
   rw[hu] at this
   exact(Option.some.inj this).symm
  subst eu
  refine⟨_,rfl,wpAny_letOwnedTupleGo_enum ho fun h2 he2 sb2=>?_⟩
  have sb2:Heap.SameBut e h1 h2:=sb2
  have T2:h2.get? s.heap.objs.size=some { cls:=.type "tuple",data:=.seq #[.int i tk,u'] }:=(sb2.2 _ (Nat.ne_of_gt hel)).trans ht1
  have hp:H s.heap.objs.size=none:=I.hok.fresh (Nat.le_refl _)
  have nit:∀b v,H b=some v->b≠e/\b≠it:=fun b v q=>⟨fun z=>(by rw[z,f0] at q;cases q),fun z=>(by rw[z,g0] at q;cases q)⟩
  have kk:∀b o,b≠e->b≠it->s.heap.get? b=some o->h2.get? b=some o:=fun b o n1 n2 q=>(sb2.2 b n1).trans (k1 b o n1 n2 q)
  have up:∀b v,H b=some v->upd H s.heap.objs.size (.tup [.int i,x]) b=some v:=fun b v q=>by rw[upd_ne (ne_of_none q hp)];exact q
  have I1:Inv X pins σ (upd H s.heap.objs.size (.tup [.int i, x])) { s with heap := h2, gens := s.gens, drawn := s.drawn, toks := tk+1 } := by
   refine I.step (g':=s.gens) (d':=s.drawn) (ch:=[e,it]) (fun b hb=>?_) (fun b o _ _ hb q _=>kk b o (fun z=>hb (by simp[z])) (fun z=>hb (by simp[z])) q) (fun b o _ _ hb q _=>⟨o.slots,kk b o (fun z=>hb (by simp[z])) (fun z=>hb (by simp[z])) q⟩) (fun b o _ q n=>?_)
    (fun b o hb q=>⟨o,kk b o (fun z=>hb (by simp[z])) (fun z=>hb (by simp[z])) q⟩) (fun b ys q=>up b _ q) (fun b o v q=>up b _ q) (fun b ps q=>⟨#[],by rw[up b _ q];simp⟩) (fun m hm=>?_) (fun b v q=>?_) I.bare
   ·have hb:b=e∨b=it:=by simpa using hb
    rcases hb with z | z
    ·subst z;exact⟨f3,f1,f4,f5⟩
    ·subst z;exact⟨g3,g1,g4,g5⟩
   ·rw[upd_ne (Nat.ne_of_lt (Heap.lt_size q))];exact n
   ·obtain⟨o,es,ep,ho,r⟩:=hm
    exact⟨o,es,ep,kk _ o (Ne.symm f1) (Ne.symm g1) ho,r⟩
   ·by_cases hb:b=s.heap.objs.size
    ·subst hb
     rw[upd_same] at q
     have q':HO.tup [V.int i,x]=v:=Option.some.inj q
     subst q'
     exact⟨by show 2<=sizeLine;decide,[.int i tk,u'],.cons ⟨_,rfl⟩ (.cons ru .nil),⟨_,T2,rfl,_,rfl,rfl⟩⟩
    ·rw[upd_ne hb] at q
     refine(I.hok b v q).stay (fun c v' hc q'=>?_) (fun c q=>up c _ q) fun c ys q=>up c _ q
     rcases hc with z | z
     ·rw[z] at q' ⊢;exact kk b v' (nit b v q).1 (nit b v q).2 q'
     ·exact kk c v' (nit c _ z).1 (nit c _ z).2 q'
  refine⟨.ref s.heap.objs.size,upd H s.heap.objs.size (.tup [.int i,x]),I1,rfl,⟨_,x,hp,rfl,fun ys hy=>by rw[I.tuple_inj hy hq];exact hx,rfl⟩,⟨⟨u',?_⟩,?_⟩,fun b hb=>?_⟩
  ·exact(by simpa using he2)
  ·obtain⟨o,q,r⟩:=hit1.1
   exact⟨o,(sb2.2 it (Ne.symm hne)).trans q,r⟩
  ·have hb:b=e∨b=it:=by simpa using hb
   rcases hb with z | z
   ·rw[z,upd_ne (Nat.ne_of_lt hel)];exact f0
   ·rw[z,upd_ne (Nat.ne_of_lt hil)];exact g0
 done:=by
  intro X hP hw hK hc i pins s σ H E I hf st hg
  subst hP hw hK
  obtain⟨⟨old,he⟩,hit⟩:=st
  obtain⟨xs,hq,hx⟩:=hg
  obtain⟨its,rv,p,hz⟩:=I.tuple hq
  obtain⟨g0,g1,g2,g3,g4,g5⟩:=hf it (by simp)
  have hl:=rv.length
  have hT:s.TypeIs (.ref e) "enumerate":=⟨_,he,rfl⟩
  unfold pyNext
  refine wpAny_bind (wpAny_attempt (wpAny_callSpecial?_slot (name:=Str.ofString "__next__") hT F.slot_enumerate_next (wpAny_call_entry F.slot_enumerate_next hT F.entry_enumerate_next ?_ (F.args_enumerate_next_1 _))))
  show wpAny _ _ (field (.ref e) 2 >>= _) _ _ _
  refine wpAny_bind (wpAny_field he rfl (x:=.ref it) rfl (wpAny_bind (nextT_end (I.ok.hd hc) hit p (by simp;omega) fun h' x he' hx'=>?_)))
  obtain⟨o,ho,hc'⟩:=hx'
  refine wpAny_bind (wpAny_isInstance (T:="StopIteration") (b:=true) ⟨o,ho,hc'⟩ isSubtype_stop ?_)
  exact wpAny_pure ⟨rfl,I.turned (t':=s.toks) (fun b o hb q=>he' b o hb q) g0 g1 g3 g4 g5⟩
 self:=fun _ _ _ _ _ st h=>by
  obtain⟨⟨old,he⟩,_⟩:=st
  exact wpAny_pyIter_enum he h
inductive EnmR (K:W.Frag) (H:Hp):V->(It->Hp->Prop)->Prop
 | lst {a:Addr} {xs:List V} {R:It->Hp->Prop}:SqL K H a xs->R (Ite K a) H->EnmR K H (.ref a) R
 | tup {a:Addr} {xs:List V} {R:It->Hp->Prop}:SqT K H a xs->R (IteT K a) H->EnmR K H (.ref a) R
def iEnumX (K:W.Frag) (ta:TA):TI:=fun σ H R=>ta σ H fun vs H1=>∃x,vs=[x]/\EnmR K H1 x R
theorem pi_enumX (K:W.Frag) {X:Cx}{elts:List Expr}{k:Nat}{tp:Pos}{a:Expr}{ta:TA}{p pos:Pos}(hg:Gl X "enumerate") (hm:X.mg "enumerate"=none) (ha:PA X [a] ta) (hs:starEach [a] X.env=[(false,eval a X.env)]:=by rfl) (hK:X.K=K:=by rfl) :
    PI X (.Tuple elts k tp) (.Call (.Name "enumerate" p) [a] [] pos) (iEnumX K ta):=by
 subst hK
 intro pins s σ H R I h
 refine Call_ (ld_blt I hg hm boot_enumerate (PyProof.Rows.callWith_type1 (thn (ha pos pins s σ H _ I h) fun us s1 ⟨vs,H1,I1,r1,q1⟩=>?_) hs rfl))
 obtain⟨x,e,q⟩:=q1
 subst e
 obtain⟨u,rfl,ru⟩:=vals1 r1
 have fin:∀b,b=s1.heap.objs.size+1∨b=s1.heap.objs.size->FpOk X pins H1 b:=fun b hb=>by
  rcases hb with z | z
  ·subst z;exact I1.fpOk (Nat.le_succ _) (I1.hok.fresh (Nat.le_succ _))
  ·subst z;exact I1.fpOk (Nat.le_refl _) (I1.hok.fresh (Nat.le_refl _))
 cases q with
 | lst hq q =>
  cases ru
  obtain⟨its,rv,pl,hz⟩:=I1.list hq
  refine call_enumerate_list pl.isList fun h' he hit hz' k'=>wpAny_pyIter_enum (s:={ s1 with heap:=h' }) he ?_
  exact⟨_,[s1.heap.objs.size+1,s1.heap.objs.size],_,_,H1,rfl,I1.kept (t':=s1.toks) k',turn_enum _ _ _ (Nat.succ_ne_self _),⟨⟨_,he⟩,hit⟩,fun b hb=>fin b (by simpa using hb),q⟩
 | tup hq q =>
  cases ru
  obtain⟨its,rv,pl,hz⟩:=I1.tuple hq
  refine call_enumT pl fun h' he hit k'=>wpAny_pyIter_enum (s:={ s1 with heap:=h' }) he ?_
  exact⟨_,[s1.heap.objs.size+1,s1.heap.objs.size],_,_,H1,rfl,I1.kept (t':=s1.toks) k',turn_enumT _ _ _ (Nat.succ_ne_self _),⟨⟨_,he⟩,hit⟩,fun b hb=>fin b (by simpa using hb),q⟩
theorem for_enumT {K:W.Frag}{a:Addr}{xs:List V}{g:TG}{tb:TS}{D:Ends}{σ:St}{H:Hp}(Pv:Nat -> St -> Hp -> Prop) (h0:Pv 0 σ H) (hl:∀i σ H, i <= xs.length -> Pv i σ H -> SqT K H a xs)
    (hs:∀i x σ H p,xs[i]? = some x->Pv i σ H->H p=none->g (.ref p) σ (upd H p (.tup [.int i,x])) fun σ2 H2=>tb { D with nx:=Pv (i+1),ct:=Pv (i+1),bk:=D.nx } σ2 H2) (hd:∀σ H,Pv xs.length σ H->D.nx σ H) :
    ∃W:Nat->Nat->St->Hp->Prop,(∃m,W 0 m σ H)/\∀i m σ H,W i m σ H ->
     ((IteT K a).stop i H/\D.nx σ H)∨((IteT K a).go i H/\∃N:St->Hp->Prop,(∀σ' H',N σ' H'->∃m',m'<m/\W (i+1) m' σ' H')/\∀x H',(IteT K a).yld i H x H'->g x σ H' fun σ2 H2=>tb { D with nx:=N,ct:=N,bk:=D.nx } σ2 H2):=by
 refine⟨fun i m σ H=>m=xs.length-i/\i<=xs.length/\Pv i σ H,⟨xs.length,by simp,Nat.zero_le _,h0⟩,?_⟩
 rintro i m σ H ⟨rfl,hi,p⟩
 have q:=hl i σ H hi p
 by_cases hlt:i<xs.length
 ·refine .inr ⟨⟨xs,xs[i],q,by simp[hlt]⟩,Pv (i+1),fun σ' H' p'=>⟨xs.length-(i+1),by omega,rfl,hlt,p'⟩,fun x H' y=>?_⟩
  obtain⟨r,z,hr,rfl,hz,rfl⟩:=y
  exact hs i z σ H r (hz xs q) p hr
 ·have e:i=xs.length:=by omega
  subst e
  exact .inl ⟨⟨xs,q,Nat.le_refl _⟩,hd σ H p⟩
end L2
namespace L2
open PySem PySem.Spec PyProof.Rows
abbrev Zp (h:Heap) (z TI TO:Addr) (f0:Value) (f1:Bool):Prop:=h.get? z=some { cls:=.type "zip",dict:=none,data:=.fields #[f0,.bool f1,.bool false,.ref TI,.ref TO],slots:=#[] }
def F0 (f0:Value):Prop:=f0=.none∨∃T:Nat,f0=rawInt (T:Int)
def ItI:Bool->Heap->Addr->Addr->Nat->Prop
 | true,h,i,l,k=>h.IsTupleIter i l k
 | false,h,i,l,k=>h.IsListIter i l k
def SqI:Bool->Heap->Addr->Array Value->Prop
 | true,h,l,xs=>h.IsTuple l xs
 | false,h,l,xs=>h.IsList l xs
theorem ItI.at (j:ItI t h i l k) (f:∀o,h.get? i=some o->h'.get? i=some o):ItI t h' i l k:=by
 cases t
 ·exact Heap.IsListIter.at (h:=h) j f
 ·exact Heap.IsTupleIter.at (h:=h) j f
theorem SqI.at (j:SqI t h l xs) (f:∀o,h.get? l=some o->h'.get? l=some o):SqI t h' l xs:=by
 cases t
 ·exact Heap.IsList.at (h:=h) j f
 ·exact Heap.IsTuple.at (h:=h) j f
section
variable {prog:Program}{w:World}{A:Around}{E:Value->Shared->Prop}{s:Shared}
theorem alive_any (h:Q (s.heap.get? a) s):wpAny (model prog w) A (loadIfAlive a) Q E s:=fun _ _ _=>h
theorem zp_free {z TI TO:Addr}{f0:Value}{f1:Bool}(hf:F0 f0) (hz:Zp s.heap z TI TO f0 f1) {Q:Bool -> Shared -> Prop}(h:∀b f1' h', Zp h' z TI TO f0 f1' -> Heap.SameBut z s.heap h' -> Q b { s with heap := h' }) :
    wpAny (model prog w) A (Builtin.SmallTypes.ownedTupleIsFree (.ref z)) Q E s:=by
 unfold Builtin.SmallTypes.ownedTupleIsFree
 rcases hf with rfl | ⟨T,rfl⟩
 ·exact wpAny_bind (wpAny_field hz rfl (x:=.none) rfl (wpAny_pure (h true f1 s.heap hz (Heap.SameBut.refl ..))))
 ·refine wpAny_bind (wpAny_field hz rfl (x := rawInt (T:Int)) rfl ?_)
  refine wpAny_bind (alive_any ?_)
  cases s.heap.get? (T:Int).toNat with
  | none=>exact wpAny_pure (h true f1 s.heap hz (Heap.SameBut.refl ..))
  | some o =>
   show wpAny _ _ (field (.ref z) 1 >>= _) _ _ _
   refine wpAny_bind (wpAny_field hz rfl (x:=.bool f1) rfl ?_)
   cases f1 with
   | true=>exact wpAny_pure (h false true s.heap hz (Heap.SameBut.refl ..))
   | false =>
    show wpAny _ _ (setField (.ref z) 1 (.bool true) >>= _) _ _ _
    exact wpAny_bind (wpAny_setField_rec hz (by simp) fun h1 hz1 sb=>wpAny_pure (h false true h1 hz1 sb))
theorem nextI_item (hj:ItI t s.heap jt tt i) (htt:SqI t s.heap tt its) (hy:its[i]? = some y)
    (hQ:∀h',ItI t h' jt tt (i+1)->Heap.SameBut jt s.heap h'->Q y { s with heap:=h' }):wpAny (model prog w) A (Builtin.SmallTypes.nextOf (.ref jt)) Q E s:=by
 cases t
 ·exact wpAny_nextOf_list_item hj htt hy hQ
 ·exact nextT_item hj htt hy hQ
theorem nextI_end (hh:A.handled=none) (hj:ItI t s.heap jt tt i) (htt:SqI t s.heap tt its) (hy:its[i]? = none)
    (hE:∀h' e,Heap.ExtBut jt s.heap h'->(∃o,h'.get? e=some o/\o.cls=.type "StopIteration")->E (.ref e) { s with heap:=h' }):wpAny (model prog w) A (Builtin.SmallTypes.nextOf (.ref jt)) Q E s:=by
 cases t
 ·exact wpAny_nextOf_list_end hh hj htt hy hE
 ·exact nextT_end hh hj htt hy hE
theorem zpn_item {t1 t2:Bool}{z TI TO i1 i2 l1 l2:Addr}{k1 k2:Nat}{f0:Value}{f1:Bool}{xs ys:Array Value}{x y a b:Value}{Q:Value -> Shared -> Prop}(D:ZipApart z TI TO i1 i2 l1 l2) (hf:F0 f0)
    (hz:Zp s.heap z TI TO f0 f1) (hTI:IsPair s.heap TI (.ref i1) (.ref i2)) (hTO:IsPair s.heap TO a b)
    (h1:ItI t1 s.heap i1 l1 k1) (h2:ItI t2 s.heap i2 l2 k2) (hl1:SqI t1 s.heap l1 xs) (hl2:SqI t2 s.heap l2 ys) (hx:xs[k1]? = some x) (hy:ys[k2]? = some y)
    (hQ:∀h' f0' f1',F0 f0'->Zp h' z TI TO f0' f1'->(∃a b,IsPair h' TO a b)->ItI t1 h' i1 l1 (k1+1)->ItI t2 h' i2 l2 (k2+1)->IsPair h' s.heap.objs.size x y ->
     (∀c o,c≠z->c≠TO->c≠i1->c≠i2->s.heap.get? c=some o->h'.get? c=some o)->Q (.ref s.heap.objs.size) { s with heap:=h' }) :
    wpAny (model prog w) A (Builtin.«zip.__next__» ⟨[.ref z],[]⟩) (fun fin s'=>∃v,fin=.done (.ret v)/\Q v s') E s:=by
 show wpAny _ _ (field (.ref z) 2 >>= _) _ _ _
 refine wpAny_bind (wpAny_field hz rfl (x:=.bool false) rfl ?_)
 show wpAny _ _ (field (.ref z) 3 >>= _) _ _ _
 refine wpAny_bind (wpAny_field hz rfl (x:=.ref TI) rfl (wpAny_bind (wpAny_seqItems hTI rfl ?_)))
 refine wpAny_bind (zp_free hf hz fun own f1' g0 hz0 sb0=>?_)
 have sz0:g0.objs.size=s.heap.objs.size:=sb0.1
 cases own with
 | true =>
  simp only[if_true]
  refine wpAny_bind (wpAny_rule ?_)
  refine wpAny_bind (wpAny_field (s:={ s with heap:=g0 }) hz0 rfl (x:=.ref TO) rfl ?_)
  refine wpAny_bind (wpAny_setField_rec (s:={ s with heap:=g0 }) hz0 (by simp) fun g1 hz1 sb1=>?_)
  replace hz1:Zp g1 z TI TO .ellipsis f1':=hz1
  refine wpAny_bind ?_
  simp only[List.zipIdx_cons,List.zipIdx_nil,List.forIn_cons,List.forIn_nil]
  refine wpAny_bind (wpAny_bind (wpAny_onRaise ?_))
  show wpAny _ _ (Builtin.SmallTypes.nextOf (.ref i1) >>= _) _ _ _
  have up1:∀c o,c≠z->s.heap.get? c=some o->g1.get? c=some o:=fun c o n e=>sb1.extBut _ _ n (sb0.extBut _ _ n e)
  refine wpAny_bind (nextI_item (h1.at fun o e=>up1 _ o D.i1z e) (hl1.at fun o e=>up1 _ o D.l1z e) hx fun g2 j1 sb2=>wpAny_pure ?_)
  have hTO2:IsPair g2 TO a b:=sb2.extBut _ _ D.TOi1 (up1 _ _ D.TOz hTO)
  refine wpAny_bind (wpAny_seqItems hTO2 rfl (wpAny_bind (wpAny_updateSeq_pair hTO2 fun g3 hTO3 sb3=>?_)))
  replace hTO3:IsPair g3 TO x b:=hTO3
  refine wpAny_bind (wpAny_letGo (wpAny_pure (wpAny_bind (wpAny_bind (wpAny_onRaise ?_)))))
  show wpAny _ _ (Builtin.SmallTypes.nextOf (.ref i2) >>= _) _ _ _
  have up3:∀c o,c≠z->c≠i1->c≠TO->s.heap.get? c=some o->g3.get? c=some o:=fun c o n1 n2 n3 e=>sb3.extBut _ _ n3 (sb2.extBut _ _ n2 (up1 _ _ n1 e))
  refine wpAny_bind (nextI_item (h2.at fun o e=>up3 _ o D.i2z D.i12.symm D.TOi2.symm e) (hl2.at fun o e=>up3 _ o D.l2z D.l2i1 D.l2TO e) hy fun g4 j2 sb4=>wpAny_pure ?_)
  have hTO4:IsPair g4 TO x b:=sb4.extBut _ _ D.TOi2 hTO3
  refine wpAny_bind (wpAny_seqItems hTO4 rfl (wpAny_bind (wpAny_updateSeq_pair hTO4 fun g5 hTO5 sb5=>?_)))
  replace hTO5:IsPair g5 TO x y:=hTO5
  refine wpAny_bind (wpAny_letGo (wpAny_pure (wpAny_pure ?_)))
  refine wpAny_bind (wpAny_seqItems hTO5 rfl (wpAny_bind (wpAny_newTuple ?_)))
  have hsz:g5.objs.size=s.heap.objs.size:=by rw[sb5.1,sb4.1,sb3.1,sb2.1,sb1.1,sz0]
  have hz5:Zp g5 z TI TO .ellipsis f1':=sb5.extBut _ _ D.TOz.symm (sb4.extBut _ _ D.i2z.symm (sb3.extBut _ _ D.TOz.symm (sb2.extBut _ _ D.i1z.symm hz1)))
  have j15:ItI t1 g5 i1 l1 (k1+1):=j1.at fun o e=>sb5.extBut _ _ D.TOi1.symm (sb4.extBut _ _ D.i12 (sb3.extBut _ _ D.TOi1.symm e))
  have j25:ItI t2 g5 i2 l2 (k2+1):=j2.at fun o e=>sb5.extBut _ _ D.TOi2.symm e
  have hk5:∀c o,c≠z->c≠TO->c≠i1->c≠i2->s.heap.get? c=some o->g5.get? c=some o:=fun c o c1 c2 c3 c4 e=>sb5.extBut _ _ c2 (sb4.extBut _ _ c4 (up3 _ _ c1 c3 c2 e))
  have hzlt:z<g5.objs.size:=Heap.lt_size hz5
  show wpAny _ _ (Builtin.SmallTypes.ownedTupleHandOut (.ref z) (.ref g5.objs.size) >>= _) _ _ _
  refine wpAny_bind ?_
  unfold Builtin.SmallTypes.ownedTupleHandOut
  have hz6:Zp (g5.push { cls:=.type "tuple",data:=.seq #[x,y] }) z TI TO .ellipsis f1':=Heap.get?_push_of_some _ hz5
  refine wpAny_bind (wpAny_setField_rec hz6 (by simp) fun g7 hz7 sb7=>?_)
  replace hz7:Zp g7 z TI TO (rawInt g5.objs.size) f1':=hz7
  refine wpAny_setField_rec hz7 (by simp) fun g8 hz8 sb8=>?_
  replace hz8:Zp g8 z TI TO (rawInt g5.objs.size) false:=hz8
  have up:∀c o,c≠z->g5.get? c=some o->g8.get? c=some o:=fun c o c1 e=>sb8.extBut _ _ c1 (sb7.extBut _ _ c1 (Heap.get?_push_of_some _ e))
  have hT8:IsPair g8 g5.objs.size x y:=sb8.extBut _ _ (Nat.ne_of_gt hzlt) (sb7.extBut _ _ (Nat.ne_of_gt hzlt) (Heap.get?_push_size _ rfl))
  refine wpAny_pure ⟨_,rfl,?_⟩
  show Q (.ref g5.objs.size) _
  rw[hsz] at hz8 hT8 ⊢
  exact hQ g8 _ _ (.inr ⟨_,rfl⟩) hz8 ⟨x,y,up _ _ D.TOz hTO5⟩ (j15.at fun o e=>up _ o D.i1z e) (j25.at fun o e=>up _ o D.i2z e) hT8 fun c o c1 c2 c3 c4 e=>up c o c1 (hk5 c o c1 c2 c3 c4 e)
 | false =>
  simp only[Bool.false_eq_true,if_false]
  refine wpAny_bind ?_
  rw[<- Array.forIn_toList]
  simp only[List.forIn_cons,List.forIn_nil]
  refine wpAny_bind (wpAny_bind (wpAny_holding ?_))
  show wpAny _ _ (Builtin.SmallTypes.nextOf (.ref i1) >>= _) _ _ _
  have up1:∀c o,c≠z->s.heap.get? c=some o->g0.get? c=some o:=fun c o n e=>sb0.extBut _ _ n e
  refine wpAny_bind (nextI_item (s:={ s with heap:=g0 }) (h1.at fun o e=>up1 _ o D.i1z e) (hl1.at fun o e=>up1 _ o D.l1z e) hx fun g2 j1 sb2=>wpAny_pure ?_)
  replace sb2:Heap.SameBut i1 g0 g2:=sb2
  refine wpAny_pure (wpAny_bind (wpAny_bind (wpAny_holding ?_)))
  show wpAny _ _ (Builtin.SmallTypes.nextOf (.ref i2) >>= _) _ _ _
  have up2:∀c o,c≠z->c≠i1->s.heap.get? c=some o->g2.get? c=some o:=fun c o n1 n2 e=>sb2.extBut _ _ n2 (up1 _ _ n1 e)
  refine wpAny_bind (nextI_item (h2.at fun o e=>up2 _ o D.i2z D.i12.symm e) (hl2.at fun o e=>up2 _ o D.l2z D.l2i1 e) hy fun g4 j2 sb4=>wpAny_pure ?_)
  replace sb4:Heap.SameBut i2 g2 g4:=sb4
  refine wpAny_pure (wpAny_pure ?_)
  show wpAny _ _ (newTuple [x,y] >>= _) _ _ _
  refine wpAny_bind (wpAny_newTuple (wpAny_pure ⟨_,rfl,?_⟩))
  have hsz:g4.objs.size=s.heap.objs.size:=by rw[sb4.1,sb2.1,sz0]
  show Q (.ref g4.objs.size) _
  have pu:∀c o,g4.get? c=some o->(g4.push { cls:=.type "tuple",data:=.seq #[x,y] }).get? c=some o:=fun c o e=>Heap.get?_push_of_some _ e
  have hT8:IsPair (g4.push { cls:=.type "tuple",data:=.seq #[x,y] }) g4.objs.size x y:=Heap.get?_push_size _ rfl
  rw[hsz] at hT8 ⊢
  exact hQ _ _ _ hf (pu _ _ (sb4.extBut _ _ D.i2z.symm (sb2.extBut _ _ D.i1z.symm hz0))) ⟨a,b,pu _ _ (sb4.extBut _ _ D.TOi2 (up2 _ _ D.TOz D.TOi1 hTO))⟩ (j1.at fun o e=>pu _ o (sb4.extBut _ _ D.i12 e)) (j2.at fun o e=>pu _ o e) hT8 fun c o c1 c2 c3 c4 e=>pu _ _ (sb4.extBut _ _ c4 (up2 _ _ c1 c3 e))
theorem zpn_end {t1 t2:Bool}{z TI TO i1 i2 l1 l2:Addr}{k1 k2:Nat}{f0:Value}{f1:Bool}{xs ys:Array Value}{a b:Value}{Q:Fin -> Shared -> Prop}(hh:A.handled=none) (D:ZipApart z TI TO i1 i2 l1 l2) (hf:F0 f0)
    (hz:Zp s.heap z TI TO f0 f1) (hTI:IsPair s.heap TI (.ref i1) (.ref i2)) (hTO:IsPair s.heap TO a b)
    (h1:ItI t1 s.heap i1 l1 k1) (h2:ItI t2 s.heap i2 l2 k2) (hl1:SqI t1 s.heap l1 xs) (hl2:SqI t2 s.heap l2 ys) (hend:xs[k1]? = none∨ys[k2]? = none)
    (hE:∀h' e,(∀c o,c≠z->c≠TO->c≠i1->c≠i2->s.heap.get? c=some o->h'.get? c=some o)->(∃o,h'.get? e=some o/\o.cls=.type "StopIteration")->E (.ref e) { s with heap:=h' }) :
    wpAny (model prog w) A (Builtin.«zip.__next__» ⟨[.ref z],[]⟩) Q E s:=by
 show wpAny _ _ (field (.ref z) 2 >>= _) _ _ _
 refine wpAny_bind (wpAny_field hz rfl (x:=.bool false) rfl ?_)
 show wpAny _ _ (field (.ref z) 3 >>= _) _ _ _
 refine wpAny_bind (wpAny_field hz rfl (x:=.ref TI) rfl (wpAny_bind (wpAny_seqItems hTI rfl ?_)))
 refine wpAny_bind (zp_free hf hz fun own f1' g0 hz0 sb0=>?_)
 cases own with
 | true =>
  simp only[if_true]
  refine wpAny_bind (wpAny_rule ?_)
  refine wpAny_bind (wpAny_field (s:={ s with heap:=g0 }) hz0 rfl (x:=.ref TO) rfl ?_)
  refine wpAny_bind (wpAny_setField_rec (s:={ s with heap:=g0 }) hz0 (by simp) fun g1 hz1 sb1=>?_)
  replace hz1:Zp g1 z TI TO .ellipsis f1':=hz1
  refine wpAny_bind ?_
  simp only[List.zipIdx_cons,List.zipIdx_nil,List.forIn_cons,List.forIn_nil]
  refine wpAny_bind (wpAny_bind (wpAny_onRaise ?_))
  show wpAny _ _ (Builtin.SmallTypes.nextOf (.ref i1) >>= _) _ _ _
  have up1:∀c o,c≠z->s.heap.get? c=some o->g1.get? c=some o:=fun c o n e=>sb1.extBut _ _ n (sb0.extBut _ _ n e)
  cases hx:xs[k1]? with
  | none =>
   refine wpAny_bind (nextI_end hh (h1.at fun o e=>up1 _ o D.i1z e) (hl1.at fun o e=>up1 _ o D.l1z e) hx fun g2 e sb2 he=>?_)
   obtain⟨oe,hoe,hce⟩:=he
   have hz2:Zp g2 z TI TO .ellipsis f1':=sb2 _ _ D.i1z.symm hz1
   have hez:e≠z:=fun q=>by subst q;rw[hz2] at hoe;cases hoe;simp at hce
   exact wpAny_setField_rec hz2 (by simp) fun g3 _ sb3=>hE g3 e (fun c o c1 _ c3 _ q=>sb3.extBut _ _ c1 (sb2 _ _ c3 (up1 _ _ c1 q))) ⟨oe,sb3.extBut _ _ hez hoe,hce⟩
  | some x =>
   have hy:ys[k2]? = none:=by rcases hend with q | q;rw[hx] at q;cases q;exact q
   refine wpAny_bind (nextI_item (h1.at fun o e=>up1 _ o D.i1z e) (hl1.at fun o e=>up1 _ o D.l1z e) hx fun g2 j1 sb2=>wpAny_pure ?_)
   have hTO2:IsPair g2 TO a b:=sb2.extBut _ _ D.TOi1 (up1 _ _ D.TOz hTO)
   refine wpAny_bind (wpAny_seqItems hTO2 rfl (wpAny_bind (wpAny_updateSeq_pair hTO2 fun g3 hTO3 sb3=>?_)))
   refine wpAny_bind (wpAny_letGo (wpAny_pure (wpAny_bind (wpAny_bind (wpAny_onRaise ?_)))))
   show wpAny _ _ (Builtin.SmallTypes.nextOf (.ref i2) >>= _) _ _ _
   have up3:∀c o,c≠z->c≠i1->c≠TO->s.heap.get? c=some o->g3.get? c=some o:=fun c o n1 n2 n3 e=>sb3.extBut _ _ n3 (sb2.extBut _ _ n2 (up1 _ _ n1 e))
   refine wpAny_bind (nextI_end hh (h2.at fun o e=>up3 _ o D.i2z D.i12.symm D.TOi2.symm e) (hl2.at fun o e=>up3 _ o D.l2z D.l2i1 D.l2TO e) hy fun g4 e sb4 he=>?_)
   obtain⟨oe,hoe,hce⟩:=he
   have hz4:Zp g4 z TI TO .ellipsis f1':=sb4 _ _ D.i2z.symm (sb3.extBut _ _ D.TOz.symm (sb2.extBut _ _ D.i1z.symm hz1))
   have hez:e≠z:=fun q=>by subst q;rw[hz4] at hoe;cases hoe;simp at hce
   exact wpAny_setField_rec hz4 (by simp) fun g5 _ sb5=>hE g5 e (fun c o c1 c2 c3 c4 q=>sb5.extBut _ _ c1 (sb4 _ _ c4 (up3 _ _ c1 c3 c2 q))) ⟨oe,sb5.extBut _ _ hez hoe,hce⟩
 | false =>
  simp only[Bool.false_eq_true,if_false]
  refine wpAny_bind ?_
  rw[<- Array.forIn_toList]
  simp only[List.forIn_cons,List.forIn_nil]
  refine wpAny_bind (wpAny_bind (wpAny_holding ?_))
  show wpAny _ _ (Builtin.SmallTypes.nextOf (.ref i1) >>= _) _ _ _
  have up1:∀c o,c≠z->s.heap.get? c=some o->g0.get? c=some o:=fun c o n e=>sb0.extBut _ _ n e
  cases hx:xs[k1]? with
  | none =>
   refine wpAny_bind (nextI_end (s:={ s with heap:=g0 }) hh (h1.at fun o e=>up1 _ o D.i1z e) (hl1.at fun o e=>up1 _ o D.l1z e) hx fun g2 e sb2 he=>?_)
   exact hE g2 e (fun c o c1 _ c3 _ q=>sb2 _ _ c3 (up1 _ _ c1 q)) he
  | some x =>
   have hy:ys[k2]? = none:=by rcases hend with q | q;rw[hx] at q;cases q;exact q
   refine wpAny_bind (nextI_item (s:={ s with heap:=g0 }) (h1.at fun o e=>up1 _ o D.i1z e) (hl1.at fun o e=>up1 _ o D.l1z e) hx fun g2 j1 sb2=>wpAny_pure ?_)
   replace sb2:Heap.SameBut i1 g0 g2:=sb2
   refine wpAny_pure (wpAny_bind (wpAny_bind (wpAny_holding ?_)))
   show wpAny _ _ (Builtin.SmallTypes.nextOf (.ref i2) >>= _) _ _ _
   have up2:∀c o,c≠z->c≠i1->s.heap.get? c=some o->g2.get? c=some o:=fun c o n1 n2 e=>sb2.extBut _ _ n2 (up1 _ _ n1 e)
   refine wpAny_bind (nextI_end hh (h2.at fun o e=>up2 _ o D.i2z D.i12.symm e) (hl2.at fun o e=>up2 _ o D.l2z D.l2i1 e) hy fun g4 e sb4 he=>?_)
   exact hE g4 e (fun c o c1 c2 c3 c4 q=>sb4 _ _ c4 (up2 _ _ c1 c3 q)) he
end
end L2
namespace L2
open PySem PySem.Spec PyProof.Rows
theorem zip_next_typed (hT:s.TypeIs (.ref z) "zip")
    (h:wpAny (model prog w) A.in1 (Builtin.«zip.__next__» ⟨[.ref z],[]⟩) (fun fin s'=>∃v,fin=.done (.ret v)/\Q (some v) s') (fun e s'=>(∃o,s'.heap.get? (match e with | .ref a=>a | _=>0)=some o/\o.cls=.type "StopIteration")/\(∃a,e=.ref a)/\Q none s') s) :
    wpAny (model prog w) A (pyNext (.ref z)) Q E s:=by
 unfold pyNext
 refine wpAny_bind (wpAny_attempt (wpAny_callSpecial?_slot (name:=Str.ofString "__next__") hT F.slot_zip_next (wpAny_call_entry F.slot_zip_next hT F.entry_zip_next (wpAny_mono h (fun fin s' ⟨v,e,q⟩=>⟨v,e,wpAny_pure q⟩) fun e s' q=>?_) (F.args_zip_next_1 _))))
 obtain⟨⟨o,ho,hc⟩,⟨a,rfl⟩,q⟩:=q
 exact wpAny_bind (wpAny_isInstance (T:="StopIteration") (b:=true) ⟨o,ho,hc⟩ isSubtype_stop (wpAny_pure q))
def SqK:Bool->W.Frag->Hp->Addr->List V->Prop
 | true,K,H,a,xs=>SqT K H a xs
 | false,K,H,a,xs=>SqL K H a xs
theorem ItI.obj (j:ItI t h i l k):∃o,h.get? i=some o/\∀v,o.data≠.cell v:=by
 cases t
 ·obtain⟨o,e,_,d⟩:Heap.IsListIter h i l k:=j
  exact⟨o,e,fun v q=>by rw[d] at q;cases q⟩
 ·obtain⟨o,e,_,d⟩:Heap.IsTupleIter h i l k:=j
  exact⟨o,e,fun v q=>by rw[d] at q;cases q⟩
theorem Inv.sqK (I:Inv X pins σ H s) (h:SqK t X.K H a xs):∃its:List Value,Vals xs its/\SqI t s.heap a its.toArray:=by
 cases t
 ·obtain⟨its,r,p,_⟩:=I.list h
  exact⟨its,r,p.isList⟩
 ·obtain⟨its,r,p,_⟩:=I.tuple h
  exact⟨its,r,p⟩
theorem Inv.sqK_inj (I:Inv X pins σ H s) (h:SqK t X.K H a xs) (h':SqK t X.K H a ys):xs=ys:=by
 cases t
 ·exact I.list_inj h h'
 ·exact I.tuple_inj h h'
def Itg (t1 t2:Bool) (K:W.Frag) (a b:Addr):It :=
 ⟨fun i H=>∃xs ys x y,SqK t1 K H a xs/\SqK t2 K H b ys/\xs[i]? = some x/\ys[i]? = some y,
  fun i H v H'=>∃p x y,H p=none/\v=.ref p/\(∀xs,SqK t1 K H a xs->xs[i]? = some x)/\(∀ys,SqK t2 K H b ys->ys[i]? = some y)/\H'=upd H p (.tup [x,y]),
  fun i H=>∃xs ys,SqK t1 K H a xs/\SqK t2 K H b ys/\(xs.length<=i∨ys.length<=i)⟩
theorem turn_zipG {t1 t2:Bool}{P:Program}{w:World}{K:W.Frag}{nm:Str}{tp:Pos}(a b z TI TO i1 i2:Addr) (D:ZipApart z TI TO i1 i2 a b) :
    Turn P w K (.Name nm tp) (Itg t1 t2 K a b) [z,TI,TO,i1,i2] z (fun i h=>(∃f0 f1,F0 f0/\Zp h z TI TO f0 f1)/\IsPair h TI (.ref i1) (.ref i2)/\(∃c d,IsPair h TO c d)/\ItI t1 h i1 a i/\ItI t2 h i2 b i) where
 mem:=by simp
 obj:=fun i h st c hc=>by
  obtain⟨⟨f0,f1,_,hz⟩,hTI,⟨u,v,hTO⟩,h1,h2⟩:=st
  obtain⟨o1,e1,d1⟩:=h1.obj
  obtain⟨o2,e2,d2⟩:=h2.obj
  have hc:c=z∨c=TI∨c=TO∨c=i1∨c=i2:=by simpa using hc
  rcases hc with rfl | rfl | rfl | rfl | rfl
  ·exact⟨_,hz,fun v q=>by cases q⟩
  ·exact⟨_,hTI,fun v q=>by cases q⟩
  ·exact⟨_,hTO,fun v q=>by cases q⟩
  ·exact⟨_,e1,d1⟩
  ·exact⟨_,e2,d2⟩
 keep:=fun i h h' st k=>by
  obtain⟨⟨f0,f1,hf,hz⟩,hTI,⟨u,v,hTO⟩,h1,h2⟩:=st
  exact⟨⟨f0,f1,hf,k z (by simp) _ hz⟩,k TI (by simp) _ hTI,⟨u,v,k TO (by simp) _ hTO⟩,h1.at fun o e=>k i1 (by simp) o e,h2.at fun o e=>k i2 (by simp) o e⟩
 item := by
  intro X hP hw hK hc i pins s σ H E I hf st hg
  subst hP hw hK
  obtain⟨⟨f0,f1,hf0,hz⟩,hTI,⟨ta,tb,hTO⟩,h1,h2⟩:=st
  obtain⟨xs,ys,x,y,hqa,hqb,hx,hy⟩:=hg
  obtain⟨its,rv,pa⟩:=I.sqK hqa
  obtain⟨jts,rw',pb⟩:=I.sqK hqb
  obtain⟨u,hu,ru⟩:=rv.get hx
  obtain⟨v,hv,rv'⟩:=rw'.get hy
  refine zip_next_typed ⟨_,hz,rfl⟩ (zpn_item D hf0 hz hTI hTO h1 h2 pa pb (x:=u) (y:=v) (by simpa using hu) (by simpa using hv) fun h' f0' f1' hf' hz' hTO' j1 j2 hpr k=>⟨_,rfl,?_⟩)
  refine wpAny_pure (s:={ s with heap:=h' }) ?_
  have hp:H s.heap.objs.size=none:=I.hok.fresh (Nat.le_refl _)
  have fr:∀c∈[z,TI,TO,i1,i2],H c=none:=fun c hc=>(hf c hc).1
  have nit:∀c o,H c=some o->c≠z/\c≠TO/\c≠i1/\c≠i2:=fun c o q=>by
   refine⟨?_,?_,?_,?_⟩ <;> (intro e;rw[e,fr _ (by simp)] at q;cases q)
  have up:∀c o,H c=some o->upd H s.heap.objs.size (.tup [x,y]) c=some o:=fun c o q=>by rw[upd_ne (ne_of_none q hp)];exact q
  have kk:∀c o,c∉[z,TO,i1,i2]->s.heap.get? c=some o->h'.get? c=some o:=fun c o n q=>k c o (fun e=>n (by simp[e])) (fun e=>n (by simp[e])) (fun e=>n (by simp[e])) (fun e=>n (by simp[e])) q
  have mem5:∀c∈[z,TO,i1,i2],c∈[z,TI,TO,i1,i2]:=fun c hc=>by simp at hc ⊢;rcases hc with e | e | e | e <;> simp[e]
  have hlt:∀c∈[z,TI,TO,i1,i2],c<s.heap.objs.size:=fun c hc=>by
   have hc:c=z∨c=TI∨c=TO∨c=i1∨c=i2:=by simpa using hc
   rcases hc with rfl | rfl | rfl | rfl | rfl
   ·exact Heap.lt_size hz
   ·exact Heap.lt_size hTI
   ·exact Heap.lt_size hTO
   ·obtain⟨o,e,_⟩:=h1.obj;exact Heap.lt_size e
   ·obtain⟨o,e,_⟩:=h2.obj;exact Heap.lt_size e
  have I1:Inv X pins σ (upd H s.heap.objs.size (.tup [x, y])) { s with heap := h', gens := s.gens, drawn := s.drawn, toks := s.toks } := by
   refine I.step (g':=s.gens) (d':=s.drawn) (ch:=[z,TO,i1,i2]) (fun c hc=>?_) (fun c o _ _ n q _=>kk c o n q) (fun c o _ _ n q _=>⟨o.slots,kk c o n q⟩) (fun c o _ q n=>?_) (fun c o n q=>⟨o,kk c o n q⟩) (fun c ys q=>up c _ q) (fun c o v q=>up c _ q) (fun c ps q=>⟨#[],by rw[up c _ q];simp⟩) (fun m hm=>?_) (fun c o q=>?_) I.bare
   ·obtain⟨_,g1,_,g3,g4,g5⟩:=hf c (mem5 c hc)
    exact⟨g3,g1,g4,g5⟩
   ·rw[upd_ne (Nat.ne_of_lt (Heap.lt_size q))];exact n
   ·obtain⟨o,es,ep,ho,r⟩:=hm
    refine⟨o,es,ep,kk _ o (fun n=>?_) ho,r⟩
    exact(hf _ (mem5 _ n)).2.1 rfl
   ·by_cases hb:c=s.heap.objs.size
    ·subst hb
     rw[upd_same] at q
     have q':HO.tup [x,y]=o:=Option.some.inj q
     subst q'
     exact⟨by show 2<=sizeLine;decide,[u,v],.cons ru (.cons rv' .nil),⟨_,hpr,rfl,_,rfl,rfl⟩⟩
    ·rw[upd_ne hb] at q
     refine(I.hok c o q).stay (fun d o' hd q'=>?_) (fun d q=>up d _ q) fun d ys q=>up d _ q
     rcases hd with e | e
     ·rw[e] at q' ⊢;obtain⟨n1,n2,n3,n4⟩:=nit c o q;exact k c o' n1 n2 n3 n4 q'
     ·obtain⟨n1,n2,n3,n4⟩:=nit d _ e;exact k d o' n1 n2 n3 n4 q'
  refine⟨.ref s.heap.objs.size,upd H s.heap.objs.size (.tup [x,y]),I1,rfl,⟨_,x,y,hp,rfl,fun zs hz=>by rw[I.sqK_inj hz hqa];exact hx,fun zs hz=>by rw[I.sqK_inj hz hqb];exact hy,rfl⟩,⟨⟨f0',f1',hf',hz'⟩,?_,hTO',j1,j2⟩,fun c hc=>?_⟩
  ·exact k TI _ D.TIz D.TITO D.TIi1 D.TIi2 hTI
  ·rw[upd_ne (Nat.ne_of_lt (hlt c hc))];exact fr c hc
 done:=by
  intro X hP hw hK hc i pins s σ H E I hf st hg
  subst hP hw hK
  obtain⟨⟨f0,f1,hf0,hz⟩,hTI,⟨ta,tb,hTO⟩,h1,h2⟩:=st
  obtain⟨xs,ys,hqa,hqb,hxy⟩:=hg
  obtain⟨its,rv,pa⟩:=I.sqK hqa
  obtain⟨jts,rw',pb⟩:=I.sqK hqb
  have l1:=rv.length
  have l2:=rw'.length
  have hend:its.toArray[i]? = none∨jts.toArray[i]? = none:=by
   rcases hxy with q | q
   ·exact .inl (by simp;omega)
   ·exact .inr (by simp;omega)
  refine zip_next_typed ⟨_,hz,rfl⟩ (zpn_end (A:=X.A.in1) (show X.A.in1.handled=none from I.ok.hd hc) D hf0 hz hTI hTO h1 h2 pa pb hend fun h' e k he=>⟨he,⟨e,rfl⟩,rfl,?_⟩)
  have fr:∀c∈[z,TI,TO,i1,i2],H c=none:=fun c hc=>(hf c hc).1
  have nit:∀c o,H c=some o->c≠z/\c≠TO/\c≠i1/\c≠i2:=fun c o q=>by
   refine⟨?_,?_,?_,?_⟩ <;> (intro e;rw[e,fr _ (by simp)] at q;cases q)
  have kk:∀c o,c∉[z,TO,i1,i2]->s.heap.get? c=some o->h'.get? c=some o:=fun c o n q=>k c o (fun e=>n (by simp[e])) (fun e=>n (by simp[e])) (fun e=>n (by simp[e])) (fun e=>n (by simp[e])) q
  have mem5:∀c∈[z,TO,i1,i2],c∈[z,TI,TO,i1,i2]:=fun c hc=>by simp at hc ⊢;rcases hc with e | e | e | e <;> simp[e]
  refine I.step (h':=h') (g':=s.gens) (d':=s.drawn) (t':=s.toks) (ch:=[z,TO,i1,i2]) (fun c hc=>?_) (fun c o _ _ n q _=>kk c o n q) (fun c o _ _ n q _=>⟨o.slots,kk c o n q⟩) (fun c o _ q n=>n) (fun c o n q=>⟨o,kk c o n q⟩) (fun c ys q=>q) (fun c o v q=>q) (fun c ps q=>⟨#[],by rw[q];simp⟩) (fun m hm=>?_) (fun c o q=>?_) I.bare
  ·obtain⟨_,g1,_,g3,g4,g5⟩:=hf c (mem5 c hc)
   exact⟨g3,g1,g4,g5⟩
  ·obtain⟨o,es,ep,ho,r⟩:=hm
   refine⟨o,es,ep,kk _ o (fun n=>?_) ho,r⟩
   exact(hf _ (mem5 _ n)).2.1 rfl
  ·refine(I.hok c o q).stay (fun d o' hd q'=>?_) (fun d q=>q) fun d ys q=>q
   rcases hd with e | e
   ·rw[e] at q' ⊢;obtain⟨n1,n2,n3,n4⟩:=nit c o q;exact k c o' n1 n2 n3 n4 q'
   ·obtain⟨n1,n2,n3,n4⟩:=nit d _ e;exact k d o' n1 n2 n3 n4 q'
 self:=fun A i s Q E st h=>by
  obtain⟨⟨f0,f1,hf0,hz⟩,_⟩:=st
  have hT:s.TypeIs (.ref z) "zip":=⟨_,hz,rfl⟩
  refine wpAny_pyIter_slot hT F.slot_zip_iter (wpAny_call_entry F.slot_zip_iter hT F.entry_zip_iter ?_ (F.args_zip_iter_1 _))
  show wpAny _ _ (ret (.ref z)) _ _ s
  exact wpAny_pure ⟨_,rfl,"zip",_,hT,F.slot_zip_next.lookup,h⟩
def Itz (K:W.Frag) (a b:Addr):It :=
 ⟨fun i H=>∃xs ys x y,SqL K H a xs/\SqL K H b ys/\xs[i]? = some x/\ys[i]? = some y,
  fun i H v H'=>∃p x y,H p=none/\v=.ref p/\(∀xs,SqL K H a xs->xs[i]? = some x)/\(∀ys,SqL K H b ys->ys[i]? = some y)/\H'=upd H p (.tup [x,y]),
  fun i H=>∃xs ys,SqL K H a xs/\SqL K H b ys/\(xs.length<=i∨ys.length<=i)⟩
theorem turn_zip {P:Program}{w:World}{K:W.Frag}{nm:Str}{tp:Pos}(a b z TI TO i1 i2:Addr) (D:ZipApart z TI TO i1 i2 a b) :
    Turn P w K (.Name nm tp) (Itz K a b) [z,TI,TO,i1,i2] z (fun i h=>(∃f0 f1,F0 f0/\Zp h z TI TO f0 f1)/\IsPair h TI (.ref i1) (.ref i2)/\(∃c d,IsPair h TO c d)/\h.IsListIter i1 a i/\h.IsListIter i2 b i) :=
 turn_zipG (t1:=false) (t2:=false) a b z TI TO i1 i2 D
def iZip (K:W.Frag) (ta:TA):TI:=fun σ H R=>ta σ H fun vs H1=>∃a b xs ys,vs=[.ref a,.ref b]/\SqL K H1 a xs/\SqL K H1 b ys/\R (Itz K a b) H1
theorem pi_zip (K:W.Frag) {X:Cx}{nm:Str}{tp:Pos}{a b:Expr}{ta:TA}{p pos:Pos}(hg:Gl X "zip") (hm:X.mg "zip"=none) (ha:PA X [a,b] ta) (hs:starEach [a,b] X.env=(false,eval a X.env)::starEach [b] X.env:=by rfl) (hpl:(backTo pos (starEach [b] X.env)).any (·.1)=false:=by rfl) (hK:X.K=K:=by rfl) :
    PI X (.Name nm tp) (.Call (.Name "zip" p) [a,b] [] pos) (iZip K ta):=by
 subst hK
 intro pins s σ H R I h
 refine Call_ (ld_blt I hg hm (show bootBuiltins "zip"=some (.type "zip") by decide +kernel) (PyProof.Rows.callWith_type1 (thn (ha pos pins s σ H _ I h) fun us s1 ⟨vs,H1,I1,r1,q1⟩=>?_) hs hpl))
 obtain⟨l1,l2,xs,ys,e,hqa,hqb,q⟩:=q1
 subst e
 obtain⟨u1,u2,rfl,r1,r2⟩:=vals2 r1
 cases r1
 cases r2
 obtain⟨its,rv,pa,_⟩:=I1.list hqa
 obtain⟨jts,rw',pb,_⟩:=I1.list hqb
 have a1:l1<s1.heap.objs.size:=by obtain⟨_,e,_⟩:=pa.isList;exact Heap.lt_size e
 have a2:l2<s1.heap.objs.size:=by obtain⟨_,e,_⟩:=pb.isList;exact Heap.lt_size e
 refine call_zip_2 pa.isList pb.isList fun h' hz hTI hTO hi1 hi2 _ hk=>?_
 have T:=turn_zip (P:=X.prog) (w:=X.w) (K:=X.K) (nm:=nm) (tp:=tp) l1 l2 _ _ _ _ _ (zipApart_new a1 a2)
 have t0:(∃f0 f1,F0 f0/\Zp h' (s1.heap.objs.size+4) (s1.heap.objs.size+2) (s1.heap.objs.size+3) f0 f1)/\IsPair h' (s1.heap.objs.size+2) (.ref s1.heap.objs.size) (.ref (s1.heap.objs.size+1))/\(∃c d,IsPair h' (s1.heap.objs.size+3) c d)/\h'.IsListIter s1.heap.objs.size l1 0/\h'.IsListIter (s1.heap.objs.size+1) l2 0:=⟨⟨_,_,.inl rfl,hz⟩,hTI,⟨_,_,hTO⟩,hi1,hi2⟩
 refine T.self X.A 0 { s1 with heap:=h' } _ _ t0 ?_
 refine⟨_,_,_,_,H1,rfl,I1.kept (t':=s1.toks) hk,T,t0,fun b hb=>?_,q⟩
 have hb:b=s1.heap.objs.size+4∨b=s1.heap.objs.size+2∨b=s1.heap.objs.size+3∨b=s1.heap.objs.size∨b=s1.heap.objs.size+1:=by simpa using hb
 have hle:s1.heap.objs.size<=b:=by rcases hb with e | e | e | e | e <;> rw[e] <;> first | exact Nat.le_refl _ | exact Nat.le_add_right _ _
 exact I1.fpOk hle (I1.hok.fresh hle)
end L2
namespace L2
open PySem PySem.Spec PyProof.Rows
inductive Thg (H:Hp):V->Prop
 | non:Thg H .non
 | bl (b:Bool):Thg H (.bl b)
 | int (i:Int):Thg H (.int i)
 | str {z:Str}:z.length<=sizeLine->Thg H (.str z)
 | lst {a:Addr} {xs:List V}:H a=some (.lst xs)->Thg H (.ref a)
 | tup {a:Addr} {xs:List V}:H a=some (.tup xs)->Thg H (.ref a)
 | dK {a:Addr} {kvs:List (Key × V)}:H a=some (.dK kvs)->Thg H (.ref a)
 | dT {a:Addr} {kvs:List (List Key × V)}:H a=some (.dT kvs)->Thg H (.ref a)
theorem Thg.same (h:Thg H x) (s:Same H H'):Thg H' x:=by
 cases h with
 | non=>exact .non
 | bl b=>exact .bl b
 | int i=>exact .int i
 | str z=>exact .str z
 | lst e=>exact .lst (s _ _ e)
 | tup e=>exact .tup (s _ _ e)
 | dK e=>exact .dK (s _ _ e)
 | dT e=>exact .dT (s _ _ e)
def isS:V->Bool
 | .str _=>true
 | _=>false
def isI:V->Bool
 | .int _ | .bl _=>true
 | _=>false
def isB:V->Bool
 | .bl _=>true
 | _=>false
def isL (H:Hp):V->Bool
 | .ref a=>match H a with
  | some (.lst _)=>true
  | _=>false
 | _=>false
def isT (H:Hp):V->Bool
 | .ref a=>match H a with
  | some (.tup _)=>true
  | _=>false
 | _=>false
theorem isL_of (e:H a=some (.lst xs)):isL H (.ref a)=true:=by show (match H a with | some (.lst _)=>true | _=>false)=true;rw[e]
theorem isT_of (e:H a=some (.tup xs)):isT H (.ref a)=true:=by show (match H a with | some (.tup _)=>true | _=>false)=true;rw[e]
theorem isL_inv (h:isL H x=true):∃a xs,x=.ref a/\H a=some (.lst xs):=by
 cases x with
 | ref a =>
  have h:(match H a with | some (.lst _)=>true | _=>false)=true:=h
  split at h
  ·rename_i xs e;exact⟨a,xs,rfl,e⟩
  ·cases h
 | _=>cases h
theorem isL_not (e:H a=some o) (n:∀xs,o≠.lst xs):isL H (.ref a)=false:=by
 show (match H a with | some (.lst _)=>true | _=>false)=false
 rw[e];split
 ·rename_i xs q;exact absurd (Option.some.inj q) (n xs)
 ·rfl
theorem isT_not (e:H a=some o) (n:∀xs,o≠.tup xs):isT H (.ref a)=false:=by
 show (match H a with | some (.tup _)=>true | _=>false)=false
 rw[e];split
 ·rename_i xs q;exact absurd (Option.some.inj q) (n xs)
 ·rfl
theorem ty_thg {K:W.Frag}{H:Hp}{x:V}(h:Thg H x):∃t,TyOf K H x t/\W.kitOne K t (.type "str")=some (isS x)/\W.kitOne K t (.type "int")=some (isI x)/\W.kitOne K t (.type "bool")=some (isB x) /\
    W.kitOne K t (.type "list")=some (isL H x)/\W.kitOne K t (.type "tuple")=some (isT H x):=by
 cases h with
 | non=>exact⟨_,.non,by rfl,by rfl,by rfl,by rfl,by rfl⟩
 | bl b=>exact⟨_,.bl b,by rfl,by rfl,by rfl,by rfl,by rfl⟩
 | int i=>exact⟨_,.int i,by rfl,by rfl,by rfl,by rfl,by rfl⟩
 | str z=>exact⟨_,.str _,by rfl,by rfl,by rfl,by rfl,by rfl⟩
 | lst e=>exact⟨_,.lst e,by rfl,by rfl,by rfl,by rw[isL_of e];rfl,by rw[isT_not e (fun _ z=>by cases z)];rfl⟩
 | tup e=>exact⟨_,.tup e,by rfl,by rfl,by rfl,by rw[isL_not e (fun _ z=>by cases z)];rfl,by rw[isT_of e];rfl⟩
 | dK e=>exact⟨_,.dK e,by rfl,by rfl,by rfl,by rw[isL_not e (fun _ z=>by cases z)];rfl,by rw[isT_not e (fun _ z=>by cases z)];rfl⟩
 | dT e=>exact⟨_,.dT e,by rfl,by rfl,by rfl,by rw[isL_not e (fun _ z=>by cases z)];rfl,by rw[isT_not e (fun _ z=>by cases z)];rfl⟩
def isLow (c:Nat):Bool:=decide (97<=c)&&decide (c<=122)
def isNm:V->Bool
 | .str z=>decide (1<=z.length)&&(decide (z.length<=8)&&z.cps.toList.all isLow)
 | _=>false
theorem isNm_iff:isNm (.str z)=true ↔ Nm z:=by
 show (decide (1<=z.length)&&(decide (z.length<=8)&&z.cps.toList.all isLow))=true ↔ _
 rw[Bool.and_eq_true,Bool.and_eq_true,decide_eq_true_iff,decide_eq_true_iff,List.all_eq_true]
 unfold Nm
 constructor
 ·rintro⟨h1,h2,h3⟩
  refine⟨h1,h2,fun c hc=>?_⟩
  have h:=h3 c hc
  unfold isLow at h
  rw[Bool.and_eq_true,decide_eq_true_iff,decide_eq_true_iff] at h
  exact h
 ·rintro⟨h1,h2,h3⟩
  refine⟨h1,h2,fun c hc=>?_⟩
  unfold isLow
  rw[Bool.and_eq_true,decide_eq_true_iff,decide_eq_true_iff]
  exact h3 c hc
theorem lt_one (c d:Nat):decide ([c]<[d])=decide (c<d):=by
 by_cases h:c<d
 ·rw[decide_eq_true h];exact decide_eq_true (List.Lex.rel h)
 ·rw[decide_eq_false h]
  refine decide_eq_false fun z=>?_
  cases z with
  | rel z=>exact h z
  | cons z=>cases z
def spIsName:Sp:=fun vs H Q _=>∃x,vs=[x]/\Thg H x/\∀H',Same H H'->Q (.bl (isNm x)) H'
def pK (e:Str × Str):List Key:=[.inr e.1,.inr e.2]
theorem pK_inj (h:pK e=pK f):e=f:=by
 unfold pK at h
 have h1:=List.cons.inj h
 have h2:=List.cons.inj h1.2
 exact Prod.ext (Sum.inr.inj h1.1) (Sum.inr.inj h2.1)
inductive PlR (H:Hp):V -> VK -> Prop
 | nm {a:Addr} {xs:List Str} {Q:VK}:(H a=some (.lst (List.map V.str xs))∨H a=some (.tup (List.map V.str xs)))->xs.length<=1000 ->
     (∀d kvs H',Same H H'->H d=none->H' d=some (.dK kvs)->(∀s,(valV kvs (.inr s)).isSome=true ↔ s∈xs)->(∀s v,valV kvs (.inr s)=some v->∃j:Nat,v=.int j/\xs[j]? = some s)->(kvs.map (·.1)).Nodup->(∀k∈kvs.map (·.1),∃s∈xs,k=Sum.inr s)->Q (.ref d) H')->PlR H (.ref a) Q
 | pr {a:Addr} {refs:List V} {ps:List (Str × Str)} {Q:VK}:(H a=some (.lst refs)∨H a=some (.tup refs))->RepAll H refs (ps.map pairD)->ps.length<=1000 ->
     (∀d kvs H',Same H H'->H d=none->H' d=some (.dT kvs)->(∀e:Str × Str,(valV kvs (pK e)).isSome=true ↔ e∈ps)->Q (.ref d) H')->PlR H (.ref a) Q
def spPlacesX:Sp:=fun vs H Q _=>∃x,vs=[x]/\PlR H x Q
section
variable {X:Cx}{p pos p2 pos2:Pos}{e f:Expr}{t:TA}
inductive IntR (H:Hp):V->VK->Prop
 | int {i:Int} {Q:VK}:Q (.int i) H->IntR H (.int i) Q
 | bl {b:Bool} {Q:VK}:Q (.int (if b then 1 else 0)) H->IntR H (.bl b) Q
theorem b_int (B:Blt X.mg) (ha:PA X [e] t) (hg:Gl X "int":=by rfl) (he:starEach [e] X.env=(false,eval e X.env)::starEach [] X.env:=by rfl) (hpl:(backTo pos (starEach [] X.env)).any (·.1)=false:=by rfl) :
    PE X (.Call (.Name "int" p) [e] [] pos) (tCB (fun xs H Q=>∃x,xs=[x]/\IntR H x Q) t):=by
 refine pe_callTy (r:=fun xs H Q=>∃x,xs=[x]/\IntR H x Q) (fun pins s σ H xs us Q I r h=>?_) hg B.int PyProof.Rows.boot_int ha (by decide) (by decide) he hpl
 obtain⟨x,rfl,h⟩:=h
 cases h with
 | int q=>exact call_int1 pins s σ H _ us Q I r (.inl ⟨_,rfl,q⟩)
 | bl q=>exact call_int1 pins s σ H _ us Q I r (.inr ⟨_,rfl,q⟩)
theorem g_tuple (B:Blt X.mg) (hg:Gl X "tuple":=by rfl):PE X (.Name "tuple" p) (tC (.ty "tuple")):=pe_bltn hg B.tuple (show bootBuiltins "tuple"=some (.type "tuple") by decide +kernel) rfl
def rIsi2 (K:W.Frag) (c d:String):List V->Hp->VK->Prop:=fun xs H Q=>∃x a t b,xs=[x,.ref a]/\H a=some (.tup [.ty c,.ty d])/\TyOf K H x t/\W.kitAny K t [.type c,.type d]=some b/\Q (.bl b) H
theorem isinst_tup {pins:List (Addr × Obj)}{σ:St}{H:Hp}{s:Shared}{A:Around}{E:Value->Shared->Prop}{Q:Value->Shared->Prop}{x:V}{u t:Value}{tp:Addr}{dd:Option Addr}{its:List Value}{n:Nat}{sl:Array (Option Value)}{b:Bool}
    (I:Inv X pins σ H s) (rx:RelV x u) (ty:TyOf X.K H x t) (htp:s.heap.get? tp=some ⟨.type "tuple",dd,.seq its.toArray n,sl⟩) (e:W.kitAny X.K t its=some b) (h:∀tk,Q (.bool b) { s with toks:=tk }) :
    wpAny (model X.prog X.w) A (call (.builtin "isinstance") [u,.ref tp]) Q E s:=by
 cases ty with
 | non=>cases (show u=Value.none from rx);exact W.kia_tup W.kitx_none I.kIn True.intro htp e (fun z=>nomatch z) h
 | bl y=>cases (show u=Value.bool y from rx);exact W.kia_tup W.kitx_bool I.kIn True.intro htp e (fun z=>nomatch z) h
 | int i=>obtain⟨t,q⟩:=(show ∃t,u=Value.int i t from rx);cases q;exact W.kia_tup W.kitx_int I.kIn True.intro htp e (fun z=>nomatch z) h
 | str y=>obtain⟨t,q⟩:=(show ∃t,u=Value.str y t from rx);cases q;exact W.kia_tup W.kitx_str I.kIn True.intro htp e (fun z=>nomatch z) h
 | flt y=>obtain⟨t,q⟩:=(show ∃t,u=Value.float y t from rx);cases q;exact W.kia_tup W.kitx_float I.kIn True.intro htp e (fun z=>nomatch z) h
 | @lst a xs ea =>
  cases (show u=Value.ref a from rx)
  obtain⟨_,_,n,_,h1⟩:=(show ObjOk X.prog X.w H s.heap a (.lst xs) from I.hok a _ ea)
  exact W.kia_tup W.kitx_list I.kIn ⟨_,h1,rfl⟩ htp e (fun z=>nomatch z) h
 | @frz a ob xs ea =>
  cases (show u=Value.ref a from rx)
  obtain⟨_,_,_,n,_,h1⟩:=(show ObjOk X.prog X.w H s.heap a (.frz ob (.lst xs)) from I.hok a _ ea)
  exact W.kia_tup W.kitx_list I.kIn ⟨_,h1,rfl⟩ htp e (fun z=>nomatch z) h
 | @tup a xs ea =>
  cases (show u=Value.ref a from rx)
  obtain⟨_,_,_,p⟩:=(show ObjOk X.prog X.w H s.heap a (.tup xs) from I.hok a _ ea)
  obtain⟨o,h1,h2,_⟩:=p
  exact W.kia_tup W.kitx_tuple I.kIn ⟨o,h1,h2⟩ htp e (fun z=>nomatch z) h
 | @dK a kvs ea =>
  cases (show u=Value.ref a from rx)
  obtain⟨_,_,vs,_,p⟩:=(show ObjOk X.prog X.w H s.heap a (.dK kvs) from I.hok a _ ea)
  obtain⟨o,es,ep,h1,h2,_⟩:=p
  exact W.kia_tup W.kitx_dict I.kIn ⟨o,h1,h2.1⟩ htp e (fun z=>nomatch z) h
 | @dT a kvs ea =>
  cases (show u=Value.ref a from rx)
  obtain⟨_,_,xs,_,o,es,ep,h1,h2,_⟩:=(show ObjOk X.prog X.w H s.heap a (.dT kvs) from I.hok a _ ea)
  exact W.kia_tup W.kitx_dict I.kIn ⟨o,h1,h2.1⟩ htp e (fun z=>nomatch z) h
 | @ins a C dx fs ea cl ha hn htk hm =>
  cases (show u=Value.ref a from rx)
  obtain⟨mA,O,_⟩:=ins_get I.hok ea
  obtain⟨od,J,_⟩:=O.look
  exact W.kia_tup (W.kitx_own (cl.get _) cl.hd ha hn htk hm) I.kIn J htp e (fun z=>nomatch z) h
theorem call_isi2 (c d:String):CallR X (.builtin "isinstance") (rIsi2 X.K c d):=by
 intro pins s σ H xs us Q I r h
 obtain⟨x,a,t,b,rfl,ea,ty,e,q⟩:=h
 obtain⟨u,w',rfl,ru,rw'⟩:=vals2 r
 cases rw'
 obtain⟨_,its,rv,⟨oc,od,odt,osl⟩,h1,h2,n,h3,_⟩:=(show ObjOk X.prog X.w H s.heap a (.tup [.ty c,.ty d]) from I.hok a _ ea)
 have h2:oc=.type "tuple":=h2
 have h3:odt=.seq its.toArray n:=h3
 subst h2 h3
 obtain⟨u1,u2,rfl,r1,r2⟩:=vals2 rv
 cases r1
 cases r2
 exact isinst_tup I ru ty h1 e fun tk=>⟨.bl b,H,I.tok tk,rfl,q⟩
theorem b_isi2 (K:W.Frag) (c d:String) (B:Blt X.mg) (ha:PA X [e,f] t) (hg:Gl X "isinstance":=by rfl) (he:starEach [e,f] X.env=(false,eval e X.env)::starEach [f] X.env:=by rfl) (hpl:(backTo pos (starEach [f] X.env)).any (·.1)=false:=by rfl) (hK:X.K=K:=by rfl):PE X (.Call (.Name "isinstance" p) [e,f] [] pos) (tCB (rIsi2 K c d) t) :=
 hK ▸ pe_callB (call_isi2 c d) hg B.isinstance boot_isinstance ha (by decide) (by decide) he hpl
end
end L2
namespace MG
variable {es:List (Nat × Nat)}{goal:Nat}
end MG
namespace L2
open PySem PySem.Spec PyProof.Rows
section
variable {X:Cx}{p pos:Pos}{e:Expr}{t:TA}
def rLenD:List V->Hp->VK->Prop:=fun xs H Q=>∃a kvs,xs=[V.ref a]/\H a=some (.dK kvs)/\Q (.int kvs.length) H
theorem b_lenD (B:Blt X.mg) (ha:PA X [e] t) (hg:Gl X "len":=by rfl) (he:starEach [e] X.env=(false,eval e X.env)::starEach [] X.env:=by rfl) (hpl:(backTo pos (starEach [] X.env)).any (·.1)=false:=by rfl):PE X (.Call (.Name "len" p) [e] [] pos) (tCB rLenD t) :=
 pe_callB call_lenD hg B.len PySem.boot_len ha (by decide) (by decide) he hpl
end
theorem twice_of [DecidableEq α]:∀ {l:List α}, ¬ l.Nodup -> ∃l1 a l2, l=l1 ++ a :: l2 /\ a ∈ l2
 | [],h=>absurd List.nodup_nil h
 | x::l,h=>by
  by_cases q:x∈l
  ·exact⟨[],x,l,rfl,q⟩
  ·have h:¬ l.Nodup:=fun z=>h (List.nodup_cons.mpr ⟨q,z⟩)
   obtain⟨l1,a,l2,e,m⟩:=twice_of h
   exact⟨x::l1,a,l2,by rw[e];rfl,m⟩
theorem len_keys {α:Type} [DecidableEq α] {ks ws:List α}(nd:ks.Nodup) (h1:∀k ∈ ks, k ∈ ws) (h2:∀w ∈ ws, w ∈ ks):ks.length=ws.length ↔ ws.Nodup := by
 constructor
 ·intro hl
  refine Classical.byContradiction fun hn=>?_
  obtain⟨l1,a,l2,e,m⟩:=twice_of hn
  have:=nd.length_le_of_subset (l₂:=l1++l2) fun k hk=>by
   have:=h1 k hk
   rw[e] at this
   rcases List.mem_append.mp this with q | q
   ·exact List.mem_append_left _ q
   ·rcases List.mem_cons.mp q with q | q
    ·rw[q];exact List.mem_append_right _ m
    ·exact List.mem_append_right _ q
  rw[hl,e,List.length_append,List.length_append,List.length_cons] at this
  omega
 ·intro hw
  exact Nat.le_antisymm (nd.length_le_of_subset h1) (hw.length_le_of_subset h2)
theorem len_kvs {kvs:List (Key × V)}{ws:List Str}(nd:(kvs.map (·.1)).Nodup) (ks:∀k ∈ kvs.map (·.1), ∃s ∈ ws, k=Sum.inr s) (hin:∀s, (valV kvs (.inr s)).isSome=true ↔ s ∈ ws):kvs.length=ws.length ↔ ws.Nodup := by
 have h:=len_keys (ks:=kvs.map (·.1)) (ws:=ws.map (Sum.inr:Str->Key)) nd (fun k hk=>by
     obtain⟨s,hs,rfl⟩:=ks k hk
     exact List.mem_map.mpr ⟨s,hs,rfl⟩) (fun k hk=>by
     obtain⟨s,hs,rfl⟩:=List.mem_map.mp hk
     obtain⟨v,hv⟩:=Option.isSome_iff_exists.mp ((hin s).mpr hs)
     exact valV_in hv)
 rw[List.length_map,List.length_map] at h
 rw[h]
 constructor
 ·intro q
  exact List.Pairwise.of_map (Sum.inr:Str->Key) (fun a b n e=>n (by rw[e])) q
 ·intro q
  exact List.Pairwise.map _ (fun a b n e=>n (Sum.inr.inj e)) q
def inSS (ss:List Str):V->Bool
 | .str s=>decide (s∈ss)
 | _=>false
def lstB (H:Hp) (ss:List Str):V->Bool
 | .ref a=>match H a with
  | some (.lst xs)=>xs.all (inSS ss)
  | _=>false
 | _=>false
theorem lstB_lst (e:H a=some (.lst xs)):lstB H ss (.ref a)=xs.all (inSS ss):=by
 show (match H a with | some (.lst xs)=>xs.all (inSS ss) | _=>false)=_
 rw[e]
theorem lstB_not (h:isL H x=false):lstB H ss x=false:=by
 cases x with
 | ref a =>
  show (match H a with | some (.lst xs)=>xs.all (inSS ss) | _=>false)=false
  split
  ·rename_i xs e;rw[isL_of e] at h;cases h
  ·rfl
 | _=>rfl
theorem all_inSS:∀ {xs:List V}, xs.all (inSS ss)=true -> ∃ws, xs=List.map V.str ws /\ ∀w ∈ ws, w ∈ ss
 | [],_=>⟨[],rfl,fun w hw=>by cases hw⟩
 | x::xs,h=>by
  rw[List.all_cons,Bool.and_eq_true] at h
  obtain⟨ws,e,m⟩:=all_inSS h.2
  cases x with
  | str s =>
   have hs:s∈ss:=of_decide_eq_true h.1
   refine⟨s::ws,by rw[e];rfl,fun w hw=>?_⟩
   rcases List.mem_cons.mp hw with q | q
   ·rw[q];exact hs
   ·exact m w q
  | _=>exact absurd h.1 (by simp[inSS])
end L2
namespace L2
open PySem PySem.Spec PyProof.Rows PySem.Builtin PySem.Builtin.Str
theorem idx_len (i j n:Nat):(strSliceIndices (some (i:Int)) (some (j:Int)) 1 n).length<=j-i:=by
 unfold strSliceIndices sliceRange
 simp only[show (1:Int) > 0 by decide,if_true,List.length_map,List.length_range]
 split <;> (try simp only[Int.ediv_one]) <;> (repeat' split) <;> (try simp only[List.length_map,List.length_range,Int.ediv_one,List.length_nil]) <;> omega
theorem slice_len (z:Str) (i j:Nat):(Txt.slice z (some (i:Int)) (some (j:Int))).length<=j-i:=by
 unfold Txt.slice
 have h:=idx_len i j z.length
 split
 ·rename_i q
  have q:(strSliceIndices (some (i:Int)) (some (j:Int)) 1 z.length).length=z.length:=by simpa using q
  omega
 ·show (List.filterMap _ _).toArray.size<=_
  rw[List.size_toArray]
  exact Nat.le_trans (List.length_filterMap_le _ _) h
theorem slice_to {z:Str}{j:Nat}(h:j<=z.length):(Txt.slice z none (some (j:Int))).length=j:=by
 have e:Txt.slice z none (some (j:Int))=StrLaws.sliceText z none (some (j:Int)):=rfl
 rw[e,StrLaws.sliceText_to ⟨by omega,by simp[Str.length] at h ⊢;omega⟩]
 show (List.take _ _).toArray.size=j
 rw[List.size_toArray]
 simp[Str.length] at h ⊢
 omega
theorem slice_toL (z:Str) (j:Nat):(Txt.slice z none (some (j:Int))).length<=j:=by
 by_cases h:j<=z.length
 ·exact Nat.le_of_eq (slice_to h)
 ·exact Nat.le_trans (Txt.slice_le z _ _) (by omega)
theorem mid_inj (h:(x++⟨#[c]⟩++y:Str)=x++⟨#[d]⟩++y):c=d:=by
 have h:(x.cps++#[c]++y.cps).toList=(x.cps++#[d]++y.cps).toList:=congrArg (fun s:Str=>s.cps.toList) h
 simp only[Array.toList_append,List.append_assoc,List.append_cancel_left_eq] at h
 simpa using h
theorem mid2_inj (h:(x++⟨#[c]⟩++⟨#[d]⟩++y:Str)=x++⟨#[c']⟩++⟨#[d']⟩++y):c=c'/\d=d':=by
 have h:(x.cps++#[c]++#[d]++y.cps).toList=(x.cps++#[c']++#[d']++y.cps).toList:=congrArg (fun s:Str=>s.cps.toList) h
 simp only[Array.toList_append,List.append_assoc,List.append_cancel_left_eq] at h
 simpa using h
def Lo (t:Str):Prop:=∀x∈t.cps.toList,97<=x/\x<=122
theorem Lo.nil:Lo "":=fun c hc=>by
 have hc:c∈("":Str).cps.toList:=hc
 rw[show ("":Str).cps.toList=[] by decide +kernel] at hc
 cases hc
theorem Lo.one (h:97<=c/\c<=122):Lo ⟨#[c]⟩:=fun d hd=>by
 have:d=c:=by simpa using hd
 omega
theorem Lo.app (hx:Lo x) (hy:Lo y):Lo (x++y):=fun c hc=>by
 have hc:c∈(x.cps++y.cps).toList:=hc
 rw[Array.toList_append] at hc
 rcases List.mem_append.mp hc with h | h
 ·exact hx c h
 ·exact hy c h
theorem Lo.slice (h:Lo x) (l u:Option Int):Lo (Txt.slice x l u):=by
 unfold Txt.slice
 split
 ·exact h
 ·intro c hc
  have hc:c∈(List.filterMap (x.cps[·]?) (strSliceIndices l u 1 x.length)).toArray.toList:=hc
  rw[List.toList_toArray] at hc
  obtain⟨i,_,e⟩:=List.mem_filterMap.mp hc
  exact h c (by simpa using Array.mem_of_getElem? e)
theorem Lo.joinS (hs:Lo sep):∀ {ys:List Str},(∀y∈ys,Lo y)->Lo (Str.join sep ys)
 | [],_=>fun c hc=>by
  have hc:c∈(#[]:Array Nat).toList:=hc
  simp at hc
 | [y],h=>h y (by simp)
 | y::z::r,h=>by
  show Lo (y++sep++Str.join sep (z::r))
  exact((h y (by simp)).app hs).app (Lo.joinS hs fun x hx=>h x (List.mem_cons_of_mem _ hx))
theorem Lo.join (hs:Lo sep) (h:∀y∈ys,Lo y):Lo (Txt.join sep ys):=by
 unfold Txt.join
 rw[StrLaws.glued_eq_join]
 exact Lo.joinS hs h
theorem Lo.nm (h:Lo z) (h1:1<=z.length) (h2:z.length<=8):Nm z:=⟨h1,h2,h⟩
def abc (j:Int):Str:=⟨#[97+j.toNat]⟩
theorem abc_lo (h0:0<=j) (h1:j<26):Lo (abc j):=Lo.one (by omega)
theorem abc_len (j:Int):(abc j).length=1:=rfl
theorem abc_at (h0:0<=j) (h1:j<26):atI ("abcdefghijklmnopqrstuvwxyz":Str).cps.toList j=some (97+j.toNat):=by
 obtain⟨k,rfl⟩:=Int.eq_ofNat_of_zero_le h0
 have hk:k<26:=by omega
 exact(by decide +kernel:∀k:Nat,k<26->atI ("abcdefghijklmnopqrstuvwxyz":Str).cps.toList (k:Int)=some (97+(k:Int).toNat)) k hk
theorem join_len (h:∀y∈ys,y.length=1):(Txt.join "" ys).length=ys.length:=by
 have e0:("":Str).length=0:=by decide +kernel
 unfold Txt.join
 rw[size_glued,e0,Nat.mul_zero,Nat.add_zero]
 induction ys with
 | nil=>rfl
 | cons y r ih =>
  have h1:=h y (by simp)
  have h2:=ih fun z hz=>h z (List.mem_cons_of_mem _ hz)
  simp only[List.map_cons,List.sum_cons,List.length_cons]
  omega
theorem nodup_by (f:Nat->α) (m:Nat) (h:∀i j,i<j->j<m->f i≠f j):((List.range m).map f).Nodup:=by
 rw[List.nodup_iff_pairwise_ne,List.pairwise_map]
 refine List.Pairwise.imp_of_mem ?_ (List.pairwise_lt_range (n:=m))
 intro a b ha hb hab
 exact h a b hab (List.mem_range.mp hb)
theorem range_snoc (f:Nat->α) (i:Nat):(List.range (i+1)).map f=(List.range i).map f++[f i]:=by rw[List.range_succ,List.map_append];rfl
theorem mem_by (h:x∈(List.range m).map f):∃i,i<m/\x=f i:=by
 obtain⟨i,hi,e⟩:=List.mem_map.mp h
 exact⟨i,List.mem_range.mp hi,e.symm⟩
theorem words_nd (ws:List Str) (hw:ws.Nodup) (hi:i<ws.length) (hj:j<ws.length) (h:ws.getD i ""=ws.getD j ""):i=j:=by
 rw[List.getD_eq_getElem?_getD,List.getD_eq_getElem?_getD,List.getElem?_eq_getElem hi,List.getElem?_eq_getElem hj] at h
 exact(List.getElem_inj hw).mp h
theorem star_c:starEach (.Constant c j p::es) env=(false,eval (.Constant c j p) env)::starEach es env:=rfl
end L2
namespace L2
open PySem PySem.Spec PyProof.Rows
def SqA (H:Hp) (a:Addr) (xs:List V):Prop:=H a=some (.lst xs)∨H a=some (.tup xs)
theorem SqA.same (h:SqA H a xs) (s:Same H H'):SqA H' a xs:=by
 rcases h with h | h
 ·exact .inl (s _ _ h)
 ·exact .inr (s _ _ h)
theorem SqA.len {K:W.Frag}{H:Hp}{a:Addr}{xs:List V}(h:SqA H a xs):LenV K (.ref a) H xs.length:=by
 rcases h with h | h
 ·exact .inl ⟨xs,.of h,rfl⟩
 ·exact .inr ⟨xs,.of h,rfl⟩
section
variable {X:Cx}{p pos p2 pos2:Pos}{e f:Expr}{t:TA}
inductive TupR (K:W.Frag) (H:Hp):V->VK->Prop
 | lst {a:Addr} {ys:List V} {Q:VK}:SqL K H a ys->(∀l,H l=none->Q (.ref l) (upd H l (.tup ys)))->TupR K H (.ref a) Q
 | tup {a:Addr} {ys:List V} {Q:VK}:SqT K H a ys->Q (.ref a) H->TupR K H (.ref a) Q
theorem b_tupX (K:W.Frag) (B:Blt X.mg) (ha:PA X [e] t) (hg:Gl X "tuple":=by rfl) (he:starEach [e] X.env=(false,eval e X.env)::starEach [] X.env:=by rfl) (hpl:(backTo pos (starEach [] X.env)).any (·.1)=false:=by rfl) (hK:X.K=K:=by rfl) :
    PE X (.Call (.Name "tuple" p) [e] [] pos) (tCB (fun xs H Q=>∃x,xs=[x]/\TupR K H x Q) t):=by
 subst hK
 refine pe_callTy (r:=fun xs H Q=>∃x,xs=[x]/\TupR X.K H x Q) (fun pins s σ H xs us Q I r h=>?_) hg B.tuple (show bootBuiltins "tuple"=some (.type "tuple") by decide +kernel) ha (by decide) (by decide) he hpl
 obtain⟨x,rfl,h⟩:=h
 cases h with
 | lst h1 q=>exact call_tuple_of pins s σ H _ us Q I r ⟨_,_,rfl,.inl ⟨h1,q⟩⟩
 | tup h1 q=>exact call_tuple_of pins s σ H _ us Q I r ⟨_,_,rfl,.inr ⟨h1,q⟩⟩
end
end L2
namespace L2
open PySem PySem.Spec PyProof.Rows
section
variable {X:Cx}{p pos p2 pos2:Pos}{e f:Expr}{t:TA}
theorem mtR_extend:MtR X "list.extend" rExtend:=mt_extend
theorem mtR_reverse:MtR X "list.reverse" rReverse:=mt_reverse
theorem m_extend (K:W.Frag) (ho:PE X o to) (ha:PA X [e] t)
    (hbase:attributeBase o "extend" X.env (eval o X.env)=eval o X.env:=by rfl)
    (hfew:((backTo cpos (starEach [e] X.env)).all (fun x=>!x.1)&&(backToKw cpos (keywordEach [] X.env)).all (fun x=>x.1.isSome)
     && decide ([e].length+([]:List Keyword).length+(if ([]:List Keyword).isEmpty then 0 else 1)<30))=true:=by rfl)
    (hline:(apos.endLine==cpos.line)=true:=by rfl) (hs:starEach [e] X.env=(false,eval e X.env)::starEach [] X.env:=by rfl) (hplain:(backTo cpos (starEach [] X.env)).any (·.1)=false:=by rfl) (hK:X.K=K:=by rfl) :
    PE X (.Call (.Attribute o "extend" apos) [e] [] cpos) (tBM K "list" rExtend to t):=hK ▸ pe_bm PySem.F.plainAttrs_list PySem.F.slot_list_extend PySem.F.type_list_extend mtR_extend ho ha hbase hfew hline hs hplain
theorem m_reverse (K:W.Frag) (ho:PE X o to) (hbase:attributeBase o "reverse" X.env (eval o X.env)=eval o X.env:=by rfl) (hline:(apos.endLine==cpos.line)=true:=by rfl) (hK:X.K=K:=by rfl) :
    PE X (.Call (.Attribute o "reverse" apos) [] [] cpos) (tBM0 K "list" rReverse to):=hK ▸ pe_bm0 PySem.F.plainAttrs_list PySem.F.slot_list_reverse PySem.F.type_list_reverse mtR_reverse ho hbase hline
end
end L2
namespace L2
open PySem PySem.Spec PyProof.Rows
theorem cutV_from (xs:List V) (k:Nat):cutV xs (some (k:Int)) none=xs.drop k:=by
 unfold cutV
 rw[HT.sIx_nat,HT.sIx_none]
 by_cases h:k<=xs.length
 ·rw[Nat.min_eq_left h,List.take_of_length_le (by rw[List.length_drop];omega)]
 ·rw[Nat.min_eq_right (by omega),List.drop_of_length_le (Nat.le_refl _),List.drop_of_length_le (by omega)];simp
theorem cutV_to (xs:List V) (k:Nat) (h:k<=xs.length):cutV xs none (some (k:Int))=xs.take k:=by
 unfold cutV
 rw[HT.sIx_nat,HT.sIx_none,Nat.min_eq_left h,List.drop_zero,Nat.sub_zero]
end L2
namespace MG
variable {α:Type}
end MG
namespace L2
open PySem PySem.Spec PyProof.Rows
theorem wpAny_flat {α:Type}{M:Model}{m:Sem (Option α)}{P:α->Shared->Prop}
    (h:wpAny M A m (fun r s1=>∃u,r=some u/\wpAny M A (pure ():Sem Unit) (fun _ s2=>P u s2) E s1) E s):wpAny M A m (fun r s1=>∃u,r=some u/\P u s1) E s:=by
 intro Γ p hΓ
 exact Sem.wp_mono M Γ m (fun r p' s1 ⟨u,e,q⟩=>⟨u,e,q Γ p' hΓ⟩) (fun _ _ _ z=>z) p s (h Γ p hΓ)
theorem Inv.atA (I:Inv X pins σ H s) (A':Around) (h1:A'.handled=X.A.handled) (h2:A'.frames=X.A.frames):Inv { X with A:=A' } pins σ H s :=
 ⟨⟨I.ok.mod,I.ok.kind,I.ok.glob,I.ok.blt,I.ok.above,I.ok.inj,I.ok.has,I.ok.cab,fun c=>h1.trans (I.ok.hd c),h2.trans I.ok.frames,I.ok.stk,I.ok.exf,I.ok.bs,I.ok.bsz,I.ok.noex,I.ok.exfs,I.ok.funs,I.ok.frf⟩,
  I.os,I.bare,I.base,I.loc,I.cell,I.free,I.freeC,I.pin,I.hok,I.len⟩
theorem Inv.ofA (ok:X.Ok) (I:Inv { X with A:=A' } pins σ H s):Inv X pins σ H s :=
 ⟨ok,I.os,I.bare,I.base,I.loc,I.cell,I.free,I.freeC,I.pin,I.hok,I.len⟩
theorem keys_miss_tuple:typeLookup (.type "tuple") "keys"=pure none:=am_miss_of_fast (by decide +kernel)
section
variable {prog:Program}{w:World}{A:Around}{E:Value->Shared->Prop}{s:Shared}
theorem nokeys_tuple 
    (hx:s.heap.get? a=some o) (hc:o.cls=.type "tuple") (hdat:o.data=.seq xs k) (hd:o.dict=none) (hA:A.handled=none)
    (h:∀h' tk,(∀b ob,s.heap.get? b=some ob->h'.get? b=some ob)->Q none { s with heap:=h',toks:=tk }) :
    wpAny (model prog w) A (getAttr? (.ref a) "keys") Q E s:=by
 obtain⟨c,dct,dat,sl⟩:=o
 simp only at hc hdat hd
 subst hc hdat hd
 obtain⟨hp,g,d,tk,os⟩:=s
 have hT:∀tk',(⟨hp,g,d,tk',os⟩:Shared).TypeIs (.ref a) "tuple":=fun _=>⟨_,hx,rfl⟩
 have f1:=sub_AttributeError
 have f3:=F.slot_tuple_getattribute.lookup
 have f4:=F.slot_tuple_getattribute.bind (.ref a)
 have f5:=am_tuple_getattr_none
 unfold getAttr? getAttrBy? getAttrBy
 repeat (any_goals (first | assumption | exact hT _ | ((with_reducible show wpAny _ _ (call (Value.builtin "tuple.__getattribute__") _ _) _ _ _);refine call_meets F.slot_tuple_getattribute (hT _) am_entry_tuple_getattribute (F.args_tuple_getattribute_2 _ _) (meets_getattribute_miss_tuple a xs k sl "keys" _ keys_miss_tuple (by decide +kernel)) ⟨hx,hA,fun h' tk' e hx'=>?_⟩) | wp_step))
 obtain⟨t',u',he⟩:=hx'.there
 show wpAny _ _ (getattributeRaised _ _ _ _ _ _ _) _ _ _
 unfold getattributeRaised
 repeat (any_goals (first | assumption | wp_step))
 exact h _ _ hx'.keeps
end
end L2
namespace L2
open PySem PySem.Spec PyProof.Rows
namespace DU
theorem entry_loop:entryFor table "dict.update.loop"=some Builtin.«dict.update.loop»:=entryFor_of_fast (by kernel_rfl)
theorem plain_loop:plainId "dict.update.loop"=true:=by decide +kernel
end DU
section
variable {X:Cx}{pins:List (Addr × Obj)}{σ:St}{H:Hp}{s:Shared}{a:Addr}{y v:V}{u r:Value}{A:Around}{E:Value->Shared->Prop}
theorem d_dictSet (hu:A.units<cLine) (I:Inv X pins σ H s) (g:DPut H a y v H') (ry:RelV y u) (rv:RelV v r) (h:∀s',Inv X pins σ H' s'->(∀b o,b≠a->s.heap.get? b=some o->s'.heap.get? b=some o)->Q () s') :
    wpAny (model X.prog X.w) A (dictSet a u r) Q E s:=by
 rcases g with⟨kvs,k,e,ey,l,eH⟩ | ⟨kvs,k,b,e,ey,eb,l,eH⟩
 ·subst ey eH
  obtain⟨z,hd,vs,rel,dd⟩:=dk_of I.hok e
  have hz:vs.length<=sizeLine:=by rw[<- rel.length];exact z
  have hl:(putK kvs k v).length<=sizeLine:=by have:=length_putK kvs k v;omega
  refine wpAny_dictSet_pairs (hsz:=hz) (kV_is ry) dd fun h' dd' hs=>h _ ?_ fun b o n q=>hs.extBut _ _ n q
  have he:∃q,h'.get? a=some q:=let ⟨q,_,_,hq,_⟩:=dd';⟨q,hq⟩
  exact d_write I (by rw[e];exact True.intro) hs he (dk_new hl hd (rel.put k rv) dd')
 ·subst ey eH
  cases (show u=Value.ref b from ry)
  obtain⟨z,hd,xs,rel,dd⟩:=dt_of I.hok e
  have hz:xs.length<=sizeLine:=by rw[<- Paired.length rel];exact z
  have hl:(putK kvs k v).length<=sizeLine:=by have:=length_putK kvs k v;omega
  refine wpAny_dictSet_heap (hsz:=hz) hu (key_of I.hok eb) dd fun h' dd' hs=>h _ ?_ fun b o n q=>hs.extBut _ _ n q
  obtain⟨q,es,ep,hq,h2,h3,h4,_,h5⟩:=dd'
  refine d_write I (by rw[e];exact True.intro) hs ⟨q,hq⟩ ⟨hl,hd,_,(rel.put k eb rv).keeps fun c ys ec=>?_,q,es,ep,hq,h2,h3,h4,h5⟩
  rw[upd_ne (ne_of ec e (fun z=>nomatch z))]
  exact ec
theorem DPut.at_ (g:DPut H a y v H'):(∃o,H a=some o)/\∀b,b≠a->H' b=H b:=by
 rcases g with⟨kvs,k,e,ey,l,eH⟩ | ⟨kvs,k,b,e,ey,eb,l,eH⟩
 ·exact⟨⟨_,e⟩,fun b n=>by rw[eH,upd_ne n]⟩
 ·exact⟨⟨_,e⟩,fun b n=>by rw[eH,upd_ne n]⟩
end
theorem dict_loop (T:Turn X.prog X.w X.K (.Name nm tp) J fp it tn) (hc:X.calm=true) (hu:X.A.units+64<cLine) (d:Addr) (n:Nat) (Dv:Nat -> Hp -> Prop)
    (go:∀i H,i<n->Dv i H->J.go i H/\∀x H1,J.yld i H x H1->∃b k v H2,x=.ref b/\SqT X.K H1 b [k,v]/\DPut H1 d k v H2/\Dv (i+1) H2)
    (stop:∀H,Dv n H->J.stop n H):∀(k i:Nat) (j:Int) (s:Shared) (H:Hp),n-i=k->i<=n->Inv X pins σ H s->(∀b∈fp,FpOk X pins H b)->tn i s.heap->Dv i H ->
     (∀H' s',Inv X pins σ H' s'->Dv n H'->R (.ok (.ret .none)) s')->codeAny (model X.prog X.w) X.A.in1 (.builtin "dict.update.loop" ⟨[.ref d,.ref it,rawInt j,.none],[]⟩) R s:=by
 intro k
 induction k with
 | zero =>
  intro i j s H hk hi I hf ht hd hR
  have hin:i=n:=by omega
  subst hin
  refine codeAny_builtin DU.entry_loop ?_
  rw[Around.under_plainId DU.plain_loop _]
  show wpAny _ X.A.in1.in1 (pyNext (.ref it) >>= _) _ _ s
  refine wpAny_bind (wpAny_mono (T.done { X with A:=X.A.in1.in1 } rfl rfl rfl hc i pins s σ H _ (I.atA _ rfl rfl) hf ht (stop H hd)) (fun r s1 ⟨e,I1⟩=>?_) fun _ _ z=>z)
  subst e
  show wpAny _ _ (Builtin.Dict.addKeywords d [] >>= _) _ _ _
  exact wpAny_bind (wpAny_pure (wpAny_pure (hR H s1 (Inv.ofA I.ok I1) hd)))
 | succ k ih =>
  intro i j s H hk hi I hf ht hd hR
  have hlt:i<n:=by omega
  obtain⟨hg,hy⟩:=go i H hlt hd
  refine codeAny_builtin DU.entry_loop ?_
  rw[Around.under_plainId DU.plain_loop _]
  show wpAny _ X.A.in1.in1 (pyNext (.ref it) >>= _) _ _ s
  refine wpAny_bind (wpAny_mono (wpAny_flat (T.item { X with A:=X.A.in1.in1 } rfl rfl rfl hc i pins s σ H _ (I.atA _ rfl rfl) hf ht hg)) (fun r s1 ⟨u,e,x,H1,I1,rx,yl,t1,fn⟩=>?_) fun _ _ z=>z)
  subst e
  replace I1:=Inv.ofA I.ok I1
  obtain⟨b,kk,v,H2,ex,sq,dp,dv⟩:=hy x H1 yl
  subst ex
  cases (show u=Value.ref b from rx)
  obtain⟨its,rv,pt,hz⟩:=I1.tuple sq
  obtain⟨u1,u2,e2,r1,r2⟩:=vals2 rv
  subst e2
  obtain⟨o,ho,hcl,m,hdt⟩:=pt
  show wpAny _ _ (holding [Value.ref b] _ >>= _) _ _ _
  refine wpAny_bind (wpAny_holding ?_)
  show wpAny _ _ (Sem.tryCatch (Builtin.Dict.pairItems (Value.ref b)) _ >>= _) _ _ _
  refine wpAny_bind (wpAny_tryCatch ?_)
  unfold Builtin.Dict.pairItems
  refine wpAny_bind (wpAny_typeOf (T:="tuple") ⟨o,ho,hcl⟩ ?_)
  simp only[show ((Value.type "tuple"==Value.type "list")||(Value.type "tuple"==Value.type "tuple"))=true from rfl,if_true]
  unfold seqItems?
  refine wpAny_bind (wpAny_bind (wpAny_load ho ?_))
  rw[hdt]
  refine wpAny_pure (wpAny_pure ?_)
  show wpAny _ _ (holding [u1,u2] (dictSet d u1 u2)) _ _ _
  have hu':X.A.in1.in1.units<cLine:=by show X.A.units+1+1<cLine;omega
  refine wpAny_holding (d_dictSet hu' I1 dp r1 r2 fun s2 I2 hk2=>?_)
  have dn:∀b∈fp,b≠d:=fun b hb q=>by
   obtain⟨o,eo⟩:=dp.at_.1
   rw[<- q,fn b hb] at eo
   cases eo
  refine wpAny_pure ⟨plainId_quiet DU.plain_loop _,ih (i+1) (j+1) s2 H2 (by omega) hlt I2 (fun b hb=>?_) (T.keep _ _ _ t1 fun b hb o q=>hk2 b o (dn b hb) q) dv hR⟩
  obtain⟨_,f1,f2,f3,f4,f5⟩:=hf b hb
  exact⟨(dp.at_.2 b (dn b hb)).trans (fn b hb),f1,f2,f3,f4,f5⟩
theorem Rd.fresh (r:Rd H a u) (hl:H l=none):Rd (upd H l o) a u:=by
 have n:a≠l:=fun e=>by subst e;rcases r with r | ⟨_,r⟩ <;> rw[hl] at r <;> cases r
 unfold Rd
 rw[upd_ne n]
 exact r
theorem SqT.fresh {K:W.Frag}{H:Hp}{a l:Addr}{xs:List V}{o:HO}(r:SqT K H a xs) (hl:H l=none):SqT K (upd H l o) a xs:=by
 rcases r with r | r
 ·exact Or.inl (r.fresh hl)
 ·exact Or.inr r
theorem foldK_le [DecidableEq κ]:∀(ps:List (κ × V)) (m:List (κ × V)),(ps.foldl (fun m q=>putK m q.1 q.2) m).length<=m.length+ps.length:=by
 intro ps
 induction ps with
 | nil=>intro m;exact Nat.le_refl _
 | cons q r ih =>
  intro m
  have h1:=ih (putK m q.1 q.2)
  have h2:=length_putK m q.1 q.2
  rw[List.foldl_cons,List.length_cons]
  omega
def mkK [DecidableEq κ] (ps:List (κ × V)):List (κ × V):=ps.foldl (fun m q=>putK m q.1 q.2) []
theorem mkK_le [DecidableEq κ] (ps:List (κ × V)):(mkK ps).length<=ps.length:=by
 have:=foldK_le ps []
 rw[List.length_nil,Nat.zero_add] at this
 exact this
theorem mkK_take [DecidableEq κ] (ps:List (κ × V)) (i:Nat) (q:κ × V) (h:ps[i]? = some q):mkK (ps.take (i+1))=putK (mkK (ps.take i)) q.1 q.2:=by
 unfold mkK
 rw[List.take_add_one,h,List.foldl_append]
 rfl
end L2
namespace L2
open PySem PySem.Spec PyProof.Rows
namespace SP
open PySem.Builtin PySem.Builtin.Str PySem.StrLaws
abbrev one (c:Nat):Str:=⟨#[c]⟩
end SP
end L2
namespace MG
variable {es:List (Nat × Nat)}{goal:Nat}
end MG
set_option maxHeartbeats 400000
namespace L2
open PySem PySem.Spec PyProof.Rows
section
variable {X:Cx}
def rInDT (neg:Bool):V->V->Hp->VK->Prop:=fun x y H Q=>∃p xs ds d,y=.ref p/\H p=some (.tup xs)/\RepAll H xs ds/\Rep H x d/\PyData.canLayAll0 ds=true/\d.canLay0=true/\d.depth<=16/\Q (.bl (if neg then !(ds.any fun e=>PyData.eqv e d) else ds.any fun e=>PyData.eqv e d)) H
theorem op_inDT (hu:X.A.units+64<cLine):OpR X (compareOp .In) (rInDT false):=by
 intro pins s σ H x y v u Q I rx ry h
 obtain⟨p,xs,ds,d,rfl,e,rs,r,cs,c,dp,q⟩:=h
 cases ry
 obtain⟨its,rv,pl,_⟩:=I.tuple (a:=p) (xs:=xs) (.of e)
 obtain⟨bs,zx⟩:=r.reads I.hok rx
 refine SeqAt.in_tupleAt (fun u=>PyData.eqv (SeqAt.readOf s.heap u) d) pl (fun w hw=>mem_readOf (x:=x) I.hok zx c (by show X.A.units+1+d.depth<cLine;omega) rs rv cs w (by simpa using hw)) ⟨.bl _,H,I,rfl,?_⟩
 rw[show its.toArray.any (fun u=>PyData.eqv (SeqAt.readOf s.heap u) d)=its.any (fun u=>PyData.eqv (SeqAt.readOf s.heap u) d) by simp,any_readOf I.hok rs rv cs]
 exact q
end
end L2
set_option maxHeartbeats 4000000
namespace L2
open PySem PySem.Spec PyProof.Rows
def zipK (ks:List Str) (ys:List V):List (Key × V):=(ks.map Sum.inr).zip ys
end L2
namespace L2
open PySem PySem.Spec PyProof.Rows
theorem putK_snoc {kvs:List (Key × V)}{k:Key}(h:k∉kvs.map (·.1)):putK kvs k v=kvs++[(k,v)]:=by
 unfold putK
 rw[if_neg]
 intro z
 obtain⟨kv,hm,e⟩:=List.any_eq_true.mp z
 exact h (List.mem_map.mpr ⟨kv,hm,of_decide_eq_true e⟩)
theorem mkK_zip:∀(ks:List Str) (ys:List V), ks.Nodup -> mkK (zipK ks ys)=zipK ks ys := by
 have key:∀(ks:List Str) (ys:List V) (m:List (Key × V)), ks.Nodup -> (∀k ∈ ks, (Sum.inr k:Key) ∉ m.map (·.1)) -> (zipK ks ys).foldl (fun m q => putK m q.1 q.2) m=m ++ zipK ks ys := by
  intro ks
  induction ks with
  | nil=>intro ys m _ _;unfold zipK;simp
  | cons k ks ih =>
   intro ys m nd hm
   cases ys with
   | nil=>unfold zipK;simp
   | cons y ys =>
    obtain⟨h1,h2⟩:=List.nodup_cons.mp nd
    have e:zipK (k::ks) (y::ys)=(.inr k,y)::zipK ks ys:=rfl
    rw[e,List.foldl_cons]
    show List.foldl _ (putK m (.inr k) y) _=_
    rw[putK_snoc (hm k (by simp)),ih ys _ h2 (fun x hx=>?_)]
    ·simp
    ·rw[List.map_append,List.mem_append]
     rintro (z | z)
     ·exact hm x (List.mem_cons_of_mem _ hx) z
     ·have:(Sum.inr x:Key)=Sum.inr k:=by simpa using z
      exact h1 (Sum.inr.inj this ▸ hx)
 intro ks ys nd
 unfold mkK
 rw[key ks ys [] nd (fun k _ h=>by cases h)]
 rfl
theorem valV_zip:∀ {ks:List Str}{ys:List V}{i:Nat}{k:Str}{y:V},ks.Nodup->ks[i]? = some k->ys[i]? = some y->valV (zipK ks ys) (.inr k)=some y
 | [],_,_,_,_,_,h,_=>by simp at h
 | k::ks,[],_,_,_,_,_,h=>by simp at h
 | k::ks,y::ys,0,k',y',nd,h1,h2=>by
  have e1:k=k':=by simpa using h1
  have e2:y=y':=by simpa using h2
  subst e1 e2
  exact valV_pos (p:=(Sum.inr k,y)) rfl
 | k::ks,y::ys,i+1,k',y',nd,h1,h2=>by
  obtain⟨n1,n2⟩:=List.nodup_cons.mp nd
  have h1:ks[i]? = some k':=by simpa using h1
  have h2:ys[i]? = some y':=by simpa using h2
  have ne:¬ (Sum.inr k:Key)=Sum.inr k':=fun z=>n1 (by rw[Sum.inr.inj z];exact List.mem_of_getElem? h1)
  show valV ((Sum.inr k,y)::zipK ks ys) _=_
  rw[valV_neg ne]
  exact valV_zip n2 h1 h2
theorem once {G T:Prop}(m:T->G) (t:T):G:=m t
end L2
namespace MG
def mx:List Int->Int
 | []=>0
 | x::l=>max x (mx l)
def dp (es:List (Nat × Nat)) (W:Nat->Int):Nat->Nat->Int
 | 0,_=>0
 | k+1,v=>W v+mx ((es.filter fun e=>decide (e.2=v)).map fun e=>dp es W k e.1)
end MG
namespace L2
open PySem PySem.Spec PyProof.Rows
section
variable {X:Cx}
def rCatTA (K:W.Frag):R2:=fun x y H Q=>∃a b xs ys,x=.ref a/\y=.ref b/\SqT K H a xs/\SqT K H b ys/\xs.length+ys.length<=sizeLine /\
 (xs=[]->Q (.ref b) H)/\(xs≠[]->ys=[]->Q (.ref a) H)/\(xs≠[]->ys≠[]->∀p,H p=none->Q (.ref p) (upd H p (.tup (xs++ys))))
theorem op_catTA (K:W.Frag) (hK:X.K=K:=by rfl):OpR X (binaryOp .Add) (rCatTA K):=by
 subst hK
 intro pins s σ H x y v u Q I rx ry h
 obtain⟨a,b,xs,ys,rfl,rfl,ha,hb,hz,q0,q1,q2⟩:=h
 by_cases hx:xs=[]
 ·cases rx
  cases ry
  obtain⟨its,r1,p1,_⟩:=I.tuple ha
  obtain⟨its2,r2,p2,_⟩:=I.tuple hb
  have e1:its=[]:=r1.nil_iff.mpr hx
  obtain⟨⟨cls,dd,data,sl⟩,ho,hc,n,hd⟩:=id p1
  obtain⟨⟨cls2,dd2,data2,sl2⟩,ho2,hc2,n2,hd2⟩:=id p2
  simp only at hc hd hc2 hd2
  subst hc hd hc2 hd2
  exact concat_meets ⟨_,ho,rfl⟩ ⟨_,ho2,rfl⟩ noFill_tuple_add seq_tuple_add F.slot_tuple_add F.entry_tuple_add (F.args_tuple_add_2 _ _) (tuple_addW0 a b its.toArray its2.toArray n n2 dd dd2 sl sl2 (by simp[e1])) ⟨ho,ho2,⟨.ref b,H,I,rfl,q0 hx⟩⟩
 ·exact op_catT pins s σ H _ _ v u Q I rx ry ⟨a,b,xs,ys,rfl,rfl,ha,hb,hx,hz,q1 hx,q2 hx⟩
end
end L2
namespace L2
open PySem
theorem perm_of [DecidableEq α]:∀ {l m:List α},l.Nodup->(∀x∈l,x∈m)->m.length<=l.length->l.Perm m
 | [],m,_,_,h=>by
  have:m=[]:=List.length_eq_zero_iff.mp (by have:=h;rw[List.length_nil] at this;omega)
  rw[this]
 | x::l,m,nd,sub,h=>by
  obtain⟨n1,n2⟩:=List.nodup_cons.mp nd
  have hx:=sub x (by simp)
  have pe:=(List.perm_cons_erase hx)
  have le:=pe.length_eq
  rw[List.length_cons] at le h
  refine(List.Perm.cons x (perm_of n2 (fun y hy=>?_) (by omega))).trans pe.symm
  exact(List.mem_erase_of_ne (fun z:y=x=>n1 (z ▸ hy))).mpr (sub y (List.mem_cons_of_mem _ hy))
end L2
namespace L2
open PySem PySem.Spec PyProof.Rows
theorem for_zip {K:W.Frag}{a b:Addr}{xs ys:List V}{g:TG}{tb:TS}{D:Ends}{σ:St}{H:Hp}(Pv:Nat -> St -> Hp -> Prop) (h0:Pv 0 σ H) (hl:∀i σ H, i <= (xs.zip ys).length -> Pv i σ H -> SqL K H a xs /\ SqL K H b ys)
    (hs:∀i x y p σ H,(xs.zip ys)[i]? = some (x,y)->Pv i σ H->H p=none->g (.ref p) σ (upd H p (.tup [x,y])) fun σ2 H2=>tb { D with nx:=Pv (i+1),ct:=Pv (i+1),bk:=D.nx } σ2 H2) (hd:∀σ H,Pv (xs.zip ys).length σ H->D.nx σ H) :
    ∃W:Nat->Nat->St->Hp->Prop,(∃m,W 0 m σ H)/\∀i m σ H,W i m σ H ->
     ((Itz K a b).stop i H/\D.nx σ H)∨((Itz K a b).go i H/\∃N:St->Hp->Prop,(∀σ' H',N σ' H'->∃m',m'<m/\W (i+1) m' σ' H')/\∀x H',(Itz K a b).yld i H x H'->g x σ H' fun σ2 H2=>tb { D with nx:=N,ct:=N,bk:=D.nx } σ2 H2):=by
 refine⟨fun i m σ H=>m=(xs.zip ys).length-i/\i<=(xs.zip ys).length/\Pv i σ H,⟨(xs.zip ys).length,by simp,Nat.zero_le _,h0⟩,?_⟩
 rintro i m σ H ⟨rfl,hi,p⟩
 obtain⟨qa,qb⟩:=hl i σ H hi p
 have hlz:(xs.zip ys).length=min xs.length ys.length:=List.length_zip
 by_cases hlt:i<(xs.zip ys).length
 ·have h1:i<xs.length:=by omega
  have h2:i<ys.length:=by omega
  refine .inr ⟨⟨xs,ys,xs[i],ys[i],qa,qb,List.getElem?_eq_getElem h1,List.getElem?_eq_getElem h2⟩,Pv (i+1),fun σ' H' q=>⟨(xs.zip ys).length-(i+1),by omega,rfl,by omega,q⟩,?_⟩
  rintro x H' ⟨q,u,v,hq,rfl,hu,hv,rfl⟩
  exact hs i u v q σ H (by rw[List.getElem?_zip_eq_some];exact⟨hu xs qa,hv ys qb⟩) p hq
 ·have e:i=(xs.zip ys).length:=by omega
  refine .inl ⟨⟨xs,ys,qa,qb,by omega⟩,hd σ H (e ▸ p)⟩
end L2
namespace L2
open PySem PySem.Spec PyProof.Rows
def XF (B:Heap) (l:List Env) (a:Addr) (c:Value) (dd:Option Addr) (fl:Value) (h:Heap):Prop :=
 B.StaysIn h/\B.get? a=none/\h.FunFrames B l/\∃o vs T p ts,h.get? a=some o/\o.cls=c/\o.dict=dd/\o.data=.fields vs/\vs[1]? = some (.ref T)/\B.get? T=none/\T≠a/\h.get? T=some p/\p.data=.fields ts/\ts[3]? = some fl
theorem XF.there (x:XF B l a c dd fl h):∃o,h.get? a=some o/\o.cls=c/\o.dict=dd:=by
 obtain⟨_,_,_,o,_,_,_,_,e,k1,k2,_⟩:=x
 exact⟨o,e,k1,k2⟩
theorem XF.rec (x:XF B l a c dd fl h):∃o vs,h.get? a=some o/\o.data=.fields vs:=by
 obtain⟨_,_,_,o,vs,_,_,_,e,_,_,k,_⟩:=x
 exact⟨o,vs,e,k⟩
theorem XF.out (x:XF B (e0::l) a c dd fl h):XF B l a c dd fl h:=⟨x.1,x.2.1,x.2.2.1.2.2,x.2.2.2⟩
theorem dict_map (f:Array Value->Array Value) (o:Obj):(Obj.mapFields f o).dict=o.dict:=by
 unfold Obj.mapFields
 split <;> rfl
section
variable {M:Model}{A:Around}{E:Value->Shared->Prop}{s:Shared}{B:Heap}{e0:Env}{out:List Env}{a L:Addr}{Q:Unit->Shared->Prop}
theorem entryX (fr:A.frames=some (e0 :: out)) (ff:s.heap.FunFrames B (e0 :: out)) (fL:e0.frame=some L) (ea:s.heap.get? a=some o) (st:B.StaysIn s.heap) (na:B.get? a=none) (dv:o.data=.fields vs) (n1:1<vs.size)
    (k:∀h',XF B (e0::out) a o.cls o.dict (rawInt L) h'->s.heap.UpToSlots h'->Q () { s with heap:=h' }) :
    wpAny M A (do let f ← frameOf e0;let pl ← entryPlaceOf L b0;let b ← EntryCells.newEntry hd f .none (rawInt L) .none pl;setField (.ref a) 1 b) Q E s:=by
 have nf:a∉(e0::out).filterMap (·.frame):=fun z=>by
  obtain⟨_,p,ep,q⟩:=ff.mem z
  exact q vs (Option.some.inj (ea.symm.trans ep) ▸ dv)
 refine wpAny_bind (wpAny_frameOf_fun fr ff fL fun g1 so=>wpAny_bind (wpAny_entryPlaceOf fun pl ip=>?_))
 unfold EntryCells.newEntry newFields
 refine wpAny_bind (wpAny_newObj_type ?_ (ip.sizeOk5 _ _ _ _ _))
 generalize ep:([hd,Value.ref L,Value.none,rawInt L,Value.none]++(if pl.isEmpty then List.replicate 6 Value.none else pl)).toArray=tv
 have t3:tv[3]? = some (rawInt L):=by rw[<- ep];first | (simp;done) | (rcases ip with rfl | ⟨_,_,_,_,_,_,_,rfl⟩ <;> simp)
 have e1:g1.get? a=some o:=(so.2.1 a nf).trans ea
 have e2:=Heap.get?_push_of_some (h:=g1) { cls:=.type "traceback",dict:=none,data:=.fields tv } e1
 have nT:g1.objs.size≠a:=Nat.ne_of_gt (Heap.lt_size e1)
 have dm:=Obj.data_mapFields dv (·.setIfInBounds 1 (Value.ref g1.objs.size))
 have ot:∀b p,b≠a->g1.get? b=some p->((g1.push { cls:=.type "traceback",dict:=none,data:=.fields tv }).update a (Obj.mapFields (·.setIfInBounds 1 (Value.ref g1.objs.size)))).get? b=some p:=fun b p nb eb=>by
  rw[Heap.get?_update_other _ _ (Ne.symm nb)]
  exact Heap.get?_push_of_some _ eb
 have up:s.heap.UpToSlots ((g1.push { cls:=.type "traceback",dict:=none,data:=.fields tv }).update a (Obj.mapFields (·.setIfInBounds 1 (Value.ref g1.objs.size)))):=fun b p eb q=>by
  obtain⟨sl,es⟩:=so.2.2 b p eb
  exact⟨sl,ot b _ (fun z=>q vs (Option.some.inj (ea.symm.trans (z ▸ eb)) ▸ dv)) es⟩
 refine wpAny_setField e2 dv n1 (k _ ?_ ?_)
 ·have sg:B.StaysIn g1:=fun b p eb=>(so.2.1 b fun z=>by have:=(ff.mem z).1;rw[eb] at this;cases this).trans (st b p eb)
  refine⟨fun b p eb=>ot b p (fun z=>by rw[z,na] at eb;cases eb) (sg b p eb),na,ff.of_keeps fun b p eb q=>?_,_,_,g1.objs.size,{ cls:=.type "traceback",dict:=none,data:=.fields tv },tv,Heap.get?_update_self _ e2 (Obj.isFreed_of_fields dm),Obj.cls_mapFields _ _,dict_map _ _,dm,by simp[n1],sg.fresh,nT,?_,rfl,t3⟩
  ·obtain⟨sl,es⟩:=up b p eb q
   exact⟨_,es,rfl⟩
  ·rw[Heap.get?_update_other _ _ (Ne.symm nT)]
   exact Heap.get?_push_size g1 rfl
 ·exact up
theorem flightX (X:XF B l a c dd fl s.heap):∃T p ts,(∀h',h'=s.heap.update T (Obj.mapFields (·.setIfInBounds 3 x))->XF B l a c dd x h'/\s.heap.UpToSlots h') /\
    s.heap.get? T=some p/\p.data=.fields ts/\ts[3]? = some fl/\∃o vs,s.heap.get? a=some o/\o.data=.fields vs/\vs[1]? = some (.ref T):=by
 obtain⟨st,na,ff,o,vs,T,p,ts,ea,k1,k2,dv,v1,nT,ne,eT,dT,t3⟩:=X
 have l3:3<ts.size:=(Array.getElem?_eq_some_iff.mp t3).1
 refine⟨T,p,ts,fun h' e=>?_,eT,dT,t3,o,vs,ea,dv,v1⟩
 have ot:∀b,b≠T->h'.get? b=s.heap.get? b:=fun b nb=>by rw[e];exact Heap.get?_update_other _ _ (Ne.symm nb)
 have up:s.heap.UpToSlots h':=fun b u eb q=>⟨u.slots,(ot b fun z=>q ts (Option.some.inj (eT.symm.trans (z ▸ eb)) ▸ dT)).trans eb⟩
 refine⟨⟨fun b u eb=>(ot b fun z=>by rw[z,nT] at eb;cases eb).trans (st b u eb),na,ff.of_keeps fun b u eb q=>?_,o,vs,T,Obj.mapFields (·.setIfInBounds 3 x) p,ts.setIfInBounds 3 x,(ot a (Ne.symm ne)).trans ea,k1,k2,dv,v1,nT,ne,?_,Obj.data_mapFields dT _,by simp[l3]⟩,up⟩
 ·obtain⟨sl,es⟩:=up b u eb q
  exact⟨_,es,rfl⟩
 ·rw[e]
  exact Heap.get?_update_self _ eT (Obj.isFreed_of_fields (Obj.data_mapFields dT _))
theorem landX (X:XF B l a c dd fl s.heap) (k:∀h',XF B l a c dd .none h'->s.heap.UpToSlots h'->Q () { s with heap:=h' }):wpAny M A (setFlight (.ref a) none) Q E s:=by
 obtain⟨T,p,ts,z,eT,dT,t3,o,vs,ea,dv,v1⟩:=flightX (x:=.none) X
 unfold setFlight
 refine wpAny_bind (wpAny_field ea dv v1 ?_)
 rw[if_pos (show (Value.ref T != Value.none)=true by simp)]
 obtain⟨z1,z2⟩:=z _ rfl
 exact wpAny_setField eT dT (Array.getElem?_eq_some_iff.mp t3).1 (k _ z1 z2)
theorem noteX (fr:A.frames=some (e0::out)) (fL:e0.frame=some L) (X:XF B (e0::out) a c dd .none s.heap)
    (k:∀h',XF B (e0::out) a c dd (rawInt L) h'->s.heap.UpToSlots h'->Q () { s with heap:=h' }):wpAny M A (noteFrame (.ref a) e0) Q E s:=by
 obtain⟨T,p,ts,z,eT,dT,t3,o,vs,ea,dv,v1⟩:=flightX (x:=.none) X
 unfold noteFrame
 simp only[fL]
 refine wpAny_bind (wpAny_field ea dv v1 ?_)
 rw[if_pos (show (Value.ref T != Value.none)=true by simp)]
 refine wpAny_bind (wpAny_field eT dT t3 ?_)
 rw[if_neg (show ¬ ((Value.none==rawInt L)=true) by simp[rawInt])]
 obtain⟨z1,z2⟩:=z _ rfl
 refine wpAny_bind (wpAny_setField eT dT (Array.getElem?_eq_some_iff.mp t3).1 ?_)
 obtain⟨q1,q2,q3,o',vs',T',p',ts',g1,g2,g3,g4,g5,_⟩:=z1
 subst g2 g3
 exact entryX (s:={ s with heap:=s.heap.update T (Obj.mapFields (·.setIfInBounds 3 Value.none)) }) fr q3 fL g1 q1 q2 g4 (Array.getElem?_eq_some_iff.mp g5).1 fun h' x y=>k h' x (z2.trans y)
theorem leaveX0 (fr:A.frames=some (e0::out)) (ff:s.heap.FunFrames B (e0::out)) (fL:e0.frame=some L) (ea:s.heap.get? a=some o) (st:B.StaysIn s.heap) (na:B.get? a=none) (dv:o.data=.fields vs) (v1:vs[1]? = some .none)
    (k:∀h',XF B out a o.cls o.dict .none h'->s.heap.UpToSlots h'->Q () { s with heap:=h' }):wpAny M A (leaving e0 (.ref a)) Q E s:=by
 unfold leaving noteFrame
 simp only[fL]
 refine wpAny_bind (wpAny_bind (wpAny_field ea dv v1 ?_))
 rw[if_neg (by decide)]
 refine entryX fr ff fL ea st na dv (Array.getElem?_eq_some_iff.mp v1).1 fun h' x y=>?_
 exact landX (s:={ s with heap:=h' }) x fun h2 x2 y2=>k h2 x2.out (y.trans y2)
end
end L2
namespace L2
open PySem PySem.Spec PyProof.Rows
theorem ObjOk.obj (x:ObjOk P w H h a o):∃ob,h.get? a=some ob:=by
 cases o with
 | lst xs=>obtain⟨_,_,_,_,e⟩:=x;exact⟨_,e⟩
 | tup xs=>obtain⟨_,_,_,ob,e,_⟩:=x;exact⟨_,e⟩
 | dK kvs=>obtain⟨_,_,_,_,o,_,_,e,_⟩:=x;exact⟨_,e⟩
 | dT kvs=>obtain⟨_,_,_,_,o,_,_,e,_⟩:=x;exact⟨_,e⟩
 | set S n=>obtain⟨o,_,_,_,e,_⟩:=x;exact⟨_,e⟩
 | ins C dx fs=>obtain⟨_,_,_,e,_⟩:=x;exact⟨_,e⟩
 | own y=>obtain⟨_,e⟩:=x;exact⟨_,e⟩
 | xd fs=>obtain⟨_,⟨_,_,_,e,_⟩,_⟩:=x;exact⟨_,e⟩
 | rng lo hi=>obtain⟨_,_,_,e⟩:=x;exact⟨_,e⟩
 | frz ob u=>obtain⟨e,_⟩:=x;exact⟨_,e⟩
 | tbl ps=>exact⟨_,(show h.get? a=some _ from x)⟩
 | met f y=>exact⟨_,(show h.get? a=some _ from x)⟩
 | ext φ=>obtain⟨_,e,_⟩:=x;exact e
def CX1 (P:Program) (w:World):CXT:=fun outer H s E e s' =>
 ∃(a:Addr) (cls:Value) (dd:Option Addr) (B:Heap) (H':Hp),e=.ref a/\s'.os=s.os/\AllBare s'.gens/\Un (frs outer) [] H H' s.heap s'.heap/\HOk P w H' s'.heap/\XF B outer a cls dd .none s'.heap/\H' a=none /\
  (∀b u,H' b=some u->∃o,s'.heap.get? b=some o/\B.get? b=some o)/\(∀b o,s.heap.get? b=some o->H b=none->b∉frs outer->B.get? b=some o)/\(∀b o,s.heap.get? b=some o->b∉frs outer->∃o',B.get? b=some o')/\E cls dd H'
theorem raiseG {P:Program}{w:World}{K:W.Frag}{mg:Str -> Option Value}{base:Heap}{N:List Str}{qual:Str}{scope:Scope}{f:Addr}{cd:Value}{A:Around}{outer:List Env}{s:Shared}{H:Hp}{E:XK}{pins:List (Addr × Obj)}{σ:St}{H1:Hp}{s1:Shared}{e:Addr}{oe:Obj}{vs:Array Value}
    (I:Inv (cxOf (CX1 P w) P w K mg base N qual scope f cd A outer s H E) pins σ H1 s1) (he:H1 e=none) (ge:s1.heap.get? e=some oe) (dv:oe.data=.fields vs) (v1:vs[1]? = some .none) (new:s.heap.get? e=none) (q:E oe.cls oe.dict H1) :
    (cxOf (CX1 P w) P w K mg base N qual scope f cd A outer s H E).xe (.ref e) s1:=by
 show wpAny (model P w) (A.deeper (envOfC qual scope s.heap.objs.size f cd)) (leaving (envOfC qual scope s.heap.objs.size f cd) (.ref e)) (fun _ s''=>CX1 P w outer H s E (.ref e) s'') (fun e' s''=>CX1 P w outer H s E e' s'') s1
 have hin:∀env∈(envOfC qual scope s.heap.objs.size f cd::outer),∀b,env.frame=some b->b∈e::frs (envOfC qual scope s.heap.objs.size f cd::outer):=fun env he b hb=>List.mem_cons_of_mem _ (List.mem_filterMap.mpr ⟨env,he,hb⟩)
 refine leaveX0 (B:=W.hideAll s1.heap (e::frs (envOfC qual scope s.heap.objs.size f cd::outer))) (out:=outer) (L:=s.heap.objs.size) I.ok.frames (W.funFrames_hide I.stack hin) rfl ge (fun b o z=>W.of_hideAll _ z) (W.hideAll_none _ (.head _)) dv v1 fun h2 x1 x4=>?_
 have trk:∀b u,H1 b=some u->∃o,s1.heap.get? b=some o/\(W.hideAll s1.heap (e::frs (envOfC qual scope s.heap.objs.size f cd::outer))).get? b=some o:=fun b u eb=>by
  obtain⟨o,ho⟩:=ObjOk.obj (I.hok b u eb)
  refine⟨o,ho,W.hideAll_get _ ho fun z=>?_⟩
  rcases List.mem_cons.mp z with z | z
  ·rw[z,he] at eb;cases eb
  ·have:=I.stkFree b z
   rw[eb] at this;cases this
 have old:∀b o,s.heap.get? b=some o->H b=none->b∉frs outer->(W.hideAll s1.heap (e::frs (envOfC qual scope s.heap.objs.size f cd::outer))).get? b=some o:=fun b o z n hb=>by
  have e1:s1.heap.get? b=some o:=I.base.keep b o z n hb (by intro y;cases y)
  refine W.hideAll_get _ e1 fun y=>?_
  rcases List.mem_cons.mp y with y | y
  ·rw[y,new] at z;cases z
  rcases List.mem_cons.mp (I.stkSub b y) with r | r
  ·have r:b=s.heap.objs.size:=r
   exact absurd (r ▸ Heap.lt_size z) (Nat.lt_irrefl _)
  ·exact hb r
 have exi:∀b o,s.heap.get? b=some o->b∉frs outer->∃o',(W.hideAll s1.heap (e::frs (envOfC qual scope s.heap.objs.size f cd::outer))).get? b=some o':=fun b o z hb=>by
  obtain⟨o1,e1⟩:=I.base.there b o z (by intro y;cases y)
  refine⟨o1,W.hideAll_get _ e1 fun y=>?_⟩
  rcases List.mem_cons.mp y with y | y
  ·rw[y,new] at z;cases z
  rcases List.mem_cons.mp (I.stkSub b y) with r | r
  ·have r:b=s.heap.objs.size:=r
   exact absurd (r ▸ Heap.lt_size z) (Nat.lt_irrefl _)
  ·exact hb r
 refine⟨e,oe.cls,oe.dict,_,H1,rfl,I.os,I.bare,?_,fun c o ec=>(I.hok c o ec).stay (fun d u hd q'=>?_) (fun _ z=>z) fun _ _ z=>z,x1,he,fun b u eb=>?_,old,exi,q⟩
 ·refine⟨fun b o z n hb _ => x1.1 b o (old b o z n hb), fun b o z n hb hx' => ?_, fun b o z n hx' => I.base.free b o z n hx', fun b o z hx' => ?_, I.base.tups, I.base.frzs, I.base.tbls⟩
  ·obtain⟨sl,e1⟩:=I.base.slot b o z n hb hx'
   obtain⟨_,o1,g1,g2⟩:=(I.ok.funs.mem hb)
   have:o1=o:=Option.some.inj (g1.symm.trans z)
   subst this
   obtain⟨sl2,e2⟩:=x4 b _ e1 (by intro vs y;exact g2 vs y)
   exact⟨sl2,e2⟩
  ·by_cases hb:b∈frs outer
   ·obtain⟨_,o1,g1,_⟩:=x1.2.2.1.mem hb
    exact⟨_,g1⟩
   ·obtain⟨o',e1⟩:=exi b o z hb
    exact⟨o',x1.1 b o' e1⟩
 ·have tr:∃z,H1 d=some z:=by
     rcases hd with r | r
     ·exact⟨_,r ▸ ec⟩
     ·exact⟨_,r⟩
  obtain⟨z,hz⟩:=tr
  obtain⟨o1,e1,e2⟩:=trk d z hz
  have:u=o1:=Option.some.inj (q'.symm.trans e1)
  rw[this]
  exact x1.1 d o1 e2
 ·obtain⟨o1,e1,e2⟩:=trk b u eb
  exact⟨o1,x1.1 b o1 e2,e2⟩
theorem raise1 {P:Program}{w:World}{K:W.Frag}{mg:Str -> Option Value}{base:Heap}{N:List Str}{qual:Str}{scope:Scope}{f:Addr}{cd:Value}{A:Around}{outer:List Env}{s:Shared}{H:Hp}{E:XK}{pins:List (Addr × Obj)}{σ:St}{H1:Hp}{s1:Shared}{h':Heap}{e:Addr}{cls:Value}{args:List Value}
    (I:Inv (cxOf (CX1 P w) P w K mg base N qual scope f cd A outer s H E) pins σ H1 s1) (hx:Heap.MadeExcOf s1.heap h' e cls args) (q:E cls none H1) :
    (cxOf (CX1 P w) P w K mg base N qual scope f cd A outer s H E).xe (.ref e) { s1 with heap:=h' }:=by
 obtain⟨t,ge,_,_⟩:=hx.there
 refine raiseG (s1:={ s1 with heap:=h' }) (I.kept (t':=s1.toks) hx.keeps) ?_ ge rfl rfl ?_ q
 ·cases z:H1 e with
  | none=>rfl
  | some u =>
   obtain⟨o,ho⟩:=ObjOk.obj (I.hok e u z)
   rw[hx.new] at ho;cases ho
 ·cases z:s.heap.get? e with
  | none=>rfl
  | some o =>
   obtain⟨o',e'⟩:=I.base.there e o z (by intro y;cases y)
   rw[hx.new] at e';cases e'
end L2
namespace L2
open PySem PySem.Spec PyProof.Rows
def tRaise (E:XK) (C:Addr) (ta:TA):TS:=fun _ σ H=>ta σ H fun vs H1=>vs.length<=sizeLine/\E (.ref C) none H1
theorem ps_raise1 {P:Program}{w:World}{K:W.Frag}{mg:Str->Option Value}{base:Heap}{N:List Str}{qual:Str}{scope:Scope}{f:Addr}{cd:Value}{A:Around}{outer:List Env}{s:Shared}{H:Hp}{E:XK}
    {x:Str} {C:Addr} {bm bmN:List Value} {B Bn newId nid initId inN:String} {np cpos pos:Pos} {e₀:Expr} {rest:List Expr} {ta:TA} (O:OwnCls x C bm newId mg base) (Fn:ExcBaseFacts Bn newId inN bmN) (hBn:bm.contains (.type Bn)=true) (FB:ExcBaseFacts B nid initId bm)
    (hg:Gl (cxOf (CX1 P w) P w K mg base N qual scope f cd A outer s H E) x) (ha:PA (cxOf (CX1 P w) P w K mg base N qual scope f cd A outer s H E) (e₀::rest) ta)
    (he:starEach (e₀::rest) (cxOf (CX1 P w) P w K mg base N qual scope f cd A outer s H E).env=(false,eval e₀ (cxOf (CX1 P w) P w K mg base N qual scope f cd A outer s H E).env)::starEach rest (cxOf (CX1 P w) P w K mg base N qual scope f cd A outer s H E).env:=by rfl)
    (hpl:(backTo cpos (starEach rest (cxOf (CX1 P w) P w K mg base N qual scope f cd A outer s H E).env)).any (·.1)=false:=by rfl) (hdb:(x==("__debug__":Str))=false:=by decide) :
    PS (cxOf (CX1 P w) P w K mg base N qual scope f cd A outer s H E) (.Raise (some (.Call (.Name x np) (e₀::rest) [] cpos)) none pos) (tRaise E C ta):=by
 intro pins s1 σ H1 D I h
 obtain⟨tl,Nn,nm,q,bs,hdct,sn,sub,ab,col,dd,k0,k1,k2,k3,k5,mN,hC,hN,hni,T⟩:=O.obj
 refine wpAny_Raise_call_subU (C:=C) (nm:=nm) (q:=q) (N:=Nn) (bs:=bs) (bm:=tl) (hdct:=hdct) (sn:=sn) (sub:=sub) (ab:=ab) (col:=col) (dd:=dd) (k0:=k0) (k1:=k1) (k2:=k2) (k3:=k3) (k5:=k5)
  Fn hBn FB (mN:=mN) (T.hasType FB.hasBase) (I.ok.hd rfl) (by rw[he];show (false||_)=false;rw[Bool.false_or];exact hpl) hni (ld_glob I hg O.bound ?_ hdb)
 refine⟨rfl,?_⟩
 rw[he]
 have key:=ha cpos pins s1 σ H1 _ I h
 rw[he] at key
 refine Calls.evalArgs_plain (thn key fun us s2 hh=>?_)
 obtain⟨vs,H2,I2,r,hl,q2⟩:=hh
 have bk:=I2.bk
 refine⟨rfl,by rw[<- r.length];exact hl,bk _ _ hC,hN.keeps bk,T.keeps bk,fun h' e hm=>raise1 I2 hm q2⟩
end L2
namespace L2
open PySem PySem.Spec PyProof.Rows
section
variable {M:Model}{A:Around}{E:Value->Shared->Prop}{nm q nm' q':Str}{C N D N':Addr}{bs bm bs' bm':List Value}{hdct hdct':Bool}{sn sn':List Str}{sub sub':List Value}{ab ab':Bool}{col col':Option Bool}{dd dd':Option Addr}{k0 k1 k2 k3 k5 j0 j1 j2 j3 j5:Option Value}{newId newId':String}
theorem matches_own {g:Array GenState}{d:Drawn}{t:Nat}{os:OsState}{Q:Bool -> Shared -> Prop}
    (hC:h.get? C=some (excClassObj nm q C N bs bm hdct sn sub ab col dd k0 k1 k2 k3 k5 newId)) (he:h.get? e=some oe) (hcls:oe.cls=.ref C)
    (hD:h.get? D=some (excClassObj nm' q' D N' bs' bm' hdct' sn' sub' ab' col' dd' j0 j1 j2 j3 j5 newId')) (hb:bm'.contains (.type "BaseException")=true)
    (hin:(Value.ref C::bm).contains (.ref D)=true) (hq:Q true ⟨h,g,d,t,os⟩):wpAny M A (excMatches (.ref e) (.ref D)) Q E ⟨h,g,d,t,os⟩:=by
 have hcB:(Value.ref D::bm').contains (.type "BaseException")=true:=by rw[List.contains_cons,hb,Bool.or_true]
 have f:=tc_notTuple
 unfold excMatches
 repeat first
  | (with_reducible refine wpAny_loadPart_at he ?_
     rw[hcls])
  | with_reducible refine wpAny_loadPart_at hD ?_
  | (with_reducible refine wpAny_isSubtype_exc hD ?_
     rw[hcB])
  | (with_reducible refine wpAny_isSubtype_exc hC ?_
     rw[hin])
  | wp_step
 exact hq
end
theorem inv_fly {X:Cx}{pins:List (Addr × Obj)}{σ:St}{H1 H':Hp}{s1 s':Shared}{B h5:Heap}{a:Addr}{cls fz:Value}{dd:Option Addr}(I:Inv X pins σ H1 s1) (hst:X.stack=X.env :: X.outer) (hfr:X.env.frame=some X.env.locals)
    (os:s'.os=s1.os) (bare:AllBare s'.gens) (un:Un (frs X.stack) [] H1 H' s1.heap s'.heap) (hok:HOk X.prog X.w H' s'.heap) (fl:XF B X.stack a cls dd fz h5) (sm:s'.heap.UpToSlots h5)
    (TB:∀b u,H' b=some u->∃o,s'.heap.get? b=some o/\B.get? b=some o) (KB:∀b o,s1.heap.get? b=some o->H1 b=none->b∉frs X.stack->B.get? b=some o) (AB:∀b o,s1.heap.get? b=some o->b∉frs X.stack->∃o',B.get? b=some o') :
    Inv X pins σ H' { s' with heap:=h5 }:=by
 obtain⟨hh,g,d,tk,os'⟩:=s'
 obtain rfl:os'=s1.os:=os
 have efr:frs X.stack=X.env.locals::X.fs:=by rw[hst];unfold frs;rw[List.filterMap_cons,hfr];rfl
 have nin:∀b,b≠X.env.locals->b∉X.fs->b∉frs X.stack:=fun b n1 n2 z=>by
  rw[efr] at z
  rcases List.mem_cons.mp z with r | r
  ·exact n1 r
  ·exact n2 r
 have inn:∀b,b∈X.fs->b∈frs X.stack:=fun b hb=>by rw[efr];exact List.mem_cons_of_mem _ hb
 have nof:∀ {b:Addr} {o:Obj},b∈frs X.stack->s1.heap.get? b=some o->∀vs,o.data≠.fields vs:=fun hb e vs=>by
  obtain⟨_,o1,g1,g2⟩:=I.stack.mem hb
  have:=Option.some.inj (g1.symm.trans e)
  exact this ▸ g2 vs
 have slot:∀b o,b∈frs X.stack->s1.heap.get? b=some o->H1 b=none->∃sl,h5.get? b=some { o with slots:=sl }:=fun b o hb e n=>by
  obtain⟨sl,e1⟩:=un.slot b o e n hb (by intro z;cases z)
  obtain⟨sl2,e2⟩:=sm b _ e1 (fun vs z=>nof hb e vs z)
  exact⟨sl2,e2⟩
 show Inv X pins σ H' { s1 with heap:=h5,gens:=g,drawn:=d,toks:=tk }
 refine Inv.step (s:=s1) (h':=h5) (g':=g) (d':=d) (t':=tk) (ch:=[]) I (fun b hb=>by cases hb) (fun b o n1 n2 _ e n=>fl.1 b o (KB b o e n (nin b n1 n2))) (fun b o _ hb _ e n=>slot b o (inn b hb) e n) (fun b o _ e n=>un.free b o e n (by intro z;cases z)) (fun b o _ e=>?_) un.tups un.frzs un.tbls (fun m hn=>?_) (fun c o ec=>(hok c o ec).stay (fun d u hd q'=>?_) (fun _ z=>z) fun _ _ z=>z) bare
 ·by_cases hb:b∈frs X.stack
  ·obtain⟨_,o1,g1,_⟩:=fl.2.2.1.mem hb
   exact⟨_,g1⟩
  ·obtain⟨o',e1⟩:=AB b o e hb
   exact⟨o',fl.1 b o' e1⟩
 ·obtain⟨o,es,ep,ho,hd,r⟩:=hn
  obtain⟨sl,e1⟩:=slot X.env.locals o (by rw[efr];simp) ho I.free
  exact⟨_,es,ep,e1,hd,r⟩
 ·have tr:∃z,H' d=some z:=by
     rcases hd with r | r
     ·exact⟨_,r ▸ ec⟩
     ·exact⟨_,r⟩
  obtain⟨z,hz⟩:=tr
  obtain⟨o1,e1,e2⟩:=TB d z hz
  have:u=o1:=Option.some.inj (q'.symm.trans e1)
  rw[this]
  exact fl.1 d o1 e2
end L2
namespace L2
open PySem PySem.Spec PyProof.Rows
abbrev Cx.mark (X:Cx) (e:Value) (E:Value->Shared->Prop):Cx:={ X with A:=X.A.mark (some e),calm:=false,xe:=E }
section
variable {X:Cx}{pins:List (Addr × Obj)}{σ:St}{H:Hp}{s:Shared}{e:Value}{E:Value->Shared->Prop}
theorem Cx.Ok.mark (ok:X.Ok):(X.mark e E).Ok :=
 ⟨ok.mod,ok.kind,ok.glob,ok.blt,ok.above,ok.inj,ok.has,ok.cab,fun z=>(by cases z),ok.frames,ok.stk,ok.exf,ok.bs,ok.bsz,ok.noex,ok.exfs,ok.funs,ok.frf⟩
theorem Inv.mark (I:Inv X pins σ H s):Inv (X.mark e E) pins σ H s:=⟨I.ok.mark,I.os,I.bare,I.base,I.loc,I.cell,I.free,I.freeC,I.pin,I.hok,I.len⟩
theorem Inv.unmark (ok:X.Ok) (I:Inv (X.mark e E) pins σ H s):Inv X pins σ H s:=⟨ok,I.os,I.bare,I.base,I.loc,I.cell,I.free,I.freeC,I.pin,I.hok,I.len⟩
theorem unname (I:Inv X pins σ H s) (hN:X.N.Nodup) (hi:X.N[i]? = some n) (hk:X.env.kindOf n=some .local)
    (h:∀s',Inv X pins (σ.set i none) H s'->Q () s'):wpAny M A (do bindName X.env n .none;unbindBehindTheSuite X.env n pos) Q E s:=by
 obtain⟨m,hn,hl⟩:=id I.loc
 have hcls:(X.env.scope.kind==.class||(X.env.scope.kind==.module&&X.env.locals != X.env.globals))=false:=by rw[I.ok.kind];rfl
 have hiσ:i<σ.length:=by rw[I.len];exact(List.getElem?_eq_some_iff.mp hi).1
 have cne:=I.cne
 refine wpAny_nameGoes_keeps hk hn hcls fun h' v hn' hs=>?_
 obtain⟨oL,_,_,hoL,_⟩:=id hn
 have tracked:HOk X.prog X.w H h':=fun b ob e=>by
  refine(I.hok b ob e).stay (fun c w' hc q=>(hs.2 c ?_).trans q) (fun _ q=>q) fun _ _ q=>q
  rintro rfl
  rcases hc with z | hc
  ·have:=I.free;rw[z] at this;rw[this] at e;cases e
  ·rw[I.free] at hc;cases hc
 refine h _ ⟨I.ok,I.os,I.bare,⟨fun b o e n hb hx=>?_,fun b o e n hb hx=>?_,I.base.free,fun b o e hx=>?_,I.base.tups,I.base.frzs,I.base.tbls⟩,⟨_,hn',fun j y v' e1 e2 e3=>?_⟩,fun y c e=>?_,I.free,I.freeC,fun p hp=>?_,tracked,by simpa using I.len⟩
 ·exact(hs.2 b (Nat.ne_of_lt (Nat.lt_of_lt_of_le (Heap.lt_size e) I.ok.above))).trans (I.base.keep b o e n hb hx)
 ·obtain⟨sl,e1⟩:=I.base.slot b o e n hb hx
  exact⟨sl,(hs.2 b (Nat.ne_of_lt (Nat.lt_of_lt_of_le (Heap.lt_size e) I.ok.above))).trans e1⟩
 ·obtain⟨o',e1⟩:=I.base.there b o e hx
  exact⟨o',(hs.2 b (Nat.ne_of_lt (Nat.lt_of_lt_of_le (Heap.lt_size e) I.ok.above))).trans e1⟩
 ·by_cases hj:j=i
  ·subst hj
   rw[List.getElem?_set_self hiσ] at e2
   cases e2
  ·rw[List.getElem?_set_ne (Ne.symm hj)] at e2
   obtain⟨u',r',q⟩:=hl j y v' e1 e2 e3
   refine⟨u',r',?_⟩
   rcases q with⟨k,e⟩ | ⟨k,c,e,z⟩
   ·refine .inl ⟨k,?_⟩
    have:y≠n:=fun e=>hj (nodup_ix hN e1 (e ▸ hi))
    simp[this,e]
   ·exact .inr ⟨k,c,e,z.sameBut hs (cne y c e)⟩
 ·obtain⟨w',z⟩:=I.cell y c e
  exact⟨w',z.sameBut hs (cne y c e)⟩
 ·obtain⟨e,n,ne,nf,d⟩:=I.pin p hp
  exact⟨(hs.2 p.1 ne).trans e,n,ne,nf,d⟩
theorem Inv.track (I1:Inv X pins σ1 H1 s1) (I:Inv X pins σ H s) (hn:s1.heap.get? a=none) (ha:H a=none) (new:ObjOk X.prog X.w (upd H a o) s.heap a o):Inv X pins σ (upd H a o) s := by
 have h0:∀ob,X.s₀.heap.get? a=some ob->a∈X.ex:=fun ob e=>by
  by_cases hx:a∈X.ex
  ·exact hx
  ·obtain⟨o',e'⟩:=I1.base.there a ob e hx
   rw[hn] at e';cases e'
 have ne:∀ {b:Addr} {u:HO},H b=some u->b≠a:=fun e z=>by rw[z,ha] at e;cases e
 have dif:∀ {b:Addr} {ob:Obj},s1.heap.get? b=some ob->b≠a:=fun e z=>by rw[z,hn] at e;cases e
 obtain⟨m1,hn1,_⟩:=id I1.loc
 obtain⟨oL,_,_,hoL,_⟩:=hn1
 refine⟨I.ok,I.os,I.bare,⟨I.base.keep,I.base.slot,fun b ob e n hx=>?_,I.base.there,fun b xs e=>?_,fun b x y e=>?_,fun b ps e=>?_⟩,I.loc,I.cell,?_,fun x c e=>?_,fun p hp=>?_,fun b u e=>?_,I.len⟩
 ·have:b≠a:=fun z=>hx (z ▸ h0 ob (z ▸ e))
  rw[upd_ne this];exact I.base.free b ob e n hx
 ·have z:=I.base.tups b xs e
  rw[upd_ne (ne z)];exact z
 ·have z:=I.base.frzs b x y e
  rw[upd_ne (ne z)];exact z
 ·obtain⟨more,z⟩:=I.base.tbls b ps e
  exact⟨more,by rw[upd_ne (ne z)];exact z⟩
 ·rw[upd_ne (dif hoL)];exact I.free
 ·obtain⟨v,oc,z,_⟩:=I1.cell x c e
  rw[upd_ne (dif z)];exact I.freeC x c e
 ·obtain⟨e1,n1,r⟩:=I.pin p hp
  obtain⟨e2,_⟩:=I1.pin p hp
  exact⟨e1,by rw[upd_ne (dif e2)];exact n1,r⟩
 ·by_cases hb:b=a
  ·subst hb;rw[upd_same] at e;cases e;exact new
  ·rw[upd_ne hb] at e
   exact(I.hok b u e).stay (fun _ _ _ z=>z) (fun c q=>by rw[upd_ne (ne q)];exact q) fun c xs q=>by rw[upd_ne (ne q)];exact q
end
def XAt (h:Heap) (C:Addr) (bm:List Value):Prop :=
 ∃nm q N bs hdct sn sub ab col dd k0 k1 k2 k3 k5 newId,h.get? C=some (excClassObj nm q C N bs bm hdct sn sub ab col dd k0 k1 k2 k3 k5 newId)
def xObj (a C:Addr) (dd:Option Addr):HO:=.ext fun h=>∃o,h.get? a=some o/\o.cls=.ref C/\o.dict=dd/\W.notCls o=true
end L2
namespace L2
open PySem PySem.Spec PyProof.Rows
section
open PySem.W PySem.Calls Builtin Builtin.ObjectAttr Builtin.Getset_descriptor
structure XFacts (K:Frag) (C:Addr):Prop where
 ga:findIn K (.ref C) "__getattribute__"=some (some (.builtin "BaseException.__getattribute__"))
 gb:findIn K (.ref C) "__getattr__"=some none
 ha:findIn K (.ref C) "__class__"=some (some (.builtin "object.__class__"))
 hn:specialIn K (.builtin "object.__class__") "__get__"=some (some (.builtin "getset_descriptor.__get__"))
 ht:takesIn K (.builtin "object.__class__")=some true
 hm:mroIn K C (.type "object")=some true
 hb:mroIn K C (.type "BaseException")=some true
 cl:(clsIn K C).isSome=true
def XIs (x C:Addr) (h:Heap):Prop:=∃o,h.get? x=some o/\o.cls=.ref C
variable {K:Frag}{x C:Addr}{h:Heap}{M:Model}
theorem XIs.type (p:XIs x C h):Looks M h (typeOf (.ref x)) (.ref C):=by
 obtain⟨o,e,c⟩:=p
 exact c ▸ (Looks.ld e).andThen .now
theorem XFacts.found (Z:XFacts K C) (X:K.In h):Looks M h (find (.ref x) (.ref C) "__class__") (.bind (.builtin "getset_descriptor.__get__") (.builtin "object.__class__")):=by
 have l1:=looks_findIn (M:=M) X Z.ha
 have l2:Looks M h (getOf (some (.builtin "object.__class__"))) (some (.builtin "getset_descriptor.__get__")):=looks_specialIn X Z.hn
 have l3:Looks M h (dataDescriptor? (some (.builtin "object.__class__")) (some (.builtin "getset_descriptor.__get__"))) (some (.builtin "getset_descriptor.__get__",.builtin "object.__class__")):=(looks_takesIn (M:=M) X Z.ht).andThen .now
 exact l1.andThen (l2.andThen (l3.andThen (Looks.tag .now)))
variable {prog:Program}{w:World}{A:Around}{E:Value->Shared->Prop}{s:Shared}
theorem xe_get (Z:XFacts K C) (X:K.In s.heap) (p:XIs x C s.heap) (h:R (.ok (.ret (.ref C))) s) :
    codeAny (model prog w) A (.call (.builtin "getset_descriptor.__get__") ⟨[.builtin "object.__class__",.ref x,tp],[]⟩) R s:=by
 have q1:=p.type (M:=model prog w)
 have q2:=looks_mroIn (M:=model prog w) X Z.hm
 obtain⟨hh,g,dr,t,os⟩:=s
 refine codeAny_call_builtin KF.slot_gs.plain KF.entry_gs (KF.slot_gs.check _ _ _ _ _ _ _ _ KF.type_class (KF.args_gs _ _ _) ?_)
 simp only[Builtin.«getset_descriptor.__get__»,descrGet,dga_obj]
 refine wpAny_bind (wpAny_pure ?_)
 simp only[descrGetter,descrCheckInstance,descrNameAndClass,isInstance,KF.owner_class]
 repeat lk
 refine⟨Code.quiet_builtin _ (by decide +kernel),codeAny_builtin KF.entry_class ?_⟩
 simp only[Builtin.«object.__class__»,shownTypeOf]
 repeat lk
 exact h
theorem xe_ga (Z:XFacts K C) (X:K.In s.heap) (p:XIs x C s.heap) (h:R (.ok (.ret (.ref C))) s) :
    codeAny (model prog w) A (.call (.builtin "BaseException.__getattribute__") ⟨[.ref x,.str "__class__" tk],[]⟩) R s:=by
 have q1:=p.type (M:=model prog w)
 have q2:=looks_mroIn (M:=model prog w) X Z.hb
 have q3:=Z.found (M:=model prog w) (x:=x) X
 have hk:builtinKind "BaseException.__getattribute__"=some .slot:=by decide +kernel
 have hsp:splitId "BaseException.__getattribute__"=some ("BaseException","__getattribute__"):=by decide +kernel
 have ha:=PySem.F.args_bexc_ga (.ref x) (.str "__class__" tk)
 obtain⟨hh,g,dr,t,os⟩:=s
 refine codeAny_call_builtin PySem.F.attr_ValueError.ga.plain PySem.F.entry_bexc_ga ?_
 simp only[checkBuiltinCall,hk,hsp]
 refine wpAny_bind ?_
 unfold isInstance
 repeat lk
 show wpAny _ _ (run (.call (.builtin "getset_descriptor.__get__") ⟨[.builtin "object.__class__",.ref x,.ref C],[]⟩) none) _ _ _
 refine wpAny_run (xe_get Z X p ?_)
 exact wpAny_pure (wpAny_pure h)
theorem xe_class (Z:XFacts K C) (X:K.In s.heap) (p:XIs x C s.heap) (h:Q (some (.ref C)) { s with toks:=s.toks+1 }):wpAny (model prog w) A (getAttr? (.ref x) "__class__") Q E s:=by
 have q1:=p.type (M:=model prog w)
 have q2:=looks_findIn (M:=model prog w) X Z.ga
 have q4:=looks_findIn (M:=model prog w) X Z.gb
 have f3:=PySem.F.attr_ValueError.ga.bind (.ref x)
 obtain⟨hh,g,dr,t,os⟩:=s
 simp only[getAttr?,getAttrBy?,getAttrBy]
 refine wpAny_bind (wpAny_mkText (wpAny_bind (wpAny_attempt (wpAny_holding (wpAny_bind (q1.at (wpAny_bind (q2.at ?_))))))))
 show wpAny _ _ (getAttrByItsOwn _ _ _ _ _ _) _ _ _
 refine wpAny_bind ?_
 show wpAny _ _ (typeLookup (.ref C) "__getattr__") _ _ _
 refine q4.at (wpAny_bind (wpAny_attempt (wpAny_holding ?_)))
 show wpAny _ _ (boundAndCalled _ _ _) _ _ _
 unfold boundAndCalled
 rw[f3]
 refine wpAny_bind (wpAny_pure ?_)
 show wpAny _ _ (call (.builtin "BaseException.__getattribute__") [.ref x,.str "__class__" t]) _ _ _
 refine wpAny_call (xe_ga Z X p ?_)
 show wpAny _ _ (handedOut (Value.ref C)) _ _ _
 exact handed_on rfl (wpAny_pure h)
theorem kitx_exc (Z:XFacts K C):KitX K (.ref x) (.ref C) (XIs x C) where
 ty:=fun _ _ _ p=>p.type
 it:=fun M h X _=>by
  obtain⟨cd,hc⟩:=Option.isSome_iff_exists.mp Z.cl
  unfold clsIn at hc
  split at hc
  ·rename_i ho
   intro A' Q' E' s' k q
   unfold isType loadHead
   exact wpAny_bind (wpAny_loadPart (k _ _ (X _ _ ho)) (wpAny_pure q))
  ·cases hc
 ne:=fun h tp dd its n sl X htp=>by
  obtain⟨cd,hc⟩:=Option.isSome_iff_exists.mp Z.cl
  refine Bool.eq_false_iff.mpr fun q=>?_
  cases Value.ref.inj (beq_iff_eq.mp q)
  unfold clsIn at hc
  split at hc
  ·rename_i ho
   cases (X _ _ ho).symm.trans htp
  ·cases hc
 ca:=fun X p k=>xe_class Z X p k
end
section
variable {X:Cx}{pins:List (Addr × Obj)}{σ:St}{H:Hp}{s:Shared}{A:Around}{E:Value->Shared->Prop}{Q:Value->Shared->Prop}{e f:Expr}{t:TA}{p pos:Pos}
theorem xobj_is (I:Inv X pins σ H s) (h:H a=some (xObj a C dd)):XIs a C s.heap:=let ⟨o,e,c,_⟩:=(show ObjOk X.prog X.w H s.heap a (xObj a C dd) from I.hok a _ h).1;⟨o,e,c⟩
def rIsx (K:W.Frag):List V->Hp->VK->Prop:=fun xs H Q=>∃a C dd c u b,xs=[.ref a,c]/\H a=some (xObj a C dd)/\XFacts K C/\(∀v,RelV c v->v=u)/\W.kitOne K (.ref C) u=some b/\Q (.bl b) H
theorem call_isx:CallR X (.builtin "isinstance") (rIsx X.K):=by
 intro pins s σ H xs us Q I r h
 obtain⟨a,C,dd,c,u,b,rfl,ea,Z,ru,e,q⟩:=h
 obtain⟨v1,v2,rfl,r1,r2⟩:=vals2 r
 cases r1
 cases ru v2 r2
 exact W.kia_one (kitx_exc Z) I.kIn (xobj_is I ea) e (fun z=>nomatch z) fun tk=>⟨.bl b,H,I.tok tk,rfl,q⟩
theorem b_isx (K:W.Frag) (B:Blt X.mg) (ha:PA X [e,f] t) (hg:Gl X "isinstance":=by rfl) (he:starEach [e,f] X.env=(false,eval e X.env)::starEach [f] X.env:=by rfl) (hpl:(backTo pos (starEach [f] X.env)).any (·.1)=false:=by rfl) (hK:X.K=K:=by rfl) :
    PE X (.Call (.Name "isinstance" p) [e,f] [] pos) (tCB (rIsx K) t) :=
 hK ▸ pe_callB call_isx hg B.isinstance boot_isinstance ha (by decide) (by decide) he hpl
end
end L2
namespace L2
open PySem PySem.Spec PyProof.Rows
section
variable {P:Program}{w:World}{K:W.Frag}{mg:Str->Option Value}{base:Heap}
theorem Fun.okX {x qual:Str}{st:Stmt}{f:Addr}{fd:FuncData}{N ps:List Str}{k:Nat}{sp:Sp}(F:Fun K x qual st f fd) (S:FnScope N ps (defScope st)) (len:∀vs H Q E, sp vs H Q E -> vs.length=ps.length)
    (hbody:∀(cdv:Value) (A:Around) (outer:List Env) (s:Shared) (H:Hp) (vs:List V) (Q:VK) (E:XK),Room k (A.deeper (envOfC qual (defScope st) s.heap.objs.size f cdv))->sp vs H Q E ->
     ∃t,PSs (cxOf (CX1 P w) P w K mg base N qual (defScope st) f cdv A outer s H E) (defBody st) t/\t { nx:=fun _ H'=>Q .non H',rt:=Q } (start N vs) H):FnOk P w K mg base (CX1 P w) (k+1) f fd ps sp:=by
 obtain⟨oc,od,kV,doc,pm,an,cdv,ct,osl,rfl,lk,hcd⟩:=F.ex
 exact fn_of lk hcd S len fun A outer s H vs Q E hr hsp=>hbody cdv A outer s H vs Q E hr hsp
structure CalX (P:Program) (w:World) (K:W.Frag) (mg:Str->Option Value) (base:Heap) (k:Nat) (x:Str) (ps:List Str) (sp:Sp):Prop where
 ex:∃(f:Addr) (fd:FuncData),FnOk P w K mg base (CX1 P w) k f fd ps sp/\mg x=some (.ref f)/\W.keepIn K (.ref f)=true/\Binds K fd ps []
variable {x:Str}{C N:Addr}{bmB bm bs:List Value}{newId:String}{nm q:Str}{hdct:Bool}{sn:List Str}{sub:List Value}{ab:Bool}{col:Option Bool}{dd:Option Addr}{k0 k1 k2 k3 k5:Option Value}{h:Heap}
theorem own_mk (X:K.In h) (bound:mg x=some (.ref C)) (lk:K.lookup C=some (excClassObj nm q C N bs bm hdct sn sub ab col dd k0 k1 k2 k3 k5 newId)) (ok:W.nsOkIn K N=true) (ni:W.nsIn K N "__init__"=some none)
    (tl:W.tailIn K bmB bm=true):OwnCls x C bmB newId mg h :=
 ⟨bound,bm,N,nm,q,bs,hdct,sn,sub,ab,col,dd,k0,k1,k2,k3,k5,_,X _ _ lk,.of_isNs (W.isNs_of_in X ok),W.nsMap_none_of_in X ok ni,W.tail_of_in X tl⟩
theorem xat_mk (X:K.In h) (lk:K.lookup C=some (excClassObj nm q C N bs bm hdct sn sub ab col dd k0 k1 k2 k3 k5 newId)):XAt h C bm :=
 ⟨nm,q,N,bs,hdct,sn,sub,ab,col,dd,k0,k1,k2,k3,k5,newId,X _ _ lk⟩
end
end L2
namespace L2
open PySem PySem.Spec PyProof.Rows
structure Errs (K:W.Frag) (mg:Str->Option Value) (base:Heap) (ec:Str->Addr) (l c:List Str):Prop where
 b:∀x∈l,mg x=some (.ref (ec x))
 f:∀x∈c,XFacts K (ec x)
 ord:("OrderError":Str)∈c
 kit:∀x∈c,x≠"OrderError"->∀y∈l,W.kitOne K (.ref (ec x)) (.ref (ec y))=some (y==x||y==("OrderError":Str))
 val:∀x∈c,W.kitOne K (.ref (ec x)) (.type "ValueError")=some true
 at_:∀x∈c,∃bm,XAt base (ec x) bm/\bm.contains (.type "BaseException")=true/\(Value.ref (ec x)::bm).contains (.ref (ec "OrderError"))=true
 nv:mg "ValueError"=none
 own:∀x∈c,x∉(["NoText","Ring","NoUnit"]:List Str)->OwnCls x (ec x) [.type "ValueError",.type "Exception",.type "BaseException",.type "object"] "ValueError.__new__" mg base
theorem ps_raiseV {P:Program}{w:World}{K:W.Frag}{mg:Str->Option Value}{base:Heap}{ec:Str->Addr}{l c:List Str}{N:List Str}{qual:Str}{scope:Scope}{f:Addr}{cd:Value}{A:Around}{outer:List Env}{s:Shared}{H:Hp}{E:XK}
    {x:Str} {np cpos pos:Pos} {e₀:Expr} {rest:List Expr} {ta:TA} (Er:Errs K mg base ec l c) (hx:x∈c) (hi:x∉(["NoText","Ring","NoUnit"]:List Str))
    (hg:Gl (cxOf (CX1 P w) P w K mg base N qual scope f cd A outer s H E) x) (ha:PA (cxOf (CX1 P w) P w K mg base N qual scope f cd A outer s H E) (e₀::rest) ta)
    (he:starEach (e₀::rest) (cxOf (CX1 P w) P w K mg base N qual scope f cd A outer s H E).env=(false,eval e₀ (cxOf (CX1 P w) P w K mg base N qual scope f cd A outer s H E).env)::starEach rest (cxOf (CX1 P w) P w K mg base N qual scope f cd A outer s H E).env:=by rfl)
    (hpl:(backTo cpos (starEach rest (cxOf (CX1 P w) P w K mg base N qual scope f cd A outer s H E).env)).any (·.1)=false:=by rfl) (hdb:(x==("__debug__":Str))=false:=by decide) :
    PS (cxOf (CX1 P w) P w K mg base N qual scope f cd A outer s H E) (.Raise (some (.Call (.Name x np) (e₀::rest) [] cpos)) none pos) (tRaise E (ec x) ta) :=
 ps_raise1 (Er.own x hx hi) PySem.F.excBase_ValueError (by decide) PySem.F.excBase_ValueError hg ha he hpl hdb
end L2
namespace L2
open PySem PySem.Spec PyProof.Rows
section
open PySem.W Builtin Builtin.ObjectAttr
variable {prog:Program}{w:World}{A:Around}{E:Value->Shared->Prop}{s:Shared}{K:Frag}{x C t:Addr}{f:Str}{v:Value}
end
end L2
namespace L2
open PySem PySem.Spec PyProof.Rows
section
open PySem.W PySem.Calls Builtin Builtin.ObjectAttr
variable {K:Frag}{x C:Addr}{h:Heap}{M:Model}{prog:Program}{w:World}{A:Around}{E:Value->Shared->Prop}{s:Shared}{ox od:Obj}{f:Str}{u:Value}
end
end L2
namespace L2
open PySem
theorem with_rest {R J:St->Hp->Prop}{G:Prop}(main:(∀σ H,J σ H->R σ H)->G) (rest:∀σ H,J σ H->R σ H):G:=main rest
end L2
namespace L2
open PySem PySem.Spec PyProof.Rows
def ecOf (ps:List (Str × Addr)) (x:Str):Addr:=(ps.lookup x).getD 0
theorem ecOf_at:∀ {ps:List (Str × Addr)}, (ps.map (·.1)).Nodup -> ∀p ∈ ps, ecOf ps p.1=p.2
 | [],_,p,h=>by cases h
 | q::ps,nd,p,h=>by
  rw[List.map_cons,List.nodup_cons] at nd
  unfold ecOf
  rcases List.mem_cons.mp h with rfl | h
  ·rw[List.lookup_cons];simp
  ·have ne:p.1≠q.1:=fun z=>nd.1 (z ▸ List.mem_map.mpr ⟨p,h,rfl⟩)
   have:(p.1==q.1)=false:=by simpa using ne
   rw[List.lookup_cons,this]
   exact ecOf_at nd.2 p h
theorem fa_nil {α:Type}{P:α->Prop}:∀x∈([]:List α),P x:=fun x h=>by cases h
theorem fa_cons {α:Type}{P:α->Prop}{a:α}{l:List α}(h:P a) (g:∀x∈l,P x):∀x∈a::l,P x:=fun x hx=>by
 rcases List.mem_cons.mp hx with rfl | hx
 ·exact h
 ·exact g x hx
variable {K:W.Frag}{mg:Str->Option Value}{base:Heap}
theorem errs_mk {ps cs:List (Str × Addr)}(nd:(ps.map (·.1)).Nodup) (sub:∀p∈cs,p∈ps) (b:∀p∈ps,mg p.1=some (.ref p.2)) (f:∀p∈cs,XFacts K p.2) (ord:("OrderError":Str)∈cs.map (·.1))
    (kit:∀p∈cs,p.1≠"OrderError"->∀q∈ps,W.kitOne K (.ref p.2) (.ref q.2)=some (q.1==p.1||q.1==("OrderError":Str))) (val:∀p∈cs,W.kitOne K (.ref p.2) (.type "ValueError")=some true)
    (at_:∀p∈cs,∃bm,XAt base p.2 bm/\bm.contains (.type "BaseException")=true/\(Value.ref p.2::bm).contains (.ref (ecOf ps "OrderError"))=true) (nv:mg "ValueError"=none)
    (own:∀p∈cs,p.1∉(["NoText","Ring","NoUnit"]:List Str)->OwnCls p.1 p.2 [.type "ValueError",.type "Exception",.type "BaseException",.type "object"] "ValueError.__new__" mg base):Errs K mg base (ecOf ps) (ps.map (·.1)) (cs.map (·.1)):=by
 have e:=ecOf_at nd
 have q:∀ {x:Str},x∈ps.map (·.1)->∃p∈ps,p.1=x:=fun h=>by obtain⟨p,hp,rfl⟩:=List.mem_map.mp h;exact⟨p,hp,rfl⟩
 have r:∀ {x:Str},x∈cs.map (·.1)->∃p∈cs,p.1=x:=fun h=>by obtain⟨p,hp,rfl⟩:=List.mem_map.mp h;exact⟨p,hp,rfl⟩
 refine⟨fun x hx=>?_,fun x hx=>?_,ord,fun x hx hn y hy=>?_,fun x hx=>?_,fun x hx=>?_,nv,fun x hx hn=>?_⟩
 ·obtain⟨p,hp,rfl⟩:=q hx
  rw[e p hp];exact b p hp
 ·obtain⟨p,hp,rfl⟩:=r hx
  rw[e p (sub p hp)];exact f p hp
 ·obtain⟨p,hp,rfl⟩:=r hx
  obtain⟨p2,hp2,rfl⟩:=q hy
  rw[e p (sub p hp),e p2 hp2];exact kit p hp hn p2 hp2
 ·obtain⟨p,hp,rfl⟩:=r hx
  rw[e p (sub p hp)];exact val p hp
 ·obtain⟨p,hp,rfl⟩:=r hx
  rw[e p (sub p hp)];exact at_ p hp
 ·obtain⟨p,hp,rfl⟩:=r hx
  rw[e p (sub p hp)];exact own p hp hn
end L2
namespace MG
variable {es:List (Nat × Nat)}{goal:Nat}
end MG
namespace MG
variable {es:List (Nat × Nat)}{n:Nat}{ks ls:List Nat}
end MG
namespace L2
open PySem PySem.Spec PyProof.Rows
def Cx.catch (X:Cx) (pins:List (Addr × Obj)) (σ:St) (E:XK):Cx:={ X with pn:=X.pn++pins,xe:=fun ev s'=>∃H1 s1,Inv X pins σ H1 s1/\CX1 X.prog X.w X.stack H1 s1 E ev s' }
section
variable {X:Cx}{pins pins':List (Addr × Obj)}{σ σ0:St}{H:Hp}{s:Shared}{E:XK}
theorem Cx.Ok.catch (ok:X.Ok):(X.catch pins σ0 E).Ok :=
 ⟨ok.mod,ok.kind,ok.glob,ok.blt,ok.above,ok.inj,ok.has,ok.cab,ok.hd,ok.frames,ok.stk,ok.exf,ok.bs,ok.bsz,ok.noex,ok.exfs,ok.funs,ok.frf⟩
theorem Inv.catch (I:Inv X pins σ H s):Inv (X.catch pins σ0 E) [] σ H s :=
 ⟨I.ok.catch,I.os,I.bare,I.base,I.loc,I.cell,I.free,I.freeC,fun p hp=>I.pin p (by rw[List.append_nil] at hp;exact hp),I.hok,I.len⟩
theorem Inv.ofCatch (ok:X.Ok) (I:Inv (X.catch pins σ0 E) pins' σ H s):Inv X pins σ H s :=
 ⟨ok,I.os,I.bare,I.base,I.loc,I.cell,I.free,I.freeC,fun p hp=>I.pin p (List.mem_append_left _ hp),I.hok,I.len⟩
theorem Inv.okC (I:Inv (X.catch pins σ0 E) pins' σ H s):X.Ok :=
 ⟨I.ok.mod,I.ok.kind,I.ok.glob,I.ok.blt,I.ok.above,I.ok.inj,I.ok.has,I.ok.cab,I.ok.hd,I.ok.frames,I.ok.stk,I.ok.exf,I.ok.bs,I.ok.bsz,I.ok.noex,I.ok.exfs,I.ok.funs,I.ok.frf⟩
def tCallT (σ0:St) (sp:Sp) (E:XK) (t:TA):TE:=fun σ H Q=>t σ H fun vs H1=>σ=σ0/\sp vs H1 Q E
theorem pe_calT (c:CalX X.prog X.w X.K X.mg X.base k x ps sp) (hr:Room k X.A) (hg:Gl X x) (ha:PA (X.catch pins σ0 E) (e::es) t)
    (he:starEach (e::es) X.env=(false,eval e X.env)::starEach es X.env:=by rfl) (hpl:(backTo pos (starEach es X.env)).any (·.1)=false:=by rfl) (hdb:(x==("__debug__":Str))=false:=by decide) :
    PE (X.catch pins σ0 E) (.Call (.Name x p) (e::es) [] pos) (tCallT σ0 sp E t):=by
 intro pins' s σ H Q I h
 obtain⟨f,fd,F,mf,kp,b⟩:=c.ex
 refine wpAny_Call_Name_kw (ld_glob (X:=X.catch pins σ0 E) I hg mf ?_ hdb)
 refine W.callWith_K (h₀:=X.base) I.ok.mod.kin kp (thn (ha pos pins' s σ H _ I h) fun us s1 ⟨vs,H1,I1,r,hσ,q⟩=>⟨I1.kIn,?_⟩) he hpl
 subst hσ
 have hl:(us++[]).length=ps.length:=by rw[List.append_nil,<- r.length];exact F.len _ _ _ _ q
 refine wpAny_call (codeAny_mono (F.run X.A X.stack s1 H1 ⟨us,[]⟩ (us++[]) vs Q E hr I1.env0 (b s1 us I1.kIn hl) (by rw[List.append_nil];exact r) q) fun r s' hq=>?_)
 cases r with
 | error ev=>exact⟨H1,s1,I1.ofCatch I.okC,hq⟩
 | ok fl =>
  cases fl with
  | ret u=>exact I1.after hq
  | next=>exact False.elim hq
  | brk=>exact False.elim hq
  | cont=>exact False.elim hq
def xHand (base:Heap) (Dc:Addr) (i:Nat) (th:TS) (D:Ends) (σ:St):XK:=fun cls dd H2=>∃C bm,cls=.ref C/\XAt base C bm/\(Value.ref C::bm).contains (.ref Dc)=true/\∀a,H2 a=none ->
    th { nx:=fun σ' H'=>D.nx (σ'.set i none) H',rt:=D.rt,bk:=fun σ' H'=>D.bk (σ'.set i none) H',ct:=fun σ' H'=>D.ct (σ'.set i none) H' } (σ.set i (some (.ref a))) (upd H2 a (xObj a C dd))
def tTryG (base:Heap) (tb:St->XK->TS) (Dc:Addr) (i:Nat) (th:TS):TS:=fun D σ H=>tb σ (xHand base Dc i th D σ) D σ H
theorem ps_tryG 
    (hb:∀pins σ E,PSs (X.catch pins σ E) body (tb σ E)) (hst:X.stack=X.env::X.outer) (hfr:X.env.frame=some X.env.locals) (hgD:Gl X Dn) (hmD:X.mg Dn=some (.ref Dc)) (hD:XAt X.base Dc bmD) (hDb:bmD.contains (.type "BaseException")=true)
    (hN:X.N.Nodup) (hi:X.N[i]? = some n) (hl:X.env.scope.names.lookup n=some .local) (hs:∀a xe,PSs (X.mark (.ref a) xe) (b₀::suite) th) (hdD:(Dn==("__debug__":Str))=false:=by decide) :
    PS X (.Try body [.ExceptHandler (some (.Name Dn q)) (some n) (b₀::suite) hpos] [] [] tpos) (tTryG X.base tb Dc i th):=by
 intro pins s σ H D I h
 refine wpAny_Try_except (wpAny_mono (hb pins σ _ [] s σ H D I.catch h) (fun fl s' hq=>?_) fun ev s' hq=>?_)
 ·have ok:=I.ok
  cases fl with
  | next =>
   obtain⟨σ',H',I',q'⟩:=hq
   exact wpAny_execs_nil ⟨σ',H',I'.ofCatch ok,q'⟩
  | brk =>
   obtain⟨σ',H',I',q'⟩:=hq
   exact⟨σ',H',I'.ofCatch ok,q'⟩
  | cont =>
   obtain⟨σ',H',I',q'⟩:=hq
   exact⟨σ',H',I'.ofCatch ok,q'⟩
  | ret u =>
   obtain⟨v,σ',H',I',r',q'⟩:=hq
   exact⟨v,σ',H',I'.ofCatch ok,r',q'⟩
 ·obtain⟨H1, s1, I1, a, cls, dq, B, H', rfl, os, bare, un, hok, fl, hna, TB, KB, AB, C, bm, rfl, hC, hin, hq2⟩ := hq
  have fl':XF B (X.env::X.outer) a (.ref C) dq .none s'.heap:=hst ▸ fl
  have ne1:s1.heap.get? a=none := by
   cases z:s1.heap.get? a with
   | none=>rfl
   | some ob =>
    by_cases hb:a∈frs X.stack
    ·obtain⟨_,o1,g1,g2⟩:=fl.2.2.1.mem hb
     obtain⟨oe,vs',he',hd'⟩:=fl.rec
     rw[g1] at he';cases he'
     exact absurd hd' (g2 vs')
    ·obtain⟨o',e'⟩:=AB a ob z hb
     have:=fl.2.1
     rw[e'] at this;cases this
  have hfrm:X.A.frames=some (X.env::X.outer):=hst ▸ I.ok.frames
  refine noteX hfrm hfr fl' fun h4 f4 sm4=>?_
  refine landX (s:={ s' with heap:=h4 }) f4 fun h5 f5 sm5=>?_
  have I5:Inv X pins σ H' { s' with heap:=h5 }:=inv_fly I1 hst hfr os bare un hok (hst ▸ f5) (sm4.trans sm5) TB KB AB
  refine wpAny_handleBy_cons (codeAny_handlers_test (ld_glob (X:=X.mark (.ref a) (fun _ _=>False)) I5.mark hgD hmD ?_ hdD)) (by intro z;cases z)
  obtain⟨oe,ge,gc,_⟩:=f5.there
  obtain⟨nm,qq,NN,bs,hdct,sn,sub,ab,col,dd,k0,k1,k2,k3,k5,newId,gC⟩:=hC
  obtain⟨nm',qq',NN',bs',hdct',sn',sub',ab',col',dd',j0,j1,j2,j3,j5,newId',gD⟩:=hD
  refine matches_own (I5.bk _ _ gC) ge gc (I5.bk _ _ gD) hDb hin (codeAny_handlers_suite_as (landX (s:={ s' with heap:=h5 }) f5 fun h6 f6 sm6=>?_))
  have I6:Inv X pins σ H' { s' with heap:=h6 }:=inv_fly I1 hst hfr os bare un hok (hst ▸ f6) ((sm4.trans sm5).trans sm6) TB KB AB
  obtain⟨o6,g6,c6,d6⟩:=f6.there
  have n6:W.notCls o6=true:=by
   obtain⟨o7,vs7,g7,k7⟩:=f6.rec
   have z7:=Option.some.inj (g7.symm.trans g6)
   rw[<- z7]
   unfold W.notCls
   rw[k7]
  have I7:Inv X pins σ (upd H' a (xObj a C dq)) { s' with heap:=h6 }:=Inv.track I1 I6 ne1 hna ⟨⟨o6,g6,c6,d6,n6⟩,⟨o6,g6⟩,fun h1 h2 ⟨o,e1,e2⟩ z=>⟨o,z o e1,e2⟩⟩
  refine store_ok (v:=.ref a) I7 hN hi (.inl hl) rfl (fun s8 I8=>?_) (.inr hl)
  refine wpAny_mono (hs a _ pins s8 _ _ _ I8.mark (hq2 a hna)) (fun fl s9 h9=>?_) fun ev s9 h9=>h9
  cases fl with
  | next =>
   obtain⟨σ',H9,I9,q9⟩:=h9
   exact unname (I9.unmark I.ok) hN hi hl fun s' I'=>⟨_,_,I',q9⟩
  | brk =>
   obtain⟨σ',H9,I9,q9⟩:=h9
   exact unname (I9.unmark I.ok) hN hi hl fun s' I'=>⟨_,_,I',q9⟩
  | cont =>
   obtain⟨σ',H9,I9,q9⟩:=h9
   exact unname (I9.unmark I.ok) hN hi hl fun s' I'=>⟨_,_,I',q9⟩
  | ret u =>
   obtain⟨v,σ',H9,I9,r9,q9⟩:=h9
   exact unname (I9.unmark I.ok) hN hi hl fun s' I'=>⟨v,_,_,I',r9,q9⟩
end
end L2
namespace L2
open PySem PySem.Spec PyProof.Rows PySem.W
def up1 (c:Nat):Nat:=if 97<=c/\c<=122 then c-32 else c
end L2
namespace L2
open PySem PySem.Spec PyProof.Rows
namespace SU
theorem entry_loop:entryFor table "set.update.loop"=some Builtin.«set.update.loop»:=entryFor_of_tree (by kernel_rfl)
theorem plain_loop:plainId "set.update.loop"=true:=by decide +kernel
end SU
end L2
namespace L2
open PySem PySem.Spec PyProof.Rows
def iSeq (K:W.Frag) (tl:TE):TI:=fun σ H R=>tl σ H fun x H1=>∃a,x=.ref a/\((∃xs,SqL K H1 a xs)/\R (Itl K a) H1∨(∃xs,SqT K H1 a xs)/\R (Itt K a) H1)
theorem pi_seqK (K:W.Frag) (hl:PE X l tl) (hK:X.K=K:=by rfl):PI X tg l (iSeq K tl):=by
 subst hK
 intro pins s σ H R I h
 refine thn (hl pins s σ H _ I h) fun v s1 ⟨x,H1,I1,r1,q1⟩=>?_
 obtain⟨a,e,q⟩:=q1
 subst e
 cases r1
 have fp:∀b∈[s1.heap.objs.size],FpOk X pins H1 b:=fun b hb=>by
  have e:b=s1.heap.objs.size:=by simpa using hb
  subst e
  exact I1.fpOk (Nat.le_refl _) (I1.hok.fresh (Nat.le_refl _))
 rcases q with⟨⟨xs,hq⟩,q⟩ | ⟨⟨xs,hq⟩,q⟩
 ·obtain⟨its,rv,p,hz⟩:=I1.list hq
  exact wpAny_pyIter_list p.isList ⟨s1.heap.objs.size,[s1.heap.objs.size],_,_,H1,rfl,I1.kept (t':=s1.toks) fun b o e=>Heap.get?_push_of_some _ e,turn_list a _,⟨_,Heap.get?_push_size _ rfl,rfl,rfl⟩,fp,q⟩
 ·obtain⟨its,rv,p,hz⟩:=I1.tuple hq
  exact wpAny_pyIter_tuple (show s1.heap.IsTuple a its.toArray from p) ⟨s1.heap.objs.size,[s1.heap.objs.size],_,_,H1,rfl,I1.kept (t':=s1.toks) fun b o e=>Heap.get?_push_of_some _ e,turn_tuple a _,⟨_,Heap.get?_push_size _ rfl,rfl,rfl⟩,fp,q⟩
theorem comp_seq {K:W.Frag}{k:Nat}{fr:List Nat}{g:TG}{tc:TT}{te:TE}{σ:St}{H1:Hp}{Q:VK}{a:Addr}(xs:List V) (Pv:Addr -> Nat -> List V -> St -> Hp -> Prop) (ha:SqA H1 a xs)
    (h:∀D,H1 D=none->Pv D 0 [] (inSt k fr σ) (upd H1 D (.lst []))/\(∀i acc σ' H',i<=xs.length->Pv D i acc σ' H'->H' D=some (.lst acc)->H' a=H1 a) /\
     (∀i acc σ' H' x,xs[i]? = some x->Pv D i acc σ' H'->H' D=some (.lst acc)->g x σ' H' fun σ2 H3=>tc σ2 H3 fun b H4 =>
      if b=true then te σ2 H4 fun y H5=>H5 D=some (.lst acc)/\acc.length<sizeLine/\Pv D (i+1) (acc++[y]) σ2 (upd H5 D (.lst (acc++[y]))) else H4 D=some (.lst acc)/\Pv D (i+1) acc σ2 H4) /\
     ∀acc σ' H',Pv D xs.length acc σ' H'->H' D=some (.lst acc)->Q (.ref D) H'):(∃xs,SqL K H1 a xs)/\tCompW k fr g tc te (Itl K a) σ H1 Q∨(∃xs,SqT K H1 a xs)/\tCompW k fr g tc te (Itt K a) σ H1 Q:=by
 rcases ha with ha | ha
 ·exact .inl ⟨⟨xs,.of ha⟩,comp_list xs Pv fun D hD=>let ⟨h0,h1,h2,h3⟩:=h D hD;⟨h0,fun i acc σ' H' hi p q=>.of ((h1 i acc σ' H' hi p q).trans ha),h2,h3⟩⟩
 ·exact .inr ⟨⟨xs,.of ha⟩,comp_tup xs Pv fun D hD=>let ⟨h0,h1,h2,h3⟩:=h D hD;⟨h0,fun i acc σ' H' hi p q=>.of ((h1 i acc σ' H' hi p q).trans ha),h2,h3⟩⟩
end L2
open PySem
namespace PySem.SeqAt
theorem tuple_indexAt (l:Addr) (items:Array Value) (n:Nat) (dd:Option Addr) (sl:Array (Option Value)) (x:Value) (e:Value -> Bool) (j:Nat) (hj:j<items.size)
    (hit:e items[j]=true) (hno:∀m (hm:m<items.size),m<j->e items[m]=false) :
    Meets (Builtin.«tuple.index» ⟨[.ref l,x],[]⟩)
     (fun A R s=>s.heap.get? l=some { cls:=.type "tuple",dict:=dd,data:=.seq items n,slots:=sl }/\(∀y,y∈items->EqAt A.in1 s y x (e y))/\R (.ok (.ret (.int j s.toks))) { s with toks:=s.toks+1 }) :=
 .of_wp fun prog w A R s h => by
  obtain⟨hp,g,d,tk,os⟩:=s;obtain⟨hl,he,h⟩:=h
  unfold Builtin.«tuple.index»
  simp only[Std.Legacy.Range.forIn_eq_forIn_range']
  wp_walk using wpAny_loadPart' hl,wpAny_forIn_list _ (fun rest b s'=>b.1=none/\s'=⟨hp,g,d,tk,os⟩/\∃i,i<=j/\rest=List.range' i (items.size-i)) _
  ·rintro i rest ⟨b1,b2⟩ s' ⟨hb,rfl,k,hk,hr⟩
   have hlt:0<items.size-k:=by omega
   obtain⟨m,hm⟩:∃m,items.size-k=m+1:=⟨_,(Nat.succ_pred_eq_of_pos hlt).symm⟩
   rw[hm,List.range'_succ] at hr
   obtain⟨rfl,rfl⟩:=List.cons.inj hr
   have hi:items[i]? = some (items[i]'(by omega)):=by simp
   rw[hi]
   refine wpAny_bind (he _ (Array.getElem_mem (by omega)) prog w _ _ ?_)
   by_cases q:i=j
   ·subst q
    rw[hit]
    wp_walk
    exact⟨_,rfl,h⟩
   ·rw[hno i (by omega) (by omega)]
    wp_walk
    refine⟨rfl,rfl,i+1,by omega,?_⟩
    rw[show items.size-(i+1)=m by omega]
  ·rintro⟨b1,b2⟩ s' ⟨hb,rfl,k,hk,hr⟩
   exfalso
   have:=congrArg List.length hr
   simp at this
   omega
  ·refine⟨rfl,rfl,0,Nat.zero_le _,?_⟩
   rw[Std.Legacy.Range.size]
   simp
end PySem.SeqAt
namespace HT
open PySem PySem.Spec PyProof.Rows
variable {prog:Program}{w:World}{A:Around}{E:Value->Shared->Prop}{s:Shared}
theorem pair_back (ht:IsTup s.heap t #[a,b]) (hs:s.heap.IsSliceOf sl .none .none (.int (-1) k))
    (h:Q (.ref s.heap.objs.size) { s with heap:=s.heap.push { cls:=.type "tuple",data:=.seq #[b,a] } }):wpAny (model prog w) A (getItem (.ref t) (.ref sl)) Q E s:=by
 obtain⟨os,hos,hcs,hds⟩:=id hs
 have tS:s.TypeIs (.ref sl) "slice":=⟨os,hos,hcs⟩
 have fits:sizeOk (.seq #[b,a]):=by show (2:Nat)<=sizeLine;decide
 unfold getItem
 try with_reducible refine wpAny_holding ?_
 first | refine wpAny_bind (wpAny_pure ?_) | skip
 refine wpAny_bind (wpAny_sequenceKey ht.typeIs (by decide) (wpAny_bind (wpAny_callSpecial?_slot (name:=Str.ofString "__getitem__") ht.typeIs slot_tuple_getitem (wpAny_call_entry slot_tuple_getitem ht.typeIs entry_tuple_getitem ?_ (args_tuple_getitem _ _)))))
 show wpAny _ _ (Builtin.Tuple.tupleItemsOf (.ref t) >>= _) _ _ s
 refine wpAny_bind (tupleItemsOf_ ht (wpAny_bind (wpAny_typeOf tS ?_)))
 rw[if_pos (by decide)]
 refine wpAny_bind ?_
 unfold Builtin.Slice.sliceApplied Builtin.Slice.sliceFields
 refine wpAny_bind (wpAny_bind (wpAny_field hos hds (x:=.none) rfl (wpAny_bind (wpAny_field hos hds (x:=.none) rfl (wpAny_bind (wpAny_field hos hds (x:=.int (-1) k) rfl (wpAny_pure ?_)))))))
 refine wpAny_bind (slicePart_int ?_)
 show wpAny _ _ (if ((-1:Int)==0)=true then _ else _) _ _ s
 rw[if_neg (by decide)]
 refine wpAny_bind (slicePart_none (wpAny_bind (slicePart_none (wpAny_bind (wpAny_pure ?_)))))
 refine wpAny_pure ?_
 have lt:((-1:Int)<0)=True:=by simp
 have hp:Builtin.Slice.slicePlaces (((#[a,b]:Array Value).size:Int)-1) (-1) (-1)=2:=by show Builtin.Slice.slicePlaces (2-1) (-1) (-1)=2;decide
 simp only[Option.getD_some,lt,if_true]
 rw[hp]
 have e:(List.filterMap (fun k:Nat=>(#[a,b]:Array Value)[((1:Int)+(k:Int) * (-1)).toNat]?) (List.range 2)).toArray=#[b,a]:=rfl
 show wpAny _ _ (if ((1:Int)==0&&(-1:Int)==1&&(2:Nat)==2)=true then _ else (do let x ← Builtin.Tuple.tupleExact (List.filterMap (fun k:Nat=>(#[a,b]:Array Value)[((1:Int)+(k:Int) * (-1)).toNat]?) (List.range 2)).toArray;ret x)) _ _ s
 rw[if_neg (by decide),e]
 first
  | exact wpAny_bind (m:=Builtin.Tuple.tupleExact _) (wpAny_newObj_type (wpAny_pure ⟨_,rfl,wpAny_pure h⟩) fits)
  | exact wpAny_bind (m:=Builtin.Tuple.tupleExact _) (wpAny_newObj_type (wpAny_bind (wpAny_pure (wpAny_pure ⟨_,rfl,wpAny_pure h⟩))) fits)
  | exact wpAny_bind (wpAny_bind (m:=Builtin.Tuple.tupleExact _) (wpAny_newObj_type (wpAny_pure (wpAny_pure ⟨_,rfl,wpAny_pure h⟩)) fits))
  | exact wpAny_bind (wpAny_bind (m:=Builtin.Tuple.tupleExact _) (wpAny_newObj_type (wpAny_pure ⟨_,rfl,wpAny_pure h⟩) fits))
end HT
namespace L2
open PySem PySem.Spec PyProof.Rows
section
variable {X:Cx}
def rRevT (K:W.Frag) (te:TE) (ts:TO):TE:=fun σ H Q=>te σ H fun x H1=>ts σ H1 fun i H2=>∃a y z,i=some (-1)/\x=.ref a/\SqT K H2 a [y,z]/\∀l,H2 l=none->Q (.ref l) (upd H2 l (.tup [z,y]))
theorem pe_revT (K:W.Frag) {e st:Expr}{te:TE}{ts:TO}{p3 pos:Pos}(he:PE X e te) (hst:PO X (some st) ts) (hK:X.K=K:=by rfl):PE X (.Subscript e (.Slice none none (some st) p3) pos) (rRevT K te ts):=by
 subst hK
 intro pins s σ H Q I h
 refine Subscript_ (thn (he pins s σ H _ I h) fun v s1 ⟨x,H1,I1,r1,q1⟩=>wpAny_Slice ?_)
 rw[evalPart_none]
 refine wpAny_pure (wpAny_pure (thn (hst pins s1 σ H1 _ I1 q1) fun vs s2 ⟨i,H2,I2,pi,q2⟩=>?_))
 obtain⟨a,y,z,rfl,rfl,hx,q⟩:=q2
 cases r1
 obtain⟨k,rfl⟩:∃k,vs=.int (-1) k:=by
  cases pi with
  | int i t=>exact⟨_,rfl⟩
 have I4:Inv X pins σ H2 { s2 with heap:=s2.heap.push { cls:=.type "slice",data:=.fields #[.none,.none,.int (-1) k] } }:=I2.kept (t':=s2.toks) fun b ob q=>Heap.get?_push_of_some _ q
 obtain⟨its,r,ht,hz⟩:=I4.tuple hx
 obtain⟨u1,u2,rfl,r1,r2⟩:=vals2 r
 show wpAny (model X.prog X.w) X.A (subscriptTail e (.Slice none none (some st) p3) (.ref a) (.ref s2.heap.objs.size)) (EP X pins σ Q) X.xe { s2 with heap:=s2.heap.push { cls:=.type "slice",data:=.fields #[.none,.none,.int (-1) k] } }
 refine tail_any (ops:=[.ref a,.ref s2.heap.objs.size]) ht.typeIs slot_tuple_getitem.lookup ?_ (by with_unfolding_all rfl)
 refine HT.pair_back ht (Heap.IsSliceOf.new ..) ?_
 refine⟨.ref _,_,I4.laid (t':=s2.toks) (o:=.tup [z,y]) (fun b ob q=>Heap.get?_push_of_some _ q) (Nat.le_refl _) ?_,rfl,q _ (I4.hok.fresh (Nat.le_refl _))⟩
 exact⟨by show (2:Nat)<=sizeLine;decide,[u2,u1],.cons r2 (.cons r1 .nil),TupN.new _ _⟩
def rIndexT:V->List V->Hp->VK->Prop:=fun x vs H Q=>∃l xs y j z,x=.ref l/\vs=[y]/\H l=some (.tup xs)/\flatV y=true/\xs.all flatV=true/\xs[j]? = some z/\eqV z y=true/\(∀(m:Nat) z',m<j->xs[m]? = some z'->eqV z' y=false)/\Q (.int ((j:Nat):Int)) H
theorem args_tuple_index_2 (a b:Value):argsOk "tuple.index" ⟨[a,b],[]⟩:=by
 unfold argsOk;rw[signature?_of (id:="tuple.index") (n:=['x','e','d','n','i']) (o:=['e','l','p','u','t']) (by kernel_rfl) F.owner_tuple];kernel_rfl
theorem mt_indexT:MtR X "tuple.index" rIndexT:=by
 intro pins s σ H x vs v us Q I rx rv h
 obtain⟨l,xs,y,j,z,rfl,rfl,hH,fy,fs,hj,hz,hno,q⟩:=h
 cases rx
 obtain⟨u,rfl,ru⟩:=vals1 rv
 obtain⟨zz,its,r,⟨oc,od,odt,osl⟩,e,hc,n,hd,_⟩:=(show ObjOk X.prog X.w H s.heap l (.tup xs) from I.hok l _ hH)
 simp only at hc hd
 subst hc hd
 have hjl:=(List.getElem?_eq_some_iff.mp hj).1
 have hlen:=r.length
 have look:∀m (hm:m<its.length),∃z',xs[m]? = some z'/\eqU y its[m]=eqV z' y:=fun m hm=>by
  obtain⟨z',hz',rz⟩:=vals_get r (List.getElem?_eq_getElem hm)
  exact⟨z',hz',eqU_of rz (List.all_eq_true.mp fs z' (List.mem_of_getElem? hz'))⟩
 have hjs:j<its.toArray.size:=by simpa using (by omega:j<its.length)
 refine call_meets F.slot_tuple_index ⟨_,e,rfl⟩ F.entry_tuple_index (args_tuple_index_2 _ _) (SeqAt.tuple_indexAt l its.toArray n _ _ u (eqU y) j hjs ?_ ?_) ⟨e,fun w hw=>mem_eqAt ru fy r fs w (by simpa using hw),⟨.int _,H,?_,⟨_,rfl⟩,q⟩⟩
 ·obtain⟨z',h1,h2⟩:=look j (by omega)
  rw[hj] at h1
  cases h1
  simpa using h2.trans hz
 ·intro m hm hlt
  obtain⟨z',h1,h2⟩:=look m (by simpa using hm)
  simpa using h2.trans (hno m z' hlt h1)
 ·exact I.kept fun b o eb=>eb
end
theorem call_dictT (hc:X.calm=true) (hu:X.A.units+64<cLine) {xs:List V}{oi:Nat->HO}(I:Inv X pins σ H s) (hq:H p=some (.tup xs)) (h0:oi 0=.dK [])
    (hgo:∀(i:Nat) (x:V),xs[i]? = some x->∃b k v,x=V.ref b/\SqT X.K H b [k,v]/\∀l,H l=none->DPut (upd H l (oi i)) l k v (upd H l (oi (i+1)))) (q:∀l,H l=none->Q (.ref l) (upd H l (oi xs.length))) :
    wpAny (model X.prog X.w) X.A (call (.type "dict") [.ref p]) (EP X pins σ Q) X.xe s:=by
 refine callType_codes (Q₁:=fun obj s₁=>obj=.ref s.heap.objs.size/\s₁={ s with heap:=s.heap.push { cls:=.type "dict",data:=.dict #[] } }) F.kt_called_dict (F.kt_typeCall_dict_1 _) F.entry_dict_init (kt_code_dict_new _ ⟨rfl,rfl⟩) ?_
 rintro obj s₁ ⟨rfl,rfl⟩
 have hl:H s.heap.objs.size=none:=I.hok.fresh (Nat.le_refl _)
 have npl:p≠s.heap.objs.size:=ne_of_none hq hl
 have I1:Inv X pins σ (upd H s.heap.objs.size (oi 0)) { s with heap:=s.heap.push { cls:=.type "dict",data:=.dict #[] } }:=by
  refine I.laid (a:=s.heap.objs.size) (o:=oi 0) (t':=s.toks) (fun _ _ q=>Heap.get?_push_of_some _ q) (Nat.le_refl _) ?_
  rw[h0];exact dk_empty s.heap I.big
 have tD:(⟨s.heap.push { cls:=.type "dict",data:=.dict #[] },s.gens,s.drawn,s.toks,s.os⟩:Shared).TypeIs (.ref s.heap.objs.size) "dict":=⟨_,Heap.get?_push_size _ rfl,rfl⟩
 refine⟨tD,F.args_dict_init_2 _ _,?_⟩
 unfold Builtin.«dict.__init__» Builtin.Dict.selfAndRest
 refine wpAny_bind (wpAny_bind (wpAny_notOrdered_dict tD ?_))
 show wpAny _ _ (pure (s.heap.objs.size,[Value.ref p])) _ _ _
 refine wpAny_pure ?_
 show wpAny _ _ (Builtin.Dict.updateFrom "dict.__init__" s.heap.objs.size (.ref p) [] .none) _ _ _
 unfold Builtin.Dict.updateFrom
 have hA:X.A.in1.in1.handled=none:=I.ok.hd hc
 have hq1:upd H s.heap.objs.size (oi 0) p=some (.tup xs):=by rw[upd_ne npl];exact hq
 obtain⟨hz,its,rv,o,ho,hcl,n,hdt,hdn⟩:=(show ObjOk X.prog X.w _ _ p (.tup xs) from I1.hok p _ hq1)
 refine wpAny_bind (wpAny_typeOf (T:="tuple") ⟨o,ho,hcl⟩ ?_)
 rw[if_pos (by decide)]
 refine wpAny_bind (nokeys_tuple ho hcl hdt hdn hA fun h' tk kp=>?_)
 have I2:=I1.kept (h':=h') (t':=tk) kp
 refine wpAny_bind (wpAny_rule (wpAny_bind ?_))
 obtain⟨its2,rv2,pl2,hz2⟩:=I2.tuple (SqT.of hq1)
 refine wpAny_pyIter_tuple pl2 ?_
 refine wpAny_pure ⟨plainId_quiet DU.plain_loop _,?_⟩
 have sqi:∀i,SqT X.K (upd H s.heap.objs.size (oi i)) p xs:=fun i=>.of (by rw[upd_ne npl];exact hq)
 refine dict_loop (nm:="x") (tp:=default) (turn_tuple p h'.objs.size) hc hu s.heap.objs.size xs.length (fun i H'=>H'=upd H s.heap.objs.size (oi i)) (fun i H' hi e=>?_) (fun H' e=>?_) _ 0 0 _ _ rfl (Nat.zero_le _) (I2.kept (t':=tk) fun b o e=>Heap.get?_push_of_some _ e) (fun b hb=>?_) ⟨_,Heap.get?_push_size _ rfl,rfl,rfl⟩ rfl fun H' s' I' e=>?_
 ·subst e
  refine⟨⟨xs,xs[i],sqi i,List.getElem?_eq_getElem hi⟩,fun x H1 ⟨e1,e2⟩=>?_⟩
  subst e1
  obtain⟨b,k,v,ex,sq,dp⟩:=hgo i x (e2 xs (sqi i))
  exact⟨b,k,v,_,ex,sq.fresh hl,dp _ hl,rfl⟩
 ·subst e
  exact⟨xs,sqi _,Nat.le_refl _⟩
 ·have e:b=h'.objs.size:=by simpa using hb
  subst e
  exact I2.fpOk (Nat.le_refl _) (I2.hok.fresh (Nat.le_refl _))
 ·subst e
  exact⟨rfl,.ref _,_,I',rfl,q _ hl⟩
def rDicKT (K:W.Frag):List V->Hp->VK->Prop:=fun vs H Q=>∃p xs,∃ps:List (Key × V),vs=[.ref p]/\H p=some (.tup xs)/\xs.length=ps.length/\xs.length<=1000 /\
 (∀(i:Nat) (q:Key × V) (x:V),ps[i]? = some q->xs[i]? = some x->∃b,x=V.ref b/\SqT K H b [kV q.1,q.2])/\∀l,H l=none->Q (.ref l) (upd H l (.dK (mkK ps)))
section
variable {X:Cx}{p pos:Pos}{e:Expr}{t:TA}
theorem b_dicKT (K:W.Frag) (hc:X.calm=true) (hu:X.A.units+64<cLine) (B:Blt X.mg) (ha:PA X [e] t) (hg:Gl X "dict":=by rfl) (he:starEach [e] X.env=(false,eval e X.env)::starEach [] X.env:=by rfl) (hpl:(backTo pos (starEach [] X.env)).any (·.1)=false:=by rfl) (hK:X.K=K:=by rfl) :
    PE X (.Call (.Name "dict" p) [e] [] pos) (tCB (rDicKT K) t):=by
 subst hK
 refine pe_callTy (r:=rDicKT X.K) (fun pins s σ H xs us Q I r h=>?_) hg B.dict (show bootBuiltins "dict"=some (.type "dict") by decide +kernel) ha (by decide) (by decide) he hpl
 obtain⟨p,xs,ps,rfl,hq,hl,hz,hp,q⟩:=h
 obtain⟨u,rfl,ru⟩:=vals1 r
 cases ru
 have sz:1000<sizeLine:=by decide
 refine call_dictT hc hu (oi:=fun i=>.dK (mkK (ps.take i))) I hq rfl (fun i x hx=>?_) fun l hl'=>?_
 ·have hi:i<ps.length:=by rw[<- hl];exact(List.getElem?_eq_some_iff.mp hx).1
  obtain⟨b,ex,sq⟩:=hp i ps[i] x (List.getElem?_eq_getElem hi) hx
  refine⟨b,kV ps[i].1,ps[i].2,ex,sq,fun l hl'=>?_⟩
  have d:=DPut.k (H:=upd H l (.dK (mkK (ps.take i)))) (a:=l) (kvs:=mkK (ps.take i)) (k:=ps[i].1) (v:=ps[i].2) upd_same (by have:=mkK_le (ps.take i);rw[List.length_take] at this;omega)
  rw[upd_upd,<- mkK_take ps i ps[i] (List.getElem?_eq_getElem hi)] at d
  exact d
 ·rw[hl,List.take_length]
  exact q l hl'
end
end L2
namespace MG
variable {α:Type}
end MG
namespace L2
open PySem
abbrev Kn:=List (Str × List Str)
def kids (ks:Kn):List Str:=ks.flatMap (·.2)
def parK (ks:Kn) (u:Str):Str:=((ks.find? fun k=>decide (u∈k.2)).map (·.1)).getD ""
theorem nd_len {xs ys:List Str}(nd:xs.Nodup) (h:∀x∈xs,x∈ys):xs.length<=ys.length:=by
 induction xs generalizing ys with
 | nil=>exact Nat.zero_le _
 | cons x xs ih =>
  rw[List.nodup_cons] at nd
  have hx:=h x (by simp)
  have p:=(List.perm_cons_erase hx).length_eq
  rw[List.length_cons] at p ⊢
  have:=ih (ys:=ys.erase x) nd.2 fun z hz=>(List.mem_erase_of_ne (fun q:z=x=>nd.1 (q ▸ hz))).mpr (h z (List.mem_cons_of_mem _ hz))
  omega
structure Tre (us:List Str) (ks:Kn):Prop where
 perm:(kids ks).Perm us
 nd:us.Nodup
 nm:∀u∈us,Nm u
 len:us.length<=60
 top:("":Str)∈ks.map (·.1)
 kn:(ks.map (·.1)).Nodup
 sub:∀k∈ks,k.1=""∨k.1∈us
 up:∀k∈ks,∀u∈k.2,k.1=""∨MG.ix us k.1<MG.ix us u
section
variable {us:List Str}{ks:Kn}
theorem Tre.knd (T:Tre us ks):(kids ks).Nodup:=T.perm.nodup_iff.mpr T.nd
theorem Tre.has (T:Tre us ks) (h:u∈us):∃k∈ks,u∈k.2:=by
 have:=T.perm.mem_iff.mpr h
 exact List.mem_flatMap.mp this
theorem Tre.isIn (T:Tre us ks) (hk:k∈ks) (hu:u∈k.2):u∈us:=T.perm.mem_iff.mp (List.mem_flatMap.mpr ⟨k,hk,hu⟩)
theorem kids_uniq:∀ {ks:Kn}, (kids ks).Nodup -> ∀ {k k':Str × List Str}{u:Str}, k ∈ ks -> k' ∈ ks -> u ∈ k.2 -> u ∈ k'.2 -> k=k'
 | [],_,_,_,_,h,_,_,_=>by cases h
 | q :: ks, nd, k, k', u, h, h', hu, hu' => by
  have nd:(q.2++kids ks).Nodup:=nd
  rw[List.nodup_append] at nd
  obtain⟨_,n2,n3⟩:=nd
  rcases List.mem_cons.mp h with e | g
  ·rcases List.mem_cons.mp h' with e' | g'
   ·rw[e,e']
   ·subst e
    exact absurd rfl (n3 u hu u (List.mem_flatMap.mpr ⟨k',g',hu'⟩))
  ·rcases List.mem_cons.mp h' with e' | g'
   ·subst e'
    exact absurd rfl (n3 u hu' u (List.mem_flatMap.mpr ⟨k,g,hu⟩))
   ·exact kids_uniq n2 g g' hu hu'
theorem kn_uniq:∀ {ks:Kn}, (ks.map (·.1)).Nodup -> ∀ {k k':Str × List Str}, k ∈ ks -> k' ∈ ks -> k.1=k'.1 -> k=k'
 | [],_,_,_,h,_,_=>by cases h
 | q :: ks, nd, k, k', h, h', e0 => by
  rw[List.map_cons,List.nodup_cons] at nd
  rcases List.mem_cons.mp h with e | g
  ·rcases List.mem_cons.mp h' with e' | g'
   ·rw[e,e']
   ·subst e
    exact absurd (e0 ▸ List.mem_map.mpr ⟨k',g',rfl⟩) nd.1
  ·rcases List.mem_cons.mp h' with e' | g'
   ·subst e'
    exact absurd (e0 ▸ List.mem_map.mpr ⟨k,g,rfl⟩) nd.1
   ·exact kn_uniq nd.2 g g' e0
theorem Tre.par (T:Tre us ks) (hk:k∈ks) (hu:u∈k.2):parK ks u=k.1:=by
 unfold parK
 cases q:ks.find? fun k=>decide (u∈k.2) with
 | none =>
  have:=List.find?_eq_none.mp q k hk
  exact absurd (decide_eq_true hu) this
 | some k' =>
  have h1:=List.find?_some q
  have h2:=List.mem_of_find?_eq_some q
  rw[kids_uniq T.knd hk h2 hu (of_decide_eq_true h1)];rfl
theorem Tre.par_in (T:Tre us ks) (h:u∈us):(parK ks u=""∨parK ks u∈us)/\parK ks u∈ks.map (·.1):=by
 obtain⟨k,hk,hu⟩:=T.has h
 rw[T.par hk hu]
 exact⟨T.sub k hk,List.mem_map.mpr ⟨k,hk,rfl⟩⟩
theorem Tre.kid (T:Tre us ks) (h:u∈us) (hk:(parK ks u,c)∈ks):u∈c:=by
 obtain⟨k,hk',hu⟩:=T.has h
 rw[T.par hk' hu] at hk
 have:k=(k.1,c):=kn_uniq T.kn hk' hk rfl
 rw[this] at hu;exact hu
theorem Tre.few (T:Tre us ks):ks.length<=61:=by
 have:=nd_len (ys:=""::us) T.kn fun x hx=>by
  obtain⟨k,hk,rfl⟩:=List.mem_map.mp hx
  rcases T.sub k hk with q | q
  ·rw[q];simp
  ·exact List.mem_cons_of_mem _ q
 rw[List.length_map,List.length_cons] at this
 have:=T.len
 omega
def rkU (us:List Str) (u:Str):Nat:=if u="" then 0 else MG.ix us u+1
theorem Tre.nn (T:Tre us ks) (h:u∈us):u≠"":=fun z=>by
 have:=(T.nm u h).1
 rw[z] at this
 exact absurd this (by decide)
theorem Tre.rk (T:Tre us ks) (h:u∈us):rkU us (parK ks u)<rkU us u:=by
 obtain⟨k,hk,hu⟩:=T.has h
 rw[T.par hk hu]
 unfold rkU
 rw[if_neg (T.nn h)]
 rcases T.up k hk u hu with q | q
 ·rw[if_pos q];omega
 ·split
  ·omega
  ·omega
theorem Tre.rk60 (T:Tre us ks) (h:u∈us):rkU us u<=60:=by
 unfold rkU
 rw[if_neg (T.nn h)]
 have:=MG.ix_lt h
 have:=T.len
 omega
def linN (par:Str->Str):Nat->Str->List Str
 | 0,_=>[]
 | n+1,u=>if u="" then [] else linN par n (par u)++[u]
theorem Tre.stable (T:Tre us ks):∀(n m:Nat) (u:Str), u="" ∨ u ∈ us -> rkU us u<n -> rkU us u<m -> linN (parK ks) n u=linN (parK ks) m u
 | 0,_,_,_,h,_=>absurd h (Nat.not_lt_zero _)
 | _,0,_,_,_,h=>absurd h (Nat.not_lt_zero _)
 | n+1,m+1,u,hu,h1,h2=>by
  show (if u="" then [] else linN (parK ks) n (parK ks u)++[u])=(if u="" then [] else linN (parK ks) m (parK ks u)++[u])
  by_cases q:u=""
  ·rw[if_pos q,if_pos q]
  ·have hu:u∈us:=hu.resolve_left q
   have:=T.rk hu
   rw[if_neg q,if_neg q,T.stable n m (parK ks u) (T.par_in hu).1 (by omega) (by omega)]
def lin (ks:Kn) (u:Str):List Str:=linN (parK ks) 100 u
theorem lin_top:lin ks ""=[]:=rfl
theorem Tre.lin (T:Tre us ks) (h:u∈us):lin ks u=L2.lin ks (parK ks u)++[u]:=by
 have h1:=T.rk h
 have h2:=T.rk60 h
 show (if u="" then [] else linN (parK ks) 99 (parK ks u)++[u])=_
 rw[if_neg (T.nn h),T.stable 99 100 (parK ks u) (T.par_in h).1 (by omega) (by omega)];rfl
theorem Tre.lin_ind (T:Tre us ks) {P:Str -> Prop}(h0:P "") (h1:∀u ∈ us, P (parK ks u) -> P u):∀u:Str, u="" ∨ u ∈ us -> P u := by
 have go:∀n u, rkU us u<n -> u="" ∨ u ∈ us -> P u := by
  intro n
  induction n with
  | zero=>intro u h;omega
  | succ n ih =>
   intro u h hu
   by_cases q:u=""
   ·rw[q];exact h0
   ·have hu:=hu.resolve_left q
    have:=T.rk hu
    exact h1 u hu (ih _ (by omega) (T.par_in hu).1)
 intro u hu
 exact go _ u (Nat.lt_succ_self _) hu
theorem Tre.lin_in (T:Tre us ks):∀u:Str,u=""∨u∈us->∀z∈L2.lin ks u,z∈us:=by
 refine T.lin_ind (P:=fun u=>∀z∈L2.lin ks u,z∈us) (fun z hz=>by cases hz) fun u hu ih z hz=>?_
 rw[T.lin hu] at hz
 rcases List.mem_append.mp hz with q | q
 ·exact ih z q
 ·rw[List.mem_singleton.mp q];exact hu
theorem Tre.lin_len (T:Tre us ks):∀u:Str,u=""∨u∈us->(L2.lin ks u).length<=rkU us u:=by
 refine T.lin_ind (P:=fun u=>(L2.lin ks u).length<=rkU us u) (Nat.zero_le _) fun u hu ih=>?_
 rw[T.lin hu,List.length_append]
 have:=T.rk hu
 show _+1<=_
 omega
def Chn (par:Str->Str):Str->List Str->Prop
 | _,[]=>True
 | k,x::r=>par x=k/\Chn par x r
theorem Chn.snoc:∀ {k:Str}{l:List Str},Chn par k l->par u=(l.getLast?).getD k->Chn par k (l++[u])
 | k,[],_,h=>⟨h,trivial⟩
 | k,[x],c,h=>⟨c.1,h,trivial⟩
 | k,x::y::r,c,h=>⟨c.1,Chn.snoc (l:=y::r) c.2 (by rw[List.getLast?_cons_cons] at h;rw[h];cases q:(y::r).getLast? with | none=>simp at q | some z=>rfl)⟩
theorem Tre.lin_last (T:Tre us ks):∀u:Str,u=""∨u∈us->((L2.lin ks u).getLast?).getD ""=u:=by
 refine T.lin_ind (P:=fun u=>((L2.lin ks u).getLast?).getD ""=u) rfl fun u hu _=>?_
 rw[T.lin hu];simp
theorem Tre.lin_chn (T:Tre us ks):∀u:Str,u=""∨u∈us->Chn (parK ks) "" (L2.lin ks u):=by
 refine T.lin_ind (P:=fun u=>Chn (parK ks) "" (L2.lin ks u)) trivial fun u hu ih=>?_
 rw[T.lin hu]
 exact ih.snoc (T.lin_last _ (T.par_in hu).1).symm
def prt:Str->List Str->List Str->Option (Str × Str × Str)
 | k,x::a,y::b=>if x=y then prt x a b else some (k,x,y)
 | _,_,_=>none
theorem prt_some:∀ {k:Str}{a b:List Str}{q x y:Str}, Chn par k a -> Chn par k b -> prt k a b=some (q, x, y) -> par x=q /\ par y=q /\ x ∈ a /\ y ∈ b /\ x ≠ y
 | k,[],_,_,_,_,_,_,h=>by simp[prt] at h
 | k,_::_,[],_,_,_,_,_,h=>by simp[prt] at h
 | k,u::a,v::b,q,x,y,ca,cb,h=>by
  have h:(if u=v then prt u a b else some (k,u,v))=some (q,x,y):=h
  by_cases e:u=v
  ·rw[if_pos e] at h
   rw[<- e] at cb
   obtain⟨h1,h2,h3,h4,h5⟩:=prt_some ca.2 cb.2 h
   exact⟨h1,h2,List.mem_cons_of_mem _ h3,List.mem_cons_of_mem _ h4,h5⟩
  ·rw[if_neg e] at h
   injection h with h
   injection h with h1 h
   injection h with h2 h3
   subst h1 h2 h3
   exact⟨ca.1,cb.1,by simp,by simp,e⟩
theorem prt_swap:∀(k:Str) (a b:List Str), prt k b a=(prt k a b).map fun t => (t.1, t.2.2, t.2.1)
 | k,[],b=>by cases b <;> rfl
 | k,x::a,[]=>rfl
 | k,x::a,y::b=>by
  show (if y=x then prt y b a else some (k,y,x))=(if x=y then prt x a b else some (k,x,y)).map _
  by_cases e:x=y
  ·subst e
   rw[if_pos rfl,if_pos rfl]
   exact prt_swap x a b
  ·rw[if_neg (fun z=>e z.symm),if_neg e];rfl
def partO (ks:Kn) (u v:Str):Option (Str × Str × Str):=prt "" (lin ks u) (lin ks v)
theorem Tre.part (T:Tre us ks) (hu:u∈us) (hv:v∈us) (h:partO ks u v=some (q,x,y)):parK ks x=q/\parK ks y=q/\x∈us/\y∈us/\x≠y:=by
 obtain⟨h1,h2,h3,h4,h5⟩:=prt_some (T.lin_chn u (.inr hu)) (T.lin_chn v (.inr hv)) h
 exact⟨h1,h2,T.lin_in u (.inr hu) x h3,T.lin_in v (.inr hv) y h4,h5⟩
abbrev tp (a:List Str):List Str:=("":Str)::a
def Gon (a b:List Str) (i:Nat):Prop:=i=0∨(1<=i/\prt "" a b=prt ((tp a).getD (i-1) "") ((tp a).drop i) ((tp b).drop i))
theorem Gon.step (g:Gon a b i) (h1:(tp a)[i]? = some x) (h2:(tp b)[i]? = some x):Gon a b (i+1):=by
 right
 refine⟨by omega,?_⟩
 rcases g with rfl | ⟨hi,g⟩
 ·rfl
 ·have l1:=(List.getElem?_eq_some_iff.mp h1)
  have l2:=(List.getElem?_eq_some_iff.mp h2)
  have e:(tp a).getD (i+1-1) ""=x:=by rw[Nat.add_sub_cancel,List.getD_eq_getElem?_getD,h1];rfl
  rw[g,List.drop_eq_getElem_cons l1.1,List.drop_eq_getElem_cons l2.1,l1.2,l2.2,e]
  show (if x=x then _ else _)=_
  rw[if_pos rfl]
theorem Gon.stop (g:Gon a b i) (h:i=min (a.length+1) (b.length+1)):prt "" a b=none := by
 rcases g with rfl | ⟨hi,g⟩
 ·omega
 ·rw[g]
  by_cases q:a.length<=b.length
  ·rw[List.drop_of_length_le (l:=tp a) (by rw[List.length_cons];omega)];rfl
  ·rw[List.drop_of_length_le (l:=tp b) (by rw[List.length_cons];omega)]
   cases (tp a).drop i <;> rfl
theorem Gon.part (g:Gon a b i) (h1:(tp a)[i]? = some x) (h2:(tp b)[i]? = some y) (ne:x≠y):1<=i/\prt "" a b=some ((tp a).getD (i-1) "",x,y):=by
 rcases g with rfl | ⟨hi,g⟩
 ·exfalso
  injection h1 with h1
  injection h2 with h2
  exact ne (h1.symm.trans h2)
 ·have l1:=(List.getElem?_eq_some_iff.mp h1)
  have l2:=(List.getElem?_eq_some_iff.mp h2)
  refine⟨hi,?_⟩
  rw[g,List.drop_eq_getElem_cons l1.1,List.drop_eq_getElem_cons l2.1,l1.2,l2.2]
  show (if x=y then _ else _)=_
  rw[if_neg ne]
end
end L2
namespace L2
open PySem
def knotD (k:Str × List Str):PyData:=.tuple [.str k.1,.tuple (k.2.map PyData.str)]
def knotsD (ks:Kn):PyData:=.tuple (ks.map knotD)
def pairsT (ps:List (Str × Str)):PyData:=.tuple (ps.map pairD)
def houseD (ks:Kn) (ts ws wn:List (Str × Str)):PyData:=.tuple [knotsD ks,pairsT ts,pairsT ws,pairsT wn]
section
variable {H H':Hp}
theorem knot_at (h:Rep H v (knotD k)):∃ta la,v=.ref ta/\H ta=some (.tup [.str k.1,.ref la])/\H la=some (.tup (k.2.map V.str)):=by
 obtain⟨q,ws,rfl,hq,r0⟩:=Rep.tupI h
 obtain⟨y,ys,rfl,r1,r3⟩:=r0.consI
 obtain⟨z,zs,rfl,r2,r4⟩:=r3.consI
 have e1:=RepAll.nilI r4
 subst e1
 have e0:=Rep.strI r1
 subst e0
 obtain⟨b,xb,rfl,hb,rb⟩:=Rep.tupI r2
 have e2:=RepAll.strs rb
 subst e2
 exact⟨q,b,rfl,hq,hb⟩
theorem knot_get {refs:List V}{ks:Kn}(rp:RepAll H refs (ks.map knotD)) {i:Nat}{x:V}(hx:refs[i]? = some x):∃k ta la,ks[i]? = some k/\x=.ref ta/\H ta=some (.tup [.str k.1,.ref la])/\H la=some (.tup (k.2.map V.str)):=by
 obtain⟨d,hd,rd⟩:=rp.get hx
 rw[List.getElem?_map] at hd
 cases q:ks[i]? with
 | none=>rw[q] at hd;cases hd
 | some e =>
  rw[q] at hd
  have hd:knotD e=d:=Option.some.inj hd
  rw[<- hd] at rd
  obtain⟨ta,la,h1,h2,h3⟩:=knot_at rd
  exact⟨e,ta,la,rfl,h1,h2,h3⟩
theorem knots_at (h:Rep H v (knotsD ks)):∃a refs,v=.ref a/\H a=some (.tup refs)/\RepAll H refs (ks.map knotD):=Rep.tupI h
theorem pairsT_at (h:Rep H v (pairsT ps)):∃a refs,v=.ref a/\H a=some (.tup refs)/\RepAll H refs (ps.map pairD):=Rep.tupI h
theorem house_at (h:Rep H v (houseD ks ts ws wn)):∃q a b c d,v=.ref q/\H q=some (.tup [.ref a,.ref b,.ref c,.ref d])/\Rep H (.ref a) (knotsD ks)/\Rep H (.ref b) (pairsT ts)/\Rep H (.ref c) (pairsT ws)/\Rep H (.ref d) (pairsT wn):=by
 obtain⟨q,xs,rfl,hq,r0⟩:=Rep.tupI h
 obtain⟨y,ys,rfl,r1,r3⟩:=r0.consI
 obtain⟨z,zs,rfl,r2,r4⟩:=r3.consI
 obtain⟨z3,zs3,rfl,r5,r6⟩:=r4.consI
 obtain⟨z4,zs4,rfl,r7,r8⟩:=r6.consI
 have e1:=RepAll.nilI r8
 subst e1
 obtain⟨a,_,rfl,_⟩:=Rep.tupI r1
 obtain⟨b,_,rfl,_⟩:=Rep.tupI r2
 obtain⟨c,_,rfl,_⟩:=Rep.tupI r5
 obtain⟨d,_,rfl,_⟩:=Rep.tupI r7
 exact⟨q,a,b,c,d,rfl,hq,r1,r2,r5,r7⟩
theorem house_rep (hq:H q=some (.tup [.ref a,.ref b,.ref c,.ref d])) (r1:Rep H (.ref a) (knotsD ks)) (r2:Rep H (.ref b) (pairsT ts)) (r3:Rep H (.ref c) (pairsT ws)) (r4:Rep H (.ref d) (pairsT wn)):Rep H (.ref q) (houseD ks ts ws wn) :=
 .tup hq (.cons r1 (.cons r2 (.cons r3 (.cons r4 .nil))))
theorem tupBut (hp:H p=some (.lst ys)) (b:But p H H') (h:H a=some (.tup xs)):H' a=some (.tup xs):=b a _ (ne_of h hp (by intro z;cases z)) h
theorem repBut_pair (hp:H p=some (.lst ys)) (b:But p H H') (h:Rep H v (pairD e)):Rep H' v (pairD e):=by
 obtain⟨a,rfl,ha⟩:=pair_at h
 exact pair_rep (tupBut hp b ha)
theorem repBut_all (k:∀ {v:V}{e:α},Rep H v (f e)->Rep H' v (f e)):∀ {es:List α}{xs:List V},RepAll H xs (es.map f)->RepAll H' xs (es.map f)
 | [],xs,h=>by rw[RepAll.nilI h];exact .nil
 | e::es,xs,h=>by
  obtain⟨y,ys',rfl,a,c⟩:=RepAll.consI h
  exact .cons (k a) (repBut_all k c)
theorem repBut_pairs (hp:H p=some (.lst ys)) (b:But p H H') (h:Rep H v (pairsT ps)):Rep H' v (pairsT ps):=by
 obtain⟨a,xs,rfl,ha,r⟩:=pairsT_at h
 exact .tup (tupBut hp b ha) (repBut_all (repBut_pair hp b) r)
theorem repBut_knot (hp:H p=some (.lst ys)) (b:But p H H') (h:Rep H v (knotD k)):Rep H' v (knotD k):=by
 obtain⟨ta,la,rfl,h1,h2⟩:=knot_at h
 exact .tup (tupBut hp b h1) (.cons (.str _) (.cons (.tup (tupBut hp b h2) (RepAll.of_strs _)) .nil))
theorem repBut_knots (hp:H p=some (.lst ys)) (b:But p H H') (h:Rep H v (knotsD ks)):Rep H' v (knotsD ks):=by
 obtain⟨a,xs,rfl,ha,r⟩:=knots_at h
 exact .tup (tupBut hp b ha) (repBut_all (repBut_knot hp b) r)
theorem repBut_house (hp:H p=some (.lst ys)) (b:But p H H') (h:Rep H v (houseD ks ts ws wn)):Rep H' v (houseD ks ts ws wn):=by
 obtain⟨q,a,c,d,e,rfl,hq,r1,r2,r3,r4⟩:=house_at h
 exact house_rep (tupBut hp b hq) (repBut_knots hp b r1) (repBut_pairs hp b r2) (repBut_pairs hp b r3) (repBut_pairs hp b r4)
end
def ArK (kvs:List (Key × V)) (us:List Str) (ks:Kn):Prop:=∀u∈us,valV kvs (.inr u)=some (.str (parK ks u))
theorem kids_app (a b:Kn):kids (a++b)=kids a++kids b:=List.flatMap_append
theorem kids_take {ks:Kn}{i:Nat}{k:Str × List Str}(h:ks[i]? = some k):kids (ks.take (i+1))=kids (ks.take i)++k.2:=by
 rw[List.take_add_one,h,kids_app]
 show _++([k].flatMap (·.2))=_
 simp
structure ArN (H H':Hp) (d:Addr) (ks:Kn) (i j:Nat) (kvs:List (Key × V)):Prop where
 sm:Same H H'
 at_:H' d=some (.dK kvs)
 len:kvs.length<=(kids (ks.take i)).length+j
 old:∀k∈ks.take i,∀u∈k.2,valV kvs (.inr u)=some (.str k.1)
 cur:∀k,ks[i]? = some k->∀u∈k.2.take j,valV kvs (.inr u)=some (.str k.1)
section
variable {H H':Hp}{d:Addr}{ks:Kn}{i j:Nat}{kvs:List (Key × V)}
theorem ArN.put (h:ArN H H' d ks i j kvs) (hd:H d=none) (nd:(kids ks).Nodup) {k:Str × List Str}(hk:ks[i]? = some k) {u:Str}(hu:k.2[j]? = some u) :
    ArN H (upd H' d (.dK (putK kvs (.inr u) (.str k.1)))) d ks i (j+1) (putK kvs (.inr u) (.str k.1)):=by
 have nd2:(kids (ks.take i)++k.2).Nodup:=by
  rw[<- kids_take hk]
  have e:kids ks=kids (ks.take (i+1))++kids (ks.drop (i+1)):=by rw[<- kids_app,List.take_append_drop]
  rw[e] at nd
  exact(List.nodup_append.mp nd).1
 obtain⟨_,n2,n3⟩:=List.nodup_append.mp nd2
 have hum:=List.mem_of_getElem? hu
 refine⟨fun b o hb=>?_,upd_same,?_,fun k' hk' u' hu'=>?_,fun k' hk' u' hu'=>?_⟩
 ·rw[upd_ne (ne_of_none hb hd)];exact h.sm _ _ hb
 ·have:=length_putK kvs (.inr u) (V.str k.1)
  have:=h.len
  omega
 ·rw[valV_put,if_neg (fun z=>n3 u' (List.mem_flatMap.mpr ⟨k',hk',hu'⟩) u hum (by injection z))]
  exact h.old k' hk' u' hu'
 ·rw[hk] at hk'
  cases hk'
  rw[List.take_add_one,hu] at hu'
  rw[valV_put]
  by_cases q:u'=u
  ·subst q;rw[if_pos rfl]
  ·rw[if_neg (fun z=>q (by injection z))]
   rcases List.mem_append.mp hu' with z | z
   ·exact h.cur k hk u' z
   ·exact absurd (by simpa using z) q
theorem ArN.next (h:ArN H H' d ks i j kvs) {k:Str × List Str}(hk:ks[i]? = some k) (hj:j=k.2.length):ArN H H' d ks (i+1) 0 kvs := by
 subst hj
 refine⟨h.sm,h.at_,?_,fun k' hk' u hu=>?_,fun k' _ u hu=>by simp at hu⟩
 ·rw[kids_take hk,List.length_append];exact h.len
 ·rw[List.take_add_one,hk] at hk'
  rcases List.mem_append.mp hk' with z | z
  ·exact h.old k' z u hu
  ·have:k'=k:=by simpa using z
   subst this
   exact h.cur k' hk u (by rw[List.take_of_length_le (Nat.le_refl _)];exact hu)
theorem ArN.room (h:ArN H H' d ks i j kvs) {k:Str × List Str}(hk:ks[i]? = some k) (hj:j<k.2.length) (hl:(kids ks).length<=60):kvs.length<=60:=by
 have e:kids ks=kids (ks.take (i+1))++kids (ks.drop (i+1)):=by rw[<- kids_app,List.take_append_drop]
 rw[e,kids_take hk,List.length_append,List.length_append] at hl
 have:=h.len
 omega
theorem ArN.fin (h:ArN H H' d ks i 0 kvs) (T:Tre us ks) (hi:i=ks.length):ArK kvs us ks:=fun u hu=>by
 obtain⟨k,hk,hu'⟩:=T.has hu
 rw[T.par hk hu']
 subst hi
 exact h.old k (by rw[List.take_of_length_le (Nat.le_refl _)];exact hk) u hu'
end
def PrtV (H:Hp) (v:V):Option (Str × Str × Str)->Prop
 | none=>v=.non
 | some (k,x,y)=>∃t,v=.ref t/\H t=some (.tup [.str k,.str x,.str y])
end L2
namespace L2
open PySem
abbrev KL:=List (Addr × Addr × (Str × List Str))
structure KLs (H:Hp) (L p:Addr) (kl:KL):Prop where
 l:H L=some (.lst (kl.map fun q=>V.ref q.1))
 t:∀q∈kl,H q.1=some (.tup [.str q.2.2.1,.ref q.2.1])
 c:∀q∈kl,H q.2.1=some (.lst (List.map V.str q.2.2.2))
 nd:(kl.map fun q=>q.2.1).Nodup
 nl:∀q∈kl,q.2.1≠L/\q.2.1≠p
 lp:L≠p
abbrev ksOf (kl:KL):Kn:=kl.map fun q=>q.2.2
section
variable {H H':Hp}{L p:Addr}{kl:KL}
theorem KLs.draw (h:KLs H L p kl) (hp:H p=some (.lst ys)) (b:But p H H'):KLs H' L p kl :=
 ⟨b _ _ h.lp h.l,fun q hq=>tupBut hp b (h.t q hq),fun q hq=>b _ _ (h.nl q hq).2 (h.c q hq),h.nd,h.nl,h.lp⟩
theorem KLs.same (h:KLs H L p kl) (s:Same H H'):KLs H' L p kl:=⟨s _ _ h.l,fun q hq=>s _ _ (h.t q hq),fun q hq=>s _ _ (h.c q hq),h.nd,h.nl,h.lp⟩
theorem mem_set_ix {α:Type}{l:List α}{j:Nat}{b x:α}(h:x∈l.set j b):x=b∨∃m,m≠j/\l[m]? = some x:=by
 obtain⟨m,hm⟩:=List.getElem?_of_mem h
 by_cases q:m=j
 ·subst q
  rw[List.getElem?_set] at hm
  rw[if_pos rfl] at hm
  split at hm
  ·exact .inl (Option.some.inj hm).symm
  ·cases hm
 ·rw[List.getElem?_set_ne (Ne.symm q)] at hm
  exact .inr ⟨m,q,hm⟩
theorem set_same {α β:Type}{f:α->β}{l:List α}{j:Nat}{x y:α}(h:l[j]? = some x) (e:f y=f x):(l.set j y).map f=l.map f:=by
 rw[List.map_set,e]
 refine List.ext_getElem? fun m=>?_
 rw[List.getElem?_set]
 split
 ·rename_i q
  subst q
  have:=(List.getElem?_eq_some_iff.mp h).1
  rw[List.length_map,if_pos this,List.getElem?_map,h];rfl
 ·rfl
theorem KLs.put (h:KLs H L p kl) {j:Nat}{nm:Str}{ch ch':List Str}(hj:kl[j]? = some (ta, la, (nm, ch))) :
    KLs (upd H la (.lst (List.map V.str ch'))) L p (kl.set j (ta,la,(nm,ch'))):=by
 have hm:=List.mem_of_getElem? hj
 have nj:=h.nl _ hm
 have hc:=h.c _ hm
 have e1:((kl.set j (ta,la,(nm,ch'))).map fun q=>q.1)=kl.map fun q=>q.1:=set_same hj rfl
 have e2:((kl.set j (ta,la,(nm,ch'))).map fun q=>q.2.1)=kl.map fun q=>q.2.1:=set_same hj rfl
 refine⟨?_,fun q hq=>?_,fun q hq=>?_,by rw[e2];exact h.nd,fun q hq=>?_,h.lp⟩
 ·rw[upd_ne (Ne.symm nj.1),h.l]
  have:=congrArg (List.map V.ref) e1
  rw[List.map_map,List.map_map] at this
  exact congrArg (fun z=>some (HO.lst z)) this.symm
 ·rcases mem_set_ix hq with rfl | ⟨m,_,hm'⟩
  ·have:=h.t _ hm
   rw[upd_ne (ne_of this hc (by intro z;cases z))];exact this
  ·have:=h.t _ (List.mem_of_getElem? hm')
   rw[upd_ne (ne_of this hc (by intro z;cases z))];exact this
 ·rcases mem_set_ix hq with rfl | ⟨m, hmj, hm'⟩
  ·exact upd_same
  ·have hne:q.2.1≠la:=fun z=>by
      have h1:(kl.map fun q=>q.2.1)[m]? = some la:=by rw[List.getElem?_map,hm'];exact congrArg some z
      have h2:(kl.map fun q=>q.2.1)[j]? = some la:=by rw[List.getElem?_map,hj];rfl
      exact hmj ((List.getElem?_inj (List.getElem?_eq_some_iff.mp h1).1 h.nd).mp (h1.trans h2.symm))
   rw[upd_ne hne];exact h.c _ (List.mem_of_getElem? hm')
 ·rcases mem_set_ix hq with rfl | ⟨m,_,hm'⟩
  ·exact nj
  ·exact h.nl _ (List.mem_of_getElem? hm')
theorem ins_mem {α:Type}{l:List α}{k:Nat}{x y:α}(h:y∈l.take k++x::l.drop k):y=x∨y∈l:=by
 rcases List.mem_append.mp h with q | q
 ·exact .inr (List.mem_of_mem_take q)
 ·rcases List.mem_cons.mp q with q | q
  ·exact .inl q
  ·exact .inr (List.mem_of_mem_drop q)
theorem ins_perm' (l:List α) (k:Nat) (x:α):(l.take k++x::l.drop k).Perm (x::l):=by
 have:=List.perm_middle (a:=x) (l₁:=l.take k) (l₂:=l.drop k)
 rw[List.take_append_drop] at this
 exact this
theorem KLs.ins (h:KLs H L p kl) {k:Nat}{u:Str}(ht:H ta=some (.tup [.str u, .ref la])) (hl:H la=some (.lst [])) (hla:la ∉ kl.map fun q => q.2.1) (h1:la ≠ L) (h2:la ≠ p) :
    KLs (upd H L (.lst ((kl.map fun q=>V.ref q.1).take k++V.ref ta::(kl.map fun q=>V.ref q.1).drop k))) L p (kl.take k++(ta,la,(u,[]))::kl.drop k):=by
 refine⟨?_,fun q hq=>?_,fun q hq=>?_,?_,fun q hq=>?_,h.lp⟩
 ·rw[upd_same]
  simp[List.map_take,List.map_drop]
 ·rcases ins_mem hq with rfl | hq
  ·rw[upd_ne (ne_of ht h.l (by intro z;cases z))];exact ht
  ·have:=h.t q hq
   rw[upd_ne (ne_of this h.l (by intro z;cases z))];exact this
 ·rcases ins_mem hq with rfl | hq
  ·rw[upd_ne h1];exact hl
  ·rw[upd_ne (h.nl q hq).1];exact h.c q hq
 ·have p:=(ins_perm' kl k (ta,la,(u,[]))).map fun q:Addr × Addr × (Str × List Str)=>q.2.1
  refine p.nodup_iff.mpr ?_
  rw[List.map_cons,List.nodup_cons]
  exact⟨hla,h.nd⟩
 ·rcases ins_mem hq with rfl | hq
  ·exact⟨h1,h2⟩
  ·exact h.nl q hq
end
structure TrN (us:List Str) (i:Nat) (ks:Kn):Prop where
 perm:(kids ks).Perm (us.take i)
 top:("":Str)∈ks.map (·.1)
 kn:(ks.map (·.1)).Nodup
 sub:∀k∈ks,k.1=""∨k.1∈us.take i
 up:∀k∈ks,∀u∈k.2,k.1=""∨MG.ix us k.1<MG.ix us u
section
variable {us:List Str}{i:Nat}{ks:Kn}
theorem TrN.start:TrN us 0 [("",[])]:=⟨by show ([]:List Str).Perm _;rw[List.take_zero],by simp,by simp,fun k hk=>by rw[List.mem_singleton.mp hk];exact .inl rfl,fun k hk u hu=>by rw[List.mem_singleton.mp hk] at hu;cases hu⟩
theorem kids_set (pc:ch'.Perm (u::ch)):∀ {ks:Kn}{j:Nat},ks[j]? = some (nm,ch)->(kids (ks.set j (nm,ch'))).Perm (u::kids ks)
 | [],j,h=>by simp at h
 | k::ks,0,h=>by
  have h:k=(nm,ch):=by simpa using h
  subst h
  show (ch'++kids ks).Perm (u::(ch++kids ks))
  exact(pc.append_right _)
 | k::ks,j+1,h=>by
  have h:ks[j]? = some (nm,ch):=by simpa using h
  have ih:=kids_set pc (ks:=ks) (j:=j) h
  show (k.2++kids (ks.set j (nm,ch'))).Perm (u::(k.2++kids ks))
  exact(ih.append_left _).trans List.perm_middle
theorem TrN.step (h:TrN us i ks) (nd:us.Nodup) {u:Str}(hu:us[i]? = some u) {j:Nat}{nm:Str}{ch ch':List Str}(hj:ks[j]? = some (nm, ch)) (pc:ch'.Perm (u :: ch)):TrN us (i+1) (ks.set j (nm, ch')) := by
 have hi:=(List.getElem?_eq_some_iff.mp hu).1
 have tk:us.take (i+1)=us.take i++[u]:=by rw[List.take_add_one,hu];rfl
 have hm:=List.mem_of_getElem? hj
 have e1:((ks.set j (nm,ch')).map fun k=>k.1)=ks.map fun k=>k.1:=set_same hj rfl
 have ixu:MG.ix us u=i:=MG.ix_at nd hu
 have ixo:∀x∈us.take i,MG.ix us x<i:=fun x hx=>by
  obtain⟨m,hm⟩:=List.getElem?_of_mem hx
  have hml:=(List.getElem?_eq_some_iff.mp hm).1
  rw[List.length_take] at hml
  rw[List.getElem?_take_of_lt (by omega)] at hm
  rw[MG.ix_at nd hm];omega
 refine⟨?_,by rw[e1];exact h.top,by rw[e1];exact h.kn,fun k hk=>?_,fun k hk x hx=>?_⟩
 ·rw[tk]
  refine(kids_set (j:=j) pc hj).trans (((h.perm.cons u)).trans ?_)
  exact(List.perm_append_singleton u _).symm
 ·have:k.1∈ks.map fun k=>k.1:=by rw[<- e1];exact List.mem_map.mpr ⟨k,hk,rfl⟩
  obtain⟨k',hk',e⟩:=List.mem_map.mp this
  rw[<- e,tk]
  rcases h.sub k' hk' with q | q
  ·exact .inl q
  ·exact .inr (List.mem_append_left _ q)
 ·rcases mem_set_ix hk with rfl | ⟨m, _, hm'⟩
  ·rcases List.mem_cons.mp (pc.mem_iff.mp hx) with rfl | hx
   ·rcases h.sub _ hm with q | q
    ·exact .inl q
    ·right
     rw[ixu]
     exact ixo _ q
   ·exact h.up _ hm x hx
  ·exact h.up _ (List.mem_of_getElem? hm') x hx
theorem TrN.knot (h:TrN us (i+1) ks) (nd:us.Nodup) (nn:∀u ∈ us, u ≠ "") {u:Str}(hu:us[i]? = some u) (hnew:u ∉ ks.map (·.1)) (k:Nat):TrN us (i+1) (ks.take k ++ (u, []) :: ks.drop k) := by
 have hm:=List.mem_of_getElem? hu
 have pm:=ins_perm' ks k (u,([]:List Str))
 have pn:=pm.map fun k:Str × List Str=>k.1
 refine⟨?_,pn.mem_iff.mpr (List.mem_cons_of_mem _ h.top),pn.nodup_iff.mpr (by rw[List.map_cons,List.nodup_cons];exact⟨hnew,h.kn⟩),fun q hq=>?_,fun q hq x hx=>?_⟩
 ·have e:kids (ks.take k++(u,[])::ks.drop k)=kids ks:=by
     have a:kids ((u,([]:List Str))::ks.drop k)=kids (ks.drop k):=rfl
     rw[kids_app,a,<- kids_app,List.take_append_drop]
  rw[e];exact h.perm
 ·rcases ins_mem hq with rfl | hq
  ·right
   show u∈us.take (i+1)
   rw[List.take_add_one,hu];simp
  ·exact h.sub q hq
 ·rcases ins_mem hq with rfl | hq
  ·cases hx
  ·exact h.up q hq x hx
theorem TrN.fin (h:TrN us us.length ks) (nd:us.Nodup) (nm:∀u∈us,Nm u) (len:us.length<=60):Tre us ks :=
 ⟨by have:=h.perm;rwa [List.take_of_length_le (Nat.le_refl _)] at this,nd,nm,len,h.top,h.kn,fun k hk=>by have:=h.sub k hk;rwa [List.take_of_length_le (Nat.le_refl _)] at this,h.up⟩
end
end L2
namespace L2
open PySem
theorem knots_las:∀ {ks:Kn}{refs:List V}, RepAll H refs (ks.map knotD) -> ∃ls:List V, ls.length=ks.length /\ ∀(i:Nat) (k:Str × List Str), ks[i]? = some k -> ∃ta la, refs[i]? = some (.ref ta) /\ ls[i]? = some (.ref la) /\ H ta=some (.tup [.str k.1, .ref la]) /\ H la=some (.tup (k.2.map V.str))
 | [],refs,_=>⟨[],rfl,fun i k h=>by simp at h⟩
 | k::ks,refs,h=>by
  obtain⟨y,ys,rfl,r1,r2⟩:=RepAll.consI h
  obtain⟨ta,la,rfl,h1,h2⟩:=knot_at r1
  obtain⟨ls,hl,ih⟩:=knots_las r2
  refine⟨.ref la::ls,by rw[List.length_cons,List.length_cons,hl],fun i k' hk=>?_⟩
  cases i with
  | zero =>
   have:k=k':=by simpa using hk
   subst this
   exact⟨ta,la,rfl,rfl,h1,h2⟩
  | succ i=>exact ih i k' (by simpa using hk)
theorem zipK_len (xs:List Str) (ys:List V) (h:ys.length=xs.length):(zipK xs ys).length=xs.length:=by
 unfold zipK
 rw[List.length_zip,List.length_map]
 omega
theorem zipK_at {xs:List Str}{ys:List V}{i:Nat}{q:Key × V}(h:(zipK xs ys)[i]? = some q):∃x,xs[i]? = some x/\q.1=.inr x/\ys[i]? = some q.2:=by
 unfold zipK at h
 rw[List.getElem?_zip_eq_some,List.getElem?_map] at h
 cases e:xs[i]? with
 | none=>rw[e] at h;cases h.1
 | some x =>
  rw[e] at h
  exact⟨x,rfl,(Option.some.inj h.1).symm,h.2⟩
theorem dict_knots {us:List Str}(R:Rep H (.ref a) (knotsD ks)) (T:Tre us ks)
    (h:∀D dk,H D=none->(∀k∈ks,∃la,valV dk (.inr k.1)=some (.ref la)/\H la=some (.tup (k.2.map V.str)))->Q (.ref D) (upd H D (.dK dk))):rDicKT K [.ref a] H Q:=by
 obtain⟨a',refs,e0,ha,rp⟩:=knots_at R
 cases e0
 obtain⟨ls,hl,hat⟩:=knots_las rp
 have rlen:=rp.len
 rw[List.length_map] at rlen
 have few:=T.few
 have zl:(zipK (ks.map (·.1)) ls).length=ks.length:=by rw[zipK_len _ _ (by rw[List.length_map];exact hl),List.length_map]
 refine⟨a,refs,zipK (ks.map (·.1)) ls,rfl,ha,by rw[zl];exact rlen,by omega,fun i q x hq hx=>?_,fun D hD=>?_⟩
 ·obtain⟨nm,h1,h2,h3⟩:=zipK_at hq
  rw[List.getElem?_map] at h1
  cases e:ks[i]? with
  | none=>rw[e] at h1;cases h1
  | some k =>
   rw[e] at h1
   obtain⟨ta,la,g1,g2,g3,g4⟩:=hat i k e
   rw[g1] at hx
   rw[g2] at h3
   have ex:V.ref ta=x:=Option.some.inj hx
   have e3:V.ref la=q.2:=Option.some.inj h3
   have e1:k.1=nm:=Option.some.inj h1
   refine⟨ta,ex.symm,.of ?_⟩
   rw[h2,<- e3,<- e1];exact g3
 ·refine h D _ hD fun k hk=>?_
  obtain⟨i,hi⟩:=List.getElem?_of_mem hk
  obtain⟨ta,la,g1,g2,g3,g4⟩:=hat i k hi
  refine⟨la,?_,g4⟩
  rw[mkK_zip _ _ T.kn]
  exact valV_zip T.kn (by rw[List.getElem?_map,hi];rfl) g2
theorem canLay_pairsN:∀ {ps:List (Str × Str)},(∀e∈ps,Nm e.1/\Nm e.2)->PyData.canLayAll0 (ps.map pairD)=true
 | [],_=>rfl
 | e::ps,h=>by
  have:=h e (by simp)
  show (PyData.canLay0 (pairD e)&&PyData.canLayAll0 (ps.map pairD))=true
  rw[canLay_pairsN fun x hx=>h x (List.mem_cons_of_mem _ hx)]
  show ((PyData.canLay0 (.str e.1)&&(PyData.canLay0 (.str e.2)&&true))&&true)=true
  rw[canLay_nm this.1,canLay_nm this.2];rfl
theorem canLay_pairN (h:Nm e.1/\Nm e.2):PyData.canLay0 (pairD e)=true:=by
 show (PyData.canLay0 (.str e.1)&&(PyData.canLay0 (.str e.2)&&true))=true
 rw[canLay_nm h.1,canLay_nm h.2];rfl
theorem flat_strs (xs:List Str):(List.map V.str xs).all flatV=true:=by
 rw[List.all_map,List.all_eq_true]
 intro x _;rfl
theorem in_strs (x:Str) (xs:List Str):inV (V.str x) (List.map V.str xs)=decide (x∈xs):=by
 rw[Bool.eq_iff_iff,decide_eq_true_iff]
 unfold inV
 rw[List.any_map,List.any_eq_true]
 constructor
 ·rintro⟨y,hy,q⟩
  have q:(y==x)=true:=q
  have q:y=x:=by simpa using q
  exact q ▸ hy
 ·intro h
  refine⟨x,h,?_⟩
  show (x==x)=true
  simp
def tBMT (r:V->List V->Hp->VK->Prop) (to:TE) (t:TA):TE:=fun σ H Q=>to σ H fun x H1=>(∃p xs,x=.ref p/\H1 p=some (.tup xs))/\t σ H1 fun xs H2=>r x xs H2 Q
theorem m_indexTT (ho:PE X o to) (ha:PA X [e] t)
    (hbase:attributeBase o "index" X.env (eval o X.env)=eval o X.env:=by rfl)
    (hfew:((backTo cpos (starEach [e] X.env)).all (fun x=>!x.1)&&(backToKw cpos (keywordEach [] X.env)).all (fun x=>x.1.isSome)
     && decide ([e].length+([]:List Keyword).length+(if ([]:List Keyword).isEmpty then 0 else 1)<30))=true:=by rfl)
    (hline:(apos.endLine==cpos.line)=true:=by rfl) (hs:starEach [e] X.env=(false,eval e X.env)::starEach [] X.env:=by rfl) (hplain:(backTo cpos (starEach [] X.env)).any (·.1)=false:=by rfl) :
    PE X (.Call (.Attribute o "index" apos) [e] [] cpos) (tBMT rIndexT to t):=by
 intro pins s σ H Q I h
 refine wpAny_Call_method_late hbase hfew hline rfl (thn (ho pins s σ H _ I h) fun v s1 ⟨x,H1,I1,r1,⟨p,xs,ex,hp⟩,q1⟩=>?_)
 subst ex
 cases r1
 obtain⟨_,its,rv,ob,e1,e2,n,e3,e4⟩:=(show ObjOk X.prog X.w H1 s1.heap p (.tup xs) from I1.hok p _ hp)
 refine⟨"tuple","tuple.index",PySem.F.plainAttrs_tuple,PySem.F.slot_tuple_index,PySem.F.type_tuple_index,⟨ob,e1,e2⟩,fun a z=>?_,?_⟩
 ·cases z
  exact⟨ob,e1,e4⟩
 ·have hA:=ha cpos pins s1 σ H1 _ I1 q1
  rw[hs] at hA ⊢
  refine Calls.callWith_builtin (by show (false||(backTo cpos (starEach [] X.env)).any (·.1))=false;rw[hplain] <;> rfl) (Calls.evalArgs_plain (thn hA fun us s2 ⟨vs,H2,I2,r2,q2⟩=>?_))
  exact mt_indexT pins s2 σ H2 (.ref p) vs (.ref p) us Q I2 rfl r2 q2
end L2
namespace PySem
open PySem.Spec PyProof.Rows
def Raw (h:Heap) (d:Addr) (es:Array DictEntry) (ep:Nat):Prop:=∃o,h.get? d=some o/\o.ExactDict/\o.data=.dict es ep
section
variable {prog:Program}{w:World}{A:Around}{E:Value->Shared->Prop}{s:Shared}{it d:Addr}{i ep:Nat}{es:Array DictEntry}
theorem Raw.typ (hm:Raw s.heap d es ep):s.TypeIs (.ref d) "dict":=let ⟨o,ho,hc,_⟩:=hm;⟨o,ho,hc.1⟩
theorem raw_iter (hd:(d==sysModules)=false) (hm:Raw s.heap d es ep)
    (hQ:Q (.ref s.heap.objs.size) { s with heap:=s.heap.push { cls:=.type "dict_keyiterator",data:=.fields #[.ref d,.int 0 0,.int es.size 0,.int ep 0] } }):wpAny (model prog w) A (pyIter (.ref d)) Q E s:=by
 have hT:=hm.typ
 obtain⟨o,ho,hc,hdat⟩:=hm
 refine wpAny_pyIter_slot hT F.slot_dict_iter (wpAny_call_entry F.slot_dict_iter hT F.entry_dict_iter ?_ (F.args_dict_iter_1 _))
 unfold Builtin.«dict.__iter__» Builtin.Dict.dictSlotNone
 refine wpAny_bind (wpAny_bind (wpAny_notOrdered_dict hT ?_))
 show wpAny _ _ (pure (Value.ref d)) _ _ s
 refine wpAny_pure ?_
 show wpAny _ _ (Builtin.Dict.showsAll d >>= _) _ _ s
 unfold Builtin.Dict.showsAll
 rw[if_neg (by rw[hd];exact Bool.false_ne_true)]
 refine wpAny_bind (wpAny_pure (wpAny_bind (wpAny_dictEntries ho hdat (wpAny_bind (wpAny_dictEpoch ho hdat ?_)))))
 refine wpAny_bind (wpAny_newObj_type (wpAny_pure ⟨_,rfl,"dict_keyiterator",_,⟨_,Heap.get?_push_size _ rfl,rfl⟩,F.slot_dict_keyiterator_next.lookup,?_⟩))
 simpa [rawInt] using hQ
theorem raw_item (hit:s.heap.IsKeyIter it d i es.size ep) (hm:Raw s.heap d es ep) (hi:i<es.size)
    (hQ:∀h',h'.IsKeyIter it d (i+1) es.size ep->Heap.SameBut it s.heap h'->Q (some es[i].key) { s with heap:=h' }):wpAny (model prog w) A (pyNext (.ref it)) Q E s:=by
 obtain⟨o,ho,hc,hd⟩:=id hit
 obtain⟨od,hod,hcd,hdd⟩:=hm
 have hown:Builtin.Dict_items.ownsTuple "dict_keyiterator"=false:=by decide
 unfold pyNext
 refine wpAny_bind (wpAny_attempt (wpAny_callSpecial?_slot (name:=Str.ofString "__next__") hit.typeIs F.slot_dict_keyiterator_next (wpAny_call_entry F.slot_dict_keyiterator_next hit.typeIs F.entry_dict_keyiterator_next ?_ (F.args_dict_keyiterator_next_1 _))))
 refine wpAny_bind (wpAny_pure (wpAny_bind (wpAny_bind ?_)))
 first | refine wpAny_bind (wpAny_typeNameOfWhole_keyiter hit.typeIs (wpAny_pure (wpAny_bind (wpAny_fieldsOf ho hd ?_)))) | refine wpAny_bind (wpAny_typeNameOf_keyiter hit.typeIs (wpAny_pure (wpAny_bind (wpAny_fieldsOf ho hd ?_))))
 simp only[hown,Bool.false_eq_true,if_false]
 show wpAny _ _ (if (Value.ref d==Value.none)=true then _ else _) _ _ s
 rw[if_neg (show ¬ ((Value.ref d==Value.none)=true) from Bool.false_ne_true)]
 refine wpAny_bind (wpAny_pure (wpAny_bind (wpAny_dictEntries hod hdd ?_)))
 rw[if_neg (by simp)]
 refine wpAny_bind (wpAny_pure (wpAny_bind (wpAny_dictEpoch hod hdd ?_)))
 rw[if_neg (by simp)]
 refine wpAny_pure ?_
 simp only[show ¬ ((i:Int)<0) from by omega,if_false,Int.toNat_natCast,Array.getElem?_eq_getElem hi]
 refine wpAny_bind ?_
 first | refine wpAny_bind (wpAny_typeNameOfWhole_keyiter hit.typeIs (wpAny_pure (wpAny_bind (wpAny_isOneOf_keyiter hit.typeIs ?_)))) | refine wpAny_bind (wpAny_typeNameOf_keyiter hit.typeIs (wpAny_pure (wpAny_bind (wpAny_isOneOf_keyiter hit.typeIs ?_))))
 show wpAny _ _ (setField (.ref it) 1 (rawInt ((i:Int)+1)) >>= _) _ _ s
 refine wpAny_bind (wpAny_setField ho hd (by simp) ?_)
 have up:(s.heap.update it (Obj.mapFields (·.setIfInBounds 1 (rawInt ((i:Int)+1))))).IsKeyIter it d (i+1) es.size ep :=
  ⟨_,Heap.get?_update_self _ ho (Obj.isFreed_of_fields (Obj.data_mapFields hd _)),(Obj.cls_mapFields ..).trans hc,by rw[Obj.data_mapFields hd];simp[rawInt]⟩
 refine wpAny_bind (wpAny_holding (wpAny_bind (wpAny_isOneOf_keyiter (s:={ s with heap:=s.heap.update it (Obj.mapFields (·.setIfInBounds 1 (rawInt ((i:Int)+1)))) }) up.typeIs ?_)))
 show wpAny _ _ (pure es[i].key) _ _ _
 exact wpAny_pure (wpAny_pure ⟨_,rfl,wpAny_pure (hQ _ up (Heap.SameBut.update ..))⟩)
theorem raw_end (hh:A.handled=none) (hit:s.heap.IsKeyIter it d i es.size ep) (hm:Raw s.heap d es ep) (hge:es.size<=i)
    (hQ:∀h',Heap.ExtBut it s.heap h'->Q none { s with heap:=h' }):wpAny (model prog w) A (pyNext (.ref it)) Q E s:=by
 obtain⟨o,ho,hc,hd⟩:=id hit
 obtain⟨od,hod,hcd,hdd⟩:=hm
 have hown:Builtin.Dict_items.ownsTuple "dict_keyiterator"=false:=by decide
 unfold pyNext
 refine wpAny_bind (wpAny_attempt (wpAny_callSpecial?_slot (name:=Str.ofString "__next__") hit.typeIs F.slot_dict_keyiterator_next (wpAny_call_entry F.slot_dict_keyiterator_next hit.typeIs F.entry_dict_keyiterator_next ?_ (F.args_dict_keyiterator_next_1 _))))
 refine wpAny_bind (wpAny_pure (wpAny_bind (wpAny_bind ?_)))
 first | refine wpAny_bind (wpAny_typeNameOfWhole_keyiter hit.typeIs (wpAny_pure (wpAny_bind (wpAny_fieldsOf ho hd ?_)))) | refine wpAny_bind (wpAny_typeNameOf_keyiter hit.typeIs (wpAny_pure (wpAny_bind (wpAny_fieldsOf ho hd ?_))))
 simp only[hown,Bool.false_eq_true,if_false]
 show wpAny _ _ (if (Value.ref d==Value.none)=true then _ else _) _ _ s
 rw[if_neg (show ¬ ((Value.ref d==Value.none)=true) from Bool.false_ne_true)]
 refine wpAny_bind (wpAny_pure (wpAny_bind (wpAny_dictEntries hod hdd ?_)))
 rw[if_neg (by simp)]
 refine wpAny_bind (wpAny_pure (wpAny_bind (wpAny_dictEpoch hod hdd ?_)))
 rw[if_neg (by simp)]
 refine wpAny_pure ?_
 simp only[show ¬ ((i:Int)<0) from by omega,if_false,Int.toNat_natCast,Array.getElem?_eq_none hge]
 refine wpAny_bind ?_
 first | refine wpAny_bind (wpAny_typeNameOfWhole_keyiter hit.typeIs (wpAny_pure ?_)) | refine wpAny_bind (wpAny_typeNameOf_keyiter hit.typeIs (wpAny_pure ?_))
 show wpAny _ _ (setField (.ref it) 0 .none >>= _) _ _ s
 refine wpAny_bind (wpAny_setField ho hd (by simp) ?_)
 show wpAny _ _ (newExc (.type "StopIteration") [] >>= _) _ _ _
 refine wpAny_bind ?_
 simp only[newExc,newTuple]
 refine wpAny_bind (wpAny_newObj_type (wpAny_bind (m:=firstArgMember _ _) (wpAny_of_eq (a:=Value.none) (by first | rfl | (simp only[firstArgMember];rfl)) (wpAny_newObj_type ?_ (by size_fits)))) (by size_fits))
 simp only[raiseNew]
 refine wpAny_bind (wpAny_handled ?_)
 rw[show A.in1.handled=none from hh]
 refine wpAny_bind (wpAny_pure (wpAny_throw ?_))
 refine wpAny_bind (wpAny_isInstance (T:="StopIteration") (b:=true) ⟨_,Heap.get?_push_size _ rfl,rfl⟩ isSubtype_stop ?_)
 exact wpAny_pure (hQ _ (((Heap.SameBut.update ..).extBut.push _).push _))
theorem Raw.at (x:Raw h d es ep) (e:∀o,h.get? d=some o->h'.get? d=some o):Raw h' d es ep:=let ⟨o,ho,r⟩:=x;⟨o,e o ho,r⟩
theorem walks_raw (hh:A.handled=none) (I d:Addr) (hne:d≠I) (es:Array DictEntry) (ep:Nat) :
    Walks prog w A I [I,d] [I] es.size (fun i v=>∃h:i<es.size,v=es[i].key) (fun i h=>h.IsKeyIter I d i es.size ep/\Raw h d es ep) where
 sub:=fun b hb=>by simp at hb;simp[hb]
 frame:=fun _ _ _ st hk=>⟨st.1.at fun o e=>hk I (by simp) o e,st.2.at fun o e=>hk d (by simp) o e⟩
 item:=fun i s Q E hi st hQ=>raw_item st.1 st.2 hi fun h' hit' hs'=>hQ _ h' s.toks ⟨hi,rfl⟩ ⟨hit',st.2.at fun o e=>hs'.extBut d o hne e⟩ fun b o hb e=>hs'.extBut b o (fun h=>hb (by simp[h])) e
 done:=fun s Q E st hQ=>raw_end hh st.1 st.2 (Nat.le_refl _) fun h' he'=>hQ h' s.toks fun b o hb e=>he' b o (fun h=>hb (by simp[h])) e
 self:=fun _ _ _ _ st hQ=>wpAny_pyIter_keyiter st.1 hQ
theorem src_raw (lo:(d==sysModules)=false):W.KdlSrc prog w "dict" d d es.size (fun i v=>∃h:i<es.size,v=es[i].key) (fun h=>Raw h d es ep) where
 type:=fun _ hm=>hm.typ
 there:=fun _ hm=>let ⟨_,ho,_⟩:=hm;⟨Heap.lt_size ho,Heap.lt_size ho⟩
 keep:=fun _ _ hm hk=>hm.at fun o e=>hk d (.inl rfl) o e
 notList:=by decide
 notTuple:=by decide
 hint:=fun _ _ _ _ hm hq=>W.kdl_hint_dict hm.typ hq
 iter:=fun _ _ hh hm=>⟨_,_,(fun _ _ hq=>raw_iter lo hm hq),walks_raw hh _ d (by obtain⟨_,ho,_⟩:=hm;exact Nat.ne_of_lt (Heap.lt_size ho)) es ep,⟨⟨_,Heap.get?_push_size _ rfl,rfl,rfl⟩,hm.at fun _ e=>Heap.get?_push_of_some _ e⟩⟩
theorem collect_raw (hh:A.handled=none) (lo:(d==sysModules)=false) (hm:Raw s.heap d es ep) (hn:es.size <= sizeLine)
    (hQ:∀h' tk acc,(∀b o,s.heap.get? b=some o->h'.get? b=some o)->ItemsOf (fun i v=>∃h:i<es.size,v=es[i].key) acc es.size->Q acc.toList { s with heap:=h',toks:=tk }):wpAny (model prog w) A (collect (.ref d)) Q E s:=by
 have hlt:d<s.heap.objs.size:=by obtain⟨_,ho,_⟩:=hm;exact Heap.lt_size ho
 have key:∀R:Result->Shared->Prop,(∀h' tk acc c',(∀b o,s.heap.get? b=some o->h'.get? b=some o)->h'.get? s.heap.objs.size=some { cls:=.type "list",dict:=none,data:=.seq acc c',slots:=#[] }->ItemsOf (fun i v=>∃h:i<es.size,v=es[i].key) acc es.size->R (.ok (.ret (.ref s.heap.objs.size))) { s with heap:=h',toks:=tk }) ->
     codeAny (model prog w) A (.builtin "proto.collect" ⟨[.ref d],[]⟩) R s:=by
  intro R hR
  refine codeAny_builtin F.entry_proto_collect ?_
  rw[Around.under_plainId F.plain_proto_collect _]
  show wpAny _ A.in1 (newList [] >>= fun l=>again (.builtin "list.__iadd__" ⟨[l,.ref d],[]⟩)) _ _ s
  refine wpAny_bind (wpAny_newObj_type (wpAny_pure ⟨plainId_quiet F.plain_list_iadd _,codeAny_builtin F.entry_list_iadd ?_⟩))
  rw[Around.under_plainId F.plain_list_iadd _]
  show wpAny _ A.in1 (Builtin.List.listExtendWith (.ref s.heap.objs.size) (.ref d) (.ref s.heap.objs.size)) _ _ _
  have hS0:(s.heap.push { cls:=.type "list",data:=.seq ([]:List Value).toArray }).get? s.heap.objs.size=some { cls:=.type "list",data:=.seq #[] }:=Heap.get?_push_size _ rfl
  refine W.kdl_extend (R:=R) (s:={ s with heap:=s.heap.push { cls:=.type "list",data:=.seq ([]:List Value).toArray } }) (src_raw (es:=es) (ep:=ep) lo) hh (hm.at fun _ e=>Heap.get?_push_of_some _ e) s.heap.objs.size (Nat.ne_of_gt hlt) (Nat.ne_of_gt hlt) _ 0 hS0 (fun h' tk acc' c' hk hS hacc=>?_) hn
  exact hR h' tk acc' c' (fun b o e=>hk b o (Nat.ne_of_lt (Heap.lt_size e)) (Heap.get?_push_of_some _ e)) hS hacc
 unfold collect
 refine wpAny_bind (wpAny_runValue (key _ fun h' tk acc c' hk hS hacc=>?_))
 show wpAny _ A (load s.heap.objs.size >>= _) _ _ _
 refine wpAny_bind (wpAny_load hS ?_)
 exact wpAny_pure (hQ h' tk acc hk hacc)
theorem call_tuple_raw (hh:A.handled=none) (lo:(d==sysModules)=false) (hm:Raw s.heap d es ep) (hn:es.size<=sizeLine)
    (hQ:∀(h':Heap) tk acc,(∀b o,s.heap.get? b=some o->h'.get? b=some o)->ItemsOf (fun i v=>∃h:i<es.size,v=es[i].key) acc es.size->Q (.ref h'.objs.size) { s with heap:=h'.push { cls:=.type "tuple",data:=.seq acc },toks:=tk }) :
    wpAny (model prog w) A (call (.type "tuple") [.ref d]) Q E s:=by
 refine callType_codes (Q₁:=fun obj s₁=>s₁.TypeIs obj "tuple"/\Q obj s₁) F.called_tuple (F.typeCall_tuple_1 _) F.entry_object_init ?_ fun obj s₁ h₁=>?_
 ·refine codeAny_of_tree ?_
  show wpAny _ A.in1.in1 (do checkBuiltinCall "tuple.__new__" ⟨[.type "tuple",.ref d],[]⟩;again (.builtin "tuple.__new__" ⟨[.type "tuple",.ref d],[]⟩)) _ _ s
  refine wpAny_bind (wpAny_of_eq (F.newCall_tuple_1 _) (wpAny_pure ⟨plainId_quiet F.plain_tuple_new _,codeAny_builtin F.entry_tuple_new ?_⟩))
  rw[Around.under_plainId F.plain_tuple_new _]
  have hsub:=sub_tuple_self
  have hinit:=init_tuple_lookup
  have hmh:=madeHere_tuple
  have hTI:=hm.typ
  wp_walk using wpAny_typeOf hTI,collect_raw (es:=es) (ep:=ep) (by exact hh) lo hm hn
  intro h' tk acc hk hacc
  show wpAny _ _ (Builtin.Tuple.tupleExact acc.toList.toArray >>= fun v=>ret v) _ _ _
  unfold Builtin.Tuple.tupleExact
  refine wpAny_bind (wpAny_newObj_type ?_ (by show acc.toList.toArray.size<=sizeLine;simp only[Array.toArray_toList];rw[hacc.1];exact hn))
  refine wpAny_pure ?_
  have e:acc.toList.toArray=acc:=by simp
  rw[e]
  exact⟨⟨_,Heap.get?_push_size _ rfl,rfl⟩,hQ h' tk acc hk hacc⟩
 ·exact⟨h₁.1,F.args_object_init_2 obj _,object_init_meets F.called_tuple.init.lookup F.called_tuple.made (by decide) prog w A.in1 _ s₁ ⟨h₁.1,rfl,h₁.2⟩⟩
end
end PySem
namespace L2
open PySem PySem.Spec PyProof.Rows
theorem Paired.at:∀ {l:List α}{m:List β}, Paired F l m -> l.length=m.length /\ ∀(i:Nat) (a:α), l[i]? = some a -> ∃b, m[i]? = some b /\ F a b
 | _,_,.nil=>⟨rfl,fun i a h=>by simp at h⟩
 | _,_,.cons r t=>by
  obtain⟨hl,ih⟩:=Paired.at t
  refine⟨by rw[List.length_cons,List.length_cons,hl],fun i a h=>?_⟩
  cases i with
  | zero =>
   have h:=Option.some.inj h
   subst h
   exact⟨_,rfl,r⟩
  | succ i=>exact ih i a (by simpa using h)
theorem vals_refsK:∀(ys:List (List Key × Addr × Value)),Vals (ys.map fun y=>V.ref y.2.1) (ys.map fun y=>Value.ref y.2.1)
 | []=>.nil
 | y::ys=>.cons rfl (vals_refsK ys)
section
variable {X:Cx}{p pos:Pos}{e:Expr}{t:TA}
def rTupDT:List V->Hp->VK->Prop:=fun xs H Q=>∃a kvs,xs=[V.ref a]/\H a=some (.dT kvs)/\∀l rs,H l=none->rs.length=kvs.length->(∀(i:Nat) (k:List Key × V),kvs[i]? = some k->∃q,rs[i]? = some (V.ref q)/\H q=some (.tup (k.1.map kV)))->Q (.ref l) (upd H l (.tup rs))
theorem b_tupDT (hc:X.calm=true) (B:Blt X.mg) (ha:PA X [e] t) (hg:Gl X "tuple" := by rfl) (he:starEach [e] X.env=(false, eval e X.env) :: starEach [] X.env := by rfl) (hpl:(backTo pos (starEach [] X.env)).any (·.1)=false := by rfl) :
    PE X (.Call (.Name "tuple" p) [e] [] pos) (tCB rTupDT t):=by
 refine pe_callTy (r:=rTupDT) (fun pins s σ H xs us Q I r h=>?_) hg B.tuple (show bootBuiltins "tuple"=some (.type "tuple") by decide +kernel) ha (by decide) (by decide) he hpl
 obtain⟨a,kvs,rfl,hr,q⟩:=h
 obtain⟨u,rfl,ru⟩:=vals1 r
 cases ru
 obtain⟨hz,hsys,ys,pr,o,es,ep,ho,hx,hdt,h4,h5⟩:=(show ObjOk X.prog X.w H s.heap a (.dT kvs) from I.hok a _ hr)
 obtain⟨pl,pat⟩:=Paired.at pr
 have esl:es.size=ys.length:=by rw[<- Array.length_toList,h4,List.length_map]
 refine call_tuple_raw (es:=es) (ep:=ep) (I.ok.hd hc) hsys ⟨o,ho,hx,hdt⟩ (by omega) fun h' tk acc hk hacc=>?_
 have I1:=I.kept (h':=h') (t':=tk) hk
 have ea:acc.toList=ys.map fun y=>Value.ref y.2.1:=by
  refine List.ext_getElem (by rw[Array.length_toList,hacc.1,List.length_map,esl]) fun j h1 h2=>?_
  rw[List.length_map] at h2
  have h1':j<acc.size:=by rw[Array.length_toList] at h1;exact h1
  obtain⟨hj,ev⟩:=hacc.2 j acc[j] (Array.getElem?_eq_getElem h1')
  have e3:es.toList[j]? = some (entryOfKey (tupleKind (mixKind X.prog X.w)) ys[j]):=by rw[h4,List.getElem?_map,List.getElem?_eq_getElem h2];rfl
  have e4:es[j]=entryOfKey (tupleKind (mixKind X.prog X.w)) ys[j]:=by
   have:es.toList[j]? = some es[j]:=by rw[Array.getElem?_toList,Array.getElem?_eq_getElem hj]
   rw[this] at e3
   exact Option.some.inj e3
  rw[Array.getElem_toList,List.getElem_map,ev,e4];rfl
 have hv:Vals (ys.map fun y=>V.ref y.2.1) acc.toList:=by
  rw[ea]
  exact vals_refsK ys
 refine⟨.ref _,_,I1.laid (o:=.tup (ys.map fun y=>V.ref y.2.1)) (fun b ob q=>Heap.get?_push_of_some _ q) (Nat.le_refl _) ⟨by rw[List.length_map];omega,acc.toList,hv,?_⟩,rfl,q _ _ (I1.hok.fresh (Nat.le_refl _)) (by rw[List.length_map];omega) fun i k hk=>?_⟩
 ·have e:acc.toList.toArray=acc:=by simp
  rw[e];exact TupN.new _ _
 ·obtain⟨y,hy,h1,h2,_⟩:=pat i k hk
  exact⟨y.2.1,by rw[List.getElem?_map,hy];rfl,h2⟩
end
end L2
namespace L2
open PySem
abbrev Prs:=List (Str × Str)
def dedTo:Prs->Prs->Prs
 | acc,[]=>acc
 | acc,x::xs=>if x∈acc then dedTo acc xs else dedTo (acc++[x]) xs
theorem dedTo_app:∀(xs ys acc:Prs),dedTo acc (xs++ys)=dedTo (dedTo acc xs) ys
 | [],ys,acc=>rfl
 | x::xs,ys,acc=>by
  show (if x∈acc then dedTo acc (xs++ys) else dedTo (acc++[x]) (xs++ys))=dedTo (if x∈acc then dedTo acc xs else dedTo (acc++[x]) xs) ys
  split
  ·exact dedTo_app xs ys acc
  ·exact dedTo_app xs ys (acc++[x])
theorem dedTo_len:∀(xs acc:Prs),(dedTo acc xs).length<=acc.length+xs.length
 | [],acc=>Nat.le_refl _
 | x::xs,acc=>by
  show (if x∈acc then dedTo acc xs else dedTo (acc++[x]) xs).length<=_
  split
  ·have:=dedTo_len xs acc;rw[List.length_cons];omega
  ·have:=dedTo_len xs (acc++[x]);rw[List.length_append] at this;rw[List.length_cons];simp at this;omega
theorem dedTo_mem:∀(xs acc:Prs) (e:Str × Str), e ∈ dedTo acc xs ↔ e ∈ acc ∨ e ∈ xs
 | [],acc,e=>by simp[dedTo]
 | x :: xs, acc, e => by
  show e∈(if x∈acc then dedTo acc xs else dedTo (acc++[x]) xs) ↔ _
  split
  ·rename_i h
   rw[dedTo_mem xs acc e,List.mem_cons]
   constructor
   ·rintro (q | q)
    ·exact .inl q
    ·exact .inr (.inr q)
   ·rintro (q | rfl | q)
    ·exact .inl q
    ·exact .inl h
    ·exact .inr q
  ·rw[dedTo_mem xs _ e,List.mem_append,List.mem_singleton,List.mem_cons,or_assoc]
def basO (ks:Kn) (knot:Str) (e:Str × Str):Option (Str × Str):=match partO ks e.1 e.2 with
 | some (q,x,y)=>if q=knot then some (x,y) else none
 | none=>none
def rowP (last:Bool) (c:List Str) (u:Str):Prs:=(c.filter fun v=>decide (v≠u)).map fun v=>if last then (v,u) else (u,v)
def wL (c:List Str) (wn:Prs) (word:Str):List Str:=(wn.filter fun e=>decide (e.1=word)&&decide (e.2∈c)).map (·.2)
def wU (c:List Str) (wn:Prs) (word:Str):List Str:=c.filter fun u=>decide ((word,u)∈wn)
def viewE (ks:Kn) (ts wn:Prs) (knot:Str) (c:List Str):Prs:=dedTo [] (ts.filterMap (basO ks knot)++((wU c wn "first").flatMap (rowP false c)++(wU c wn "last").flatMap (rowP true c)))
def FL (k:Str × List Str) (e:Str × Str):Prop:=(e.1="first"/\k.2.head? = some e.2)∨(e.1="last"/\k.2.getLast? = some e.2)
theorem FL.mem (h:FL k e):e.2∈k.2:=by
 rcases h with⟨_,h⟩ | ⟨_,h⟩
 ·exact List.mem_of_head? h
 ·exact List.mem_of_getLast? h
structure WnX (ks:Kn) (wn:Prs):Prop where
 nd:wn.Nodup
 at_:∀e∈wn,∃k∈ks,FL k e
theorem one_eq {l m:List Str}(nl:l.Nodup) (nm:m.Nodup) (h:∀x ∈ l, ∀y ∈ l, x=y) (e:∀x, x ∈ l ↔ x ∈ m):l=m := by
 match l,m with
 | [],[]=>rfl
 | [],y::m=>exact absurd ((e y).mpr (by simp)) (by simp)
 | x::l,[]=>exact absurd ((e x).mp (by simp)) (by simp)
 | x :: l, y :: m =>
  have hl:l=[]:=by
   cases l with
   | nil=>rfl
   | cons z l =>
    have:=h x (by simp) z (by simp)
    rw[List.nodup_cons] at nl
    exact absurd (this ▸ (by simp:z∈z::l)) nl.1
  have ey:y=x:=h y ((e y).mpr (by simp)) x (by simp)
  have hm:m=[]:=by
   cases m with
   | nil=>rfl
   | cons z m =>
    have hz:=h z ((e z).mpr (by simp)) x (by simp)
    rw[List.nodup_cons] at nm
    exact absurd ((ey.trans hz.symm) ▸ (by simp:z∈z::m)) nm.1
  rw[hl,hm,ey]
theorem nd_snd:∀ {l:Prs},(∀e∈l,e.1=word)->l.Nodup->(l.map (·.2)).Nodup
 | [],_,_=>List.nodup_nil
 | e::l,h,nd=>by
  rw[List.nodup_cons] at nd
  rw[List.map_cons,List.nodup_cons]
  refine⟨fun z=>?_,nd_snd (fun x hx=>h x (List.mem_cons_of_mem _ hx)) nd.2⟩
  obtain⟨f,hf,q⟩:=List.mem_map.mp z
  have:f=e:=Prod.ext ((h f (List.mem_cons_of_mem _ hf)).trans (h e (by simp)).symm) q
  exact nd.1 (this ▸ hf)
end L2
namespace MG
variable {es:List (Nat × Nat)}{s n P t L:Nat}{me par:Nat->Nat}{rw:Nat->List Nat}
inductive Chn (P:Nat) (me par:Nat->Nat):Nat->Nat->List Nat->Prop
 | done:Chn P me par P 0 []
 | step {j m:Nat} {w:List Nat}:0<j->Chn P me par j m w->Chn P me par (par j) (m+1) (me j::w)
end MG
open PySem
namespace PySem.SeqAt
theorem list_extendT (l b:Addr) (items items2:Array Value) (n n2:Nat) (dd:Option Addr) (sl:Array (Option Value)) (hlong:¬ (!items.isEmpty&&Builtin.List.listTooLong (items.size+items2.size))=true) (h1:items.size <= sizeLine) (h2:items.size+items2.size <= sizeLine+1) :
    Meets (Builtin.«list.extend» ⟨[.ref l,.ref b],[]⟩)
     (fun A R s=>s.heap.get? l=some { cls:=.type "list",data:=.seq items n }/\s.heap.get? b=some { cls:=.type "tuple",dict:=dd,data:=.seq items2 n2,slots:=sl }/\R (.ok (.ret .none)) { s with heap:=s.heap.update l (Obj.mapSeq fun x=>x++items2) }) :=
 .of_wp fun prog w A R s h=>by
  obtain⟨hp,g,d,tk,os⟩:=s;obtain⟨hl,hb,h⟩:=h
  unfold Builtin.«list.extend» Builtin.List.listExtendWith
  wp_walk using wpAny_loadPart' hl,wpAny_loadPart' hb
  rw[show (Obj.mapSeq (fun x=>x++items2) { cls:=Value.type "list",data:=Data.seq items n }).data.pastItsLine=none from by
   show (if (items++items2).size > sizeLine+1 then some "sequence:memory" else none)=none
   rw[if_neg (by rw[Array.size_append];omega)]]
  exact wpAny_pure (wpAny_pure ⟨_,rfl,h⟩)
end PySem.SeqAt
namespace HT
open PySem PySem.Spec PyProof.Rows
variable {prog:Program}{w:World}{A:Around}{E:Value->Shared->Prop}{s:Shared}
end HT
namespace L2
open PySem PySem.Spec PyProof.Rows
section
variable {X:Cx}
def rExtendT (K:W.Frag):V->List V->Hp->VK->Prop:=fun x vs H Q=>∃l b xs zs,x=.ref l/\vs=[.ref b]/\H l=some (.lst xs)/\SqT K H b zs/\xs.length+zs.length<=sizeLine/\Q .non (upd H l (.lst (xs++zs)))
theorem mt_extendT (K:W.Frag) (hK:X.K=K:=by rfl):MtR X "list.extend" (rExtendT K):=by
 subst hK
 intro pins s σ H x vs v us Q I rx rv h
 obtain⟨l,b,xs,zs,rfl,rfl,hH,hB,hz,q⟩:=h
 cases rx
 obtain⟨u,rfl,ru⟩:=rv.one
 cases ru
 obtain⟨z,its,n,r,hl,e⟩:=I.lstM hH
 obtain⟨its2,r2,p2,hz2⟩:=I.tuple hB
 have hl2:=r2.length
 obtain⟨⟨cls2,dd2,data2,sl2⟩,ho2,hc2,n2,hd2⟩:=id p2
 simp only at hc2 hd2
 subst hc2 hd2
 have hsz:its.toArray.size+its2.toArray.size<=sizeLine:=by rw[List.size_toArray,List.size_toArray];omega
 have hlong:¬ (!its.toArray.isEmpty&&Builtin.List.listTooLong (its.toArray.size+its2.toArray.size))=true:=by
  rw[notLongL hsz,Bool.and_false]
  exact Bool.false_ne_true
 refine call_meets F.slot_list_extend ⟨_,e,rfl⟩ F.entry_list_extend (F.args_list_extend_2 _ _)
  (SeqAt.list_extendT l b its.toArray its2.toArray n n2 dd2 sl2 hlong (by rw[List.size_toArray];omega) (by omega)) ⟨e,ho2,?_⟩
 refine⟨.non,_,I.lset (its':=its++its2) hH e (by simp) (r.append r2) ?_,rfl,q⟩
 rw[List.length_append]
 omega
theorem m_extendT (K:W.Frag) (ho:PE X o to) (ha:PA X [e] t)
    (hbase:attributeBase o "extend" X.env (eval o X.env)=eval o X.env:=by rfl)
    (hfew:((backTo cpos (starEach [e] X.env)).all (fun x=>!x.1)&&(backToKw cpos (keywordEach [] X.env)).all (fun x=>x.1.isSome)
     && decide ([e].length+([]:List Keyword).length+(if ([]:List Keyword).isEmpty then 0 else 1)<30))=true:=by rfl)
    (hline:(apos.endLine==cpos.line)=true:=by rfl) (hs:starEach [e] X.env=(false,eval e X.env)::starEach [] X.env:=by rfl) (hplain:(backTo cpos (starEach [] X.env)).any (·.1)=false:=by rfl) (hK:X.K=K:=by rfl) :
    PE X (.Call (.Attribute o "extend" apos) [e] [] cpos) (tBM K "list" (rExtendT K) to t):=hK ▸ pe_bm PySem.F.plainAttrs_list PySem.F.slot_list_extend PySem.F.type_list_extend (mt_extendT X.K) ho ha hbase hfew hline hs hplain
end
end L2
namespace L2
open PySem
def kdO (ks:Kn) (u:Str):List Str:=((ks.find? fun k=>decide (k.1=u)).map (·.2)).getD []
section
variable {us:List Str}{ks:Kn}
def rd (ks:Kn):Nat->Str->List Str
 | 0,u=>[u]
 | n+1,u=>u::(kdO ks u).flatMap (rd ks n)
end
end L2
namespace L2
open PySem PySem.Spec PyProof.Rows
open _root_.HT PySem.SeqAt PySem.MeetsSeq PySem.MeetsSeq2 PySem.MeetsSeq3
namespace HTW
variable {prog:Program}{w:World}{A:Around}{E:Value->Shared->Prop}{s:Shared}
theorem getItem_tuple_whole {items:Array Value}{lo hi:Option Int}(ht:IsTup s.heap t items) (hs:s.heap.IsSliceOf sl vl vu .none) (pl:IsPart vl lo) (pu:IsPart vu hi)
    (h0:sIx items.size 0 lo=0) (h1:sIx items.size items.size hi=items.size)
    (h:Q (.ref t) s):wpAny (model prog w) A (getItem (.ref t) (.ref sl)) Q E s:=by
 obtain⟨os,hos,hcs,hds⟩:=id hs
 have hTs:s.TypeIs (.ref sl) "slice":=⟨os,hos,hcs⟩
 unfold getItem
 try with_reducible refine wpAny_holding ?_
 first | refine wpAny_bind (wpAny_pure ?_) | skip
 refine wpAny_bind (wpAny_sequenceKey ht.typeIs (by decide) ?_)
 refine wpAny_bind (wpAny_callSpecial?_slot (name:=Str.ofString "__getitem__") ht.typeIs PyProof.Rows.slot_tuple_getitem
  (wpAny_call_entry PyProof.Rows.slot_tuple_getitem ht.typeIs entry_tuple_getitem ?_ (args_tuple_getitem _ _)))
 show wpAny _ _ (Builtin.Tuple.tupleItemsOf (.ref t) >>= _) _ _ s
 refine wpAny_bind (tupleItemsOf_ ht ?_)
 refine wpAny_bind (wpAny_typeOf hTs ?_)
 rw[if_pos (by decide)]
 refine wpAny_bind (sliceApplied_gen hs pl pu ?_)
 have hyes:(((sIx items.size 0 lo:Nat):Int)==0&&(1:Int)==1&&(sIx items.size items.size hi-sIx items.size 0 lo)==items.size)=true:=by
  rw[h0,h1];simp
 show wpAny _ _ (if (((sIx items.size 0 lo:Nat):Int)==0&&(1:Int)==1&&(sIx items.size items.size hi-sIx items.size 0 lo)==items.size)=true then _ else _) _ _ s
 rw[if_pos hyes]
 unfold Builtin.Tuple.tupleIsExact
 refine wpAny_bind (wpAny_bind (wpAny_typeOf ht.typeIs (wpAny_pure ?_)))
 rw[if_pos (by decide)]
 refine wpAny_bind (wpAny_rule (wpAny_pure ⟨_,rfl,wpAny_pure h⟩))
end HTW
section
variable {X:Cx}
theorem cut_whole {xs:List V}{lo hi:Option Int}(h0:HT.sIx xs.length 0 lo=0) (h1:HT.sIx xs.length xs.length hi=xs.length):cutV xs lo hi=xs:=by
 unfold cutV
 rw[h0,h1,List.drop_zero,Nat.sub_zero,List.take_of_length_le (Nat.le_refl _)]
def rSlTA:V->Option Int->Option Int->Hp->VK->Prop:=fun x lo hi H Q=>∃a xs,x=.ref a/\H a=some (.tup xs)/\∀p H',Same H H'->H' p=some (.tup (cutV xs lo hi))->Q (.ref p) H'
theorem sl_tupA:SlR X rSlTA:=by
 intro pins s σ H x v vl vu lo hi sl Q I rx hs pl pu h
 obtain⟨a,xs,rfl,hx,q⟩:=h
 by_cases hw:HT.sIx xs.length 0 lo=0/\HT.sIx xs.length xs.length hi=xs.length
 ·cases rx
  obtain⟨its,r,ht,hz⟩:=I.tuple (.of hx)
  have hlen:its.toArray.size=xs.length:=by rw[List.size_toArray];exact r.length.symm
  refine⟨"tuple",_,PyProof.Rows.slot_tuple_getitem.lookup,ht.typeIs,?_⟩
  refine HTW.getItem_tuple_whole ht hs pl pu (by rw[hlen];exact hw.1) (by rw[hlen];exact hw.2) ?_
  exact⟨.ref a,H,I,rfl,q a H (Same.refl H) (by rw[cut_whole hw.1 hw.2];exact hx)⟩
 ·exact sl_tup pins s σ H _ v vl vu lo hi sl Q I rx hs pl pu ⟨a,xs,rfl,.of hx,hw,fun p hp=>q p _ (Same.new hp) upd_same⟩
def rCatTB:R2:=fun x y H Q=>∃a b xs ys,x=.ref a/\y=.ref b/\H a=some (.tup xs)/\H b=some (.tup ys)/\xs.length+ys.length<=sizeLine/\∀p H',Same H H'->H' p=some (.tup (xs++ys))->Q (.ref p) H'
theorem op_catTB:OpR X (binaryOp .Add) rCatTB:=by
 intro pins s σ H x y v u Q I rx ry h
 obtain⟨a,b,xs,ys,rfl,rfl,ha,hb,hz,q⟩:=h
 refine op_catTA X.K rfl pins s σ H _ _ v u Q I rx ry ⟨a,b,xs,ys,rfl,rfl,.of ha,.of hb,hz,fun e=>q b H (Same.refl H) (by rw[e];exact hb),fun _ e=>q a H (Same.refl H) (by rw[e,List.append_nil];exact ha),fun _ _ p hp=>q p _ (Same.new hp) upd_same⟩
end
end L2
namespace L2
open PySem PySem.Spec PyProof.Rows
section
variable {X:Cx}{e e':Expr}{te te':TE}
theorem p1 (ha:PE X e te) (hs:starEach [e] X.env=(false,eval e X.env)::starEach [] X.env:=by rfl):PA X [e] (tCons te tNil):=pa_cons ha pa_nil hs
theorem p2 (ha:PE X e te) (hb:PE X e' te') (hs:starEach [e,e'] X.env=(false,eval e X.env)::starEach [e'] X.env:=by rfl) (hs':starEach [e'] X.env=(false,eval e' X.env)::starEach [] X.env:=by rfl):PA X [e,e'] (tCons te (tCons te' tNil)):=pa_cons ha (pa_cons hb pa_nil hs') hs
theorem px (K:W.Frag) (hr:Room k X.A) (ha:PE X e te) (hb:PE X e' te') (hs:PlainIx e':=by exact fun _ _=>rfl) (hK:X.K=K:=by rfl):PE X (.Subscript e e' pos) (tOp (fun x y H Q=>IxX K H x y Q) te te'):=pe_ix (ix_X K hr.units hK) ha hb hs
theorem pc (c:Cal X.prog X.w X.K X.mg X.base k x ps sp) (hr:Room j X.A) (ha:PA X (e::es) t) (hj:k<=j:=by decide) (hg:Gl X x:=by exact rfl)
    (hs:starEach (e::es) X.env=(false,eval e X.env)::starEach es X.env:=by rfl) (hpl:(backTo pos (starEach es X.env)).any (·.1)=false:=by rfl) (hdb:(x==("__debug__":Str))=false:=by decide) :
    PE X (.Call (.Name x p) (e::es) [] pos) (tCall sp [] E0 t):=pe_cal c (hr.mono hj) hg ha hs hpl hdb
theorem pst (i:Nat) (hN:X.N.Nodup) (he:PE X e te) (hi:X.N[i]? = some x:=by rfl) (hx:Loc X.env.scope x:=by exact Or.inl rfl) (hs:swapsWith e (some (.Name x pos')) pos.line X.env=pure false:=by rfl)
    (hf:X.fn x=true∨X.env.scope.names.lookup x=some .local:=by first | exact .inl rfl | exact .inr rfl | assumption):PS X (.Assign [.Name x pos'] e pos) (tAsg te (gName i)):=ps_set hN hi hx he hs hf
end
end L2
namespace L2
open PySem PySem.Spec PyProof.Rows
theorem fsc (h1:sc.kind=.function:=by rfl) (h2:sc.isCoroutine=false:=by rfl) (h3:sc.isGenerator=false:=by rfl) (h4:N.Nodup:=by decide +kernel) (h5:N.take P.length=P:=by rfl)
    (h6:∀x∈P,sc.names.lookup x=some .local∨sc.names.lookup x=some .cell:=by decide +kernel) (h7:∀y∈sc.names,y.2≠.free:=by decide +kernel):FnScope N P sc:=⟨h1,h2,h3,h4,h5,h6,h7⟩
section
variable {P:Program}{w:World}{K:W.Frag}{mg:Str->Option Value}{base:Heap}{x qual:Str}{st:Stmt}{f:Addr}{fd:FuncData}{ps:List Str}{k:Nat}{sp:Sp}
theorem Fun.ok1 (F:Fun K x qual st f fd) (N:List Str)
    (hbody:∀ {cdv:Value} {A:Around} {outer:List Env} {s:Shared} {vs:List V},N.Nodup->∀(H:Hp) (Q:VK) (E:XK),Room k (A.deeper (envOfC qual (defScope st) s.heap.objs.size f cdv))->sp vs H Q E ->
     ∃t,PSs (cxOf CX0 P w K mg base N qual (defScope st) f cdv A outer s H E).nox (defBody st) t/\t { nx:=fun _ H'=>Q .non H',rt:=Q } (start N vs) H)
    (S:FnScope N ps (defScope st):=by exact fsc) (len:∀vs H Q E,sp vs H Q E->vs.length=ps.length:=by intro vs H Q E h;repeat (first | (obtain⟨rfl,_⟩:=h;rfl) | obtain⟨_,h⟩:=h)):FnOk P w K mg base CX0 (k+1) f fd ps sp :=
 F.ok S len fun _ _ _ _ H _ Q E hr h=>hbody S.nd H Q E hr h
theorem Fun.ok2 (F:Fun K x qual st f fd) (N:List Str)
    (hbody:∀ {cdv:Value} {A:Around} {outer:List Env} {s:Shared} {vs:List V},N.Nodup->∀(H:Hp) (Q:VK) (E:XK),Room k (A.deeper (envOfC qual (defScope st) s.heap.objs.size f cdv))->sp vs H Q E ->
     ∃t,PSs (cxOf (CX1 P w) P w K mg base N qual (defScope st) f cdv A outer s H E) (defBody st) t/\t { nx:=fun _ H'=>Q .non H',rt:=Q } (start N vs) H)
    (S:FnScope N ps (defScope st):=by exact fsc) (len:∀vs H Q E,sp vs H Q E->vs.length=ps.length:=by intro vs H Q E h;repeat (first | (obtain⟨rfl,_⟩:=h;rfl) | obtain⟨_,h⟩:=h)):FnOk P w K mg base (CX1 P w) (k+1) f fd ps sp :=
 F.okX S len fun _ _ _ _ H _ Q E hr h=>hbody S.nd H Q E hr h
end
theorem szl (n:Nat) (h:n<=sizeLine:=by decide):n<=sizeLine:=h
@[elab_as_elim] theorem nw {M:Hp->Prop}(h:H a=none) (k:∀H',Same H H'->H' a=some o->M H'):M (upd H a o):=k _ (Same.new h) upd_same
example {H:Hp} {a:Addr} {xs:List V} {Q:V->Hp->Prop} (h:H a=none) (q:∀H',Same H H'->H' a=some (.lst xs)->Q .non H'):Q .non (upd H a (.lst xs)):=by
 refine nw h fun H2 s2 e2=>?_
 exact q H2 s2 e2
end L2
namespace L2
open PySem PySem.W PyProof.Rows
def Rn (lt:Nat->Nat->Bool) (N:Nat) {α:Type}:KasT α->(α->Prop)->Prop
 | .ret a,Q=>Q a
 | .ask i j k,Q=>i<N/\j<N/\Rn lt N (k (lt i j)) Q
section
variable {lt:Nat->Nat->Bool}{N:Nat}
theorem gd {p:Array Nat}{i:Nat}:p.getD i 0=(p[i]?).getD 0:=by simp
end
end L2
namespace L2
open PySem PySem.Spec PyProof.Rows
theorem len_raw {prog:Program}{w:World}{A:Around}{E:Value->Shared->Prop}{s:Shared}{a:Addr}{o:Obj}{es:Array DictEntry}{ep:Nat}{Q:Value->Shared->Prop}(hsys:(a==sysModules)=false) (ho:s.heap.get? a=some o) (hx:o.ExactDict) (hd:o.data=.dict es ep) (hz:(es.size:Int)<2 ^ 63)
 (q:∀t k,Q (.int es.size t) { s with toks:=k }):wpAny (model prog w) A (call (.builtin "len") [.ref a]) Q E s:=by
 have ty:s.TypeIs (.ref a) "dict":=⟨o,ho,hx.1⟩
 refine Calls.call_function_entry kind_len plain_len entry_len (args_len1 _) ?_
 unfold Builtin.len
 refine wpAny_bind (wpAny_pure ?_)
 refine wpAny_bind (wpAny_callSpecial?_slot ty PySem.F.slot_dict_len (wpAny_call_entry PySem.F.slot_dict_len ty PySem.F.entry_dict_len ?_))
 unfold Builtin.«dict.__len__» Builtin.Dict.dictSlotNone dictSize Builtin.Dict.pendingCount
 refine wpAny_bind (wpAny_bind (wpAny_notOrdered_dict ty ?_))
 refine wpAny_bind (wpAny_pure (wpAny_pure ?_))
 refine wpAny_bind (wpAny_pure ?_)
 refine wpAny_bind (wpAny_bind (wpAny_dictEntries ho hd (wpAny_pure ?_)))
 rw[if_neg (by rw[hsys];decide)]
 refine wpAny_bind (wpAny_pure ?_)
 unfold retInt
 refine wpAny_bind (wpAny_mkInt ?_)
 refine wpAny_pure ⟨_,rfl,?_⟩
 refine wpAny_bind (wpAny_holding ?_)
 refine wpAny_pure ?_
 refine wpAny_bind (wpAny_letGo ?_)
 dsimp only
 have e0:¬ ((es.size:Int)+((0:Nat):Int)<0):=by omega
 have e1:¬ ((es.size:Int)+((0:Nat):Int) ≥ 2 ^ 63):=by omega
 rw[if_neg e0,if_neg e1]
 refine wpAny_bind (wpAny_mkInt ?_)
 refine wpAny_pure ⟨_,rfl,?_⟩
 have e2:(es.size:Int)+((0:Nat):Int)=es.size:=by omega
 rw[e2]
 exact q _ _
section
variable {X:Cx}{p pos:Pos}{e:Expr}{t:TA}
def rLenT:List V->Hp->VK->Prop:=fun xs H Q=>∃a kvs,xs=[V.ref a]/\H a=some (.dT kvs)/\Q (.int kvs.length) H
theorem call_lenT:CallR X (.builtin "len") rLenT:=by
 intro pins s σ H xs us Q I r h
 obtain⟨a,kvs,rfl,ha,q⟩:=h
 obtain⟨u,rfl,ru⟩:=vals1 r
 cases ru
 obtain⟨hz,hsys,ys,pr,o,es,ep,ho,hx,hdt,h4,h5⟩:=(show ObjOk X.prog X.w H s.heap a (.dT kvs) from I.hok a _ ha)
 have sz:es.size=kvs.length:=by rw[<- Array.length_toList,h4,List.length_map,pr.length]
 refine len_raw hsys ho hx hdt (by rw[sz];rw[sizeLine_eq] at hz;omega) fun t k=>⟨.int kvs.length,H,I.tok _,⟨t,by rw[sz]⟩,q⟩
theorem b_lenT (B:Blt X.mg) (ha:PA X [e] t) (hg:Gl X "len":=by rfl) (he:starEach [e] X.env=(false,eval e X.env)::starEach [] X.env:=by rfl) (hpl:(backTo pos (starEach [] X.env)).any (·.1)=false:=by rfl):PE X (.Call (.Name "len" p) [e] [] pos) (tCB rLenT t) :=
 pe_callB call_lenT hg B.len PySem.boot_len ha (by decide) (by decide) he hpl
end
end L2
namespace K39
open PySem L2
def top (i:Nat):Stmt:=PySem.Challenge.pw_orderkeep_k39_orders_and_waiting_ties.main.body.getD i (.Pass ⟨0,0,0,0⟩)
abbrev sIsName:Stmt:=top 5
abbrev sChildren:Stmt:=top 7
abbrev sParting:Stmt:=top 8
abbrev sHomes:Stmt:=top 9
abbrev sPartingBy:Stmt:=top 10
abbrev sLineDown:Stmt:=top 11
abbrev sNexts:Stmt:=top 13
abbrev sPlacesOf:Stmt:=top 14
abbrev sUnlike:Stmt:=top 15
abbrev sAmong:Stmt:=top 16
abbrev sLists:Stmt:=top 17
abbrev sIsFrame:Stmt:=top 23
abbrev sAreKnots:Stmt:=top 24
abbrev sIsKnot:Stmt:=top 25
abbrev sUnitsIn:Stmt:=top 26
abbrev sIsBelowTop:Stmt:=top 27
abbrev sAreHouseTies:Stmt:=top 28
abbrev sAreWants:Stmt:=top 29
abbrev sIsWant:Stmt:=top 30
abbrev sNextsAll:Stmt:=top 32
abbrev sSteps:Stmt:=top 33
abbrev sIsOrder:Stmt:=top 35
abbrev sView:Stmt:=top 37
abbrev sKeptPartings:Stmt:=top 38
abbrev sViewBy:Stmt:=top 39
abbrev sWanted:Stmt:=top 40
abbrev sHouseOf:Stmt:=top 42
abbrev sIsHouse:Stmt:=top 43
abbrev sKeepsTies:Stmt:=top 44
abbrev sKeepsWaiting:Stmt:=top 45
abbrev sPen:Stmt:=top 47
abbrev sDraw:Stmt:=top 48
abbrev sNames:Stmt:=top 49
abbrev sTree:Stmt:=top 50
abbrev sAround:Stmt:=top 51
abbrev sPath:Stmt:=top 52
abbrev sLawParting:Stmt:=top 53
abbrev sEdges:Stmt:=top 54
abbrev sReached:Stmt:=top 55
abbrev sWants:Stmt:=top 56
abbrev sKept:Stmt:=top 57
abbrev sWaiting:Stmt:=top 58
abbrev sHouse:Stmt:=top 59
abbrev sGood:Stmt:=top 60
abbrev sKnotsChanged:Stmt:=top 61
abbrev sPairHere:Stmt:=top 62
abbrev sLWanted:Stmt:=top 63
abbrev sFewer:Stmt:=top 64
abbrev sChanged:Stmt:=top 65
abbrev sMade:Stmt:=top 66
abbrev sLaw:Stmt:=top 67
section
variable {P:Program}{w:World}{K:W.Frag}{mg:Str->Option Value}{base:Heap}
def spNames (K:W.Frag):Sp:=fun vs H Q _=>∃(p a:_) (m:Nat),vs=[.ref p,.int (m:Int)]/\Pen K H p a/\m<=60 /\
 ∀l ss H',ss.length=m->ss.Nodup->(∀s∈ss,Nm s)->H' l=some (.lst (List.map V.str ss))->H l=none->l≠p->PenV H' p a->But p H H'->Q (.ref l) H'
def spPen (K:W.Frag):Sp:=fun vs H Q _=>∃(a:_) (ns:List Int),vs=[.ref a]/\SqL K H a (ns.map V.int)/\∀p H',Pen K H' p a->Q (.ref p) H'
theorem ok_pen {f:Addr}{fd:FuncData}(F:Fun K "_law_pen" "_law_pen" sPen f fd) (B:Blt mg):FnOk P w K mg base CX0 1 f fd ["_law_script"] (spPen K):=by
 refine F.ok1 ["_law_script"] fun nd H Q E hr h=>?_
 obtain⟨a,ns,rfl,hS,k⟩:=h
 refine⟨_,(pss_one (ps_ret (pe_lst (pa_cons (pv 0) (p2 pe_int pe_int))))),?_⟩
 refine⟨_,rfl,(szl 3),fun p hp=>?_⟩
 exact k p _ (Pen.new (ns:=ns) hS hp ⟨0,0,upd_same,by decide,by decide⟩)
theorem ok_draw {f:Addr}{fd:FuncData}(F:Fun K "_law_draw" "_law_draw" sDraw f fd) (B:Blt mg):FnOk P w K mg base CX0 1 f fd ["_law_pen_here", "_law_most"] (spDraw K) := by
 refine F.ok1 ["_law_pen_here","_law_most","_law_found","_law_place","_law_cell","_law_first","_law_second"] fun nd H Q E hr h=>?_
 obtain⟨p,a,m,rfl,⟨⟨ns,hS⟩,i,n,hp,hi,hn⟩,hm,hm2,k⟩:=h
 have ku:∀(H1:Hp) (o:HO),(∀b,b≠p->H1 b=H b)->∀b,b≠p->(upd H1 p o) b=H b:=fun H1 o q b n=>by rw[upd_ne n];exact q b n
 refine⟨_,(pss_cons (ps_if (pt_cmpR op_gt (px K hr (pv 0) pe_int) pe_int (nomark _)) (pss_cons (pst 2 nd (pe_op op_mod (px K hr (pv 0) pe_int) (pv 1)))
  (pss_cons (ps_asg (pe_op op_fdiv (px K hr (pv 0) pe_int) (pv 1)) (pg_sub (pv 0) pe_int (set_X hr.units)))
  (pss_one (ps_ret (pv 2))))) pss_nil)
  (pss_cons (pst 3 nd (px K hr (pv 0) pe_int))
  (pss_cons (ps_asg (pe_op op_addX (pv 3) pe_int) (pg_sub (pv 0) pe_int (set_X hr.units)))
  (pss_cons (pst 4 nd pe_int)
  (pss_cons (ps_if (pt_cmpR op_gt (b_len K B (p1 (px K hr (pv 0) pe_int))) pe_int (nomark _)) (pss_one (pst 4 nd (px K hr (px K hr (pv 0) pe_int) (pe_op op_mod (pv 3) (b_len K B (p1 (px K hr (pv 0) pe_int))))))) pss_nil)
  (pss_cons (ps_if (PW.pt (pw_and (pt_cmpR op_ltX (pv 3) (b_len K B (p1 (px K hr (pv 0) pe_int))) (nomark _)) (pw_and1 (pt_cmpR op_ge (b_abs B (p1 (pv 4))) (pe_op op_pow pe_int pe_int) (nomark _))))) (pss_cons (ps_asg (pe_op op_fdiv (b_abs B (p1 (pv 4))) (pv 1)) (pg_sub (pv 0) pe_int (set_X hr.units)))
  (pss_one (ps_ret (pe_op op_mod (b_abs B (p1 (pv 4))) (pv 1))))) pss_nil)
  (pss_cons (pst 5 nd (pe_op op_mod (pe_op op_mul (pe_op op_addX (pe_op op_addX (pe_op op_mod (pv 4) pe_int) (pe_op op_mul pe_int (pv 3))) pe_int) pe_int) pe_int))
  (pss_cons (pst 6 nd (pe_op op_mod (pe_op op_addX (pe_op op_addX (pe_op op_mul (pv 5) (pv 5)) (pe_op op_mul pe_int (pv 3))) pe_int) pe_int))
  (pss_one (ps_ret (pe_op op_mod (pe_op op_fdiv (pv 6) pe_int) (pv 1)))))))))))),?_⟩
 refine⟨_,rfl,.lst (.of hp) rfl ⟨_,_,rfl,rfl,_,rfl,?_⟩⟩
 refine ite2 (fun h=>?_) (fun h=>?_)
 ·refine⟨_,rfl,.lst (.of hp) rfl ⟨_,rfl,_,_,rfl,rfl,hm,?_⟩⟩
  refine⟨_,rfl,.lst (.of hp) rfl ⟨_,rfl,_,_,rfl,rfl,⟨hm,hm2⟩,?_⟩⟩
  refine⟨_,rfl,.lst (j:=2) hp rfl ?_⟩
  refine⟨_,rfl,?_⟩
  exact k _ _ (Int.emod_nonneg _ (by omega)) (Int.emod_lt_of_pos _ hm) ⟨i,n / m,upd_same,hi,Int.ediv_nonneg hn (by omega)⟩ (ku H _ fun _ _=>rfl)
 ·refine⟨_, rfl, .lst (.of hp) rfl ?_⟩
  refine⟨_,rfl,.int ?_⟩
  refine⟨_,rfl,.lst (j:=1) hp rfl ?_⟩
  have hp1:(upd H p (.lst ([V.ref a,V.int i,V.int n].set 1 (V.int (i+1))))) p=some (.lst [.ref a,.int (i+1),.int n]):=upd_same
  have hS1:SqL K (upd H p (.lst ([V.ref a,V.int i,V.int n].set 1 (V.int (i+1))))) a (ns.map V.int):=hS _ But.upd
  have b1:∀b,b≠p->(upd H p (.lst ([V.ref a,V.int i,V.int n].set 1 (V.int (i+1))))) b=H b:=ku H _ fun _ _=>rfl
  generalize upd H p (.lst ([V.ref a,V.int i,V.int n].set 1 (V.int (i+1))))=H1 at hp1 hS1 b1 ⊢
  have fin:∀c:Int,0<=c->Q (.int (c % m)) H1:=fun c hc=>k _ _ (Int.emod_nonneg _ (by omega)) (Int.emod_lt_of_pos _ hm) ⟨i+1,n,hp1,by omega,hn⟩ b1
  refine⟨_,rfl,.lst (.of hp1) rfl ⟨_,_,rfl,Or.inl ⟨_,hS1,rfl⟩,_,_,rfl,rfl,_,rfl,?_⟩⟩
  refine ite2 (fun h=>?a) (fun h=>?b)
  case' a =>
   have hl:(0:Int)<((ns.map V.int).length:Nat):=of_decide_eq_true h
   obtain⟨c,hc⟩:=at_int (ns:=ns) (j:=i % ((ns.map V.int).length:Nat)) (Int.emod_nonneg _ (by omega)) (Int.emod_lt_of_pos _ hl)
   refine⟨_,rfl,.lst (.of hp1) rfl ⟨_,rfl,_,rfl,.lst (.of hp1) rfl ⟨_,_,rfl,Or.inl ⟨_,hS1,rfl⟩,_,_,rfl,rfl,hl,.lst hS1 hc ?_⟩⟩⟩
  all_goals
   refine⟨_,rfl,_,rfl,.lst (.of hp1) rfl ⟨_,_,rfl,Or.inl ⟨_,hS1,rfl⟩,.int ⟨_,rfl,?_⟩⟩⟩
   refine ite2 (fun h1=>?_) (fun h1=>?_)
   ·refine⟨_,rfl,_,rfl,_,_,rfl,rfl,⟨by decide,by decide,by decide⟩,_,_,rfl,rfl,_,rfl,?_⟩
    refine ite2 (fun h2=>?_) (fun h2=>?_)
    ·refine⟨_,rfl,_,rfl,_,rfl,_,_,rfl,rfl,⟨hm,hm2⟩,?_⟩
     refine⟨_,rfl,.lst (j:=2) hp1 rfl ?_⟩
     refine⟨_,rfl,_,rfl,_,rfl,_,_,rfl,rfl,hm,?_⟩
     refine k _ _ (Int.emod_nonneg _ (by omega)) (Int.emod_lt_of_pos _ hm) ⟨i+1,_,upd_same,by omega,Int.ediv_nonneg (by split <;> omega) (by omega)⟩ (ku H1 _ b1)
    ·refine⟨_,rfl,_,_,rfl,rfl,(by show (0:Int)<_;decide),_,rfl,_,_,rfl,rfl,.inl ⟨by decide,by decide⟩,.int (.int ⟨_,_,rfl,rfl,.inr ⟨by decide,by decide⟩,_,_,rfl,rfl,(by show (0:Int)<_;decide),?_⟩)⟩
     refine⟨_,rfl,_,rfl,_,_,rfl,rfl,.inl (fst_small _),_,rfl,_,_,rfl,rfl,.inl ⟨by decide,by decide⟩,.int (.int ⟨_,_,rfl,rfl,(by show (0:Int)<_;decide),?_⟩)⟩
     refine⟨_,rfl,_,_,rfl,rfl,⟨by decide,by decide⟩,_,rfl,_,_,rfl,rfl,hm,?_⟩
     exact fin _ (Int.ediv_nonneg (Int.emod_nonneg _ (by decide)) (by decide))
   ·refine⟨_,rfl,_,_,rfl,rfl,(by show (0:Int)<_;decide),_,rfl,_,_,rfl,rfl,.inl ⟨by decide,by decide⟩,.int (.int ⟨_,_,rfl,rfl,.inr ⟨by decide,by decide⟩,_,_,rfl,rfl,(by show (0:Int)<_;decide),?_⟩)⟩
    refine⟨_,rfl,_,rfl,_,_,rfl,rfl,.inl (fst_small _),_,rfl,_,_,rfl,rfl,.inl ⟨by decide,by decide⟩,.int (.int ⟨_,_,rfl,rfl,(by show (0:Int)<_;decide),?_⟩)⟩
    refine⟨_,rfl,_,_,rfl,rfl,⟨by decide,by decide⟩,_,rfl,_,_,rfl,rfl,hm,?_⟩
    exact fin _ (Int.ediv_nonneg (Int.emod_nonneg _ (by decide)) (by decide))
end
end K39
namespace K39
open PySem L2
section
variable {P:Program}{w:World}{K:W.Frag}{mg:Str->Option Value}{base:Heap}
abbrev letters:Str:="abcdefghijklmnopqrstuvwxyz"
def wordsA:List Str:=["top","group","tie","wait","first","last","thing","untie","drop","want","unwant","many"]
def wordsB:List Str:=["lay","ring","place","bar","house"]
def wordsL:List Str:=wordsA++wordsB
theorem words_nm:∀s∈wordsL,isNm (.str s)=true:=by decide +kernel
theorem words_nodup:wordsL.Nodup:=by decide +kernel
theorem words_len:wordsL.length=17:=by decide +kernel
def aE:Stmt->Expr
 | .Assign _ e _=>e
 | _=>.Name "" ⟨0,0,0,0⟩
def withE:Stmt->Expr->Stmt
 | .Assign ts _ p,e=>.Assign ts e p
 | s,_=>s
@[irreducible] def bigE:Expr:=aE ((defBody sNames).getD 1 (.Pass ⟨0,0,0,0⟩))
theorem body_eq:defBody sNames=(defBody sNames).set 1 (withE ((defBody sNames).getD 1 (.Pass ⟨0,0,0,0⟩)) bigE):=by unfold bigE;rfl
theorem big_sw {t:Option Expr}{l:Nat}{env:Env}:swapsWith bigE t l env=pure false:=by unfold bigE;rfl
theorem pe_big {X:Cx}:PE X bigE (tLst (tCons (tC (.str "top")) (tCons (tC (.str "group")) (tCons (tC (.str "tie")) (tCons (tC (.str "wait")) (tCons (tC (.str "first")) (tCons (tC (.str "last")) (tCons (tC (.str "thing")) (tCons (tC (.str "untie")) (tCons (tC (.str "drop")) (tCons (tC (.str "want")) (tCons (tC (.str "unwant")) (tCons (tC (.str "many")) tNil))))))))))))):=by
 have e:∃q q1 q2 q3 q4 q5 q6 q7 q8 q9 q10 q11 q12 j1 j2 j3 j4 j5 j6 j7 j8 j9 j10 j11 j12,bigE=.List [.Constant (.str "top") j1 q1,.Constant (.str "group") j2 q2,.Constant (.str "tie") j3 q3,.Constant (.str "wait") j4 q4,.Constant (.str "first") j5 q5,.Constant (.str "last") j6 q6,.Constant (.str "thing") j7 q7,.Constant (.str "untie") j8 q8,.Constant (.str "drop") j9 q9,.Constant (.str "want") j10 q10,.Constant (.str "unwant") j11 q11,.Constant (.str "many") j12 q12] q:=by
  unfold bigE
  exact⟨_,_,_,_,_,_,_,_,_,_,_,_,_,_,_,_,_,_,_,_,_,_,_,_,_,rfl⟩
 obtain⟨q,q1,q2,q3,q4,q5,q6,q7,q8,q9,q10,q11,q12,j1,j2,j3,j4,j5,j6,j7,j8,j9,j10,j11,j12,e⟩:=e
 rw[e]
 with_reducible exact pe_lst (pa_cons pe_str (pa_cons pe_str (pa_cons pe_str (pa_cons pe_str (pa_cons pe_str (pa_cons pe_str (pa_cons pe_str (pa_cons pe_str (pa_cons pe_str (pa_cons pe_str (pa_cons pe_str (pa_cons pe_str pa_nil star_c) star_c) star_c) star_c) star_c) star_c) star_c) star_c) star_c) star_c) star_c) star_c)
theorem str_at {ss:List Str}{i:Nat}(h:i<ss.length):atI (List.map V.str ss) (i:Int)=some (.str (ss.getD i "")):=atI_nat (by simp[h,List.getD_eq_getElem?_getD])
theorem getD_by {f:Nat->Str}{m i:Nat}(h:i<m):((List.range m).map f).getD i ""=f i:=by rw[List.getD_eq_getElem?_getD,List.getElem?_map,List.getElem?_range h];rfl
theorem scNames:FnScope ["_law_pen_here","_law_many","_law_letters","_law_words","_law_base","_law_size","_law_at","_law_turn","_law_manner","_law_signs","_law_head","_law_tail"] ["_law_pen_here","_law_many"] (defScope sNames):=⟨rfl,rfl,rfl,by decide +kernel,rfl,by decide +kernel,by decide +kernel⟩
theorem ok_names {f:Addr}{fd:FuncData}(F:Fun K "_law_names" "_law_names" sNames f fd) (B:Blt mg) (c_law_draw:Cal P w K mg base 1 "_law_draw" ["_law_pen_here", "_law_most"] (spDraw K)):FnOk P w K mg base CX0 2 f fd ["_law_pen_here", "_law_many"] (spNames K) := by
 refine F.ok scNames (fun vs H Q E h=>?_) (fun cdv A outer s H vs Q E hr h=>?_)
 ·obtain⟨p,a,m,rfl,_⟩:=h
  rfl
 ·obtain⟨p, a, m, rfl, hP, hm, k⟩ := h
  have nd:=scNames.nd
  have v0:=hP.2
  have lL:letters.length<=sizeLine:=by decide +kernel
  rw[body_eq]
  refine⟨_,(pss_cons (ps_set (i:=2) nd rfl (Or.inr rfl) pe_str)
   (pss_cons (ps_set (i:=3) nd rfl (Or.inr rfl) pe_big big_sw)
   (pss_cons (ps_set (i:=3) nd rfl (Or.inr rfl) (pe_op op_addX (pv 3) (pe_lst (pa_cons pe_str (pa_cons pe_str (pa_cons pe_str (pa_cons pe_str (pa_cons pe_str pa_nil star_c) star_c) star_c) star_c) star_c))))
   (pss_cons (ps_set (i:=4) nd rfl (Or.inr rfl) (m_join K pe_str (pa_cons (pe_comp (defScope sNames) ["_law_pen_here","_law_many","_law_letters","_law_words","_law_base","_law_size","_law_at","_law_turn","_law_manner","_law_signs","_law_head","_law_tail"] ["_law_k"] [2,0] ["_law_k","_law_letters","_law_pen_here"] rfl (pi_range1 rfl B.range (pa_cons pe_int pa_nil)) (fun _ _ _ _ _=>(pg_name (i:=0) (show (["_law_k","_law_letters","_law_pen_here"]:List Str).Nodup by decide) rfl (Or.inl rfl))) (fun _ _ _ _ _=>pts_nil) (fun _ _ _ _ _=>(pe_ix (ix_X K hr.units) (pv 1) (pe_cal c_law_draw (hr.mono (by decide)) rfl (pa_cons (pv 2) (pa_cons pe_int pa_nil))) (fun _ _=>rfl)))) pa_nil)))
   (pss_cons (ps_set (i:=5) nd rfl (Or.inr rfl) (pe_op op_addX pe_int (pe_cal c_law_draw (hr.mono (by decide)) rfl (pa_cons (pv 0) (pa_cons pe_int pa_nil)))))
   (pss_cons (ps_set (i:=6) nd rfl (Or.inr rfl) (pe_cal c_law_draw (hr.mono (by decide)) rfl (pa_cons (pv 0) (pa_cons (pv 5) pa_nil))))
   (pss_cons (ps_set (i:=7) nd rfl (Or.inr rfl) (pe_cal c_law_draw (hr.mono (by decide)) rfl (pa_cons (pv 0) (pa_cons pe_int pa_nil))))
   (pss_cons (ps_set (i:=8) nd rfl (Or.inl rfl) (pe_cal c_law_draw (hr.mono (by decide)) rfl (pa_cons (pv 0) (pa_cons pe_int pa_nil))))
   (pss_cons (ps_if (PW.pt (pw_and (pt_cmpR (op_eqX hr.units) (pv 8) pe_int (nomark _)) (pw_and1 (pt_cmpR op_ltX (pv 1) pe_int (nomark _))))) (pss_one (ps_ret (pe_comp (defScope sNames) ["_law_pen_here","_law_many","_law_letters","_law_words","_law_base","_law_size","_law_at","_law_turn","_law_manner","_law_signs","_law_head","_law_tail"] ["_law_k"] [4,7] ["_law_k","_law_base","_law_turn"] rfl (pi_range1 rfl B.range (pa_cons (pv 1) pa_nil)) (fun _ _ _ _ _=>(pg_name (i:=0) (show (["_law_k","_law_base","_law_turn"]:List Str).Nodup by decide) rfl (Or.inl rfl))) (fun _ _ _ _ _=>pts_nil) (fun _ _ _ _ _=>(pe_slice (sl_K K) (pv 1) po_none (po_some (pe_op op_addX (pe_op op_mod (pe_op op_addX (pv 2) (pe_op op_mul pe_int (pv 0))) pe_int) pe_int))))))) pss_nil)
   (pss_cons (ps_if (PW.pt (pw_and (pt_cmpR (op_eqX hr.units) (pv 8) pe_int (nomark _)) (pw_and1 (pt_cmpR op_ltX (pv 1) pe_int (nomark _))))) (pss_one (ps_ret (pe_comp (defScope sNames) ["_law_pen_here","_law_many","_law_letters","_law_words","_law_base","_law_size","_law_at","_law_turn","_law_manner","_law_signs","_law_head","_law_tail"] ["_law_k"] [3,7] ["_law_k","_law_words","_law_turn"] rfl (pi_range1 rfl B.range (pa_cons (pv 1) pa_nil)) (fun _ _ _ _ _=>(pg_name (i:=0) (show (["_law_k","_law_words","_law_turn"]:List Str).Nodup by decide) rfl (Or.inl rfl))) (fun _ _ _ _ _=>pts_nil) (fun _ _ _ _ _=>(pe_ix (ix_X K hr.units) (pv 1) (pe_op op_mod (pe_op op_addX (pv 2) (pv 0)) pe_int) (fun _ _=>rfl)))))) pss_nil)
   (pss_cons (ps_set (i:=9) nd rfl (Or.inr rfl) (pe_comp (defScope sNames) ["_law_pen_here","_law_many","_law_letters","_law_words","_law_base","_law_size","_law_at","_law_turn","_law_manner","_law_signs","_law_head","_law_tail"] ["_law_k"] [2,7] ["_law_k","_law_letters","_law_turn"] rfl (pi_range1 rfl B.range (pa_cons (pv 1) pa_nil)) (fun _ _ _ _ _=>(pg_name (i:=0) (show (["_law_k","_law_letters","_law_turn"]:List Str).Nodup by decide) rfl (Or.inl rfl))) (fun _ _ _ _ _=>pts_nil) (fun _ _ _ _ _=>(pe_ix (ix_X K hr.units) (pv 1) (pe_op op_mod (pe_op op_addX (pv 2) (pe_op op_mul pe_int (pv 0))) pe_int) (fun _ _=>rfl)))))
   (pss_cons (ps_if (pt_cmpR op_ltX (pv 1) pe_int (nomark _)) (pss_one (ps_ret (pe_comp (defScope sNames) ["_law_pen_here","_law_many","_law_letters","_law_words","_law_base","_law_size","_law_at","_law_turn","_law_manner","_law_signs","_law_head","_law_tail"] ["_law_sign"] [4,5,6] ["_law_sign","_law_base","_law_size","_law_at"] rfl (pi_listK K (pv 9)) (fun _ _ _ _ _=>(pg_name (i:=0) (show (["_law_sign","_law_base","_law_size","_law_at"]:List Str).Nodup by decide) rfl (Or.inl rfl))) (fun _ _ _ _ _=>pts_nil) (fun _ _ _ _ _=>(pe_op op_addX (pe_op op_addX (pe_slice (sl_K K) (pv 1) po_none (po_some (pv 3))) (pv 0)) (pe_slice (sl_K K) (pv 1) (po_some (pe_op op_addX (pv 3) pe_int)) (po_some (pv 2)))))))) pss_nil)
   (pss_cons (ps_set (i:=10) nd rfl (Or.inr rfl) (pe_slice (sl_K K) (pv 4) po_none (po_some (pe_op op_mod (pv 6) pe_int))))
   (pss_cons (ps_set (i:=11) nd rfl (Or.inr rfl) (pe_slice (sl_K K) (pv 4) (po_some (pe_op op_mod (pv 6) pe_int)) (po_some (pe_op op_mod (pv 5) pe_int))))
   (pss_one (ps_ret (pe_comp (defScope sNames) ["_law_pen_here","_law_many","_law_letters","_law_words","_law_base","_law_size","_law_at","_law_turn","_law_manner","_law_signs","_law_head","_law_tail"] ["_law_k"] [11,10,2,9] ["_law_k","_law_tail","_law_head","_law_letters","_law_signs"] rfl (pi_range1 rfl B.range (pa_cons (pv 1) pa_nil)) (fun _ _ _ _ _=>(pg_name (i:=0) (show (["_law_k","_law_tail","_law_head","_law_letters","_law_signs"]:List Str).Nodup by decide) rfl (Or.inl rfl))) (fun _ _ _ _ _=>pts_nil) (fun _ _ _ _ _=>(pe_op op_addX (pe_op op_addX (pe_op op_addX (pv 2) (pe_ix (ix_X K hr.units) (pv 4) (pv 0) (fun _ _=>rfl))) (pe_ix (ix_X K hr.units) (pv 3) (pe_op op_fdiv (pv 0) pe_int) (fun _ _=>rfl))) (pv 1)))))))))))))))))))),?_⟩
  refine⟨(by show 12<=sizeLine;decide),fun l1 hl1=>?_⟩
  have n1:=v0.ne hl1
  have b1:=(But.refl p H).at (o:=.lst (List.map V.str wordsA)) hl1
  have v1:=v0.upd (o:=.lst (List.map V.str wordsA)) n1
  have e1:upd H l1 (.lst (List.map V.str wordsA)) l1=some (.lst (List.map V.str wordsA)):=upd_same
  show tSeq _ _ _ _ (upd H l1 (.lst (List.map V.str wordsA)))
  generalize upd H l1 (.lst (List.map V.str wordsA))=H1 at b1 v1 e1 ⊢
  refine⟨_,rfl,(by show 5<=sizeLine;decide),fun l2 hl2=>?_⟩
  have n2:=v1.ne hl2
  have b2:=b1.at (o:=.lst ([V.str "lay",V.str "ring",V.str "place",V.str "bar",V.str "house"])) (b1.free (Ne.symm n2) hl2)
  have v2:=v1.upd (o:=.lst ([V.str "lay",V.str "ring",V.str "place",V.str "bar",V.str "house"])) n2
  refine .lst (by rw[upd_ne (ne_of_none e1 hl2)];exact e1) upd_same (by show 17<=sizeLine;decide) fun lw hlw=>?_
  have n3:=v2.ne hlw
  have b3:=b2.at (o:=.lst (List.map V.str wordsA++[V.str "lay",V.str "ring",V.str "place",V.str "bar",V.str "house"])) (b2.free (Ne.symm n3) hlw)
  have v3:=v2.upd (o:=.lst (List.map V.str wordsA++[V.str "lay",V.str "ring",V.str "place",V.str "bar",V.str "house"])) n3
  have e3:upd (upd H1 l2 (.lst ([V.str "lay",V.str "ring",V.str "place",V.str "bar",V.str "house"]))) lw (.lst (List.map V.str wordsA++[V.str "lay",V.str "ring",V.str "place",V.str "bar",V.str "house"])) lw=some (.lst (List.map V.str wordsL)):=by rw[upd_same];rfl
  have hlwp:lw≠p:=Ne.symm n3
  have hlw0:H lw=none:=b2.free (Ne.symm n3) hlw
  generalize upd (upd H1 l2 (.lst ([V.str "lay",V.str "ring",V.str "place",V.str "bar",V.str "house"]))) lw (.lst (List.map V.str wordsA++[V.str "lay",V.str "ring",V.str "place",V.str "bar",V.str "house"]))=H3 at b3 v3 e3 ⊢
  refine⟨rfl,_,rfl,by decide,by decide,?_⟩
  refine comp_range (fun D i acc σ' H'=>∃o ys,σ'=[o,some (.str letters),some (.ref p)]/\acc=List.map V.str ys/\ys.length=i/\(∀y∈ys,y.length=1/\Lo y)/\H' lw=some (.lst (List.map V.str wordsL))/\PenV H' p a/\But p H H'/\H D=none/\p≠D/\lw≠D) fun D hD=>⟨?_,?_,?_⟩
  ·have hDp:=v3.ne hD
   have hD0:=b3.free (Ne.symm hDp) hD
   have hwD:=ne_of_none e3 hD
   exact⟨none,[],rfl,rfl,rfl,(fun y hy=>by cases hy),by rw[upd_ne hwD];exact e3,v3.upd hDp,b3.at hD0,hD0,hDp,hwD⟩
  ·rintro i acc σ' H' hi ⟨o, ys, rfl, rfl, hl, hys, hw, v, b, hD0, hDp, hwD⟩ hacc
   refine gYes ?_
   refine⟨_,rfl,_,rfl,p,a,26,rfl,hP.but b v,by decide,by decide,fun r5 H5 h50 h51 v5 e5=>?_⟩
   refine .str lL (abc_at h50 h51) ⟨(e5 D (Ne.symm hDp)).trans hacc,?_,_,ys++[abc r5],rfl,by simp[abc],by simp[hl],?_,?_,v5.upd hDp,(b.trans (But.of_eq e5)).at hD0,hD0,hDp,hwD⟩
   ·rw[List.length_map,hl];exact small1000 (by simp at hi;omega)
   ·intro y hy
    rcases List.mem_append.mp hy with hy | hy
    ·exact hys y hy
    ·have:y=abc r5:=by simpa using hy
     subst this
     exact⟨rfl,abc_lo h50 h51⟩
   ·rw[upd_ne hwD];exact(e5 lw hlwp).trans hw
  ·rintro acc σ' H5 ⟨o, ys, rfl, rfl, hl, hys, hw5, v5, b5, hD0, hDp, hwD⟩ hacc
   have hj:Lo (Txt.join "" ys):=Lo.join Lo.nil fun y hy=>(hys y hy).2
   have hz8:(Txt.join "" ys).length=8:=by rw[join_len fun y hy=>(hys y hy).1];simpa using hl
   have e0:("":Str).length=0:=by decide +kernel
   have hsum:=sum_le (n:=1) fun y hy=>Nat.le_of_eq (hys y hy).1
   refine⟨_,D,ys,rfl,rfl,hacc,by rw[e0];have:=hl;simp at this;omega,?_⟩
   generalize Txt.join "" ys=z at hj hz8 ⊢
   have hz:z.length<=sizeLine:=Nat.le_of_lt (small1000 (by omega))
   clear hacc hys hl hsum
   refine⟨_,rfl,p,a,8,rfl,hP.but b5 v5,by decide,by decide,fun r6 H6 h60 h61 v6 e6=>.int ?_⟩
   have b6:=b5.trans (But.of_eq e6)
   refine⟨_,rfl,_,rfl,p,a,_,rfl,hP.but b6 v6,by omega,by omega,fun r7 H7 h70 h71 v7 e7=>?_⟩
   have b7:=b6.trans (But.of_eq e7)
   refine⟨_,rfl,p,a,26,rfl,hP.but b7 v7,by decide,by decide,fun r8 H8 h80 h81 v8 e8=>?_⟩
   have b8:=b7.trans (But.of_eq e8)
   refine⟨_,rfl,p,a,4,rfl,hP.but b8 v8,by decide,by decide,fun r9 H9 h90 h91 v9 e9=>?_⟩
   have b9:=b8.trans (But.of_eq e9)
   have hw9:H9 lw=some (.lst (List.map V.str wordsL)):=by rw[e9 lw hlwp,e8 lw hlwp,e7 lw hlwp,e6 lw hlwp];exact hw5
   obtain⟨sz,rfl⟩:=Int.eq_ofNat_of_zero_le h60
   obtain⟨at_,rfl⟩:=Int.eq_ofNat_of_zero_le h70
   obtain⟨tn,rfl⟩:=Int.eq_ofNat_of_zero_le h80
   clear e6 e7 e8 e9 v5 v6 v7 v8 b5 b6 b7 b8 hw5
   have fin:∀(D:Addr) (ss:List Str) (H':Hp),H' D=some (.lst (List.map V.str ss))->ss.length=m->ss.Nodup->(∀s∈ss,Nm s)->H D=none->p≠D->PenV H' p a->But p H H'->Q (.ref D) H':=fun D ss H' h1 h2 h3 h4 h5 h6 h7 h8=>k D ss H' h2 h3 h4 h1 h5 (Ne.symm h6) h7 h8
   have wlen:=words_len
   have rest:∀(H9:Hp),PenV H9 p a->But p H H9->∀σ:St,σ=[some (.ref p),some (.int (m:Int)),some (.str letters),some (.ref lw),some (.str z),some (.int (1+(sz:Int))),some (.int (at_:Int)),some (.int (tn:Int)),some (.int r9),none,none,none]->True:=fun _ _ _ _ _=>trivial
   refine⟨_,rfl,.sc rfl ⟨_,rfl,?_⟩⟩
   refine ite2 (fun hm0=>?a) (fun hm0=>?b)
   case' a =>
    refine⟨_,rfl,.int ⟨_,rfl,?_⟩⟩
    refine ite2 (fun h9=>?c) (fun h9=>?d)
    case c =>
     have h9:(m:Int)<9:=of_decide_eq_true h9
     refine⟨_,rfl,_,rfl,by omega,by omega,?_⟩
     refine comp_range (fun D i acc σ' H'=>∃o,σ'=[o,some (.str z),some (.int (tn:Int))]/\acc=List.map V.str ((List.range i).map fun k=>Txt.slice z none (some (((tn+3 * k) % 8+1:Nat):Int)))/\PenV H' p a/\But p H H'/\H D=none/\p≠D) fun D hD=>⟨?_,?_,?_⟩
     ·have hDp:=v9.ne hD
      have hD0:=b9.free (Ne.symm hDp) hD
      exact⟨none,rfl,rfl,v9.upd hDp,b9.at hD0,hD0,hDp⟩
     ·rintro i acc σ' H' hi ⟨o,rfl,rfl,v,b,hD0,hDp⟩ hacc
      refine gYes ?_
      refine⟨_,rfl,_,rfl,_,rfl,_,_,rfl,rfl,.inl ⟨by decide,by decide⟩,.int ⟨_,_,rfl,rfl,(by show (0:Int)<_;decide),.int ⟨_,rfl,.str hz ?_⟩⟩⟩
      rw[show ((tn:Int)+3 * (0+(i:Nat):Int)) % 8+1=(((tn+3 * i) % 8+1:Nat):Int) by omega]
      refine⟨hacc,?_,_,rfl,?_,v.upd hDp,b.at hD0,hD0,hDp⟩
      ·rw[List.length_map,List.length_map,List.length_range];exact small1000 (by simp at hi;omega)
      ·rw[range_snoc,List.map_append];rfl
     ·rintro acc σ' H' ⟨o,rfl,rfl,v,b,hD0,hDp⟩ hacc
      have hmm:((m:Int)-0).toNat=m:=by omega
      refine fin D _ H' hacc (by simp) (nodup_by _ _ fun i j hij hj e=>?_) (fun s hs=>?_) hD0 hDp v b
      ·have e:=congrArg Str.length e
       rw[slice_to (by omega),slice_to (by omega)] at e
       simp at hj
       omega
      ·obtain⟨i,hi,rfl⟩:=mem_by hs
       have hl:=slice_to (z:=z) (j:=(tn+3 * i) % 8+1) (by omega)
       exact(hj.slice _ _).nm (by rw[hl];omega) (by rw[hl];omega)
   all_goals
    refine⟨_,rfl,.sc rfl ⟨_,rfl,?_⟩⟩
    refine ite2 (fun hm1=>?_) (fun hm1=>?_)
    refine⟨_,rfl,.int ⟨_,rfl,?_⟩⟩
    refine ite2 (fun h18=>?_) (fun h18=>?_)
    ·
        have h18:(m:Int)<18:=of_decide_eq_true h18
        refine⟨_,rfl,_,rfl,by omega,by omega,?_⟩
        refine comp_range (fun D i acc σ' H'=>∃o,σ'=[o,some (.ref lw),some (.int (tn:Int))]/\acc=List.map V.str ((List.range i).map fun k=>wordsL.getD ((tn+k) % 17) "")/\H' lw=some (.lst (List.map V.str wordsL))/\PenV H' p a/\But p H H'/\H D=none/\p≠D/\lw≠D) fun D hD=>⟨?_,?_,?_⟩
        ·have hDp:=v9.ne hD
         have hD0:=b9.free (Ne.symm hDp) hD
         have hwD:=ne_of_none hw9 hD
         exact⟨none,rfl,rfl,by rw[upd_ne hwD];exact hw9,v9.upd hDp,b9.at hD0,hD0,hDp,hwD⟩
        ·rintro i acc σ' H' hi ⟨o,rfl,rfl,hw,v,b,hD0,hDp,hwD⟩ hacc
         refine gYes ?_
         refine⟨_,rfl,_,rfl,_,rfl,.int ⟨_,_,rfl,rfl,(by show (0:Int)<_;decide),?_⟩⟩
         refine .lst (.of hw) (show atI _ (((tn:Int)+(0+(i:Nat):Int)) % 17)=some (.str (wordsL.getD ((tn+i) % 17) "")) from by
          rw[show ((tn:Int)+(0+(i:Nat):Int)) % 17=(((tn+i) % 17:Nat):Int) by omega]
          exact str_at (by omega)) ⟨hacc,?_,_,rfl,?_,by rw[upd_ne hwD];exact hw,v.upd hDp,b.at hD0,hD0,hDp,hwD⟩
         ·rw[List.length_map,List.length_map,List.length_range];exact small1000 (by simp at hi;omega)
         ·rw[range_snoc,List.map_append];rfl
        ·rintro acc σ' H' ⟨o, rfl, rfl, hw, v, b, hD0, hDp, hwD⟩ hacc
         refine fin D _ H' hacc (by simp) (nodup_by _ _ fun i j hij hj e=>?_) (fun s hs=>?_) hD0 hDp v b
         ·have e:=words_nd wordsL words_nodup (by omega) (by omega) e
          simp at hj
          omega
         ·obtain⟨i,hi,rfl⟩:=mem_by hs
          have hlt:(tn+i) % 17<wordsL.length:=by omega
          have hmem:wordsL.getD ((tn+i) % 17) ""∈wordsL:=by
           rw[List.getD_eq_getElem?_getD,List.getElem?_eq_getElem hlt]
           exact List.getElem_mem hlt
          exact isNm_iff.mp (words_nm _ hmem)
    all_goals
     refine⟨_,rfl,_,rfl,by omega,by omega,?_⟩
     refine comp_range (fun D i acc σ' H'=>∃o,σ'=[o,some (.str letters),some (.int (tn:Int))]/\acc=List.map V.str ((List.range i).map fun k=>abc (((tn+5 * k) % 26:Nat):Int))/\PenV H' p a/\But p H H'/\H D=none/\p≠D) fun D hD=>⟨?_,?_,?_⟩
     ·have hDp:=v9.ne hD
      have hD0:=b9.free (Ne.symm hDp) hD
      exact⟨none,rfl,rfl,v9.upd hDp,b9.at hD0,hD0,hDp⟩
     ·rintro i acc σ' H' hi ⟨o,rfl,rfl,v,b,hD0,hDp⟩ hacc
      refine gYes ?_
      refine⟨_,rfl,_,rfl,_,rfl,_,_,rfl,rfl,.inl ⟨by decide,by decide⟩,.int ⟨_,_,rfl,rfl,(by show (0:Int)<_;decide),?_⟩⟩
      refine .str lL (show atI _ (((tn:Int)+5 * (0+(i:Nat):Int)) % 26)=some (97+(((tn+5 * i) % 26:Nat):Int).toNat) from by
       rw[show ((tn:Int)+5 * (0+(i:Nat):Int)) % 26=(((tn+5 * i) % 26:Nat):Int) by omega]
       exact abc_at (by omega) (by omega)) ⟨hacc,?_,_,rfl,?_,v.upd hDp,b.at hD0,hD0,hDp⟩
      ·rw[List.length_map,List.length_map,List.length_range];exact small1000 (by simp at hi;omega)
      ·rw[range_snoc,List.map_append];rfl
     ·rintro acc σ' HA ⟨o, rfl, rfl, vA, bA, hDA, hpA⟩ hacc
      have hmm:((m:Int)-0).toNat=m:=by omega
      have hacc:HA D=some (.lst (List.map V.str ((List.range m).map fun k=>abc (((tn+5 * k) % 26:Nat):Int)))):=by first | exact hacc | (rw[hmm] at hacc;exact hacc)
      refine⟨_,rfl,.int ⟨_,rfl,?_⟩⟩
      refine ite2 (fun h27=>?_) (fun h27=>?_)
      ·have h27:(m:Int)<27 := of_decide_eq_true h27
       refine⟨_,rfl,_,rfl,⟨_,.of hacc⟩,?_⟩
       refine comp_list (List.map V.str ((List.range m).map fun k=>abc (((tn+5 * k) % 26:Nat):Int))) (fun D i acc σ' H'=>∃o,σ'=[o,some (.str z),some (.int (1+(sz:Int))),some (.int (at_:Int))]/\acc=List.map V.str ((List.range i).map fun k=>Txt.slice z none (some (at_:Int))++abc (((tn+5 * k) % 26:Nat):Int)++Txt.slice z (some ((at_:Int)+1)) (some (1+(sz:Int))))/\Same HA H'/\HA D=none) fun D hD=>⟨?_,?_,?_,?_⟩
       ·exact⟨none,rfl,rfl,Same.new hD,hD⟩
       ·rintro i acc σ' H' _ ⟨o,rfl,_,sm,_⟩ _
        exact .of (sm _ _ hacc)
       ·rintro i acc σ' H' x hx ⟨o,rfl,rfl,sm,hD0⟩ hacc'
        rw[List.getElem?_map,List.getElem?_map] at hx
        have hil:i<m:=by
         by_cases q:i<m
         ·exact q
         ·rw[List.getElem?_eq_none (by rw[List.length_range];omega)] at hx;cases hx
        rw[List.getElem?_range hil] at hx
        have hx:V.str (abc (((tn+5 * i) % 26:Nat):Int))=x:=Option.some.inj hx
        subst hx
        refine gYes ?_
        have l1:=slice_toL z at_
        have l2:=slice_len z (at_+1) (1+sz)
        rw[show ((at_+1:Nat):Int)=(at_:Int)+1 by omega,show ((1+sz:Nat):Int)=1+(sz:Int) by omega] at l2
        have sl8:8<=sizeLine:=by decide
        refine⟨_,rfl,_,rfl,_,rfl,.str hz ⟨_,rfl,.str ?_ ⟨_,rfl,_,rfl,.int ⟨_,rfl,_,rfl,_,rfl,.str hz (.str ?_ ⟨hacc',?_,_,rfl,?_,?_,hD0⟩)⟩⟩⟩⟩
        ·rw[abc_len];omega
        ·rw[len_app,abc_len];omega
        ·rw[List.length_map,List.length_map,List.length_range];exact small1000 (by omega)
        ·rw[range_snoc,List.map_append];rfl
        ·exact same_at sm hD0
       ·rintro acc σ' H' ⟨o,rfl,rfl,sm,hD0⟩ hacc'
        rw[List.length_map,List.length_map,List.length_range] at hacc'
        refine fin _ _ H' hacc' (by simp) (nodup_by _ _ fun i j hij hj e=>?_) (fun s hs=>?_) (bA.free (Ne.symm (vA.ne hD0)) hD0) (vA.ne hD0) (penSame sm vA) (bA.trans (But.of_same sm))
        ·have e:=mid_inj e
         omega
        ·obtain⟨i,hi,rfl⟩:=mem_by hs
         have l1:=slice_to (z:=z) (j:=at_) (by omega)
         have l2:=slice_len z (at_+1) (1+sz)
         rw[show ((at_+1:Nat):Int)=(at_:Int)+1 by omega,show ((1+sz:Nat):Int)=1+(sz:Int) by omega] at l2
         refine(((hj.slice _ _).app (abc_lo (by omega) (by omega))).app (hj.slice _ _)).nm ?_ ?_
         ·rw[len_app,len_app,abc_len];omega
         ·rw[len_app,len_app,abc_len];omega
      ·have h27:¬ (m:Int)<27 := fun q => h27 (decide_eq_true q)
       refine⟨_,rfl,_,rfl,_,_,rfl,rfl,(by show (0:Int)<_;decide),_,rfl,.str hz ?_⟩
       refine⟨_,rfl,_,rfl,_,_,rfl,rfl,(by show (0:Int)<_;decide),_,rfl,_,rfl,_,_,rfl,rfl,(by show (0:Int)<_;decide),_,rfl,.str hz ?_⟩
       have t1:=slice_toL z (at_ % 6)
       have t2:=slice_len z (at_ % 6) ((1+sz) % 7)
       rw[show ((at_ % 6:Nat):Int)=(at_:Int) % 6 by omega] at t1 t2
       rw[show (((1+sz) % 7:Nat):Int)=(1+(sz:Int)) % 7 by omega] at t2
       have g1:=hj.slice none (some ((at_:Int) % 6))
       have g2:=hj.slice (some ((at_:Int) % 6)) (some ((1+(sz:Int)) % 7))
       have ht:(Txt.slice z none (some ((at_:Int) % 6))).length+(Txt.slice z (some ((at_:Int) % 6)) (some ((1+(sz:Int)) % 7))).length<=6:=by omega
       have sl8:8<=sizeLine:=by decide
       refine⟨_,rfl,_,rfl,by omega,by omega,?_⟩
       generalize Txt.slice z none (some ((at_:Int) % 6))=hd at t1 g1 ht ⊢
       generalize Txt.slice z (some ((at_:Int) % 6)) (some ((1+(sz:Int)) % 7))=tl at t2 g2 ht ⊢
       refine comp_range (fun D' i acc σ' H'=>∃o,σ'=[o,some (.str tl),some (.str hd),some (.str letters),some (.ref D)]/\acc=List.map V.str ((List.range i).map fun k=>hd++abc (((tn+5 * k) % 26:Nat):Int)++abc ((k / 26:Nat):Int)++tl)/\Same HA H'/\HA D'=none) fun D' hD'=>⟨?_,?_,?_⟩
       ·exact⟨none,rfl,rfl,Same.new hD',hD'⟩
       ·rintro i acc σ' H' hi ⟨o,rfl,rfl,sm,hD0'⟩ hacc'
        have hi:i<m:=by simpa using hi
        refine gYes ?_
        refine⟨_,rfl,_,rfl,_,rfl,.lst (.of (sm _ _ hacc)) (show atI _ (0+(i:Nat):Int)=some (.str (abc (((tn+5 * i) % 26:Nat):Int))) from by
         rw[Int.zero_add,str_at (by simpa using hi),getD_by hi]) (.str (by rw[abc_len];omega) ⟨_,rfl,_,rfl,_,_,rfl,rfl,⟨by decide,by decide⟩,.str lL (show atI _ ((0+(i:Nat):Int) / 26)=some (97+((i / 26:Nat):Int).toNat) from by
         rw[show (0+(i:Nat):Int) / 26=((i / 26:Nat):Int) by omega]
         exact abc_at (by omega) (by omega)) (.str ?_ ⟨_,rfl,.str ?_ ⟨hacc',?_,_,rfl,?_,?_,hD0'⟩⟩)⟩)⟩
        ·rw[len_app,abc_len];show _+1+1<=sizeLine;omega
        ·rw[len_app,len_app,abc_len];show _+1+1+_<=sizeLine;omega
        ·rw[List.length_map,List.length_map,List.length_range];exact small1000 (by omega)
        ·rw[range_snoc,List.map_append];rfl
        ·exact same_at sm hD0'
       ·rintro acc σ' H' ⟨o,rfl,rfl,sm,hD0'⟩ hacc'
        have hacc':H' D'=some (.lst (List.map V.str ((List.range m).map fun k=>hd++abc (((tn+5 * k) % 26:Nat):Int)++abc ((k / 26:Nat):Int)++tl))):=by first | exact hacc' | (rw[hmm] at hacc';exact hacc')
        refine fin D' _ H' hacc' (by simp) (nodup_by _ _ fun i j hij hj e=>?_) (fun s hs=>?_) (bA.free (Ne.symm (vA.ne hD0')) hD0') (vA.ne hD0') (penSame sm vA) (bA.trans (But.of_same sm))
        ·obtain⟨e1,e2⟩:=mid2_inj e
         omega
        ·obtain⟨i,hi,rfl⟩:=mem_by hs
         refine(((g1.app (abc_lo (by omega) (by omega))).app (abc_lo (by omega) (by omega))).app g2).nm ?_ ?_
         ·rw[len_app,len_app,len_app,abc_len];omega
         ·rw[len_app,len_app,len_app,abc_len,abc_len];omega
end
end K39
namespace K39
open PySem L2
section
variable {P:Program}{w:World}{K:W.Frag}{mg:Str->Option Value}{base:Heap}
theorem pair_get {H:Hp}{refs:List V}{ps:List (Str × Str)}(rp:RepAll H refs (ps.map pairD)) {j:Nat}{x:V}(hx:refs[j]? = some x):∃e ta,ps[j]? = some e/\x=.ref ta/\H ta=some (.tup [.str e.1,.str e.2]):=by
 obtain⟨d,hd,rd⟩:=rp.get hx
 rw[List.getElem?_map] at hd
 cases q:ps[j]? with
 | none=>rw[q] at hd;cases hd
 | some e =>
  rw[q] at hd
  have hd:pairD e=d:=Option.some.inj hd
  rw[<- hd] at rd
  obtain⟨ta,h1,h2⟩:=pair_at rd
  exact⟨e,ta,rfl,h1,h2⟩
theorem str_get {ss:List Str}{i:Nat}{x:V}(h:(List.map V.str ss)[i]? = some x):∃s,ss[i]? = some s/\V.str s=x:=by
 rw[List.getElem?_map] at h
 cases q:ss[i]? with
 | none=>rw[q] at h;cases h
 | some e=>rw[q] at h;exact⟨e,rfl,Option.some.inj h⟩
theorem gYes2 {x:V}{q:Addr}{u v:V}{σ:St}{H:Hp}{A B:St->Hp->Prop}(hx:x=.ref q) (hq:SqT K H q [u,v]) (h:A ((σ.set 0 (some u)).set 1 (some v)) H) :
    gTup K 2 (gCons (gName 0) (gCons (gName 1) gNil)) x σ H fun σ2 H3=>tYes σ2 H3 fun b H4=>if b=true then A σ2 H4 else B σ2 H4:=by
 subst hx
 refine⟨q,_,rfl,hq,rfl,_,_,rfl,_,_,rfl,rfl,?_⟩
 show (if true=true then A ((σ.set 0 (some u)).set 1 (some v)) H else B ((σ.set 0 (some u)).set 1 (some v)) H)
 rw[if_pos rfl]
 exact h
theorem penAt {H:Hp}{p a:Addr}(v:PenV H p a):∃ys,H p=some (.lst ys):=let ⟨_,_,e,_⟩:=v;⟨_,e⟩
theorem mem_getD {ss:List Str}{i:Nat}(h:i<ss.length):ss.getD i ""∈ss:=by
 rw[List.getD_eq_getElem?_getD,List.getElem?_eq_getElem h]
 exact List.getElem_mem h
end
end K39
namespace K39
open PySem L2
section
variable {P:Program}{w:World}{K:W.Frag}{mg:Str->Option Value}{base:Heap}
def spAround:Sp:=fun vs H Q _=>∃a us ks,vs=[.ref a]/\Rep H (.ref a) (knotsD ks)/\Tre us ks/\∀d kvs H',Same H H'->H d=none->H' d=some (.dK kvs)->ArK kvs us ks->Q (.ref d) H'
theorem ok_around {f:Addr}{fd:FuncData}(F:Fun K "_law_around" "_law_around" sAround f fd) (B:Blt mg):FnOk P w K mg base CX0 1 f fd ["_law_knots"] spAround := by
 refine F.ok1 ["_law_knots","_law_found","_law_name","_law_some","_law_unit"] fun nd H Q E hr h=>?_
 obtain⟨a,us,ks,rfl,R,T,k⟩:=h
 refine⟨_,(pss_cons (pst 1 nd pe_dnewK)
  (pss_cons (ps_for PassesOwn.never rfl (pi_tupK K (pv 0)) (pg_tupK (n:=2) K rfl (pgs_cons (pg_name (i:=2) nd rfl (Or.inl rfl)) (pgs_cons (pg_name (i:=3) nd rfl (Or.inl rfl)) pgs_nil))) (pss_one (ps_for PassesOwn.never rfl (pi_tupK K (pv 3)) (pg_name (i:=4) nd rfl (Or.inl rfl)) (pss_one (ps_asg (pv 2) (pg_sub (pv 1) (pv 4) (set_X hr.units)))))))
  (pss_one (ps_ret (pv 1))))),?_⟩
 obtain⟨a',refs,e0,ha,rp⟩:=knots_at R
 cases e0
 have rlen:=rp.len
 rw[List.length_map] at rlen
 have k60:(kids ks).length<=60:=by rw[T.perm.length_eq];exact T.len
 intro d hd
 have s0:=Same.new (o:=.dK []) hd
 refine⟨_,rfl,a,rfl,⟨_,.of (s0 _ _ ha)⟩,?_⟩
 refine for_tup (xs:=refs) (fun i σ H'=>∃o2 o3 o4 kvs,σ=[some (.ref a),some (.ref d),o2,o3,o4]/\ArN H H' d ks i 0 kvs) ?_ ?_ ?_ ?_
 ·exact⟨none,none,none,[],rfl,s0,upd_same,Nat.zero_le _,(fun k hk=>by simp at hk),fun k _ u hu=>by simp at hu⟩
 ·rintro i σ H' hi ⟨o2,o3,o4,kvs,rfl,ar⟩
  exact .of (ar.sm _ _ ha)
 ·rintro i x σ H' hx ⟨o2,o3,o4,kvs,rfl,ar⟩
  obtain⟨kn,ta,la,hk,rfl,hta,hla⟩:=knot_get rp hx
  refine⟨ta,_,rfl,.of (ar.sm _ _ hta),rfl,_,_,rfl,_,_,rfl,rfl,?_⟩
  refine⟨_,rfl,la,rfl,⟨_,.of (ar.sm _ _ hla)⟩,?_⟩
  refine for_tup (xs:=kn.2.map V.str) (fun j σ H'=>∃o4 kvs,σ=[some (.ref a),some (.ref d),some (.str kn.1),some (.ref la),o4]/\ArN H H' d ks i j kvs) ?_ ?_ ?_ ?_
  ·exact⟨o4,kvs,rfl,ar⟩
  ·rintro j σ H' hj ⟨o4,kvs,rfl,ar⟩
   exact .of (ar.sm _ _ hla)
  ·rintro j y σ H' hy ⟨o4,kvs,rfl,ar⟩
   obtain⟨u,hu,rfl⟩:=str_get hy
   have hr:=ar.room hk (List.getElem?_eq_some_iff.mp hu).1 k60
   exact⟨_,rfl,_,rfl,_,rfl,.dic (DPut.k (k:=.inr u) ar.at_ (small1000 (by omega))) ⟨_,_,rfl,ar.put hd T.knd hk hu⟩⟩
  ·rintro σ H' ⟨o4,kvs,rfl,ar⟩
   rw[List.length_map] at ar
   exact⟨_,_,_,kvs,rfl,ar.next hk rfl⟩
 ·rintro σ H' ⟨o2,o3,o4,kvs,rfl,ar⟩
  exact⟨_,rfl,k d kvs H' ar.sm hd ar.at_ (ar.fin T rlen)⟩
def spHomes:Sp:=fun vs H Q _=>∃q us ks ts ws wn,vs=[.ref q]/\Rep H (.ref q) (houseD ks ts ws wn)/\Tre us ks/\∀d kvs H',Same H H'->H d=none->H' d=some (.dK kvs)->ArK kvs us ks->Q (.ref d) H'
theorem ok_homes {f:Addr}{fd:FuncData}(F:Fun K "homes" "homes" sHomes f fd) (B:Blt mg):FnOk P w K mg base CX0 1 f fd ["house"] spHomes := by
 refine F.ok1 ["house","table","knot","child"] fun nd H Q E hr h=>?_
 obtain⟨q,us,ks,ts,ws,wn,rfl,R,T,k⟩:=h
 refine⟨_,(pss_cons (pst 1 nd pe_dnewK)
  (pss_cons (ps_for PassesOwn.never rfl (pi_tupK K (px K hr (pv 0) pe_int)) (pg_name (i:=2) nd rfl (Or.inl rfl)) (pss_one (ps_for PassesOwn.never rfl (pi_tupK K (px K hr (pv 2) pe_int)) (pg_name (i:=3) nd rfl (Or.inl rfl)) (pss_one (ps_asg (px K hr (pv 2) pe_int) (pg_sub (pv 1) (pv 3) (set_X hr.units)))))))
  (pss_one (ps_ret (pv 1))))),?_⟩
 obtain⟨q',a,b,c,d4,e0,hq,R1,_⟩:=house_at R
 cases e0
 obtain⟨a',refs,e0,ha,rp⟩:=knots_at R1
 cases e0
 have rlen:=rp.len
 rw[List.length_map] at rlen
 have k60:(kids ks).length<=60:=by rw[T.perm.length_eq];exact T.len
 intro d hd
 have s0:=Same.new (o:=.dK []) hd
 refine⟨_,rfl,.tup (.of (s0 _ _ hq)) rfl ⟨a,rfl,⟨_,.of (s0 _ _ ha)⟩,?_⟩⟩
 refine for_tup (xs:=refs) (fun i σ H'=>∃o2 o3 kvs,σ=[some (.ref q),some (.ref d),o2,o3]/\ArN H H' d ks i 0 kvs) ?_ ?_ ?_ ?_
 ·exact⟨none,none,[],rfl,s0,upd_same,Nat.zero_le _,(fun k hk=>by simp at hk),fun k _ u hu=>by simp at hu⟩
 ·rintro i σ H' hi ⟨o2,o3,kvs,rfl,ar⟩
  exact .of (ar.sm _ _ ha)
 ·rintro i x σ H' hx ⟨o2,o3,kvs,rfl,ar⟩
  obtain⟨kn,ta,la,hk,rfl,hta,hla⟩:=knot_get rp hx
  refine⟨_,rfl,.tup (.of (ar.sm _ _ hta)) rfl ⟨la,rfl,⟨_,.of (ar.sm _ _ hla)⟩,?_⟩⟩
  refine for_tup (xs:=kn.2.map V.str) (fun j σ H'=>∃o3 kvs,σ=[some (.ref q),some (.ref d),some (.ref ta),o3]/\ArN H H' d ks i j kvs) ?_ ?_ ?_ ?_
  ·exact⟨o3,kvs,rfl,ar⟩
  ·rintro j σ H' hj ⟨o3,kvs,rfl,ar⟩
   exact .of (ar.sm _ _ hla)
  ·rintro j y σ H' hy ⟨o3,kvs,rfl,ar⟩
   obtain⟨u,hu,rfl⟩:=str_get hy
   have hr:=ar.room hk (List.getElem?_eq_some_iff.mp hu).1 k60
   exact⟨_,rfl,.tup (.of (ar.sm _ _ hta)) rfl ⟨_,rfl,_,rfl,.dic (DPut.k (k:=.inr u) ar.at_ (small1000 (by omega))) ⟨_,_,rfl,ar.put hd T.knd hk hu⟩⟩⟩
  ·rintro σ H' ⟨o3,kvs,rfl,ar⟩
   rw[List.length_map] at ar
   exact⟨_,_,kvs,rfl,ar.next hk rfl⟩
 ·rintro σ H' ⟨o2,o3,kvs,rfl,ar⟩
  exact⟨_,rfl,k d kvs H' ar.sm hd ar.at_ (ar.fin T rlen)⟩
end
end K39
namespace K39
open PySem L2
section
variable {P:Program}{w:World}{K:W.Frag}{mg:Str->Option Value}{base:Heap}
theorem at0 {x:Str}{r:List Str}:atI (List.map V.str (x::r)) 0=some (.str x):=atI_nat (j:=0) rfl
def spLine (f:Kn->Str->List Str):Sp:=fun vs H Q _=>∃d kvs us ks u,vs=[.ref d,.str u]/\H d=some (.dK kvs)/\ArK kvs us ks/\Tre us ks/\u∈us/\∀l H',Same H H'->H l=none->H' l=some (.lst (List.map V.str (f ks u)))->Q (.ref l) H'
theorem ok_line {f:Addr}{fd:FuncData}(F:Fun K "line_down" "line_down" sLineDown f fd) (B:Blt mg):FnOk P w K mg base CX0 1 f fd ["table", "one"] (spLine lin) := by
 refine F.ok1 ["table","one","line"] fun nd H Q E hr h=>?_
 obtain⟨d,kvs,us,ks,u,rfl,hd,ar,T,hu,k⟩:=h
 refine⟨_,(pss_cons (pst 2 nd (pe_lst (p1 (pv 1))))
  (pss_cons (ps_while PassesOwn.never (pt_cmpR (op_neX hr.units) (px K hr (pv 0) (px K hr (pv 2) (pe_un un_neg pe_int))) pe_str (nomark _)) (pss_one (ps_expr (m_append K (pv 2) (p1 (px K hr (pv 0) (px K hr (pv 2) (pe_un un_neg pe_int))))))))
  (pss_cons (ps_expr (m_reverse K (pv 2)))
  (pss_one (ps_ret (pv 2)))))),?_⟩
 refine⟨_,rfl,(szl 1),fun ll hll=>?_⟩
 have s0:=Same.new (o:=.lst [V.str u]) hll
 refine⟨fun m σ H'=>∃(x:Str) (r:List Str),m=rkU us x/\σ=[some (.ref d),some (.str u),some (.ref ll)]/\H' ll=some (.lst (List.map V.str (r.reverse++[x])))/\x∈us/\lin ks u=lin ks (parK ks x)++(x::r)/\Same H H',
  ⟨_,u,[],rfl,rfl,upd_same,hu,T.lin hu,s0⟩,?_⟩
 rintro m σ H1 ⟨x,r,rfl,rfl,hl1,hx,hlin,s1⟩
 have at1:atI (List.map V.str (r.reverse++[x])) (-1)=some (.str x):=by rw[List.map_append];exact atI_last _ _
 have pl:=T.lin_len u (.inr hu)
 have p60:=T.rk60 hu
 have hlen:=congrArg List.length hlin
 rw[List.length_append,List.length_cons] at hlen
 refine⟨_,rfl,_,rfl,_,rfl,.lst (.of hl1) at1 (.dic (.inl ⟨kvs,.inr x,.inl (s1 _ _ hd),rfl,(ar x hx).symm⟩) (.sc rfl ⟨_,rfl,?_⟩))⟩
 refine ite2 (fun h=>?_) (fun h=>?_)
 ·have hne:parK ks x≠"":=fun z=>by rw[z] at h;exact absurd h (by decide)
  have hpx:=(T.par_in hx).1.resolve_left hne
  have hrk:=T.rk hx
  refine⟨fun σ' H'=>∃(y:Str) (r:List Str),rkU us y<rkU us x/\σ'=[some (.ref d),some (.str u),some (.ref ll)]/\H' ll=some (.lst (List.map V.str (r.reverse++[y])))/\y∈us/\lin ks u=lin ks (parK ks y)++(y::r)/\Same H H',
   fun σ' H' ⟨y,r,h1,h2⟩=>⟨_,h1,y,r,rfl,h2⟩,?_⟩
  refine⟨_,rfl,.inl ⟨rfl,_,.of hl1⟩,_,rfl,_,rfl,_,rfl,.lst (.of hl1) at1 (.dic (.inl ⟨kvs,.inr x,.inl (s1 _ _ hd),rfl,(ar x hx).symm⟩) ⟨ll,_,_,rfl,rfl,hl1,by rw[List.length_map,List.length_append,List.length_reverse];exact small1000 (by show _+1<=_;omega),?_⟩)⟩
  refine⟨parK ks x,x::r,hrk,rfl,?_,hpx,?_,same_at s1 hll⟩
  ·rw[upd_same,List.reverse_cons];simp
  ·rw[hlin,T.lin hpx,List.append_assoc];rfl
 ·have hz:parK ks x="":=Classical.byContradiction fun z=>h (by rw[if_pos rfl,decide_eq_false (fun q=>z (V.str.inj q))];rfl)
  rw[hz,lin_top,List.nil_append] at hlin
  refine⟨_,rfl,.inl ⟨rfl,_,.of hl1⟩,ll,_,rfl,rfl,hl1,?_⟩
  refine⟨_,rfl,k ll _ (same_at s1 hll) hll ?_⟩
  rw[upd_same,hlin,<- List.map_reverse,List.reverse_append,List.reverse_reverse];rfl
theorem ok_path {f:Addr}{fd:FuncData}(F:Fun K "_law_path" "_law_path" sPath f fd) (B:Blt mg):FnOk P w K mg base CX0 1 f fd ["_law_around_here", "_law_unit"] (spLine fun ks u => tp (lin ks u)) := by
 refine F.ok1 ["_law_around_here","_law_unit","_law_path_here"] fun nd H Q E hr h=>?_
 obtain⟨d,kvs,us,ks,u,rfl,hd,ar,T,hu,k⟩:=h
 refine⟨_,(pss_cons (pst 2 nd (pe_lst (p1 (pv 1))))
  (pss_cons (ps_while PassesOwn.never (pt_cmpR (op_neX hr.units) (px K hr (pv 2) pe_int) pe_str (nomark _)) (pss_one (ps_expr (m_insert K (pv 2) (p2 pe_int (px K hr (pv 0) (px K hr (pv 2) pe_int)))))))
  (pss_one (ps_ret (pv 2))))),?_⟩
 refine⟨_,rfl,(szl 1),fun ll hll=>?_⟩
 have s0:=Same.new (o:=.lst [V.str u]) hll
 refine⟨fun m σ H'=>∃(x:Str) (r:List Str),m=rkU us x/\σ=[some (.ref d),some (.str u),some (.ref ll)]/\H' ll=some (.lst (List.map V.str (x::r)))/\(x=""∨x∈us)/\tp (lin ks u)=tp (lin ks x)++r/\Same H H',
  ⟨_,u,[],rfl,rfl,upd_same,.inr hu,(List.append_nil _).symm,s0⟩,?_⟩
 rintro m σ H1 ⟨x,r,rfl,rfl,hl1,hx,hlin,s1⟩
 have pl:=T.lin_len u (.inr hu)
 have p60:=T.rk60 hu
 have hlen:=congrArg List.length hlin
 rw[List.length_append,List.length_cons,List.length_cons] at hlen
 refine⟨_,rfl,.lst (.of hl1) at0 (.sc rfl ⟨_,rfl,?_⟩)⟩
 refine ite2 (fun h=>?_) (fun h=>?_)
 ·have hne:x≠"":=fun z=>by rw[z] at h;exact absurd h (by decide)
  have hx:=hx.resolve_left hne
  have hrk:=T.rk hx
  refine⟨fun σ' H'=>∃(y:Str) (r:List Str),rkU us y<rkU us x/\σ'=[some (.ref d),some (.str u),some (.ref ll)]/\H' ll=some (.lst (List.map V.str (y::r)))/\(y=""∨y∈us)/\tp (lin ks u)=tp (lin ks y)++r/\Same H H',
   fun σ' H' ⟨y,r,h1,h2⟩=>⟨_,h1,y,r,rfl,h2⟩,?_⟩
  refine⟨_,rfl,.inl ⟨rfl,_,.of hl1⟩,_,rfl,_,rfl,.lst (.of hl1) at0 (.dic (.inl ⟨kvs,.inr x,.inl (s1 _ _ hd),rfl,(ar x hx).symm⟩) ⟨ll,_,_,0,_,rfl,rfl,rfl,hl1,Nat.zero_le _,by rw[List.length_map,List.length_cons];exact small1000 (by omega),?_⟩)⟩
  refine⟨parK ks x,x::r,hrk,rfl,upd_same,(T.par_in hx).1,?_,same_at s1 hll⟩
  rw[hlin,T.lin hx]
  show ("":Str)::(_++_)++_=("":Str)::_++_
  simp
 ·have hz:x="":=Classical.byContradiction fun z=>h (by rw[if_pos rfl,decide_eq_false (fun q=>z (V.str.inj q))];rfl)
  subst hz
  refine⟨_,rfl,k ll _ s1 hll ?_⟩
  show H1 ll=some (.lst (List.map V.str (tp (lin ks u))))
  rw[hlin];exact hl1
end
end K39
namespace K39
open PySem L2
section
variable {P:Program}{w:World}{K:W.Frag}{mg:Str->Option Value}{base:Heap}
def spPartBy:Sp:=fun vs H Q _=>∃d kvs us ks u v,vs=[.ref d,.str u,.str v]/\H d=some (.dK kvs)/\ArK kvs us ks/\Tre us ks/\u∈us/\v∈us/\∀x H',Same H H'->PrtV H' x (partO ks u v)->Q x H'
theorem ok_part_by {f:Addr}{fd:FuncData}(F:Fun K "parting_by" "parting_by" sPartingBy f fd) (B:Blt mg) (Zz:mg "zip"=none) (cline_down:Cal P w K mg base 1 "line_down" ["table", "one"] (spLine lin)):FnOk P w K mg base CX0 2 f fd ["table", "one", "other"] spPartBy := by
 refine F.ok1 ["table","one","other","knot","pair"] fun nd H Q E hr h=>?_
 obtain⟨d,kvs,us,ks,u,v,rfl,hd,ar,T,hu,hv,k⟩:=h
 refine⟨_,(pss_cons (pst 3 nd pe_str)
  (pss_cons (ps_for PassesOwn.never rfl (pi_zip K rfl Zz (p2 (pc cline_down hr (p2 (pv 0) (pv 1))) (pc cline_down hr (p2 (pv 0) (pv 2))))) (pg_name (i:=4) nd rfl (Or.inl rfl)) (pss_cons (ps_if (pt_cmpR (op_neX hr.units) (px K hr (pv 4) pe_int) (px K hr (pv 4) pe_int) (nomark _)) (pss_one (ps_ret (pe_tup (pa_cons (pv 3) (p2 (px K hr (pv 4) pe_int) (px K hr (pv 4) pe_int)))))) pss_nil)
  (pss_one (pst 3 nd (px K hr (pv 4) pe_int)))))
  (pss_one (ps_ret pe_non)))),?_⟩
 refine⟨_,rfl,_,rfl,d,kvs,us,ks,u,rfl,hd,ar,T,hu,fun la H1 s1 hla0 hla=>?_⟩
 refine⟨_,rfl,_,rfl,d,kvs,us,ks,v,rfl,s1 _ _ hd,ar,T,hv,fun lb H2 s2 hlb0 hlb=>?_⟩
 have hla2:=s2 _ _ hla
 refine⟨la,lb,_,_,rfl,.of hla2,.of hlb,?_⟩
 refine for_zip (xs:=List.map V.str (lin ks u)) (ys:=List.map V.str (lin ks v)) (fun i σ H'=>∃o4,σ=[some (.ref d),some (.str u),some (.str v),some (.str ((tp (lin ks u)).getD i "")),o4]/\Same H2 H'/\partO ks u v=prt ((tp (lin ks u)).getD i "") ((lin ks u).drop i) ((lin ks v).drop i)) ?_ ?_ ?_ ?_
 ·exact⟨none,rfl,Same.refl H2,rfl⟩
 ·rintro i σ H' hi ⟨o4,rfl,sm,_⟩
  exact⟨.of (sm _ _ hla2),.of (sm _ _ hlb)⟩
 ·rintro i x y p σ H' hxy ⟨o4,rfl,sm,hp⟩ hpn
  rw[List.getElem?_zip_eq_some] at hxy
  obtain⟨x,hx,rfl⟩:=str_get hxy.1
  obtain⟨y,hy,rfl⟩:=str_get hxy.2
  have sp:=Same.new (o:=.tup [V.str x,V.str y]) hpn
  have ep:upd H' p (.tup [V.str x,V.str y]) p=some (.tup [V.str x,V.str y]):=upd_same
  have l1:=List.getElem?_eq_some_iff.mp hx
  have l2:=List.getElem?_eq_some_iff.mp hy
  rw[List.drop_eq_getElem_cons l1.1,List.drop_eq_getElem_cons l2.1,l1.2,l2.2] at hp
  have hp:partO ks u v=if x=y then prt x ((lin ks u).drop (i+1)) ((lin ks v).drop (i+1)) else some ((tp (lin ks u)).getD i "",x,y):=hp
  refine⟨_,rfl,.tup (.of ep) rfl ⟨_,rfl,.tup (.of ep) rfl (.sc rfl ⟨_,rfl,?_⟩)⟩⟩
  refine ite2 (fun h=>?_) (fun h=>?_)
  ·have hne:x≠y:=fun z=>by rw[z,if_pos rfl,decide_eq_true rfl] at h;cases h
   rw[if_neg hne] at hp
   refine⟨_,rfl,_,rfl,.tup (.of ep) rfl ⟨_,rfl,.tup (.of ep) rfl ⟨(szl 3),fun t ht=>?_⟩⟩⟩
   refine k (.ref t) _ (((s1.trans s2).trans sm).trans (sp.trans (Same.new ht))) ?_
   rw[hp]
   exact⟨t,rfl,upd_same⟩
  ·have he:x=y:=Classical.byContradiction fun z=>h (by rw[if_pos rfl,decide_eq_false (fun q=>z (V.str.inj q))];rfl)
   rw[if_pos he] at hp
   have e:(tp (lin ks u)).getD (i+1) ""=x:=by rw[List.getD_eq_getElem?_getD];show ((lin ks u)[i]?).getD ""=x;rw[hx];rfl
   refine⟨_,rfl,.tup (.of ep) rfl ⟨some (.ref p),?_,sm.trans sp,?_⟩⟩
   ·rw[e];rfl
   ·rw[e];exact hp
 ·rintro σ H' ⟨o4, rfl, sm, hp⟩
  have hn:partO ks u v=none:=by
   rw[hp,List.length_zip,List.length_map,List.length_map]
   by_cases q:(lin ks u).length<=(lin ks v).length
   ·rw[List.drop_of_length_le (l:=lin ks u) (by omega)];rfl
   ·rw[List.drop_of_length_le (l:=lin ks v) (by omega)]
    cases (lin ks u).drop (min (lin ks u).length (lin ks v).length) <;> rfl
  refine k .non H' ((s1.trans s2).trans sm) ?_
  rw[hn];rfl
theorem ok_lpart {f:Addr}{fd:FuncData}(F:Fun K "_law_parting" "_law_parting" sLawParting f fd) (B:Blt mg) (c_law_path:Cal P w K mg base 1 "_law_path" ["_law_around_here", "_law_unit"] (spLine fun ks u => tp (lin ks u))):FnOk P w K mg base CX0 2 f fd ["_law_around_here", "_law_one", "_law_other"] spPartBy := by
 refine F.ok1 ["_law_around_here","_law_one","_law_other","_law_here","_law_there","_law_at"] fun nd H Q E hr h=>?_
 obtain⟨d,kvs,us,ks,u,v,rfl,hd,ar,T,hu,hv,k⟩:=h
 refine⟨_,(pss_cons (pst 3 nd (pc c_law_path hr (p2 (pv 0) (pv 1))))
  (pss_cons (pst 4 nd (pc c_law_path hr (p2 (pv 0) (pv 2))))
  (pss_cons (pst 5 nd pe_int)
  (pss_cons (ps_while PassesOwn.never (PW.pt (pw_and (pt_cmpR op_ltX (pv 5) (b_min rfl B (p2 (b_len K B (p1 (pv 3))) (b_len K B (p1 (pv 4))))) (nomark _)) (pw_and1 (pt_cmpR (op_eqX hr.units) (px K hr (pv 3) (pv 5)) (px K hr (pv 4) (pv 5)) (nomark _))))) (pss_one (pst 5 nd (pe_op op_addX (pv 5) pe_int))))
  (pss_cons (ps_if (pt_cmpR (op_eqX hr.units) (pv 5) (b_min rfl B (p2 (b_len K B (p1 (pv 3))) (b_len K B (p1 (pv 4))))) (nomark _)) (pss_one (ps_ret pe_non)) pss_nil)
  (pss_one (ps_ret (pe_tup (pa_cons (px K hr (pv 3) (pe_op op_sub (pv 5) pe_int)) (p2 (px K hr (pv 3) (pv 5)) (px K hr (pv 4) (pv 5)))))))))))),?_⟩
 refine⟨_,rfl,_,rfl,d,kvs,us,ks,u,rfl,hd,ar,T,hu,fun la H1 s1 hla0 hla=>?_⟩
 refine⟨_,rfl,_,rfl,d,kvs,us,ks,v,rfl,s1 _ _ hd,ar,T,hv,fun lb H2 s2 hlb0 hlb=>?_⟩
 have hla2:=s2 _ _ hla
 have s12:=s1.trans s2
 have n1:(List.map V.str (tp (lin ks u))).length=(lin ks u).length+1:=by rw[List.length_map,List.length_cons]
 have n2:(List.map V.str (tp (lin ks v))).length=(lin ks v).length+1:=by rw[List.length_map,List.length_cons]
 refine⟨fun m σ H'=>∃i:Nat,m=(lin ks u).length+2-i/\σ=[some (.ref d),some (.str u),some (.str v),some (.ref la),some (.ref lb),some (.int (i:Int))]/\i<=min ((lin ks u).length+1) ((lin ks v).length+1)/\Gon (lin ks u) (lin ks v) i/\H'=H2,
  ⟨_,0,rfl,rfl,Nat.zero_le _,.inl rfl,rfl⟩,?_⟩
 rintro m σ H3 ⟨i,rfl,rfl,hi,gon,rfl⟩
 have emn:∀a b:Nat,(if ((b:Nat):Int)<((a:Nat):Int) then ((b:Nat):Int) else ((a:Nat):Int))=((min a b:Nat):Int):=fun a b=>by split <;> omega
 refine⟨_,rfl,_,rfl,_,_,rfl,Or.inl ⟨_,.of hla2,rfl⟩,_,rfl,_,_,rfl,Or.inl ⟨_,.of hlb,rfl⟩,_,_,rfl,.int ⟨_,rfl,?_⟩⟩
 rw[n1,n2,emn]
 have mn:∀j,j<min ((lin ks u).length+1) ((lin ks v).length+1)->∃x y,(tp (lin ks u))[j]? = some x/\(tp (lin ks v))[j]? = some y:=fun j hj =>
  ⟨_,_,List.getElem?_eq_getElem (by rw[List.length_cons];omega),List.getElem?_eq_getElem (by rw[List.length_cons];omega)⟩
 refine ite2 (fun h=>?_) (fun h=>?_)
 ·have h:(i:Int)<((min ((lin ks u).length+1) ((lin ks v).length+1):Nat):Int) := of_decide_eq_true h
  have hi:i<min ((lin ks u).length+1) ((lin ks v).length+1):=by omega
  obtain⟨x,y,hx,hy⟩:=mn i hi
  have ax:atI (List.map V.str (tp (lin ks u))) (i:Int)=some (.str x):=atI_nat (by rw[List.getElem?_map,hx];rfl)
  have ay:atI (List.map V.str (tp (lin ks v))) (i:Int)=some (.str y):=atI_nat (by rw[List.getElem?_map,hy];rfl)
  refine⟨_,rfl,_,rfl,.lst (.of hla2) ax ⟨_,rfl,_,rfl,.lst (.of hlb) ay (.sc rfl ⟨_,rfl,?_⟩)⟩⟩
  refine ite2 (fun hc=>?_) (fun hc=>?_)
  ·have he:x=y:=Classical.byContradiction fun z=>by rw[if_neg (by decide),decide_eq_false (fun q=>z (V.str.inj q))] at hc;cases hc
   subst he
   refine⟨fun σ' H'=>σ'=[some (.ref d),some (.str u),some (.str v),some (.ref la),some (.ref lb),some (.int ((i+1:Nat):Int))]/\H'=H3,fun σ' H' ⟨h1,h2⟩=>⟨(lin ks u).length+2-(i+1),by omega,i+1,rfl,h1,by omega,gon.step hx hy,h2⟩,?_⟩
   exact⟨_,rfl,.int ⟨rfl,rfl⟩⟩
  ·have hne:x ≠ y := fun z => hc (by rw[z, if_neg (by decide), decide_eq_true rfl])
   obtain⟨h1,hp⟩:=gon.part hx hy hne
   refine⟨_,rfl,_,rfl,_,_,rfl,Or.inl ⟨_,.of hla2,rfl⟩,_,rfl,_,_,rfl,Or.inl ⟨_,.of hlb,rfl⟩,_,_,rfl,.sc rfl ⟨_,rfl,?_⟩⟩
   rw[n1,n2,emn]
   refine ite2 (fun h=>?_) (fun _=>?_)
   ·exfalso
    have h:V.int (i:Int)=V.int ((min ((lin ks u).length+1) ((lin ks v).length+1):Nat):Int):=of_decide_eq_true h
    have:=V.int.inj h
    omega
   ·have aq:atI (List.map V.str (tp (lin ks u))) ((i:Int)-1)=some (.str ((tp (lin ks u)).getD (i-1) "")):=by
       rw[show (i:Int)-1=((i-1:Nat):Int) by omega]
       exact str_at (by rw[List.length_cons];omega)
    refine⟨_,rfl,_,rfl,_,_,rfl,rfl,.lst (.of hla2) aq ⟨_,rfl,_,rfl,.lst (.of hla2) ax ⟨_,rfl,_,rfl,.lst (.of hlb) ay ⟨(szl 3),fun t ht=>?_⟩⟩⟩⟩
    refine k (.ref t) _ (s12.trans (Same.new ht)) ?_
    show PrtV _ _ (prt "" (lin ks u) (lin ks v))
    rw[hp]
    exact⟨t,rfl,upd_same⟩
 ·have h:¬ (i:Int)<((min ((lin ks u).length+1) ((lin ks v).length+1):Nat):Int):=fun z=>h (decide_eq_true z)
  have hz:=gon.stop (by omega)
  refine iteF ?_
  refine⟨_,rfl,_,rfl,_,_,rfl,Or.inl ⟨_,.of hla2,rfl⟩,_,rfl,_,_,rfl,Or.inl ⟨_,.of hlb,rfl⟩,_,_,rfl,.sc rfl ⟨_,rfl,?_⟩⟩
  rw[n1,n2,emn]
  refine ite2 (fun _=>?_) (fun h2=>?_)
  ·refine k .non H3 s12 ?_
   show PrtV _ _ (prt "" (lin ks u) (lin ks v))
   rw[hz];rfl
  ·exfalso
   refine h2 ?_
   rw[if_neg (by decide),decide_eq_true_iff]
   congr 1
   omega
end
end K39
namespace K39
open PySem L2
section
variable {P:Program}{w:World}{K:W.Frag}{mg:Str->Option Value}{base:Heap}
def Dpt (ks:Kn) (dp:Int):Prop:=∃d:Str->Nat,d ""=0/\(∀k∈ks,∀u∈k.2,u∈ks.map (·.1)->d u=d k.1+1)/\∀k∈ks,(d k.1:Int)<=dp
structure Lvl (lv:List (Key × V)) (dp:Int) (ks:Kn):Prop where
 has:∀k∈ks,∃m:Nat,valV lv (.inr k.1)=some (.int (m:Int))/\(m:Int)<=dp
 up:∀k∈ks,∀u∈k.2,u∈ks.map (·.1)->∀m:Nat,valV lv (.inr k.1)=some (.int (m:Int))->valV lv (.inr u)=some (.int ((m:Int)+1))
 top:valV lv (.inr "")=some (.int 0)
theorem Lvl.start {dp:Int}(h:0<=dp):Lvl [(.inr "",.int 0)] dp [("",[])] :=
 ⟨fun k hk=>by rw[List.mem_singleton.mp hk];exact⟨0,rfl,h⟩,fun k hk u hu=>(by rw[List.mem_singleton.mp hk] at hu;cases hu),rfl⟩
theorem Lvl.set {lv:List (Key × V)}{dp:Int}{ks:Kn}{j:Nat}{nm u:Str}{ch c2:List Str}(h:Lvl lv dp ks) (hj:ks[j]? = some (nm, ch)) (hu:u ∉ ks.map (·.1)) (hc:∀x ∈ c2, x=u ∨ x ∈ ch):Lvl lv dp (ks.set j (nm, c2)) := by
 have en:(ks.set j (nm,c2)).map (fun k=>k.1)=ks.map fun k=>k.1:=set_same hj rfl
 have old:∀k∈ks.set j (nm,c2),∃k'∈ks,k'.1=k.1/\∀x∈k.2,x=u∨x∈k'.2:=fun k hk=>by
  rcases List.mem_or_eq_of_mem_set hk with hk | rfl
  ·exact⟨k,hk,rfl,fun x hx=>.inr hx⟩
  ·exact⟨(nm,ch),List.mem_of_getElem? hj,rfl,hc⟩
 refine⟨fun k hk=>?_,fun k hk x hx hn m hm=>?_,h.top⟩
 ·obtain⟨k',hk',e,_⟩:=old k hk
  rw[<- e];exact h.has k' hk'
 ·obtain⟨k',hk',e,q⟩:=old k hk
  rw[en] at hn
  rcases q x hx with rfl | q
  ·exact absurd hn hu
  ·rw[<- e] at hm
   exact h.up k' hk' x q hn m hm
theorem Lvl.knot {lv:List (Key × V)}{dp:Int}{ks:Kn}{lm:Nat}{nm u:Str}{ch:List Str}(h:Lvl lv dp ks) (hu:u ∉ ks.map (·.1)) (nu:u ≠ "") (hk:(nm, ch) ∈ ks) (huc:u ∈ ch) (nd:(kids ks).Nodup) (hm:valV lv (.inr nm)=some (.int (lm:Int))) (hd:(lm:Int)<dp) (c:Nat):Lvl (putK lv (.inr u) (.int ((lm:Int)+1))) dp (ks.take c ++ (u, []) :: ks.drop c) := by
 have val:∀x:Str,x≠u->valV (putK lv (.inr u) (.int ((lm:Int)+1))) (.inr x)=valV lv (.inr x):=fun x hx=>by
  rw[valV_put,if_neg (fun z=>hx (by injection z))]
 have valu:valV (putK lv (.inr u) (.int ((lm:Int)+1))) (.inr u)=some (.int ((lm:Int)+1)):=by rw[valV_put,if_pos rfl]
 have nk:∀k∈ks,k.1≠u:=fun k hk z=>hu (z ▸ List.mem_map.mpr ⟨k,hk,rfl⟩)
 refine⟨fun k hk'=>?_,fun k hk' x hx hn m hm'=>?_,by rw[val _ (Ne.symm nu)];exact h.top⟩
 ·rcases ins_mem hk' with rfl | hk'
  ·exact⟨lm+1,valu,by omega⟩
  ·rw[val _ (nk k hk')];exact h.has k hk'
 ·rcases ins_mem hk' with rfl | hk2
  ·cases hx
  ·rw[val _ (nk k hk2)] at hm'
   by_cases q:x=u
   ·subst q
    have e:k=(nm,ch):=kids_uniq nd hk2 hk hx huc
    subst e
    rw[hm] at hm'
    have e:(lm:Int)=(m:Int):=V.int.inj (Option.some.inj hm')
    rw[valu,e]
   ·rw[val _ q]
    refine h.up k hk2 x hx ?_ m hm'
    obtain⟨y,hy,rfl⟩:=List.mem_map.mp hn
    rcases ins_mem hy with rfl | hy
    ·exact absurd rfl q
    ·exact List.mem_map.mpr ⟨y,hy,rfl⟩
theorem Lvl.fin {lv:List (Key × V)}{dp:Int}{ks:Kn}(h:Lvl lv dp ks):Dpt ks dp:=by
 obtain⟨d,hd⟩:∃d:Str->Nat,∀x (m:Nat),valV lv (.inr x)=some (.int (m:Int))->d x=m:=⟨fun x=>match valV lv (.inr x) with | some (.int m)=>m.toNat | _=>0,fun x m hm=>by simp[hm]⟩
 refine⟨d,hd _ 0 h.top,fun k hk u hu hn=>?_,fun k hk=>?_⟩
 ·obtain⟨m,hm,_⟩:=h.has k hk
  rw[hd _ m hm,hd u (m+1) (h.up k hk u hu hn m hm)]
 ·obtain⟨m,hm,hl⟩:=h.has k hk
  rw[hd _ m hm];exact hl
def spTree (K:W.Frag):Sp:=fun vs H Q _=>∃(p a n:_) (us:List Str) (dp:Int),vs=[.ref p,.ref n,.int dp]/\Pen K H p a/\H n=some (.lst (List.map V.str us))/\n≠p/\us.Nodup/\(∀u∈us,Nm u)/\us.length<=60/\0<=dp /\
 ∀q ks H',Rep H' (.ref q) (knotsD ks)->Tre us ks->(ks.map (·.1)).head? = some ("":Str)->Dpt ks dp->PenV H' p a->But p H H'->Q (.ref q) H'
theorem ok_tree {f:Addr}{fd:FuncData}(F:Fun K "_law_tree" "_law_tree" sTree f fd) (B:Blt mg) (c_law_draw:Cal P w K mg base 1 "_law_draw" ["_law_pen_here", "_law_most"] (spDraw K)):FnOk P w K mg base CX0 2 f fd ["_law_pen_here", "_law_names_here", "_law_deep"] (spTree K) := by
 refine F.ok1 ["_law_pen_here","_law_names_here","_law_deep","_law_knots","_law_levels","_law_name","_law_knot","_law_some"] fun nd H Q E hr h=>?_
 obtain⟨p,a,n,us,dp,rfl,hP,hn,hnp,und,unm,ulen,dp0,k⟩:=h
 have v0:=hP.2
 refine⟨_,(pss_cons (pst 3 nd (pe_lst (p1 (pe_tup (p2 pe_str (pe_lst pa_nil))))))
  (pss_cons (pst 4 nd (pe_disp (pps_cons pe_str pe_int pps_nil) rfl rfl (by simp) (by decide)))
  (pss_cons (ps_for PassesOwn.never rfl (pi_listK K (pv 1)) (pg_name (i:=5) nd rfl (Or.inl rfl)) (pss_cons (ps_asg (px K hr (pv 3) (pc c_law_draw hr (p2 (pv 0) (b_len K B (p1 (pv 3)))))) (pg_tupK (n:=2) K rfl (pgs_cons (pg_name (i:=6) nd rfl (Or.inl rfl)) (pgs_cons (pg_name (i:=7) nd rfl (Or.inl rfl)) pgs_nil))))
  (pss_cons (ps_expr (m_insert K (pv 7) (p2 (pc c_law_draw hr (p2 (pv 0) (pe_op op_addX (b_len K B (p1 (pv 7))) pe_int))) (pv 5))))
  (pss_one (ps_if (PW.pt (pw_and (pt_cmpR op_ltX (px K hr (pv 4) (pv 6)) (pv 2) (nomark _)) (pw_and1 (pt_cmpR (op_eqX hr.units) (pc c_law_draw hr (p2 (pv 0) pe_int)) pe_int (nomark _))))) (pss_cons (ps_asg (pe_op op_addX (px K hr (pv 4) (pv 6)) pe_int) (pg_sub (pv 4) (pv 5) (set_X hr.units)))
  (pss_one (ps_expr (m_insert K (pv 3) (p2 (pe_op op_addX pe_int (pc c_law_draw hr (p2 (pv 0) (b_len K B (p1 (pv 3)))))) (pe_tup (p2 (pv 5) (pe_lst pa_nil)))))))) pss_nil)))))
  (pss_one (ps_ret (b_tuple K B (p1 (pe_comp (defScope sTree) ["_law_pen_here","_law_names_here","_law_deep","_law_knots","_law_levels","_law_name","_law_knot","_law_some"] ["_law_name","_law_some"] [] ["_law_name","_law_some"] rfl (pi_listK K (pv 3)) (fun _ _ _ _ _=>(pg_tupK (n:=2) K rfl (pgs_cons (pg_name (i:=0) (show (["_law_name","_law_some"]:List Str).Nodup by decide) rfl (Or.inl rfl)) (pgs_cons (pg_name (i:=1) (show (["_law_name","_law_some"]:List Str).Nodup by decide) rfl (Or.inl rfl)) pgs_nil)))) (fun _ _ _ _ _=>pts_nil) (fun _ _ _ _ _=>(pe_tup (p2 (pv 0) (b_tuple K B (p1 (pv 1)))))))))))))),?_⟩
 have nn:∀u∈us,u≠"":=fun u hu z=>by have:=(unm u hu).1;rw[z] at this;exact absurd this (by decide)
 refine⟨(szl 0),fun l0 h0=>?_⟩
 have b0:But p H (upd H l0 (.lst [])):=(But.refl p H).at h0
 have e0:upd H l0 (.lst []) l0=some (.lst []):=upd_same
 have v1:PenV (upd H l0 (.lst [])) p a:=v0.upd (v0.ne h0)
 have np0:l0≠p:=Ne.symm (v0.ne h0)
 generalize upd H l0 (.lst [])=H1 at b0 e0 v1 ⊢
 refine⟨(szl 2),fun t0 ht0=>?_⟩
 refine nw ht0 fun H2 s2 et=>?_
 have e0:=s2 _ _ e0
 have v2:=penSame s2 v1
 have b2:=b0.trans (But.of_same (p:=p) s2)
 refine⟨(szl 1),fun L hL=>?_⟩
 refine nw hL fun H3 s3 eL=>?_
 have nL0:l0≠L:=ne_of_none e0 hL
 have nLp:L≠p:=Ne.symm (v2.ne hL)
 have e0:=s3 _ _ e0
 have et:=s3 _ _ et
 have v3:=penSame s3 v2
 have b3:=b2.trans (But.of_same (p:=p) s3)
 have kls:KLs H3 L p [(t0,l0,("",[]))]:=⟨eL,fun q hq=>by rw[List.mem_singleton.mp hq];exact et,fun q hq=>by rw[List.mem_singleton.mp hq];exact e0,by simp,fun q hq=>by rw[List.mem_singleton.mp hq];exact⟨nL0,np0⟩,nLp⟩
 intro D hD
 refine⟨upd_same,[(.inr "",.int 0)],rfl,(by decide),?_⟩
 rw[upd_upd]
 have s4:=Same.new (o:=.dK (mergeK [] [((.inr "":Key),V.int 0)])) hD
 have eD:upd H3 D (.dK (mergeK [] [((.inr "":Key),V.int 0)])) D=some (.dK [((.inr "":Key),V.int 0)]):=upd_same
 have kls:=kls.same s4
 have v4:=penSame s4 v3
 have b4:=b3.trans (But.of_same (p:=p) s4)
 have hf:H D=none:=b3.free (Ne.symm (v3.ne hD)) hD
 generalize upd H3 D (.dK (mergeK [] [((.inr "":Key),V.int 0)]))=H4 at eD kls v4 b4 ⊢
 have frL:H L=none:=b2.free nLp hL
 have fr0:H l0=none:=h0
 refine⟨_,rfl,n,rfl,⟨_,.of (b4 n _ hnp hn)⟩,?_⟩
 refine for_list (xs:=List.map V.str us) (fun i σ H'=>∃(o5 o6 o7:Option V) (kl:KL) (lv:List (Key × V)),σ=[some (.ref p),some (.ref n),some (.int dp),some (.ref L),some (.ref D),o5,o6,o7]/\KLs H' L p kl/\TrN us i (ksOf kl)/\H' D=some (.dK lv)/\lv.length<=i+1/\kl.length<=i+1/\Lvl lv dp (ksOf kl)/\(∀q∈kl,H q.2.1=none)/\PenV H' p a/\But p H H'/\((ksOf kl).map fun k=>k.1).head? = some ("":Str)) ?_ ?_ ?_ ?_
 ·refine⟨none,none,none,_,_,rfl,kls,TrN.start,eD,Nat.le_refl _,Nat.le_refl _,Lvl.start dp0,fun q hq=>?_,v4,b4,rfl⟩
  ·rw[List.mem_singleton.mp hq];exact fr0
 ·rintro i σ H' hi ⟨o5,o6,o7,kl,lv,rfl,_,_,_,_,_,_,_,_,b,_⟩
  exact .of (b n _ hnp hn)
 ·rintro i x σ H5 hx ⟨o5, o6, o7, kl, lv, rfl, kls, tr, hD5, hlv, hkl, lev, frs, v5, b5, hdn⟩
  obtain⟨u,hu,rfl⟩:=str_get hx
  have hil:=(List.getElem?_eq_some_iff.mp hu).1
  have hum:=List.mem_of_getElem? hu
  obtain⟨ys5,hp5⟩:=penAt v5
  have mlk:(kl.map fun q=>V.ref q.1).length=kl.length:=List.length_map ..
  have kpos:0<kl.length:=by
   have:=List.length_pos_of_mem tr.top
   rw[List.length_map,List.length_map] at this
   exact this
  refine⟨_,rfl,_,rfl,_,rfl,_,_,rfl,Or.inl ⟨_,.of kls.l,rfl⟩,p,a,_,rfl,hP.but b5 v5,by rw[mlk];omega,by rw[mlk];omega,fun r H6 h60 h61 v6 e6=>?_⟩
  have b56:=But.of_eq e6
  have kls:=kls.draw hp5 b56
  have hD6:H6 D=some (.dK lv):=b56 D _ (ne_of hD5 hp5 (by intro z;cases z)) hD5
  have b6:=b5.trans b56
  obtain⟨j,rfl⟩:=Int.eq_ofNat_of_zero_le h60
  rw[mlk] at h61
  obtain⟨⟨ta,la,nm,ch⟩,hj⟩:∃q,kl[j]? = some q:=⟨_,List.getElem?_eq_getElem (by omega)⟩
  have hjm:=List.mem_of_getElem? hj
  have hjk:(ksOf kl)[j]? = some (nm,ch):=by rw[List.getElem?_map,hj];rfl
  have hta:=kls.t _ hjm
  have hla:=kls.c _ hjm
  have nla:=kls.nl _ hjm
  refine .lst (.of kls.l) (atI_nat (by rw[List.getElem?_map,hj];rfl)) ⟨ta,_,rfl,.of hta,rfl,_,_,rfl,_,_,rfl,rfl,?_⟩
  have chl:ch.length<=i:=by
   have h1:=tr.perm.length_eq
   rw[List.length_take] at h1
   have h3:ch.length<=(kids (ksOf kl)).length:=by
    have:=(List.sublist_flatten_of_mem (L:=(ksOf kl).map (·.2)) (List.mem_map.mpr ⟨(nm,ch),List.mem_of_getElem? hjk,rfl⟩)).length_le
    rw[<- List.flatMap_def] at this
    exact this
   omega
  have mlc:(List.map V.str ch).length=ch.length:=List.length_map ..
  obtain⟨ys6,hp6⟩:=penAt v6
  refine⟨_,rfl,.inl ⟨rfl,_,.of hla⟩,_,rfl,_,rfl,_,_,rfl,Or.inl ⟨_,.of hla,rfl⟩,.int ⟨p,a,_,rfl,hP.but b6 v6,by rw[mlc];omega,by rw[mlc];omega,fun r2 H7 h70 h71 v7 e7=>?_⟩⟩
  have b67:=But.of_eq e7
  have kls:=kls.draw hp6 b67
  have hD7:H7 D=some (.dK lv):=b67 D _ (ne_of hD6 hp6 (by intro z;cases z)) hD6
  have b7:=b6.trans b67
  have hla:=kls.c _ hjm
  obtain⟨m,rfl⟩:=Int.eq_ofNat_of_zero_le h70
  rw[mlc] at h71
  refine⟨_,rfl,la,_,_,m,_,rfl,rfl,rfl,hla,by rw[mlc];omega,by rw[mlc];exact small1000 (by omega),?_⟩
  have e8:(List.map V.str ch).take m++V.str u::(List.map V.str ch).drop m=List.map V.str (ch.take m++u::ch.drop m):=by simp[List.map_take,List.map_drop]
  rw[e8]
  have pc:=ins_perm' ch m u
  have tr2:=tr.step und hu hjk pc
  have kls:=kls.put (ch':=ch.take m++u::ch.drop m) hj
  have eks:ksOf (kl.set j (ta,la,(nm,ch.take m++u::ch.drop m)))=(ksOf kl).set j (nm,ch.take m++u::ch.drop m):=List.map_set ..
  rw[<- eks] at tr2
  have hD8:upd H7 la (.lst (List.map V.str (ch.take m++u::ch.drop m))) D=some (.dK lv):=by rw[upd_ne (ne_of hD7 hla (by intro z;cases z))];exact hD7
  have v8:=v7.upd (o:=.lst (List.map V.str (ch.take m++u::ch.drop m))) (Ne.symm nla.2)
  have b8:=b7.at (o:=.lst (List.map V.str (ch.take m++u::ch.drop m))) (frs _ hjm)
  generalize upd H7 la (.lst (List.map V.str (ch.take m++u::ch.drop m)))=H8 at kls hD8 v8 b8 ⊢
  have e1:((kl.set j (ta,la,(nm,ch.take m++u::ch.drop m))).map fun q=>q.2.1)=kl.map fun q=>q.2.1:=set_same hj rfl
  have en:((ksOf (kl.set j (ta,la,(nm,ch.take m++u::ch.drop m)))).map fun k=>k.1)=(ksOf kl).map fun k=>k.1:=by rw[eks];exact set_same hjk rfl
  have frs2:∀q∈kl.set j (ta,la,(nm,ch.take m++u::ch.drop m)),H q.2.1=none:=fun q hq=>by
   have:q.2.1∈kl.map fun q=>q.2.1:=by rw[<- e1];exact List.mem_map.mpr ⟨q,hq,rfl⟩
   obtain⟨q',hq',e⟩:=List.mem_map.mp this
   rw[<- e];exact frs q' hq'
  have hnew:u∉(ksOf (kl.set j (ta,la,(nm,ch.take m++u::ch.drop m)))).map (·.1):=fun z=>by
   rw[en] at z
   obtain⟨k',hk',e⟩:=List.mem_map.mp z
   rcases tr.sub k' hk' with q | q
   ·exact nn u hum (e.symm.trans q)
   ·rw[e] at q
    obtain⟨m',hm'⟩:=List.getElem?_of_mem q
    have hml:=(List.getElem?_eq_some_iff.mp hm').1
    rw[List.length_take] at hml
    rw[List.getElem?_take_of_lt (by omega)] at hm'
    have:=(List.getElem?_inj (by omega) und).mp (hm'.trans hu.symm)
    omega
  have hnew0:u∉(ksOf kl).map (·.1):=fun z=>hnew (by rw[en];exact z)
  have lev2:Lvl lv dp (ksOf (kl.set j (ta,la,(nm,ch.take m++u::ch.drop m)))):=by
   rw[eks]
   exact lev.set hjk hnew0 fun x hx=>(List.mem_cons.mp (pc.mem_iff.mp hx))
  have hin2:(nm,ch.take m++u::ch.drop m)∈ksOf (kl.set j (ta,la,(nm,ch.take m++u::ch.drop m))):=by
   rw[eks]
   exact List.mem_of_getElem? (i:=j) (by rw[List.getElem?_set,if_pos rfl,if_pos (List.getElem?_eq_some_iff.mp hjk).1])
  have huc2:u∈ch.take m++u::ch.drop m:=pc.mem_iff.mpr (List.mem_cons_self ..)
  have hd2:((ksOf (kl.set j (ta,la,(nm,ch.take m++u::ch.drop m)))).map fun k=>k.1).head? = some ("":Str):=by rw[en];exact hdn
  have klen2:(kl.set j (ta,la,(nm,ch.take m++u::ch.drop m))).length<=i+1:=by rw[List.length_set];exact hkl
  obtain⟨lm,hlm,_⟩:=lev.has (nm,ch) (List.mem_of_getElem? hjk)
  clear e8 eks en e1 lev frs hjk hj hjm tr hta hla nla hnew0
  generalize kl.set j (ta,la,(nm,ch.take m++u::ch.drop m))=kl2 at kls tr2 frs2 lev2 hnew klen2 hd2 hin2
  have fin:∀H',KLs H' L p kl2->H' D=some (.dK lv)->PenV H' p a->But p H H'->∃(o5 o6 o7:Option V) (kl:KL) (lv:List (Key × V)),[some (V.ref p),some (.ref n),some (.int dp),some (.ref L),some (.ref D),some (.str u),some (.str nm),some (.ref la)]=[some (V.ref p),some (.ref n),some (.int dp),some (.ref L),some (.ref D),o5,o6,o7]/\KLs H' L p kl/\TrN us (i+1) (ksOf kl)/\H' D=some (.dK lv)/\lv.length<=i+1+1/\kl.length<=i+1+1/\Lvl lv dp (ksOf kl)/\(∀q∈kl,H q.2.1=none)/\PenV H' p a/\But p H H'/\((ksOf kl).map fun k=>k.1).head? = some ("":Str) :=
   fun H' h1 h2 h3 h4=>⟨_,_,_,kl2,lv,rfl,h1,tr2,h2,by omega,by omega,lev2,frs2,h3,h4,hd2⟩
  refine⟨_,rfl,_,rfl,.dic (.inl ⟨lv,.inr nm,.inl hD8,rfl,hlm.symm⟩) ⟨_,rfl,.int ⟨_,rfl,?_⟩⟩⟩
  refine ite2 (fun hlt=>?_) (fun _=>?_)
  ·have hlt:(lm:Int)<dp := of_decide_eq_true hlt
   obtain⟨ys8,hp8⟩:=penAt v8
   refine⟨_,rfl,p,a,3,rfl,hP.but b8 v8,by decide,by decide,fun r3 H9 h90 h91 v9 e9=>.sc rfl ⟨_,rfl,?_⟩⟩
   have b89:=But.of_eq e9
   have kls:=kls.draw hp8 b89
   have hD9:H9 D=some (.dK lv):=b89 D _ (ne_of hD8 hp8 (by intro z;cases z)) hD8
   have b9:=b8.trans b89
   refine ite2 (fun _=>?_) (fun _=>?_)
   ·refine⟨_,rfl,_,rfl,.dic (.inl ⟨lv,.inr nm,.inl hD9,rfl,hlm.symm⟩) (.int ⟨_,rfl,_,rfl,.dic (DPut.k (k:=.inr u) hD9 (small1000 (by omega))) ?_⟩)⟩
    have hDA:upd H9 D (.dK (putK lv (.inr u) (.int (lm+1)))) D=some (.dK (putK lv (.inr u) (.int (lm+1)))):=upd_same
    have nDp:D≠p:=ne_of hD8 hp8 (by intro z;cases z)
    have klsA:KLs (upd H9 D (.dK (putK lv (.inr u) (.int (lm+1))))) L p kl2 :=
     ⟨by rw[upd_ne (ne_of kls.l hD9 (by intro z;cases z))];exact kls.l,fun q hq=>by rw[upd_ne (ne_of (kls.t q hq) hD9 (by intro z;cases z))];exact kls.t q hq,fun q hq=>by rw[upd_ne (ne_of (kls.c q hq) hD9 (by intro z;cases z))];exact kls.c q hq,kls.nd,kls.nl,kls.lp⟩
    have vA:=v9.upd (o:=.dK (putK lv (.inr u) (.int (lm+1)))) (Ne.symm nDp)
    have bA:=b9.at (o:=.dK (putK lv (.inr u) (.int (lm+1)))) hf
    have lvA:=length_putK lv (.inr u) (V.int (lm+1))
    have levA:∀c,Lvl (putK lv (.inr u) (.int (lm+1))) dp ((ksOf kl2).take c++(u,[])::(ksOf kl2).drop c):=lev2.knot hnew (nn u hum) hin2 huc2 (tr2.perm.nodup_iff.mpr ((List.take_sublist _ _).nodup und)) hlm hlt
    clear fin kls
    generalize putK lv (.inr u) (V.int (lm+1))=lv2 at hDA klsA vA bA lvA levA ⊢
    generalize upd H9 D (.dK lv2)=HA at hDA klsA vA bA ⊢
    obtain⟨ysA,hpA⟩:=penAt vA
    have ml2:(kl2.map fun q=>V.ref q.1).length=kl2.length:=List.length_map ..
    have kpos2:0<kl2.length:=by
     have:=List.length_pos_of_mem tr2.top
     rw[List.length_map,List.length_map] at this
     exact this
    refine⟨_,rfl,.inl ⟨rfl,_,.of klsA.l⟩,_,rfl,_,rfl,_,_,rfl,Or.inl ⟨_,.of klsA.l,rfl⟩,p,a,_,rfl,hP.but bA vA,by rw[ml2];omega,by rw[ml2];omega,fun r4 HB h40 h41 vB eB=>.int ?_⟩
    have bAB:=But.of_eq eB
    have klsB:=klsA.draw hpA bAB
    have hDB:HB D=some (.dK lv2):=bAB D _ nDp hDA
    have bB:=bA.trans bAB
    obtain⟨c,rfl⟩:=Int.eq_ofNat_of_zero_le h40
    rw[ml2] at h41
    refine⟨_,rfl,(szl 0),fun ln hln=>?_⟩
    have s1:=Same.new (o:=.lst []) hln
    have el:upd HB ln (.lst []) ln=some (.lst []):=upd_same
    have nlp:ln≠p:=Ne.symm (vB.ne hln)
    have nlL:ln≠L:=Ne.symm (ne_of_none klsB.l hln)
    have nlk:ln∉kl2.map fun q=>q.2.1:=fun z=>by
     obtain⟨q,hq,e⟩:=List.mem_map.mp z
     have:=klsB.c q hq
     rw[e,hln] at this;cases this
    have frl:H ln=none:=bB.free nlp hln
    have klsC:=klsB.same s1
    have hDC:=s1 _ _ hDB
    have vC:=penSame s1 vB
    have bC:=bB.trans (But.of_same (p:=p) s1)
    generalize upd HB ln (.lst [])=HC at el klsC hDC vC bC ⊢
    refine⟨(szl 2),fun tn htn=>?_⟩
    refine nw htn fun HD s2 etn=>?_
    have el:=s2 _ _ el
    have klsD:=klsC.same s2
    have hDD:=s2 _ _ hDC
    have vD:=penSame s2 vC
    have bD:=bC.trans (But.of_same (p:=p) s2)
    refine⟨L,_,_,c+1,_,rfl,rfl,by omega,klsD.l,by rw[ml2];omega,by rw[ml2];exact small1000 (by omega),?_⟩
    have klsE:=klsD.ins (k:=c+1) etn el nlk nlL nlp
    have ek:ksOf (kl2.take (c+1)++(tn,ln,(u,[]))::kl2.drop (c+1))=(ksOf kl2).take (c+1)++(u,[])::(ksOf kl2).drop (c+1):=by simp[List.map_take,List.map_drop]
    have tr3:=tr2.knot und nn hu hnew (c+1)
    rw[<- ek] at tr3
    refine⟨_,_,_,kl2.take (c+1)++(tn,ln,(u,[]))::kl2.drop (c+1),lv2,rfl,klsE,tr3,?_,by omega,?_,by rw[ek];exact levA _,fun q hq=>?_,vD.upd (Ne.symm nLp),bD.at frL,?_⟩
    ·rw[upd_ne (ne_of hDD klsD.l (by intro z;cases z))];exact hDD
    ·rw[(ins_perm' kl2 (c+1) (tn,ln,(u,([]:List Str)))).length_eq,List.length_cons];omega
    ·rcases ins_mem hq with rfl | hq
     ·exact frl
     ·exact frs2 q hq
    ·rw[ek]
     cases hz:ksOf kl2 with
     | nil=>rw[hz] at hd2;cases hd2
     | cons k0 kr=>rw[hz] at hd2;exact hd2
   ·exact fin H9 kls hD9 v9 b9
  ·exact fin H8 kls hD8 v8 b8
 ·rintro σ H5 ⟨o5, o6, o7, kl, lv, rfl, kls, tr, hD5, hlv, hkl, lev, frs, v5, b5, hdn⟩
  rw[List.length_map] at tr hkl
  have T:=tr.fin und unm ulen
  refine⟨_,rfl,L,rfl,⟨_,.of kls.l⟩,?_⟩
  refine comp_list (kl.map fun q=>V.ref q.1) (fun D2 i acc σ' H'=>∃(o0 o1:Option V),σ'=[o0,o1]/\RepAll H' acc (((ksOf kl).take i).map knotD)/\Same H5 H'/\H5 D2=none) fun D2 hD2=>⟨?_,?_,?_,?_⟩
  ·exact⟨none,none,rfl,.nil,Same.new hD2,hD2⟩
  ·rintro i acc σ' H' _ ⟨o0,o1,rfl,_,sm,_⟩ _
   exact .of (sm _ _ kls.l)
  ·rintro i acc σ' H' v hv ⟨o0,o1,rfl,rp,sm,hD20⟩ hacc
   rw[List.getElem?_map] at hv
   obtain⟨⟨ta,la,nm,ch⟩,hq,e⟩:∃q,kl[i]? = some q/\V.ref q.1=v:=by
    cases q:kl[i]? with
    | none=>rw[q] at hv;cases hv
    | some e=>rw[q] at hv;exact⟨e,rfl,Option.some.inj hv⟩
   have hqm:=List.mem_of_getElem? hq
   have hil:=(List.getElem?_eq_some_iff.mp hq).1
   have alen:=rp.len
   rw[List.length_map,List.length_take] at alen
   refine gYes2 e.symm (.of (sm _ _ (kls.t _ hqm))) ?_
   refine⟨_,rfl,_,rfl,la,_,rfl,.of (sm _ _ (kls.c _ hqm)),fun l1 h1=>⟨(szl 2),fun t1 ht1=>?_⟩⟩
   have s1:=(Same.new (o:=.tup (List.map V.str ch)) h1).trans (Same.new (o:=.tup [V.str nm,V.ref l1]) ht1)
   have r1:Rep (upd (upd H' l1 (.tup (List.map V.str ch))) t1 (.tup [V.str nm,V.ref l1])) (.ref t1) (knotD (nm,ch)):=.tup upd_same (.cons (.str _) (.cons (.tup (Same.new ht1 _ _ upd_same) (RepAll.of_strs ch)) .nil))
   have hacc':=s1 _ _ hacc
   have rp:=rp.same s1
   have sm':=sm.trans s1
   generalize upd (upd H' l1 (.tup (List.map V.str ch))) t1 (.tup [V.str nm,V.ref l1])=H6 at hacc' rp sm' r1 ⊢
   refine⟨hacc',small1000 (by omega),_,_,rfl,?_,same_at sm' hD20,hD20⟩
   have ei:(ksOf kl)[i]? = some (nm,ch):=by rw[List.getElem?_map,hq];rfl
   rw[List.take_add_one,ei,List.map_append]
   exact RepAll.append (repBut_all (repBut_knot hacc' But.upd) rp) (.cons (repBut_knot hacc' But.upd r1) .nil)
  ·rintro acc σ' H6 ⟨o0,o1,rfl,rp,sm,hD20⟩ hacc
   rw[List.length_map,<- List.length_map (f:=fun q:Addr × Addr × (Str × List Str)=>q.2.2),List.take_of_length_le (Nat.le_refl _)] at rp
   refine⟨D2,_,rfl,.of hacc,fun q hq=>?_⟩
   have sq:=Same.new (o:=.tup acc) hq
   have s5:=sm.trans sq
   exact k q (ksOf kl) _ (.tup upd_same (rp.same sq)) T hdn lev.fin (penSame s5 v5) (b5.trans (But.of_same (p:=p) s5))
end
end K39
namespace K39
open PySem L2
section
variable {P:Program}{w:World}{K:W.Frag}{mg:Str->Option Value}{base:Heap}
def spReachL:Sp:=fun vs H Q _=>∃(wq refs:_) (ss:List Str) (ts:List (Str × Str)) (one:_),vs=[.ref wq,.str one]/\H wq=some (.lst refs)/\RepAll H refs (ts.map pairD)/\(∀e∈ts,e.1∈ss/\e.2∈ss)/\one∈ss/\ss.length<=60 /\
 ∀l (seen:List Str) H',Same H H'->H l=none->H' l=some (.lst (List.map V.str seen))->(∀t,t∈seen ↔ MG.Rch (Tie ts) one t)->seen.length<=60->Q (.ref l) H'
theorem ok_reachL {f:Addr}{fd:FuncData}(F:Fun K "_law_reached" "_law_reached" sReached f fd) (B:Blt mg):FnOk P w K mg base CX0 1 f fd ["_law_edges_here", "_law_one"] spReachL := by
 refine F.ok1 ["_law_edges_here","_law_one","_law_found","_law_at","_law_here","_law_there"] fun nd H Q E hr h=>?_
 obtain⟨wq,refs,ss,ts,one,rfl,hb,rp,hev,hone,hn,k⟩:=h
 refine⟨_,(pss_cons (pst 2 nd (pe_lst (p1 (pv 1))))
  (pss_cons (pst 3 nd pe_int)
  (pss_cons (ps_while PassesOwn.never (pt_cmpR op_ltX (pv 3) (b_len K B (p1 (pv 2))) (nomark _)) (pss_cons (ps_for PassesOwn.never rfl (pi_listK K (pv 0)) (pg_tupK (n:=2) K rfl (pgs_cons (pg_name (i:=4) nd rfl (Or.inl rfl)) (pgs_cons (pg_name (i:=5) nd rfl (Or.inl rfl)) pgs_nil))) (pss_one (ps_if (PW.pt (pw_and (pt_cmpR (op_eqX hr.units) (pv 4) (px K hr (pv 2) (pv 3)) (nomark _)) (pw_and1 (pt_cmpR (op_notInX K hr.units) (pv 5) (pv 2) (by with_unfolding_all rfl))))) (pss_one (ps_expr (m_append K (pv 2) (p1 (pv 5))))) pss_nil)))
  (pss_one (pst 3 nd (pe_op op_addX (pv 3) pe_int)))))
  (pss_one (ps_ret (pv 2)))))),?_⟩
 have rlen:=rp.len
 rw[List.length_map] at rlen
 refine⟨_,rfl,(szl 1),fun l0 hl0=>?_⟩
 have inn:∀y,MG.Rch (Tie ts) one y->y∈ss:=fun y r=>MG.Rch.closed (S:=fun y=>y∈ss) hone (fun a b _ r=>(hev _ r).2) r
 refine⟨fun m σ H'=>∃(at_:Nat) (seen:List Str) (o4 o5:Option V),m+at_=ss.length/\σ=[some (.ref wq),some (.str one),some (.ref l0),some (.int ((at_:Nat):Int)),o4,o5]/\Same H H'/\H' l0=some (.lst (List.map V.str seen))/\seen.Nodup/\(∀x∈seen,MG.Rch (Tie ts) one x)/\one∈seen/\at_<=seen.length/\∀i x,i<at_->seen[i]? = some x->∀y,(x,y)∈ts->y∈seen,
  ⟨ss.length,0,[one],none,none,by omega,rfl,Same.new hl0,upd_same,by simp,(fun x hx=>(show x=one by simpa using hx) ▸ MG.Rch.refl),by simp,by omega,fun i x hi=>by omega⟩,?_⟩
 rintro m σ H1 ⟨at_,seen,o4,o5,hm,rfl,sm,hs,hnd,hrc,hmem,hat,hclo⟩
 have hsn:seen.length<=ss.length:=hnd.length_le_of_subset fun x hx=>inn x (hrc x hx)
 have hln:(List.map V.str seen).length=seen.length:=List.length_map ..
 refine⟨_,rfl,_,rfl,_,_,rfl,Or.inl ⟨_,.of hs,rfl⟩,.int ⟨_,rfl,?_⟩⟩
 refine ite2 (fun hc=>?_) (fun hc=>?_)
 ·have hc:(at_:Int)<((List.map V.str seen).length:Nat) := of_decide_eq_true hc
  have hlt:at_<seen.length:=by omega
  obtain⟨z,hz⟩:∃z,seen[at_]? = some z:=⟨_,List.getElem?_eq_getElem hlt⟩
  have rz:=hrc z (List.mem_of_getElem? hz)
  refine⟨fun σ' H'=>∃(seen:List Str) (o4 o5:Option V),σ'=[some (.ref wq),some (.str one),some (.ref l0),some (.int ((at_+1:Nat):Int)),o4,o5]/\Same H H'/\H' l0=some (.lst (List.map V.str seen))/\seen.Nodup/\(∀x∈seen,MG.Rch (Tie ts) one x)/\one∈seen/\at_+1<=seen.length/\∀i x,i<at_+1->seen[i]? = some x->∀y,(x,y)∈ts->y∈seen,
   fun σ' H' ⟨seen,o4,o5,p⟩=>⟨m-1,by omega,at_+1,seen,o4,o5,by omega,p⟩,?_⟩
  refine⟨_,rfl,wq,rfl,⟨_,.of (sm _ _ hb)⟩,?_⟩
  refine for_list (xs:=refs) (fun j σ H'=>∃(seen:List Str) (o4 o5:Option V),σ=[some (.ref wq),some (.str one),some (.ref l0),some (.int ((at_:Nat):Int)),o4,o5]/\Same H H'/\H' l0=some (.lst (List.map V.str seen))/\seen.Nodup/\(∀x∈seen,MG.Rch (Tie ts) one x)/\one∈seen/\at_<seen.length/\seen[at_]? = some z/\(∀i x,i<at_->seen[i]? = some x->∀y,(x,y)∈ts->y∈seen)/\∀f∈ts.take j,f.1=z->f.2∈seen) ?_ ?_ ?_ ?_
  ·exact⟨seen,o4,o5,rfl,sm,hs,hnd,hrc,hmem,hlt,hz,hclo,fun e he=>by simp at he⟩
  ·rintro j σ H' hj ⟨seen,o4,o5,rfl,sm,_⟩
   exact .of (sm _ _ hb)
  ·rintro j x σ H' hx ⟨seen, o4, o5, rfl, sm, hs, hnd, hrc, hmem, hlt, hz, hclo, hdn⟩
   obtain⟨d,hd,rd⟩:=(rp.same sm).get hx
   rw[List.getElem?_map] at hd
   obtain⟨e,he,rfl⟩:∃e,ts[j]? = some e/\pairD e=d:=by
    cases q:ts[j]? with
    | none=>rw[q] at hd;cases hd
    | some e=>rw[q] at hd;exact⟨e,rfl,Option.some.inj hd⟩
   obtain⟨ta,rfl,hta⟩:=pair_at rd
   have hem:=List.mem_of_getElem? he
   have hsn:seen.length<=ss.length:=hnd.length_le_of_subset fun x hx=>inn x (hrc x hx)
   have skip:(e.1=z->e.2∈seen)->∀f∈ts.take (j+1),f.1=z->f.2∈seen:=fun h f hf q=>by
    rw[List.take_add_one,he,List.mem_append] at hf
    rcases hf with hf | hf
    ·exact hdn f hf q
    ·have:f=e:=by simpa using hf
     subst this;exact h q
   have zat:atI (List.map V.str seen) (at_:Int)=some (.str z):=atI_nat (by rw[List.getElem?_map,hz];rfl)
   refine⟨ta,_,rfl,.of hta,rfl,_,_,rfl,_,_,rfl,rfl,?_⟩
   refine⟨_,rfl,_,rfl,_,rfl,.lst (.of hs) zat (.sc rfl ⟨_,rfl,?_⟩)⟩
   refine ite2 (fun h1=>?_) (fun h1=>?_)
   ·have h1:e.1=z := V.str.inj (of_decide_eq_true h1)
    refine⟨_,rfl,_,rfl,.seq (.inl (.of hs)) rfl (flat_strs _) ⟨_,rfl,?_⟩⟩
    rw[in_strs]
    refine ite2 (fun h2=>?_) (fun h2=>?_)
    ·have h2:e.2 ∉ seen := by simpa using h2
     refine⟨_,rfl,.inl ⟨rfl,_,.of hs⟩,?_⟩
     refine⟨_,rfl,l0,_,_,rfl,rfl,hs,by rw[List.length_map];exact small1000 (by omega),?_⟩
     refine⟨seen++[e.2],_,_,rfl,?_,?_,?_,?_,?_,?_,?_,?_,?_⟩
     ·intro c o hc
      rw[upd_ne (ne_of_none hc hl0)]
      exact sm _ _ hc
     ·rw[upd_same];simp
     ·rw[List.nodup_append]
      refine⟨hnd,by simp,fun a ha b hb=>?_⟩
      have:b=e.2:=by simpa using hb
      subst this
      rintro rfl
      exact h2 ha
     ·intro x hx
      rcases List.mem_append.mp hx with hx | hx
      ·exact hrc x hx
      ·have:x=e.2:=by simpa using hx
       subst this
       exact MG.Rch.step rz (by rw[<- h1];exact hem)
     ·exact List.mem_append_left _ hmem
     ·simp;omega
     ·rw[List.getElem?_append_left hlt];exact hz
     ·intro i x hi hx y hy
      rw[List.getElem?_append_left (by omega)] at hx
      exact List.mem_append_left _ (hclo i x hi hx y hy)
     ·intro f hf q
      rw[List.take_add_one,he,List.mem_append] at hf
      rcases hf with hf | hf
      ·exact List.mem_append_left _ (hdn f hf q)
      ·have:f=e:=by simpa using hf
       subst this;simp
    ·have h2:e.2∈seen:=by simpa using h2
     exact⟨seen,_,_,rfl,sm,hs,hnd,hrc,hmem,hlt,hz,hclo,skip fun _=>h2⟩
   ·have h1:e.1≠z:=fun q=>h1 (decide_eq_true (by rw[q]))
    exact iteF ⟨seen,_,_,rfl,sm,hs,hnd,hrc,hmem,hlt,hz,hclo,skip fun q=>absurd q h1⟩
  ·rintro σ H' ⟨seen,o4,o5,rfl,sm,hs,hnd,hrc,hmem,hlt,hz,hclo,hdn⟩
   rw[rlen,List.take_of_length_le (Nat.le_refl _)] at hdn
   refine⟨_,rfl,.int ⟨seen,o4,o5,rfl,sm,hs,hnd,hrc,hmem,hlt,fun i x hi hx y hy=>?_⟩⟩
   by_cases q:i<at_
   ·exact hclo i x q hx y hy
   ·have:i=at_:=by omega
    subst this
    rw[hz] at hx
    cases hx
    exact hdn _ hy rfl
 ·have hc:¬ (at_:Int)<((List.map V.str seen).length:Nat):=fun q=>hc (decide_eq_true q)
  refine⟨_,rfl,k l0 seen H1 sm hl0 hs (fun t=>⟨hrc t,fun r=>?_⟩) (by omega)⟩
  refine MG.Rch.closed (S:=fun y=>y∈seen) hmem (fun a b ha r=>?_) r
  obtain⟨j,hj,ej⟩:=List.mem_iff_getElem.mp ha
  exact hclo j a (by omega) (by rw[List.getElem?_eq_getElem hj,ej]) b r
end
end K39
namespace K39
open PySem L2
section
variable {P:Program}{w:World}{K:W.Frag}{mg:Str->Option Value}{base:Heap}
def WnOk (us:List Str) (wn:List (Str × Str)):Prop:=∀e∈wn,(e.1="first"∨e.1="last")/\e.2∈us
def FX (k:Str × List Str) (e:Str × Str):Prop:=FL k e/\(e.1="last"->1<k.2.length)
theorem nodup_map_on {α β:Type}{f:α->β}:∀ {l:List α},(∀a∈l,∀b∈l,f a=f b->a=b)->l.Nodup->(l.map f).Nodup
 | [],_,_=>List.nodup_nil
 | x::l,h,nd=>by
  obtain⟨h1,h2⟩:=List.nodup_cons.mp nd
  rw[List.map_cons,List.nodup_cons]
  refine⟨fun q=>?_,nodup_map_on (fun a ha b hb=>h a (List.mem_cons_of_mem _ ha) b (List.mem_cons_of_mem _ hb)) h2⟩
  obtain⟨y,hy,e⟩:=List.mem_map.mp q
  exact h1 (h y (List.mem_cons_of_mem _ hy) x (List.mem_cons_self ..) e ▸ hy)
theorem wn_units {us:List Str}{ks:Kn}(T:Tre us ks) {wn:Prs}(nd:wn.Nodup) (h:∀e∈wn,∃k∈ks,FX k e):(wn.map (·.2)).Nodup:=by
 refine nodup_map_on (fun a ha b hb e=>?_) nd
 obtain⟨k,hk,f,fl⟩:=h a ha
 obtain⟨k',hk',g,gl⟩:=h b hb
 have ek:k=k':=kids_uniq T.knd hk hk' f.mem (by rw[e];exact g.mem)
 subst ek
 have knd:k.2.Nodup:=by
  have:=T.knd
  unfold kids at this
  rw[List.flatMap_def] at this
  exact(List.sublist_flatten_of_mem (List.mem_map.mpr ⟨k,hk,rfl⟩)).nodup this
 have no:∀u,k.2.head? = some u->k.2.getLast? = some u->1<k.2.length->False:=fun u h1 h2 h3=>by
  rw[List.head?_eq_getElem?] at h1
  rw[List.getLast?_eq_getElem?] at h2
  have:=(List.getElem?_inj (by omega) knd).mp (h1.trans h2.symm)
  omega
 refine Prod.ext ?_ e
 rcases f with⟨f1,f2⟩ | ⟨f1,f2⟩
 ·rcases g with⟨g1,g2⟩ | ⟨g1,g2⟩
  ·rw[f1,g1]
  ·exact(no _ f2 (by rw[e];exact g2) (gl g1)).elim
 ·rcases g with⟨g1,g2⟩ | ⟨g1,g2⟩
  ·exact(no _ (by rw[e];exact g2) f2 (fl f1)).elim
  ·rw[f1,g1]
def spWants (K:W.Frag):Sp:=fun vs H Q _=>∃p a n us ks,vs=[.ref p,.ref n]/\Pen K H p a/\Rep H (.ref n) (knotsD ks)/\Tre us ks /\
 ∀l refs wn H',H' l=some (.lst refs)->RepAll H' refs (wn.map pairD)->WnX ks wn->(∀e∈wn,∃k∈ks,FX k e)->wn.length<=122->l≠p->PenV H' p a->But p H H'->Q (.ref l) H'
theorem take_far {ks:Kn}(nd:(kids ks).Nodup) {i:Nat}{kn k:Str × List Str}{u:Str}(hi:ks[i]? = some kn) (hk:k∈ks.take i) (h1:u∈k.2) (h2:u∈kn.2):False:=by
 have e:kids ks=kids (ks.take (i+1))++kids (ks.drop (i+1)):=by rw[<- kids_app,List.take_append_drop]
 rw[e,kids_take hi] at nd
 have:=(List.nodup_append.mp (List.nodup_append.mp nd).1).2.2 u (List.mem_flatMap.mpr ⟨k,hk,h1⟩) u h2
 exact this rfl
theorem WnX.ok {us:List Str}{ks:Kn}{wn:Prs}(T:Tre us ks) (W:WnX ks wn):WnOk us wn:=fun e he=>by
 obtain⟨k,hk,f⟩:=W.at_ e he
 exact⟨by rcases f with⟨q,_⟩ | ⟨q,_⟩;exact .inl q;exact .inr q,T.isIn hk f.mem⟩
theorem wn_words {us:List Str}{ks:Kn}(T:Tre us ks) {wn:Prs}(nd:wn.Nodup) (h:∀e∈wn,∃k∈ks,FX k e):(wn.map fun e=>(e.1,parK ks e.2)).Nodup:=by
 refine nodup_map_on (fun a ha b hb e=>?_) nd
 obtain⟨e1,e2⟩:=Prod.mk.inj e
 obtain⟨k,hk,f,_⟩:=h a ha
 obtain⟨k',hk',g,_⟩:=h b hb
 have ek:k.1=k'.1:=by rw[<- T.par hk f.mem,<- T.par hk' g.mem,e2]
 have ek:k=k':=by
  obtain⟨i,hi⟩:=List.getElem?_of_mem hk
  obtain⟨j,hj⟩:=List.getElem?_of_mem hk'
  have l:=(List.getElem?_eq_some_iff.mp hi).1
  have:=(List.getElem?_inj (by rw[List.length_map];exact l) T.kn).mp (show (ks.map (·.1))[i]? = (ks.map (·.1))[j]? by rw[List.getElem?_map,List.getElem?_map,hi,hj];exact congrArg some ek)
  subst this
  exact Option.some.inj (hi.symm.trans hj)
 subst ek
 refine Prod.ext e1 ?_
 have n:("first":Str)≠"last":=by decide
 rcases f with⟨f1,f2⟩ | ⟨f1,f2⟩
 ·rcases g with⟨g1,g2⟩ | ⟨g1,g2⟩
  ·exact Option.some.inj (f2.symm.trans g2)
  ·exact absurd (f1.symm.trans (e1.trans g1)) n
 ·rcases g with⟨g1,g2⟩ | ⟨g1,g2⟩
  ·exact absurd (g1.symm.trans (e1.symm.trans f1)) n
  ·exact Option.some.inj (f2.symm.trans g2)
theorem inj_nd {α β:Type}{f:α->β}{l:List α}(nd:(l.map f).Nodup) {a b:α}(ha:a∈l) (hb:b∈l) (e:f a=f b):a=b:=by
 obtain⟨i,hi⟩:=List.getElem?_of_mem ha
 obtain⟨j,hj⟩:=List.getElem?_of_mem hb
 have l1:=(List.getElem?_eq_some_iff.mp hi).1
 have:=(List.getElem?_inj (by rw[List.length_map];exact l1) nd).mp (show (l.map f)[i]? = (l.map f)[j]? by rw[List.getElem?_map,List.getElem?_map,hi,hj];exact congrArg some e)
 subst this
 exact Option.some.inj (hi.symm.trans hj)
structure WnF (us:List Str) (ks:Kn) (wn:Prs):Prop where
 ok:WnOk us wn
 un:(wn.map (·.2)).Nodup
 wd:(wn.map fun e=>(e.1,parK ks e.2)).Nodup
theorem WnF.nd {us:List Str}{ks:Kn}{wn:Prs}(W:WnF us ks wn):wn.Nodup:=(List.pairwise_map.mp W.un).imp fun h z=>h (congrArg _ z)
theorem WnX.toF {us:List Str}{ks:Kn}{wn:Prs}(T:Tre us ks) (W:WnX ks wn) (fx:∀e∈wn,∃k∈ks,FX k e):WnF us ks wn:=⟨WnX.ok T W,wn_units T W.nd fx,wn_words T W.nd fx⟩
theorem WnF.alike {us:List Str}{ks:Kn}{wn:Prs}(T:Tre us ks) (W:WnF us ks wn) {k:Str × List Str}(hk:k∈ks) {word x y:Str}(hx:x∈k.2) (hy:y∈k.2) (h1:(word,x)∈wn) (h2:(word,y)∈wn):x=y:=by
 have:=inj_nd W.wd h1 h2 (by show (word,parK ks x)=(word,parK ks y);rw[T.par hk hx,T.par hk hy])
 exact(Prod.mk.inj this).2
theorem wf_same {us:List Str}{ks:Kn}(T:Tre us ks) {wn:Prs}(W:WnF us ks wn) {k:Str × List Str}(hk:k ∈ ks) (cn:k.2.Nodup) {word:Str}:wU k.2 wn word=wL k.2 wn word := by
 have mU:∀x,x∈wU k.2 wn word ↔ x∈k.2/\(word,x)∈wn:=fun x=>by unfold wU;rw[List.mem_filter,decide_eq_true_iff]
 have mL:∀x,x∈wL k.2 wn word ↔ x∈k.2/\(word,x)∈wn:=fun x=>by
  unfold wL
  rw[List.mem_map]
  constructor
  ·rintro⟨e,he,rfl⟩
   rw[List.mem_filter,Bool.and_eq_true,decide_eq_true_iff,decide_eq_true_iff] at he
   obtain⟨h1,h2,h3⟩:=he
   exact⟨h3,h2 ▸ h1⟩
  ·rintro⟨h1,h2⟩
   exact⟨(word,x),List.mem_filter.mpr ⟨h2,by rw[Bool.and_eq_true,decide_eq_true_iff,decide_eq_true_iff];exact⟨rfl,h1⟩⟩,rfl⟩
 refine one_eq (cn.filter _) ?_ (fun x hx y hy=>?_) (fun x=>(mU x).trans (mL x).symm)
 ·unfold wL
  exact nd_snd (fun e he=>by rw[List.mem_filter,Bool.and_eq_true,decide_eq_true_iff,decide_eq_true_iff] at he;exact he.2.1) (W.nd.filter _)
 ·have h1:=(mU x).mp hx
  have h2:=(mU y).mp hy
  exact W.alike T hk h1.1 h2.1 h1.2 h2.2
theorem ins_rep {H:Hp}{xs:List V}{ps:List (Str × Str)}(r:RepAll H xs (ps.map pairD)) {v:V}{e:Str × Str}(hv:Rep H v (pairD e)) (m:Nat):RepAll H (xs.take m++v::xs.drop m) ((ps.take m++e::ps.drop m).map pairD):=by
 rw[List.map_append,List.map_cons,List.map_take,List.map_drop]
 exact RepAll.append (r.take m) (.cons hv (r.drop m))
theorem ok_wants {f:Addr}{fd:FuncData}(F:Fun K "_law_wants" "_law_wants" sWants f fd) (B:Blt mg) (c_law_draw:Cal P w K mg base 1 "_law_draw" ["_law_pen_here", "_law_most"] (spDraw K)):FnOk P w K mg base CX0 2 f fd ["_law_pen_here", "_law_knots"] (spWants K) := by
 refine F.ok1 ["_law_pen_here","_law_knots","_law_found","_law_knot","_law_some"] fun nd H Q E hr h=>?_
 obtain⟨p,a,n,us,ks,rfl,hP,R,T,k⟩:=h
 have v0:=hP.2
 refine⟨_,(pss_cons (pst 2 nd (pe_lst pa_nil))
  (pss_cons (ps_for PassesOwn.never rfl (pi_tupK K (pv 1)) (pg_tupK (n:=2) K rfl (pgs_cons (pg_name (i:=3) nd rfl (Or.inl rfl)) (pgs_cons (pg_name (i:=4) nd rfl (Or.inl rfl)) pgs_nil))) (pss_cons (ps_if (PW.pt (pw_and (pt_cmpR op_gt (b_len K B (p1 (pv 4))) pe_int (nomark _)) (pw_and1 (pt_cmpR (op_eqX hr.units) (pc c_law_draw hr (p2 (pv 0) pe_int)) pe_int (nomark _))))) (pss_one (ps_expr (m_insert K (pv 2) (p2 (pc c_law_draw hr (p2 (pv 0) (pe_op op_addX (b_len K B (p1 (pv 2))) pe_int))) (pe_tup (p2 pe_str (px K hr (pv 4) pe_int))))))) pss_nil)
  (pss_one (ps_if (PW.pt (pw_and (pt_cmpR op_gt (b_len K B (p1 (pv 4))) pe_int (nomark _)) (pw_and1 (pt_cmpR (op_eqX hr.units) (pc c_law_draw hr (p2 (pv 0) pe_int)) pe_int (nomark _))))) (pss_one (ps_expr (m_insert K (pv 2) (p2 (pc c_law_draw hr (p2 (pv 0) (pe_op op_addX (b_len K B (p1 (pv 2))) pe_int))) (pe_tup (p2 pe_str (px K hr (pv 4) (pe_un un_neg pe_int)))))))) pss_nil))))
  (pss_one (ps_ret (pv 2))))),?_⟩
 obtain⟨n',refs,e0,hn,rp⟩:=knots_at R
 cases e0
 obtain⟨ys0,hp0⟩:=penAt v0
 have rlen:=rp.len
 rw[List.length_map] at rlen
 have few:=T.few
 refine⟨(szl 0),fun lf hlf=>?_⟩
 have nfp:lf≠p:=Ne.symm (v0.ne hlf)
 have b0:But p H (upd H lf (.lst [])):=(But.refl p H).at hlf
 have v1:PenV (upd H lf (.lst [])) p a:=v0.upd (v0.ne hlf)
 have e1:upd H lf (.lst []) lf=some (.lst []):=upd_same
 generalize upd H lf (.lst [])=H1 at b0 v1 e1 ⊢
 refine⟨_,rfl,n,rfl,⟨_,.of (tupBut hp0 b0 hn)⟩,?_⟩
 refine for_tup (xs:=refs) (fun i σ H'=>∃(o3 o4:Option V) (fr:List V) (wn:List (Str × Str)),σ=[some (.ref p),some (.ref n),some (.ref lf),o3,o4]/\H' lf=some (.lst fr)/\RepAll H' fr (wn.map pairD)/\(wn.Nodup/\∀e∈wn,∃k∈ks.take i,FX k e)/\wn.length<=2 * i/\PenV H' p a/\But p H H') ?_ ?_ ?_ ?_
 ·exact⟨none,none,[],[],rfl,e1,.nil,⟨List.nodup_nil,fun e he=>by cases he⟩,Nat.le_refl _,v1,b0⟩
 ·rintro i σ H' hi ⟨o3,o4,fr,wn,rfl,_,_,_,_,_,b⟩
  exact .of (tupBut hp0 b hn)
 ·rintro i x σ H2 hx ⟨o3, o4, fr, wn, rfl, hf2, rf2, ok2, hl2, v2, b2⟩
  obtain⟨kn,ta,la,hk,rfl,hta,hla⟩:=knot_get rp hx
  have hil:=(List.getElem?_eq_some_iff.mp hk).1
  have kin:∀u∈kn.2,u∈us:=fun u hu=>T.isIn (List.mem_of_getElem? hk) hu
  have mlc:(List.map V.str kn.2).length=kn.2.length:=List.length_map ..
  refine⟨ta,_,rfl,.of (tupBut hp0 b2 hta),rfl,_,_,rfl,_,_,rfl,rfl,?_⟩
  have put:∀(w u:Str) (H3:Hp) (fr:List V) (wn:List (Str × Str)) (t:Addr) (m:Nat),H3 lf=some (.lst fr)->RepAll H3 fr (wn.map pairD)->wn.Nodup->(w,u)∉wn->H3 t=some (.tup [.str w,.str u])->PenV H3 p a->But p H H3 ->
      upd H3 lf (.lst (fr.take m++V.ref t::fr.drop m)) lf=some (.lst (fr.take m++V.ref t::fr.drop m))/\RepAll (upd H3 lf (.lst (fr.take m++V.ref t::fr.drop m))) (fr.take m++V.ref t::fr.drop m) ((wn.take m++(w,u)::wn.drop m).map pairD)/\(wn.take m++(w,u)::wn.drop m).Nodup/\(wn.take m++(w,u)::wn.drop m).length=wn.length+1/\PenV (upd H3 lf (.lst (fr.take m++V.ref t::fr.drop m))) p a/\But p H (upd H3 lf (.lst (fr.take m++V.ref t::fr.drop m))):=by
   intro w u H3 fr wn t m hf rf wnd hnw ht v b
   refine⟨upd_same,repBut_all (repBut_pair hf But.upd) (ins_rep rf (pair_rep ht) m),?_,(ins_perm' wn m (w,u)).length_eq,v.upd (Ne.symm nfp),b.at hlf⟩
   exact(ins_perm' wn m (w,u)).nodup_iff.mpr (List.nodup_cons.mpr ⟨hnw,wnd⟩)
  have far:∀ {u:Str} {e:Str × Str},u∈kn.2->e.2=u->(∃k∈ks.take i,FX k e)->False:=fun {u e} hu he ⟨k,hk1,f⟩=>take_far T.knd hk hk1 (he ▸ f.1.mem) hu
  have old:∀ {e:Str × Str},(∃k∈ks.take i,FX k e)->∃k∈ks.take (i+1),FX k e:=fun ⟨k,hk1,f⟩=>⟨k,by rw[List.take_add_one];exact List.mem_append_left _ hk1,f⟩
  have here:kn∈ks.take (i+1):=by rw[List.take_add_one,hk];simp
  have laK:∀H',But p H H'->H' la=some (.tup (kn.2.map V.str)):=fun H' b=>tupBut hp0 b hla
  apply with_rest (J:=fun σ HZ=>∃(fr:List V) (wn:List (Str × Str)),σ=[some (.ref p),some (.ref n),some (.ref lf),some (.str kn.1),some (.ref la)]/\HZ lf=some (.lst fr)/\RepAll HZ fr (wn.map pairD)/\(wn.Nodup/\∀e∈wn,(∃k∈ks.take i,FX k e)∨(e.1="first"/\FX kn e))/\wn.length<=2 * i+1/\PenV HZ p a/\But p H HZ)
  ·intro rest
   refine⟨_,rfl,_,_,rfl,Or.inr ⟨_,.of (laK _ b2),rfl⟩,_,_,rfl,rfl,_,rfl,?_⟩
   rw[mlc]
   refine ite2 (fun h=>?_) (fun _=>iteF ?_)
   ·have h:(0:Int)<((kn.2.length:Nat):Int):=of_decide_eq_true h
    obtain⟨u,hu⟩:∃u,kn.2[0]? = some u:=⟨_,List.getElem?_eq_getElem (by omega)⟩
    obtain⟨ys2,hp2⟩:=penAt v2
    refine⟨_,rfl,p,a,4,rfl,hP.but b2 v2,by decide,by decide,fun r3 H3 h30 h31 v3 e3=>.sc rfl ⟨_,rfl,?_⟩⟩
    have b23:=But.of_eq e3
    have b3:=b2.trans b23
    have hf3:=b23 lf _ nfp hf2
    have rf3:=repBut_all (repBut_pair hp2 b23) rf2
    have flen:=rf3.len
    rw[List.length_map] at flen
    refine ite2 (fun _=>?_) (fun _=>?_)
    ·obtain⟨ys3,hp3⟩:=penAt v3
     refine⟨_,rfl,.inl ⟨rfl,_,.of hf3⟩,_,rfl,_,rfl,_,_,rfl,Or.inl ⟨_,.of hf3,rfl⟩,.int ⟨p,a,_,rfl,hP.but b3 v3,by omega,by omega,fun r4 H4 h40 h41 v4 e4=>?_⟩⟩
     have b34:=But.of_eq e4
     have b4:=b3.trans b34
     have hf4:=b34 lf _ nfp hf3
     have rf4:=repBut_all (repBut_pair hp3 b34) rf3
     obtain⟨m,rfl⟩:=Int.eq_ofNat_of_zero_le h40
     refine⟨_,rfl,.tup (.of (laK _ b4)) (show atI (List.map V.str kn.2) 0=some (.str u) from atI_nat (j:=0) (by rw[List.getElem?_map,hu];rfl)) ⟨(szl 2),fun t ht=>?_⟩⟩
     have s5:=Same.new (o:=.tup [V.str "first",V.str u]) ht
     have v5:=penSame s5 v4
     have b5:=b4.trans (But.of_same (p:=p) s5)
     refine⟨lf,_,_,m,_,rfl,rfl,rfl,s5 _ _ hf4,by omega,small1000 (by omega),?_⟩
     obtain⟨g1,g2,g3,g4,g5,g6⟩:=put "first" u _ fr wn t m (s5 _ _ hf4) (rf4.same s5) ok2.1 (fun z=>far (List.mem_of_getElem? hu) rfl (ok2.2 _ z)) upd_same v5 b5
     have fl0:FX kn ("first",u):=⟨.inl ⟨rfl,by rw[List.head?_eq_getElem?];exact hu⟩,fun z=>absurd z (by show ¬ ("first":Str)="last";decide)⟩
     dsimp only
     exact rest _ _ ⟨_,_,rfl,g1,g2,⟨g3,fun e he=>by rcases ins_mem he with rfl | he;exact .inr ⟨rfl,fl0⟩;exact .inl (ok2.2 e he)⟩,by omega,g5,g6⟩
    ·exact rest _ _ ⟨fr,wn,rfl,hf3,rf3,⟨ok2.1,fun e he=>.inl (ok2.2 e he)⟩,by omega,v3,b3⟩
   ·exact rest _ _ ⟨fr,wn,rfl,hf2,rf2,⟨ok2.1,fun e he=>.inl (ok2.2 e he)⟩,by omega,v2,b2⟩
  ·rintro σ H6 ⟨fr, wn, rfl, hf6, rf6, ok6, hl6, v6, b6⟩
   have fin6:∀e,((∃k∈ks.take i,FX k e)∨(e.1="first"/\FX kn e))->∃k∈ks.take (i+1),FX k e:=fun e h=>by
    rcases h with h | h
    ·exact old h
    ·exact⟨kn,here,h.2⟩
   refine⟨_,rfl,_,_,rfl,Or.inr ⟨_,.of (laK _ b6),rfl⟩,_,_,rfl,rfl,_,rfl,?_⟩
   rw[mlc]
   refine ite2 (fun h=>?_) (fun _=>iteF ?_)
   ·have h:(1:Int)<((kn.2.length:Nat):Int):=of_decide_eq_true h
    obtain⟨zs,u,hz⟩:∃zs u,kn.2=zs++[u]:=⟨_,_,(List.dropLast_concat_getLast (fun q=>by rw[q] at h;exact absurd h (by decide))).symm⟩
    obtain⟨ys2,hp2⟩:=penAt v6
    refine⟨_,rfl,p,a,4,rfl,hP.but b6 v6,by decide,by decide,fun r3 H3 h30 h31 v3 e3=>.sc rfl ⟨_,rfl,?_⟩⟩
    have b23:=But.of_eq e3
    have b3:=b6.trans b23
    have hf3:=b23 lf _ nfp hf6
    have rf3:=repBut_all (repBut_pair hp2 b23) rf6
    have flen:=rf3.len
    rw[List.length_map] at flen
    refine ite2 (fun _=>?_) (fun _=>?_)
    ·obtain⟨ys3,hp3⟩:=penAt v3
     refine⟨_,rfl,.inl ⟨rfl,_,.of hf3⟩,_,rfl,_,rfl,_,_,rfl,Or.inl ⟨_,.of hf3,rfl⟩,.int ⟨p,a,_,rfl,hP.but b3 v3,by omega,by omega,fun r4 H4 h40 h41 v4 e4=>?_⟩⟩
     have b34:=But.of_eq e4
     have b4:=b3.trans b34
     have hf4:=b34 lf _ nfp hf3
     have rf4:=repBut_all (repBut_pair hp3 b34) rf3
     obtain⟨m,rfl⟩:=Int.eq_ofNat_of_zero_le h40
     refine⟨_,rfl,_,rfl,.tup (.of (laK _ b4)) (show atI (List.map V.str kn.2) (-1)=some (.str u) from by rw[hz,List.map_append];exact atI_last _ _) ⟨(szl 2),fun t ht=>?_⟩⟩
     have s5:=Same.new (o:=.tup [V.str "last",V.str u]) ht
     have v5:=penSame s5 v4
     have b5:=b4.trans (But.of_same (p:=p) s5)
     refine⟨lf,_,_,m,_,rfl,rfl,rfl,s5 _ _ hf4,by omega,small1000 (by omega),?_⟩
     have hum:u∈kn.2:=by rw[hz];simp
     obtain⟨g1,g2,g3,g4,g5,g6⟩:=put "last" u _ fr wn t m (s5 _ _ hf4) (rf4.same s5) ok6.1 (fun z=>by rcases ok6.2 _ z with w | w;exact far hum rfl w;exact absurd w.1 (by show ¬ ("last":Str)="first";decide)) upd_same v5 b5
     have fl0:FX kn ("last",u):=⟨.inr ⟨rfl,by rw[hz];simp⟩,fun _=>by omega⟩
     exact⟨_,_,_,_,rfl,g1,g2,⟨g3,fun e he=>by rcases ins_mem he with rfl | he;exact⟨kn,here,fl0⟩;exact fin6 e (ok6.2 e he)⟩,by omega,g5,g6⟩
    ·exact⟨_,_,fr,wn,rfl,hf3,rf3,⟨ok6.1,fun e he=>fin6 e (ok6.2 e he)⟩,by omega,v3,b3⟩
   ·exact⟨_,_,fr,wn,rfl,hf6,rf6,⟨ok6.1,fun e he=>fin6 e (ok6.2 e he)⟩,by omega,v6,b6⟩
 ·rintro σ H' ⟨o3,o4,fr,wn,rfl,hf,rf,ok,hl,v,b⟩
  rw[rlen,List.take_of_length_le (Nat.le_refl _)] at ok
  exact⟨_,rfl,k lf fr wn H' hf rf ⟨ok.1,fun e he=>let ⟨k,hk,f⟩:=ok.2 e he;⟨k,hk,f.1⟩⟩ ok.2 (by omega) nfp v b⟩
end
end K39
namespace K39
open PySem L2
section
variable {P:Program}{w:World}{K:W.Frag}{mg:Str->Option Value}{base:Heap}
theorem kid_nodup {us:List Str}{ks:Kn}(T:Tre us ks) {k:Str × List Str}(hk:k∈ks):k.2.Nodup:=by
 have:=T.knd
 unfold kids at this
 rw[List.flatMap_def] at this
 exact(List.sublist_flatten_of_mem (List.mem_map.mpr ⟨k,hk,rfl⟩)).nodup this
theorem idx_str {H:Hp}{l:Addr}{c:List Str}{x:Str}{Q:VK}(hl:H l=some (.tup (c.map V.str))) (cn:c.Nodup) (hx:x∈c) (q:Q (.int ((MG.ix c x:Nat):Int)) H):rIndexT (.ref l) [.str x] H Q:=by
 refine⟨l,_,.str x,MG.ix c x,.str x,rfl,rfl,hl,rfl,flat_strs c,by rw[List.getElem?_map,MG.at_ix hx];rfl,by show (x==x)=true;simp,fun m z' hm hz=>?_,q⟩
 obtain⟨z,hz',rfl⟩:=str_get hz
 have hne:z≠x:=fun e=>by rw[e] at hz';have:=MG.ix_at cn hz';omega
 show (z==x)=false
 simpa using hne
theorem nil_ {σ:St}{H:Hp}{k:List V->Hp->Prop}(h:k [] H):tNil σ H k:=h
def Fw (ks:Kn) (e:Str × Str):Prop:=∃kk∈ks,∃x y,partO ks e.1 e.2=some (kk.1,x,y)/\x∈kk.2/\y∈kk.2/\x∈lin ks e.1/\y∈lin ks e.2/\MG.ix kk.2 x<MG.ix kk.2 y
def TsP (us:List Str) (ks:Kn) (ts:List (Str × Str)):Prop:=∀e∈ts,e.1∈us/\e.2∈us/\partO ks e.1 e.2≠none
def TsOk (us:List Str) (ks:Kn) (ts:List (Str × Str)):Prop:=∀e∈ts,e.1∈us/\e.2∈us/\(partO ks e.1 e.2≠none/\Fw ks e)
theorem eqv_pair (e f:Str × Str):PyData.eqv (pairD e) (pairD f)=decide (e=f):=by
 obtain⟨a,b⟩:=e
 obtain⟨c,d⟩:=f
 show ((a==c)&&((b==d)&&true))=_
 rw[Bool.and_true,Bool.eq_iff_iff]
 simp only[Bool.and_eq_true,beq_iff_eq,decide_eq_true_eq,Prod.mk.injEq]
theorem any_pair (ps:Prs) (x:Str × Str):((ps.map pairD).any fun e=>PyData.eqv e (pairD x))=decide (x∈ps):=by
 rw[List.any_map,Bool.eq_iff_iff,List.any_eq_true,decide_eq_true_iff]
 constructor
 ·rintro⟨e,he,q⟩
  have q:PyData.eqv (pairD e) (pairD x)=true:=q
  rw[eqv_pair,decide_eq_true_iff] at q
  exact q ▸ he
 ·intro h
  exact⟨x,h,by show PyData.eqv (pairD x) (pairD x)=true;rw[eqv_pair];simp⟩
theorem not_any {ps:Prs}{x:Str × Str}(h:(if true=true then !((ps.map pairD).any fun e=>PyData.eqv e (pairD x)) else (ps.map pairD).any fun e=>PyData.eqv e (pairD x))=true):x∉ps:=by
 rw[if_pos rfl,any_pair] at h
 simpa using h
theorem yes_any {ps:Prs}{x:Str × Str}(h:¬ (if true=true then !((ps.map pairD).any fun e=>PyData.eqv e (pairD x)) else (ps.map pairD).any fun e=>PyData.eqv e (pairD x))=true):x∈ps:=by
 rw[if_pos rfl,any_pair] at h
 simpa using h
theorem nodup_snoc {ps:List (Str × Str)}{e:Str × Str}(h:ps.Nodup) (n:e∉ps):(ps++[e]).Nodup:=by
 rw[List.nodup_append]
 exact⟨h,by simp,fun a ha b hb z=>n (by rw[<- List.mem_singleton.mp hb,<- z];exact ha)⟩
theorem TsOk.p {us:List Str}{ks:Kn}{ts:List (Str × Str)}(h:TsOk us ks ts):TsP us ks ts:=fun e he=>let ⟨a,b,c,_⟩:=h e he;⟨a,b,c⟩
def spKept (K:W.Frag):Sp:=fun vs H Q _=>∃(p a n un:_) (us:List Str) (ks:_) (many:Nat),vs=[.ref p,.ref n,.ref un,.int (many:Int)]/\Pen K H p a/\Rep H (.ref n) (knotsD ks)/\Tre us ks/\H un=some (.lst (List.map V.str us))/\un≠p/\(0<many->0<us.length)/\many<=200 /\
 ∀l refs ts H',H' l=some (.lst refs)->RepAll H' refs (ts.map pairD)->TsOk us ks ts->ts.Nodup->ts.length<=many->l≠p->PenV H' p a->But p H H'->Q (.ref l) H'
theorem ok_kept {f:Addr}{fd:FuncData}(F:Fun K "_law_kept" "_law_kept" sKept f fd) (B:Blt mg) (c_law_draw:Cal P w K mg base 1 "_law_draw" ["_law_pen_here","_law_most"] (spDraw K)) (c_law_around:Cal P w K mg base 1 "_law_around" ["_law_knots"] spAround) (c_law_parting:Cal P w K mg base 2 "_law_parting" ["_law_around_here","_law_one","_law_other"] spPartBy):FnOk P w K mg base CX0 3 f fd ["_law_pen_here","_law_knots","_law_units","_law_many"] (spKept K):=by
 refine F.ok1 ["_law_pen_here","_law_knots","_law_units","_law_many","_law_found","_law_around_here","_law_k","_law_one","_law_other","_law_told","_law_some"] fun nd H Q E hr h=>?_
 obtain⟨p,a,n,un,us,ks,many,rfl,hP,R,T,hun,nup,upos,hm,k⟩:=h
 have v0:=hP.2
 obtain⟨ys0,hp0⟩:=penAt v0
 have ulen:=T.len
 have mlu:(List.map V.str us).length=us.length:=List.length_map ..
 refine⟨_,(pss_cons (pst 4 nd (pe_lst pa_nil))
  (pss_cons (pst 5 nd (pc c_law_around hr (p1 (pv 1))))
  (pss_cons (ps_for PassesOwn.never rfl (pi_range1 rfl B.range (p1 (pv 3))) (pg_name (i:=6) nd rfl (Or.inl rfl)) (pss_cons (pst 7 nd (px K hr (pv 2) (pc c_law_draw hr (p2 (pv 0) (b_len K B (p1 (pv 2)))))))
  (pss_cons (pst 8 nd (px K hr (pv 2) (pc c_law_draw hr (p2 (pv 0) (b_len K B (p1 (pv 2)))))))
  (pss_cons (pst 9 nd (pc c_law_parting hr (pa_cons (pv 5) (p2 (pv 7) (pv 8)))))
  (pss_one (ps_if (pt_cmpR op_isNotX (pv 9) pe_non (nomark _)) (pss_cons (pst 10 nd (px K hr (b_dicKT K rfl hr.units B (p1 (pv 1))) (px K hr (pv 9) pe_int)))
  (pss_cons (ps_if (pt_cmpR op_gt (m_indexTT (pv 10) (p1 (px K hr (pv 9) pe_int))) (m_indexTT (pv 10) (p1 (px K hr (pv 9) pe_int))) (nomark _)) (pss_one (ps_par (i:=7) (j:=8) rfl nd rfl rfl (by decide) rfl rfl (p2 (pv 8) (pv 7)) rfl)) pss_nil)
  (pss_one (ps_if (pt_cmpR (op_notInX K hr.units) (pe_tup (p2 (pv 7) (pv 8))) (pv 4) (by with_unfolding_all rfl)) (pss_one (ps_expr (m_append K (pv 4) (p1 (pe_tup (p2 (pv 7) (pv 8))))))) pss_nil)))) pss_nil))))))
  (pss_one (ps_ret (pv 4)))))),?_⟩
 refine⟨(szl 0),fun lf hlf=>?_⟩
 have nfp:lf≠p:=Ne.symm (v0.ne hlf)
 refine nw hlf fun H1 s1 e1=>?_
 refine⟨_,rfl,n,us,ks,rfl,R.same s1,T,fun d kvs H2 s2 hd0 hd ar=>?_⟩
 have s12:=s1.trans s2
 have v2:=penSame s12 v0
 obtain⟨ys2,hp2⟩:=penAt v2
 have ndp:d≠p:=ne_of hd hp2 (by intro z;cases z)
 have ndf:d≠lf:=ne_of hd (s2 _ _ e1) (by intro z;cases z)
 have frd:H d=none:=same_free s1 hd0
 refine⟨_,rfl,_,rfl,by omega,by omega,?_⟩
 rw[show ((many:Nat):Int).toNat=many from rfl]
 refine for_range (fun i σ H'=>∃(o6 o7 o8 o9 o10:Option V) (fr:List V) (ts:List (Str × Str)),σ=[some (.ref p),some (.ref n),some (.ref un),some (.int (many:Int)),some (.ref lf),some (.ref d),o6,o7,o8,o9,o10]/\H' lf=some (.lst fr)/\RepAll H' fr (ts.map pairD)/\TsOk us ks ts/\ts.Nodup/\ts.length<=i/\H' d=some (.dK kvs)/\PenV H' p a/\But p H H') ?_ ?_ ?_
 ·exact⟨none,none,none,none,none,[],[],rfl,s2 _ _ e1,.nil,(fun e he=>by cases he),List.nodup_nil,Nat.le_refl _,hd,v2,But.of_same s12⟩
 ·rintro i σ H3 hi ⟨o6,o7,o8,o9,o10,fr,ts,rfl,hf3,rf3,ok3,nd3,hl3,hd3,v3,b3⟩
  have hi:i<many:=hi
  have upos:=upos (by omega)
  obtain⟨ys3,hp3⟩:=penAt v3
  refine⟨_,rfl,_,rfl,_,rfl,_,_,rfl,Or.inl ⟨_,.of (b3 un _ nup hun),rfl⟩,p,a,_,rfl,hP.but b3 v3,by rw[mlu];omega,by rw[mlu];omega,fun r4 H4 h40 h41 v4 e4=>?_⟩
  have b34:=But.of_eq e4
  have b4:=b3.trans b34
  obtain⟨j1,rfl⟩:=Int.eq_ofNat_of_zero_le h40
  rw[mlu] at h41
  have hj1:j1<us.length:=by omega
  obtain⟨ys4,hp4⟩:=penAt v4
  refine .lst (.of (b4 un _ nup hun)) (str_at hj1) ⟨_,rfl,_,rfl,_,rfl,_,_,rfl,Or.inl ⟨_,.of (b4 un _ nup hun),rfl⟩,p,a,_,rfl,hP.but b4 v4,by rw[mlu];omega,by rw[mlu];omega,fun r5 H5 h50 h51 v5 e5=>?_⟩
  have b45:=But.of_eq e5
  have b35:=b34.trans b45
  have b5:=b4.trans b45
  obtain⟨j2,rfl⟩:=Int.eq_ofNat_of_zero_le h50
  rw[mlu] at h51
  have hj2:j2<us.length:=by omega
  have hu:=mem_getD hj1
  have hv:=mem_getD hj2
  refine .lst (.of (b5 un _ nup hun)) (str_at hj2) ?_
  generalize us.getD j1 ""=u at hu ⊢
  generalize us.getD j2 ""=v at hv ⊢
  have hd5:=b35 d _ ndp hd3
  have hf5:=b35 lf _ nfp hf3
  have rf5:=repBut_all (repBut_pair hp3 b35) rf3
  refine⟨_,rfl,_,rfl,_,rfl,d,kvs,us,ks,u,v,rfl,hd5,ar,T,hu,hv,fun x H6 s6 px=>?_⟩
  have v6:=penSame s6 v5
  have b6:=b5.trans (But.of_same (p:=p) s6)
  have hd6:=s6 _ _ hd5
  have hf6:=s6 _ _ hf5
  have rf6:=rf5.same s6
  clear hd5 hf5 rf5 hd3 hf3 rf3
  refine⟨_,rfl,.non ⟨_,rfl,?_⟩⟩
  cases hpo:partO ks u v with
  | none =>
   rw[hpo] at px
   cases px
   exact iteF ⟨_,_,_,_,_,fr,ts,rfl,hf6,rf6,ok3,nd3,by omega,hd6,v6,b6⟩
  | some t3 =>
   obtain⟨kq,x1,y1⟩:=t3
   rw[hpo] at px
   obtain⟨t,rfl,ht⟩:=px
   obtain⟨px1,py1,hx1,hy1,hxy⟩:=T.part hu hv hpo
   obtain⟨_,_,lx,ly,_⟩:=prt_some (T.lin_chn u (.inr hu)) (T.lin_chn v (.inr hv)) hpo
   refine iteT ?_
   obtain⟨kk,hkk,hkn⟩:=List.mem_map.mp (T.par_in hx1).2
   rw[px1] at hkn
   have ekk:(parK ks x1,kk.2)=kk:=by rw[px1,<- hkn]
   have ekk2:(parK ks y1,kk.2)=kk:=by rw[py1,<- hkn]
   have cx:=T.kid hx1 (by rw[ekk];exact hkk)
   have cy:=T.kid hy1 (by rw[ekk2];exact hkk)
   refine⟨_,rfl,?_⟩
   refine nil_ (dict_knots (repBut_knots hp0 b6 R) T fun D dk hD hdk=>?_)
   obtain⟨la,hva,hla⟩:=hdk kk hkk
   rw[hkn] at hva
   have s7:=Same.new (o:=.dK dk) hD
   have v7:=penSame s7 v6
   have b7:=b6.trans (But.of_same (p:=p) s7)
   have ht7:=s7 _ _ ht
   have hla7:=s7 _ _ hla
   refine⟨_,rfl,.tup (.of ht7) rfl (.dic (.inl ⟨dk,.inr kq,.inl upd_same,rfl,hva.symm⟩) ?_)⟩
   have cn:=kid_nodup T hkk
   have hf7:=s7 _ _ hf6
   have rf7:=rf6.same s7
   have hd7:=s7 _ _ hd6
   generalize upd H6 D (.dK dk)=H7 at s7 v7 b7 ht7 hla7 hf7 rf7 hd7 ⊢
   apply with_rest (J:=fun σ HZ=>∃(x2 y2:Str),σ=[some (.ref p),some (.ref n),some (.ref un),some (.int (many:Int)),some (.ref lf),some (.ref d),some (.int (0+(i:Nat):Int)),some (.str x2),some (.str y2),some (.ref t),some (.ref la)]/\x2∈us/\y2∈us/\(partO ks x2 y2≠none/\Fw ks (x2,y2))/\HZ=H7)
   ·intro rest
    refine⟨_,rfl,⟨la,_,rfl,hla7⟩,_,rfl,.tup (.of ht7) rfl (nil_ (idx_str hla7 cn cx ⟨_,rfl,⟨la,_,rfl,hla7⟩,_,rfl,.tup (.of ht7) rfl (nil_ (idx_str hla7 cn cy ⟨_,_,rfl,rfl,_,rfl,?_⟩))⟩))⟩
    refine ite2 (fun hgt=>?_) (fun hng=>?_)
    ·have hgt:((MG.ix kk.2 y1:Nat):Int)<((MG.ix kk.2 x1:Nat):Int):=of_decide_eq_true hgt
     have hsw:partO ks v u=some (kq,y1,x1):=by unfold partO;rw[prt_swap];unfold partO at hpo;rw[hpo];rfl
     refine⟨_,rfl,_,rfl,_,_,rfl,?_⟩
     exact rest _ _ ⟨v,u,rfl,hv,hu,⟨(by rw[hsw];intro z;cases z),kk,hkk,y1,x1,by rw[hkn];exact hsw,cy,cx,ly,lx,by omega⟩,rfl⟩
    ·have hng:¬ ((MG.ix kk.2 y1:Nat):Int)<((MG.ix kk.2 x1:Nat):Int):=fun z=>hng (decide_eq_true z)
     have hne:MG.ix kk.2 x1≠MG.ix kk.2 y1:=fun z=>hxy (MG.ix_inj cx cy z)
     exact rest _ _ ⟨u,v,rfl,hu,hv,⟨(by rw[hpo];intro z;cases z),kk,hkk,x1,y1,by rw[hkn];exact hpo,cx,cy,lx,ly,by omega⟩,rfl⟩
   ·rintro σ HZ ⟨x2, y2, rfl, hx2, hy2, hpn, rfl⟩
    have nmp:∀e∈ts,Nm e.1/\Nm e.2:=fun e he=>⟨T.nm _ (ok3 e he).1,T.nm _ (ok3 e he).2.1⟩
    have flen:=rf7.len
    rw[List.length_map] at flen
    refine⟨_,rfl,_,rfl,(szl 2),fun tq htq=>?_⟩
    have s8:=Same.new (o:=.tup [V.str x2,V.str y2]) htq
    refine⟨_,rfl,.tr (d:=pairD (x2,y2)) (s8 _ _ hf7) (rf7.same s8) (pair_rep upd_same) (canLay_pairsN nmp) (canLay_pairN ⟨T.nm _ hx2,T.nm _ hy2⟩) (by show 1<=16;decide) ⟨_,rfl,?_⟩⟩
    have v8:=penSame s8 v7
    have b8:=b7.trans (But.of_same (p:=p) s8)
    have hf8:=s8 _ _ hf7
    have rf8:=rf7.same s8
    have hd8:=s8 _ _ hd7
    generalize upd HZ tq (.tup [V.str x2,V.str y2])=H8 at v8 b8 hf8 rf8 hd8 ⊢
    refine ite2 (fun hni=>?_) (fun _=>?_)
    ·refine⟨_,rfl,.inl ⟨rfl,_,.of hf8⟩,_,rfl,_,rfl,(szl 2),fun t2 ht2=>?_⟩
     refine nw ht2 fun H9 s9 e9=>?_
     have v9:=penSame s9 v8
     have b9:=b8.trans (But.of_same (p:=p) s9)
     have hf9:=s9 _ _ hf8
     have rf9:=rf8.same s9
     have hd9:=s9 _ _ hd8
     refine⟨lf,_,_,rfl,rfl,hf9,small1000 (by omega),?_⟩
     refine⟨_,_,_,_,_,fr++[.ref t2],ts++[(x2,y2)],rfl,upd_same,?_,fun e he=>?_,nodup_snoc nd3 (not_any hni),by rw[List.length_append];show _+1<=_;omega,by rw[upd_ne ndf];exact hd9,v9.upd (Ne.symm nfp),b9.at hlf⟩
     ·rw[List.map_append]
      exact RepAll.append (repBut_all (repBut_pair hf9 But.upd) rf9) (.cons (repBut_pair hf9 But.upd (pair_rep e9)) .nil)
     ·rcases List.mem_append.mp he with q | q
      ·exact ok3 e q
      ·rw[List.mem_singleton.mp q];exact⟨hx2,hy2,hpn⟩
    ·exact⟨_,_,_,_,_,fr,ts,rfl,hf8,rf8,ok3,nd3,by omega,hd8,v8,b8⟩
 ·rintro σ H3 ⟨o6,o7,o8,o9,o10,fr,ts,rfl,hf3,rf3,ok3,nd3,hl3,hd3,v3,b3⟩
  exact⟨_,rfl,k lf fr ts H3 hf3 rf3 ok3 nd3 hl3 nfp v3 b3⟩
end
end K39
namespace K39
open PySem L2
section
variable {P:Program}{w:World}{K:W.Frag}{mg:Str->Option Value}{base:Heap}
def PsIn (us:List Str) (ps:List (Str × Str)):Prop:=∀e∈ps,e.1∈us/\e.2∈us
def spEdges:Sp:=fun vs H Q _=>∃(q us ks:_) (ts ws wn:List (Str × Str)) (knot c:_),vs=[.ref q,.str knot]/\Rep H (.ref q) (houseD ks ts ws wn)/\Tre us ks/\TsP us ks ts/\WnF us ks wn/\(knot,c)∈ks/\ts.length<=200/\wn.length<=122 /\
 ∀(l:Addr) (refs:List V) (H':Hp),Same H H'->H l=none->H' l=some (.lst refs)->RepAll H' refs ((viewE ks ts wn knot c).map pairD)->(viewE ks ts wn knot c).length<=100000->PsIn us (viewE ks ts wn knot c)->Q (.ref l) H'
structure Fnd (H H':Hp) (lf:Addr) (us:List Str) (fr:List V) (ps:List (Str × Str)) (n:Nat):Prop where
 f:H' lf=some (.lst fr)
 r:RepAll H' fr (ps.map pairD)
 i:PsIn us ps
 l:ps.length<=n
 s:Same H H'
theorem Fnd.more {H H' H2:Hp}{lf:Addr}{us:List Str}{fr:List V}{ps:List (Str × Str)}{n m:Nat}(h:Fnd H H' lf us fr ps n) (s:Same H' H2) (hm:n<=m):Fnd H H2 lf us fr ps m:=⟨s _ _ h.f,h.r.same s,h.i,Nat.le_trans h.l hm,h.s.trans s⟩
theorem Fnd.app {H H':Hp}{lf t:Addr}{us:List Str}{fr:List V}{ps:List (Str × Str)}{n:Nat}{x y:Str}(h:Fnd H H' lf us fr ps n) (ht:H' t=some (.tup [.str x,.str y])) (hx:x∈us) (hy:y∈us) (hl:H lf=none):Fnd H (upd H' lf (.lst (fr++[.ref t]))) lf us (fr++[.ref t]) (ps++[(x,y)]) (n+1):=by
 refine⟨upd_same,?_,fun e he=>?_,by rw[List.length_append];have:=h.l;show _+1<=_;omega,same_at h.s hl⟩
 ·rw[List.map_append]
  exact RepAll.append (repBut_all (repBut_pair h.f But.upd) h.r) (.cons (repBut_pair h.f But.upd (pair_rep ht)) .nil)
 ·rcases List.mem_append.mp he with q | q
  ·exact h.i e q
  ·rw[List.mem_singleton.mp q];exact⟨hx,hy⟩
theorem Fnd.len {H H':Hp}{lf:Addr}{us:List Str}{fr:List V}{ps:List (Str × Str)}{n:Nat}(h:Fnd H H' lf us fr ps n):fr.length<=n:=by
 have:=h.r.len
 rw[List.length_map] at this
 have:=h.l
 omega
abbrev wds:List Str:=["first","last"]
theorem word_of {i:Nat}{x:V}(h:[V.str "first",V.str "last"][i]? = some x):∃wd:Str,x=.str wd/\wds[i]? = some wd:=by
 have e:[V.str "first",V.str "last"]=List.map V.str wds:=rfl
 rw[e] at h
 obtain⟨wd,h1,h2⟩:=str_get h
 exact⟨wd,h2.symm,h1⟩
abbrev wrdP (c:List Str) (wn:Prs) (w:Str):Prs:=(wL c wn w).flatMap (rowP (decide (w="last")) c)
theorem ok_edges {f:Addr}{fd:FuncData}(F:Fun K "_law_edges" "_law_edges" sEdges f fd) (B:Blt mg) (c_law_around:Cal P w K mg base 1 "_law_around" ["_law_knots"] spAround) (c_law_parting:Cal P w K mg base 2 "_law_parting" ["_law_around_here", "_law_one", "_law_other"] spPartBy):FnOk P w K mg base CX0 3 f fd ["_law_house_here", "_law_knot"] spEdges := by
 refine F.ok1 ["_law_house_here","_law_knot","_law_some","_law_around_here","_law_found","_law_one","_law_other","_law_told","_law_word","_law_unit","_law_pair_here"] fun nd H Q E hr h=>?_
 obtain⟨q,us,ks,ts,ws,wn,knot,c0,rfl,R,T,tok,WX,hkk,tl,wl,k⟩:=h
 have wok:=WX.ok
 refine⟨_,(pss_cons (ps_set (i:=2) nd rfl (Or.inr rfl) (px K hr (b_dicKT K rfl hr.units B (p1 (px K hr (pv 0) pe_int))) (pv 1)))
  (pss_cons (pst 3 nd (pc c_law_around hr (p1 (px K hr (pv 0) pe_int))))
  (pss_cons (pst 4 nd (pe_lst pa_nil))
  (pss_cons (ps_for PassesOwn.never rfl (pi_tupK K (px K hr (pv 0) pe_int)) (pg_tupK (n:=2) K rfl (pgs_cons (pg_name (i:=5) nd rfl (Or.inl rfl)) (pgs_cons (pg_name (i:=6) nd rfl (Or.inl rfl)) pgs_nil))) (pss_cons (pst 7 nd (pc c_law_parting hr (pa_cons (pv 3) (p2 (pv 5) (pv 6)))))
  (pss_one (ps_if (PW.pt (pw_and (pt_cmpR (op_eqX hr.units) (px K hr (pv 7) pe_int) (pv 1) (nomark _)) (pw_and1 (pt_cmpR (op_notInX K hr.units) (pe_slice sl_tup (pv 7) (po_some pe_int) po_none) (pv 4) (by with_unfolding_all rfl))))) (pss_one (ps_expr (m_append K (pv 4) (p1 (pe_slice sl_tup (pv 7) (po_some pe_int) po_none))))) pss_nil))))
  (pss_cons (ps_for PassesOwn.never rfl (pi_tupK K (pe_tup (p2 pe_str pe_str))) (pg_name (i:=8) nd rfl (Or.inr rfl)) (pss_one (ps_for PassesOwn.never rfl (pi_listK K (pe_comp (defScope sEdges) ["_law_house_here","_law_knot","_law_some","_law_around_here","_law_found","_law_one","_law_other","_law_told","_law_word","_law_unit","_law_pair_here"] ["_law_sort","_law_unit"] [8,2] ["_law_sort","_law_unit","_law_word","_law_some"] rfl (pi_tupK K (px K hr (pv 0) pe_int)) (fun _ _ _ _ _=>(pg_tupK (n:=2) K rfl (pgs_cons (pg_name (i:=0) (show (["_law_sort","_law_unit","_law_word","_law_some"]:List Str).Nodup by decide) rfl (Or.inl rfl)) (pgs_cons (pg_name (i:=1) (show (["_law_sort","_law_unit","_law_word","_law_some"]:List Str).Nodup by decide) rfl (Or.inl rfl)) pgs_nil)))) (fun _ _ _ _ _=>(pts_one (PW.pt (pw_and (pt_cmpR (op_eqX hr.units) (pv 0) (pv 2) (nomark _)) (pw_and1 (pt_cmpR (op_inX K hr.units) (pv 1) (pv 3) (by with_unfolding_all rfl))))))) (fun _ _ _ _ _=>(pv 1)))) (pg_name (i:=9) nd rfl (Or.inl rfl)) (pss_one (ps_for PassesOwn.never rfl (pi_tupK K (pv 2)) (pg_name (i:=6) nd rfl (Or.inl rfl)) (pss_cons (pst 10 nd (px K hr (pe_lst (p2 (pe_tup (p2 (pv 9) (pv 6))) (pe_tup (p2 (pv 6) (pv 9))))) (b_int B (p1 (pe_cmpR (op_eqX hr.units) (pv 8) pe_str (nomark _))))))
  (pss_one (ps_if (PW.pt (pw_and (pt_cmpR (op_neX hr.units) (pv 6) (pv 9) (nomark _)) (pw_and1 (pt_cmpR (op_notInX K hr.units) (pv 10) (pv 4) (by with_unfolding_all rfl))))) (pss_one (ps_expr (m_append K (pv 4) (p1 (pv 10))))) pss_nil))))))))
  (pss_one (ps_ret (pv 4)))))))),?_⟩
 have nmu:∀ {ps:List (Str × Str)},PsIn us ps->∀e∈ps,Nm e.1/\Nm e.2:=fun h e he=>⟨T.nm _ (h e he).1,T.nm _ (h e he).2⟩
 have sz:200000<sizeLine:=by decide
 have ulen:=T.len
 obtain⟨q',a,b,c,d4,e0,hq,R1,R2,_,R4⟩:=house_at R
 cases e0
 obtain⟨kk,ekk⟩:∃kk:Str × List Str,kk=(knot,c0):=⟨_,rfl⟩
 have hkn:kk.1=knot:=by rw[ekk]
 have ec0:c0=kk.2:=by rw[ekk]
 rw[<- ekk] at hkk
 rw[ec0] at k
 refine⟨_,rfl,.tup (.of hq) rfl (nil_ (dict_knots R1 T fun D dk hD hdk=>?_))⟩
 obtain⟨la,hva,hla⟩:=hdk kk hkk
 rw[hkn] at hva
 have s1:=Same.new (o:=.dK dk) hD
 refine⟨_,rfl,.dic (.inl ⟨dk,.inr knot,.inl upd_same,rfl,hva.symm⟩) ?_⟩
 generalize upd H D (.dK dk)=H1 at s1 ⊢
 refine⟨_,rfl,.tup (.of (s1 _ _ hq)) rfl ⟨a,us,ks,rfl,R1.same s1,T,fun d kvs H2 s2 hd0 hd ar=>?_⟩⟩
 have s12:=s1.trans s2
 refine⟨(szl 0),fun lf hlf=>?_⟩
 have s3:=Same.new (o:=.lst []) hlf
 have s13:=s12.trans s3
 have frf:H lf=none:=same_free s12 hlf
 have nlf:d≠lf:=ne_of_none hd hlf
 have fn0:Fnd H (upd H2 lf (.lst [])) lf us [] [] 0:=⟨upd_same,.nil,(fun e he=>by cases he),Nat.le_refl _,s13⟩
 have hd3:=s3 _ _ hd
 generalize upd H2 lf (.lst [])=H3 at s13 fn0 hd3 ⊢
 obtain⟨b',rb,e0,hb,rpb⟩:=pairsT_at R2
 cases e0
 obtain⟨d4',rw4,e0,hd4,rpw⟩:=pairsT_at R4
 cases e0
 have rblen:=rpb.len
 have rwlen:=rpw.len
 rw[List.length_map] at rblen rwlen
 refine⟨_,rfl,.tup (.of (s13 _ _ hq)) rfl ⟨b,rfl,⟨_,.of (s13 _ _ hb)⟩,?_⟩⟩
 refine for_tup (xs:=rb) (fun i σ H'=>∃(o5 o6 o7:Option V) (fr:List V) (ps:List (Str × Str)),σ=[some (.ref q),some (.str knot),some (.ref la),some (.ref d),some (.ref lf),o5,o6,o7,none,none,none]/\Fnd H H' lf us fr ps i/\H' d=some (.dK kvs)/\ps=dedTo [] ((ts.take i).filterMap (basO ks knot))) ?_ ?_ ?_ ?_
 ·exact⟨none,none,none,[],[],rfl,fn0,hd3,rfl⟩
 ·rintro i σ H' hi ⟨o5,o6,o7,fr,ps,rfl,fn,_⟩
  exact .of (fn.s _ _ hb)
 ·rintro i x σ H4 hx ⟨o5, o6, o7, fr, ps, rfl, fn, hd4', eps⟩
  obtain⟨e,ta,he,rfl,hta⟩:=pair_get rpb hx
  have hil:=(List.getElem?_eq_some_iff.mp he).1
  obtain⟨hu,hv,hpn⟩:=tok e (List.mem_of_getElem? he)
  refine⟨ta,_,rfl,.of (fn.s _ _ hta),rfl,_,_,rfl,_,_,rfl,rfl,?_⟩
  refine⟨_,rfl,_,rfl,_,rfl,d,kvs,us,ks,e.1,e.2,rfl,hd4',ar,T,hu,hv,fun y H5 s5 px=>?_⟩
  cases hpo:partO ks e.1 e.2 with
  | none=>exact absurd hpo hpn
  | some t3 =>
   obtain⟨kq,x1,y1⟩:=t3
   rw[hpo] at px
   obtain⟨t,rfl,ht⟩:=px
   obtain⟨_,_,hx1,hy1,_⟩:=T.part hu hv hpo
   have fn5:=fn.more s5 (Nat.le_refl _)
   have hd5:=s5 _ _ hd4'
   have eb:basO ks knot e=if kq=knot then some (x1,y1) else none:=by unfold basO;rw[hpo]
   have etk:(ts.take (i+1)).filterMap (basO ks knot)=(ts.take i).filterMap (basO ks knot)++(basO ks knot e).toList:=by
    rw[List.take_add_one,he,List.filterMap_append]
    cases h:basO ks knot e <;> simp[h]
   have est:dedTo [] ((ts.take (i+1)).filterMap (basO ks knot))=dedTo ps (if kq=knot then some (x1,y1) else none:Option (Str × Str)).toList:=by rw[etk,eb,dedTo_app,<- eps]
   clear etk eb
   have cutE:cutV [V.str kq,V.str x1,V.str y1] (some 1) none=[V.str x1,V.str y1]:=rfl
   refine⟨_,rfl,.tup (.of ht) rfl ⟨_,rfl,.sc rfl ⟨_,rfl,?_⟩⟩⟩
   refine ite2 (fun hq=>?_) (fun hq=>?_)
   ·have hq:kq=knot:=Classical.byContradiction fun z=>by rw[if_neg (by decide),decide_eq_false (fun w=>z (V.str.inj w))] at hq;cases hq
    rw[if_pos hq] at est
    refine⟨_,rfl,_,rfl,t,_,rfl,.of ht,(fun z=>absurd (show HT.sIx 3 0 (some 1)=0 from z.1) (by decide)),fun t2 ht2=>?_⟩
    rw[cutE]
    have s6:=Same.new (o:=.tup [V.str x1,V.str y1]) ht2
    have fn6:=fn5.more s6 (Nat.le_refl _)
    have flen:=fn6.len
    refine⟨_,rfl,.tr (d:=pairD (x1,y1)) fn6.f fn6.r (pair_rep upd_same) (canLay_pairsN (nmu fn6.i)) (canLay_pairN ⟨T.nm _ hx1,T.nm _ hy1⟩) (by show 1<=16;decide) ⟨_,rfl,?_⟩⟩
    have ht6:=s6 _ _ ht
    have hd6:=s6 _ _ hd5
    generalize upd H5 t2 (.tup [V.str x1,V.str y1])=H6 at fn6 ht6 hd6 ⊢
    refine ite2 (fun hin=>?_) (fun hin=>?_)
    ·have hin:=not_any hin
     refine⟨_,rfl,.inl ⟨rfl,_,.of fn6.f⟩,_,rfl,_,rfl,t,_,rfl,.of ht6,(fun z=>absurd (show HT.sIx 3 0 (some 1)=0 from z.1) (by decide)),fun t7 ht7=>?_⟩
     rw[cutE]
     have s7:=Same.new (o:=.tup [V.str x1,V.str y1]) ht7
     have fn7:=fn6.more s7 (Nat.le_refl _)
     refine nil_ ⟨lf,_,_,rfl,rfl,fn7.f,by omega,?_⟩
     exact⟨_,_,_,_,_,rfl,fn7.app upd_same hx1 hy1 frf,by rw[upd_ne nlf];exact s7 _ _ hd6,by rw[est];exact(if_neg hin).symm⟩
    ·have hin:=yes_any hin
     exact⟨_,_,_,fr,ps,rfl,fn6.more (Same.refl _) (by omega),hd6,by rw[est];exact(if_pos hin).symm⟩
   ·have hq:kq≠knot:=fun z=>hq (by rw[if_neg (by decide),z,decide_eq_true rfl])
    rw[if_neg hq] at est
    exact iteF ⟨_,_,_,fr,ps,rfl,fn5.more (Same.refl _) (by omega),hd5,est.symm⟩
 ·rintro σ H4 ⟨o5, o6, o7, fr, ps, rfl, fn, _, eps⟩
  rw[rblen,List.take_of_length_le (Nat.le_refl _)] at eps
  refine⟨(szl 2),fun tw htw=>?_⟩
  refine nw htw fun H5 s5 etw=>?_
  have fn:=fn.more s5 (Nat.le_refl _)
  refine⟨tw,rfl,⟨_,.of etw⟩,?_⟩
  have kin:∀u∈kk.2,u∈us:=fun u hu=>T.isIn hkk hu
  have klen:kk.2.length<=60:=by
   have:=nd_len (kid_nodup T hkk) kin
   omega
  refine for_tup (xs:=[V.str "first",V.str "last"]) (fun i σ H'=>∃(o5 o6 o7 o8 o9 o10:Option V) (fr:List V) (ps:List (Str × Str)),σ=[some (.ref q),some (.str knot),some (.ref la),some (.ref d),some (.ref lf),o5,o6,o7,o8,o9,o10]/\Fnd H H' lf us fr ps (200+i * 7320)/\ps=dedTo (dedTo [] (ts.filterMap (basO ks knot))) ((wds.take i).flatMap (wrdP kk.2 wn))/\H' tw=some (.tup [V.str "first",V.str "last"])) ?_ ?_ ?_ ?_
  ·exact⟨_,_,_,_,_,_,fr,ps,rfl,fn.more (Same.refl _) (by omega),eps,etw⟩
  ·rintro i σ H' hi ⟨o5,o6,o7,o8,o9,o10,fr,ps,rfl,_,_,etw⟩
   exact .of etw
  ·rintro i x σ H6 hx ⟨o5, o6, o7, o8, o9, o10, fr, ps, rfl, fn, eps, etw⟩
   have hi2:i<2:=(List.getElem?_eq_some_iff.mp hx).1
   obtain⟨wd,rfl,hwd⟩:=word_of hx
   have fn6f:=fn.f
   refine⟨_,rfl,.tup (.of (fn.s _ _ hq)) rfl ⟨d4,rfl,⟨_,.of (fn.s _ _ hd4)⟩,?_⟩⟩
   refine comp_tup rw4 (fun D2 j acc σ' H'=>∃(o0 o1:Option V) (zs:List Str),σ'=[o0,o1,some (.str wd),some (.ref la)]/\acc=List.map V.str zs/\zs=wL kk.2 (wn.take j) wd/\zs.length<=j/\Same H6 H'/\H6 D2=none) fun D2 hD2=>⟨?_,?_,?_,?_⟩
   ·exact⟨none,none,[],rfl,rfl,rfl,Nat.le_refl _,Same.new hD2,hD2⟩
   ·rintro j acc σ' H' _ ⟨o0,o1,zs,rfl,_,_,_,sm,_⟩ _
    exact .of (sm _ _ (fn.s _ _ hd4))
   ·rintro j acc σ' H' v hv ⟨o0, o1, zs, rfl, rfl, zin, zl, sm, hD20⟩ hacc
    obtain⟨e,ta,he,rfl,hta⟩:=pair_get rpw hv
    have hjl:=(List.getElem?_eq_some_iff.mp he).1
    have sH:=fn.s.trans sm
    refine⟨ta,_,rfl,.of (sH _ _ hta),rfl,_,_,rfl,_,_,rfl,rfl,?_⟩
    have ewl:wL kk.2 (wn.take (j+1)) wd=wL kk.2 (wn.take j) wd++(if (decide (e.1=wd)&&decide (e.2∈kk.2))=true then [e.2] else []):=by
     unfold wL
     rw[List.take_add_one,he,List.filter_append,List.map_append]
     congr 1
     show List.map _ (List.filter _ [e])=_
     rw[List.filter_cons,List.filter_nil]
     split <;> rfl
    refine⟨_,rfl,_,rfl,.sc rfl ⟨_,rfl,?_⟩⟩
    refine ite2 (fun hw=>?_) (fun hw=>iteF ?_)
    ·have hw:e.1=wd:=Classical.byContradiction fun z=>by rw[if_neg (by decide),decide_eq_false (fun w=>z (V.str.inj w))] at hw;cases hw
     rw[decide_eq_true hw,Bool.true_and] at ewl
     refine⟨_,rfl,_,rfl,.seq (.inr (.of (sH _ _ hla))) rfl (flat_strs _) ⟨_,rfl,?_⟩⟩
     rw[if_neg (show ¬ false=true by decide),in_strs]
     refine ite2 (fun hc=>?_) (fun hc=>?_)
     ·rw[if_pos hc] at ewl
      exact⟨_,rfl,hacc,by rw[List.length_map];exact small1000 (by omega),_,_,zs++[e.2],rfl,by rw[List.map_append];rfl,by rw[ewl,<- zin],by rw[List.length_append];show _+1<=_;omega,same_at sm hD20,hD20⟩
     ·rw[if_neg hc,List.append_nil] at ewl
      exact⟨hacc,_,_,zs,rfl,rfl,by rw[ewl];exact zin,by omega,sm,hD20⟩
    ·have hw:e.1≠wd:=fun z=>hw (by rw[if_neg (by decide),z,decide_eq_true rfl])
     rw[decide_eq_false hw,Bool.false_and,if_neg (by decide),List.append_nil] at ewl
     exact⟨hacc,_,_,zs,rfl,rfl,by rw[ewl];exact zin,by omega,sm,hD20⟩
   ·rintro acc σ' H7 ⟨o0, o1, zs, rfl, rfl, ezs, zl, sm, hD20⟩ hacc
    rw[rwlen,List.take_of_length_le (Nat.le_refl _)] at ezs
    have zin:∀z∈zs,z∈us:=fun z hz=>by
     rw[ezs] at hz
     unfold wL at hz
     obtain⟨e,he,rfl⟩:=List.mem_map.mp hz
     exact(wok e (List.mem_filter.mp he).1).2
    have fn:=fn.more sm (Nat.le_refl _)
    have etw:=sm _ _ etw
    have nDf:D2≠lf:=Ne.symm (ne_of_none fn6f hD20)
    refine⟨D2,rfl,⟨_,.of hacc⟩,?_⟩
    have wlz:zs.length<=122:=by omega
    refine for_list (xs:=List.map V.str zs) (fun j σ H'=>∃(o6 o9 o10:Option V) (fr:List V) (ps2:List (Str × Str)),σ=[some (.ref q),some (.str knot),some (.ref la),some (.ref d),some (.ref lf),o5,o6,o7,some (.str wd),o9,o10]/\Fnd H H' lf us fr ps2 (200+i * 7320+j * 60)/\ps2=dedTo ps ((zs.take j).flatMap (rowP (decide (wd="last")) kk.2))/\H' tw=some (.tup [V.str "first",V.str "last"])/\H' D2=some (.lst (List.map V.str zs))) ?_ ?_ ?_ ?_
    ·exact⟨_,_,_,fr,ps,rfl,fn.more (Same.refl _) (by omega),rfl,etw,hacc⟩
    ·rintro j σ H' hj ⟨o6,o9,o10,fr,ps2,rfl,_,_,_,hac⟩
     exact .of hac
    ·rintro j x σ H8 hx ⟨o6, o9, o10, fr, ps2, rfl, fn, eps2, etw, hac⟩
     obtain⟨un,hun,rfl⟩:=str_get hx
     have hjl:=(List.getElem?_eq_some_iff.mp hun).1
     have unin:=zin un (List.mem_of_getElem? hun)
     refine⟨_,rfl,la,rfl,⟨_,.of (fn.s _ _ hla)⟩,?_⟩
     refine for_tup (xs:=kk.2.map V.str) (fun m σ H'=>∃(o6 o10:Option V) (fr:List V) (ps3:List (Str × Str)),σ=[some (.ref q),some (.str knot),some (.ref la),some (.ref d),some (.ref lf),o5,o6,o7,some (.str wd),some (.str un),o10]/\Fnd H H' lf us fr ps3 (200+i * 7320+j * 60+m)/\ps3=dedTo ps2 (rowP (decide (wd="last")) (kk.2.take m) un)/\H' tw=some (.tup [V.str "first",V.str "last"])/\H' D2=some (.lst (List.map V.str zs))) ?_ ?_ ?_ ?_
     ·exact⟨_,_,fr,ps2,rfl,fn,rfl,etw,hac⟩
     ·rintro m σ H' hm ⟨o6,o10,fr,ps3,rfl,fn,_⟩
      exact .of (fn.s _ _ hla)
     ·rintro m y σ H9 hy ⟨o6, o10, fr, ps3, rfl, fn, eps3, etw, hac⟩
      obtain⟨ot,hot,rfl⟩:=str_get hy
      have hml:=(List.getElem?_eq_some_iff.mp hot).1
      have otin:=kin ot (List.mem_of_getElem? hot)
      refine⟨_,rfl,_,rfl,(szl 2),fun t1 h1=>?_⟩
      refine nw h1 fun HA sA e1=>?_
      refine⟨_,rfl,_,rfl,(szl 2),fun t2 h2=>?_⟩
      refine nw h2 fun HB sB e2=>?_
      have e1:=sB _ _ e1
      have sAB:=sA.trans sB
      refine⟨(szl 2),fun l3 h3=>?_⟩
      refine nw h3 fun HC sC e3=>?_
      have e1:=sC _ _ e1
      have e2:=sC _ _ e2
      have fn:=fn.more (sAB.trans sC) (Nat.le_refl _)
      have etw:=(sAB.trans sC) _ _ etw
      have hac:=(sAB.trans sC) _ _ hac
      refine⟨_,rfl,.sc rfl ⟨_,rfl,.bl ?_⟩⟩
      obtain⟨tp,x2,y2,hat,htp,hx2,hy2,exy⟩:∃tp x2 y2,atI [V.ref t1,V.ref t2] (if (if false=true then !decide (V.str wd=V.str "last") else decide (V.str wd=V.str "last"))=true then 1 else 0)=some (.ref tp)/\HC tp=some (.tup [V.str x2,V.str y2])/\x2∈us/\y2∈us/\(x2,y2)=(if (decide (wd="last"))=true then (ot,un) else (un,ot)):=by
       have hbw:(if false=true then !decide (V.str wd=V.str "last") else decide (V.str wd=V.str "last"))=decide (wd="last"):=by
        rw[if_neg (by decide),Bool.eq_iff_iff,decide_eq_true_iff,decide_eq_true_iff]
        exact⟨fun z=>V.str.inj z,fun z=>by rw[z]⟩
       rw[hbw]
       by_cases hb:decide (wd="last")=true
       ·rw[if_pos hb,if_pos hb];exact⟨t2,ot,un,rfl,e2,otin,unin,rfl⟩
       ·rw[if_neg hb,if_neg hb];exact⟨t1,un,ot,rfl,e1,unin,otin,rfl⟩
      refine .lst (.of e3) hat ?_
      have flen:=fn.len
      have erow:rowP (decide (wd="last")) (kk.2.take (m+1)) un=rowP (decide (wd="last")) (kk.2.take m) un++(if ot=un then [] else [(x2,y2)]):=by
       unfold rowP
       rw[List.take_add_one,hot,List.filter_append,List.map_append]
       congr 1
       show List.map _ (List.filter _ [ot])=_
       rw[List.filter_cons,List.filter_nil,exy]
       by_cases hz:ot=un
       ·rw[if_neg (by simpa using hz),if_pos hz];rfl
       ·rw[if_pos (by simpa using hz),if_neg hz];rfl
      refine⟨_,rfl,_,rfl,.sc rfl ⟨_,rfl,?_⟩⟩
      refine ite2 (fun hz=>?_) (fun hz=>iteF ?_)
      ·have hz:ot≠un:=fun z=>by rw[if_pos rfl,z,decide_eq_true rfl] at hz;cases hz
       rw[if_neg hz] at erow
       refine⟨_,rfl,_,rfl,.tr (d:=pairD (x2,y2)) fn.f fn.r (pair_rep htp) (canLay_pairsN (nmu fn.i)) (canLay_pairN ⟨T.nm _ hx2,T.nm _ hy2⟩) (by show 1<=16;decide) ⟨_,rfl,?_⟩⟩
       refine ite2 (fun hin=>?_) (fun hin=>?_)
       ·have hin:=not_any hin
        refine⟨_,rfl,.inl ⟨rfl,_,.of fn.f⟩,_,rfl,nil_ ⟨lf,_,_,rfl,rfl,fn.f,by omega,?_⟩⟩
        exact⟨_,_,_,_,rfl,fn.app htp hx2 hy2 frf,by rw[erow,dedTo_app,<- eps3];exact(if_neg hin).symm,by rw[upd_ne (ne_of etw fn.f (by intro z;cases z))];exact etw,by rw[upd_ne nDf];exact hac⟩
       ·have hin:=yes_any hin
        exact⟨_,_,fr,ps3,rfl,fn.more (Same.refl _) (by omega),by rw[erow,dedTo_app,<- eps3];exact(if_pos hin).symm,etw,hac⟩
      ·have hz:ot=un:=Classical.byContradiction fun z=>hz (by rw[if_pos rfl,decide_eq_false (fun w=>z (V.str.inj w))];rfl)
       rw[if_pos hz,List.append_nil] at erow
       exact⟨_,_,fr,ps3,rfl,fn.more (Same.refl _) (by omega),by rw[erow];exact eps3,etw,hac⟩
     ·rintro σ H9 ⟨o6,o10,fr,ps3,rfl,fn,eps3,etw,hac⟩
      rw[List.length_map] at fn eps3
      rw[List.take_of_length_le (Nat.le_refl _)] at eps3
      refine⟨_,_,_,fr,ps3,rfl,fn.more (Same.refl _) (by omega),?_,etw,hac⟩
      rw[List.take_add_one,hun,List.flatMap_append,dedTo_app,<- eps2,eps3]
      congr 1
      simp
    ·rintro σ H8 ⟨o6,o9,o10,fr,ps2,rfl,fn,eps2,etw,hac⟩
     rw[List.length_map] at fn eps2
     rw[List.take_of_length_le (Nat.le_refl _)] at eps2
     refine⟨_,_,_,_,_,_,fr,ps2,rfl,fn.more (Same.refl _) (by omega),?_,etw⟩
     rw[List.take_add_one,hwd,List.flatMap_append,dedTo_app,<- eps,eps2,ezs]
     congr 1
     simp
  ·rintro σ H' ⟨o5,o6,o7,o8,o9,o10,fr,ps,rfl,fn,eps,_⟩
   have cn:=kid_nodup T hkk
   have ev:ps=viewE ks ts wn knot kk.2:=by
    rw[eps]
    unfold viewE
    rw[dedTo_app,wf_same T WX hkk cn,wf_same T WX hkk cn]
    show dedTo _ (wrdP kk.2 wn "first"++(wrdP kk.2 wn "last"++[]))=_
    rw[List.append_nil]
    rfl
   have h2:=fn.l
   have h3:([V.str "first",V.str "last"]:List V).length=2:=rfl
   subst ev
   exact⟨_,rfl,k lf fr H' fn.s frf fn.f fn.r (by omega) fn.i⟩
end
end K39
namespace K39
open PySem L2
section
variable {P:Program}{w:World}{K:W.Frag}{mg:Str->Option Value}{base:Heap}
def WsR (ks:Kn) (ts wn ws:Prs):Prop:=∀e∈ws,∃k∈ks,∃x y,partO ks e.1 e.2=some (k.1,x,y)/\x∈k.2/\y∈k.2/\MG.Rch (Tie (viewE ks ts wn k.1 k.2)) y x
def spWaiting (K:W.Frag):Sp:=fun vs H Q _=>∃(p a q un us ks:_) (ts ws wn:List (Str × Str)),vs=[.ref p,.ref q,.ref un]/\Pen K H p a/\Rep H (.ref q) (houseD ks ts ws wn)/\Tre us ks/\TsP us ks ts/\WnF us ks wn/\ts.length<=200/\wn.length<=122/\H un=some (.lst (List.map V.str us))/\un≠p /\
 ∀(l:Addr) (refs:List V) (ps:List (Str × Str)) (H':Hp),H' l=some (.lst refs)->RepAll H' refs (ps.map pairD)->PsIn us ps->ps.Nodup->WsR ks ts wn ps->ps.length<=6->l≠p->PenV H' p a->But p H H'->Q (.ref l) H'
theorem ok_waiting {f:Addr}{fd:FuncData}(F:Fun K "_law_waiting" "_law_waiting" sWaiting f fd) (B:Blt mg) (c_law_draw:Cal P w K mg base 1 "_law_draw" ["_law_pen_here", "_law_most"] (spDraw K)) (c_law_around:Cal P w K mg base 1 "_law_around" ["_law_knots"] spAround) (c_law_parting:Cal P w K mg base 2 "_law_parting" ["_law_around_here", "_law_one", "_law_other"] spPartBy) (c_law_edges:Cal P w K mg base 3 "_law_edges" ["_law_house_here", "_law_knot"] spEdges) (c_law_reached:Cal P w K mg base 1 "_law_reached" ["_law_edges_here", "_law_one"] spReachL) :
    FnOk P w K mg base CX0 4 f fd ["_law_pen_here","_law_house_here","_law_units"] (spWaiting K):=by
 refine F.ok1 ["_law_pen_here","_law_house_here","_law_units","_law_found","_law_k","_law_pair_here","_law_told"] fun nd H Q E hr h=>?_
 obtain⟨p,a,q,un,us,ks,ts,ws,wn,rfl,hP,R,T,tok,wok,tl,wl,hun,nup,k⟩:=h
 have v0:=hP.2
 obtain⟨ys0,hp0⟩:=penAt v0
 have ulen:=T.len
 have mlu:(List.map V.str us).length=us.length:=List.length_map ..
 refine⟨_,(pss_cons (pst 3 nd (pe_lst pa_nil))
  (pss_cons (ps_for PassesOwn.never rfl (pi_range1 rfl B.range (p1 (b_min rfl B (p2 (b_len K B (p1 (pv 2))) (pc c_law_draw hr (p2 (pv 0) pe_int)))))) (pg_name (i:=4) nd rfl (Or.inl rfl)) (pss_cons (pst 5 nd (pe_tup (p2 (px K hr (pv 2) (pc c_law_draw hr (p2 (pv 0) (b_len K B (p1 (pv 2)))))) (px K hr (pv 2) (pc c_law_draw hr (p2 (pv 0) (b_len K B (p1 (pv 2)))))))))
  (pss_cons (ps_if (PW.pt (pw_and (pt_cmpR op_gt (b_len K B (p1 (px K hr (pv 1) pe_int))) pe_int (nomark _)) (pw_and1 (pt_cmpR (op_eqX hr.units) (pc c_law_draw hr (p2 (pv 0) pe_int)) pe_int (nomark _))))) (pss_one (pst 5 nd (pe_revT K (px K hr (px K hr (pv 1) pe_int) (pc c_law_draw hr (p2 (pv 0) (b_len K B (p1 (px K hr (pv 1) pe_int)))))) (po_some (pe_un un_neg pe_int))))) pss_nil)
  (pss_cons (pst 6 nd (pc c_law_parting hr (pa_cons (pc c_law_around hr (p1 (px K hr (pv 1) pe_int))) (p2 (px K hr (pv 5) pe_int) (px K hr (pv 5) pe_int)))))
  (pss_one (ps_if (PW.pt (pw_and (pt_cmpR op_isNotX (pv 6) pe_non (nomark _)) (pw_and1 (pt_cmpR (op_notInX K hr.units) (pv 5) (pv 3) (by with_unfolding_all rfl))))) (pss_one (ps_if (pt_cmpR (op_inX K hr.units) (px K hr (pv 6) pe_int) (pc c_law_reached hr (p2 (pc c_law_edges hr (p2 (pv 1) (px K hr (pv 6) pe_int))) (px K hr (pv 6) pe_int))) (by with_unfolding_all rfl)) (pss_one (ps_expr (m_append K (pv 3) (p1 (pv 5))))) pss_nil)) pss_nil))))))
  (pss_one (ps_ret (pv 3))))),?_⟩
 refine⟨(szl 0),fun lf hlf=>?_⟩
 have nfp:lf≠p:=Ne.symm (v0.ne hlf)
 have b1:But p H (upd H lf (.lst [])):=(But.refl p H).at hlf
 have v1:PenV (upd H lf (.lst [])) p a:=v0.upd (v0.ne hlf)
 have e1:upd H lf (.lst []) lf=some (.lst []):=upd_same
 generalize upd H lf (.lst [])=H1 at b1 v1 e1 ⊢
 refine⟨_,rfl,_,_,rfl,Or.inl ⟨_,.of (b1 un _ nup hun),rfl⟩,_,rfl,p,a,6,rfl,hP.but b1 v1,by decide,by decide,fun r H2 hr0 hr1 v2 e2=>⟨_,_,rfl,_,rfl,?_⟩⟩
 rw[mlu]
 obtain⟨cn,ecn,hcn⟩:∃cn:Nat,(if r<((us.length:Nat):Int) then r else ((us.length:Nat):Int))=(cn:Int)/\cn<=6/\cn<=us.length:=by
  split
  ·exact⟨r.toNat,by omega,by omega,by omega⟩
  ·exact⟨us.length,rfl,by omega,Nat.le_refl _⟩
 rw[ecn]
 refine⟨by omega,by omega,?_⟩
 rw[show ((cn:Nat):Int).toNat=cn from rfl]
 have b12:=But.of_eq e2
 have b2:=b1.trans b12
 refine for_range (fun i σ H'=>∃(o4 o5 o6:Option V) (fr:List V) (ps:List (Str × Str)),σ=[some (.ref p),some (.ref q),some (.ref un),some (.ref lf),o4,o5,o6]/\H' lf=some (.lst fr)/\RepAll H' fr (ps.map pairD)/\PsIn us ps/\ps.Nodup/\WsR ks ts wn ps/\ps.length<=i/\PenV H' p a/\But p H H') ?_ ?_ ?_
 ·exact⟨none,none,none,[],[],rfl,b12 lf _ nfp e1,.nil,(fun e he=>by cases he),List.nodup_nil,(fun e he=>by cases he),Nat.le_refl _,v2,b2⟩
 ·rintro i σ H3 hi ⟨o4, o5, o6, fr, ps, rfl, hf3, rf3, ok3, nd3, wr3, hl3, v3, b3⟩
  have hi:i<cn:=hi
  have upos:0<us.length:=by omega
  obtain⟨ys3,hp3⟩:=penAt v3
  have nmp:∀e∈ps,Nm e.1/\Nm e.2:=fun e he=>⟨T.nm _ (ok3 e he).1,T.nm _ (ok3 e he).2⟩
  have flen:=rf3.len
  rw[List.length_map] at flen
  have keep:∀H',But p H3 H'->H' lf=some (.lst fr)/\RepAll H' fr (ps.map pairD):=fun H' b=>⟨b lf _ nfp hf3,repBut_all (repBut_pair hp3 b) rf3⟩
  apply with_rest (J:=fun σ HZ=>∃(t:Addr) (x y:Str),σ=[some (.ref p),some (.ref q),some (.ref un),some (.ref lf),some (.int (0+(i:Nat):Int)),some (.ref t),o6]/\x∈us/\y∈us/\HZ t=some (.tup [.str x,.str y])/\PenV HZ p a/\But p H3 HZ)
  ·intro rest
   refine⟨_,rfl,_,rfl,_,rfl,_,_,rfl,Or.inl ⟨_,.of (b3 un _ nup hun),rfl⟩,p,a,_,rfl,hP.but b3 v3,by rw[mlu];omega,by rw[mlu];omega,fun r4 H4 h40 h41 v4 e4=>?_⟩
   have b34:=But.of_eq e4
   have b4:=b3.trans b34
   obtain⟨j1,rfl⟩:=Int.eq_ofNat_of_zero_le h40
   rw[mlu] at h41
   have hj1:j1<us.length:=by omega
   refine .lst (.of (b4 un _ nup hun)) (str_at hj1) ⟨_,rfl,_,rfl,_,rfl,_,_,rfl,Or.inl ⟨_,.of (b4 un _ nup hun),rfl⟩,p,a,_,rfl,hP.but b4 v4,by rw[mlu];omega,by rw[mlu];omega,fun r5 H5 h50 h51 v5 e5=>?_⟩
   have b35:=b34.trans (But.of_eq e5)
   have b5:=b3.trans b35
   obtain⟨j2,rfl⟩:=Int.eq_ofNat_of_zero_le h50
   rw[mlu] at h51
   have hj2:j2<us.length:=by omega
   refine .lst (.of (b5 un _ nup hun)) (str_at hj2) ⟨(szl 2),fun t ht=>?_⟩
   refine nw ht fun H6 s6 e6=>?_
   have v6:=penSame s6 v5
   have b36:=b35.trans (But.of_same (p:=p) s6)
   have hx:=mem_getD hj1
   have hy:=mem_getD hj2
   have b6:=b3.trans b36
   obtain⟨q',a1,b1',c1,d1,e0,hq6,R1,R2,_⟩:=house_at (repBut_house hp0 b6 R)
   cases e0
   obtain⟨b1'',rb,e0,hb6,rpb⟩:=pairsT_at R2
   cases e0
   have rblen:=rpb.len
   rw[List.length_map] at rblen
   refine⟨_,rfl,.tup (.of hq6) rfl (nil_ ⟨_,_,rfl,Or.inr ⟨_,.of hb6,rfl⟩,_,_,rfl,rfl,_,rfl,?_⟩)⟩
   refine ite2 (fun h=>?_) (fun _=>iteF ?_)
   ·have h:(0:Int)<((rb.length:Nat):Int):=of_decide_eq_true h
    refine⟨_,rfl,p,a,2,rfl,hP.but b6 v6,by decide,by decide,fun r7 H7 h70 h71 v7 e7=>.sc rfl ⟨_,rfl,?_⟩⟩
    have b67:=But.of_eq e7
    have b37:=b36.trans b67
    have b7:=b3.trans b37
    obtain⟨ys6,hp6⟩:=penAt v6
    refine ite2 (fun _=>?_) (fun _=>?_)
    ·refine⟨_,rfl,.tup (.of (tupBut hp6 b67 hq6)) rfl ⟨_,rfl,_,rfl,.tup (.of (tupBut hp6 b67 hq6)) rfl (nil_ ⟨_,_,rfl,Or.inr ⟨_,.of (tupBut hp6 b67 hb6),rfl⟩,nil_ ⟨p,a,_,rfl,hP.but b7 v7,by omega,by omega,fun r8 H8 h80 h81 v8 e8=>?_⟩⟩)⟩⟩
     obtain⟨ys7,hp7⟩:=penAt v7
     have b78:=But.of_eq e8
     have b68:=b67.trans b78
     have b38:=b37.trans b78
     obtain⟨j3,rfl⟩:=Int.eq_ofNat_of_zero_le h80
     obtain⟨z,hz⟩:∃z,rb[j3]? = some z:=⟨_,List.getElem?_eq_getElem (by omega)⟩
     obtain⟨e,te,he,rfl,hte⟩:=pair_get rpb hz
     have te':=tok e (List.mem_of_getElem? he)
     refine .tup (.of (tupBut hp6 b68 hb6)) (atI_nat hz) ⟨_,rfl,_,rfl,te,_,_,rfl,rfl,.of (tupBut hp6 b68 hte),fun t9 ht9=>?_⟩
     have s9:=Same.new (o:=.tup [V.str e.2,V.str e.1]) ht9
     dsimp only[gName]
     exact rest _ _ ⟨t9,e.2,e.1,rfl,te'.2.1,te'.1,upd_same,penSame s9 v8,b38.trans (But.of_same (p:=p) s9)⟩
    ·exact rest _ _ ⟨t,_,_,rfl,hx,hy,tupBut hp6 b67 e6,v7,b37⟩
   ·exact rest _ _ ⟨t,_,_,rfl,hx,hy,e6,v6,b36⟩
  ·rintro σ H6 ⟨t, x, y, rfl, hx, hy, ht6, v6, b36⟩
   have b6:=b3.trans b36
   have R6:=repBut_house hp0 b6 R
   obtain⟨hf6,rf6⟩:=keep H6 b36
   obtain⟨q',a1,b1',c1,d1,e0,hq6,R1,R2,_⟩:=house_at R6
   cases e0
   refine⟨_,rfl,.tup (.of hq6) rfl (nil_ ⟨a1,us,ks,rfl,R1,T,fun d kvs H7 s7 hd0 hd ar=>?_⟩)⟩
   refine⟨_,rfl,.tup (.of (s7 _ _ ht6)) rfl ⟨_,rfl,.tup (.of (s7 _ _ ht6)) rfl (nil_ ⟨d,kvs,us,ks,x,y,rfl,hd,ar,T,hx,hy,fun v H8 s8 px=>?_⟩)⟩⟩
   have s78:=s7.trans s8
   have fin:∀H' (o:V),Same H6 H'->∃(o4 o5 o6:Option V) (fr:List V) (ps:List (Str × Str)),[some (V.ref p),some (V.ref q),some (V.ref un),some (V.ref lf),some (.int (0+(i:Nat):Int)),some (.ref t),some o]=[some (V.ref p),some (.ref q),some (.ref un),some (.ref lf),o4,o5,o6]/\H' lf=some (.lst fr)/\RepAll H' fr (ps.map pairD)/\PsIn us ps/\ps.Nodup/\WsR ks ts wn ps/\ps.length<=i+1/\PenV H' p a/\But p H H':=fun H' o s =>
    ⟨_,_,_,fr,ps,rfl,s _ _ hf6,rf6.same s,ok3,nd3,wr3,by omega,penSame s v6,b6.trans (But.of_same (p:=p) s)⟩
   refine⟨_,rfl,.non ⟨_,rfl,?_⟩⟩
   cases hpo:partO ks x y with
   | none =>
    rw[hpo] at px
    cases px
    exact iteF (iteF (fin H8 _ s78))
   | some t3 =>
    obtain⟨kq,x1,y1⟩:=t3
    rw[hpo] at px
    obtain⟨tt,rfl,htt⟩:=px
    obtain⟨px1,py1,hx1,hy1,_⟩:=T.part hx hy hpo
    refine iteT ?_
    refine⟨_,rfl,_,rfl,.tr (d:=pairD (x,y)) (s78 _ _ hf6) (rf6.same s78) (pair_rep (s78 _ _ ht6)) (canLay_pairsN nmp) (canLay_pairN ⟨T.nm _ hx,T.nm _ hy⟩) (by show 1<=16;decide) ⟨_,rfl,?_⟩⟩
    refine ite2 (fun hni=>?_) (fun _=>?_)
    ·obtain⟨kk, hkk, hkn⟩ := List.mem_map.mp (T.par_in hx1).2
     rw[px1] at hkn
     have hkin:(kq,kk.2)∈ks:=by rw[<- hkn];exact hkk
     refine⟨_,rfl,.tup (.of htt) rfl ⟨_,rfl,_,rfl,.tup (.of htt) rfl (nil_ ⟨q,us,ks,ts,ws,wn,kq,kk.2,rfl,R6.same s78,T,tok,wok,hkin,tl,wl,fun le re H9 s9 hle0 hle rpe _ hpe=>?_⟩)⟩⟩
     refine⟨_,rfl,.tup (.of (s9 _ _ htt)) rfl (nil_ ⟨le,re,us,_,y1,rfl,hle,rpe,hpe,hy1,ulen,fun lr fs HA sA hlr0 hlr mem _=>?_⟩)⟩
     have s6A:=(s78.trans s9).trans sA
     refine .seq (.inl (.of hlr)) rfl (flat_strs _) ⟨_,rfl,?_⟩
     rw[in_strs]
     refine ite2 (fun hin=>?_) (fun _=>?_)
     ·have hin:x1 ∈ fs := by simpa using hin
      have hfA:=s6A _ _ hf6
      refine⟨_,rfl,.inl ⟨rfl,_,.of hfA⟩,_,rfl,nil_ ⟨lf,_,_,rfl,rfl,hfA,small1000 (by omega),?_⟩⟩
      refine⟨_,_,_,fr++[.ref t],ps++[(x,y)],rfl,upd_same,?_,fun e he=>?_,nodup_snoc nd3 (not_any hni),fun e he=>?_,by rw[List.length_append];show _+1<=_;omega,(penSame s6A v6).upd (Ne.symm nfp),(b6.trans (But.of_same (p:=p) s6A)).at hlf⟩
      ·rw[List.map_append]
       exact RepAll.append (repBut_all (repBut_pair hfA But.upd) (rf6.same s6A)) (.cons (repBut_pair hfA But.upd (pair_rep (s6A _ _ ht6))) .nil)
      ·rcases List.mem_append.mp he with w | w
       ·exact ok3 e w
       ·rw[List.mem_singleton.mp w];exact⟨hx,hy⟩
      ·rcases List.mem_append.mp he with w | w
       ·exact wr3 e w
       ·rw[List.mem_singleton.mp w]
        refine⟨(kq,kk.2),hkin,x1,y1,hpo,T.kid hx1 (by rw[px1];exact hkin),T.kid hy1 (by rw[py1];exact hkin),(mem x1).mp hin⟩
     ·exact fin HA _ s6A
    ·exact fin H8 _ s78
 ·rintro σ H3 ⟨o4,o5,o6,fr,ps,rfl,hf3,rf3,ok3,nd3,wr3,hl3,v3,b3⟩
  exact⟨_,rfl,k lf fr ps H3 hf3 rf3 ok3 nd3 wr3 (by omega) nfp v3 b3⟩
end
end K39
namespace K39
open PySem L2
section
variable {P:Program}{w:World}{K:W.Frag}{mg:Str->Option Value}{base:Heap}
def spHouse (K:W.Frag):Sp:=fun vs H Q _=>∃(p a un:_) (us:List Str) (dp:Int),vs=[.ref p,.ref un,.int dp]/\Pen K H p a/\H un=some (.lst (List.map V.str us))/\un≠p/\us.Nodup/\(∀u∈us,Nm u)/\us.length<=60/\0<=dp /\
 ∀(q:Addr) (ks:Kn) (ts ws wn:List (Str × Str)) (H':Hp),Rep H' (.ref q) (houseD ks ts ws wn)->Tre us ks->(ks.map (·.1)).head? = some ("":Str)->Dpt ks dp->TsOk us ks ts->ts.Nodup->PsIn us ws->ws.Nodup->WsR ks ts wn ws->WnX ks wn->(∀e∈wn,∃k∈ks,FX k e)->ts.length<=40->ws.length<=6->wn.length<=122->PenV H' p a->But p H H'->Q (.ref q) H'
theorem ok_house {f:Addr}{fd:FuncData}(F:Fun K "_law_house" "_law_house" sHouse f fd) (B:Blt mg) (c_law_draw:Cal P w K mg base 1 "_law_draw" ["_law_pen_here","_law_most"] (spDraw K)) (c_law_tree:Cal P w K mg base 2 "_law_tree" ["_law_pen_here","_law_names_here","_law_deep"] (spTree K)) (c_law_wants:Cal P w K mg base 2 "_law_wants" ["_law_pen_here","_law_knots"] (spWants K)) (c_law_kept:Cal P w K mg base 3 "_law_kept" ["_law_pen_here","_law_knots","_law_units","_law_many"] (spKept K)) (c_law_waiting:Cal P w K mg base 4 "_law_waiting" ["_law_pen_here","_law_house_here","_law_units"] (spWaiting K)) :
    FnOk P w K mg base CX0 5 f fd ["_law_pen_here","_law_units","_law_deep"] (spHouse K):=by
 refine F.ok1 ["_law_pen_here","_law_units","_law_deep","_law_knots","_law_wants_here","_law_ties","_law_house_here"] fun nd H Q E hr h=>?_
 obtain⟨p,a,un,us,dp,rfl,hP,hun,nup,und,unm,ulen,dp0,k⟩:=h
 have v0:=hP.2
 have mlu:(List.map V.str us).length=us.length:=List.length_map ..
 refine⟨_,(pss_cons (pst 3 nd (pc c_law_tree hr (pa_cons (pv 0) (p2 (pv 1) (pv 2)))))
  (pss_cons (pst 4 nd (pc c_law_wants hr (p2 (pv 0) (pv 3))))
  (pss_cons (pst 5 nd (pc c_law_kept hr (pa_cons (pv 0) (pa_cons (pv 3) (p2 (pv 1) (pc c_law_draw hr (p2 (pv 0) (pe_op op_addX (b_min rfl B (p2 pe_int (pe_op op_mul pe_int (b_len K B (p1 (pv 1)))))) pe_int))))))))
  (pss_cons (pst 6 nd (pe_tup (pa_cons (pv 3) (pa_cons (b_tuple K B (p1 (pv 5))) (p2 (pe_tup pa_nil) (b_tuple K B (p1 (pv 4))))))))
  (pss_one (ps_ret (pe_tup (pa_cons (pv 3) (pa_cons (b_tuple K B (p1 (pv 5))) (p2 (b_tuple K B (p1 (pc c_law_waiting hr (pa_cons (pv 0) (p2 (pv 6) (pv 1)))))) (b_tuple K B (p1 (pv 4))))))))))))),?_⟩
 refine⟨_,rfl,_,rfl,_,rfl,p,a,un,us,dp,rfl,hP,hun,nup,und,unm,ulen,dp0,fun kn ks H1 R1 T hdn dpt v1 b1=>?_⟩
 refine⟨_,rfl,_,rfl,p,a,kn,us,ks,rfl,hP.but b1 v1,R1,T,fun lw rw wn H2 hlw rpw wok wfx wl nwp v2 b12=>?_⟩
 have b2:=b1.trans b12
 obtain⟨ys1,hp1⟩:=penAt v1
 obtain⟨ys2,hp2⟩:=penAt v2
 refine⟨_,rfl,_,rfl,_,rfl,_,rfl,_,rfl,_,_,rfl,Or.inl ⟨_,.of (b2 un _ nup hun),rfl⟩,_,_,rfl,rfl,.inl ⟨by decide,by decide⟩,_,_,rfl,.int ?_⟩
 rw[mlu]
 obtain⟨mn,emn,hmn⟩:∃mn:Nat,(if 2 * ((us.length:Nat):Int)<40 then 2 * ((us.length:Nat):Int) else 40)+1=(mn:Int)/\1<=mn/\mn<=41/\mn<=2 * us.length+1:=by
  split
  ·exact⟨2 * us.length+1,by omega,by omega,by omega,by omega⟩
  ·exact⟨41,rfl,by decide,by decide,by omega⟩
 rw[emn]
 refine⟨p,a,_,rfl,hP.but b2 v2,by omega,by omega,fun r H3 hr0 hr1 v3 e3=>?_⟩
 have b23:=But.of_eq e3
 have b13:=b12.trans b23
 have b3:=b2.trans b23
 obtain⟨many,rfl⟩:=Int.eq_ofNat_of_zero_le hr0
 refine⟨p,a,kn,un,us,ks,many,rfl,hP.but b3 v3,repBut_knots hp1 b13 R1,T,b3 un _ nup hun,nup,(fun _=>by omega),by omega,fun lt rt ts H4 hlt rpt tok tnd tl ntp v4 b34=>?_⟩
 have b24:=b23.trans b34
 have b14:=b13.trans b34
 have b4:=b3.trans b34
 have R4:=repBut_knots hp1 b14 R1
 have hlw4:=b24 lw _ nwp hlw
 have rpw4:=repBut_all (repBut_pair hp2 b24) rpw
 refine⟨_,rfl,_,rfl,lt,_,rfl,.of hlt,fun t1 h1=>?_⟩
 refine nw h1 fun H5 s5 e1=>?_
 refine⟨(szl 0),fun t2 h2=>?_⟩
 refine nw h2 fun H6 s6 e2=>?_
 have e1:=s6 _ _ e1
 have s46:=s5.trans s6
 refine⟨_,rfl,lw,_,rfl,.of (s46 _ _ hlw4),fun t3 h3=>?_⟩
 refine nw h3 fun H7 s7 e3'=>?_
 have e1:=s7 _ _ e1
 have e2:=s7 _ _ e2
 have s47:=s46.trans s7
 refine⟨(szl 4),fun hh hhh=>?_⟩
 have s8:=Same.new (o:=.tup [V.ref kn,V.ref t1,V.ref t2,V.ref t3]) hhh
 have s48:=s47.trans s8
 have RH:Rep (upd H7 hh (.tup [V.ref kn,V.ref t1,V.ref t2,V.ref t3])) (.ref hh) (houseD ks ts [] wn) :=
  house_rep upd_same (R4.same s48) (.tup (s8 _ _ e1) (rpt.same s48)) (.tup (s8 _ _ e2) .nil) (.tup (s8 _ _ e3') (rpw4.same s48))
 generalize upd H7 hh (.tup [V.ref kn,V.ref t1,V.ref t2,V.ref t3])=H8 at s48 RH ⊢
 have v8:=penSame s48 v4
 have b8:=b4.trans (But.of_same (p:=p) s48)
 refine⟨_,rfl,_,rfl,lt,_,rfl,.of (s48 _ _ hlt),fun t9 h9=>?_⟩
 refine nw h9 fun H9 s9 e9=>?_
 have v9:=penSame s9 v8
 have b9:=b8.trans (But.of_same (p:=p) s9)
 have s49:=s48.trans s9
 obtain⟨ys9,hp9⟩:=penAt v9
 refine⟨_,rfl,_,rfl,_,rfl,p,a,hh,un,us,ks,ts,[],wn,rfl,hP.but b9 v9,RH.same s9,T,TsOk.p tok,WnX.toF T wok wfx,by omega,wl,b9 un _ nup hun,nup,fun lx rx wx HA hlx rpx wxin wnd wsr wxl nxp vA b9A=>?_⟩
 have bA:=b9.trans b9A
 refine⟨lx,_,rfl,.of hlx,fun tB hB=>?_⟩
 refine nw hB fun HB sB eB=>?_
 have e9B:=sB _ _ (tupBut hp9 b9A e9)
 have RkB:=(repBut_knots hp9 b9A (R4.same s49)).same sB
 have rpB:=(repBut_all (repBut_pair hp9 b9A) (rpt.same s49)).same sB
 have rpxB:=rpx.same sB
 have hlwB:=sB _ _ (b9A lw _ nwp (s49 _ _ hlw4))
 have rpwB:=(repBut_all (repBut_pair hp9 b9A) (rpw4.same s49)).same sB
 have vB:=penSame sB vA
 have bB:=bA.trans (But.of_same (p:=p) sB)
 refine⟨_,rfl,lw,_,rfl,.of hlwB,fun tC hC=>?_⟩
 have sC:=Same.new (o:=.tup rw) hC
 refine⟨(szl 4),fun hq hhq=>?_⟩
 have sD:=Same.new (o:=.tup [V.ref kn,V.ref t9,V.ref tB,V.ref tC]) hhq
 have sCD:=sC.trans sD
 refine k hq ks ts wx wn _ (house_rep upd_same (RkB.same sCD) (.tup (sCD _ _ e9B) (rpB.same sCD)) (.tup (sCD _ _ eB) (rpxB.same sCD)) (.tup (sD _ _ upd_same) (rpwB.same sCD))) T hdn dpt tok tnd wxin wnd wsr wok wfx (by omega) wxl wl (penSame sCD vB) (bB.trans (But.of_same (p:=p) sCD))
end
end K39
namespace K39
open PySem L2
section
variable {P:Program}{w:World}{K:W.Frag}{mg:Str->Option Value}{base:Heap}
def prtD:Option (Str × Str × Str)->PyData
 | none=>.none
 | some (k,x,y)=>.tuple [.str k,.str x,.str y]
theorem prt_rep {H:Hp}{v:V}{o:Option (Str × Str × Str)}(h:PrtV H v o):Rep H v (prtD o):=by
 cases o with
 | none =>
  have h:v=.non:=h
  rw[h];exact .non
 | some t =>
  obtain⟨q,rfl,hq⟩:=h
  exact .tup hq (.cons (.str _) (.cons (.str _) (.cons (.str _) .nil)))
end
end K39
namespace K39
open PySem L2
section
variable {P:Program}{w:World}{K:W.Frag}{mg:Str->Option Value}{base:Heap}
inductive PlQ (H:Hp):V -> VK -> Prop
 | nm {a:Addr} {xs:List Str} {Q:VK}:(H a=some (.lst (List.map V.str xs))∨H a=some (.tup (List.map V.str xs)))->xs.length<=1000 ->
     (∀d kvs H',Same H H'->H d=none->H' d=some (.dK kvs)->(∀s,(valV kvs (.inr s)).isSome=true ↔ s∈xs)->(∀s v,valV kvs (.inr s)=some v->∃j:Nat,v=.int j/\xs[j]? = some s)->(kvs.map (·.1)).Nodup->(∀k∈kvs.map (·.1),∃s∈xs,k=Sum.inr s)->Q (.ref d) H')->PlQ H (.ref a) Q
 | pr {a:Addr} {refs:List V} {ps:List (Str × Str)} {Q:VK}:(H a=some (.lst refs)∨H a=some (.tup refs))->RepAll H refs (ps.map pairD)->ps.length<=100000 ->
     (∀d kvs H',Same H H'->H d=none->H' d=some (.dT kvs)->kvs.map (·.1)=(dedTo [] ps).map pK->Q (.ref d) H')->PlQ H (.ref a) Q
def spPlacesQ:Sp:=fun vs H Q _=>∃x,vs=[x]/\PlQ H x Q
structure PlN (H H':Hp) (d:Addr) (xs:List Str) (i:Nat) (kvs:List (Key × V)):Prop where
 sm:Same H H'
 at_:H' d=some (.dK kvs)
 len:kvs.length<=i
 inn:∀s,(valV kvs (.inr s)).isSome=true ↔ s∈xs.take i
 ix:∀s v,valV kvs (.inr s)=some v->∃j:Nat,v=.int j/\xs[j]? = some s
 nd:(kvs.map (·.1)).Nodup
 ks:∀k∈kvs.map (·.1),∃s∈xs,k=Sum.inr s
theorem map_putK {kvs:List (Key × V)}{k:Key}{v:V}(h:(valV kvs k).isSome=true):(putK kvs k v).map (·.1)=kvs.map (·.1):=by
 unfold putK
 rw[if_pos (by rw[valV_any];exact h),List.map_map]
 refine List.map_congr_left fun p _=>?_
 show (if p.1=k then (p.1,v) else p).1=p.1
 split <;> rfl
theorem PlN.step {H H':Hp}{d p:Addr}{xs:List Str}{i:Nat}{kvs:List (Key × V)}{t:Str}{o:HO}(h:PlN H H' d xs i kvs) (hd:H d=none) (hp:H' p=none) (ht:xs[i]? = some t) :
    PlN H (upd (upd H' p o) d (.dK (putK kvs (.inr t) (.int (i:Nat))))) d xs (i+1) (putK kvs (.inr t) (.int (i:Nat))):=by
 refine⟨?_,upd_same,?_,?_,?_,?_,?_⟩
 ·intro b o hb
  rw[upd_ne (ne_of_none hb hd)]
  exact Same.new hp _ _ (h.sm _ _ hb)
 ·have:=length_putK kvs (.inr t) (V.int (i:Nat))
  have:=h.len
  omega
 ·intro s
  rw[valV_put,List.take_add_one,ht,List.mem_append]
  by_cases q:s=t
  ·subst q
   simp
  ·rw[if_neg (fun z=>q (Sum.inr.inj z)),h.inn s]
   simp[q]
 ·intro s v e
  rw[valV_put] at e
  by_cases q:s=t
  ·subst q
   rw[if_pos rfl] at e
   exact⟨i,(Option.some.inj e).symm,ht⟩
  ·rw[if_neg (fun z=>q (Sum.inr.inj z))] at e
   exact h.ix s v e
 ·cases q:valV kvs (.inr t) with
  | none=>exact nd_putK _ h.nd q
  | some v=>rw[map_putK (by rw[q];rfl)];exact h.nd
 ·intro k hk
  cases q:valV kvs (.inr t) with
  | none =>
   rw[putK_new _ q,List.map_append] at hk
   rcases List.mem_append.mp hk with hk | hk
   ·exact h.ks k hk
   ·have:k=Sum.inr t:=by simpa using hk
    exact⟨t,List.mem_of_getElem? ht,this⟩
  | some v=>rw[map_putK (by rw[q];rfl)] at hk;exact h.ks k hk
theorem keys_put {kvs:List (List Key × V)}{ds:Prs}(h:kvs.map (·.1)=ds.map pK) (e:Str × Str) (v:V):(putK kvs (pK e) v).map (·.1)=(if e ∈ ds then ds else ds ++ [e]).map pK := by
 have hm:(kvs.any fun p=>decide (p.1=pK e))=decide (e∈ds):=by
  rw[Bool.eq_iff_iff,List.any_eq_true,decide_eq_true_iff]
  constructor
  ·rintro⟨p,hp,q⟩
   have:p.1∈kvs.map (·.1):=List.mem_map.mpr ⟨p,hp,rfl⟩
   rw[h] at this
   obtain⟨f,hf,g⟩:=List.mem_map.mp this
   have q:=of_decide_eq_true q
   rw[<- pK_inj (g.trans q)];exact hf
  ·intro he
   have:pK e∈kvs.map (·.1):=by rw[h];exact List.mem_map.mpr ⟨e,he,rfl⟩
   obtain⟨p,hp,g⟩:=List.mem_map.mp this
   exact⟨p,hp,decide_eq_true g⟩
 unfold putK
 by_cases he:e∈ds
 ·rw[if_pos (by rw[hm];exact decide_eq_true he),if_pos he,<- h,List.map_map]
  refine List.map_congr_left fun p _=>?_
  show (if p.1=pK e then (p.1,v) else p).1=p.1
  split <;> rfl
 ·rw[if_neg (by rw[hm];simpa using he),if_neg he,List.map_append,List.map_append,h];rfl
theorem ok_placesQ {f:Addr}{fd:FuncData}(F:Fun K "places_of" "places_of" sPlacesOf f fd) (B:Blt mg):FnOk P w K mg base CX0 1 f fd ["things"] spPlacesQ := by
 refine F.ok1 ["things","places","place","thing"] fun nd H Q E hr h=>?_
 obtain⟨x,rfl,h⟩:=h
 cases h with
 | @nm a xs _ ha hl k =>
  refine⟨_,(pss_cons (pst 1 nd pe_dnewK)
  (pss_cons (ps_for PassesOwn.never rfl (pi_enumX K rfl B.enumerate (p1 (pv 0))) (pg_tupK (n:=2) K rfl (pgs_cons (pg_name (i:=2) nd rfl (Or.inl rfl)) (pgs_cons (pg_name (i:=3) nd rfl (Or.inl rfl)) pgs_nil))) (pss_one (ps_asg (pv 2) (pg_sub (pv 1) (pv 3) (set_X hr.units)))))
  (pss_one (ps_ret (pv 1))))),?_⟩
  intro d hd
  have s0:=Same.new (o:=.dK []) hd
  have start:PlN H (upd H d (.dK [])) d xs 0 []:=⟨s0,upd_same,Nat.le_refl _,(fun s=>by simp[valV_nil]),(fun s v e=>by cases e),List.nodup_nil,(fun k hk=>by cases hk)⟩
  rcases ha with ha | ha
  ·refine⟨_,rfl,_,rfl,.lst (.of (s0 _ _ ha)) ?_⟩
   refine for_enum (xs:=List.map V.str xs) (fun i σ H'=>∃o1 o2 kvs,σ=[some (.ref a),some (.ref d),o1,o2]/\PlN H H' d xs i kvs) ?_ ?_ ?_ ?_
   ·exact⟨none,none,[],rfl,start⟩
   ·rintro i σ H' hi ⟨o1,o2,kvs,rfl,pl⟩
    exact .of (pl.sm _ _ ha)
   ·rintro i x σ H' p hx ⟨o1,o2,kvs,rfl,pl⟩ hp
    obtain⟨t,ht,rfl⟩:=str_get hx
    have hil:=(List.getElem?_eq_some_iff.mp ht).1
    have hdp:d≠p:=ne_of_none pl.at_ hp
    have:=pl.len
    refine⟨p,_,rfl,.of upd_same,rfl,_,_,rfl,_,_,rfl,rfl,?_⟩
    exact⟨_,rfl,_,rfl,_,rfl,.dic (DPut.k (k:=.inr t) (by rw[upd_ne hdp];exact pl.at_) (small1000 (by omega))) ⟨_,_,_,rfl,pl.step hd hp ht⟩⟩
   ·rintro σ H' ⟨o1,o2,kvs,rfl,pl⟩
    have hin:=pl.inn
    rw[List.length_map,List.take_of_length_le (Nat.le_refl _)] at hin
    exact⟨_,rfl,k d kvs H' pl.sm hd pl.at_ hin pl.ix pl.nd pl.ks⟩
  ·refine⟨_,rfl,_,rfl,.tup (.of (s0 _ _ ha)) ?_⟩
   refine for_enumT (xs:=List.map V.str xs) (fun i σ H'=>∃o1 o2 kvs,σ=[some (.ref a),some (.ref d),o1,o2]/\PlN H H' d xs i kvs) ?_ ?_ ?_ ?_
   ·exact⟨none,none,[],rfl,start⟩
   ·rintro i σ H' hi ⟨o1,o2,kvs,rfl,pl⟩
    exact .of (pl.sm _ _ ha)
   ·rintro i x σ H' p hx ⟨o1,o2,kvs,rfl,pl⟩ hp
    obtain⟨t,ht,rfl⟩:=str_get hx
    have hil:=(List.getElem?_eq_some_iff.mp ht).1
    have hdp:d≠p:=ne_of_none pl.at_ hp
    have:=pl.len
    refine⟨p,_,rfl,.of upd_same,rfl,_,_,rfl,_,_,rfl,rfl,?_⟩
    exact⟨_,rfl,_,rfl,_,rfl,.dic (DPut.k (k:=.inr t) (by rw[upd_ne hdp];exact pl.at_) (small1000 (by omega))) ⟨_,_,_,rfl,pl.step hd hp ht⟩⟩
   ·rintro σ H' ⟨o1,o2,kvs,rfl,pl⟩
    have hin:=pl.inn
    rw[List.length_map,List.take_of_length_le (Nat.le_refl _)] at hin
    exact⟨_,rfl,k d kvs H' pl.sm hd pl.at_ hin pl.ix pl.nd pl.ks⟩
 | @pr a refs ps _ ha rp hps k =>
  have sz:200000<sizeLine:=by decide
  refine⟨_,(pss_cons (pst 1 nd pe_dnewT)
  (pss_cons (ps_for PassesOwn.never rfl (pi_enumX K rfl B.enumerate (p1 (pv 0))) (pg_tupK (n:=2) K rfl (pgs_cons (pg_name (i:=2) nd rfl (Or.inl rfl)) (pgs_cons (pg_name (i:=3) nd rfl (Or.inl rfl)) pgs_nil))) (pss_one (ps_asg (pv 2) (pg_sub (pv 1) (pv 3) (set_X hr.units)))))
  (pss_one (ps_ret (pv 1))))),?_⟩
  have rlen:=rp.len
  rw[List.length_map] at rlen
  intro d hd
  have s0:=Same.new (o:=.dT []) hd
  have turn:∀(i:Nat) (e:Str × Str) (ta p:Addr) (H':Hp) (kvs:List (List Key × V)),Same H H'->H' d=some (.dT kvs)->kvs.length<=i->kvs.map (·.1)=(dedTo [] (ps.take i)).map pK->ps[i]? = some e->H' p=none ->
      Same H (upd (upd H' p (.tup [.int (i:Nat),.ref ta])) d (.dT (putK kvs (pK e) (.int (i:Nat)))))/\(putK kvs (pK e) (V.int (i:Nat))).length<=i+1/\(putK kvs (pK e) (V.int (i:Nat))).map (·.1)=(dedTo [] (ps.take (i+1))).map pK:=by
   intro i e ta p H' kvs sm hk hkl hks he hp
   have hlen:=length_putK kvs (pK e) (V.int (i:Nat))
   refine⟨?_,by omega,?_⟩
   ·intro b o hb
    rw[upd_ne (ne_of_none hb hd)]
    exact Same.new hp _ _ (sm _ _ hb)
   ·rw[keys_put hks,List.take_add_one,he,dedTo_app];rfl
  rcases ha with ha | ha
  ·refine⟨_,rfl,_,rfl,.lst (.of (s0 _ _ ha)) ?_⟩
   refine for_enum (xs:=refs) (fun i σ H'=>∃o1 o2 kvs,σ=[some (.ref a),some (.ref d),o1,o2]/\Same H H'/\H' d=some (.dT kvs)/\kvs.length<=i/\kvs.map (·.1)=(dedTo [] (ps.take i)).map pK) ?_ ?_ ?_ ?_
   ·exact⟨none,none,[],rfl,s0,upd_same,Nat.le_refl _,rfl⟩
   ·rintro i σ H' hi ⟨o1,o2,kvs,rfl,sm,_⟩
    exact .of (sm _ _ ha)
   ·rintro i x σ H' p hx ⟨o1,o2,kvs,rfl,sm,hk,hkl,hks⟩ hp
    obtain⟨e,ta,he,rfl,hta⟩:=pair_get (rp.same sm) hx
    have hil:=(List.getElem?_eq_some_iff.mp he).1
    have hdp:d≠p:=ne_of_none hk hp
    obtain⟨g1,g2,g3⟩:=turn i e ta p H' kvs sm hk hkl hks he hp
    refine⟨p,_,rfl,.of upd_same,rfl,_,_,rfl,_,_,rfl,rfl,?_⟩
    exact⟨_,rfl,_,rfl,_,rfl,.dic (DPut.t (k:=pK e) (by rw[upd_ne hdp];exact hk) (Same.new hp _ _ hta) (by omega)) ⟨_,_,_,rfl,g1,upd_same,g2,g3⟩⟩
   ·rintro σ H' ⟨o1,o2,kvs,rfl,sm,hk,hkl,hks⟩
    rw[rlen,List.take_of_length_le (Nat.le_refl _)] at hks
    exact⟨_,rfl,k d kvs H' sm hd hk hks⟩
  ·refine⟨_,rfl,_,rfl,.tup (.of (s0 _ _ ha)) ?_⟩
   refine for_enumT (xs:=refs) (fun i σ H'=>∃o1 o2 kvs,σ=[some (.ref a),some (.ref d),o1,o2]/\Same H H'/\H' d=some (.dT kvs)/\kvs.length<=i/\kvs.map (·.1)=(dedTo [] (ps.take i)).map pK) ?_ ?_ ?_ ?_
   ·exact⟨none,none,[],rfl,s0,upd_same,Nat.le_refl _,rfl⟩
   ·rintro i σ H' hi ⟨o1,o2,kvs,rfl,sm,_⟩
    exact .of (sm _ _ ha)
   ·rintro i x σ H' p hx ⟨o1,o2,kvs,rfl,sm,hk,hkl,hks⟩ hp
    obtain⟨e,ta,he,rfl,hta⟩:=pair_get (rp.same sm) hx
    have hil:=(List.getElem?_eq_some_iff.mp he).1
    have hdp:d≠p:=ne_of_none hk hp
    obtain⟨g1,g2,g3⟩:=turn i e ta p H' kvs sm hk hkl hks he hp
    refine⟨p,_,rfl,.of upd_same,rfl,_,_,rfl,_,_,rfl,rfl,?_⟩
    exact⟨_,rfl,_,rfl,_,rfl,.dic (DPut.t (k:=pK e) (by rw[upd_ne hdp];exact hk) (Same.new hp _ _ hta) (by omega)) ⟨_,_,_,rfl,g1,upd_same,g2,g3⟩⟩
   ·rintro σ H' ⟨o1,o2,kvs,rfl,sm,hk,hkl,hks⟩
    rw[rlen,List.take_of_length_le (Nat.le_refl _)] at hks
    exact⟨_,rfl,k d kvs H' sm hd hk hks⟩
def spPlacesD:Sp:=fun vs H Q _=>∃(a refs:_) (ps:Prs),vs=[.ref a]/\H a=some (.lst refs)/\RepAll H refs (ps.map pairD)/\ps.length<=100000/\∀d kvs H',Same H H'->H d=none->H' d=some (.dT kvs)->kvs.map (·.1)=(dedTo [] ps).map pK->Q (.ref d) H'
theorem placesQ_of (vs:List V) (H:Hp) (Q:VK) (E:XK) (h:spPlaces vs H Q E):spPlacesQ vs H Q E:=by
 obtain⟨a,xs,rfl,ha,hl,k⟩:=h
 exact⟨_,rfl,.nm (.inl ha) hl fun d kvs H' s1 h1 h2 h3 h4 _ _=>k d kvs H' s1 h1 h2 h3 h4⟩
theorem placesQ_D (vs:List V) (H:Hp) (Q:VK) (E:XK) (h:spPlacesD vs H Q E):spPlacesQ vs H Q E:=by
 obtain⟨a,refs,ps,rfl,ha,rp,hl,k⟩:=h
 exact⟨_,rfl,.pr (.inl ha) rp hl k⟩
theorem ded_nd:∀(ps acc:Prs),(acc++ps).Nodup->dedTo acc ps=acc++ps
 | [],acc,_=>by show acc=acc++[];rw[List.append_nil]
 | x::ps,acc,h=>by
  have hn:x∉acc:=fun z=>(List.nodup_append.mp h).2.2 x z x (List.mem_cons_self ..) rfl
  show (if x∈acc then dedTo acc ps else dedTo (acc++[x]) ps)=_
  rw[if_neg hn,ded_nd ps (acc++[x]) (by rw[List.append_assoc];exact h),List.append_assoc];rfl
inductive UnR (H:Hp) (Q:VK):V->Prop
 | nm {a:Addr} {ss:List Str}:SqA H a (List.map V.str ss)->ss.length<=1000->ss.Nodup->UnR H Q (.ref a)
 | pr {a:Addr} {refs:List V} {ps:List (Str × Str)}:SqA H a refs->RepAll H refs (ps.map pairD)->ps.length<=1000->ps.Nodup->UnR H Q (.ref a)
def spUnlike:Sp:=fun vs H Q _=>∃x,vs=[x]/\UnR H Q x/\∀H',Same H H'->Q (.bl true) H'
theorem ok_unlike {f:Addr}{fd:FuncData}(F:Fun K "are_unlike" "are_unlike" sUnlike f fd) (B:Blt mg) (cplaces_of:Cal P w K mg base 1 "places_of" ["things"] spPlacesQ):FnOk P w K mg base CX0 2 f fd ["things"] spUnlike := by
 refine F.ok1 ["things"] fun nd H Q E hr h=>?_
 obtain⟨x,rfl,h,k⟩:=h
 cases h with
 | @nm a ss ha hlen und =>
  refine⟨_,(pss_one (ps_ret (pe_cmpR (op_eqX hr.units) (b_lenD B (p1 (pc cplaces_of hr (p1 (pv 0))))) (b_len K B (p1 (pv 0))) (nomark _)))),?_⟩
  refine⟨_,rfl,_,rfl,?_⟩
  refine .nm ha hlen fun d kvs H1 s1 hd0 hd hin hat knd ks=>⟨d,kvs,rfl,hd,_,rfl,_,ss.length,rfl,?_,.sc rfl ?_⟩
  ·have:=(SqA.same ha s1).len (K:=K)
   rw[List.length_map] at this
   exact this
  ·have e:=(len_kvs knd ks hin).mpr und
   show Q (.bl (decide (V.int (kvs.length:Nat)=V.int (ss.length:Nat)))) H1
   rw[e,decide_eq_true rfl]
   exact k H1 s1
 | @pr a refs ps ha rp hlen und =>
  refine⟨_,(pss_one (ps_ret (pe_cmpR (op_eqX hr.units) (b_lenT B (p1 (pc cplaces_of hr (p1 (pv 0))))) (b_len K B (p1 (pv 0))) (nomark _)))),?_⟩
  have rl:=rp.len
  rw[List.length_map] at rl
  refine⟨_,rfl,_,rfl,?_⟩
  refine .pr ha rp (by omega) fun d kvs H1 s1 hd0 hd hks=>⟨d,kvs,rfl,hd,_,rfl,_,refs.length,rfl,?_,.sc rfl ?_⟩
  ·exact(SqA.same ha s1).len (K:=K)
  ·have e:kvs.length=refs.length:=by
      have:=congrArg List.length hks
      rw[List.length_map,List.length_map,ded_nd ps [] und] at this
      rw[this,rl];rfl
   show Q (.bl (decide (V.int (kvs.length:Nat)=V.int (refs.length:Nat)))) H1
   rw[e,decide_eq_true rfl]
   exact k H1 s1
end
end K39
namespace K39
open PySem L2
section
variable {P:Program}{w:World}{K:W.Frag}{mg:Str->Option Value}{base:Heap}
def spChildren:Sp:=fun vs H Q _=>∃(q us ks ts ws wn:_) (k:Str × List Str),vs=[.ref q,.str k.1]/\Rep H (.ref q) (houseD ks ts ws wn)/\Tre us ks/\k∈ks/\∀l H',Same H H'->H l=none->H' l=some (.lst (List.map V.str k.2))->Q (.ref l) H'
theorem ok_children {f:Addr}{fd:FuncData}(F:Fun K "children" "children" sChildren f fd) (B:Blt mg):FnOk P w K mg base CX0 1 f fd ["house","knot"] spChildren:=by
 refine F.ok1 ["house","knot"] fun nd H Q E hr h=>?_
 obtain⟨q,us,ks,ts,ws,wn,kk,rfl,R,T,hkk,k⟩:=h
 refine⟨_,(pss_one (ps_ret (b_list K rfl B (p1 (px K hr (b_dicKT K rfl hr.units B (p1 (px K hr (pv 0) pe_int))) (pv 1)))))),?_⟩
 obtain⟨q',a,b,c,d4,e0,hq,R1,_⟩:=house_at R
 cases e0
 refine⟨_,rfl,.tup (.of hq) rfl (nil_ (dict_knots R1 T fun D dk hD hdk=>?_))⟩
 obtain⟨la,hva,hla⟩:=hdk kk hkk
 have s1:=Same.new (o:=.dK dk) hD
 refine⟨_,rfl,.dic (.inl ⟨dk,.inr kk.1,.inl upd_same,rfl,hva.symm⟩) ?_⟩
 generalize upd H D (.dK dk)=H1 at s1 ⊢
 refine nil_ ⟨_,rfl,.seq (.inr (.of (s1 _ _ hla))) fun l hl=>?_⟩
 exact k l _ (s1.trans (Same.new hl)) (same_free s1 hl) upd_same
def prtE (ks:Kn) (e:Str × Str):PyData:=prtD (partO ks e.1 e.2)
theorem prtD_at {H:Hp}{v:V}{o:Option (Str × Str × Str)}(h:Rep H v (prtD o)):PrtV H v o:=by
 cases o with
 | none =>
  have h:Rep H v .none:=h
  cases h
  rfl
 | some t =>
  obtain⟨k,x,y⟩:=t
  obtain⟨q,ws,rfl,hq,r0⟩:=Rep.tupI h
  have r0:RepAll H ws (List.map PyData.str [k,x,y]):=r0
  have e:=RepAll.strs r0
  subst e
  exact⟨q,rfl,hq⟩
theorem repBut_prt {H H':Hp}{p:Addr}{ys:List V}(hp:H p=some (.lst ys)) (b:But p H H') {v:V}{o:Option (Str × Str × Str)}(h:Rep H v (prtD o)):Rep H' v (prtD o):=by
 have g:=prtD_at h
 refine prt_rep ?_
 cases o with
 | none=>exact g
 | some t=>obtain⟨q,e,hq⟩:=g;exact⟨q,e,tupBut hp b hq⟩
def spKPart:Sp:=fun vs H Q _=>∃(q us ks:_) (ts ws wn:Prs),vs=[.ref q]/\Rep H (.ref q) (houseD ks ts ws wn)/\Tre us ks/\TsP us ks ts/\ts.length<=200/\∀l refs H',Same H H'->H l=none->H' l=some (.lst refs)->RepAll H' refs (ts.map (prtE ks))->Q (.ref l) H'
theorem ok_kpart {f:Addr}{fd:FuncData}(F:Fun K "kept_partings" "kept_partings" sKeptPartings f fd) (B:Blt mg) (chomes:Cal P w K mg base 1 "homes" ["house"] spHomes) (cparting_by:Cal P w K mg base 2 "parting_by" ["table","one","other"] spPartBy):FnOk P w K mg base CX0 3 f fd ["house"] spKPart:=by
 refine F.ok1 ["house","table"] fun nd H Q E hr h=>?_
 obtain⟨q,us,ks,ts,ws,wn,rfl,R,T,tok,tl,k⟩:=h
 refine⟨_,(pss_cons (ps_set (i:=1) nd rfl (Or.inr rfl) (pc chomes hr (p1 (pv 0))))
  (pss_one (ps_ret (pe_comp (defScope sKeptPartings) ["house","table"] ["tie"] [1] ["tie","table"] rfl (pi_tupK K (px K hr (pv 0) pe_int)) (fun _ _ _ _ _=>(pg_name (i:=0) (show (["tie","table"]:List Str).Nodup by decide) rfl (Or.inl rfl))) (fun _ _ _ _ _=>pts_nil) (fun _ _ _ _ _=>(pc cparting_by hr (pa_cons (pv 1) (p2 (px K hr (pv 0) pe_int) (px K hr (pv 0) pe_int))))))))),?_⟩
 refine⟨_,rfl,q,us,ks,ts,ws,wn,rfl,R,T,fun d kvs H1 s1 hd0 hd ar=>?_⟩
 obtain⟨q',a,b,c,d4,e0,hq,_,R2,_⟩:=house_at (R.same s1)
 cases e0
 obtain⟨b',rb,e0,hb,rpb⟩:=pairsT_at R2
 cases e0
 have rblen:=rpb.len
 rw[List.length_map] at rblen
 refine⟨_,rfl,.tup (.of hq) rfl ⟨b,rfl,⟨_,.of hb⟩,?_⟩⟩
 refine comp_tup rb (fun D j acc σ' H'=>∃(o0:Option V),σ'=[o0,some (.ref d)]/\RepAll H' acc ((ts.take j).map (prtE ks))/\Same H1 H'/\H1 D=none) fun D hD=>⟨?_,?_,?_,?_⟩
 ·exact⟨none,rfl,.nil,Same.new hD,hD⟩
 ·rintro j acc σ' H' _ ⟨o0,rfl,_,sm,_⟩ _
  exact .of (sm _ _ hb)
 ·rintro j acc σ' H' v hv ⟨o0,rfl,rp,sm,hD0⟩ hacc
  obtain⟨e,ta,he,rfl,hta⟩:=pair_get rpb hv
  have hil:=(List.getElem?_eq_some_iff.mp he).1
  obtain⟨hu,hv',_⟩:=tok e (List.mem_of_getElem? he)
  have alen:=rp.len
  rw[List.length_map,List.length_take] at alen
  refine gYes ?_
  refine⟨_,rfl,_,rfl,.tup (.of (sm _ _ hta)) rfl ⟨_,rfl,.tup (.of (sm _ _ hta)) rfl (nil_ ⟨d,kvs,us,ks,e.1,e.2,rfl,sm _ _ hd,ar,T,hu,hv',fun x H3 s3 px=>?_⟩)⟩⟩
  have hacc3:=s3 _ _ hacc
  refine⟨hacc3,small1000 (by omega),_,rfl,?_,same_at (sm.trans s3) hD0,hD0⟩
  rw[List.take_add_one,he,List.map_append]
  exact RepAll.append (repBut_all (repBut_prt hacc3 But.upd) (rp.same s3)) (.cons (repBut_prt hacc3 But.upd (prt_rep px)) .nil)
 ·rintro acc σ' H' ⟨o0,rfl,rp,sm,hD0⟩ hacc
  rw[rblen,List.take_of_length_le (Nat.le_refl _)] at rp
  exact k D acc H' (s1.trans sm) (same_free s1 hD0) hacc rp
theorem nm_first:Nm "first":=by refine⟨by decide +kernel,by decide +kernel,?_⟩;decide +kernel
theorem nm_last:Nm "last":=by refine⟨by decide +kernel,by decide +kernel,?_⟩;decide +kernel
theorem nm_word {z:Str}(h:z="first"∨z="last"):Nm z:=by
 rcases h with rfl | rfl
 ·exact nm_first
 ·exact nm_last
def spWanted:Sp:=fun vs H Q _=>∃(q l:_) (us c:List Str) (ks ts ws wn word:_),vs=[.ref q,.ref l,.str word]/\Rep H (.ref q) (houseD ks ts ws wn)/\Tre us ks/\WnOk us wn/\(word="first"∨word="last")/\H l=some (.lst (List.map V.str c))/\(∀u∈c,Nm u)/\c.length<=60/\∀D H',Same H H'->H D=none->H' D=some (.lst (List.map V.str (wU c wn word)))->Q (.ref D) H'
theorem ok_wanted {f:Addr}{fd:FuncData}(F:Fun K "wanted" "wanted" sWanted f fd) (B:Blt mg):FnOk P w K mg base CX0 1 f fd ["house", "row", "word"] spWanted := by
 refine F.ok1 ["house","row","word"] fun nd H Q E hr h=>?_
 obtain⟨q,l,us,c,ks,ts,ws,wn,word,rfl,R,T,wok,hw,hl,cnm,cl,k⟩:=h
 refine⟨_,(pss_one (ps_ret (pe_comp (defScope sWanted) ["house","row","word"] ["child"] [2,0] ["child","word","house"] rfl (pi_listK K (pv 1)) (fun _ _ _ _ _=>(pg_name (i:=0) (show (["child","word","house"]:List Str).Nodup by decide) rfl (Or.inl rfl))) (fun _ _ _ _ _=>(pts_one (pt_cmpR (op_inDT hr.units) (pe_tup (p2 (pv 1) (pv 0))) (px K hr (pv 2) pe_int) (by with_unfolding_all rfl)))) (fun _ _ _ _ _=>(pv 0))))),?_⟩
 obtain⟨q',a,b,c3,d4,e0,hq,_,_,_,R4⟩:=house_at R
 cases e0
 obtain⟨d4',rw4,e0,hd4,rpw⟩:=pairsT_at R4
 cases e0
 have cay:PyData.canLayAll0 (wn.map pairD)=true:=canLay_pairsN fun e he=>⟨nm_word (wok e he).1,T.nm _ (wok e he).2⟩
 refine⟨_,rfl,l,rfl,⟨_,.of hl⟩,?_⟩
 refine comp_list (List.map V.str c) (fun D j acc σ' H'=>∃(o0:Option V),σ'=[o0,some (.str word),some (.ref q)]/\acc=List.map V.str (wU (c.take j) wn word)/\Same H H'/\H D=none) fun D hD=>⟨?_,?_,?_,?_⟩
 ·exact⟨none,rfl,rfl,Same.new hD,hD⟩
 ·rintro j acc σ' H' _ ⟨o0,rfl,_,sm,_⟩ _
  exact .of (sm _ _ hl)
 ·rintro j acc σ' H' v hv ⟨o0,rfl,rfl,sm,hD0⟩ hacc
  obtain⟨u,hu,rfl⟩:=str_get hv
  have hjl:=(List.getElem?_eq_some_iff.mp hu).1
  have ewU:wU (c.take (j+1)) wn word=wU (c.take j) wn word++(if (decide ((word,u)∈wn))=true then [u] else []):=by
   unfold wU
   rw[List.take_add_one,hu,List.filter_append]
   congr 1
   show List.filter _ [u]=_
   rw[List.filter_cons,List.filter_nil]
  have alen:(wU (c.take j) wn word).length<=j:=by
   have:=List.length_filter_le (fun u=>decide ((word,u)∈wn)) (c.take j)
   rw[List.length_take] at this
   unfold wU
   omega
  dsimp only[gName]
  refine⟨_,rfl,_,rfl,(szl 2),fun t ht=>?_⟩
  refine nw ht fun H2 st et=>?_
  have hacc2:=st _ _ hacc
  have sm2:=sm.trans st
  refine⟨_,rfl,.tup (.of (sm2 _ _ hq)) rfl ⟨d4,rw4,_,pairD (word,u),rfl,sm2 _ _ hd4,rpw.same sm2,pair_rep et,cay,canLay_pairN (e:=(word,u)) ⟨nm_word hw,cnm u (List.mem_of_getElem? hu)⟩,(by show 1<=16;decide),_,rfl,?_⟩⟩
  rw[if_neg (show ¬ false=true by decide),any_pair]
  refine ite2 (fun hc=>?_) (fun hc=>?_)
  ·rw[if_pos hc] at ewU
   exact⟨_,rfl,hacc2,by rw[List.length_map];exact small1000 (by omega),_,rfl,by rw[ewU,List.map_append];rfl,same_at sm2 hD0,hD0⟩
  ·rw[if_neg hc,List.append_nil] at ewU
   exact⟨hacc2,_,rfl,by rw[ewU],sm2,hD0⟩
 ·rintro acc σ' H' ⟨o0,rfl,rfl,sm,hD0⟩ hacc
  rw[List.length_map,List.take_of_length_le (Nat.le_refl _)] at hacc
  exact k D H' sm hD0 hacc
end
end K39
namespace K39
open PySem L2
section
variable {P:Program}{w:World}{K:W.Frag}{mg:Str->Option Value}{base:Heap}
def viewD (ks:Kn) (ts wn:Prs) (k:Str × List Str):PyData:=.tuple [.tuple (k.2.map PyData.str),pairsT (viewE ks ts wn k.1 k.2)]
theorem prt_get {H:Hp}{ks:Kn}{refs:List V}{ts:Prs}(rp:RepAll H refs (ts.map (prtE ks))) {j:Nat}{x:V}(hx:refs[j]? = some x):∃e,ts[j]? = some e/\PrtV H x (partO ks e.1 e.2):=by
 obtain⟨d,hd,rd⟩:=rp.get hx
 rw[List.getElem?_map] at hd
 cases q:ts[j]? with
 | none=>rw[q] at hd;cases hd
 | some e =>
  rw[q] at hd
  have hd:prtE ks e=d:=Option.some.inj hd
  rw[<- hd] at rd
  exact⟨e,rfl,prtD_at rd⟩
theorem Fnd.ext {H H':Hp}{lf:Addr}{us:List Str}{fr acc:List V}{ps qs:Prs}{n m:Nat}(h:Fnd H H' lf us fr ps n) (r:RepAll H' acc (qs.map pairD)) (i:PsIn us qs) (hq:qs.length<=m) (hl:H lf=none):Fnd H (upd H' lf (.lst (fr++acc))) lf us (fr++acc) (ps++qs) (n+m):=by
 refine⟨upd_same,?_,fun e he=>?_,by rw[List.length_append];have:=h.l;omega,same_at h.s hl⟩
 ·rw[List.map_append]
  exact RepAll.append (repBut_all (repBut_pair h.f But.upd) h.r) (repBut_all (repBut_pair h.f But.upd) r)
 ·rcases List.mem_append.mp he with q | q
  ·exact h.i e q
  ·exact i e q
theorem rowP_step (last:Bool) {c:List Str}{j:Nat}{u ch:Str}(h:c[j]? = some ch):rowP last (c.take (j+1)) u=rowP last (c.take j) u++(if ch=u then [] else [if last then (ch,u) else (u,ch)]):=by
 unfold rowP
 rw[List.take_add_one,h,List.filter_append,List.map_append]
 congr 1
 show List.map _ (List.filter _ [ch])=_
 rw[List.filter_cons,List.filter_nil]
 by_cases hz:ch=u
 ·rw[if_neg (by simpa using hz),if_pos hz];rfl
 ·rw[if_pos (by simpa using hz),if_neg hz];rfl
theorem rowP_len (last:Bool) (c:List Str) (u:Str):(rowP last c u).length<=c.length:=by
 unfold rowP
 rw[List.length_map]
 exact List.length_filter_le _ _
theorem rowP_in {us:List Str}(last:Bool) {c:List Str}{u:Str}(hc:∀z∈c,z∈us) (hu:u∈us):PsIn us (rowP last c u):=fun e he=>by
 unfold rowP at he
 obtain⟨z,hz,rfl⟩:=List.mem_map.mp he
 have hz:=hc z (List.mem_filter.mp hz).1
 cases last
 ·exact⟨hu,hz⟩
 ·exact⟨hz,hu⟩
theorem wU_len (c:List Str) (wn:Prs) (word:Str):(wU c wn word).length<=c.length:=by
 unfold wU
 exact List.length_filter_le _ _
theorem wU_in {c:List Str}{wn:Prs}{word u:Str}(h:u∈wU c wn word):u∈c:=by
 unfold wU at h
 exact(List.mem_filter.mp h).1
theorem kvs_pairs {H:Hp}{kvs:List (List Key × V)}{es:Prs}{rs:List V}(hk:kvs.map (·.1)=es.map pK) (hl:rs.length=kvs.length) (h:∀(i:Nat) (k:List Key × V), kvs[i]? = some k -> ∃q, rs[i]? = some (V.ref q) /\ H q=some (.tup (k.1.map kV))):RepAll H rs (es.map pairD) := by
 induction es generalizing kvs rs with
 | nil =>
  have:kvs=[]:=by simpa using hk
  subst this
  have:rs=[]:=by simpa using hl
  subst this
  exact .nil
 | cons e es ih =>
  cases kvs with
  | nil=>simp at hk
  | cons k kvs =>
   cases rs with
   | nil=>simp at hl
   | cons r rs =>
    rw[List.map_cons,List.map_cons] at hk
    injection hk with h1 h2
    obtain⟨q,g1,g2⟩:=h 0 k rfl
    have g1:r=.ref q:=Option.some.inj g1
    subst g1
    rw[h1] at g2
    exact .cons (pair_rep g2) (ih h2 (by simpa using hl) fun i k' hk'=>h (i+1) k' hk')
theorem basO_in {us:List Str}{ks:Kn}(T:Tre us ks) {ts:Prs}(tok:TsP us ks ts) (knot:Str):PsIn us (ts.filterMap (basO ks knot)) := fun e he => by
 obtain⟨z,hz,q⟩:=List.mem_filterMap.mp he
 obtain⟨hu,hv',_⟩:=tok z hz
 unfold basO at q
 cases hpo:partO ks z.1 z.2 with
 | none=>rw[hpo] at q;cases q
 | some t3 =>
  obtain⟨kq,x1,y1⟩:=t3
  rw[hpo] at q
  obtain⟨_,_,hx1,hy1,_⟩:=T.part hu hv' hpo
  have q:(if kq=knot then some (x1,y1) else none)=some e:=q
  by_cases hz:kq=knot
  ·rw[if_pos hz] at q
   rw[<- Option.some.inj q]
   exact⟨hx1,hy1⟩
  ·rw[if_neg hz] at q
   cases q
def spViewBy:Sp:=fun vs H Q _=>∃(q lp us ks:_) (ts ws wn:Prs) (k:Str × List Str) (refs:_),vs=[.ref q,.str k.1,.ref lp]/\Rep H (.ref q) (houseD ks ts ws wn)/\Tre us ks/\TsP us ks ts/\WnF us ks wn/\k∈ks/\ts.length<=200/\H lp=some (.lst refs)/\RepAll H refs (ts.map (prtE ks))/\∀x H',Same H H'->Rep H' x (viewD ks ts wn k)->Q x H'
theorem ok_viewBy {f:Addr}{fd:FuncData}(F:Fun K "view_by" "view_by" sViewBy f fd) (B:Blt mg) (cchildren:Cal P w K mg base 1 "children" ["house", "knot"] spChildren) (cwanted:Cal P w K mg base 1 "wanted" ["house", "row", "word"] spWanted) (cplaces_of:Cal P w K mg base 1 "places_of" ["things"] spPlacesD):FnOk P w K mg base CX0 2 f fd ["house", "knot", "partings"] spViewBy := by
 refine F.ok1 ["house","knot","partings","row","pairs","unit"] fun nd H Q E hr h=>?_
 obtain⟨q,lp,us,ks,ts,ws,wn,kk,refs,rfl,R,T,tok,WX,hkk,tl,hlp,rpp,k⟩:=h
 have wok:=WX.ok
 have ulen:=T.len
 have sz:200000<sizeLine:=by decide
 have kin:∀u∈kk.2,u∈us:=fun u hu=>T.isIn hkk hu
 have klen:kk.2.length<=60:=by
  have:=nd_len (kid_nodup T hkk) kin
  omega
 refine⟨_,(pss_cons (pst 3 nd (pc cchildren hr (p2 (pv 0) (pv 1))))
  (pss_cons (ps_setC (i:=4) nd rfl rfl (by rfl) (defScope sViewBy) ["house","knot","partings","row","pairs","unit"] ["part"] [1] ["part","knot"] rfl (pi_listK K (pv 2)) (fun _ _ _ _ _=>(pg_name (i:=0) (show (["part","knot"]:List Str).Nodup by decide) rfl (Or.inl rfl))) (fun _ _ _ _ _=>(pts_one (pt_cmpR (op_eqX hr.units) (px K hr (pv 0) pe_int) (pv 1) (nomark _)))) (fun _ _ _ _ _=>(pe_tup (p2 (px K hr (pv 0) pe_int) (px K hr (pv 0) pe_int)))))
  (pss_cons (ps_for PassesOwn.never rfl (pi_listK K (pc cwanted hr (pa_cons (pv 0) (p2 (pv 3) pe_str)))) (pg_name (i:=5) nd rfl (Or.inr rfl)) (pss_one (ps_expr (m_extend K (pv 4) (p1 (pe_comp (defScope sViewBy) ["house","knot","partings","row","pairs","unit"] ["child"] [5] ["child","unit"] rfl (pi_listK K (pv 3)) (fun _ _ _ _ _=>(pg_name (i:=0) (show (["child","unit"]:List Str).Nodup by decide) rfl (Or.inl rfl))) (fun _ _ _ _ _=>(pts_one (pt_cmpR (op_neX hr.units) (pv 0) (pv 1) (nomark _)))) (fun _ _ _ _ _=>(pe_tup (p2 (pv 1) (pv 0))))))))))
  (pss_cons (ps_for PassesOwn.never rfl (pi_listK K (pc cwanted hr (pa_cons (pv 0) (p2 (pv 3) pe_str)))) (pg_name (i:=5) nd rfl (Or.inr rfl)) (pss_one (ps_expr (m_extend K (pv 4) (p1 (pe_comp (defScope sViewBy) ["house","knot","partings","row","pairs","unit"] ["child"] [5] ["child","unit"] rfl (pi_listK K (pv 3)) (fun _ _ _ _ _=>(pg_name (i:=0) (show (["child","unit"]:List Str).Nodup by decide) rfl (Or.inl rfl))) (fun _ _ _ _ _=>(pts_one (pt_cmpR (op_neX hr.units) (pv 0) (pv 1) (nomark _)))) (fun _ _ _ _ _=>(pe_tup (p2 (pv 0) (pv 1))))))))))
  (pss_one (ps_ret (pe_tup (p2 (b_tuple K B (p1 (pv 3))) (b_tupDT rfl B (p1 (pc cplaces_of hr (p1 (pv 4))))))))))))),?_⟩
 refine⟨_,rfl,_,rfl,q,us,ks,ts,ws,wn,kk,rfl,R,T,hkk,fun la H1 s1 hla0 hla=>?_⟩
 have rlen:=rpp.len
 rw[List.length_map] at rlen
 refine⟨_,rfl,lp,rfl,⟨_,.of (s1 _ _ hlp)⟩,?_⟩
 refine comp_list refs (fun D j acc σ' H'=>∃(o0:Option V),σ'=[o0,some (.str kk.1)]/\RepAll H' acc (((ts.take j).filterMap (basO ks kk.1)).map pairD)/\acc.length<=j/\Same H1 H'/\H1 D=none) fun lf hlf=>⟨?_,?_,?_,?_⟩
 ·exact⟨none,rfl,.nil,Nat.le_refl _,Same.new hlf,hlf⟩
 ·rintro j acc σ' H' _ ⟨o0,rfl,_,_,sm,_⟩ _
  exact .of (sm _ _ (s1 _ _ hlp))
 ·rintro j acc σ' H' v hv ⟨o0, rfl, rp, al, sm, hlf0⟩ hacc
  obtain⟨e,he,pv⟩:=prt_get (rpp.same (s1.trans sm)) hv
  have hil:=(List.getElem?_eq_some_iff.mp he).1
  obtain⟨hu,hv',hpn⟩:=tok e (List.mem_of_getElem? he)
  cases hpo:partO ks e.1 e.2 with
  | none=>exact absurd hpo hpn
  | some t3 =>
   obtain⟨kq,x1,y1⟩:=t3
   rw[hpo] at pv
   obtain⟨t,rfl,ht⟩:=pv
   have eb:basO ks kk.1 e=if kq=kk.1 then some (x1,y1) else none:=by unfold basO;rw[hpo]
   have etk:(ts.take (j+1)).filterMap (basO ks kk.1)=(ts.take j).filterMap (basO ks kk.1)++(if kq=kk.1 then some (x1,y1) else none:Option (Str × Str)).toList:=by
    rw[List.take_add_one,he,List.filterMap_append,<- eb]
    cases h:basO ks kk.1 e <;> simp[h]
   clear eb
   dsimp only[gName]
   refine⟨_,rfl,.tup (.of ht) rfl ⟨_,rfl,.sc rfl ⟨_,rfl,?_⟩⟩⟩
   refine ite2 (fun hq=>?_) (fun hq=>?_)
   ·have hq:kq=kk.1:=Classical.byContradiction fun z=>by rw[if_neg (by decide),decide_eq_false (fun w=>z (V.str.inj w))] at hq;cases hq
    rw[if_pos hq] at etk
    refine⟨_,rfl,.tup (.of ht) rfl ⟨_,rfl,.tup (.of ht) rfl ⟨(szl 2),fun t2 ht2=>?_⟩⟩⟩
    refine nw ht2 fun H2 st et=>?_
    have hacc2:=st _ _ hacc
    have sm2:=sm.trans st
    have rp2:=rp.same st
    refine⟨hacc2,small1000 (by omega),_,rfl,?_,by rw[List.length_append];show _+1<=_;omega,same_at sm2 hlf0,hlf0⟩
    rw[etk,List.map_append]
    exact RepAll.append (repBut_all (repBut_pair hacc2 But.upd) rp2) (.cons (repBut_pair hacc2 But.upd (pair_rep et)) .nil)
   ·have hq:kq≠kk.1:=fun z=>hq (by rw[if_neg (by decide),z,decide_eq_true rfl])
    rw[if_neg hq] at etk
    refine⟨hacc,_,rfl,?_,by omega,sm,hlf0⟩
    rw[etk,show (none:Option (Str × Str)).toList=[] from rfl,List.append_nil]
    exact rp
 ·rintro acc σ' H2 ⟨o0, rfl, rp, al, sm, hlf0⟩ hacc
  rw[rlen,List.take_of_length_le (Nat.le_refl _)] at rp
  have s2:=s1.trans sm
  have frf:H lf=none:=same_free s1 hlf0
  have hla2:=sm _ _ hla
  have nla:la≠lf:=ne_of_none hla hlf0
  have fn0:Fnd H H2 lf us acc (ts.filterMap (basO ks kk.1)) 200:=by
   refine⟨hacc,rp,fun e he=>?_,?_,s2⟩
   ·exact basO_in T tok _ e he
   ·exact Nat.le_trans (List.length_filterMap_le _ _) tl
  generalize ebs:ts.filterMap (basO ks kk.1)=bs at fn0
  refine⟨_,rfl,_,rfl,q,la,us,kk.2,ks,ts,ws,wn,"first",rfl,R.same s2,T,wok,(.inl rfl),hla2,(fun u hu=>T.nm _ (kin u hu)),klen,fun D1 H3 s3 hD0 hD=>?_⟩
  have fn1:=fn0.more s3 (Nat.le_refl _)
  have nD:D1≠lf:=Ne.symm (ne_of_none fn0.f hD0)
  have hla3:=s3 _ _ hla2
  refine⟨D1,rfl,⟨_,.of hD⟩,?_⟩
  refine for_list (xs:=List.map V.str (wU kk.2 wn "first")) (fun i σ H'=>∃(o5:Option V) (fr:List V),σ=[some (.ref q),some (.str kk.1),some (.ref lp),some (.ref la),some (.ref lf),o5]/\Fnd H H' lf us fr (bs++((wU kk.2 wn "first").take i).flatMap (rowP false kk.2)) (200+i * 60)/\H' la=some (.lst (List.map V.str kk.2))/\H' D1=some (.lst (List.map V.str (wU kk.2 wn "first")))) ?_ ?_ ?_ ?_
  ·exact⟨_,_,rfl,by rw[List.take_zero,List.flatMap_nil,List.append_nil];exact fn1,hla3,hD⟩
  ·rintro i σ H' hi ⟨o5,fr,rfl,_,_,hD⟩
   exact .of hD
  ·rintro i x σ H4 hx ⟨o5, fr, rfl, fn4, hla4, hD4⟩
   obtain⟨u,hu,rfl⟩:=str_get hx
   have hil:=(List.getElem?_eq_some_iff.mp hu).1
   have hi60:=Nat.le_trans (wU_len kk.2 wn "first") klen
   have uin:=kin u (wU_in (List.mem_of_getElem? hu))
   have flen:=fn4.len
   refine⟨_,rfl,.inl ⟨rfl,_,.of fn4.f⟩,_,rfl,la,rfl,⟨_,.of hla4⟩,?_⟩
   refine comp_list (List.map V.str kk.2) (fun D j acc σ' H'=>∃(o0:Option V),σ'=[o0,some (.str u)]/\RepAll H' acc ((rowP false (kk.2.take j) u).map pairD)/\acc.length<=j/\Same H4 H'/\H4 D=none) fun D hDn=>⟨?_,?_,?_,?_⟩
   ·exact⟨none,rfl,.nil,Nat.le_refl _,Same.new hDn,hDn⟩
   ·rintro j acc σ' H' _ ⟨o0,rfl,_,_,sm,_⟩ _
    exact .of (sm _ _ hla4)
   ·rintro j acc σ' H' v hv ⟨o0,rfl,rp,al,sm,hD0'⟩ hacc
    obtain⟨ch,hch,rfl⟩:=str_get hv
    have hjl:=(List.getElem?_eq_some_iff.mp hch).1
    have est:=rowP_step false (u:=u) hch
    dsimp only[gName]
    refine⟨_,rfl,_,rfl,.sc rfl ⟨_,rfl,?_⟩⟩
    refine ite2 (fun hz=>?_) (fun hz=>?_)
    ·have hz:ch≠u:=fun z=>by rw[if_pos rfl,z,decide_eq_true rfl] at hz;cases hz
     rw[if_neg hz] at est
     refine⟨_,rfl,_,rfl,(szl 2),fun t2 ht2=>?_⟩
     refine nw ht2 fun H5 st et=>?_
     have hacc2:=st _ _ hacc
     have sm2:=sm.trans st
     have rp2:=rp.same st
     refine⟨hacc2,small1000 (by omega),_,rfl,?_,by rw[List.length_append];show _+1<=_;omega,same_at sm2 hD0',hD0'⟩
     rw[est,List.map_append]
     exact RepAll.append (repBut_all (repBut_pair hacc2 But.upd) rp2) (.cons (repBut_pair hacc2 But.upd (pair_rep et)) .nil)
    ·have hz:ch=u:=Classical.byContradiction fun z=>hz (by rw[if_pos rfl,decide_eq_false (fun w=>z (V.str.inj w))];rfl)
     rw[if_pos hz,List.append_nil] at est
     exact⟨hacc,_,rfl,by rw[est];exact rp,by omega,sm,hD0'⟩
   ·rintro acc σ' H5 ⟨o0,rfl,rp,al,sm,hD0'⟩ hacc
    rw[List.length_map] at al
    rw[List.length_map,List.take_of_length_le (Nat.le_refl _)] at rp
    have fn5:=fn4.more sm (Nat.le_refl _)
    have fx:=fn5.ext (m:=60) rp (rowP_in false kin uin) (Nat.le_trans (rowP_len false kk.2 u) klen) frf
    refine nil_ ⟨lf,D,_,_,rfl,rfl,fn5.f,hacc,by omega,?_⟩
    refine⟨_,fr++acc,rfl,?_,by rw[upd_ne nla];exact sm _ _ hla4,by rw[upd_ne nD];exact sm _ _ hD4⟩
    have e:bs++((wU kk.2 wn "first").take (i+1)).flatMap (rowP false kk.2)=bs++((wU kk.2 wn "first").take i).flatMap (rowP false kk.2)++rowP false kk.2 u:=by
     rw[List.take_add_one,hu,List.flatMap_append,List.append_assoc]
     simp
    rw[e]
    exact fx.more (Same.refl _) (by omega)
  ·rintro σ H6 ⟨o5, fr1, rfl, fn6, hla6, _⟩
   have hi60:=Nat.le_trans (wU_len kk.2 wn "first") klen
   rw[List.length_map,List.take_of_length_le (Nat.le_refl _)] at fn6
   have fn6:=fn6.more (m:=3800) (Same.refl _) (by omega)
   generalize efs:bs++(wU kk.2 wn "first").flatMap (rowP false kk.2)=fs at fn6
   refine⟨_,rfl,_,rfl,q,la,us,kk.2,ks,ts,ws,wn,"last",rfl,R.same fn6.s,T,wok,(.inr rfl),hla6,(fun u hu=>T.nm _ (kin u hu)),klen,fun D2 H3 s3 hD0 hD=>?_⟩
   have fn1:=fn6.more s3 (Nat.le_refl _)
   have nD:D2≠lf:=Ne.symm (ne_of_none fn6.f hD0)
   have hla3:=s3 _ _ hla6
   refine⟨D2,rfl,⟨_,.of hD⟩,?_⟩
   refine for_list (xs:=List.map V.str (wU kk.2 wn "last")) (fun i σ H'=>∃(o5:Option V) (fr:List V),σ=[some (.ref q),some (.str kk.1),some (.ref lp),some (.ref la),some (.ref lf),o5]/\Fnd H H' lf us fr (fs++((wU kk.2 wn "last").take i).flatMap (rowP true kk.2)) (3800+i * 60)/\H' la=some (.lst (List.map V.str kk.2))/\H' D2=some (.lst (List.map V.str (wU kk.2 wn "last")))) ?_ ?_ ?_ ?_
   ·exact⟨_,_,rfl,by rw[List.take_zero,List.flatMap_nil,List.append_nil];exact fn1,hla3,hD⟩
   ·rintro i σ H' hi ⟨o5,fr,rfl,_,_,hD⟩
    exact .of hD
   ·rintro i x σ H4 hx ⟨o5, fr, rfl, fn4, hla4, hD4⟩
    obtain⟨u,hu,rfl⟩:=str_get hx
    have hil:=(List.getElem?_eq_some_iff.mp hu).1
    have hi60:=Nat.le_trans (wU_len kk.2 wn "last") klen
    have uin:=kin u (wU_in (List.mem_of_getElem? hu))
    have flen:=fn4.len
    refine⟨_,rfl,.inl ⟨rfl,_,.of fn4.f⟩,_,rfl,la,rfl,⟨_,.of hla4⟩,?_⟩
    refine comp_list (List.map V.str kk.2) (fun D j acc σ' H'=>∃(o0:Option V),σ'=[o0,some (.str u)]/\RepAll H' acc ((rowP true (kk.2.take j) u).map pairD)/\acc.length<=j/\Same H4 H'/\H4 D=none) fun D hDn=>⟨?_,?_,?_,?_⟩
    ·exact⟨none,rfl,.nil,Nat.le_refl _,Same.new hDn,hDn⟩
    ·rintro j acc σ' H' _ ⟨o0,rfl,_,_,sm,_⟩ _
     exact .of (sm _ _ hla4)
    ·rintro j acc σ' H' v hv ⟨o0,rfl,rp,al,sm,hD0'⟩ hacc
     obtain⟨ch,hch,rfl⟩:=str_get hv
     have hjl:=(List.getElem?_eq_some_iff.mp hch).1
     have est:=rowP_step true (u:=u) hch
     dsimp only[gName]
     refine⟨_,rfl,_,rfl,.sc rfl ⟨_,rfl,?_⟩⟩
     refine ite2 (fun hz=>?_) (fun hz=>?_)
     ·have hz:ch≠u:=fun z=>by rw[if_pos rfl,z,decide_eq_true rfl] at hz;cases hz
      rw[if_neg hz] at est
      refine⟨_,rfl,_,rfl,(szl 2),fun t2 ht2=>?_⟩
      refine nw ht2 fun H5 st et=>?_
      have hacc2:=st _ _ hacc
      have sm2:=sm.trans st
      have rp2:=rp.same st
      refine⟨hacc2,small1000 (by omega),_,rfl,?_,by rw[List.length_append];show _+1<=_;omega,same_at sm2 hD0',hD0'⟩
      rw[est,List.map_append]
      exact RepAll.append (repBut_all (repBut_pair hacc2 But.upd) rp2) (.cons (repBut_pair hacc2 But.upd (pair_rep et)) .nil)
     ·have hz:ch=u:=Classical.byContradiction fun z=>hz (by rw[if_pos rfl,decide_eq_false (fun w=>z (V.str.inj w))];rfl)
      rw[if_pos hz,List.append_nil] at est
      exact⟨hacc,_,rfl,by rw[est];exact rp,by omega,sm,hD0'⟩
    ·rintro acc σ' H5 ⟨o0,rfl,rp,al,sm,hD0'⟩ hacc
     rw[List.length_map] at al
     rw[List.length_map,List.take_of_length_le (Nat.le_refl _)] at rp
     have fn5:=fn4.more sm (Nat.le_refl _)
     have fx:=fn5.ext (m:=60) rp (rowP_in true kin uin) (Nat.le_trans (rowP_len true kk.2 u) klen) frf
     refine nil_ ⟨lf,D,_,_,rfl,rfl,fn5.f,hacc,by omega,?_⟩
     refine⟨_,fr++acc,rfl,?_,by rw[upd_ne nla];exact sm _ _ hla4,by rw[upd_ne nD];exact sm _ _ hD4⟩
     have e:fs++((wU kk.2 wn "last").take (i+1)).flatMap (rowP true kk.2)=fs++((wU kk.2 wn "last").take i).flatMap (rowP true kk.2)++rowP true kk.2 u:=by
      rw[List.take_add_one,hu,List.flatMap_append,List.append_assoc]
      simp
     rw[e]
     exact fx.more (Same.refl _) (by omega)
   ·rintro σ H7 ⟨o5,fr2,rfl,fn7,hla7,_⟩
    have hi60:=Nat.le_trans (wU_len kk.2 wn "last") klen
    rw[List.length_map,List.take_of_length_le (Nat.le_refl _)] at fn7
    have fn7:=fn7.more (m:=7400) (Same.refl _) (by omega)
    have evw:viewE ks ts wn kk.1 kk.2=dedTo [] (fs++(wU kk.2 wn "last").flatMap (rowP true kk.2)):=by
     unfold viewE
     rw[ebs,<- List.append_assoc,efs]
    generalize fs++(wU kk.2 wn "last").flatMap (rowP true kk.2)=ps at fn7 evw
    refine⟨_,rfl,la,_,rfl,.of hla7,fun l1 hl1=>?_⟩
    refine nw hl1 fun H8 s8 e8=>?_
    have fn8:=fn7.more s8 (Nat.le_refl _)
    have pl:=fn8.l
    refine⟨_,rfl,nil_ ⟨lf,_,ps,rfl,fn8.f,fn8.r,by omega,fun d kvs H9 s9 hd0 hd hks=>?_⟩⟩
    refine⟨d,kvs,rfl,hd,fun l2 rs hl2 rl hrs=>?_⟩
    refine nw hl2 fun H10 s10 e10=>?_
    have rpv:=(kvs_pairs hks rl hrs).same s10
    have s8a:=s9.trans s10
    refine nil_ ⟨(szl 2),fun t ht=>?_⟩
    have s11:=Same.new (o:=.tup [V.ref l1,V.ref l2]) ht
    refine k (.ref t) _ ((fn8.s.trans s8a).trans s11) ?_
    unfold viewD
    rw[evw]
    exact .tup upd_same (.cons (.tup (s11 _ _ (s8a _ _ e8)) (RepAll.of_strs _)) (.cons (.tup (s11 _ _ e10) (rpv.same s11)) .nil))
theorem flat_len {α β:Type}{f:α->List β}{m:Nat}:∀ {l:List α},(∀x∈l,(f x).length<=m)->(l.flatMap f).length<=l.length * m
 | [],_=>Nat.zero_le _
 | x::l,h=>by
  rw[List.flatMap_cons,List.length_append,List.length_cons]
  have h1:=h x (by simp)
  have h2:=flat_len (l:=l) fun y hy=>h y (List.mem_cons_of_mem _ hy)
  rw[Nat.add_mul]
  omega
def spView:Sp:=fun vs H Q _=>∃(q us ks:_) (ts ws wn:Prs) (k:Str × List Str),vs=[.ref q,.str k.1]/\Rep H (.ref q) (houseD ks ts ws wn)/\Tre us ks/\TsP us ks ts/\WnF us ks wn/\k∈ks/\ts.length<=200/\∀x H',Same H H'->Rep H' x (viewD ks ts wn k)->Q x H'
theorem ok_view {f:Addr}{fd:FuncData}(F:Fun K "view" "view" sView f fd) (B:Blt mg) (cview_by:Cal P w K mg base 2 "view_by" ["house","knot","partings"] spViewBy) (ckept_partings:Cal P w K mg base 3 "kept_partings" ["house"] spKPart):FnOk P w K mg base CX0 4 f fd ["house","knot"] spView:=by
 refine F.ok1 ["house","knot"] fun nd H Q E hr h=>?_
 obtain⟨q,us,ks,ts,ws,wn,kk,rfl,R,T,tok,WX,hkk,tl,k⟩:=h
 refine⟨_,(pss_one (ps_ret (pc cview_by hr (pa_cons (pv 0) (p2 (pv 1) (pc ckept_partings hr (p1 (pv 0)))))))),?_⟩
 refine⟨_,rfl,_,rfl,_,rfl,q,us,ks,ts,ws,wn,rfl,R,T,tok,tl,fun l refs H1 s1 hl0 hl rp=>?_⟩
 refine nil_ ⟨q,l,us,ks,ts,ws,wn,kk,refs,rfl,R.same s1,T,tok,WX,hkk,tl,hl,rp,fun x H2 s2 rx=>?_⟩
 exact k x H2 (s1.trans s2) rx
end
end K39
namespace K39
open PySem L2
section
variable {P:Program}{w:World}{K:W.Frag}{mg:Str->Option Value}{base:Heap}
theorem wU_one {us:List Str}{ks:Kn}(T:Tre us ks) {wn:Prs}(W:WnF us ks wn) {k:Str × List Str}(hk:k∈ks) {word:Str}(hw:word="first"∨word="last"):(wU k.2 wn word).length<=1:=by
 have nd:(wU k.2 wn word).Nodup:=(kid_nodup T hk).filter _
 have one:∀x∈wU k.2 wn word,∀y∈wU k.2 wn word,x=y:=fun x hx y hy=>by
  unfold wU at hx hy
  rw[List.mem_filter,decide_eq_true_iff] at hx hy
  exact W.alike T hk hx.1 hy.1 hx.2 hy.2
 generalize wU k.2 wn word=l at one nd
 match l with
 | []=>exact Nat.zero_le _
 | [x]=>exact Nat.le_refl _
 | x::y::l =>
  have:=one x (by simp) y (by simp)
  rw[this,List.nodup_cons] at nd
  exact absurd (by simp) nd.1
theorem viewE_few {us:List Str}{ks:Kn}(T:Tre us ks) {ts wn:Prs}(W:WnF us ks wn) {k:Str × List Str}(hk:k∈ks) (tl:ts.length<=200):(viewE ks ts wn k.1 k.2).length<=401:=by
 have kl:=nd_len (kid_nodup T hk) fun u hu=>T.isIn hk hu
 have hl:=T.len
 unfold viewE
 have h0:=dedTo_len (ts.filterMap (basO ks k.1)++((wU k.2 wn "first").flatMap (rowP false k.2)++(wU k.2 wn "last").flatMap (rowP true k.2))) []
 rw[List.length_append,List.length_append] at h0
 have h1:=List.length_filterMap_le (basO ks k.1) ts
 have h2:=flat_len (f:=rowP false k.2) (l:=wU k.2 wn "first") (m:=60) fun u _=>Nat.le_trans (rowP_len _ k.2 u) (by omega)
 have h3:=flat_len (f:=rowP true k.2) (l:=wU k.2 wn "last") (m:=60) fun u _=>Nat.le_trans (rowP_len _ k.2 u) (by omega)
 have h4:=wU_one T W hk (word:="first") (.inl rfl)
 have h5:=wU_one T W hk (word:="last") (.inr rfl)
 have h6:([]:Prs).length=0:=rfl
 omega
theorem part_kid {us:List Str}{ks:Kn}(T:Tre us ks) {k:Str × List Str}(hk:k∈ks) {u v x y:Str}(hu:u∈us) (hv:v∈us) (h:partO ks u v=some (k.1,x,y)):x∈k.2/\y∈k.2:=by
 obtain⟨h1,h2,hx,hy,_⟩:=T.part hu hv h
 have hk:(k.1,k.2)∈ks:=hk
 exact⟨T.kid hx (by rw[h1];exact hk),T.kid hy (by rw[h2];exact hk)⟩
theorem view_ends {us:List Str}{ks:Kn}(T:Tre us ks) {ts wn:Prs}(tok:TsP us ks ts) {k:Str × List Str}(hk:k ∈ ks):∀e ∈ viewE ks ts wn k.1 k.2, e.1 ∈ k.2 /\ e.2 ∈ k.2 := fun e he => by
 unfold viewE at he
 rw[dedTo_mem,List.mem_append,List.mem_append] at he
 rcases he with he | he | he | he
 ·cases he
 ·obtain⟨z, hz, q⟩ := List.mem_filterMap.mp he
  obtain⟨hu,hv',_⟩:=tok z hz
  unfold basO at q
  cases hpo:partO ks z.1 z.2 with
  | none=>rw[hpo] at q;cases q
  | some t3 =>
   obtain⟨kq,x1,y1⟩:=t3
   rw[hpo] at q
   have q:(if kq=k.1 then some (x1,y1) else none)=some e:=q
   by_cases hz:kq=k.1
   ·rw[if_pos hz] at q
    have q:=Option.some.inj q
    subst q
    rw[hz] at hpo
    exact part_kid T hk hu hv' hpo
   ·rw[if_neg hz] at q;cases q
 ·obtain⟨u,hu,he⟩:=List.mem_flatMap.mp he
  exact rowP_in (us:=k.2) false (fun z hz=>hz) (wU_in hu) e he
 ·obtain⟨u,hu,he⟩:=List.mem_flatMap.mp he
  exact rowP_in (us:=k.2) true (fun z hz=>hz) (wU_in hu) e he
end
end K39
namespace K39
open PySem L2
section
variable {P:Program}{w:World}{K:W.Frag}{mg:Str->Option Value}{base:Heap}
theorem ok_isname {f:Addr}{fd:FuncData}{tk:Tok}(F:Fun K "is_name" "is_name" sIsName f fd) (B:Blt mg) (T:mg "MOST_SIGNS"=some (.int 8 tk)):FnOk P w K mg base CX0 1 f fd ["thing"] spIsName := by
 refine F.ok1 ["thing"] fun nd H Q E hr h=>?_
 obtain⟨x,rfl,hx,k⟩:=h
 obtain⟨t,ty,t1,_⟩:=ty_thg (K:=K) hx
 refine⟨_,(pss_cons (ps_if (pt_not (pt_val (b_isi K "str" B (p2 (pv 0) (g_str B))))) (pss_one (ps_ret pe_bl)) pss_nil)
  (pss_cons (ps_if (PW.pt (pw_or (pt_cmpR op_ltX (b_len K B (p1 (pv 0))) pe_int (nomark _)) (pw_or1 (pt_cmpR op_gt (b_len K B (p1 (pv 0))) (pe_glob (v:=.int 8) rfl T ⟨_,rfl⟩) (nomark _))))) (pss_one (ps_ret pe_bl)) pss_nil)
  (pss_one (ps_ret (b_all rfl B (p1 (pe_comp (defScope sIsName) ["thing"] ["sign"] [] ["sign"] rfl (pi_str (pv 0)) (fun _ _ _ _ _=>(pg_name (i:=0) (show (["sign"]:List Str).Nodup by decide) rfl (Or.inl rfl))) (fun _ _ _ _ _=>pts_nil) (fun _ _ _ _ _=>(pe_chain op_leX op_leX pe_str (pv 0) pe_str))))))))),?_⟩
 refine⟨_,rfl,x,t,_,rfl,ty,t1,_,rfl,?_⟩
 refine ite2 (fun hn=>?_) (fun hn=>?_)
 ·have e:isNm x=false:=by cases x <;> first | rfl | (simp[isS] at hn)
  have q:=k H (Same.refl H)
  rw[e] at q
  exact q
 ·obtain⟨z, rfl⟩:∃z, x=.str z := by cases x <;> first | exact⟨_, rfl⟩ | (simp[isS] at hn)
  have hzz:z.length<=sizeLine:=by
   cases hx with
   | str h=>exact h
  refine⟨_,rfl,_,_,rfl,⟨hzz,rfl⟩,.int ⟨_,rfl,?_⟩⟩
  refine ite2 (fun h1=>?_) (fun h1=>?_)
  ·refine iteT ?_
   have q:=k H (Same.refl H)
   have h1:(z.length:Int)<1:=of_decide_eq_true h1
   have e:isNm (.str z)=false:=by
    show (decide (1<=z.length)&&_)=false
    rw[decide_eq_false (by omega)];rfl
   rw[e] at q
   exact q
  ·have h1:¬ (z.length:Int)<1 := of_decide_eq_false (by simpa using h1)
   refine⟨_,rfl,_,_,rfl,⟨hzz,rfl⟩,_,_,rfl,rfl,_,rfl,?_⟩
   refine ite2 (fun h2=>?_) (fun h2=>?_)
   ·have q:=k H (Same.refl H)
    have h2:(8:Int)<z.length:=of_decide_eq_true h2
    have e:isNm (.str z)=false:=by
     show (decide (1<=z.length)&&(decide (z.length<=8)&&_))=false
     rw[decide_eq_false (show ¬ z.length<=8 by omega),Bool.false_and,Bool.and_false]
    rw[e] at q
    exact q
   ·have h2:¬ (8:Int)<z.length := of_decide_eq_false (by simpa using h2)
    have e:isNm (.str z)=z.cps.toList.all isLow:=by
     show (decide (1<=z.length)&&(decide (z.length<=8)&&_))=_
     rw[decide_eq_true (show 1<=z.length by omega),decide_eq_true (show z.length<=8 by omega),Bool.true_and,Bool.true_and]
    refine⟨_,rfl,z,rfl,?_⟩
    refine comp_str (fun D i acc σ' H'=>∃o,σ'=[o]/\acc=(z.cps.toList.take i).map (fun c=>V.bl (isLow c))/\Same H H'/\H D=none) fun D hD=>⟨⟨none,rfl,rfl,Same.new hD,hD⟩,?_,?_⟩
    ·rintro i acc σ' H' c hc ⟨o, rfl, rfl, sm, hD0⟩ hacc
     refine gYes ?_
     have sg:∀b:Bool,b=isLow c->(H' D=some (.lst ((z.cps.toList.take i).map (fun c=>V.bl (isLow c))))/\((z.cps.toList.take i).map (fun c=>V.bl (isLow c))).length<sizeLine /\
         (∃o,[some (V.str ⟨#[c]⟩)]=[o]/\(z.cps.toList.take i).map (fun c=>V.bl (isLow c))++[V.bl b]=(z.cps.toList.take (i+1)).map (fun c=>V.bl (isLow c))/\Same H (upd H' D (.lst ((z.cps.toList.take i).map (fun c=>V.bl (isLow c))++[V.bl b])))/\H D=none)):=fun b hb=>by
      refine⟨hacc,?_,_,rfl,?_,?_,hD0⟩
      ·rw[List.length_map]
       refine small1000 ?_
       have:=List.length_take_le' i z.cps.toList
       have h2':z.length<=8:=by omega
       have hl:z.cps.toList.length=z.length:=by simp[Str.length]
       omega
      ·rw[List.take_add_one,hc,List.map_append,hb];rfl
      ·intro b' o' e'
       rw[upd_ne (ne_of_none e' hD0)]
       exact sm b' o' e'
     refine⟨_,rfl,.str ⟨_,rfl,?_⟩⟩
     have e1:(!decide ((⟨#[c]⟩:Str).cps.toList<("a":Str).cps.toList))=decide (97<=c):=by
      show (!decide ([c]<[97]))=_
      rw[lt_one]
      by_cases hh:c<97
      ·rw[decide_eq_true hh,decide_eq_false (by omega)];rfl
      ·rw[decide_eq_false hh,decide_eq_true (by omega)];rfl
     have e2:(!decide (("z":Str).cps.toList<(⟨#[c]⟩:Str).cps.toList))=decide (c<=122):=by
      show (!decide ([122]<[c]))=_
      rw[lt_one]
      by_cases hh:122<c
      ·rw[decide_eq_true hh,decide_eq_false (by omega)];rfl
      ·rw[decide_eq_false hh,decide_eq_true (by omega)];rfl
     rw[e1]
     refine ite2 (fun h3=>?_) (fun h3=>?_)
     ·refine .str (sg _ ?_)
      rw[e2]
      unfold isLow
      rw[h3,Bool.true_and]
     ·refine sg false ?_
      unfold isLow
      have h3:decide (97<=c)=false:=by simpa using h3
      rw[h3,Bool.false_and]
    ·rintro acc σ' H' ⟨o,rfl,rfl,sm,hD0⟩ hacc
     rw[List.take_of_length_le (Nat.le_refl _)] at hacc
     refine⟨D,z.cps.toList.map isLow,rfl,by rw[List.map_map];exact hacc,?_⟩
     have q:=k H' sm
     rw[e] at q
     have e4:(z.cps.toList.map isLow).all id=z.cps.toList.all isLow:=by rw[List.all_map];rfl
     rw[e4]
     exact q
theorem nmS {s:Str}(h:Nm s):s.length<=sizeLine:=Nat.le_of_lt (small1000 (by have:=h.2.1;omega))
def spAmong:Sp:=fun vs H Q _=>∃(d ta kvs:_) (e:Str × Str),vs=[.ref d,.ref ta]/\H d=some (.dK kvs)/\H ta=some (.tup [.str e.1,.str e.2])/\Nm e.1/\Nm e.2/\(valV kvs (.inr e.1)).isSome=true/\(valV kvs (.inr e.2)).isSome=true/\∀H',Same H H'->Q (.bl true) H'
theorem ok_among {f:Addr}{fd:FuncData}(F:Fun K "is_tie_among" "is_tie_among" sAmong f fd) (B:Blt mg) (cis_name:Cal P w K mg base 1 "is_name" ["thing"] spIsName):FnOk P w K mg base CX0 2 f fd ["places", "tie"] spAmong := by
 refine F.ok1 ["places","tie"] fun nd H Q E hr h=>?_
 obtain⟨d,ta,kvs,e,rfl,hd,hta,n1,n2,i1,i2,k⟩:=h
 obtain⟨t,ty,_,_,_,_,t5⟩:=ty_thg (K:=K) (Thg.tup hta)
 rw[isT_of hta] at t5
 refine⟨_,(pss_cons (ps_if (PW.pt (pw_or (pt_not (pt_val (b_isi K "tuple" B (p2 (pv 1) (g_tuple B))))) (pw_or1 (pt_cmpR (op_neX hr.units) (b_len K B (p1 (pv 1))) pe_int (nomark _))))) (pss_one (ps_ret pe_bl)) pss_nil)
  (pss_one (ps_ret (b_all rfl B (p1 (pe_comp (defScope sAmong) ["places","tie"] ["end"] [0] ["end","places"] rfl (pi_tupK K (pv 1)) (fun _ _ _ _ _=>(pg_name (i:=0) (show (["end","places"]:List Str).Nodup by decide) rfl (Or.inl rfl))) (fun _ _ _ _ _=>pts_nil) (fun _ _ _ _ _=>(pe_and (pc cis_name hr (p1 (pv 0))) (pe_one (pe_cmpR (op_inX K hr.units) (pv 0) (pv 1) (by with_unfolding_all rfl))))))))))),?_⟩
 refine⟨_,rfl,_,t,_,rfl,ty,t5,_,rfl,?_⟩
 refine ite2 (fun h=>absurd h (by decide)) (fun _=>?_)
 refine⟨_,rfl,_,_,rfl,Or.inr ⟨_,.of hta,rfl⟩,.sc rfl ⟨_,rfl,?_⟩⟩
 refine ite2 (fun h=>absurd h (by show ¬ (!decide (V.int 2=V.int 2))=true;decide)) (fun _=>?_)
 refine⟨_,rfl,ta,rfl,⟨_,.of hta⟩,?_⟩
 refine comp_tup [V.str e.1,V.str e.2] (fun D i acc σ' H'=>∃o,σ'=[o,some (.ref d)]/\acc=List.replicate i (V.bl true)/\Same H H'/\H D=none) fun D hD=>⟨?_,?_,?_,?_⟩
 ·exact⟨none,rfl,rfl,Same.new hD,hD⟩
 ·rintro i acc σ' H' _ ⟨o,rfl,_,sm,_⟩ _
  exact .of (sm _ _ hta)
 ·rintro i acc σ' H' x hx ⟨o,rfl,rfl,sm,hD0⟩ hacc
  have hil:=(List.getElem?_eq_some_iff.mp hx).1
  have hil:i<2:=hil
  obtain⟨z,rfl,nz,iz⟩:∃z,x=.str z/\Nm z/\(valV kvs (.inr z)).isSome=true:=by
   match i,hil,hx with
   | 0,_,hx=>exact⟨e.1,(Option.some.inj hx).symm,n1,i1⟩
   | 1,_,hx=>exact⟨e.2,(Option.some.inj hx).symm,n2,i2⟩
  refine gYes ?_
  refine⟨_,rfl,_,rfl,.str (nmS nz),fun H2 s2=>⟨_,rfl,?_⟩⟩
  rw[isNm_iff.mpr nz]
  refine iteT ?_
  refine⟨_,rfl,_,rfl,.dic (DGet.k (k:=.inr z) (s2 _ _ (sm _ _ hd))) ?_⟩
  refine⟨s2 _ _ hacc,by rw[List.length_replicate];exact small1000 (by omega),_,rfl,?_,same_at (sm.trans s2) hD0,hD0⟩
  show List.replicate i (V.bl true)++[V.bl (valV kvs (.inr z)).isSome]=_
  rw[iz,List.replicate_succ']
 ·rintro acc σ' H2 ⟨o,rfl,rfl,s2,hD0⟩ hacc
  refine⟨D,[true,true],rfl,hacc,?_⟩
  exact k H2 s2
end
end K39
namespace K39
open PySem L2
section
variable {P:Program}{w:World}{K:W.Frag}{mg:Str->Option Value}{base:Heap}
def spLists:Sp:=fun vs H Q _=>∃q ss ts x,vs=[q,x]/\Web H q ss ts/\Thg H x/\(∀a xs,x=.ref a->H a=some (.lst xs)->xs.length<=1000/\∀v∈xs,Thg H v)/\∀H',Same H H'->Q (.bl (lstB H ss x)) H'
theorem ok_lists {f:Addr}{fd:FuncData}(F:Fun K "lists_things" "lists_things" sLists f fd) (B:Blt mg) (cplaces_of:Cal P w K mg base 1 "places_of" ["things"] spPlacesX) (cis_name:Cal P w K mg base 1 "is_name" ["thing"] spIsName):FnOk P w K mg base CX0 2 f fd ["web", "thing"] spLists := by
 refine F.ok1 ["web","thing","places"] fun nd H Q E hr h=>?_
 obtain⟨q,ss,ts,x,rfl,W,tx,hxs,k⟩:=h
 obtain⟨t,ty,_,_,_,t4,_⟩:=ty_thg (K:=K) tx
 refine⟨_,(pss_cons (ps_if (pt_not (pt_val (b_isi K "list" B (p2 (pv 1) (g_list B))))) (pss_one (ps_ret pe_bl)) pss_nil)
  (pss_cons (ps_set (i:=2) nd rfl (Or.inr rfl) (pc cplaces_of hr (p1 (px K hr (pv 0) pe_int))))
  (pss_one (ps_ret (b_all rfl B (p1 (pe_comp (defScope sLists) ["web","thing","places"] ["part"] [2] ["part","places"] rfl (pi_listK K (pv 1)) (fun _ _ _ _ _=>(pg_name (i:=0) (show (["part","places"]:List Str).Nodup by decide) rfl (Or.inl rfl))) (fun _ _ _ _ _=>pts_nil) (fun _ _ _ _ _=>(pe_and (pc cis_name hr (p1 (pv 0))) (pe_one (pe_cmpR (op_inX K hr.units) (pv 0) (pv 1) (by with_unfolding_all rfl)))))))))))),?_⟩
 refine⟨_,rfl,x,t,_,rfl,ty,t4,_,rfl,?_⟩
 refine ite2 (fun hn=>?_) (fun hn=>?_)
 ·have hn:isL H x=false:=by simpa using hn
  have q:=k H (Same.refl H)
  rw[lstB_not hn] at q
  exact q
 ·have hn:isL H x=true := by simpa using hn
  obtain⟨b,xs,rfl,hb⟩:=isL_inv hn
  obtain⟨hxl,hxt⟩:=hxs b xs rfl hb
  rw[lstB_lst hb] at k
  obtain⟨q,a,c,ws,rfl,hq,ha,hc,rp⟩:=web_at W.rep
  have h60:=W.len
  refine⟨_,rfl,.tup (.of hq) rfl ⟨_,rfl,.nm (.inr ha) (by omega) fun d kvs H1 s1 hd0 hd hin hat _ _=>?_⟩⟩
  refine⟨_,rfl,b,rfl,⟨_,.of (s1 _ _ hb)⟩,?_⟩
  refine comp_list xs (fun D i acc σ' H'=>∃o,σ'=[o,some (.ref d)]/\acc=(xs.take i).map (fun v=>V.bl (inSS ss v))/\Same H1 H'/\H1 D=none) fun D hD=>⟨?_,?_,?_,?_⟩
  ·exact⟨none,rfl,rfl,Same.new hD,hD⟩
  ·rintro i acc σ' H' _ ⟨o,rfl,_,sm,_⟩ _
   exact .of (sm _ _ (s1 _ _ hb))
  ·rintro i acc σ' H' x hx ⟨o, rfl, rfl, sm, hD0⟩ hacc
   have hil:=(List.getElem?_eq_some_iff.mp hx).1
   have tx:=((hxt x (List.mem_of_getElem? hx)).same s1).same sm
   refine gYes ?_
   refine⟨_,rfl,x,rfl,tx,fun H2 s2=>⟨_,rfl,?_⟩⟩
   have fin:∀b:Bool,b=inSS ss x->H2 D=some (.lst ((xs.take i).map fun v=>V.bl (inSS ss v)))/\((xs.take i).map fun v=>V.bl (inSS ss v)).length<sizeLine /\
       ∃o,[some x,some (V.ref d)]=[o,some (.ref d)]/\((xs.take i).map fun v=>V.bl (inSS ss v))++[V.bl b]=(xs.take (i+1)).map (fun v=>V.bl (inSS ss v))/\Same H1 (upd H2 D (.lst (((xs.take i).map fun v=>V.bl (inSS ss v))++[V.bl b])))/\H1 D=none:=fun b hb=>by
    refine⟨s2 _ _ hacc,?_,_,rfl,?_,same_at (sm.trans s2) hD0,hD0⟩
    ·rw[List.length_map,List.length_take];exact small1000 (by omega)
    ·rw[List.take_add_one,hx,List.map_append,hb];rfl
   refine ite2 (fun h1=>?_) (fun h1=>?_)
   ·cases x with
    | str z =>
     refine⟨_,rfl,_,rfl,.dic (DGet.k (k:=.inr z) (s2 _ _ (sm _ _ hd))) ?_⟩
     refine fin _ ?_
     show (valV kvs (.inr z)).isSome=decide (z∈ss)
     rw[Bool.eq_iff_iff,hin z,decide_eq_true_iff]
    | _=>cases h1
   ·refine fin false ?_
    cases x with
    | str z =>
     show false=decide (z∈ss)
     rw[decide_eq_false]
     intro hz
     exact h1 (isNm_iff.mpr (W.nm z hz))
    | _=>rfl
  ·rintro acc σ' H2 ⟨o,rfl,rfl,s2,hD0⟩ hacc
   rw[List.take_of_length_le (Nat.le_refl _)] at hacc
   refine⟨D,xs.map (inSS ss),rfl,by rw[List.map_map];exact hacc,?_⟩
   have e4:(xs.map (inSS ss)).all id=xs.all (inSS ss):=by rw[List.all_map];rfl
   rw[e4]
   exact k H2 (s1.trans s2)
def strsOf:List V->List Str
 | []=>[]
 | .str s::r=>s::strsOf r
 | _::r=>strsOf r
theorem strsOf_map:∀ws:List Str,strsOf (List.map V.str ws)=ws
 | []=>rfl
 | w::ws=>by show w::strsOf (List.map V.str ws)=_;rw[strsOf_map ws]
def ordL (ss:List Str) (ts:List (Str × Str)) (xs:List V):Bool :=
 xs.all (inSS ss)&&(decide (xs.length=ss.length)&&(decide (strsOf xs).Nodup&&ts.all fun e=>decide (MG.ix (strsOf xs) e.1<MG.ix (strsOf xs) e.2)))
def ordB (H:Hp) (ss:List Str) (ts:List (Str × Str)):V->Bool
 | .ref a=>match H a with
  | some (.lst xs)=>ordL ss ts xs
  | _=>false
 | _=>false
theorem ordB_lst {H:Hp}{ss:List Str}{ts:List (Str × Str)}{a:Addr}{xs:List V}(h:H a=some (.lst xs)):ordB H ss ts (.ref a)=ordL ss ts xs:=by
 show (match H a with | some (.lst xs)=>ordL ss ts xs | _=>false)=_
 rw[h]
theorem ordB_not {H:Hp}{ss:List Str}{ts:List (Str × Str)}{x:V}(h:isL H x=false):ordB H ss ts x=false := by
 cases x with
 | ref a =>
  show (match H a with | some (.lst xs)=>ordL ss ts xs | _=>false)=false
  split
  ·rename_i xs e
   rw[isL_of e] at h;cases h
  ·rfl
 | _=>rfl
theorem perm_of:∀ {ws ss:List Str},ws.Nodup->ws.length=ss.length->(∀w∈ws,w∈ss)->ws.Perm ss
 | [],ss,_,hl,_=>by
  have:ss=[]:=List.length_eq_zero_iff.mp hl.symm
  rw[this]
 | w::r,ss,nd,hl,hm=>by
  obtain⟨h1,h2⟩:=List.nodup_cons.mp nd
  have hw:=hm w (by simp)
  have p:=List.perm_cons_erase hw
  have pl:=p.length_eq
  rw[List.length_cons] at pl hl
  have ih:=perm_of (ws:=r) (ss:=ss.erase w) h2 (by omega) fun x hx=>(List.mem_erase_of_ne (fun z:x=w=>h1 (z ▸ hx))).mpr (hm x (List.mem_cons_of_mem _ hx))
  exact(List.Perm.cons w ih).trans p.symm
def spIsOrder:Sp:=fun vs H Q _=>∃q ss ts x,vs=[.ref q,x]/\Web H (.ref q) ss ts/\Thg H x/\(∀a xs,x=.ref a->H a=some (.lst xs)->xs.length<=1000/\∀v∈xs,Thg H v)/\∀H',Same H H'->Q (.bl (ordB H ss ts x)) H'
theorem ok_is_order {f:Addr}{fd:FuncData}(F:Fun K "is_order" "is_order" sIsOrder f fd) (B:Blt mg) (cplaces_of:Cal P w K mg base 1 "places_of" ["things"] spPlacesX) (clists_things:Cal P w K mg base 2 "lists_things" ["web", "thing"] spLists):FnOk P w K mg base CX0 3 f fd ["web", "thing"] spIsOrder := by
 refine F.ok1 ["web","thing","places"] fun nd H Q E hr h=>?_
 obtain⟨q,ss,ts,x,rfl,W,tx,hxs,k⟩:=h
 refine⟨_,(pss_cons (ps_if (pt_not (pt_val (pc clists_things hr (p2 (pv 0) (pv 1))))) (pss_one (ps_ret pe_bl)) pss_nil)
  (pss_cons (ps_set (i:=2) nd rfl (Or.inr rfl) (pc cplaces_of hr (p1 (pv 1))))
  (pss_cons (ps_if (PW.pt (pw_or (pt_cmpR (op_neX hr.units) (b_len K B (p1 (pv 1))) (b_len K B (p1 (px K hr (pv 0) pe_int))) (nomark _)) (pw_or1 (pt_cmpR (op_neX hr.units) (b_lenD B (p1 (pv 2))) (b_len K B (p1 (px K hr (pv 0) pe_int))) (nomark _))))) (pss_one (ps_ret pe_bl)) pss_nil)
  (pss_one (ps_ret (b_all rfl B (p1 (pe_comp (defScope sIsOrder) ["web","thing","places"] ["tie"] [2] ["tie","places"] rfl (pi_tupK K (px K hr (pv 0) pe_int)) (fun _ _ _ _ _=>(pg_name (i:=0) (show (["tie","places"]:List Str).Nodup by decide) rfl (Or.inl rfl))) (fun _ _ _ _ _=>pts_nil) (fun _ _ _ _ _=>(pe_cmpR op_ltX (px K hr (pv 1) (px K hr (pv 0) pe_int)) (px K hr (pv 1) (px K hr (pv 0) pe_int)) (nomark _))))))))))),?_⟩
 refine⟨_,rfl,_,rfl,.ref q,ss,ts,x,rfl,W,tx,hxs,fun H1 s1=>⟨_,rfl,?_⟩⟩
 cases hl:lstB H ss x with
 | false =>
  refine iteT ?_
  have z:=k H1 s1
  have e:ordB H ss ts x=false:=by
   cases q:isL H x with
   | false=>exact ordB_not q
   | true =>
    obtain⟨b,xs,rfl,hb⟩:=isL_inv q
    rw[lstB_lst hb] at hl
    rw[ordB_lst hb]
    unfold ordL
    rw[hl];rfl
  rw[e] at z
  exact z
 | true =>
  refine iteF ?_
  have hil:isL H x=true:=by
   cases q:isL H x with
   | false=>rw[lstB_not q] at hl;cases hl
   | true=>rfl
  obtain⟨b,xs,rfl,hb⟩:=isL_inv hil
  rw[lstB_lst hb] at hl
  obtain⟨hxl,_⟩:=hxs b xs rfl hb
  obtain⟨ws,rfl,hws⟩:=all_inSS hl
  rw[List.length_map] at hxl
  have ordE:ordB H ss ts (.ref b)=(decide (ws.length=ss.length)&&(decide ws.Nodup&&ts.all fun e=>decide (MG.ix ws e.1<MG.ix ws e.2))):=by
   rw[ordB_lst hb]
   unfold ordL
   rw[hl,strsOf_map,List.length_map]
   rfl
  rw[ordE] at k
  obtain⟨q',a,c,refs,e0,hq,ha,hc,rp⟩:=web_at W.rep
  cases e0
  have rlen:=rp.len
  rw[List.length_map] at rlen
  refine⟨_,rfl,_,rfl,.nm (.inl (s1 _ _ hb)) hxl fun d kvs H2 s2 hd0 hd hin hat knd kks=>?_⟩
  have hlen:=len_kvs knd kks hin
  have s12:=s1.trans s2
  have z2:=k H2 s12
  refine⟨_,rfl,_,_,rfl,Or.inl ⟨_,.of (s12 _ _ hb),rfl⟩,_,rfl,.tup (.of (s12 _ _ hq)) rfl ⟨_,_,rfl,Or.inr ⟨_,.of (s12 _ _ ha),rfl⟩,.sc rfl ⟨_,rfl,?_⟩⟩⟩
  have hl1:(List.map V.str ws).length=ws.length:=List.length_map ..
  have hl2:(List.map V.str ss).length=ss.length:=List.length_map ..
  rw[hl1,hl2]
  refine ite2 (fun h1=>?_) (fun h1=>?_)
  ·have h1:(!decide (V.int (ws.length:Nat)=V.int (ss.length:Nat)))=true:=h1
   have hne:¬ ws.length=ss.length:=fun z=>by rw[z,decide_eq_true rfl] at h1;cases h1
   refine iteT ?_
   rw[decide_eq_false hne] at z2
   exact z2
  ·have h1:¬ (!decide (V.int (ws.length:Nat)=V.int (ss.length:Nat)))=true := h1
   have hle:ws.length=ss.length:=Classical.byContradiction fun z=>h1 (by rw[decide_eq_false (fun y=>z (by have:=V.int.inj y;omega))];rfl)
   rw[decide_eq_true hle,Bool.true_and] at k
   have z2:=k H2 s12
   refine⟨_,rfl,d,kvs,rfl,hd,_,rfl,.tup (.of (s12 _ _ hq)) rfl ⟨_,_,rfl,Or.inr ⟨_,.of (s12 _ _ ha),rfl⟩,.sc rfl ⟨_,rfl,?_⟩⟩⟩
   rw[hl2]
   refine ite2 (fun h2=>?_) (fun h2=>?_)
   ·have h2:(!decide (V.int (kvs.length:Nat)=V.int (ss.length:Nat)))=true:=h2
    have hne:¬ ws.Nodup:=fun z=>by
     have:=hlen.mpr z
     rw[this,hle,decide_eq_true rfl] at h2;cases h2
    rw[decide_eq_false hne] at z2
    exact z2
   ·have h2:¬ (!decide (V.int (kvs.length:Nat)=V.int (ss.length:Nat)))=true := h2
    have hk:kvs.length=ss.length:=Classical.byContradiction fun z=>h2 (by rw[decide_eq_false (fun y=>z (by have:=V.int.inj y;omega))];rfl)
    have wnd:ws.Nodup:=hlen.mp (hk.trans hle.symm)
    have pm:=perm_of wnd hle hws
    rw[decide_eq_true wnd,Bool.true_and] at k
    have few:=W.few
    have at_:∀z,z∈ss->valV kvs (.inr z)=some (.int ((MG.ix ws z:Nat):Int)):=fun z hz=>by
     obtain⟨v,hv⟩:=Option.isSome_iff_exists.mp ((hin z).mpr (pm.mem_iff.mpr hz))
     obtain⟨j,rfl,hj⟩:=hat z v hv
     rw[hv,MG.ix_at wnd hj]
    refine⟨_,rfl,.tup (.of (s12 _ _ hq)) rfl ⟨_,rfl,⟨_,.of (s12 _ _ hc)⟩,?_⟩⟩
    refine comp_tup refs (fun D i acc σ' H'=>∃o,σ'=[o,some (.ref d)]/\acc=(ts.take i).map (fun e=>V.bl (decide (MG.ix ws e.1<MG.ix ws e.2)))/\Same H2 H'/\H2 D=none) fun D hD=>⟨?_,?_,?_,?_⟩
    ·exact⟨none,rfl,rfl,Same.new hD,hD⟩
    ·rintro i acc σ' H' _ ⟨o,rfl,_,sm,_⟩ _
     exact .of (sm _ _ (s12 _ _ hc))
    ·rintro i acc σ' H' x hx ⟨o,rfl,rfl,sm,hD0⟩ hacc
     obtain⟨e,ta,he,rfl,hta⟩:=pair_get ((rp.same s12).same sm) hx
     have hil:=(List.getElem?_eq_some_iff.mp he).1
     have hin2:=W.inn e (List.mem_of_getElem? he)
     refine gYes ?_
     refine⟨_,rfl,_,rfl,.tup (.of hta) rfl (.dic (.inl ⟨kvs,.inr e.1,.inl (sm _ _ hd),rfl,(at_ e.1 hin2.1).symm⟩) ⟨_,rfl,_,rfl,.tup (.of hta) rfl (.dic (.inl ⟨kvs,.inr e.2,.inl (sm _ _ hd),rfl,(at_ e.2 hin2.2).symm⟩) (.int ⟨hacc,by rw[List.length_map,List.length_take];exact small1000 (by omega),_,rfl,?_,same_at sm hD0,hD0⟩))⟩)⟩
     rw[List.take_add_one,he,List.map_append]
     show _++[V.bl (decide (((MG.ix ws e.1:Nat):Int)<((MG.ix ws e.2:Nat):Int)))]=_++[V.bl (decide (MG.ix ws e.1<MG.ix ws e.2))]
     have:decide (((MG.ix ws e.1:Nat):Int)<((MG.ix ws e.2:Nat):Int))=decide (MG.ix ws e.1<MG.ix ws e.2):=by
      rw[Bool.eq_iff_iff,decide_eq_true_iff,decide_eq_true_iff]
      omega
     rw[this]
    ·rintro acc σ' H3 ⟨o,rfl,rfl,s3,hD0⟩ hacc
     rw[rlen,List.take_of_length_le (Nat.le_refl _)] at hacc
     refine⟨D,ts.map (fun e=>decide (MG.ix ws e.1<MG.ix ws e.2)),rfl,by rw[List.map_map];exact hacc,?_⟩
     have e4:(ts.map (fun e=>decide (MG.ix ws e.1<MG.ix ws e.2))).all id=ts.all fun e=>decide (MG.ix ws e.1<MG.ix ws e.2):=by rw[List.all_map];rfl
     rw[e4]
     exact k H3 (s12.trans s3)
end
end K39
namespace K39
open PySem L2
section
variable {P:Program}{w:World}{K:W.Frag}{mg:Str->Option Value}{base:Heap}
theorem sq_at {H H':Hp}{a:Addr}{xs:List V}(h:SqA H a xs) (s:Same H H'):H' a=H a:=by
 rcases h with h | h <;> rw[h,s _ _ h]
theorem for_seq {K:W.Frag}{a:Addr}{xs:List V}{g:TG}{tb:TS}{D:Ends}{σ:St}{H0:Hp}(Pv:Nat -> St -> Hp -> Prop) (ha:SqA H0 a xs) (h0:Pv 0 σ H0) (hl:∀i σ H, i <= xs.length -> Pv i σ H -> H a=H0 a)
    (hs:∀i x σ H,xs[i]? = some x->Pv i σ H->g x σ H fun σ2 H2=>tb { D with nx:=Pv (i+1),ct:=Pv (i+1),bk:=D.nx } σ2 H2) (hd:∀σ H,Pv xs.length σ H->D.nx σ H) :
    (∃xs,SqL K H0 a xs)/\(∃W:Nat->Nat->St->Hp->Prop,(∃m,W 0 m σ H0)/\∀i m σ H,W i m σ H ->
     ((Itl K a).stop i H/\D.nx σ H)∨((Itl K a).go i H/\∃N:St->Hp->Prop,(∀σ' H',N σ' H'->∃m',m'<m/\W (i+1) m' σ' H')/\∀x H',(Itl K a).yld i H x H'->g x σ H' fun σ2 H2=>tb { D with nx:=N,ct:=N,bk:=D.nx } σ2 H2)) ∨
    (∃xs,SqT K H0 a xs)/\(∃W:Nat->Nat->St->Hp->Prop,(∃m,W 0 m σ H0)/\∀i m σ H,W i m σ H ->
     ((Itt K a).stop i H/\D.nx σ H)∨((Itt K a).go i H/\∃N:St->Hp->Prop,(∀σ' H',N σ' H'->∃m',m'<m/\W (i+1) m' σ' H')/\∀x H',(Itt K a).yld i H x H'->g x σ H' fun σ2 H2=>tb { D with nx:=N,ct:=N,bk:=D.nx } σ2 H2)):=by
 rcases ha with ha | ha
 ·exact .inl ⟨⟨xs,.of ha⟩,for_list Pv h0 (fun i σ H hi p=>.of ((hl i σ H hi p).trans ha)) hs hd⟩
 ·exact .inr ⟨⟨xs,.of ha⟩,for_tup Pv h0 (fun i σ H hi p=>.of ((hl i σ H hi p).trans ha)) hs hd⟩
structure WebA (H:Hp) (v:V) (ss:List Str) (ts:List (Str × Str)):Prop where
 rep:∃q a b xs,v=.ref q/\H q=some (.tup [.ref a,.ref b])/\SqA H a (List.map V.str ss)/\SqA H b xs/\RepAll H xs (ts.map pairD)
 nd:ss.Nodup
 nm:∀s∈ss,Nm s
 len:ss.length<=60
 few:ts.length<=410
 inn:∀e∈ts,e.1∈ss/\e.2∈ss
theorem WebA.same {H H':Hp}{v:V}{ss:List Str}{ts:List (Str × Str)}(h:WebA H v ss ts) (s:Same H H'):WebA H' v ss ts :=
 ⟨let ⟨q,a,b,xs,e,hq,ha,hb,rp⟩:=h.rep;⟨q,a,b,xs,e,s _ _ hq,ha.same s,hb.same s,rp.same s⟩,h.nd,h.nm,h.len,h.few,h.inn⟩
theorem webA {H:Hp}{v:V}{ss:List Str}{ts:List (Str × Str)}(h:Web H v ss ts):WebA H v ss ts :=
 ⟨let ⟨q,a,b,xs,e,hq,ha,hb,rp⟩:=web_at h.rep;⟨q,a,b,xs,e,hq,.inr ha,.inr hb,rp⟩,h.nd,h.nm,h.len,Nat.le_trans h.few (by decide),h.inn⟩
def spNextsA (rev:Bool):Sp:=fun vs H Q _=>∃q ss ts s,vs=[q,.str s]/\WebA H q ss ts /\
 ∀l H',Same H H'->H l=none->H' l=some (.lst (List.map V.str (nxtL ss (if rev then flipE ts else ts) s)))->Q (.ref l) H'
def spNextsAllA (rev:Bool):Sp:=fun vs H Q _=>∃q ss ts,vs=[q]/\WebA H q ss ts /\
 ∀d H',Same H H'->H d=none->Tab H' d ss (nxtL ss (if rev then flipE ts else ts))->Q (.ref d) H'
theorem mem_endsfalse {ts:List (Str × Str)}{s t:Str}:t ∈ (ts.filter fun e => decide (e.1=s)).map (fun e => e.2) ↔ (s, t) ∈ (if false then flipE ts else ts) := by
 rw[List.mem_map]
 constructor
 ·rintro⟨⟨x,y⟩,h,rfl⟩
  have h:=List.mem_filter.mp h
  have h2:=of_decide_eq_true h.2
  subst h2
  first
   | exact h.1
   | exact mem_flip.mpr h.1
 ·intro h
  first
   | exact⟨(s,t),List.mem_filter.mpr ⟨h,decide_eq_true rfl⟩,rfl⟩
   | exact⟨(t,s),List.mem_filter.mpr ⟨mem_flip.mp h,decide_eq_true rfl⟩,rfl⟩
theorem ok_nexts {f:Addr}{fd:FuncData}(F:Fun K "nexts" "nexts" sNexts f fd) (B:Blt mg) (cplaces_of:Cal P w K mg base 1 "places_of" ["things"] spPlaces):FnOk P w K mg base CX0 2 f fd ["web", "one"] (spNextsA false) := by
 refine F.ok1 ["web","one","found"] fun nd H Q E hr h=>?_
 obtain⟨q,ss,ts,s,rfl,W,k⟩:=h
 refine⟨_,(pss_cons (ps_set (i:=2) nd rfl (Or.inr rfl) (pc cplaces_of hr (p1 (pe_comp (defScope sNexts) ["web","one","found"] ["tie"] [1] ["tie","one"] rfl (pi_seqK K (px K hr (pv 0) pe_int)) (fun _ _ _ _ _=>(pg_name (i:=0) (show (["tie","one"]:List Str).Nodup by decide) rfl (Or.inl rfl))) (fun _ _ _ _ _=>(pts_one (pt_cmpR (op_eqX hr.units) (px K hr (pv 0) pe_int) (pv 1) (nomark _)))) (fun _ _ _ _ _=>(px K hr (pv 0) pe_int))))))
  (pss_one (ps_ret (pe_comp (defScope sNexts) ["web","one","found"] ["thing"] [2] ["thing","found"] rfl (pi_seqK K (px K hr (pv 0) pe_int)) (fun _ _ _ _ _=>(pg_name (i:=0) (show (["thing","found"]:List Str).Nodup by decide) rfl (Or.inl rfl))) (fun _ _ _ _ _=>(pts_one (pt_cmpR (op_inX K hr.units) (pv 0) (pv 1) (by with_unfolding_all rfl)))) (fun _ _ _ _ _=>(pv 0)))))),?_⟩
 obtain⟨q,a,b,xs,rfl,hq,ha,hb,rp⟩:=W.rep
 have rlen:=rp.len
 rw[List.length_map] at rlen
 refine⟨_,rfl,.tup (.of hq) rfl ⟨_,rfl,?_⟩⟩
 refine comp_seq xs (fun D i acc σ' H'=>∃o,σ'=[o,some (.str s)]/\acc=((ts.take i).filter fun e=>decide (e.1=s)).map (fun e=>V.str e.2)/\Same H H'/\H D=none) hb fun D hD=>⟨?_,?_,?_,?_⟩
 ·exact⟨none,rfl,rfl,Same.new hD,hD⟩
 ·rintro i acc σ' H' _ ⟨o,rfl,_,sm,_⟩ _
  exact sq_at hb sm
 ·rintro i acc σ' H' x hx ⟨o, rfl, hacc0, sm, hD0⟩ hacc
  obtain⟨d,hd,rd⟩:=(rp.same sm).get hx
  rw[List.getElem?_map] at hd
  obtain⟨e,he,rfl⟩:∃e,ts[i]? = some e/\pairD e=d:=by
   cases q:ts[i]? with
   | none=>rw[q] at hd;cases hd
   | some e=>rw[q] at hd;exact⟨e,rfl,Option.some.inj hd⟩
  obtain⟨ta,rfl,hta⟩:=pair_at rd
  have hil:=(List.getElem?_eq_some_iff.mp he).1
  refine⟨_,rfl,.tup (.of hta) rfl ⟨_,rfl,.sc rfl ⟨_,rfl,?_⟩⟩⟩
  refine ite2 (fun h1=>?_) (fun h1=>?_)
  ·have h1:e.1=s:=V.str.inj (of_decide_eq_true h1)
   refine⟨_,rfl,.tup (.of hta) rfl ⟨hacc,?_,_,rfl,?_,?_,hD0⟩⟩
   ·rw[hacc0,List.length_map]
    have h2:=List.length_filter_le (fun e:Str × Str=>decide (e.1=s)) (ts.take i)
    rw[List.length_take] at h2
    have:=W.few
    exact small1000 (by omega)
   ·rw[List.take_add_one,he,hacc0,List.filter_append,List.map_append]
    simp[h1]
   ·intro c o hc
    rw[upd_ne (ne_of_none hc hD0)]
    exact sm _ _ hc
  ·have h1:¬ e.1=s:=fun z=>h1 (decide_eq_true (congrArg V.str z))
   refine⟨hacc,_,rfl,?_,sm,hD0⟩
   rw[List.take_add_one,he,hacc0,List.filter_append,List.map_append]
   simp[h1]
 ·rintro acc σ' H1 ⟨o, rfl, hacc0, s1, hD0⟩ hacc
  rw[rlen,List.take_of_length_le (Nat.le_refl _)] at hacc0
  have ea:acc=List.map V.str ((ts.filter fun e=>decide (e.1=s)).map (fun e=>e.2)):=by rw[hacc0,List.map_map];rfl
  refine⟨D,_,rfl,by rw[<- ea];exact hacc,?_,?_⟩
  ·rw[List.length_map]
   have h2:=List.length_filter_le (fun e:Str × Str=>decide (e.1=s)) ts
   have:=W.few
   omega
  ·intro d kvs H2 s2 hd2 hk hin hat
   have s12:=s1.trans s2
   refine⟨_,rfl,.tup (.of (s12 _ _ hq)) rfl ⟨_,rfl,?_⟩⟩
   refine comp_seq (List.map V.str ss) (fun D i acc σ' H'=>∃o,σ'=[o,some (.ref d)]/\acc=List.map V.str ((ss.take i).filter fun t=>(valV kvs (.inr t)).isSome)/\Same H2 H'/\H2 D=none) (ha.same s12) fun D' hD'=>⟨?_,?_,?_,?_⟩
   ·exact⟨none,rfl,rfl,Same.new hD',hD'⟩
   ·rintro i acc σ' H' _ ⟨o,rfl,_,sm,_⟩ _
    exact sq_at (ha.same s12) sm
   ·rintro i acc σ' H' x hx ⟨o, rfl, hacc0, sm, hD0⟩ hacc
    rw[List.getElem?_map] at hx
    obtain⟨t,ht,rfl⟩:∃t,ss[i]? = some t/\V.str t=x:=by
     cases q:ss[i]? with
     | none=>rw[q] at hx;cases hx
     | some e=>rw[q] at hx;exact⟨e,rfl,Option.some.inj hx⟩
    have hil:=(List.getElem?_eq_some_iff.mp ht).1
    refine⟨_,rfl,_,rfl,.dic (DGet.k (k:=.inr t) (sm _ _ hk)) ⟨_,rfl,?_⟩⟩
    refine ite2 (fun h1=>?_) (fun h1=>?_)
    ·refine⟨_,rfl,hacc,?_,_,rfl,?_,?_,hD0⟩
     ·rw[hacc0,List.length_map]
      have h2:=List.length_filter_le (fun t:Str=>(valV kvs (.inr t)).isSome) (ss.take i)
      rw[List.length_take] at h2
      have:=W.len
      exact small1000 (by omega)
     ·have h1:(valV kvs (.inr t)).isSome=true:=h1
      rw[List.take_add_one,ht,hacc0,List.filter_append,List.map_append]
      simp[h1]
     ·intro c o hc
      rw[upd_ne (ne_of_none hc hD0)]
      exact sm _ _ hc
    ·have h1:¬ (valV kvs (.inr t)).isSome=true:=h1
     refine⟨hacc,_,rfl,?_,sm,hD0⟩
     rw[List.take_add_one,ht,hacc0,List.filter_append,List.map_append]
     simp[h1]
   ·rintro acc σ' H' ⟨o, rfl, hacc0, sm, hD0⟩ hacc
    rw[List.length_map,List.take_of_length_le (Nat.le_refl _)] at hacc0
    refine k _ _ (s12.trans sm) ?_ ?_
    ·cases e:H D' with
     | none=>rfl
     | some o=>rw[s12 _ _ e] at hD0;cases hD0
    ·rw[hacc,hacc0]
     have:(ss.filter fun t=>(valV kvs (.inr t)).isSome)=nxtL ss (if false then flipE ts else ts) s:=by
      unfold nxtL
      refine List.filter_congr fun t _=>?_
      rw[Bool.eq_iff_iff,hin t,mem_endsfalse,decide_eq_true_iff]
     rw[this]
theorem ok_nexts_of_all {f:Addr}{fd:FuncData}(F:Fun K "nexts_of_all" "nexts_of_all" sNextsAll f fd) (B:Blt mg) (cnexts:Cal P w K mg base 2 "nexts" ["web", "one"] (spNextsA false)):FnOk P w K mg base CX0 3 f fd ["web"] (spNextsAllA false) := by
 refine F.ok1 ["web","table","thing"] fun nd H Q E hr h=>?_
 obtain⟨q,ss,ts,rfl,W,k⟩:=h
 refine⟨_,(pss_cons (pst 1 nd pe_dnewK)
  (pss_cons (ps_for PassesOwn.never rfl (pi_seqK K (px K hr (pv 0) pe_int)) (pg_name (i:=2) nd rfl (Or.inl rfl)) (pss_one (ps_asg (pc cnexts hr (p2 (pv 0) (pv 2))) (pg_sub (pv 1) (pv 2) (set_X hr.units)))))
  (pss_one (ps_ret (pv 1))))),?_⟩
 intro d hd
 have W1:=W.same (Same.new (o:=.dK []) hd)
 obtain⟨q,a,b,xs,rfl,hq,ha,hb,rp⟩:=W.rep
 have s0:=Same.new (o:=.dK []) hd
 refine⟨_,rfl,.tup (.of (s0 _ _ hq)) rfl ⟨_,rfl,?_⟩⟩
 refine for_seq (xs:=List.map V.str ss) (fun i σ H'=>∃o1 kvs,σ=[some (.ref q),some (.ref d),o1]/\Same H H'/\H' d=some (.dK kvs)/\kvs.length<=i/\∀s∈ss.take i,∃l,valV kvs (.inr s)=some (.ref l)/\H' l=some (.lst (List.map V.str (nxtL ss (if false then flipE ts else ts) s)))) (ha.same s0) ?_ ?_ ?_ ?_
 ·exact⟨none,[],rfl,s0,upd_same,Nat.le_refl _,fun s hs=>by simp at hs⟩
 ·rintro i σ H' hi ⟨o1,kvs,rfl,sm,_⟩
  exact(sq_at ha sm).trans (sq_at ha s0).symm
 ·rintro i x σ H' hx ⟨o1, kvs, rfl, sm, hk, hkl, hall⟩
  rw[List.getElem?_map] at hx
  obtain⟨t,ht,rfl⟩:∃t,ss[i]? = some t/\V.str t=x:=by
   cases q:ss[i]? with
   | none=>rw[q] at hx;cases hx
   | some e=>rw[q] at hx;exact⟨e,rfl,Option.some.inj hx⟩
  have hil:=(List.getElem?_eq_some_iff.mp ht).1
  refine⟨_,rfl,_,rfl,.ref q,ss,ts,t,rfl,W.same sm,fun l H2 s2 hl hl2=>?_⟩
  have hk2:=s2 _ _ hk
  have:=W.len
  refine⟨_,rfl,_,rfl,.dic (DPut.k (k:=.inr t) hk2 (small1000 (by omega))) ⟨_,_,rfl,?_,upd_same,?_,?_⟩⟩
  ·intro c o hc
   rw[upd_ne (ne_of_none hc hd)]
   exact s2 _ _ (sm _ _ hc)
  ·have:=length_putK kvs (.inr t) (V.ref l)
   omega
  ·intro s hs
   rw[List.take_add_one,ht,List.mem_append] at hs
   by_cases q:s=t
   ·subst q
    refine⟨l,by rw[valV_put,if_pos rfl],?_⟩
    rw[upd_ne (ne_of hl2 hk2 (by intro z;cases z))]
    exact hl2
   ·rcases hs with hs | hs
    ·obtain⟨l',e1,e2⟩:=hall s hs
     refine⟨l',by rw[valV_put,if_neg (fun z=>q (Sum.inr.inj z))];exact e1,?_⟩
     rw[upd_ne (ne_of (s2 _ _ e2) hk2 (by intro z;cases z))]
     exact s2 _ _ e2
    ·exact absurd (by simpa using hs) q
 ·rintro σ H' ⟨o1,kvs,rfl,sm,hk,_,hall⟩
  rw[List.length_map,List.take_of_length_le (Nat.le_refl _)] at hall
  exact⟨_,rfl,k d H' sm hd ⟨kvs,hk,hall⟩⟩
end
end K39
namespace K39
open PySem L2
section
variable {P:Program}{w:World}{K:W.Frag}{mg:Str->Option Value}{base:Heap}
structure Stp (H H':Hp) (ss:List Str) (e:Addr) (look:Str->Option Nat) (kvs:List (Key × V)):Prop where
 sm:Same H H'
 at_:H' e=some (.dK kvs)
 lk:∀t,valV kvs (.inr t)=(look t).map fun k:Nat=>V.int (k:Int)
 nd:(kvs.map (·.1)).Nodup
 ks:∀k∈kvs.map (·.1),∃t∈ss,k=Sum.inr t
theorem Stp.len {H H':Hp}{ss:List Str}{e:Addr}{look:Str->Option Nat}{kvs:List (Key × V)}(h:Stp H H' ss e look kvs):kvs.length<=ss.length:=by
 have:=h.nd.length_le_of_subset (l₂:=ss.map (Sum.inr:Str->Key)) fun k hk=>by
  obtain⟨t,ht,rfl⟩:=h.ks k hk
  exact List.mem_map.mpr ⟨t,ht,rfl⟩
 simpa using this
theorem Stp.oth {H H':Hp}{ss:List Str}{e b:Addr}{look:Str->Option Nat}{kvs:List (Key × V)}{o:HO}(h:Stp H H' ss e look kvs) (hb:H b=none) (n:e≠b):Stp H (upd H' b o) ss e look kvs :=
 ⟨fun c o' hc=>by rw[upd_ne (ne_of_none hc hb)];exact h.sm _ _ hc,by rw[upd_ne n];exact h.at_,h.lk,h.nd,h.ks⟩
theorem Stp.put {H H':Hp}{ss:List Str}{e:Addr}{look:Str -> Option Nat}{kvs:List (Key × V)}(h:Stp H H' ss e look kvs) (he:H e=none) {t:Str}(ht:t ∈ ss) (hn:look t=none) (k:Nat) :
    Stp H (upd H' e (.dK (putK kvs (.inr t) (.int (k:Int))))) ss e (fun a=>if a=t then some k else look a) (putK kvs (.inr t) (.int (k:Int))):=by
 have hv:valV kvs (.inr t)=none:=by rw[h.lk,hn];rfl
 refine⟨fun c o' hc=>by rw[upd_ne (ne_of_none hc he)];exact h.sm _ _ hc,upd_same,fun u=>?_,nd_putK _ h.nd hv,fun q hq=>?_⟩
 ·rw[valV_put]
  by_cases q:u=t
  ·subst q;rw[if_pos rfl];simp
  ·rw[if_neg (fun z=>q (Sum.inr.inj z)),h.lk u];simp[q]
 ·rw[putK_new _ hv,List.map_append] at hq
  rcases List.mem_append.mp hq with hq | hq
  ·exact h.ks q hq
  ·have:q=Sum.inr t:=by simpa using hq
   exact⟨t,ht,this⟩
def spStepsL:Sp:=fun vs H Q _=>∃d st s ss f,vs=[.ref d,.ref st]/\H st=some (.lst [V.str s])/\Tab H d ss f/\s∈ss/\ss.length<=60/\(∀t∈ss,∀u∈f t,u∈ss) /\
 ∀e kvs H',Same H H'->H e=none->H' e=some (.dK kvs)->(∀t v,valV kvs (.inr t)=some v ↔ ∃k:Nat,v=.int k/\MG.Dst (Ner ss f) s k t)->Q (.ref e) H'
theorem ok_steps {f:Addr}{fd:FuncData}(F:Fun K "steps_from" "steps_from" sSteps f fd) (B:Blt mg):FnOk P w K mg base CX0 1 f fd ["table", "starts"] spStepsL := by
 refine F.ok1 ["table","starts","steps","start","edge","further","thing","near"] fun nd H Q E hr h=>?_
 obtain⟨d,st,s,ss,fn,rfl,hst,T,hs,hlen,hcl,k⟩:=h
 refine⟨_,(pss_cons (pst 2 nd pe_dnewK)
  (pss_cons (ps_for PassesOwn.never rfl (pi_listK K (pv 1)) (pg_name (i:=3) nd rfl (Or.inl rfl)) (pss_one (ps_asg pe_int (pg_sub (pv 2) (pv 3) (set_X hr.units)))))
  (pss_cons (pst 4 nd (b_list K rfl B (p1 (pv 1))))
  (pss_cons (ps_while PassesOwn.never (pt_cmpR op_gt (b_len K B (p1 (pv 4))) pe_int (nomark _)) (pss_cons (pst 5 nd (pe_lst pa_nil))
  (pss_cons (ps_for PassesOwn.never rfl (pi_listK K (pv 4)) (pg_name (i:=6) nd rfl (Or.inl rfl)) (pss_one (ps_for PassesOwn.never rfl (pi_listK K (px K hr (pv 0) (pv 6))) (pg_name (i:=7) nd rfl (Or.inl rfl)) (pss_one (ps_if (pt_cmpR (op_notInX K hr.units) (pv 7) (pv 2) (by with_unfolding_all rfl)) (pss_cons (ps_asg (pe_op op_addX (px K hr (pv 2) (pv 6)) pe_int) (pg_sub (pv 2) (pv 7) (set_X hr.units)))
  (pss_one (ps_expr (m_append K (pv 5) (p1 (pv 7)))))) pss_nil)))))
  (pss_one (pst 4 nd (pv 5))))))
  (pss_one (ps_ret (pv 2))))))),?_⟩
 have hin:∀y,MG.Rch (Ner ss fn) s y->y∈ss:=fun y r=>MG.Rch.closed (S:=fun y=>y∈ss) hs (fun a b ha r=>hcl a ha b r.2) r
 intro e he
 have hste:st≠e:=ne_of_none hst he
 refine⟨_,rfl,st,rfl,⟨_,.of (by rw[upd_ne hste];exact hst)⟩,?_⟩
 refine for_list (xs:=[V.str s]) (fun i σ H'=>∃o3 o4 o5 o6 o7,σ=[some (.ref d),some (.ref st),some (.ref e),o3,o4,o5,o6,o7]/\H' st=some (.lst [V.str s])/\(i=0->H'=upd H e (.dK []))/\(i≠0->∃kvs,Stp H H' ss e (fun a=>if a=s then some 0 else none) kvs)) ?_ ?_ ?_ ?_
 ·exact⟨none,none,none,none,none,rfl,by rw[upd_ne hste];exact hst,fun _=>rfl,fun z=>absurd rfl z⟩
 ·rintro i σ H' hi ⟨o3,o4,o5,o6,o7,rfl,h1,_⟩
  exact .of h1
 ·rintro i x σ H' hx ⟨o3,o4,o5,o6,o7,rfl,h1,h2,_⟩
  have hi:i<1:=(List.getElem?_eq_some_iff.mp hx).1
  have hi:i=0:=by omega
  subst hi
  have hx:V.str s=x:=Option.some.inj hx
  subst hx
  have h2:=h2 rfl
  subst h2
  have h0:Stp H (upd (upd H e (.dK [])) e (.dK (putK [] (.inr s) (.int ((0:Nat):Int))))) ss e (fun a=>if a=s then some 0 else none) (putK [] (.inr s) (.int ((0:Nat):Int))) :=
   Stp.put (kvs:=[]) (look:=fun _=>none) ⟨Same.new he,upd_same,fun t=>rfl,List.nodup_nil,fun k hk=>by cases hk⟩ he hs rfl 0
  refine⟨_,rfl,_,rfl,.dic (DPut.k (k:=.inr s) upd_same (by show 0<sizeLine;decide)) ⟨_,_,_,_,_,rfl,by rw[upd_ne hste];exact h1,fun z=>absurd z (by omega),fun _=>⟨_,h0⟩⟩⟩
 rintro σ H1 ⟨o3,o4,o5,o6,o7,rfl,hst1,_,hS⟩
 obtain⟨kv0,h0⟩:=hS (by show 1≠0;omega)
 refine⟨_,rfl,_,rfl,.seq (.inl (.of hst1)) fun l0 hl0=>?_⟩
 have hl00:H l0=none:=by
  cases q:H l0 with
  | none=>rfl
  | some o=>rw[h0.sm _ _ q] at hl0;cases hl0
 have h1:=h0.oth (o:=.lst [V.str s]) hl00 (ne_of_none h0.at_ hl0)
 refine⟨fun m σ H'=>∃L le edge kvs look o3 o4 o5 o6,m+L=ss.length/\σ=[some (.ref d),some (.ref st),some (.ref e),o3,some (.ref le),o4,o5,o6]/\Stp H H' ss e look kvs/\H le=none/\H' le=some (.lst (List.map V.str edge))/\edge.length<=60/\MG.Lev (Ner ss fn) s L look edge,
  ⟨ss.length,0,l0,[s],_,_,o3,o5,o6,o7,by omega,rfl,h1,hl00,upd_same,by show 1<=60;decide,MG.Lev.start fun y=>rfl⟩,?_⟩
 rintro m σ H2 ⟨L,le,edge,kvs,look,o3,o4,o5,o6,hm,rfl,S,hle0,hle,hel,lev⟩
 refine⟨_,rfl,_,_,rfl,Or.inl ⟨_,.of hle,rfl⟩,_,_,rfl,rfl,_,rfl,?_⟩
 refine ite2 (fun hc=>?_) (fun hc=>?_)
 ·have hc:(0:Int)<((List.map V.str edge).length:Nat) := of_decide_eq_true hc
  rw[List.length_map] at hc
  have hL:L<ss.length:=by
   cases edge with
   | nil=>simp at hc
   | cons y r=>exact MG.Dst.lt hin ((lev.edg y).mp (by simp))
  refine⟨fun σ' H'=>∃le edge kvs look o3 o4 o5 o6,σ'=[some (.ref d),some (.ref st),some (.ref e),o3,some (.ref le),o4,o5,o6]/\Stp H H' ss e look kvs/\H le=none/\H' le=some (.lst (List.map V.str edge))/\edge.length<=60/\MG.Lev (Ner ss fn) s (L+1) look edge,
   fun σ' H' ⟨le,edge,kvs,look,o3,o4,o5,o6,p⟩=>⟨m-1,by omega,L+1,le,edge,kvs,look,o3,o4,o5,o6,by omega,p⟩,?_⟩
  refine⟨(szl 0),fun lf hlf=>?_⟩
  have hlf0:H lf=none:=by
   cases q:H lf with
   | none=>rfl
   | some o=>rw[S.sm _ _ q] at hlf;cases hlf
  have nlf:le≠lf:=ne_of_none hle hlf
  have S1:=S.oth (o:=.lst []) hlf0 (ne_of_none S.at_ hlf)
  refine⟨_,rfl,le,rfl,⟨_,.of (by rw[upd_ne nlf];exact hle)⟩,?_⟩
  refine for_list (xs:=List.map V.str edge) (fun i σ H'=>∃kvs look fur o5 o6,σ=[some (.ref d),some (.ref st),some (.ref e),o3,some (.ref le),some (.ref lf),o5,o6]/\Stp H H' ss e look kvs/\H' le=some (.lst (List.map V.str edge))/\H' lf=some (.lst (List.map V.str fur))/\fur.Nodup/\(∀t∈fur,t∈ss)/\MG.Mid (Ner ss fn) s L look fur (fun z y=>z∈edge.take i/\Ner ss fn z y)) ?_ ?_ ?_ ?_
  ·exact⟨kvs,look,[],o5,o6,rfl,S1,by rw[upd_ne nlf];exact hle,upd_same,List.nodup_nil,(fun t ht=>by cases ht),lev.mid.wk fun a b h=>by simp at h⟩
  ·rintro i σ H' hi ⟨kvs,look,fur,o5,o6,rfl,S,hle,_⟩
   exact .of hle
  ·rintro i x σ H' hx ⟨kvs, look, fur, o5, o6, rfl, S, hle, hlf, hfn, hfs, mid⟩
   rw[List.getElem?_map] at hx
   obtain⟨z,hz,rfl⟩:∃z,edge[i]? = some z/\V.str z=x:=by
    cases q:edge[i]? with
    | none=>rw[q] at hx;cases hx
    | some e=>rw[q] at hx;exact⟨e,rfl,Option.some.inj hx⟩
   have dz:=(lev.edg z).mp (List.mem_of_getElem? hz)
   have hzs:=hin z dz.rch
   obtain⟨tkv,hd,ht⟩:=T
   obtain⟨l,el,hl⟩:=ht z hzs
   have hl':=S.sm _ _ hl
   refine⟨_,rfl,_,rfl,.dic (.inl ⟨tkv,.inr z,.inl (S.sm _ _ hd),rfl,el.symm⟩) ⟨l,rfl,⟨_,.of hl'⟩,?_⟩⟩
   refine for_list (xs:=List.map V.str (fn z)) (fun j σ H'=>∃kvs look fur o6,σ=[some (.ref d),some (.ref st),some (.ref e),o3,some (.ref le),some (.ref lf),some (.str z),o6]/\Stp H H' ss e look kvs/\H' le=some (.lst (List.map V.str edge))/\H' lf=some (.lst (List.map V.str fur))/\fur.Nodup/\(∀t∈fur,t∈ss)/\MG.Mid (Ner ss fn) s L look fur (fun a y=>(a∈edge.take i/\Ner ss fn a y)∨(a=z/\y∈(fn z).take j))) ?_ ?_ ?_ ?_
   ·exact⟨kvs,look,fur,o6,rfl,S,hle,hlf,hfn,hfs,mid.wk fun a b h=>by simpa using h⟩
   ·rintro j σ H' hj ⟨kvs,look,fur,o6,rfl,S,_⟩
    exact .of (S.sm _ _ hl)
   ·rintro j x σ H' hx ⟨kvs, look, fur, o6, rfl, S, hle, hlf, hfn, hfs, mid⟩
    rw[List.getElem?_map] at hx
    obtain⟨y,hy,rfl⟩:∃y,(fn z)[j]? = some y/\V.str y=x:=by
     cases q:(fn z)[j]? with
     | none=>rw[q] at hx;cases hx
     | some e=>rw[q] at hx;exact⟨e,rfl,Option.some.inj hx⟩
    have hyf:=List.mem_of_getElem? hy
    have hys:=hcl z hzs y hyf
    have hdone:∀a b,((a∈edge.take i/\Ner ss fn a b)∨(a=z/\b∈(fn z).take (j+1)))->((a∈edge.take i/\Ner ss fn a b)∨(a=z/\b∈(fn z).take j))∨(a=z/\b=y):=by
     intro a b h
     rcases h with h | ⟨h1,h2⟩
     ·exact .inl (.inl h)
     ·rw[List.take_add_one,hy,List.mem_append] at h2
      rcases h2 with h2 | h2
      ·exact .inl (.inr ⟨h1,h2⟩)
      ·exact .inr ⟨h1,by simpa using h2⟩
    refine⟨_,rfl,_,rfl,.dic (DGet.k (k:=.inr y) S.at_) ⟨_,rfl,?_⟩⟩
    rw[S.lk y]
    refine ite2 (fun hc=>?_) (fun hc=>?_)
    ·have hc:¬ (look y).isSome=true := by simpa using hc
     have hn:look y=none:=by simpa using hc
     have hzl:valV kvs (.inr z)=some (V.int (L:Int)):=by rw[S.lk,mid.cmp z L (Nat.le_refl _) dz];rfl
     refine⟨_,rfl,_,rfl,.dic (.inl ⟨kvs,.inr z,.inl S.at_,rfl,hzl.symm⟩) (.int ?_)⟩
     have hkl:=S.len
     refine⟨_,rfl,_,rfl,.dic (DPut.k (k:=.inr y) S.at_ (small1000 (by omega))) ?_⟩
     have S':=S.put he hys hn (L+1)
     have nle:le≠e:=ne_of hle S.at_ (by intro z;cases z)
     have nlf':lf≠e:=ne_of hlf S.at_ (by intro z;cases z)
     refine⟨_,rfl,.inl ⟨rfl,_,.of (by rw[upd_ne nlf'];exact hlf)⟩,?_⟩
     have hfl:fur.length<=ss.length:=hfn.length_le_of_subset hfs
     refine⟨_,rfl,lf,_,_,rfl,rfl,by rw[upd_ne nlf'];exact hlf,by rw[List.length_map];exact small1000 (by omega),?_⟩
     refine⟨_,_,fur++[y],_,rfl,S'.oth hlf0 (Ne.symm nlf'),?_,?_,?_,?_,(mid.add (z:=z) (y:=y) dz ⟨hzs,hyf⟩ hn fun a=>rfl).wk hdone⟩
     ·rw[upd_ne nlf,upd_ne nle];exact hle
     ·rw[upd_same,List.map_append];rfl
     ·rw[List.nodup_append]
      refine⟨hfn,by simp,fun a ha b hb=>?_⟩
      have:b=y:=by simpa using hb
      subst this
      rintro rfl
      rw[(mid.fur a ha).2] at hn
      cases hn
     ·intro t ht
      rcases List.mem_append.mp ht with ht | ht
      ·exact hfs t ht
      ·have:t=y:=by simpa using ht
       rw[this];exact hys
    ·have hc:(look y).isSome=true:=by
        cases q:look y with
        | none=>rw[q] at hc;exact absurd rfl hc
        | some v=>rfl
     exact⟨kvs,look,fur,_,rfl,S,hle,hlf,hfn,hfs,(mid.skip (z:=z) hc).wk hdone⟩
   ·rintro σ H' ⟨kvs,look,fur,o6,rfl,S,hle,hlf,hfn,hfs,mid⟩
    rw[List.length_map,List.take_of_length_le (Nat.le_refl _)] at mid
    refine⟨kvs,look,fur,_,_,rfl,S,hle,hlf,hfn,hfs,mid.wk fun a b h=>?_⟩
    obtain⟨h1,h2⟩:=h
    rw[List.take_add_one,hz,List.mem_append] at h1
    rcases h1 with h1 | h1
    ·exact .inl ⟨h1,h2⟩
    ·have:a=z:=by simpa using h1
     subst this
     exact .inr ⟨rfl,h2.2⟩
  ·rintro σ H' ⟨kvs,look,fur,o5,o6,rfl,S,hle,hlf,hfn,hfs,mid⟩
   rw[List.length_map,List.take_of_length_le (Nat.le_refl _)] at mid
   have hfl:fur.length<=ss.length:=hfn.length_le_of_subset hfs
   exact⟨_,rfl,lf,fur,kvs,look,_,_,_,_,rfl,S,hlf0,hlf,by omega,mid.next lev.edg fun z y hz r=>⟨hz,r⟩⟩
 ·have he0:edge=[] := by
     cases edge with
     | nil=>rfl
     | cons y r=>exact absurd (decide_eq_true (by simp)) hc
  subst he0
  have fin:=lev.done
  refine⟨_,rfl,k e kvs H2 S.sm he S.at_ fun t v=>?_⟩
  rw[S.lk t]
  constructor
  ·intro q
   cases q2:look t with
   | none=>rw[q2] at q;cases q
   | some n =>
    rw[q2] at q
    exact⟨n,(Option.some.inj q).symm,(fin t n).mp q2⟩
  ·rintro⟨n,rfl,dn⟩
   rw[(fin t n).mpr dn];rfl
end
end K39
namespace K39
open PySem L2
section
variable {P:Program}{w:World}{K:W.Frag}{mg:Str->Option Value}{base:Heap}
theorem next_go {D:Ends}{σ:St}{H:Hp}(h:D.nx σ H):tNext D σ H:=h
theorem name_go {i:Nat}{v:V}{σ:St}{H:Hp}{Q:St->Hp->Prop}(h:Q (σ.set i (some v)) H):gName i v σ H Q:=h
theorem all_tup {te:TE}{l:Addr}{xs:List V}{fr:List Nat}{σ rest:St}{H:Hp}{Q:VK}(hl:H l=some (.tup xs)) (hs:inSt 1 fr σ=none::rest) (xl:xs.length<=1000) (hte:∀x∈xs,∀H' Q,Same H H'->(∀H2,Same H' H2->Q (.bl true) H2)->te (some x::rest) H' Q) (k:∀H',Same H H'->Q (.bl true) H') :
    tCompW 1 fr (gName 0) tYes te (Itt K l) σ H fun x H1=>tNil σ H1 fun ys H2=>rAll (x::ys) H2 Q:=by
 refine comp_tup xs (fun D i acc σ' H'=>∃o,σ'=o::rest/\acc=List.replicate i (V.bl true)/\Same H H'/\H D=none) fun D hD=>⟨?_,?_,?_,?_⟩
 ·exact⟨none,hs,rfl,Same.new hD,hD⟩
 ·rintro i acc σ' H' _ ⟨o,rfl,_,sm,_⟩ _
  exact .of (sm _ _ hl)
 ·rintro i acc σ' H' x hx ⟨o,rfl,rfl,sm,hD0⟩ hacc
  have hil:=(List.getElem?_eq_some_iff.mp hx).1
  refine gYes ?_
  refine hte x (List.mem_of_getElem? hx) H' _ sm fun H2 s2=>?_
  exact⟨s2 _ _ hacc,by rw[List.length_replicate];exact small1000 (by omega),_,rfl,by rw[List.replicate_succ'],same_at (sm.trans s2) hD0,hD0⟩
 ·rintro acc σ' H2 ⟨o,rfl,rfl,s2,hD0⟩ hacc
  refine⟨D,List.replicate xs.length true,rfl,by rw[List.map_replicate];exact hacc,?_⟩
  have e:(List.replicate xs.length true).all id=true:=by rw[List.all_eq_true];exact fun b hb=>(List.mem_replicate.mp hb).2
  rw[e]
  exact k H2 s2
theorem all_lst {te:TE}{l:Addr}{xs:List V}{fr:List Nat}{σ rest:St}{H:Hp}{Q:VK}(hl:H l=some (.lst xs)) (hs:inSt 1 fr σ=none::rest) (xl:xs.length<=1000) (hte:∀x∈xs,∀H' Q,Same H H'->(∀H2,Same H' H2->Q (.bl true) H2)->te (some x::rest) H' Q) (k:∀H',Same H H'->Q (.bl true) H') :
    tCompW 1 fr (gName 0) tYes te (Itl K l) σ H fun x H1=>tNil σ H1 fun ys H2=>rAll (x::ys) H2 Q:=by
 refine comp_list xs (fun D i acc σ' H'=>∃o,σ'=o::rest/\acc=List.replicate i (V.bl true)/\Same H H'/\H D=none) fun D hD=>⟨?_,?_,?_,?_⟩
 ·exact⟨none,hs,rfl,Same.new hD,hD⟩
 ·rintro i acc σ' H' _ ⟨o,rfl,_,sm,_⟩ _
  exact .of (sm _ _ hl)
 ·rintro i acc σ' H' x hx ⟨o,rfl,rfl,sm,hD0⟩ hacc
  have hil:=(List.getElem?_eq_some_iff.mp hx).1
  refine gYes ?_
  refine hte x (List.mem_of_getElem? hx) H' _ sm fun H2 s2=>?_
  exact⟨s2 _ _ hacc,by rw[List.length_replicate];exact small1000 (by omega),_,rfl,by rw[List.replicate_succ'],same_at (sm.trans s2) hD0,hD0⟩
 ·rintro acc σ' H2 ⟨o,rfl,rfl,s2,hD0⟩ hacc
  refine⟨D,List.replicate xs.length true,rfl,by rw[List.map_replicate];exact hacc,?_⟩
  have e:(List.replicate xs.length true).all id=true:=by rw[List.all_eq_true];exact fun b hb=>(List.mem_replicate.mp hb).2
  rw[e]
  exact k H2 s2
def spKnot:Sp:=fun vs H Q _=>∃(ta la n:_) (c:List Str),vs=[.ref ta]/\H ta=some (.tup [.str n,.ref la])/\H la=some (.tup (List.map V.str c))/\(∀u∈c,Nm u)/\c.length<=60/\∀H',Same H H'->Q (.bl true) H'
theorem ok_isknot {f:Addr}{fd:FuncData}(F:Fun K "is_knot" "is_knot" sIsKnot f fd) (B:Blt mg) (cis_name:Cal P w K mg base 1 "is_name" ["thing"] spIsName):FnOk P w K mg base CX0 2 f fd ["knot"] spKnot:=by
 refine F.ok1 ["knot"] fun nd H Q E hr h=>?_
 obtain⟨ta,la,n,c,rfl,hta,hla,nm,cl,k⟩:=h
 refine⟨_,(pss_cons (ps_if (PW.pt (pw_or (pt_not (pt_val (b_isi K "tuple" B (p2 (pv 0) (g_tuple B))))) (pw_or1 (pt_cmpR (op_neX hr.units) (b_len K B (p1 (pv 0))) pe_int (nomark _))))) (pss_one (ps_ret pe_bl)) pss_nil)
  (pss_cons (ps_if (PW.pt (pw_or (pt_not (pt_val (b_isi K "str" B (p2 (px K hr (pv 0) pe_int) (g_str B))))) (pw_or1 (pt_not (pt_val (b_isi K "tuple" B (p2 (px K hr (pv 0) pe_int) (g_tuple B)))))))) (pss_one (ps_ret pe_bl)) pss_nil)
  (pss_one (ps_ret (b_all rfl B (p1 (pe_comp (defScope sIsKnot) ["knot"] ["child"] [] ["child"] rfl (pi_tupK K (px K hr (pv 0) pe_int)) (fun _ _ _ _ _=>(pg_name (i:=0) (show (["child"]:List Str).Nodup by decide) rfl (Or.inl rfl))) (fun _ _ _ _ _=>pts_nil) (fun _ _ _ _ _=>(pc cis_name hr (p1 (pv 0))))))))))),?_⟩
 refine⟨_,rfl,_,_,true,rfl,.tup hta,rfl,_,rfl,iteF ?_⟩
 refine⟨_,rfl,_,_,rfl,Or.inr ⟨_,.of hta,rfl⟩,.sc rfl ⟨_,rfl,ite2 (fun h=>absurd h (by show ¬ (!decide (V.int 2=V.int 2))=true;decide)) fun _=>next_go ?_⟩⟩
 refine⟨_,rfl,.tup (.of hta) rfl ⟨_,_,true,rfl,.str _,rfl,_,rfl,iteF ?_⟩⟩
 refine⟨_,rfl,.tup (.of hta) rfl ⟨_,_,true,rfl,.tup hla,rfl,_,rfl,iteF (next_go ?_)⟩⟩
 refine⟨_,rfl,.tup (.of hta) rfl ⟨la,rfl,⟨_,.of hla⟩,?_⟩⟩
 refine all_tup hla rfl (by rw[List.length_map];omega) (fun x hx H' Q sm q=>?_) k
 obtain⟨u,hu,rfl⟩:=List.mem_map.mp hx
 refine⟨_,rfl,_,rfl,.str (nmS (nm u hu)),fun H2 s2=>?_⟩
 rw[isNm_iff.mpr (nm u hu)]
 exact q H2 s2
def spUnits:Sp:=fun vs H Q _=>∃a us ks,vs=[.ref a]/\Rep H (.ref a) (knotsD ks)/\Tre us ks/\∀l H',Same H H'->H l=none->H' l=some (.lst (List.map V.str (kids ks)))->Q (.ref l) H'
theorem ok_units {f:Addr}{fd:FuncData}(F:Fun K "units_in" "units_in" sUnitsIn f fd) (B:Blt mg):FnOk P w K mg base CX0 1 f fd ["knots"] spUnits := by
 refine F.ok1 ["knots","units","knot"] fun nd H Q E hr h=>?_
 obtain⟨a,us,ks,rfl,R,T,k⟩:=h
 refine⟨_,(pss_cons (pst 1 nd (pe_lst pa_nil))
  (pss_cons (ps_for PassesOwn.never rfl (pi_tupK K (pv 0)) (pg_name (i:=2) nd rfl (Or.inl rfl)) (pss_one (ps_expr (m_extendT K (pv 1) (p1 (px K hr (pv 2) pe_int))))))
  (pss_one (ps_ret (pv 1))))),?_⟩
 obtain⟨a',refs,e0,ha,rp⟩:=knots_at R
 cases e0
 have rl:=rp.len
 rw[List.length_map] at rl
 have kl:(kids ks).length<=60:=by rw[T.perm.length_eq];exact T.len
 refine⟨szl 0,fun l hl=>?_⟩
 refine nw hl fun H1 s1 e1=>?_
 refine name_go ?_
 dsimp only
 refine⟨_,rfl,a,rfl,⟨_,.of (s1 _ _ ha)⟩,?_⟩
 refine for_tup (xs:=refs) (fun i σ H'=>∃o,σ=[some (.ref a),some (.ref l),o]/\Same H H'/\H' l=some (.lst (List.map V.str (kids (ks.take i))))) ?_ ?_ ?_ ?_
 ·exact⟨none,rfl,s1,e1⟩
 ·rintro i σ H' hi ⟨o,rfl,sm,_⟩
  exact .of (sm _ _ ha)
 ·rintro i x σ H' hx ⟨o,rfl,sm,hl'⟩
  obtain⟨kn,ta,la,hk,rfl,hta,hla⟩:=knot_get rp hx
  have tk:kids (ks.take (i+1))=kids (ks.take i)++kn.2:=kids_take hk
  have ll:(kids (ks.take i)).length+kn.2.length<=60:=by
   have e:kids ks=kids (ks.take (i+1))++kids (ks.drop (i+1)):=by rw[<- kids_app,List.take_append_drop]
   have:=congrArg List.length e
   rw[tk,List.length_append,List.length_append] at this
   omega
  refine name_go ?_
  refine⟨_,rfl,.inl ⟨rfl,_,.of hl'⟩,_,rfl,.tup (.of (sm _ _ hta)) rfl (nil_ ⟨l,la,_,_,rfl,rfl,hl',.of (sm _ _ hla),by rw[List.length_map,List.length_map];exact Nat.le_of_lt (small1000 (by omega)),?_⟩)⟩
  refine⟨_,rfl,fun b o hb=>?_,?_⟩
  ·rw[upd_ne (ne_of_none hb hl)];exact sm _ _ hb
  ·rw[tk,List.map_append];exact upd_same
 ·rintro σ H' ⟨o,rfl,sm,hl'⟩
  rw[rl,List.take_of_length_le (Nat.le_refl _)] at hl'
  exact⟨_,rfl,k l H' sm hl hl'⟩
def spAreK:Sp:=fun vs H Q _=>∃(a us:_) (ks:Kn),vs=[.ref a]/\Rep H (.ref a) (knotsD ks)/\Tre us ks/\(ks.map (·.1)).head? = some ("":Str)/\∀H',Same H H'->Q (.bl true) H'
theorem ok_areK {f:Addr}{fd:FuncData}{tk:Tok}(F:Fun K "are_knots" "are_knots" sAreKnots f fd) (B:Blt mg) (TU:mg "MOST_UNITS"=some (.int 60 tk)) (cis_name:Cal P w K mg base 1 "is_name" ["thing"] spIsName) (cis_knot:Cal P w K mg base 2 "is_knot" ["knot"] spKnot) (cunits_in:Cal P w K mg base 1 "units_in" ["knots"] spUnits) (care_unlike:Cal P w K mg base 2 "are_unlike" ["things"] spUnlike):FnOk P w K mg base CX0 3 f fd ["knots"] spAreK := by
 refine F.ok1 ["knots","groups","units"] fun nd H Q E hr h=>?_
 obtain⟨a,us,ks,rfl,R,T,hdn,k⟩:=h
 refine⟨_,(pss_cons (ps_if (PW.pt (pw_or (pt_cmpR (op_eqX hr.units) (b_len K B (p1 (pv 0))) pe_int (nomark _)) (pw_or1 (pt_not (pt_val (b_all rfl B (p1 (pe_comp (defScope sAreKnots) ["knots","groups","units"] ["knot"] [] ["knot"] rfl (pi_tupK K (pv 0)) (fun _ _ _ _ _=>(pg_name (i:=0) (show (["knot"]:List Str).Nodup by decide) rfl (Or.inl rfl))) (fun _ _ _ _ _=>pts_nil) (fun _ _ _ _ _=>(pc cis_knot hr (p1 (pv 0)))))))))))) (pss_one (ps_ret pe_bl)) pss_nil)
  (pss_cons (ps_setC (i:=1) nd rfl rfl (by rfl) (defScope sAreKnots) ["knots","groups","units"] ["knot"] [] ["knot"] rfl (pi_tupK K (pe_slice sl_tupA (pv 0) (po_some pe_int) po_none)) (fun _ _ _ _ _=>(pg_name (i:=0) (show (["knot"]:List Str).Nodup by decide) rfl (Or.inl rfl))) (fun _ _ _ _ _=>pts_nil) (fun _ _ _ _ _=>(px K hr (pv 0) pe_int)))
  (pss_cons (ps_if (PW.pt (pw_or (pt_cmpR (op_neX hr.units) (px K hr (px K hr (pv 0) pe_int) pe_int) pe_str (nomark _)) (pw_or1 (pt_not (pt_val (b_all rfl B (p1 (pe_comp (defScope sAreKnots) ["knots","groups","units"] ["group"] [] ["group"] rfl (pi_listK K (pv 1)) (fun _ _ _ _ _=>(pg_name (i:=0) (show (["group"]:List Str).Nodup by decide) rfl (Or.inl rfl))) (fun _ _ _ _ _=>pts_nil) (fun _ _ _ _ _=>(pc cis_name hr (p1 (pv 0)))))))))))) (pss_one (ps_ret pe_bl)) pss_nil)
  (pss_cons (pst 2 nd (pc cunits_in hr (p1 (pv 0))))
  (pss_one (ps_ret (pe_and (pe_cmpR op_leX (b_len K B (p1 (pv 2))) (pe_glob (v:=.int 60) rfl TU ⟨_,rfl⟩) (nomark _)) (pe_and (pc care_unlike hr (p1 (pv 2))) (pe_one (pc care_unlike hr (p1 (pv 1)))))))))))),?_⟩
 obtain⟨a',refs,e0,ha,rp⟩:=knots_at R
 cases e0
 have rl:=rp.len
 rw[List.length_map] at rl
 obtain⟨c0,kr,rfl⟩:∃(c0:List Str) (kr:Kn),ks=(("":Str),c0)::kr:=by
  cases ks with
  | nil=>cases hdn
  | cons k0 kr=>exact⟨k0.2,kr,by have:k0.1="":=Option.some.inj hdn;rw[<- this]⟩
 rw[List.length_cons] at rl
 have few:=T.few
 rw[List.length_cons] at few
 refine⟨_,rfl,_,_,rfl,Or.inr ⟨_,.of ha,rfl⟩,.sc rfl ⟨_,rfl,ite2 (fun h=>by
  have h:V.int ((refs.length:Nat):Int)=V.int 0:=of_decide_eq_true h
  have:=V.int.inj h
  omega) fun _=>?_⟩⟩
 refine⟨_,rfl,a,rfl,⟨_,.of ha⟩,?_⟩
 refine all_tup ha rfl (by omega) (fun x hx H' Q sm q=>?_) fun H1 s1=>⟨_,rfl,iteF (next_go ?_)⟩
 ·obtain⟨i,hi⟩:=List.getElem?_of_mem hx
  obtain⟨kn,ta,la,hk,rfl,hta,hla⟩:=knot_get rp hi
  have hkm:=List.mem_of_getElem? hk
  exact⟨_,rfl,ta,la,kn.1,kn.2,rfl,sm _ _ hta,sm _ _ hla,fun u hu=>T.nm u (T.isIn hkm hu),Nat.le_trans (nd_len (kid_nodup T hkm) fun u hu=>T.isIn hkm hu) T.len,q⟩
 refine⟨_,rfl,_,rfl,a,refs,rfl,s1 _ _ ha,fun p1 H2 s2 hp1=>?_⟩
 have ec:cutV refs (some 1) none=refs.drop 1:=cutV_from refs 1
 rw[ec] at hp1
 have s12:=s1.trans s2
 have gnm:∀n∈kr.map (·.1),Nm n:=fun n hn=>by
  obtain⟨k',hk',rfl⟩:=List.mem_map.mp hn
  rcases T.sub k' (List.mem_cons_of_mem _ hk') with z | z
  ·have:=T.kn
   rw[List.map_cons,List.nodup_cons] at this
   exact absurd (List.mem_map.mpr ⟨k',hk',z⟩) this.1
  ·exact T.nm _ z
 have gnd:(kr.map (·.1)).Nodup:=by
  have:=T.kn
  rw[List.map_cons,List.nodup_cons] at this
  exact this.2
 refine⟨p1,rfl,⟨_,.of hp1⟩,?_⟩
 refine comp_tup (refs.drop 1) (fun D i acc σ' H'=>∃o,σ'=[o]/\acc=List.map V.str ((kr.map (·.1)).take i)/\Same H2 H'/\H2 D=none) fun D hD=>⟨?_,?_,?_,?_⟩
 ·exact⟨none,rfl,rfl,Same.new hD,hD⟩
 ·rintro i acc σ' H' _ ⟨o,rfl,_,sm,_⟩ _
  exact .of (sm _ _ hp1)
 ·rintro i acc σ' H' x hx ⟨o,rfl,rfl,sm,hD0⟩ hacc
  rw[List.getElem?_drop] at hx
  obtain⟨kn,ta,la,hk,rfl,hta,hla⟩:=knot_get rp hx
  rw[show 1+i=i+1 by omega,List.getElem?_cons_succ] at hk
  have hil:=(List.getElem?_eq_some_iff.mp hk).1
  refine gYes ?_
  refine⟨_,rfl,.tup (.of (sm _ _ (s12 _ _ hta))) rfl ⟨hacc,?_,_,rfl,?_,same_at sm hD0,hD0⟩⟩
  ·rw[List.length_map,List.length_take,List.length_map];exact small1000 (by omega)
  ·rw[List.take_add_one,List.getElem?_map,hk,List.map_append];rfl
 ·rintro acc σ' H3 ⟨o,rfl,rfl,s3,hD0⟩ hacc
  have hacc:H3 D=some (.lst (List.map V.str (kr.map (·.1)))):=by
   rw[List.take_of_length_le (by rw[List.length_map,List.length_drop];omega)] at hacc
   exact hacc
  refine name_go ?_
  dsimp only
  have s13:=s12.trans s3
  obtain⟨kn0,ta0,la0,hk0,er0,hta0,hla0⟩:=knot_get rp (show refs[0]? = some (refs[0]'(by omega)) from List.getElem?_eq_getElem (by omega))
  have e0:kn0=(("":Str),c0):=(Option.some.inj hk0).symm
  subst e0
  refine⟨_,rfl,.tup (.of (s13 _ _ ha)) (atI_nat (j:=0) (List.getElem?_eq_getElem (by omega))) ?_⟩
  rw[er0]
  refine .tup (.of (s13 _ _ hta0)) rfl (.sc rfl ⟨_,rfl,ite2 (fun h=>absurd h (by show ¬ (!decide (V.str ""=V.str ""))=true;simp)) fun _=>?_⟩)
  refine⟨_,rfl,D,rfl,⟨_,.of hacc⟩,?_⟩
  refine all_lst hacc rfl (by rw[List.length_map,List.length_map];omega) (fun x hx H' Q sm q=>?_) fun H4 s4=>⟨_,rfl,iteF (next_go ?_)⟩
  ·obtain⟨u,hu,rfl⟩:=List.mem_map.mp hx
   refine⟨_,rfl,_,rfl,.str (nmS (gnm u hu)),fun H2 s2=>?_⟩
   rw[isNm_iff.mpr (gnm u hu)]
   exact q H2 s2
  have s14:=s13.trans s4
  refine⟨_,rfl,a,us,_,rfl,R.same s14,T,fun lu H5 s5 hlu0 hlu=>?_⟩
  refine name_go ?_
  dsimp only
  have kl:(kids ((("":Str),c0)::kr)).length<=60:=by rw[T.perm.length_eq];exact T.len
  have knd:=T.knd
  generalize kids ((("":Str),c0)::kr)=uu at hlu kl knd
  refine⟨_,rfl,_,_,rfl,Or.inl ⟨_,.of hlu,rfl⟩,.int ?_⟩
  rw[List.length_map,decide_eq_true (show ((uu.length:Nat):Int)<=60 by omega)]
  refine⟨_,rfl,iteT ?_⟩
  refine⟨_,rfl,.ref lu,rfl,.nm (.inl hlu) (by omega) knd,fun H6 s6=>⟨_,rfl,iteT ?_⟩⟩
  have s56:=s5.trans s6
  exact⟨_,rfl,.ref D,rfl,.nm (.inl (s56 _ _ (s4 _ _ hacc))) (by rw[List.length_map];omega) gnd,fun H7 s7=>k H7 ((s14.trans s56).trans s7)⟩
end
end K39
namespace K39
open PySem L2
section
variable {P:Program}{w:World}{K:W.Frag}{mg:Str->Option Value}{base:Heap}
def spBelow:Sp:=fun vs H Q _=>∃(d kvs us:_) (ks:Kn) (g:_),vs=[.ref d,.str g]/\H d=some (.dK kvs)/\ArK kvs us ks/\Tre us ks/\Dpt ks 6/\g∈us/\g∈ks.map (·.1)/\∀H',Same H H'->Q (.bl true) H'
theorem ok_below {f:Addr}{fd:FuncData}{tk:Tok}(F:Fun K "is_below_top" "is_below_top" sIsBelowTop f fd) (B:Blt mg) (TW:mg "MOST_WITHIN"=some (.int 6 tk)):FnOk P w K mg base CX0 1 f fd ["table","group"] spBelow:=by
 refine F.ok1 ["table","group","knot","turn"] fun nd H Q E hr h=>?_
 obtain⟨d,kvs,us,ks,g,rfl,hd,ar,T,dpt,hg,hgn,k⟩:=h
 obtain⟨dp,dp0,dpu,dpl⟩:=dpt
 refine⟨_,(pss_cons (pst 2 nd (pv 1))
  (pss_cons (ps_for PassesOwn.never rfl (pi_range1 rfl B.range (p1 (pe_glob (v:=.int 6) rfl TW ⟨_,rfl⟩))) (pg_name (i:=3) nd rfl (Or.inl rfl)) (pss_cons (ps_if (pt_cmpR (op_notInX K hr.units) (pv 2) (pv 0) (by with_unfolding_all rfl)) (pss_one (ps_ret pe_bl)) pss_nil)
  (pss_cons (pst 2 nd (px K hr (pv 0) (pv 2)))
  (pss_one (ps_if (pt_cmpR (op_eqX hr.units) (pv 2) pe_str (nomark _)) (pss_one (ps_ret pe_bl)) pss_nil)))))
  (pss_one (ps_ret pe_bl)))),?_⟩
 have up:∀x,x∈us->x∈ks.map (·.1)->dp x=dp (parK ks x)+1:=fun x hx hxn=>by
  obtain⟨kn,hkn,e⟩:=List.mem_map.mp (T.par_in hx).2
  have hxk:x∈kn.2:=T.kid hx (by rw[<- e];exact hkn)
  rw[<- e]
  exact dpu kn hkn x hxk hxn
 have dg:dp g<=6:=by
  obtain⟨kn,hkn,e⟩:=List.mem_map.mp hgn
  have:=dpl kn hkn
  have e:kn.1=g:=e
  rw[e] at this
  omega
 refine⟨_,rfl,?_⟩
 refine name_go ?_
 dsimp only
 refine⟨_,rfl,by decide,by decide,?_⟩
 refine for_range (fun i σ H'=>∃(x:Str) (o:Option V),σ=[some (.ref d),some (.str g),some (.str x),o]/\x∈us/\x∈ks.map (·.1)/\dp x+i=dp g/\Same H H') ⟨g,none,rfl,hg,hgn,rfl,Same.refl _⟩ ?_ ?_
 ·rintro i σ H' hi ⟨x,o,rfl,hx,hxn,hd6,sm⟩
  have ux:=up x hx hxn
  refine⟨_,rfl,_,rfl,.dic (DGet.k (k:=.inr x) (sm _ _ hd)) ⟨_,rfl,?_⟩⟩
  rw[ar x hx]
  refine ite2 (fun h=>absurd h (by simp)) fun _=>next_go ?_
  refine⟨_,rfl,_,rfl,.dic (.inl ⟨kvs,.inr x,.inl (sm _ _ hd),rfl,(ar x hx).symm⟩) ?_⟩
  refine name_go ?_
  refine⟨_,rfl,.sc rfl ⟨_,rfl,ite2 (fun h=>k H' sm) (fun h=>next_go ?_)⟩⟩
  have h:parK ks x≠"":=fun z=>h (by rw[z];rfl)
  exact⟨parK ks x,_,rfl,(T.par_in hx).1.resolve_left h,(T.par_in hx).2,by omega,sm⟩
 ·rintro σ H' ⟨x,o,rfl,hx,hxn,hd6,sm⟩
  have ux:=up x hx hxn
  have hd6:dp x+6=dp g:=hd6
  omega
def spIsWant:Sp:=fun vs H Q _=>∃(d ta kvs us ks:_) (e:Str × Str),vs=[.ref d,.ref ta]/\H d=some (.dK kvs)/\ArK kvs us ks/\H ta=some (.tup [.str e.1,.str e.2])/\(e.1="first"∨e.1="last")/\e.2∈us/\Nm e.2/\∀H',Same H H'->Q (.bl true) H'
theorem ok_iswant {f W:Addr}{fd:FuncData}(F:Fun K "is_want" "is_want" sIsWant f fd) (B:Blt mg) (TO:mg "WORDS"=some (.ref W)) (KW:∀H,SqT K H W [.str "first",.str "last"]) (cis_name:Cal P w K mg base 1 "is_name" ["thing"] spIsName):FnOk P w K mg base CX0 2 f fd ["table","want"] spIsWant:=by
 refine F.ok1 ["table","want"] fun nd H Q E hr h=>?_
 obtain⟨d,ta,kvs,us,ks,e,rfl,hd,ar,hta,hw,hu,hnm,k⟩:=h
 refine⟨_,(pss_cons (ps_if (PW.pt (pw_or (pt_not (pt_val (b_isi K "tuple" B (p2 (pv 1) (g_tuple B))))) (pw_or1 (pt_cmpR (op_neX hr.units) (b_len K B (p1 (pv 1))) pe_int (nomark _))))) (pss_one (ps_ret pe_bl)) pss_nil)
  (pss_cons (ps_if (PW.pt (pw_or (pt_not (pt_val (b_isi K "str" B (p2 (px K hr (pv 1) pe_int) (g_str B))))) (pw_or1 (pt_cmpR (op_notInX K hr.units) (px K hr (pv 1) pe_int) (pe_glob (v:=.ref W) rfl TO rfl) (by with_unfolding_all rfl))))) (pss_one (ps_ret pe_bl)) pss_nil)
  (pss_one (ps_ret (pe_and (pc cis_name hr (p1 (px K hr (pv 1) pe_int))) (pe_one (pe_cmpR (op_inX K hr.units) (px K hr (pv 1) pe_int) (pv 0) (by with_unfolding_all rfl)))))))),?_⟩
 refine⟨_,rfl,_,_,true,rfl,.tup hta,rfl,_,rfl,iteF ?_⟩
 refine⟨_,rfl,_,_,rfl,Or.inr ⟨_,.of hta,rfl⟩,.sc rfl ⟨_,rfl,ite2 (fun h=>absurd h (by show ¬ (!decide (V.int 2=V.int 2))=true;decide)) fun _=>next_go ?_⟩⟩
 refine⟨_,rfl,.tup (.of hta) rfl ⟨_,_,true,rfl,.str _,rfl,_,rfl,iteF ?_⟩⟩
 refine⟨_,rfl,.tup (.of hta) rfl (.seq (xs:=List.map V.str ["first","last"]) (.inr (KW H)) rfl (flat_strs _) ⟨_,rfl,?_⟩)⟩
 rw[in_strs]
 have hin:e.1∈(["first","last"]:List Str):=by rcases hw with h | h <;> rw[h] <;> simp
 refine ite2 (fun h=>absurd hin (by simpa using h)) fun _=>next_go ?_
 refine⟨_,rfl,.tup (.of hta) rfl (nil_ ⟨_,rfl,.str (nmS hnm),fun H2 s2=>?_⟩)⟩
 rw[isNm_iff.mpr hnm]
 refine⟨_,rfl,iteT ?_⟩
 refine⟨_,rfl,.tup (.of (s2 _ _ hta)) rfl ⟨_,rfl,.dic (DGet.k (k:=.inr e.2) (s2 _ _ hd)) ?_⟩⟩
 show Q (.bl (valV kvs (Sum.inr e.2)).isSome) H2
 rw[ar e.2 hu]
 exact k H2 s2
def spAreW:Sp:=fun vs H Q _=>∃(d t kvs us ks refs:_) (wn:Prs),vs=[.ref d,.ref t]/\H d=some (.dK kvs)/\ArK kvs us ks/\Tre us ks/\H t=some (.tup refs)/\RepAll H refs (wn.map pairD)/\WnF us ks wn/\wn.length<=122/\∀H',Same H H'->Q (.bl true) H'
theorem ok_areW {f:Addr}{fd:FuncData}(F:Fun K "are_wants" "are_wants" sAreWants f fd) (B:Blt mg) (cis_want:Cal P w K mg base 2 "is_want" ["table","want"] spIsWant) (care_unlike:Cal P w K mg base 2 "are_unlike" ["things"] spUnlike):FnOk P w K mg base CX0 3 f fd ["table","wants"] spAreW:=by
 refine F.ok1 ["table","wants","units"] fun nd H Q E hr h=>?_
 obtain⟨d,t,kvs,us,ks,refs,wn,rfl,hd,ar,T,ht,rp,WF,wl,k⟩:=h
 have rl:=rp.len
 rw[List.length_map] at rl
 have win:=WF.ok
 refine⟨_,(pss_cons (ps_if (pt_not (pt_val (b_all rfl B (p1 (pe_comp (defScope sAreWants) ["table","wants","units"] ["want"] [0] ["want","table"] rfl (pi_tupK K (pv 1)) (fun _ _ _ _ _=>(pg_name (i:=0) (show (["want","table"]:List Str).Nodup by decide) rfl (Or.inl rfl))) (fun _ _ _ _ _=>pts_nil) (fun _ _ _ _ _=>(pc cis_want hr (p2 (pv 1) (pv 0))))))))) (pss_one (ps_ret pe_bl)) pss_nil)
  (pss_cons (ps_setC (i:=2) nd rfl rfl (by rfl) (defScope sAreWants) ["table","wants","units"] ["want"] [] ["want"] rfl (pi_tupK K (pv 1)) (fun _ _ _ _ _=>(pg_name (i:=0) (show (["want"]:List Str).Nodup by decide) rfl (Or.inl rfl))) (fun _ _ _ _ _=>pts_nil) (fun _ _ _ _ _=>(px K hr (pv 0) pe_int)))
  (pss_one (ps_ret (pe_and (pc care_unlike hr (p1 (pv 2))) (pe_one (pc care_unlike hr (p1 (pe_comp (defScope sAreWants) ["table","wants","units"] ["want"] [0] ["want","table"] rfl (pi_tupK K (pv 1)) (fun _ _ _ _ _=>(pg_name (i:=0) (show (["want","table"]:List Str).Nodup by decide) rfl (Or.inl rfl))) (fun _ _ _ _ _=>pts_nil) (fun _ _ _ _ _=>(pe_tup (p2 (px K hr (pv 0) pe_int) (px K hr (pv 1) (px K hr (pv 0) pe_int)))))))))))))),?_⟩
 refine⟨_,rfl,t,rfl,⟨_,.of ht⟩,?_⟩
 refine all_tup ht rfl (by omega) (fun x hx H' Q sm q=>?_) fun H1 s1=>⟨_,rfl,iteF (next_go ?_)⟩
 ·obtain⟨i,hi⟩:=List.getElem?_of_mem hx
  obtain⟨e,ta,he,rfl,hta⟩:=pair_get rp hi
  have w:=win e (List.mem_of_getElem? he)
  exact⟨_,rfl,_,rfl,d,ta,kvs,us,ks,e,rfl,sm _ _ hd,ar,sm _ _ hta,w.1,w.2,T.nm _ w.2,q⟩
 refine⟨_,rfl,t,rfl,⟨_,.of (s1 _ _ ht)⟩,?_⟩
 refine comp_tup refs (fun D i acc σ' H'=>∃o,σ'=[o]/\acc=List.map V.str ((wn.map (·.2)).take i)/\Same H1 H'/\H1 D=none) fun D hD=>⟨?_,?_,?_,?_⟩
 ·exact⟨none,rfl,rfl,Same.new hD,hD⟩
 ·rintro i acc σ' H' _ ⟨o,rfl,_,sm,_⟩ _
  exact .of (sm _ _ (s1 _ _ ht))
 ·rintro i acc σ' H' x hx ⟨o,rfl,rfl,sm,hD0⟩ hacc
  obtain⟨e,ta,he,rfl,hta⟩:=pair_get rp hx
  have hil:=(List.getElem?_eq_some_iff.mp he).1
  refine gYes ?_
  refine⟨_,rfl,.tup (.of (sm _ _ (s1 _ _ hta))) rfl ⟨hacc,?_,_,rfl,?_,same_at sm hD0,hD0⟩⟩
  ·rw[List.length_map,List.length_take,List.length_map];exact small1000 (by omega)
  ·rw[List.take_add_one,List.getElem?_map,he,List.map_append];rfl
 rintro acc σ' H2 ⟨o,rfl,rfl,s2,hD0⟩ hacc
 have hacc:H2 D=some (.lst (List.map V.str (wn.map (·.2)))):=by
  rw[List.take_of_length_le (by rw[List.length_map];omega)] at hacc
  exact hacc
 refine name_go ?_
 dsimp only
 refine⟨_,rfl,.ref D,rfl,.nm (.inl hacc) (by rw[List.length_map];omega) WF.un,fun H3 s3=>⟨_,rfl,iteT ?_⟩⟩
 have s13:=(s1.trans s2).trans s3
 refine⟨_,rfl,t,rfl,⟨_,.of (s13 _ _ ht)⟩,?_⟩
 refine comp_tup refs (fun D i acc σ' H'=>∃o,σ'=[o,some (.ref d)]/\RepAll H' acc (((wn.map fun e=>(e.1,parK ks e.2)).take i).map pairD)/\Same H3 H'/\H3 D=none) fun D2 hD2=>⟨?_,?_,?_,?_⟩
 ·exact⟨none,rfl,.nil,Same.new hD2,hD2⟩
 ·rintro i acc σ' H' _ ⟨o,rfl,_,sm,_⟩ _
  exact .of (sm _ _ (s13 _ _ ht))
 ·rintro i acc σ' H' x hx ⟨o,rfl,rpa,sm,hD0⟩ hacc
  obtain⟨e,ta,he,rfl,hta⟩:=pair_get rp hx
  have hil:=(List.getElem?_eq_some_iff.mp he).1
  have w:=win e (List.mem_of_getElem? he)
  have al:=rpa.len
  rw[List.length_map,List.length_take,List.length_map] at al
  have hta':=sm _ _ (s13 _ _ hta)
  refine gYes ?_
  refine⟨_,rfl,.tup (.of hta') rfl ⟨_,rfl,_,rfl,.tup (.of hta') rfl (.dic (.inl ⟨kvs,.inr e.2,.inl (sm _ _ (s13 _ _ hd)),rfl,(ar e.2 w.2).symm⟩) (nil_ ⟨szl 2,fun tq htq=>?_⟩))⟩⟩
  refine nw htq fun H4 s4 e4=>?_
  have hacc4:=s4 _ _ hacc
  refine⟨hacc4,small1000 (by omega),_,rfl,?_,same_at (sm.trans s4) hD0,hD0⟩
  rw[List.take_add_one,List.getElem?_map,he,List.map_append]
  exact RepAll.append (repBut_all (repBut_pair hacc4 But.upd) (rpa.same s4)) (.cons (repBut_pair hacc4 But.upd (pair_rep e4)) .nil)
 rintro acc σ' H4 ⟨o,rfl,rpa,s4,hD0⟩ hacc2
 rw[List.take_of_length_le (by rw[List.length_map];omega)] at rpa
 exact nil_ ⟨.ref D2,rfl,.pr (.inl hacc2) rpa (by rw[List.length_map];omega) WF.wd,fun H5 s5=>k H5 ((s13.trans s4).trans s5)⟩
end
end K39
namespace K39
open PySem L2
section
variable {P:Program}{w:World}{K:W.Frag}{mg:Str->Option Value}{base:Heap}
def spTiesH:Sp:=fun vs H Q _=>∃(d t kvs us ks refs:_) (ps:Prs),vs=[.ref d,.ref t]/\H d=some (.dK kvs)/\ArK kvs us ks/\Tre us ks/\H t=some (.tup refs)/\RepAll H refs (ps.map pairD)/\ps.Nodup/\(∀e∈ps,e.1∈us/\e.2∈us/\partO ks e.1 e.2≠none)/\ps.length<=200/\∀H',Same H H'->Q (.bl true) H'
theorem ok_tiesH {f:Addr}{fd:FuncData}{tk:Tok}(F:Fun K "are_house_ties" "are_house_ties" sAreHouseTies f fd) (B:Blt mg) (TT:mg "MOST_TIES"=some (.int 200 tk)) (cis_tie_among:Cal P w K mg base 2 "is_tie_among" ["places","tie"] spAmong) (care_unlike:Cal P w K mg base 2 "are_unlike" ["things"] spUnlike) (cparting_by:Cal P w K mg base 2 "parting_by" ["table","one","other"] spPartBy):FnOk P w K mg base CX0 3 f fd ["table","ties"] spTiesH:=by
 refine F.ok1 ["table","ties"] fun nd H Q E hr h=>?_
 obtain⟨d,t,kvs,us,ks,refs,ps,rfl,hd,ar,T,ht,rp,pnd,pin,pl,k⟩:=h
 have rl:=rp.len
 rw[List.length_map] at rl
 refine⟨_,(pss_cons (ps_if (PW.pt (pw_or (pt_cmpR op_gt (b_len K B (p1 (pv 1))) (pe_glob (v:=.int 200) rfl TT ⟨_,rfl⟩) (nomark _)) (pw_or1 (pt_not (pt_val (b_all rfl B (p1 (pe_comp (defScope sAreHouseTies) ["table","ties"] ["tie"] [0] ["tie","table"] rfl (pi_tupK K (pv 1)) (fun _ _ _ _ _=>(pg_name (i:=0) (show (["tie","table"]:List Str).Nodup by decide) rfl (Or.inl rfl))) (fun _ _ _ _ _=>pts_nil) (fun _ _ _ _ _=>(pc cis_tie_among hr (p2 (pv 1) (pv 0)))))))))))) (pss_one (ps_ret pe_bl)) pss_nil)
  (pss_one (ps_ret (pe_and (pc care_unlike hr (p1 (pv 1))) (pe_one (b_all rfl B (p1 (pe_comp (defScope sAreHouseTies) ["table","ties"] ["tie"] [0] ["tie","table"] rfl (pi_tupK K (pv 1)) (fun _ _ _ _ _=>(pg_name (i:=0) (show (["tie","table"]:List Str).Nodup by decide) rfl (Or.inl rfl))) (fun _ _ _ _ _=>pts_nil) (fun _ _ _ _ _=>(pe_cmpR op_isNotX (pc cparting_by hr (pa_cons (pv 1) (p2 (px K hr (pv 0) pe_int) (px K hr (pv 0) pe_int)))) pe_non (nomark _))))))))))),?_⟩
 refine⟨_,rfl,_,_,rfl,Or.inr ⟨_,.of ht,rfl⟩,_,_,rfl,rfl,_,rfl,ite2 (fun h=>by
  have h:(200:Int)<((refs.length:Nat):Int):=of_decide_eq_true h
  omega) fun _=>?_⟩
 refine⟨_,rfl,t,rfl,⟨_,.of ht⟩,?_⟩
 refine all_tup ht rfl (by omega) (fun x hx H' Q sm q=>?_) fun H1 s1=>⟨_,rfl,iteF (next_go ?_)⟩
 ·obtain⟨i,hi⟩:=List.getElem?_of_mem hx
  obtain⟨e,ta,he,rfl,hta⟩:=pair_get rp hi
  have w:=pin e (List.mem_of_getElem? he)
  exact⟨_,rfl,_,rfl,d,ta,kvs,e,rfl,sm _ _ hd,sm _ _ hta,T.nm _ w.1,T.nm _ w.2.1,by rw[ar _ w.1];rfl,by rw[ar _ w.2.1];rfl,q⟩
 refine⟨_,rfl,.ref t,rfl,.pr (.inr (s1 _ _ ht)) (rp.same s1) (by omega) pnd,fun H2 s2=>⟨_,rfl,iteT ?_⟩⟩
 have s12:=s1.trans s2
 refine⟨_,rfl,t,rfl,⟨_,.of (s12 _ _ ht)⟩,?_⟩
 refine all_tup (s12 _ _ ht) rfl (by omega) (fun x hx H' Q sm q=>?_) fun H3 s3=>k H3 (s12.trans s3)
 obtain⟨i,hi⟩:=List.getElem?_of_mem hx
 obtain⟨e,ta,he,rfl,hta⟩:=pair_get rp hi
 have w:=pin e (List.mem_of_getElem? he)
 have hta':=sm _ _ (s12 _ _ hta)
 refine⟨_,rfl,_,rfl,.tup (.of hta') rfl ⟨_,rfl,.tup (.of hta') rfl (nil_ ⟨d,kvs,us,ks,e.1,e.2,rfl,sm _ _ (s12 _ _ hd),ar,T,w.1,w.2.1,fun v H4 s4 px=>.non ?_⟩)⟩⟩
 cases hpo:partO ks e.1 e.2 with
 | none=>exact absurd hpo w.2.2
 | some t3 =>
  obtain⟨kq,x1,y1⟩:=t3
  rw[hpo] at px
  obtain⟨tt,rfl,htt⟩:=px
  exact q H4 s4
structure FrH (us:List Str) (ks:Kn) (ts ws wn:Prs):Prop where
 T:Tre us ks
 hdn:(ks.map (·.1)).head? = some ("":Str)
 dpt:Dpt ks 6
 tp:TsP us ks ts
 wp:TsP us ks ws
 nd:(ts++ws).Nodup
 wf:WnF us ks wn
 tl:(ts++ws).length<=200
 wl:wn.length<=122
def spFrame:Sp:=fun vs H Q _=>∃q us ks ts ws wn,vs=[.ref q]/\Rep H (.ref q) (houseD ks ts ws wn)/\FrH us ks ts ws wn/\∀H',Same H H'->Q (.bl true) H'
theorem ok_frame {f:Addr}{fd:FuncData}(F:Fun K "is_frame" "is_frame" sIsFrame f fd) (B:Blt mg) (care_knots:Cal P w K mg base 3 "are_knots" ["knots"] spAreK) (chomes:Cal P w K mg base 1 "homes" ["house"] spHomes) (cis_below_top:Cal P w K mg base 1 "is_below_top" ["table", "group"] spBelow) (care_house_ties:Cal P w K mg base 3 "are_house_ties" ["table", "ties"] spTiesH) (care_wants:Cal P w K mg base 3 "are_wants" ["table", "wants"] spAreW):FnOk P w K mg base CX0 4 f fd ["thing"] spFrame := by
 refine F.ok1 ["thing","table"] fun nd H Q E hr h=>?_
 obtain⟨q,us,ks,ts,ws,wn,rfl,R,G,k⟩:=h
 obtain⟨q',a,b,c,d4,e0,hq,R1,R2,R3,R4⟩:=house_at R
 cases e0
 obtain⟨b',rb,e0,hb,rpb⟩:=pairsT_at R2
 cases e0
 obtain⟨c',rc,e0,hc,rpc⟩:=pairsT_at R3
 cases e0
 obtain⟨d',rd,e0,hd4,rpd⟩:=pairsT_at R4
 cases e0
 obtain⟨a',ra,e0,ha,rpa⟩:=knots_at R1
 cases e0
 refine⟨_,(pss_cons (ps_if (PW.pt (pw_or (pt_not (pt_val (b_isi K "tuple" B (p2 (pv 0) (g_tuple B))))) (pw_or1 (pt_cmpR (op_neX hr.units) (b_len K B (p1 (pv 0))) pe_int (nomark _))))) (pss_one (ps_ret pe_bl)) pss_nil)
  (pss_cons (ps_if (PW.pt (pw_or (pt_not (pt_val (b_all rfl B (p1 (pe_comp (defScope sIsFrame) ["thing","table"] ["part"] [] ["part"] rfl (pi_tupK K (pv 0)) (fun _ _ _ _ _=>(pg_name (i:=0) (show (["part"]:List Str).Nodup by decide) rfl (Or.inl rfl))) (fun _ _ _ _ _=>pts_nil) (fun _ _ _ _ _=>(b_isi K "tuple" B (p2 (pv 0) (g_tuple B))))))))) (pw_or1 (pt_not (pt_val (pc care_knots hr (p1 (px K hr (pv 0) pe_int)))))))) (pss_one (ps_ret pe_bl)) pss_nil)
  (pss_cons (ps_set (i:=1) nd rfl (Or.inr rfl) (pc chomes hr (p1 (pv 0))))
  (pss_cons (ps_if (pt_not (pt_val (b_all rfl B (p1 (pe_comp (defScope sIsFrame) ["thing","table"] ["knot"] [1] ["knot","table"] rfl (pi_tupK K (pe_slice sl_tupA (px K hr (pv 0) pe_int) (po_some pe_int) po_none)) (fun _ _ _ _ _=>(pg_name (i:=0) (show (["knot","table"]:List Str).Nodup by decide) rfl (Or.inl rfl))) (fun _ _ _ _ _=>pts_nil) (fun _ _ _ _ _=>(pc cis_below_top hr (p2 (pv 1) (px K hr (pv 0) pe_int))))))))) (pss_one (ps_ret pe_bl)) pss_nil)
  (pss_one (ps_ret (pe_and (pc care_house_ties hr (p2 (pv 1) (pe_op op_catTB (px K hr (pv 0) pe_int) (px K hr (pv 0) pe_int)))) (pe_one (pc care_wants hr (p2 (pv 1) (px K hr (pv 0) pe_int))))))))))),?_⟩
 refine⟨_,rfl,_,_,true,rfl,.tup hq,rfl,_,rfl,iteF ?_⟩
 refine⟨_,rfl,_,_,rfl,Or.inr ⟨_,.of hq,rfl⟩,.sc rfl ⟨_,rfl,ite2 (fun h=>absurd h (by show ¬ (!decide (V.int 4=V.int 4))=true;decide)) fun _=>next_go ?_⟩⟩
 refine⟨_,rfl,q,rfl,⟨_,.of hq⟩,?_⟩
 refine all_tup hq rfl (by show 4<=1000;decide) (fun x hx H' Q sm qq=>?_) fun H1 s1=>⟨_,rfl,iteF ?_⟩
 ·obtain⟨z,zs,rfl,hz⟩:∃z zs,x=.ref z/\H z=some (.tup zs):=by
     simp only[List.mem_cons,List.not_mem_nil,or_false] at hx
     rcases hx with rfl | rfl | rfl | rfl
     ·exact⟨_,_,rfl,ha⟩
     ·exact⟨_,_,rfl,hb⟩
     ·exact⟨_,_,rfl,hc⟩
     ·exact⟨_,_,rfl,hd4⟩
  exact⟨_,rfl,_,_,true,rfl,.tup (sm _ _ hz),rfl,qq H' (Same.refl _)⟩
 have T:=G.T
 refine⟨_,rfl,.tup (.of (s1 _ _ hq)) rfl (nil_ ⟨a,us,ks,rfl,R1.same s1,T,G.hdn,fun H2 s2=>⟨_,rfl,iteF (next_go ?_)⟩⟩)⟩
 have s12:=s1.trans s2
 refine⟨_,rfl,q,us,ks,ts,ws,wn,rfl,R.same s12,T,fun d kvs H3 s3 hd0 hd ar=>?_⟩
 refine name_go ?_
 dsimp only
 have s13:=s12.trans s3
 refine⟨_,rfl,.tup (.of (s13 _ _ hq)) rfl ⟨_,rfl,a,ra,rfl,s13 _ _ ha,fun p1 H4 s4 hp1=>?_⟩⟩
 have ec:cutV ra (some 1) none=ra.drop 1:=cutV_from ra 1
 rw[ec] at hp1
 have s14:=s13.trans s4
 have rl:=rpa.len
 rw[List.length_map] at rl
 have few:=T.few
 have hd4':=s4 _ _ hd
 refine⟨p1,rfl,⟨_,.of hp1⟩,?_⟩
 refine all_tup hp1 rfl (by rw[List.length_drop];omega) (fun x hx H' Q sm qq=>?_) fun H5 s5=>⟨_,rfl,iteF (next_go ?_)⟩
 ·obtain⟨i,hi⟩:=List.getElem?_of_mem hx
  rw[List.getElem?_drop] at hi
  obtain⟨kn,ta,la,hk,rfl,hta,hla⟩:=knot_get rpa hi
  have hkm:=List.mem_of_getElem? hk
  have hne:kn.1≠"":=fun z=>by
   have h0:(ks.map (·.1))[0]? = some ("":Str):=by rw[<- List.head?_eq_getElem?];exact G.hdn
   have h1:(ks.map (·.1))[1+i]? = some ("":Str):=by rw[List.getElem?_map,hk];exact congrArg some z
   have l:=(List.getElem?_eq_some_iff.mp h0).1
   have:=(List.getElem?_inj l T.kn).mp (h0.trans h1.symm)
   omega
  exact⟨_,rfl,_,rfl,.tup (.of (sm _ _ (s14 _ _ hta))) rfl (nil_ ⟨d,kvs,us,ks,kn.1,rfl,sm _ _ hd4',ar,T,G.dpt,(T.sub kn hkm).resolve_left hne,List.mem_map.mpr ⟨kn,hkm,rfl⟩,qq⟩)⟩
 have s15:=s14.trans s5
 have bl:=rpb.len
 have cl:=rpc.len
 have tl:=G.tl
 rw[List.length_map] at bl cl
 rw[List.length_append] at tl
 refine⟨_,rfl,_,rfl,.tup (.of (s15 _ _ hq)) rfl ⟨_,rfl,.tup (.of (s15 _ _ hq)) rfl ⟨b,c,_,_,rfl,rfl,s15 _ _ hb,s15 _ _ hc,Nat.le_of_lt (small1000 (by omega)),fun tu H6 s6 e6=>nil_ ?_⟩⟩⟩
 have s16:=s15.trans s6
 refine⟨d,tu,kvs,us,ks,rb++rc,ts++ws,rfl,(s5.trans s6) _ _ hd4',ar,T,e6,by rw[List.map_append];exact RepAll.append (rpb.same s16) (rpc.same s16),G.nd,fun e he=>?_,by rw[List.length_append];exact tl,fun H7 s7=>⟨_,rfl,iteT ?_⟩⟩
 ·rcases List.mem_append.mp he with he | he
  ·exact G.tp e he
  ·exact G.wp e he
 have s17:=s16.trans s7
 exact⟨_,rfl,_,rfl,.tup (.of (s17 _ _ hq)) rfl (nil_ ⟨d,d4,kvs,us,ks,rd,wn,rfl,((s5.trans s6).trans s7) _ _ hd4',ar,T,s17 _ _ hd4,rpd.same s17,G.wf,G.wl,fun H8 s8=>k H8 (s17.trans s8)⟩)⟩
end
end K39
namespace K39
open PySem L2
section
variable {P:Program}{w:World}{K:W.Frag}{mg:Str->Option Value}{base:Heap}
theorem knot_one {us:List Str}{ks:Kn}(T:Tre us ks) {k k':Str × List Str}(hk:k∈ks) (hk':k'∈ks) (e:k.1=k'.1):k=k':=inj_nd T.kn hk hk' e
theorem view_web {us:List Str}{ks:Kn}(T:Tre us ks) {ts wn:Prs}(tok:TsP us ks ts) (W:WnF us ks wn) {k:Str × List Str}(hk:k∈ks) (tl:ts.length<=200) {H:Hp}{v:V}(r:Rep H v (viewD ks ts wn k)):Web H v k.2 (viewE ks ts wn k.1 k.2) :=
 ⟨r,kid_nodup T hk,fun s hs=>T.nm s (T.isIn hk hs),Nat.le_trans (nd_len (kid_nodup T hk) fun u hu=>T.isIn hk hu) T.len,viewE_few T W hk tl,view_ends T tok hk⟩
def decP (p:Prop):Bool:=@decide p (Classical.propDecidable p)
theorem decT {p:Prop}(h:p):decP p=true:=by unfold decP;exact @decide_eq_true p (Classical.propDecidable p) h
theorem decF {p:Prop}(h:¬ p):decP p=false:=by unfold decP;exact @decide_eq_false p (Classical.propDecidable p) h
theorem dec_iff {p:Prop}:decP p=true ↔ p:=⟨fun h=>Classical.byContradiction fun z=>(by rw[decF z] at h;cases h),decT⟩
def Fw1 (ks:Kn) (ts wn:Prs) (k:Str × List Str):Prop:=∀e∈viewE ks ts wn k.1 k.2,MG.ix k.2 e.1<MG.ix k.2 e.2
def FwH (ks:Kn) (ts wn:Prs):Prop:=∀k∈ks,Fw1 ks ts wn k
def GdH (ks:Kn) (ts wn ws:Prs):Prop:=FwH ks ts wn/\WsR ks ts wn ws
theorem all_fw (ks:Kn) (ts wn:Prs):(ks.map fun k=>decP (Fw1 ks ts wn k)).all id=decP (FwH ks ts wn):=by
 rw[Bool.eq_iff_iff,dec_iff,List.all_eq_true]
 constructor
 ·intro h k hk
  exact dec_iff.mp (h _ (List.mem_map.mpr ⟨k,hk,rfl⟩))
 ·intro h b hb
  obtain⟨k,hk,rfl⟩:=List.mem_map.mp hb
  exact decT (h k hk)
theorem all_tupB {te:TE}{l:Addr}{xs:List V}{fr:List Nat}{σ rest:St}{H:Hp}{Q:VK}(bl:List Bool) (hb:bl.length=xs.length) (hl:H l=some (.tup xs)) (hs:inSt 1 fr σ=none::rest) (xl:xs.length<=1000) (hte:∀(i:Nat) (x:V) (b:Bool),xs[i]? = some x->bl[i]? = some b->∀H' Q,Same H H'->(∀H2,Same H' H2->Q (.bl b) H2)->te (some x::rest) H' Q) (k:∀H',Same H H'->Q (.bl (bl.all id)) H') :
    tCompW 1 fr (gName 0) tYes te (Itt K l) σ H fun x H1=>tNil σ H1 fun ys H2=>rAll (x::ys) H2 Q:=by
 refine comp_tup xs (fun D i acc σ' H'=>∃o,σ'=o::rest/\acc=(bl.take i).map V.bl/\Same H H'/\H D=none) fun D hD=>⟨?_,?_,?_,?_⟩
 ·exact⟨none,hs,rfl,Same.new hD,hD⟩
 ·rintro i acc σ' H' _ ⟨o,rfl,_,sm,_⟩ _
  exact .of (sm _ _ hl)
 ·rintro i acc σ' H' x hx ⟨o,rfl,rfl,sm,hD0⟩ hacc
  have hil:=(List.getElem?_eq_some_iff.mp hx).1
  obtain⟨b,hbi⟩:∃b,bl[i]? = some b:=⟨_,List.getElem?_eq_getElem (by omega)⟩
  refine gYes ?_
  refine hte i x b hx hbi H' _ sm fun H2 s2=>?_
  exact⟨s2 _ _ hacc,by rw[List.length_map,List.length_take];exact small1000 (by omega),_,rfl,by rw[List.take_add_one,hbi,List.map_append];rfl,same_at (sm.trans s2) hD0,hD0⟩
 ·rintro acc σ' H2 ⟨o,rfl,rfl,s2,hD0⟩ hacc
  rw[<- hb,List.take_of_length_le (Nat.le_refl _)] at hacc
  exact⟨D,bl,rfl,hacc,k H2 s2⟩
def spKeepsT:Sp:=fun vs H Q _=>∃q us ks ts ws wn,vs=[.ref q]/\Rep H (.ref q) (houseD ks ts ws wn)/\FrH us ks ts ws wn/\∀H',Same H H'->Q (.bl (decP (FwH ks ts wn))) H'
theorem ok_keepsT {f:Addr}{fd:FuncData}(F:Fun K "keeps_ties" "keeps_ties" sKeepsTies f fd) (B:Blt mg) (ckept_partings:Cal P w K mg base 3 "kept_partings" ["house"] spKPart) (cview_by:Cal P w K mg base 2 "view_by" ["house", "knot", "partings"] spViewBy) (cis_order:Cal P w K mg base 3 "is_order" ["web", "thing"] spIsOrder):FnOk P w K mg base CX0 4 f fd ["house"] spKeepsT := by
 refine F.ok1 ["house","partings"] fun nd H Q E hr h=>?_
 obtain⟨q,us,ks,ts,ws,wn,rfl,R,G,k⟩:=h
 have T:=G.T
 have tl:=G.tl
 rw[List.length_append] at tl
 obtain⟨q',a,b,c,d4,e0,hq,R1,R2,R3,R4⟩:=house_at R
 cases e0
 obtain⟨a',ra,e0,ha,rpa⟩:=knots_at R1
 cases e0
 have rl:=rpa.len
 rw[List.length_map] at rl
 have few:=T.few
 refine⟨_,(pss_cons (ps_set (i:=1) nd rfl (Or.inr rfl) (pc ckept_partings hr (p1 (pv 0))))
  (pss_one (ps_ret (b_all rfl B (p1 (pe_comp (defScope sKeepsTies) ["house","partings"] ["knot"] [0,1] ["knot","house","partings"] rfl (pi_tupK K (px K hr (pv 0) pe_int)) (fun _ _ _ _ _=>(pg_name (i:=0) (show (["knot","house","partings"]:List Str).Nodup by decide) rfl (Or.inl rfl))) (fun _ _ _ _ _=>pts_nil) (fun _ _ _ _ _=>(pc cis_order hr (p2 (pc cview_by hr (pa_cons (pv 1) (p2 (px K hr (pv 0) pe_int) (pv 2)))) (b_list K rfl B (p1 (px K hr (pv 0) pe_int)))))))))))),?_⟩
 refine⟨_,rfl,q,us,ks,ts,ws,wn,rfl,R,T,G.tp,by omega,fun lp rp H1 s1 hlp0 hlp rpp=>?_⟩
 refine name_go ?_
 dsimp only
 refine⟨_,rfl,.tup (.of (s1 _ _ hq)) rfl ⟨a,rfl,⟨_,.of (s1 _ _ ha)⟩,?_⟩⟩
 refine all_tupB (ks.map fun k=>decP (Fw1 ks ts wn k)) (by rw[List.length_map];omega) (s1 _ _ ha) rfl (by omega) (fun i x bb hi hbb H' Q sm qq=>?_) fun H2 s2=>by rw[all_fw];exact k H2 (s1.trans s2)
 obtain⟨kn,ta,la,hk,rfl,hta,hla⟩:=knot_get rpa hi
 have hkm:=List.mem_of_getElem? hk
 rw[List.getElem?_map,hk] at hbb
 cases Option.some.inj hbb
 have s1':=s1.trans sm
 refine⟨_,rfl,_,rfl,.tup (.of (s1' _ _ hta)) rfl ⟨_,rfl,q,lp,us,ks,ts,ws,wn,kn,rp,rfl,R.same s1',T,G.tp,G.wf,hkm,by omega,sm _ _ hlp,rpp.same sm,fun x H3 s3 rx=>?_⟩⟩
 have s13:=s1'.trans s3
 refine⟨_,rfl,.tup (.of (s13 _ _ hta)) rfl (nil_ ⟨_,rfl,.seq (.inr (.of (s13 _ _ hla))) fun l hl=>nil_ ?_⟩)⟩
 refine nw hl fun H4 s4 e4=>?_
 have W:=(view_web T G.tp G.wf hkm (by omega) rx).same s4
 obtain⟨xq,_,_,_,rfl,_⟩:=web_at W.rep
 have kl:=W.len
 have or_:ordL kn.2 (viewE ks ts wn kn.1 kn.2) (List.map V.str kn.2)=decP (Fw1 ks ts wn kn):=by
  unfold ordL
  rw[strsOf_map,Bool.eq_iff_iff,dec_iff,Bool.and_eq_true,Bool.and_eq_true,Bool.and_eq_true,List.all_eq_true,List.all_eq_true,decide_eq_true_iff,decide_eq_true_iff]
  constructor
  ·rintro⟨_,_,_,h⟩ e he
   exact of_decide_eq_true (h e he)
  ·intro h
   refine⟨fun v hv=>?_,List.length_map ..,W.nd,fun e he=>decide_eq_true (h e he)⟩
   obtain⟨u,hu,rfl⟩:=List.mem_map.mp hv
   exact decide_eq_true hu
 refine⟨xq,kn.2,_,.ref l,rfl,W,.lst e4,fun a xs e h=>?_,fun H5 s5=>?_⟩
 ·cases e
  rw[e4] at h
  cases h
  refine⟨by rw[List.length_map];omega,fun v hv=>?_⟩
  obtain⟨u,hu,rfl⟩:=List.mem_map.mp hv
  exact .str (nmS (W.nm u hu))
 ·rw[ordB_lst e4,or_]
  exact qq H5 ((s3.trans s4).trans s5)
end
end K39
namespace K39
open PySem L2
section
variable {P:Program}{w:World}{K:W.Frag}{mg:Str->Option Value}{base:Heap}
def spPart:Sp:=fun vs H Q _=>∃q us ks ts ws wn u v,vs=[.ref q,.str u,.str v]/\Rep H (.ref q) (houseD ks ts ws wn)/\Tre us ks/\u∈us/\v∈us/\∀x H',Same H H'->PrtV H' x (partO ks u v)->Q x H'
theorem ok_part {f:Addr}{fd:FuncData}(F:Fun K "parting" "parting" sParting f fd) (B:Blt mg) (chomes:Cal P w K mg base 1 "homes" ["house"] spHomes) (cparting_by:Cal P w K mg base 2 "parting_by" ["table","one","other"] spPartBy):FnOk P w K mg base CX0 3 f fd ["house","one","other"] spPart:=by
 refine F.ok1 ["house","one","other"] fun nd H Q E hr h=>?_
 obtain⟨q,us,ks,ts,ws,wn,u,v,rfl,R,T,hu,hv,k⟩:=h
 refine⟨_,(pss_one (ps_ret (pc cparting_by hr (pa_cons (pc chomes hr (p1 (pv 0))) (p2 (pv 1) (pv 2)))))),?_⟩
 refine⟨_,rfl,q,us,ks,ts,ws,wn,rfl,R,T,fun d kvs H1 s1 hd0 hd ar=>?_⟩
 exact⟨_,rfl,_,rfl,d,kvs,us,ks,u,v,rfl,hd,ar,T,hu,hv,fun x H2 s2 hx=>k x H2 (s1.trans s2) hx⟩
theorem seq_inv {s r:TS}{D:Ends}{σ:St}{H:Hp}(Inv:St->Hp->Prop) (fin:∀σ' H',Inv σ' H'->r D σ' H') (main:∀N:St->Hp->Prop,(∀σ' H',Inv σ' H'->N σ' H')->s { D with nx:=N } σ H):tSeq s r D σ H:=main _ fin
def TbW (H:Hp) (tb:Addr) (ks:Kn) (ts wn:Prs) (kv:List (Key × V)):Prop:=∀(n:Str) (v:V),valV kv (.inr n)=some v->∃(k:Str × List Str) (d:Addr),k∈ks/\k.1=n/\v=.ref d/\d≠tb/\Tab H d k.2 (nxtL k.2 (viewE ks ts wn k.1 k.2))
theorem TbW.same {H H':Hp}{tb:Addr}{ks:Kn}{ts wn:Prs}{kv:List (Key × V)}(h:TbW H tb ks ts wn kv) (s:Same H H'):TbW H' tb ks ts wn kv:=fun n v e=>let ⟨k,d,a,b,c,x,t⟩:=h n v e;⟨k,d,a,b,c,x,t.same s⟩
theorem ne_of_none' {H:Hp}{a b:Addr}{o:HO}(h:H b=some o) (g:H a=none):a≠b:=fun z=>by rw[z,h] at g;cases g
theorem tab_other {H:Hp}{tb d:Addr}{ss:List Str}{f:Str->List Str}{kv kv':List (Key × V)}(h:Tab H d ss f) (htb:H tb=some (.dK kv)) (n:d≠tb):Tab (upd H tb (.dK kv')) d ss f:=by
 obtain⟨kvs,hd,hx⟩:=h
 refine⟨kvs,by rw[upd_ne n];exact hd,fun s hs=>?_⟩
 obtain⟨l,h1,h2⟩:=hx s hs
 exact⟨l,h1,by rw[upd_ne (ne_of h2 htb (by intro z;cases z))];exact h2⟩
theorem rch_ner {c:List Str}{es:Prs}(ends:∀e∈es,e.1∈c/\e.2∈c) {x y:Str}(h:MG.Rch (Tie es) x y):MG.Rch (Ner c (nxtL c es)) x y :=
 MG.Rch.map id (fun a b r=>⟨(ends _ r).1,List.mem_filter.mpr ⟨(ends _ r).2,decide_eq_true r⟩⟩) h
theorem closes {us:List Str}{ks:Kn}(T:Tre us ks) {ts wn:Prs}{e:Str × Str}{ws:Prs}{kk:Str × List Str}{x1 y1:Str}(hkk:kk∈ks) (hp:partO ks e.1 e.2=some (kk.1,x1,y1)) (h:WsR ks ts wn ws) (he:e∈ws):MG.Rch (Tie (viewE ks ts wn kk.1 kk.2)) y1 x1:=by
 obtain⟨k',hk',x',y',hp',_,_,r⟩:=h e he
 rw[hp] at hp'
 obtain⟨e1,e2⟩:=Prod.mk.inj (Option.some.inj hp')
 obtain⟨e2,e3⟩:=Prod.mk.inj e2
 have:=knot_one T hkk hk' e1
 subst this
 rw[e2,e3];exact r
theorem rch_den {c:List Str}{es:Prs}{x y:Str}(h:MG.Rch (Ner c (nxtL c es)) x y):MG.Rch (Tie es) x y:=MG.Rch.map id (fun a b r=>by
 have:=(List.mem_filter.mp (show b∈nxtL c es a from r.2)).2
 exact(of_decide_eq_true this:(a,b)∈es)) h
def spKeepsW:Sp:=fun vs H Q _=>∃q us ks ts ws wn,vs=[.ref q]/\Rep H (.ref q) (houseD ks ts ws wn)/\FrH us ks ts ws wn/\∀H',Same H H'->Q (.bl (decP (WsR ks ts wn ws))) H'
theorem ok_keepsW {f:Addr}{fd:FuncData}(F:Fun K "keeps_waiting" "keeps_waiting" sKeepsWaiting f fd) (B:Blt mg) (cparting:Cal P w K mg base 3 "parting" ["house", "one", "other"] spPart) (cview:Cal P w K mg base 4 "view" ["house", "knot"] spView) (cnexts_of_all:Cal P w K mg base 3 "nexts_of_all" ["web"] (spNextsAllA false)) (csteps_from:Cal P w K mg base 1 "steps_from" ["table", "starts"] spStepsL):FnOk P w K mg base CX0 5 f fd ["house"] spKeepsW := by
 refine F.ok1 ["house","tables","tie","part"] fun nd H Q E hr h=>?_
 obtain⟨q,us,ks,ts,ws,wn,rfl,R,G,k⟩:=h
 have T:=G.T
 have tl:=G.tl
 rw[List.length_append] at tl
 obtain⟨q',a,b,c,d4,e0,hq,R1,R2,R3,R4⟩:=house_at R
 cases e0
 obtain⟨c',rc,e0,hc,rpc⟩:=pairsT_at R3
 cases e0
 have rl:=rpc.len
 rw[List.length_map] at rl
 refine⟨_,(pss_cons (pst 1 nd pe_dnewK)
  (pss_cons (ps_for PassesOwn.never rfl (pi_tupK K (px K hr (pv 0) pe_int)) (pg_name (i:=2) nd rfl (Or.inl rfl)) (pss_cons (pst 3 nd (pc cparting hr (pa_cons (pv 0) (p2 (px K hr (pv 2) pe_int) (px K hr (pv 2) pe_int)))))
  (pss_cons (ps_if (pt_cmpR (op_notInX K hr.units) (px K hr (pv 3) pe_int) (pv 1) (by with_unfolding_all rfl)) (pss_one (ps_asg (pc cnexts_of_all hr (p1 (pc cview hr (p2 (pv 0) (px K hr (pv 3) pe_int))))) (pg_sub (pv 1) (px K hr (pv 3) pe_int) (set_X hr.units)))) pss_nil)
  (pss_one (ps_if (pt_cmpR (op_notInX K hr.units) (px K hr (pv 3) pe_int) (pc csteps_from hr (p2 (px K hr (pv 1) (px K hr (pv 3) pe_int)) (pe_lst (p1 (px K hr (pv 3) pe_int))))) (by with_unfolding_all rfl)) (pss_one (ps_ret pe_bl)) pss_nil)))))
  (pss_one (ps_ret pe_bl)))),?_⟩
 intro tb htb
 have s0:=Same.new (o:=.dK []) htb
 refine⟨_,rfl,.tup (.of (s0 _ _ hq)) rfl ⟨c,rfl,⟨_,.of (s0 _ _ hc)⟩,?_⟩⟩
 refine for_tup (xs:=rc) (fun i σ H'=>∃(o2 o3:Option V) (kv:List (Key × V)),σ=[some (.ref q),some (.ref tb),o2,o3]/\Same H H'/\H' tb=some (.dK kv)/\kv.length<=i/\TbW H' tb ks ts wn kv/\WsR ks ts wn (ws.take i)) ⟨none,none,[],rfl,s0,upd_same,Nat.le_refl _,(fun n v e=>by cases e),fun e he=>by cases he⟩ ?_ ?_ ?_
 ·rintro i σ H' hi ⟨o2,o3,kv,rfl,sm,_⟩
  exact .of (sm _ _ hc)
 ·rintro i x σ H1 hx ⟨o2, o3, kv, rfl, s1, htb1, kl, tw, wr⟩
  obtain⟨e,ta,he,rfl,hta⟩:=pair_get rpc hx
  have hil:=(List.getElem?_eq_some_iff.mp he).1
  have em:=List.mem_of_getElem? he
  have w:=G.wp e em
  obtain⟨kk,hkk,x1,y1,hp,hx1,hy1⟩:∃kk∈ks,∃x1 y1,partO ks e.1 e.2=some (kk.1,x1,y1)/\x1∈kk.2/\y1∈kk.2:=by
   cases hpo:partO ks e.1 e.2 with
   | none=>exact absurd hpo w.2.2
   | some t3 =>
    obtain⟨kq,x1,y1⟩:=t3
    obtain⟨px1,py1,hx1,hy1,_⟩:=T.part w.1 w.2.1 hpo
    obtain⟨kk,hkk,hkn⟩:=List.mem_map.mp (T.par_in hx1).2
    rw[px1] at hkn
    have hkin:(kk.1,kk.2)∈ks:=hkk
    exact⟨kk,hkk,x1,y1,by rw[hkn],T.kid hx1 (by rw[px1,<- hkn];exact hkin),T.kid hy1 (by rw[py1,<- hkn];exact hkin)⟩
  refine name_go ?_
  refine⟨_,rfl,_,rfl,.tup (.of (s1 _ _ hta)) rfl ⟨_,rfl,.tup (.of (s1 _ _ hta)) rfl (nil_ ⟨q,us,ks,ts,ws,wn,e.1,e.2,rfl,R.same s1,T,w.1,w.2.1,fun v H2 s2 px=>?_⟩)⟩⟩
  rw[hp] at px
  obtain⟨tt,rfl,htt⟩:=px
  have s12:=s1.trans s2
  have htb2:=s2 _ _ htb1
  have tw2:=tw.same s2
  refine name_go ?_
  dsimp only
  refine seq_inv (fun σ' H'=>∃kv',σ'=[some (.ref q),some (.ref tb),some (.ref ta),some (.ref tt)]/\Same H H'/\H' tt=some (.tup [.str kk.1,.str x1,.str y1])/\H' tb=some (.dK kv')/\kv'.length<=i+1/\TbW H' tb ks ts wn kv'/\(valV kv' (.inr kk.1)).isSome=true) ?_ ?_
  ·rintro σ' H3 ⟨kv', rfl, s3, htt3, htb3, kl3, tw3, hs⟩
   obtain⟨v,hv⟩:=Option.isSome_iff_exists.mp hs
   obtain⟨k',d,hk',ek,rfl,ndt,tab⟩:=tw3 _ v hv
   have:=knot_one T hk' hkk ek
   subst this
   have ends:=view_ends T G.tp (wn:=wn) hk'
   refine⟨_,rfl,.tup (.of htt3) rfl ⟨_,rfl,_,rfl,.tup (.of htt3) rfl (.dic (.inl ⟨kv',.inr k'.1,.inl htb3,rfl,hv.symm⟩) ⟨_,rfl,.tup (.of htt3) rfl ⟨szl 1,fun lst hlst=>nil_ ?_⟩⟩)⟩⟩
   refine nw hlst fun H4 s4 e4=>?_
   have kl60:k'.2.length<=60:=Nat.le_trans (nd_len (kid_nodup T hk') fun u hu=>T.isIn hk' hu) T.len
   refine⟨d,lst,y1,k'.2,_,rfl,e4,tab.same s4,hy1,kl60,fun t _ u hu=>(List.mem_filter.mp hu).1,fun de kvs H5 s5 hde0 hde mem=>?_⟩
   refine .dic (DGet.k (k:=.inr x1) hde) ⟨_,rfl,?_⟩
   have s35:=s4.trans s5
   refine ite2 (fun h=>?_) (fun h=>?_)
   ·have nr:¬ WsR ks ts wn ws:=fun z=>by
       obtain⟨m,dst⟩:=(rch_ner ends (closes T hk' hp z em)).dst
       have:=(mem x1 (.int m)).mpr ⟨m,rfl,dst⟩
       rw[this] at h
       exact absurd h (by simp)
    have:=k H5 (s3.trans s35)
    rw[decF nr] at this
    exact this
   ·obtain⟨v,hv⟩:=Option.isSome_iff_exists.mp (Option.isSome_iff_ne_none.mpr (show valV kvs (.inr x1)≠none by simpa using h))
    obtain⟨m,_,dst⟩:=(mem x1 v).mp hv
    refine next_go ⟨_,_,kv',rfl,s3.trans s35,s35 _ _ htb3,kl3,tw3.same s35,?_⟩
    rw[List.take_add_one,he]
    intro e' he'
    rcases List.mem_append.mp he' with he' | he'
    ·exact wr e' he'
    ·have:e'=e:=by simpa using he'
     subst this
     exact⟨k',hk',x1,y1,hp,hx1,hy1,rch_den dst.rch⟩
  ·intro N hN
   refine⟨_,rfl,.tup (.of htt) rfl ⟨_,rfl,.dic (DGet.k (k:=.inr kk.1) htb2) ⟨_,rfl,?_⟩⟩⟩
   refine ite2 (fun h=>?_) (fun h=>next_go (hN _ _ ⟨kv,rfl,s12,htt,htb2,by omega,tw2,?_⟩))
   ·refine⟨_, rfl, _, rfl, .tup (.of htt) rfl (nil_ ⟨q, us, ks, ts, ws, wn, kk, rfl, R.same s12, T, G.tp, G.wf, hkk, by omega, fun vw H3 s3 rv => nil_ ?_⟩)⟩
    refine⟨vw,kk.2,_,rfl,webA (view_web T G.tp G.wf hkk (by omega) rv),fun dn H4 s4 hdn0 tab=>?_⟩
    have s34:=s3.trans s4
    have s14:=s12.trans s34
    have htb4:=s34 _ _ htb2
    have ndt:dn≠tb:=ne_of_none' (s3 _ _ htb2) hdn0
    have fr:H tb=none:=htb
    have pl:=length_putK kv (.inr kk.1) (V.ref dn)
    refine⟨_,rfl,_,rfl,.tup (.of (s34 _ _ htt)) rfl (.dic (DPut.k (k:=.inr kk.1) htb4 (small1000 (by omega))) (hN _ _ ⟨_,rfl,fun b o hb=>?_,?_,upd_same,by omega,fun n v hv=>?_,?_⟩))⟩
    ·rw[upd_ne (ne_of_none hb fr)];exact s14 _ _ hb
    ·rw[upd_ne (ne_of (s34 _ _ htt) htb4 (by intro z;cases z))];exact s34 _ _ htt
    ·rw[valV_put] at hv
     by_cases z:n=kk.1
     ·subst z
      rw[if_pos rfl] at hv
      exact⟨kk,dn,hkk,rfl,(Option.some.inj hv).symm,ndt,tab_other tab htb4 ndt⟩
     ·rw[if_neg (fun q=>z (by injection q))] at hv
      obtain⟨k2,d2,a1,a2,a3,a4,a5⟩:=tw2 n v hv
      exact⟨k2,d2,a1,a2,a3,a4,tab_other (a5.same s34) htb4 a4⟩
    ·rw[valV_put,if_pos rfl];rfl
   ·exact Option.isSome_iff_ne_none.mpr (by simpa using h)
 ·rintro σ H' ⟨o2,o3,kv,rfl,sm,_,_,_,wr⟩
  rw[rl,List.take_of_length_le (Nat.le_refl _)] at wr
  have:=k H' sm
  rw[decT wr] at this
  exact this
end
end K39
namespace K39
open PySem L2
section
variable {P:Program}{w:World}{K:W.Frag}{mg:Str->Option Value}{base:Heap}
def spIsHouse:Sp:=fun vs H Q _=>∃q us ks ts ws wn,vs=[.ref q]/\Rep H (.ref q) (houseD ks ts ws wn)/\FrH us ks ts ws wn/\∀H',Same H H'->Q (.bl (decP (GdH ks ts wn ws))) H'
theorem ok_ishouse {f:Addr}{fd:FuncData}(F:Fun K "is_house" "is_house" sIsHouse f fd) (B:Blt mg) (cis_frame:Cal P w K mg base 4 "is_frame" ["thing"] spFrame) (ckeeps_ties:Cal P w K mg base 4 "keeps_ties" ["house"] spKeepsT) (ckeeps_waiting:Cal P w K mg base 5 "keeps_waiting" ["house"] spKeepsW):FnOk P w K mg base CX0 6 f fd ["thing"] spIsHouse := by
 refine F.ok1 ["thing"] fun nd H Q E hr h=>?_
 obtain⟨q,us,ks,ts,ws,wn,rfl,R,G,k⟩:=h
 refine⟨_,(pss_one (ps_ret (pe_and (pc cis_frame hr (p1 (pv 0))) (pe_and (pc ckeeps_ties hr (p1 (pv 0))) (pe_one (pc ckeeps_waiting hr (p1 (pv 0)))))))),?_⟩
 refine⟨_,rfl,q,us,ks,ts,ws,wn,rfl,R,G,fun H1 s1=>⟨_,rfl,iteT ?_⟩⟩
 refine⟨_,rfl,q,us,ks,ts,ws,wn,rfl,R.same s1,G,fun H2 s2=>⟨_,rfl,?_⟩⟩
 have s12:=s1.trans s2
 refine ite2 (fun h=>?_) (fun h=>?_)
 ·refine⟨_,rfl,q,us,ks,ts,ws,wn,rfl,R.same s12,G,fun H3 s3=>?_⟩
  have h:=dec_iff.mp h
  have e:decP (WsR ks ts wn ws)=decP (GdH ks ts wn ws):=by
   rw[Bool.eq_iff_iff,dec_iff,dec_iff]
   exact⟨fun z=>⟨h,z⟩,fun z=>z.2⟩
  rw[e]
  exact k H3 (s12.trans s3)
 ·have z:¬ GdH ks ts wn ws:=fun z=>h (decT z.1)
  have:=k H2 s12
  rw[decF z] at this
  exact this
abbrev excL:List Str:=["OrderError","NoHouse"]
abbrev excC:List Str:=["OrderError","NoHouse"]
def spHouseOf (ec:Str->Addr):Sp:=fun vs H Q E=>∃(a b c d:Addr) (ra rb rc rd:List V) (us:List Str) (ks:Kn) (ts ws wn:Prs),vs=[.ref a,.ref b,.ref c,.ref d]/\SqA H a ra/\SqA H b rb/\SqA H c rc/\SqA H d rd/\RepAll H ra (ks.map knotD)/\RepAll H rb (ts.map pairD)/\RepAll H rc (ws.map pairD)/\RepAll H rd (wn.map pairD)/\FrH us ks ts ws wn /\
 (GdH ks ts wn ws->∀q H',Same H H'->Rep H' (.ref q) (houseD ks ts ws wn)->Q (.ref q) H')/\(¬ GdH ks ts wn ws->∀H',Same H H'->E (.ref (ec "NoHouse")) none H')
theorem ok_houseof {f:Addr}{fd:FuncData}{ec:Str -> Addr}(F:Fun K "house_of" "house_of" sHouseOf f fd) (B:Blt mg) (Er:Errs K mg base ec excL excC) (cis_house:Cal P w K mg base 6 "is_house" ["thing"] spIsHouse):FnOk P w K mg base (CX1 P w) 7 f fd ["knots", "ties", "waiting", "wants"] (spHouseOf ec) := by
 refine F.ok2 ["knots","ties","waiting","wants","parts","house"] fun nd H Q E hr h=>?_
 obtain⟨a,b,c,d,ra,rb,rc,rd,us,ks,ts,ws,wn,rfl,ha,hb,hc,hd,rpa,rpb,rpc,rpd,G,k,k0⟩:=h
 refine⟨_,(pss_cons (pst 4 nd (pe_lst (pa_cons (pv 0) (pa_cons (pv 1) (p2 (pv 2) (pv 3))))))
  (pss_cons (ps_if (pt_not (pt_val (b_all rfl B (p1 (pe_comp (defScope sHouseOf) ["knots","ties","waiting","wants","parts","house"] ["part"] [] ["part"] rfl (pi_listK K (pv 4)) (fun _ _ _ _ _=>(pg_name (i:=0) (show (["part"]:List Str).Nodup by decide) rfl (Or.inl rfl))) (fun _ _ _ _ _=>pts_nil) (fun _ _ _ _ _=>(b_isi2 K "list" "tuple" B (p2 (pv 0) (pe_tup (p2 (g_list B) (g_tuple B))))))))))) (pss_one (ps_raiseV Er (by decide) (by decide) rfl (p1 pe_str))) pss_nil)
  (pss_cons (pst 5 nd (b_tuple K B (p1 (pe_comp (defScope sHouseOf) ["knots","ties","waiting","wants","parts","house"] ["part"] [] ["part"] rfl (pi_listK K (pv 4)) (fun _ _ _ _ _=>(pg_name (i:=0) (show (["part"]:List Str).Nodup by decide) rfl (Or.inl rfl))) (fun _ _ _ _ _=>pts_nil) (fun _ _ _ _ _=>(b_tupX K B (p1 (pv 0))))))))
  (pss_cons (ps_if (pt_not (pt_val (pc cis_house hr (p1 (pv 5))))) (pss_one (ps_raiseV Er (by decide) (by decide) rfl (p1 pe_str))) pss_nil)
  (pss_one (ps_ret (pv 5))))))),?_⟩
 refine⟨_,rfl,_,rfl,_,rfl,_,rfl,szl 4,fun lp hlp=>?_⟩
 refine nw hlp fun H1 s1 e1=>?_
 refine name_go ?_
 dsimp only
 have pin:∀x∈[V.ref a,V.ref b,V.ref c,V.ref d],∃z zs,x=.ref z/\SqA H z zs:=fun x hx=>by
  simp only[List.mem_cons,List.not_mem_nil,or_false] at hx
  rcases hx with rfl | rfl | rfl | rfl
  ·exact⟨_,_,rfl,ha⟩
  ·exact⟨_,_,rfl,hb⟩
  ·exact⟨_,_,rfl,hc⟩
  ·exact⟨_,_,rfl,hd⟩
 refine⟨_,rfl,lp,rfl,⟨_,.of e1⟩,?_⟩
 refine all_lst e1 rfl (by show 4<=1000;decide) (fun x hx H' Q sm qq=>?_) fun H2 s2=>⟨_,rfl,iteF (next_go ?_)⟩
 ·obtain⟨z,zs,rfl,hz⟩:=pin x hx
  refine⟨_,rfl,szl 2,fun tp htp=>?_⟩
  refine nw htp fun H3 s3 e3=>nil_ ?_
  rcases SqA.same (SqA.same (SqA.same hz s1) sm) s3 with hz | hz
  ·exact⟨_,tp,_,true,rfl,e3,.lst hz,rfl,qq H3 s3⟩
  ·exact⟨_,tp,_,true,rfl,e3,.tup hz,rfl,qq H3 s3⟩
 have s12:=s1.trans s2
 refine⟨_,rfl,lp,rfl,⟨_,.of (s2 _ _ e1)⟩,?_⟩
 have get:∀(j:Nat) (x:V),[V.ref a,V.ref b,V.ref c,V.ref d][j]? = some x->∃z r,x=.ref z/\[ra,rb,rc,rd][j]? = some r/\SqA H z r:=fun j x hx=>by
  match j,hx with
  | 0,hx=>exact⟨a,ra,(Option.some.inj hx).symm,rfl,ha⟩
  | 1,hx=>exact⟨b,rb,(Option.some.inj hx).symm,rfl,hb⟩
  | 2,hx=>exact⟨c,rc,(Option.some.inj hx).symm,rfl,hc⟩
  | 3,hx=>exact⟨d,rd,(Option.some.inj hx).symm,rfl,hd⟩
 refine comp_list [V.ref a,V.ref b,V.ref c,V.ref d] (fun D i acc σ' H'=>∃(o:Option V) (zs:List Addr),σ'=[o]/\acc=zs.map V.ref/\zs.length=i/\(∀(j:Nat) (z:Addr),zs[j]? = some z->∃r,[ra,rb,rc,rd][j]? = some r/\H' z=some (.tup r))/\Same H2 H'/\H2 D=none) fun D hD=>⟨?_,?_,?_,?_⟩
 ·exact⟨none,[],rfl,rfl,rfl,(fun j z h=>by cases h),Same.new hD,hD⟩
 ·rintro i acc σ' H' _ ⟨o,zs,rfl,_,_,_,sm,_⟩ _
  exact .of (sm _ _ (s2 _ _ e1))
 ·rintro i acc σ' H' x hx ⟨o, zs, rfl, rfl, zl, zat, sm, hD0⟩ hacc
  have hil:i<4:=(List.getElem?_eq_some_iff.mp hx).1
  obtain⟨z,r,rfl,hr,hz⟩:=get i x hx
  have fin:∀(z:Addr) (H3:Hp), Same H' H3 -> H3 z=some (.tup r) -> ∀(j:Nat) (z':Addr), (zs ++ [z])[j]? = some z' -> ∃r, [ra, rb, rc, rd][j]? = some r /\ upd H3 D (.lst (zs.map V.ref ++ [V.ref z])) z'=some (.tup r) := fun z H3 s3 hz3 j z' hj => by
   have hD3:=s3 _ _ hacc
   have cs:∃r,[ra,rb,rc,rd][j]? = some r/\H3 z'=some (.tup r):=by
    by_cases h:j<zs.length
    ·rw[List.getElem?_append_left h] at hj
     obtain⟨r',a1,a2⟩:=zat j z' hj
     exact⟨r',a1,s3 _ _ a2⟩
    ·rw[List.getElem?_append_right (by omega)] at hj
     have hl:=(List.getElem?_eq_some_iff.mp hj).1
     have hl:j-zs.length<1:=hl
     have ej:j=i:=by omega
     subst ej
     rw[show j-zs.length=0 by omega] at hj
     have:z=z':=Option.some.inj hj
     subst this
     exact⟨r,hr,hz3⟩
   obtain⟨r',a1,a2⟩:=cs
   exact⟨r',a1,by rw[upd_ne (ne_of a2 hD3 (by intro z;cases z))];exact a2⟩
  have sz:(zs.map V.ref).length<sizeLine:=by rw[List.length_map];exact small1000 (by omega)
  have hz':=SqA.same (SqA.same hz s12) sm
  refine gYes ?_
  refine⟨_,rfl,_,rfl,?_⟩
  rcases hz' with hz' | hz'
  ·refine .lst (.of hz') fun l hl=>?_
   refine nw hl fun H3 s3 e3=>?_
   exact⟨s3 _ _ hacc,sz,_,zs++[l],rfl,by rw[List.map_append];rfl,by rw[List.length_append];show zs.length+1=_;omega,fin l H3 s3 e3,same_at (sm.trans s3) hD0,hD0⟩
  ·exact .tup (.of hz') ⟨hacc,sz,_,zs++[z],rfl,by rw[List.map_append];rfl,by rw[List.length_append];show zs.length+1=_;omega,fin z H' (Same.refl _) hz',same_at sm hD0,hD0⟩
 ·rintro acc σ' H3 ⟨o,zs,rfl,rfl,zl,zat,s3,hD0⟩ hacc
  obtain⟨z1,z2,z3,z4,rfl⟩:∃z1 z2 z3 z4,zs=[z1,z2,z3,z4]:=by
   match zs,zl with
   | [z1,z2,z3,z4],_=>exact⟨_,_,_,_,rfl⟩
  have h1:H3 z1=some (.tup ra):=by obtain⟨r,e,h⟩:=zat 0 z1 rfl;rw[Option.some.inj e];exact h
  have h2:H3 z2=some (.tup rb):=by obtain⟨r,e,h⟩:=zat 1 z2 rfl;rw[Option.some.inj e];exact h
  have h3:H3 z3=some (.tup rc):=by obtain⟨r,e,h⟩:=zat 2 z3 rfl;rw[Option.some.inj e];exact h
  have h4:H3 z4=some (.tup rd):=by obtain⟨r,e,h⟩:=zat 3 z4 rfl;rw[Option.some.inj e];exact h
  refine nil_ ⟨D,_,rfl,.of hacc,fun hq hhq=>?_⟩
  refine nw hhq fun H4 s4 e4=>?_
  refine name_go ?_
  dsimp only
  have s14:=(s12.trans s3).trans s4
  have R:Rep H4 (.ref hq) (houseD ks ts ws wn):=house_rep e4 (.tup (s4 _ _ h1) (rpa.same s14)) (.tup (s4 _ _ h2) (rpb.same s14)) (.tup (s4 _ _ h3) (rpc.same s14)) (.tup (s4 _ _ h4) (rpd.same s14))
  refine⟨_,rfl,hq,us,ks,ts,ws,wn,rfl,R,G,fun H5 s5=>⟨_,rfl,?_⟩⟩
  by_cases gd:GdH ks ts wn ws
  ·rw[decT gd]
   refine iteF (next_go ?_)
   exact⟨_,rfl,k gd hq H5 (s14.trans s5) (R.same s5)⟩
  ·rw[decF gd]
   refine iteT ?_
   exact⟨by show 1<=sizeLine;decide,k0 gd H5 (s14.trans s5)⟩
end
end K39
namespace K39
open PySem L2
section
variable {P:Program}{w:World}{K:W.Frag}{mg:Str->Option Value}{base:Heap}
theorem view_ne {us:List Str}{ks:Kn}(T:Tre us ks) {ts wn:Prs}(tok:TsP us ks ts) {k:Str × List Str}:∀e ∈ viewE ks ts wn k.1 k.2, e.1 ≠ e.2 := fun e he => by
 unfold viewE at he
 rw[dedTo_mem,List.mem_append,List.mem_append] at he
 rcases he with he | he | he | he
 ·cases he
 ·obtain⟨z, hz, q⟩ := List.mem_filterMap.mp he
  obtain⟨hu,hv',_⟩:=tok z hz
  unfold basO at q
  cases hpo:partO ks z.1 z.2 with
  | none=>rw[hpo] at q;cases q
  | some t3 =>
   obtain⟨kq,x1,y1⟩:=t3
   rw[hpo] at q
   have q:(if kq=k.1 then some (x1,y1) else none)=some e:=q
   by_cases hz:kq=k.1
   ·rw[if_pos hz] at q
    have q:=Option.some.inj q
    subst q
    exact(T.part hu hv' hpo).2.2.2.2
   ·rw[if_neg hz] at q;cases q
 ·obtain⟨u,hu,he⟩:=List.mem_flatMap.mp he
  obtain⟨v,hv,e'⟩:=List.mem_map.mp he
  have e':(u,v)=e:=e'
  subst e'
  rw[List.mem_filter,decide_eq_true_iff] at hv
  exact fun z=>hv.2 z.symm
 ·obtain⟨u,hu,he⟩:=List.mem_flatMap.mp he
  obtain⟨v,hv,e'⟩:=List.mem_map.mp he
  have e':(v,u)=e:=e'
  subst e'
  rw[List.mem_filter,decide_eq_true_iff] at hv
  exact hv.2
def spGood:Sp:=fun vs H Q _=>∃q us ks ts ws wn,vs=[.ref q]/\Rep H (.ref q) (houseD ks ts ws wn)/\FrH us ks ts ws wn/\∀H',Same H H'->Q (.bl (decP (GdH ks ts wn ws))) H'
theorem ok_good {f:Addr}{fd:FuncData}(F:Fun K "_law_good" "_law_good" sGood f fd) (B:Blt mg) (c_law_around:Cal P w K mg base 1 "_law_around" ["_law_knots"] spAround) (c_law_parting:Cal P w K mg base 2 "_law_parting" ["_law_around_here", "_law_one", "_law_other"] spPartBy) (c_law_edges:Cal P w K mg base 3 "_law_edges" ["_law_house_here", "_law_knot"] spEdges) (c_law_reached:Cal P w K mg base 1 "_law_reached" ["_law_edges_here", "_law_one"] spReachL):FnOk P w K mg base CX0 4 f fd ["_law_house_here"] spGood := by
 refine F.ok1 ["_law_house_here","_law_name","_law_some","_law_one","_law_other","_law_around_here","_law_knot","_law_here","_law_there"] fun nd H Q E hr h=>?_
 obtain⟨q,us,ks,ts,ws,wn,rfl,R,G,k⟩:=h
 have T:=G.T
 have tl:=G.tl
 rw[List.length_append] at tl
 have wl:=G.wl
 obtain⟨q',a,b,c,d4,e0,hq,R1,R2,R3,R4⟩:=house_at R
 cases e0
 obtain⟨a',ra,e0,ha,rpa⟩:=knots_at R1
 cases e0
 obtain⟨c',rc,e0,hc,rpc⟩:=pairsT_at R3
 cases e0
 have rl:=rpa.len
 have cl:=rpc.len
 rw[List.length_map] at rl cl
 refine⟨_,(pss_cons (ps_for PassesOwn.never rfl (pi_tupK K (px K hr (pv 0) pe_int)) (pg_tupK (n:=2) K rfl (pgs_cons (pg_name (i:=1) nd rfl (Or.inl rfl)) (pgs_cons (pg_name (i:=2) nd rfl (Or.inl rfl)) pgs_nil))) (pss_one (ps_for PassesOwn.never rfl (pi_listK K (pc c_law_edges hr (p2 (pv 0) (pv 1)))) (pg_tupK (n:=2) K rfl (pgs_cons (pg_name (i:=3) nd rfl (Or.inl rfl)) (pgs_cons (pg_name (i:=4) nd rfl (Or.inl rfl)) pgs_nil))) (pss_one (ps_if (pt_cmpR op_gt (m_indexTT (pv 2) (p1 (pv 3))) (m_indexTT (pv 2) (p1 (pv 4))) (nomark _)) (pss_one (ps_ret pe_bl)) pss_nil)))))
  (pss_cons (pst 5 nd (pc c_law_around hr (p1 (px K hr (pv 0) pe_int))))
  (pss_cons (ps_for PassesOwn.never rfl (pi_tupK K (px K hr (pv 0) pe_int)) (pg_tupK (n:=2) K rfl (pgs_cons (pg_name (i:=3) nd rfl (Or.inl rfl)) (pgs_cons (pg_name (i:=4) nd rfl (Or.inl rfl)) pgs_nil))) (pss_cons (ps_asg (pc c_law_parting hr (pa_cons (pv 5) (p2 (pv 3) (pv 4)))) (pg_tupK (n:=3) K rfl (pgs_cons (pg_name (i:=6) nd rfl (Or.inl rfl)) (pgs_cons (pg_name (i:=7) nd rfl (Or.inl rfl)) (pgs_cons (pg_name (i:=8) nd rfl (Or.inl rfl)) pgs_nil)))))
  (pss_one (ps_if (pt_cmpR (op_notInX K hr.units) (pv 7) (pc c_law_reached hr (p2 (pc c_law_edges hr (p2 (pv 0) (pv 6))) (pv 8))) (by with_unfolding_all rfl)) (pss_one (ps_ret pe_bl)) pss_nil))))
  (pss_one (ps_ret pe_bl))))),?_⟩
 refine⟨_,rfl,.tup (.of hq) rfl ⟨a,rfl,⟨_,.of ha⟩,?_⟩⟩
 refine for_tup (xs:=ra) (fun i σ H'=>∃(o1 o2 o3 o4:Option V),σ=[some (.ref q),o1,o2,o3,o4,none,none,none,none]/\Same H H'/\∀k∈ks.take i,Fw1 ks ts wn k) ⟨none,none,none,none,rfl,Same.refl _,fun k hk=>by cases hk⟩ ?_ ?_ ?_
 ·rintro i σ H' hi ⟨o1,o2,o3,o4,rfl,sm,_⟩
  exact .of (sm _ _ ha)
 ·rintro i x σ H' hx ⟨o1, o2, o3, o4, rfl, sm, fw⟩
  obtain⟨kn,ta,la,hk,rfl,hta,hla⟩:=knot_get rpa hx
  have hkm:=List.mem_of_getElem? hk
  have cn:=kid_nodup T hkm
  have ends:=view_ends T G.tp (wn:=wn) hkm
  have ne:=view_ne T G.tp (wn:=wn) (k:=kn)
  refine⟨ta,_,rfl,.of (sm _ _ hta),rfl,_,_,rfl,_,_,rfl,rfl,?_⟩
  refine⟨_,rfl,_,rfl,q,us,ks,ts,ws,wn,kn.1,kn.2,rfl,R.same sm,T,G.tp,G.wf,hkm,by omega,wl,fun le re H9 s9 hle0 hle rpe _ hpe=>?_⟩
  have sm9:=sm.trans s9
  have rle:=rpe.len
  rw[List.length_map] at rle
  refine⟨le,rfl,⟨_,.of hle⟩,?_⟩
  refine for_list (xs:=re) (fun j σ H'=>∃(o3 o4:Option V),σ=[some (.ref q),some (.str kn.1),some (.ref la),o3,o4,none,none,none,none]/\Same H9 H'/\∀e∈(viewE ks ts wn kn.1 kn.2).take j,MG.ix kn.2 e.1<MG.ix kn.2 e.2) ⟨_,_,rfl,Same.refl _,fun e he=>by cases he⟩ ?_ ?_ ?_
  ·rintro j σ H' hj ⟨o3,o4,rfl,sj,_⟩
   exact .of (sj _ _ hle)
  ·rintro j x σ H' hx ⟨o3, o4, rfl, sj, fj⟩
   obtain⟨e,te,he,rfl,hte⟩:=pair_get rpe hx
   have em:=List.mem_of_getElem? he
   have cx:=(ends e em).1
   have cy:=(ends e em).2
   have hla':=sj _ _ (sm9 _ _ hla)
   refine⟨te,_,rfl,.of (sj _ _ hte),rfl,_,_,rfl,_,_,rfl,rfl,?_⟩
   refine⟨_,rfl,⟨la,_,rfl,hla'⟩,_,rfl,nil_ (idx_str hla' cn cx ⟨_,rfl,⟨la,_,rfl,hla'⟩,_,rfl,nil_ (idx_str hla' cn cy ⟨_,_,rfl,rfl,_,rfl,?_⟩)⟩)⟩
   refine ite2 (fun hgt=>?_) (fun hng=>?_)
   ·have hgt:((MG.ix kn.2 e.2:Nat):Int)<((MG.ix kn.2 e.1:Nat):Int):=of_decide_eq_true hgt
    have bad:¬ GdH ks ts wn ws:=fun z=>by
     have:=z.1 kn hkm e em
     omega
    have:=k H' (sm9.trans sj)
    rw[decF bad] at this
    exact this
   ·have hng:¬ ((MG.ix kn.2 e.2:Nat):Int)<((MG.ix kn.2 e.1:Nat):Int):=fun z=>hng (decide_eq_true z)
    have hne:MG.ix kn.2 e.1≠MG.ix kn.2 e.2:=fun z=>ne e em (MG.ix_inj cx cy z)
    refine next_go ⟨_,_,rfl,sj,?_⟩
    rw[List.take_add_one,he]
    intro e' he'
    rcases List.mem_append.mp he' with he' | he'
    ·exact fj e' he'
    ·have:e'=e:=by simpa using he'
     subst this
     omega
  ·rintro σ H' ⟨o3,o4,rfl,sj,fj⟩
   rw[rle,List.take_of_length_le (Nat.le_refl _)] at fj
   refine⟨_,_,_,_,rfl,sm9.trans sj,?_⟩
   rw[List.take_add_one,hk]
   intro k' hk'
   rcases List.mem_append.mp hk' with hk' | hk'
   ·exact fw k' hk'
   ·have:k'=kn:=by simpa using hk'
    subst this
    exact fj
 rintro σ H1 ⟨o1,o2,o3,o4,rfl,s1,fw⟩
 rw[rl,List.take_of_length_le (Nat.le_refl _)] at fw
 have ulen:=T.len
 refine⟨_,rfl,.tup (.of (s1 _ _ hq)) rfl (nil_ ⟨a,us,ks,rfl,R1.same s1,T,fun d kvs H7 s7 hd0 hd ar=>?_⟩)⟩
 have s17:=s1.trans s7
 refine name_go ?_
 dsimp only
 refine⟨_,rfl,.tup (.of (s17 _ _ hq)) rfl ⟨c,rfl,⟨_,.of (s17 _ _ hc)⟩,?_⟩⟩
 refine for_tup (xs:=rc) (fun i σ H'=>∃(o3 o4 o6 o7 o8:Option V),σ=[some (.ref q),o1,o2,o3,o4,some (.ref d),o6,o7,o8]/\Same H7 H'/\WsR ks ts wn (ws.take i)) ⟨_,_,none,none,none,rfl,Same.refl _,fun e he=>by cases he⟩ ?_ ?_ ?_
 ·rintro i σ H' hi ⟨o3,o4,o6,o7,o8,rfl,sm,_⟩
  exact .of (sm _ _ (s17 _ _ hc))
 ·rintro i x σ H' hx ⟨o3, o4, o6, o7, o8, rfl, sm, wr⟩
  obtain⟨e,ta,he,rfl,hta⟩:=pair_get rpc hx
  have em:=List.mem_of_getElem? he
  have w:=G.wp e em
  have s1':=s17.trans sm
  refine⟨ta,_,rfl,.of (s1' _ _ hta),rfl,_,_,rfl,_,_,rfl,rfl,?_⟩
  obtain⟨kk,hkk,x1,y1,hp,hx1,hy1,hx1u,hy1u⟩:∃kk∈ks,∃x1 y1,partO ks e.1 e.2=some (kk.1,x1,y1)/\x1∈kk.2/\y1∈kk.2/\x1∈us/\y1∈us:=by
   cases hpo:partO ks e.1 e.2 with
   | none=>exact absurd hpo w.2.2
   | some t3 =>
    obtain⟨kq,x1,y1⟩:=t3
    obtain⟨px1,py1,hx1,hy1,_⟩:=T.part w.1 w.2.1 hpo
    obtain⟨kk,hkk,hkn⟩:=List.mem_map.mp (T.par_in hx1).2
    rw[px1] at hkn
    have hkin:(kk.1,kk.2)∈ks:=hkk
    exact⟨kk,hkk,x1,y1,by rw[hkn],T.kid hx1 (by rw[px1,<- hkn];exact hkin),T.kid hy1 (by rw[py1,<- hkn];exact hkin),hx1,hy1⟩
  refine⟨_,rfl,_,rfl,_,rfl,d,kvs,us,ks,e.1,e.2,rfl,sm _ _ hd,ar,T,w.1,w.2.1,fun v H8 s8 px=>?_⟩
  rw[hp] at px
  obtain⟨tt,rfl,htt⟩:=px
  refine⟨tt,_,rfl,.of htt,rfl,_,_,rfl,_,_,rfl,_,_,rfl,rfl,?_⟩
  have s18:=s1'.trans s8
  refine⟨_,rfl,_,rfl,_,rfl,q,us,ks,ts,ws,wn,kk.1,kk.2,rfl,R.same s18,T,G.tp,G.wf,hkk,by omega,wl,fun le re H9 s9 hle0 hle rpe _ hpe=>?_⟩
  refine⟨_,rfl,le,re,us,_,y1,rfl,hle,rpe,hpe,hy1u,ulen,fun lr fs HA sA hlr0 hlr mem _=>?_⟩
  have s8A:=s9.trans sA
  refine .seq (.inl (.of hlr)) rfl (flat_strs _) ⟨_,rfl,?_⟩
  rw[in_strs]
  refine ite2 (fun hni=>?_) (fun hin=>?_)
  ·have hni:x1∉fs:=by simpa using hni
   have bad:¬ GdH ks ts wn ws:=fun z=>hni ((mem x1).mpr (closes T hkk hp z.2 em))
   have:=k HA (s18.trans s8A)
   rw[decF bad] at this
   exact this
  ·have hin:x1∈fs:=by simpa using hin
   refine next_go ⟨_,_,_,_,_,rfl,(sm.trans s8).trans s8A,?_⟩
   rw[List.take_add_one,he]
   intro e' he'
   rcases List.mem_append.mp he' with he' | he'
   ·exact wr e' he'
   ·have:e'=e:=by simpa using he'
    subst this
    exact⟨kk,hkk,x1,y1,hp,hx1,hy1,(mem x1).mp hin⟩
 ·rintro σ H' ⟨o3,o4,o6,o7,o8,rfl,sm,wr⟩
  rw[cl,List.take_of_length_le (Nat.le_refl _)] at wr
  have:=k H' (s17.trans sm)
  rw[decT ⟨fw,wr⟩] at this
  exact this
end
end K39
namespace K39
open PySem L2
section
variable {P:Program}{w:World}{K:W.Frag}{mg:Str->Option Value}{base:Heap}
def rowK (knot:Str) (row:List Str) (k:Str × List Str):Str × List Str:=if k.1=knot then (knot,row) else k
theorem rowK_1 {knot:Str}{row:List Str}(k:Str × List Str):(rowK knot row k).1=k.1:=by
 unfold rowK
 split
 ·rename_i h;exact h.symm
 ·rfl
theorem rowK_one {us:List Str}{ks:Kn}(T:Tre us ks) {kk k:Str × List Str}(hkk:kk∈ks) (hk:k∈ks) (e:k.1=kk.1):k=kk:=by
 obtain⟨i,hi⟩:=List.getElem?_of_mem hk
 obtain⟨j,hj⟩:=List.getElem?_of_mem hkk
 have hi2:(ks.map (·.1))[i]? = some k.1:=by rw[List.getElem?_map,hi];rfl
 have hj2:(ks.map (·.1))[j]? = some k.1:=by rw[List.getElem?_map,hj,e];rfl
 have hij:i=j:=by rw[<- MG.ix_at T.kn hi2,<- MG.ix_at T.kn hj2]
 subst hij
 rw[hi] at hj
 exact Option.some.inj hj
theorem rowK_mem {us:List Str}{ks:Kn}(T:Tre us ks) {kk k:Str × List Str}{row:List Str}(hkk:kk∈ks) (hk:k∈ks) (p:row.Perm kk.2) (u:Str):u∈(rowK kk.1 row k).2 ↔ u∈k.2:=by
 unfold rowK
 split
 ·rename_i h
  rw[rowK_one T hkk hk h]
  exact p.mem_iff
 ·exact Iff.rfl
theorem find_map_congr {α:Type}{f:α->α}{p:α->Bool}:∀ {l:List α},(∀x∈l,p (f x)=p x)->(l.map f).find? p=(l.find? p).map f
 | [],_=>rfl
 | x::l,h=>by
  rw[List.map_cons,List.find?_cons,List.find?_cons,h x (List.mem_cons_self ..)]
  cases p x with
  | true=>rfl
  | false=>exact find_map_congr fun y hy=>h y (List.mem_cons_of_mem _ hy)
theorem parK_row {us:List Str}{ks:Kn}(T:Tre us ks) {kk:Str × List Str}{row:List Str}(hkk:kk∈ks) (p:row.Perm kk.2) (u:Str):parK (ks.map (rowK kk.1 row)) u=parK ks u:=by
 unfold parK
 rw[find_map_congr (f:=rowK kk.1 row) fun k hk=>decide_eq_decide.mpr (rowK_mem T hkk hk p u),Option.map_map]
 congr 2
 funext k
 exact rowK_1 k
theorem partO_row {us:List Str}{ks:Kn}(T:Tre us ks) {kk:Str × List Str}{row:List Str}(hkk:kk∈ks) (p:row.Perm kk.2) (u v:Str):partO (ks.map (rowK kk.1 row)) u v=partO ks u v:=by
 have e:parK (ks.map (rowK kk.1 row))=parK ks:=funext fun u=>parK_row T hkk p u
 unfold partO lin
 rw[e]
theorem kids_row {kk:Str × List Str}{row:List Str}(p:row.Perm kk.2):∀ {ks:Kn}, (∀k ∈ ks, k.1=kk.1 -> k=kk) -> (kids (ks.map (rowK kk.1 row))).Perm (kids ks)
 | [],_=>.refl _
 | k::ks,h=>by
  show ((rowK kk.1 row k).2++kids (ks.map (rowK kk.1 row))).Perm (k.2++kids ks)
  refine List.Perm.append ?_ (kids_row p fun x hx=>h x (List.mem_cons_of_mem _ hx))
  unfold rowK
  split
  ·rename_i e
   rw[h k (List.mem_cons_self ..) e]
   exact p
  ·exact .refl _
theorem Tre_row {us:List Str}{ks:Kn}(T:Tre us ks) {kk:Str × List Str}{row:List Str}(hkk:kk∈ks) (p:row.Perm kk.2):Tre us (ks.map (rowK kk.1 row)):=by
 have e1:(ks.map (rowK kk.1 row)).map (·.1)=ks.map (·.1):=by
  rw[List.map_map]
  exact List.map_congr_left fun k _=>rowK_1 k
 refine⟨(kids_row p fun k hk e=>rowK_one T hkk hk e).trans T.perm,T.nd,T.nm,T.len,by rw[e1];exact T.top,by rw[e1];exact T.kn,fun k hk=>?_,fun k hk u hu=>?_⟩
 ·obtain⟨k0,h0,rfl⟩:=List.mem_map.mp hk
  rw[rowK_1]
  exact T.sub k0 h0
 ·obtain⟨k0,h0,rfl⟩:=List.mem_map.mp hk
  rw[rowK_1]
  exact T.up k0 h0 u ((rowK_mem T hkk h0 p u).mp hu)
theorem map_id' {α:Type}{f:α->α}:∀ {l:List α},(∀x∈l,f x=x)->l.map f=l
 | [],_=>rfl
 | x::l,h=>by rw[List.map_cons,h x (List.mem_cons_self ..),map_id' fun y hy=>h y (List.mem_cons_of_mem _ hy)]
theorem rowK_set {kk:Str × List Str}{row:List Str}:∀ {ks:Kn}{j:Nat},(ks.map (·.1)).Nodup->ks[j]? = some kk->ks.take j++(kk.1,row)::ks.drop (j+1)=ks.map (rowK kk.1 row)
 | [],j,_,h=>by simp at h
 | k::ks,0,nd,h=>by
  have h:k=kk:=by simpa using h
  subst h
  rw[List.map_cons,List.nodup_cons] at nd
  show (k.1,row)::ks=rowK k.1 row k::ks.map (rowK k.1 row)
  have e:rowK k.1 row k=(k.1,row):=if_pos rfl
  rw[e,map_id' (f:=rowK k.1 row) fun x hx=>if_neg fun z=>nd.1 (List.mem_map.mpr ⟨x,hx,z⟩)]
 | k::ks,j+1,nd,h=>by
  have h:ks[j]? = some kk:=by simpa using h
  rw[List.map_cons,List.nodup_cons] at nd
  have e:rowK kk.1 row k=k:=if_neg fun z=>nd.1 (List.mem_map.mpr ⟨kk,List.mem_of_getElem? h,z.symm⟩)
  show k::(ks.take j++(kk.1,row)::ks.drop (j+1))=rowK kk.1 row k::ks.map (rowK kk.1 row)
  rw[e,rowK_set nd.2 h]
theorem FrH.row {us:List Str}{ks:Kn}{ts ws wn:Prs}(G:FrH us ks ts ws wn) {kk:Str × List Str}{row:List Str}(hkk:kk ∈ ks) (p:row.Perm kk.2):FrH us (ks.map (rowK kk.1 row)) ts ws wn := by
 have T:=G.T
 have e1:(ks.map (rowK kk.1 row)).map (·.1)=ks.map (·.1):=by
  rw[List.map_map]
  exact List.map_congr_left fun k _=>rowK_1 k
 have pr:∀ {l:Prs},TsP us ks l->TsP us (ks.map (rowK kk.1 row)) l:=fun h e he=>⟨(h e he).1,(h e he).2.1,by rw[partO_row T hkk p];exact(h e he).2.2⟩
 refine⟨Tre_row T hkk p,by rw[e1];exact G.hdn,?_,pr G.tp,pr G.wp,G.nd,⟨G.wf.ok,G.wf.un,?_⟩,G.tl,G.wl⟩
 ·obtain⟨d,d0,du,dl⟩:=G.dpt
  refine⟨d,d0,fun k hk u hu hn=>?_,fun k hk=>?_⟩
  ·obtain⟨k0,h0,rfl⟩:=List.mem_map.mp hk
   rw[e1] at hn
   rw[rowK_1]
   exact du k0 h0 u ((rowK_mem T hkk h0 p u).mp hu) hn
  ·obtain⟨k0,h0,rfl⟩:=List.mem_map.mp hk
   rw[rowK_1]
   exact dl k0 h0
 ·have:(fun e:Str × Str=>(e.1,parK (ks.map (rowK kk.1 row)) e.2))=fun e=>(e.1,parK ks e.2):=funext fun e=>by rw[parK_row T hkk p]
  rw[this];exact G.wf.wd
theorem FrH.ties {us:List Str}{ks:Kn}{ts ws wn ts' ws':Prs}(G:FrH us ks ts ws wn) (h:∀e∈ts'++ws',e.1∈us/\e.2∈us/\partO ks e.1 e.2≠none) (nd:(ts'++ws').Nodup) (l:(ts'++ws').length<=200):FrH us ks ts' ws' wn :=
 ⟨G.T,G.hdn,G.dpt,fun e he=>h e (List.mem_append_left _ he),fun e he=>h e (List.mem_append_right _ he),nd,G.wf,l,G.wl⟩
theorem FrH.wants {us:List Str}{ks:Kn}{ts ws wn wn':Prs}(G:FrH us ks ts ws wn) (W:WnF us ks wn') (l:wn'.length<=122):FrH us ks ts ws wn':=⟨G.T,G.hdn,G.dpt,G.tp,G.wp,G.nd,W,G.tl,l⟩
theorem WnF.sub {us:List Str}{ks:Kn}{wn wn':Prs}(W:WnF us ks wn) (s:wn'.Sublist wn):WnF us ks wn':=⟨fun e he=>W.ok e (s.subset he),(s.map _).nodup W.un,(s.map _).nodup W.wd⟩
theorem WnF.add {us:List Str}{ks:Kn}{wn wn':Prs}(W:WnF us ks wn) {word u:Str}(hw:word="first"∨word="last") (hu:u∈us) (p:wn'.Perm ((word,u)::wn)) (n1:∀e∈wn,e.2≠u) (n2:∀e∈wn,e.1≠word∨parK ks e.2≠parK ks u):WnF us ks wn':=by
 refine⟨fun e he=>?_,?_,?_⟩
 ·rcases List.mem_cons.mp (p.mem_iff.mp he) with rfl | he
  ·exact⟨hw,hu⟩
  ·exact W.ok e he
 ·rw[(p.map _).nodup_iff,List.map_cons,List.nodup_cons]
  refine⟨fun z=>?_,W.un⟩
  obtain⟨e,he,q⟩:=List.mem_map.mp z
  exact n1 e he q
 ·rw[(p.map _).nodup_iff,List.map_cons,List.nodup_cons]
  refine⟨fun z=>?_,W.wd⟩
  obtain⟨e,he,q⟩:=List.mem_map.mp z
  obtain⟨q1,q2⟩:=Prod.mk.inj q
  rcases n2 e he with n | n
  ·exact n q1
  ·exact n q2
theorem sub_fewer {α:Type}(l:List α) (m:Nat):(l.take m++l.drop (m+1)).Sublist l:=by
 have h:=(List.Sublist.refl (l.take m)).append (List.drop_sublist 1 (l.drop m))
 rw[List.drop_drop,List.take_append_drop] at h
 exact h
def spFewer (K:W.Frag):Sp:=fun vs H Q _=>∃(p a t refs:_) (ps:Prs),vs=[.ref p,.ref t]/\Pen K H p a/\H t=some (.tup refs)/\RepAll H refs (ps.map pairD)/\ps.length<=400/\∀(t':Addr) (refs':List V) (ps':Prs) H',H' t'=some (.tup refs')->RepAll H' refs' (ps'.map pairD)->ps'.Sublist ps->PenV H' p a->But p H H'->Q (.ref t') H'
theorem ok_fewer {f:Addr}{fd:FuncData}(F:Fun K "_law_fewer" "_law_fewer" sFewer f fd) (B:Blt mg) (c_law_draw:Cal P w K mg base 1 "_law_draw" ["_law_pen_here","_law_most"] (spDraw K)):FnOk P w K mg base CX0 2 f fd ["_law_pen_here","_law_some"] (spFewer K):=by
 refine F.ok1 ["_law_pen_here","_law_some","_law_at"] fun nd H Q E hr h=>?_
 obtain⟨p,a,t,refs,ps,rfl,hP,ht,rp,pl,k⟩:=h
 have rl:=rp.len
 rw[List.length_map] at rl
 refine⟨_,(pss_cons (ps_if (pt_cmpR (op_eqX hr.units) (b_len K B (p1 (pv 1))) pe_int (nomark _)) (pss_one (ps_ret (pv 1))) pss_nil)
  (pss_cons (pst 2 nd (pc c_law_draw hr (p2 (pv 0) (b_len K B (p1 (pv 1))))))
  (pss_one (ps_ret (pe_op op_catTB (pe_slice sl_tupA (pv 1) po_none (po_some (pv 2))) (pe_slice sl_tupA (pv 1) (po_some (pe_op op_addX (pv 2) pe_int)) po_none)))))),?_⟩
 refine⟨_,rfl,_,_,rfl,Or.inr ⟨_,.of ht,rfl⟩,.sc rfl ⟨_,rfl,ite2 (fun _=>?_) (fun h0=>next_go ?_)⟩⟩
 ·exact⟨_,rfl,k t refs ps H ht rp (List.Sublist.refl _) hP.2 (But.refl p H)⟩
 ·have n0:refs.length≠0:=fun z=>h0 (by rw[z];decide)
  refine⟨_,rfl,_,rfl,_,_,rfl,Or.inr ⟨_,.of ht,rfl⟩,p,a,_,rfl,hP,by omega,by omega,fun r H1 h10 h11 v1 e1=>?_⟩
  obtain⟨m,rfl⟩:=Int.eq_ofNat_of_zero_le h10
  have b1:=But.of_eq e1
  obtain⟨ys,hp⟩:=penAt hP.2
  have ht1:=tupBut hp b1 ht
  have rp1:=repBut_all (repBut_pair hp b1) rp
  refine name_go ?_
  dsimp only
  refine⟨_,rfl,_,rfl,_,rfl,t,refs,rfl,ht1,fun t1 H2 s2 e2=>?_⟩
  refine⟨_,rfl,_,rfl,.int ⟨_,rfl,t,refs,rfl,s2 _ _ ht1,fun t2 H3 s3 e3=>?_⟩⟩
  rw[show cutV refs none (some (m:Int))=refs.take m from cutV_to refs m (by omega)] at e2
  rw[show cutV refs (some ((m:Int)+1)) none=refs.drop (m+1) from cutV_from refs (m+1)] at e3
  refine⟨t1,t2,_,_,rfl,rfl,s3 _ _ e2,e3,Nat.le_of_lt (small1000 (by rw[List.length_take,List.length_drop];omega)),fun t3 H4 s4 e4=>?_⟩
  have s14:=(s2.trans s3).trans s4
  refine k t3 _ (ps.take m++ps.drop (m+1)) H4 e4 ?_ (sub_fewer ps m) (penSame s14 v1) (b1.trans (But.of_same (p:=p) s14))
  rw[List.map_append,List.map_take,List.map_drop]
  exact RepAll.append ((rp1.same s14).take m) ((rp1.same s14).drop (m+1))
def spKnCh (K:W.Frag):Sp:=fun vs H Q _=>∃(p a n us:_) (ks:Kn),vs=[.ref p,.ref n]/\Pen K H p a/\Rep H (.ref n) (knotsD ks)/\Tre us ks/\∀(n':Addr) (kk:Str × List Str) (row:List Str) H',kk∈ks->row.Perm kk.2->Rep H' (.ref n') (knotsD (ks.map (rowK kk.1 row)))->PenV H' p a->But p H H'->Q (.ref n') H'
theorem ok_knCh {f:Addr}{fd:FuncData}(F:Fun K "_law_knots_changed" "_law_knots_changed" sKnotsChanged f fd) (B:Blt mg) (c_law_draw:Cal P w K mg base 1 "_law_draw" ["_law_pen_here", "_law_most"] (spDraw K)):FnOk P w K mg base CX0 2 f fd ["_law_pen_here", "_law_knots"] (spKnCh K) := by
 refine F.ok1 ["_law_pen_here","_law_knots","_law_at","_law_name","_law_some","_law_k"] fun nd H Q E hr h=>?_
 obtain⟨p,a,n,us,ks,rfl,hP,R,T,k⟩:=h
 have few:=T.few
 have tne:ks.length≠0:=fun z=>by have:=T.top;rw[List.length_eq_zero_iff.mp z] at this;cases this
 obtain⟨n',refs,e0,hn,rp⟩:=knots_at R
 cases e0
 have rl:=rp.len
 rw[List.length_map] at rl
 refine⟨_,(pss_cons (pst 2 nd (pc c_law_draw hr (p2 (pv 0) (b_len K B (p1 (pv 1))))))
  (pss_cons (ps_asg (px K hr (pv 1) (pv 2)) (pg_tupK (n:=2) K rfl (pgs_cons (pg_name (i:=3) nd rfl (Or.inl rfl)) (pgs_cons (pg_name (i:=4) nd rfl (Or.inl rfl)) pgs_nil))))
  (pss_cons (ps_if (pt_cmpR op_gt (b_len K B (p1 (pv 4))) pe_int (nomark _)) (pss_cons (pst 5 nd (pc c_law_draw hr (p2 (pv 0) (pe_op op_sub (b_len K B (p1 (pv 4))) pe_int))))
  (pss_one (ps_if (pt_cmpR op_gt (pc c_law_draw hr (p2 (pv 0) pe_int)) pe_int (nomark _)) (pss_one (pst 4 nd (pe_op op_catTB (pe_op op_catTB (pe_slice sl_tupA (pv 4) po_none (po_some (pv 5))) (pe_tup (p2 (px K hr (pv 4) (pe_op op_addX (pv 5) pe_int)) (px K hr (pv 4) (pv 5))))) (pe_slice sl_tupA (pv 4) (po_some (pe_op op_addX (pv 5) pe_int)) po_none)))) (pss_one (pst 4 nd (pe_op op_catTB (pe_slice sl_tupA (pv 4) (po_some (pe_op op_addX (pv 5) pe_int)) po_none) (pe_slice sl_tupA (pv 4) po_none (po_some (pe_op op_addX (pv 5) pe_int))))))))) pss_nil)
  (pss_one (ps_ret (pe_op op_catTB (pe_op op_catTB (pe_slice sl_tupA (pv 1) po_none (po_some (pv 2))) (pe_tup (p1 (pe_tup (p2 (pv 3) (pv 4)))))) (pe_slice sl_tupA (pv 1) (po_some (pe_op op_addX (pv 2) pe_int)) po_none))))))),?_⟩
 refine⟨_,rfl,_,rfl,_,_,rfl,Or.inr ⟨_,.of hn,rfl⟩,p,a,_,rfl,hP,by omega,by omega,fun r H1 h10 h11 v1 e1=>?_⟩
 obtain⟨m,rfl⟩:=Int.eq_ofNat_of_zero_le h10
 have b1:=But.of_eq e1
 obtain⟨ys,hp⟩:=penAt hP.2
 have hn1:=tupBut hp b1 hn
 have rp1:=repBut_all (repBut_knot hp b1) rp
 obtain⟨x,hx⟩:∃x,refs[m]? = some x:=⟨_,List.getElem?_eq_getElem (by omega)⟩
 obtain⟨kk,ta,la,hk,rfl,hta,hla⟩:=knot_get rp1 hx
 have hkm:=List.mem_of_getElem? hk
 have kl:kk.2.length<=60:=Nat.le_trans (nd_len (kid_nodup T hkm) fun u hu=>T.isIn hkm hu) T.len
 refine name_go ?_
 dsimp only
 refine⟨_,rfl,_,rfl,.tup (.of hn1) (atI_nat hx) ⟨ta,_,rfl,.of hta,rfl,_,_,rfl,_,_,rfl,rfl,?_⟩⟩
 apply with_rest (J:=fun σ HZ=>∃(l2:Addr) (row:List Str) (o:Option V),σ=[some (.ref p),some (.ref n),some (.int (m:Int)),some (.str kk.1),some (.ref l2),o]/\HZ l2=some (.tup (List.map V.str row))/\row.Perm kk.2/\PenV HZ p a/\But p H1 HZ)
 ·intro rest
  refine⟨_,rfl,_,_,rfl,Or.inr ⟨_,.of hla,rfl⟩,⟨_,_,rfl,rfl,_,rfl,?_⟩⟩
  have ll:(List.map V.str kk.2).length=kk.2.length:=List.length_map ..
  refine ite2 (fun h1=>?_) (fun _=>rest _ _ ⟨la,kk.2,none,rfl,hla,List.Perm.refl _,v1,But.refl p H1⟩)
  have h1:(1:Int)<(((List.map V.str kk.2).length:Nat):Int):=of_decide_eq_true h1
  rw[ll] at h1
  refine⟨_,rfl,_,rfl,_,_,rfl,Or.inr ⟨_,.of hla,rfl⟩,_,_,rfl,rfl,p,a,_,rfl,hP.but b1 v1,by rw[ll];omega,by rw[ll];omega,fun r2 H2 h20 h21 v2 e2=>?_⟩
  obtain⟨c,rfl⟩:=Int.eq_ofNat_of_zero_le h20
  rw[ll] at h21
  have b12:=But.of_eq e2
  have b2:=b1.trans b12
  obtain⟨ys1,hp1⟩:=penAt v1
  refine name_go ?_
  dsimp only
  refine⟨_,rfl,p,a,3,rfl,hP.but b2 v2,by decide,by decide,fun r3 H3 h30 h31 v3 e3=>⟨_,_,rfl,rfl,_,rfl,?_⟩⟩
  have b13:=b12.trans (But.of_eq e3)
  have hla3:=tupBut hp1 b13 hla
  have g0:kk.2[c]? = some (kk.2.getD c ""):=by simp[show c<kk.2.length by omega,List.getD_eq_getElem?_getD]
  have g1:kk.2[c+1]? = some (kk.2.getD (c+1) ""):=by simp[show c+1<kk.2.length by omega,List.getD_eq_getElem?_getD]
  have at0:atI (List.map V.str kk.2) (c:Int)=some (.str (kk.2.getD c "")):=atI_nat (by rw[List.getElem?_map,g0];rfl)
  have at1:atI (List.map V.str kk.2) ((c:Int)+1)=some (.str (kk.2.getD (c+1) "")):=by rw[show ((c:Int)+1)=((c+1:Nat):Int) by omega];exact atI_nat (by rw[List.getElem?_map,g1];rfl)
  refine ite2 (fun _=>?_) (fun _=>?_)
  ·refine⟨_,rfl,_,rfl,_,rfl,la,_,rfl,hla3,fun t1 H4 s4 e4=>?_⟩
   rw[show cutV (List.map V.str kk.2) none (some (c:Int))=List.map V.str (kk.2.take c) by rw[List.map_take];exact cutV_to _ c (by rw[List.length_map];omega)] at e4
   have hla4:=s4 _ _ hla3
   refine⟨_,rfl,_,rfl,.int (.tup (.of hla4) at1 ⟨_,rfl,_,rfl,.tup (.of hla4) at0 (nil_ ⟨szl 2,fun t2 ht2=>?_⟩)⟩)⟩
   refine nw ht2 fun H5 s5 e5=>?_
   refine⟨t1,t2,_,_,rfl,rfl,s5 _ _ e4,e5,Nat.le_of_lt (small1000 (by rw[List.length_map,List.length_take];show _+2<=1000;omega)),fun t3 H6 s6 e6=>?_⟩
   have s46:=(s4.trans s5).trans s6
   refine⟨_,rfl,_,rfl,.int ⟨_,rfl,la,_,rfl,s46 _ _ hla3,fun t4 H7 s7 e7=>?_⟩⟩
   rw[show cutV (List.map V.str kk.2) (some ((c:Int)+2)) none=List.map V.str (kk.2.drop (c+2)) by rw[List.map_drop];exact cutV_from _ (c+2)] at e7
   refine⟨t3,t4,_,_,rfl,rfl,s7 _ _ e6,e7,Nat.le_of_lt (small1000 (by rw[List.length_append,List.length_map,List.length_map,List.length_take,List.length_drop];show _+2+_<=1000;omega)),fun t5 H8 s8 e8=>?_⟩
   have s38:=(s46.trans s7).trans s8
   refine rest _ _ ⟨t5,kk.2.take c++[kk.2.getD (c+1) "",kk.2.getD c ""]++kk.2.drop (c+2),_,rfl,by rw[List.map_append,List.map_append];exact e8,?_,penSame s38 v3,b13.trans (But.of_same (p:=p) s38)⟩
   have ed:kk.2.drop c=kk.2.getD c ""::kk.2.getD (c+1) ""::kk.2.drop (c+2):=by
    rw[List.drop_eq_getElem_cons (show c<kk.2.length by omega),List.drop_eq_getElem_cons (show c+1<kk.2.length by omega)]
    rw[(List.getElem?_eq_some_iff.mp g0).2,(List.getElem?_eq_some_iff.mp g1).2]
   have:(kk.2.take c++kk.2.drop c)=kk.2:=List.take_append_drop ..
   rw[List.append_assoc]
   refine((List.Perm.append_left (kk.2.take c) ?_).trans (List.Perm.of_eq this))
   rw[ed]
   exact List.Perm.swap ..
  ·refine⟨_,rfl,_,rfl,.int ⟨_,rfl,la,_,rfl,hla3,fun t1 H4 s4 e4=>?_⟩⟩
   rw[show cutV (List.map V.str kk.2) (some ((c:Int)+1)) none=List.map V.str (kk.2.drop (c+1)) by rw[List.map_drop];exact cutV_from _ (c+1)] at e4
   refine⟨_,rfl,_,rfl,.int ⟨_,rfl,la,_,rfl,s4 _ _ hla3,fun t2 H5 s5 e5=>?_⟩⟩
   rw[show cutV (List.map V.str kk.2) none (some ((c:Int)+1))=List.map V.str (kk.2.take (c+1)) by rw[List.map_take];exact cutV_to _ (c+1) (by rw[List.length_map];omega)] at e5
   refine⟨t1,t2,_,_,rfl,rfl,s5 _ _ e4,e5,Nat.le_of_lt (small1000 (by rw[List.length_map,List.length_map,List.length_take,List.length_drop];omega)),fun t3 H6 s6 e6=>?_⟩
   have s36:=(s4.trans s5).trans s6
   exact rest _ _ ⟨t3,kk.2.drop (c+1)++kk.2.take (c+1),_,rfl,by rw[List.map_append];exact e6,List.perm_append_comm.trans (List.Perm.of_eq (List.take_append_drop ..)),penSame s36 v3,b13.trans (But.of_same (p:=p) s36)⟩
 ·rintro σ H2 ⟨l2,row,o,rfl,hl2,pm,v2,b12⟩
  obtain⟨ys1,hp1⟩:=penAt v1
  have hn2:=tupBut hp1 b12 hn1
  have rp2:=repBut_all (repBut_knot hp1 b12) rp1
  refine⟨_,rfl,_,rfl,_,rfl,n,refs,rfl,hn2,fun t1 H3 s3 e3=>?_⟩
  rw[show cutV refs none (some (m:Int))=refs.take m from cutV_to refs m (by omega)] at e3
  refine⟨_,rfl,_,rfl,szl 2,fun t2 ht2=>?_⟩
  refine nw ht2 fun H4 s4 e4=>nil_ ⟨szl 1,fun t3 ht3=>?_⟩
  refine nw ht3 fun H5 s5 e5=>?_
  refine⟨t1,t3,_,_,rfl,rfl,(s4.trans s5) _ _ e3,e5,Nat.le_of_lt (small1000 (by rw[List.length_take];show _+1<=1000;omega)),fun t4 H6 s6 e6=>?_⟩
  have s26:=(s3.trans (s4.trans s5)).trans s6
  refine⟨_,rfl,_,rfl,.int ⟨_,rfl,n,refs,rfl,s26 _ _ hn2,fun t5 H7 s7 e7=>?_⟩⟩
  rw[show cutV refs (some ((m:Int)+1)) none=refs.drop (m+1) from cutV_from refs (m+1)] at e7
  refine⟨t4,t5,_,_,rfl,rfl,s7 _ _ e6,e7,Nat.le_of_lt (small1000 (by rw[List.length_append,List.length_take,List.length_drop];show _+1+_<=1000;omega)),fun t6 H8 s8 e8=>?_⟩
  have s28:=(s26.trans s7).trans s8
  have s48:=((s5.trans s6).trans s7).trans s8
  have rN:Rep H8 (.ref t2) (knotD (kk.1,row)):=.tup (s48 _ _ e4) (.cons (.str _) (.cons (.tup ((s3.trans s4).trans s48 _ _ hl2) (RepAll.of_strs row)) .nil))
  have rp8:=rp2.same s28
  refine k t6 kk row H8 hkm pm (.tup e8 ?_) (penSame s28 v2) ((b1.trans b12).trans (But.of_same (p:=p) s28))
  rw[<- rowK_set T.kn hk,List.append_assoc,List.map_append,List.map_cons,List.map_take,List.map_drop]
  exact RepAll.append (rp8.take m) (.cons rN (rp8.drop (m+1)))
end
end K39
namespace K39
open PySem L2
section
variable {P:Program}{w:World}{K:W.Frag}{mg:Str->Option Value}{base:Heap}
def spLPair (K:W.Frag):Sp:=fun vs H Q _=>∃(p a q un:_) (us:List Str) (ks ts ws wn:_),vs=[.ref p,.ref q,.ref un]/\Pen K H p a/\Rep H (.ref q) (houseD ks ts ws wn)/\FrH us ks ts ws wn/\H un=some (.lst (List.map V.str us))/\un≠p/\0<us.length /\
 ∀x H',(x=.non∨∃(t:Addr) (u v:Str),x=.ref t/\H' t=some (.tup [.str u,.str v])/\(u,v)∉ts++ws/\u∈us/\v∈us/\partO ks u v≠none)->PenV H' p a->But p H H'->Q x H'
theorem ok_lpair {f:Addr}{fd:FuncData}(F:Fun K "_law_pair" "_law_pair" sPairHere f fd) (B:Blt mg) (c_law_draw:Cal P w K mg base 1 "_law_draw" ["_law_pen_here", "_law_most"] (spDraw K)) (c_law_around:Cal P w K mg base 1 "_law_around" ["_law_knots"] spAround) (c_law_parting:Cal P w K mg base 2 "_law_parting" ["_law_around_here", "_law_one", "_law_other"] spPartBy):FnOk P w K mg base CX0 3 f fd ["_law_pen_here", "_law_house_here", "_law_units"] (spLPair K) := by
 refine F.ok1 ["_law_pen_here","_law_house_here","_law_units","_law_pair_here"] fun nd H Q E hr h=>?_
 obtain⟨p,a,q,un,us,ks,ts,ws,wn,rfl,hP,R,G,hun,nup,upos,k⟩:=h
 have T:=G.T
 have ulen:=T.len
 have tl:=G.tl
 rw[List.length_append] at tl
 have mlu:(List.map V.str us).length=us.length:=List.length_map ..
 obtain⟨ys0,hp0⟩:=penAt hP.2
 refine⟨_,(pss_cons (pst 3 nd (pe_tup (p2 (px K hr (pv 2) (pc c_law_draw hr (p2 (pv 0) (b_len K B (p1 (pv 2)))))) (px K hr (pv 2) (pc c_law_draw hr (p2 (pv 0) (b_len K B (p1 (pv 2)))))))))
  (pss_cons (ps_if (PW.pt (pw_and (pt_cmpR op_gt (b_len K B (p1 (px K hr (pv 1) pe_int))) pe_int (nomark _)) (pw_and1 (pt_cmpR (op_eqX hr.units) (pc c_law_draw hr (p2 (pv 0) pe_int)) pe_int (nomark _))))) (pss_one (pst 3 nd (pe_revT K (px K hr (px K hr (pv 1) pe_int) (pc c_law_draw hr (p2 (pv 0) (b_len K B (p1 (px K hr (pv 1) pe_int)))))) (po_some (pe_un un_neg pe_int))))) pss_nil)
  (pss_cons (ps_if (PW.pt (pw_or (pt_cmpR (op_inDT hr.units) (pv 3) (pe_op op_catTB (px K hr (pv 1) pe_int) (px K hr (pv 1) pe_int)) (by with_unfolding_all rfl)) (pw_or1 (pt_cmpR op_isX (pc c_law_parting hr (pa_cons (pc c_law_around hr (p1 (px K hr (pv 1) pe_int))) (p2 (px K hr (pv 3) pe_int) (px K hr (pv 3) pe_int)))) pe_non (nomark _))))) (pss_one (ps_ret pe_non)) pss_nil)
  (pss_one (ps_ret (pv 3)))))),?_⟩
 refine⟨_,rfl,_,rfl,_,rfl,_,_,rfl,Or.inl ⟨_,.of hun,rfl⟩,p,a,_,rfl,hP,by rw[mlu];omega,by rw[mlu];omega,fun r4 H4 h40 h41 v4 e4=>?_⟩
 have b4:=But.of_eq e4
 obtain⟨j1,rfl⟩:=Int.eq_ofNat_of_zero_le h40
 rw[mlu] at h41
 have hj1:j1<us.length:=by omega
 refine .lst (.of (b4 un _ nup hun)) (str_at hj1) ⟨_,rfl,_,rfl,_,rfl,_,_,rfl,Or.inl ⟨_,.of (b4 un _ nup hun),rfl⟩,p,a,_,rfl,hP.but b4 v4,by rw[mlu];omega,by rw[mlu];omega,fun r5 H5 h50 h51 v5 e5=>?_⟩
 have b5:=b4.trans (But.of_eq e5)
 obtain⟨j2,rfl⟩:=Int.eq_ofNat_of_zero_le h50
 rw[mlu] at h51
 have hj2:j2<us.length:=by omega
 refine .lst (.of (b5 un _ nup hun)) (str_at hj2) ⟨szl 2,fun t ht=>?_⟩
 have hx:=mem_getD hj1
 have hy:=mem_getD hj2
 refine nw ht fun H6 s6 e6=>?_
 have v6:=penSame s6 v5
 have b6:=b5.trans (But.of_same (p:=p) s6)
 obtain⟨q',a1,b1',c1,d1,e0,hq,R1,R2,R3,_⟩:=house_at R
 cases e0
 obtain⟨b1'',rb,e0,hb,rpb⟩:=pairsT_at R2
 cases e0
 obtain⟨c1'',rc,e0,hc,rpc⟩:=pairsT_at R3
 cases e0
 have bl:=rpb.len
 have cl:=rpc.len
 rw[List.length_map] at bl cl
 have hq6:=tupBut hp0 b6 hq
 have hb6:=tupBut hp0 b6 hb
 refine name_go ?_
 dsimp only
 apply with_rest (J:=fun σ HZ=>∃(t:Addr) (x y:Str),σ=[some (.ref p),some (.ref q),some (.ref un),some (.ref t)]/\x∈us/\y∈us/\HZ t=some (.tup [.str x,.str y])/\PenV HZ p a/\But p H HZ)
 ·intro rest
  refine⟨_,rfl,.tup (.of hq6) rfl (nil_ ⟨_,_,rfl,Or.inr ⟨_,.of hb6,rfl⟩,_,_,rfl,rfl,_,rfl,?_⟩)⟩
  refine ite2 (fun h=>?_) (fun _=>iteF ?_)
  ·have h:(0:Int)<((rb.length:Nat):Int):=of_decide_eq_true h
   refine⟨_,rfl,p,a,3,rfl,hP.but b6 v6,by decide,by decide,fun r7 H7 h70 h71 v7 e7=>.sc rfl ⟨_,rfl,?_⟩⟩
   have b7:=b6.trans (But.of_eq e7)
   obtain⟨ys6,hp6⟩:=penAt v6
   refine ite2 (fun _=>?_) (fun _=>?_)
   ·refine⟨_,rfl,.tup (.of (tupBut hp0 b7 hq)) rfl ⟨_,rfl,_,rfl,.tup (.of (tupBut hp0 b7 hq)) rfl (nil_ ⟨_,_,rfl,Or.inr ⟨_,.of (tupBut hp0 b7 hb),rfl⟩,nil_ ⟨p,a,_,rfl,hP.but b7 v7,by omega,by omega,fun r8 H8 h80 h81 v8 e8=>?_⟩⟩)⟩⟩
    have b8:=b7.trans (But.of_eq e8)
    obtain⟨j3,rfl⟩:=Int.eq_ofNat_of_zero_le h80
    obtain⟨z,hz⟩:∃z,rb[j3]? = some z:=⟨_,List.getElem?_eq_getElem (by omega)⟩
    obtain⟨e,te,he,rfl,hte⟩:=pair_get rpb hz
    have te':=G.tp e (List.mem_of_getElem? he)
    refine .tup (.of (tupBut hp0 b8 hb)) (atI_nat hz) ⟨_,rfl,_,rfl,te,_,_,rfl,rfl,.of (tupBut hp0 b8 hte),fun t9 ht9=>?_⟩
    refine nw ht9 fun H9 s9 e9=>?_
    dsimp only[gName]
    exact rest _ _ ⟨t9,e.2,e.1,rfl,te'.2.1,te'.1,e9,penSame s9 v8,b8.trans (But.of_same (p:=p) s9)⟩
   ·exact rest _ _ ⟨t,_,_,rfl,hx,hy,tupBut hp6 (But.of_eq e7) e6,v7,b7⟩
  ·exact rest _ _ ⟨t,_,_,rfl,hx,hy,e6,v6,b6⟩
 ·rintro σ HZ ⟨t,x,y,rfl,hx,hy,htz,vz,bz⟩
  have hqz:=tupBut hp0 bz hq
  have hbz:=tupBut hp0 bz hb
  have hcz:=tupBut hp0 bz hc
  have nmp:∀e∈ts++ws,Nm e.1/\Nm e.2:=fun e he=>by
   rcases List.mem_append.mp he with he | he
   ·exact⟨T.nm _ (G.tp e he).1,T.nm _ (G.tp e he).2.1⟩
   ·exact⟨T.nm _ (G.wp e he).1,T.nm _ (G.wp e he).2.1⟩
  have rbc:RepAll HZ (rb++rc) ((ts++ws).map pairD):=by
   rw[List.map_append]
   exact RepAll.append (repBut_all (repBut_pair hp0 bz) rpb) (repBut_all (repBut_pair hp0 bz) rpc)
  refine⟨_,rfl,_,rfl,.tup (.of hqz) rfl ⟨_,rfl,.tup (.of hqz) rfl ⟨b1',c1,_,_,rfl,rfl,hbz,hcz,Nat.le_of_lt (small1000 (by omega)),fun tu HA sA eA=>⟨tu,_,_,pairD (x,y),rfl,eA,rbc.same sA,pair_rep (sA _ _ htz),canLay_pairsN nmp,canLay_pairN (e:=(x,y)) ⟨T.nm _ hx,T.nm _ hy⟩,(by show 1<=16;decide),_,rfl,?_⟩⟩⟩⟩
  rw[if_neg (show ¬ false=true by decide),any_pair]
  have vA:=penSame sA vz
  have bA:=bz.trans (But.of_same (p:=p) sA)
  refine ite2 (fun _=>iteT ?_) (fun hn=>?_)
  ·exact k .non HA (.inl rfl) vA bA
  have hn:(x,y)∉ts++ws:=by simpa using hn
  refine⟨_,rfl,.tup (.of (sA _ _ hqz)) rfl (nil_ ⟨a1,us,ks,rfl,repBut_knots hp0 bA R1,T,fun d kvs HB sB hd0 hd ar=>?_⟩)⟩
  have htB:=sB _ _ (sA _ _ htz)
  refine⟨_,rfl,.tup (.of htB) rfl ⟨_,rfl,.tup (.of htB) rfl (nil_ ⟨d,kvs,us,ks,x,y,rfl,hd,ar,T,hx,hy,fun v HC sC px=>.non ⟨_,rfl,?_⟩⟩)⟩⟩
  have sBC:=sB.trans sC
  have vC:=penSame sBC vA
  have bC:=bA.trans (But.of_same (p:=p) sBC)
  cases hpo:partO ks x y with
  | none =>
   rw[hpo] at px
   cases px
   refine ite2 (fun _=>?_) (fun h=>absurd (by decide) h)
   exact k .non HC (.inl rfl) vC bC
  | some t3 =>
   obtain⟨kq,x1,y1⟩:=t3
   rw[hpo] at px
   obtain⟨tt,rfl,htt⟩:=px
   refine ite2 (fun h=>absurd h (by simp)) (fun _=>next_go ?_)
   exact⟨_,rfl,k (.ref t) HC (.inr ⟨t,x,y,rfl,sC _ _ htB,hn,hx,hy,by rw[hpo];intro z;cases z⟩) vC bC⟩
def spLWant (K:W.Frag):Sp:=fun vs H Q _=>∃(p a q un:_) (us:List Str) (ks ts ws wn:_),vs=[.ref p,.ref q,.ref un]/\Pen K H p a/\Rep H (.ref q) (houseD ks ts ws wn)/\FrH us ks ts ws wn/\H un=some (.lst (List.map V.str us))/\un≠p/\0<us.length /\
 ∀(t:Addr) (refs:List V) (wn':Prs) H',H' t=some (.tup refs)->RepAll H' refs (wn'.map pairD)->WnF us ks wn'->wn'.length<=122->PenV H' p a->But p H H'->Q (.ref t) H'
theorem ok_lwant {f:Addr}{fd:FuncData}(F:Fun K "_law_wanted" "_law_wanted" sLWanted f fd) (B:Blt mg) (c_law_draw:Cal P w K mg base 1 "_law_draw" ["_law_pen_here","_law_most"] (spDraw K)) (c_law_around:Cal P w K mg base 1 "_law_around" ["_law_knots"] spAround):FnOk P w K mg base CX0 2 f fd ["_law_pen_here","_law_house_here","_law_units"] (spLWant K):=by
 refine F.ok1 ["_law_pen_here","_law_house_here","_law_units","_law_around_here","_law_word","_law_unit","_law_some","_law_want"] fun nd H Q E hr h=>?_
 obtain⟨p,a,q,un,us,ks,ts,ws,wn,rfl,hP,R,G,hun,nup,upos,k⟩:=h
 have T:=G.T
 have ulen:=T.len
 have WF:=G.wf
 have mlu:(List.map V.str us).length=us.length:=List.length_map ..
 have wfew:∀ {l:Prs},WnF us ks l->l.length<=60:=fun {l} W=>by
  have:=nd_len W.un (fun u hu=>by obtain⟨e,he,z⟩:=List.mem_map.mp hu;exact z ▸ (W.ok e he).2)
  rw[List.length_map] at this
  omega
 obtain⟨q',a1,b1',c1,d1,e0,hq,R1,R2,R3,R4⟩:=house_at R
 cases e0
 obtain⟨d1'',rd,e0,hd4,rpd⟩:=pairsT_at R4
 cases e0
 have dl:=rpd.len
 rw[List.length_map] at dl
 have w60:=wfew WF
 refine⟨_,(pss_cons (pst 3 nd (pc c_law_around hr (p1 (px K hr (pv 1) pe_int))))
  (pss_cons (pst 4 nd (px K hr (pe_lst (p2 pe_str pe_str)) (pc c_law_draw hr (p2 (pv 0) pe_int))))
  (pss_cons (pst 5 nd (px K hr (pv 2) (pc c_law_draw hr (p2 (pv 0) (b_len K B (p1 (pv 2)))))))
  (pss_cons (pst 6 nd (pe_lst pa_nil))
  (pss_cons (ps_for PassesOwn.never rfl (pi_tupK K (px K hr (pv 1) pe_int)) (pg_name (i:=7) nd rfl (Or.inl rfl)) (pss_one (ps_if (PW.pt (pw_and (pt_cmpR (op_neX hr.units) (px K hr (pv 7) pe_int) (pv 5) (nomark _)) (pw_and1 (PW.pt (pw_or (pt_cmpR (op_neX hr.units) (px K hr (pv 7) pe_int) (pv 4) (nomark _)) (pw_or1 (pt_cmpR (op_neX hr.units) (px K hr (pv 3) (px K hr (pv 7) pe_int)) (px K hr (pv 3) (pv 5)) (nomark _)))))))) (pss_one (ps_expr (m_append K (pv 6) (p1 (pv 7))))) pss_nil)))
  (pss_cons (ps_expr (m_insert K (pv 6) (p2 (pc c_law_draw hr (p2 (pv 0) (pe_op op_addX (b_len K B (p1 (pv 6))) pe_int))) (pe_tup (p2 (pv 4) (pv 5))))))
  (pss_one (ps_ret (b_tuple K B (p1 (pv 6))))))))))),?_⟩
 refine⟨_,rfl,.tup (.of hq) rfl (nil_ ⟨a1,us,ks,rfl,R1,T,fun d kvs H1 s1 hd0 hd ar=>?_⟩)⟩
 have v1:=penSame s1 hP.2
 have b1:But p H H1:=But.of_same s1
 have ndp:d≠p:=Ne.symm (hP.2.ne hd0)
 refine name_go ?_
 dsimp only
 refine⟨szl 2,fun lw hlw=>?_⟩
 have nlwp:lw≠p:=Ne.symm (v1.ne hlw)
 refine nw hlw fun H2 s2 e2=>?_
 have v2:=penSame s2 v1
 have b2:=b1.trans (But.of_same (p:=p) s2)
 refine⟨_,rfl,p,a,2,rfl,hP.but b2 v2,by decide,by decide,fun r3 H3 h30 h31 v3 e3=>?_⟩
 have b23:=But.of_eq e3
 have b3:=b2.trans b23
 obtain⟨word,hw,hword⟩:∃word:Str,atI [V.str "first",V.str "last"] r3=some (.str word)/\(word="first"∨word="last"):=by
  have:r3=0∨r3=1:=by omega
  rcases this with rfl | rfl
  ·exact⟨_,rfl,.inl rfl⟩
  ·exact⟨_,rfl,.inr rfl⟩
 refine .lst (.of (b23 lw _ nlwp e2)) hw ?_
 refine name_go ?_
 dsimp only
 have hun3:=b3 un _ nup hun
 refine⟨_,rfl,_,rfl,_,rfl,_,_,rfl,Or.inl ⟨_,.of hun3,rfl⟩,p,a,_,rfl,hP.but b3 v3,by rw[mlu];omega,by rw[mlu];omega,fun r4 H4 h40 h41 v4 e4=>?_⟩
 have b4:=b3.trans (But.of_eq e4)
 obtain⟨j1,rfl⟩:=Int.eq_ofNat_of_zero_le h40
 rw[mlu] at h41
 have hj1:j1<us.length:=by omega
 have hu:=mem_getD hj1
 refine .lst (.of (b4 un _ nup hun)) (str_at hj1) ?_
 generalize us.getD j1 ""=unit at hu ⊢
 obtain⟨ys0,hp0⟩:=penAt hP.2
 have hq4:=tupBut hp0 b4 hq
 have hd44:=tupBut hp0 b4 hd4
 have rp4:=repBut_all (repBut_pair hp0 b4) rpd
 have hd':H4 d=some (.dK kvs):=by
  have h2:=s2 _ _ hd
  have h3:=b23 d _ ndp h2
  exact But.of_eq e4 d _ ndp h3
 refine name_go ?_
 dsimp only
 refine⟨szl 0,fun L hL=>?_⟩
 have nLp:L≠p:=Ne.symm (v4.ne hL)
 have fL:H L=none:=b4.free nLp hL
 refine nw hL fun H5 s5 e5=>?_
 refine name_go ?_
 dsimp only
 have hq5:=s5 _ _ hq4
 refine⟨_,rfl,.tup (.of hq5) rfl ⟨d1,rfl,⟨_,.of (s5 _ _ hd44)⟩,?_⟩⟩
 refine for_tup (xs:=rd) (fun i σ H'=>∃(o:Option V) (fr:List V) (ps:Prs),σ=[some (.ref p),some (.ref q),some (.ref un),some (.ref d),some (.str word),some (.str unit),some (.ref L),o]/\H' L=some (.lst fr)/\RepAll H' fr (ps.map pairD)/\ps.Sublist (wn.take i)/\(∀e∈ps,e.2≠unit/\(e.1≠word∨parK ks e.2≠parK ks unit))/\Same H4 H') ⟨none,[],[],rfl,e5,.nil,List.Sublist.slnil,(fun e he=>by cases he),s5⟩ ?_ ?_ ?_
 ·rintro i σ H' hi ⟨o,fr,ps,rfl,_,_,_,_,sm⟩
  exact .of (sm _ _ hd44)
 ·rintro i x σ H' hx ⟨o, fr, ps, rfl, hL', rpf, sub, good, sm⟩
  obtain⟨e,ta,he,rfl,hta⟩:=pair_get (rp4.same sm) hx
  have em:=List.mem_of_getElem? he
  have w:=WF.ok e em
  have pl:=sub.length_le
  rw[List.length_take] at pl
  have fl:=rpf.len
  rw[List.length_map] at fl
  have et:wn.take (i+1)=wn.take i++[e]:=by rw[List.take_add_one,he];rfl
  have skip:(∃(o:Option V) (fr:List V) (ps:Prs),[some (V.ref p),some (V.ref q),some (V.ref un),some (V.ref d),some (V.str word),some (V.str unit),some (V.ref L),some (V.ref ta)]=[some (.ref p),some (.ref q),some (.ref un),some (.ref d),some (.str word),some (.str unit),some (.ref L),o]/\H' L=some (.lst fr)/\RepAll H' fr (ps.map pairD)/\ps.Sublist (wn.take (i+1))/\(∀e∈ps,e.2≠unit/\(e.1≠word∨parK ks e.2≠parK ks unit))/\Same H4 H') :=
   ⟨_,fr,ps,rfl,hL',rpf,by rw[et];exact sub.trans (List.sublist_append_left ..),good,sm⟩
  have take:e.2≠unit->(e.1≠word∨parK ks e.2≠parK ks unit)->(∃(o:Option V) (fr':List V) (ps:Prs),[some (V.ref p),some (V.ref q),some (V.ref un),some (V.ref d),some (V.str word),some (V.str unit),some (V.ref L),some (V.ref ta)]=[some (.ref p),some (.ref q),some (.ref un),some (.ref d),some (.str word),some (.str unit),some (.ref L),o]/\upd H' L (.lst (fr++[V.ref ta])) L=some (.lst fr')/\RepAll (upd H' L (.lst (fr++[V.ref ta]))) fr' (ps.map pairD)/\ps.Sublist (wn.take (i+1))/\(∀e∈ps,e.2≠unit/\(e.1≠word∨parK ks e.2≠parK ks unit))/\Same H4 (upd H' L (.lst (fr++[V.ref ta])))):=fun n1 n2 =>
   ⟨_,_,ps++[e],rfl,upd_same,by
    rw[List.map_append]
    exact RepAll.append (repBut_all (repBut_pair hL' But.upd) rpf) (.cons (repBut_pair hL' But.upd (pair_rep hta)) .nil),by rw[et];exact sub.append (List.Sublist.refl _),(fun e' he'=>by
    rcases List.mem_append.mp he' with he' | he'
    ·exact good e' he'
    ·rw[List.mem_singleton.mp he'];exact⟨n1,n2⟩),same_at sm hL⟩
  have sz:fr.length<sizeLine:=small1000 (by omega)
  refine name_go ?_
  refine⟨_,rfl,.tup (.of hta) rfl ⟨_,rfl,.sc rfl ⟨_,rfl,?_⟩⟩⟩
  refine ite2 (fun h1=>?_) (fun _=>iteF (next_go skip))
  have h1:e.2≠unit:=by simpa using h1
  refine⟨_,rfl,.tup (.of hta) rfl ⟨_,rfl,.sc rfl ⟨_,rfl,?_⟩⟩⟩
  refine ite2 (fun h2=>iteT ?_) (fun _=>?_)
  ·have h2:e.1≠word:=by simpa using h2
   exact⟨_,rfl,.inl ⟨rfl,_,.of hL'⟩,_,rfl,L,_,_,rfl,rfl,hL',sz,take h1 (.inl h2)⟩
  ·have hdm:=sm _ _ hd'
   refine⟨_,rfl,_,rfl,.tup (.of hta) rfl (.dic (.inl ⟨kvs,.inr e.2,.inl hdm,rfl,(ar e.2 w.2).symm⟩) ⟨_,rfl,_,rfl,.dic (.inl ⟨kvs,.inr unit,.inl hdm,rfl,(ar unit hu).symm⟩) (.sc rfl ⟨_,rfl,?_⟩)⟩)⟩
   refine ite2 (fun h3=>?_) (fun _=>next_go skip)
   have h3:parK ks e.2≠parK ks unit:=by simpa using h3
   exact⟨_,rfl,.inl ⟨rfl,_,.of hL'⟩,_,rfl,L,_,_,rfl,rfl,hL',sz,take h1 (.inr h3)⟩
 ·rintro σ H6 ⟨o,fr,ps,rfl,hL6,rpf,sub,good,s6⟩
  have sub:ps.Sublist wn:=sub.trans (List.take_sublist ..)
  have fl:=rpf.len
  have pl:=sub.length_le
  rw[List.length_map] at fl
  have v6:=penSame s6 v4
  have b6:=b4.trans (But.of_same (p:=p) s6)
  refine⟨_,rfl,.inl ⟨rfl,_,.of hL6⟩,_,rfl,_,rfl,_,_,rfl,Or.inl ⟨_,.of hL6,rfl⟩,.int ⟨p,a,_,rfl,hP.but b6 v6,by omega,by omega,fun r7 H7 h70 h71 v7 e7=>?_⟩⟩
  obtain⟨m,rfl⟩:=Int.eq_ofNat_of_zero_le h70
  have b67:=But.of_eq e7
  have b7:=b6.trans b67
  obtain⟨ys6,hp6⟩:=penAt v6
  have hL7:=b67 L _ nLp hL6
  have rp7:=repBut_all (repBut_pair hp6 b67) rpf
  refine⟨_,rfl,_,rfl,szl 2,fun t ht=>?_⟩
  refine nw ht fun H8 s8 e8=>?_
  have hL8:=s8 _ _ hL7
  refine nil_ ⟨L,_,_,m,_,rfl,rfl,rfl,hL8,by omega,small1000 (by omega),?_⟩
  have rp9:RepAll (upd H8 L (.lst (fr.take m++V.ref t::fr.drop m))) (fr.take m++V.ref t::fr.drop m) ((ps.take m++(word,unit)::ps.drop m).map pairD):=repBut_all (repBut_pair hL8 But.upd) (ins_rep (rp7.same s8) (pair_rep e8) m)
  have v9:=(penSame s8 v7).upd (Ne.symm nLp) (o:=.lst (fr.take m++V.ref t::fr.drop m))
  have b9:=(b7.trans (But.of_same (p:=p) s8)).at (o:=.lst (fr.take m++V.ref t::fr.drop m)) fL
  have hL9:upd H8 L (.lst (fr.take m++V.ref t::fr.drop m)) L=some (.lst (fr.take m++V.ref t::fr.drop m)):=upd_same
  generalize upd H8 L (.lst (fr.take m++V.ref t::fr.drop m))=H9 at rp9 v9 b9 hL9 ⊢
  have W2:WnF us ks (ps.take m++(word,unit)::ps.drop m):=(WF.sub sub).add hword hu (ins_perm' ps m (word,unit)) (fun e he=>(good e he).1) (fun e he=>(good e he).2)
  refine⟨_,rfl,L,_,rfl,.of hL9,fun tt htt=>?_⟩
  refine nw htt fun HA sA eA=>?_
  exact k tt _ _ HA eA (rp9.same sA) W2 (by have:=wfew W2;omega) (penSame sA v9) (b9.trans (But.of_same (p:=p) sA))
def spChg (K:W.Frag):Sp:=fun vs H Q _=>∃(p a q un:_) (us:List Str) (ks ts ws wn:_),vs=[.ref p,.ref q,.ref un]/\Pen K H p a/\Rep H (.ref q) (houseD ks ts ws wn)/\FrH us ks ts ws wn/\(ts++ws).length<=100/\H un=some (.lst (List.map V.str us))/\un≠p/\0<us.length /\
 ∀(q':Addr) (ks':Kn) (ts' ws' wn':Prs) H',Rep H' (.ref q') (houseD ks' ts' ws' wn')->FrH us ks' ts' ws' wn'->PenV H' p a->But p H H'->Q (.ref q') H'
theorem ins_sub {α:Type}{l:List α}{x:α}{m:Nat}:∀e∈l.take m++x::l.drop m,e=x∨e∈l:=fun e he=>List.mem_cons.mp ((ins_perm' l m x).mem_iff.mp he)
theorem ok_chg {f:Addr}{fd:FuncData}(F:Fun K "_law_changed" "_law_changed" sChanged f fd) (B:Blt mg) (c_law_draw:Cal P w K mg base 1 "_law_draw" ["_law_pen_here","_law_most"] (spDraw K)) (c_law_knots_changed:Cal P w K mg base 2 "_law_knots_changed" ["_law_pen_here","_law_knots"] (spKnCh K)) (c_law_wanted:Cal P w K mg base 2 "_law_wanted" ["_law_pen_here","_law_house_here","_law_units"] (spLWant K)) (c_law_fewer:Cal P w K mg base 2 "_law_fewer" ["_law_pen_here","_law_some"] (spFewer K)) (c_law_pair:Cal P w K mg base 3 "_law_pair" ["_law_pen_here","_law_house_here","_law_units"] (spLPair K)):FnOk P w K mg base CX0 4 f fd ["_law_pen_here","_law_house_here","_law_units"] (spChg K):=by
 refine F.ok1 ["_law_pen_here","_law_house_here","_law_units","_law_knots","_law_ties","_law_waiting_here","_law_wants_here","_law_kind","_law_pair_here","_law_at"] fun nd H Q E hr h=>?_
 obtain⟨p,a,q,un,us,ks,ts,ws,wn,rfl,hP,R,G,l100,hun,nup,upos,k⟩:=h
 have T:=G.T
 have wl:=G.wl
 have hok:∀e∈ts++ws,e.1∈us/\e.2∈us/\partO ks e.1 e.2≠none:=fun e he=>by
  rcases List.mem_append.mp he with he | he
  ·exact G.tp e he
  ·exact G.wp e he
 have tl:=l100
 rw[List.length_append] at tl
 obtain⟨ys0,hp0⟩:=penAt hP.2
 obtain⟨q',a1,b1',c1,d1,e0,hq,R1,R2,R3,R4⟩:=house_at R
 cases e0
 obtain⟨b2',rb,e0,hb,rpb⟩:=pairsT_at R2
 cases e0
 obtain⟨c2',rc,e0,hc,rpc⟩:=pairsT_at R3
 cases e0
 obtain⟨d2',rd,e0,hd4,rpd⟩:=pairsT_at R4
 cases e0
 have bl:=rpb.len
 have cl:=rpc.len
 have dl:=rpd.len
 rw[List.length_map] at bl cl dl
 have K1:∀ {H'},But p H H'->Rep H' (.ref a1) (knotsD ks):=fun b=>repBut_knots hp0 b R1
 have KB:∀ {H'},But p H H'->RepAll H' rb (ts.map pairD):=fun b=>repBut_all (repBut_pair hp0 b) rpb
 have KC:∀ {H'},But p H H'->RepAll H' rc (ws.map pairD):=fun b=>repBut_all (repBut_pair hp0 b) rpc
 have KD':∀ {H'},But p H H'->RepAll H' rd (wn.map pairD):=fun b=>repBut_all (repBut_pair hp0 b) rpd
 refine⟨_,(pss_cons (ps_asg (pv 1) (pg_tupK (n:=4) K rfl (pgs_cons (pg_name (i:=3) nd rfl (Or.inl rfl)) (pgs_cons (pg_name (i:=4) nd rfl (Or.inl rfl)) (pgs_cons (pg_name (i:=5) nd rfl (Or.inl rfl)) (pgs_cons (pg_name (i:=6) nd rfl (Or.inl rfl)) pgs_nil))))))
  (pss_cons (pst 7 nd (pc c_law_draw hr (p2 (pv 0) pe_int)))
  (pss_cons (ps_if (pt_cmpR op_ltX (pv 7) pe_int (nomark _)) (pss_one (ps_ret (pe_tup (pa_cons (pc c_law_knots_changed hr (p2 (pv 0) (pv 3))) (pa_cons (pv 4) (p2 (pv 5) (pv 6))))))) pss_nil)
  (pss_cons (ps_if (pt_cmpR (op_eqX hr.units) (pv 7) pe_int (nomark _)) (pss_one (ps_ret (pe_tup (pa_cons (pv 3) (pa_cons (pv 4) (p2 (pv 5) (pc c_law_wanted hr (pa_cons (pv 0) (p2 (pv 1) (pv 2)))))))))) pss_nil)
  (pss_cons (ps_if (pt_cmpR (op_eqX hr.units) (pv 7) pe_int (nomark _)) (pss_one (ps_ret (pe_tup (pa_cons (pv 3) (pa_cons (pc c_law_fewer hr (p2 (pv 0) (pv 4))) (p2 (pv 5) (pv 6))))))) pss_nil)
  (pss_cons (ps_if (pt_cmpR (op_eqX hr.units) (pv 7) pe_int (nomark _)) (pss_one (ps_ret (pe_tup (pa_cons (pv 3) (pa_cons (pv 4) (p2 (pv 5) (pc c_law_fewer hr (p2 (pv 0) (pv 6))))))))) pss_nil)
  (pss_cons (pst 8 nd (pc c_law_pair hr (pa_cons (pv 0) (p2 (pv 1) (pv 2)))))
  (pss_cons (ps_if (pt_cmpR op_isX (pv 8) pe_non (nomark _)) (pss_one (ps_ret (pv 1))) pss_nil)
  (pss_cons (pst 9 nd (pc c_law_draw hr (p2 (pv 0) (pe_op op_addX (b_len K B (p1 (px K hr (pv 1) (pe_op op_sub (pv 7) pe_int)))) pe_int))))
  (pss_cons (ps_if (pt_cmpR (op_eqX hr.units) (pv 7) pe_int (nomark _)) (pss_one (ps_ret (pe_tup (pa_cons (pv 3) (pa_cons (pe_op op_catTB (pe_op op_catTB (pe_slice sl_tupA (pv 4) po_none (po_some (pv 9))) (pe_tup (p1 (pv 8)))) (pe_slice sl_tupA (pv 4) (po_some (pv 9)) po_none)) (p2 (pv 5) (pv 6))))))) pss_nil)
  (pss_one (ps_ret (pe_tup (pa_cons (pv 3) (pa_cons (pv 4) (p2 (pe_op op_catTB (pe_op op_catTB (pe_slice sl_tupA (pv 5) po_none (po_some (pv 9))) (pe_tup (p1 (pv 8)))) (pe_slice sl_tupA (pv 5) (po_some (pv 9)) po_none)) (pv 6))))))))))))))))),?_⟩
 refine⟨_,rfl,q,_,rfl,.of hq,rfl,_,_,rfl,_,_,rfl,_,_,rfl,_,_,rfl,rfl,?_⟩
 refine⟨_,rfl,p,a,7,rfl,hP,by decide,by decide,fun r H1 h10 h11 v1 e1=>?_⟩
 have b1:=But.of_eq e1
 have P1:Pen K H1 p a:=hP.but b1 v1
 refine name_go ?_
 dsimp only
 refine⟨_,rfl,.int ⟨_,rfl,ite2 (fun _=>?_) (fun n2=>next_go ?_)⟩⟩
 ·refine⟨_,rfl,_,rfl,p,a,a1,us,ks,rfl,P1,K1 b1,T,fun n' kk row H2 hkk pm Rn v2 b12=>?_⟩
  have b2:=b1.trans b12
  refine⟨_,rfl,_,rfl,_,rfl,szl 4,fun qq hqq=>?_⟩
  refine nw hqq fun H3 s3 e3=>?_
  have b3:=b2.trans (But.of_same (p:=p) s3)
  exact k qq _ _ _ _ H3 (house_rep e3 (Rn.same s3) (.tup (tupBut hp0 b3 hb) (KB b3)) (.tup (tupBut hp0 b3 hc) (KC b3)) (.tup (tupBut hp0 b3 hd4) (KD' b3))) (G.row hkk pm) (penSame s3 v2) b3
 have n2:¬ r<2:=fun z=>n2 (decide_eq_true z)
 refine⟨_,rfl,.sc rfl ⟨_,rfl,ite2 (fun _=>?_) (fun n2'=>next_go ?_)⟩⟩
 ·refine⟨_,rfl,_,rfl,_,rfl,_,rfl,_,rfl,_,rfl,p,a,q,un,us,ks,ts,ws,wn,rfl,P1,repBut_house hp0 b1 R,G,b1 un _ nup hun,nup,upos,fun t refs wn' H2 ht rpt W' l' v2 b12=>?_⟩
  have b2:=b1.trans b12
  refine nil_ ⟨szl 4,fun qq hqq=>?_⟩
  refine nw hqq fun H3 s3 e3=>?_
  have b3:=b2.trans (But.of_same (p:=p) s3)
  exact k qq _ _ _ _ H3 (house_rep e3 (K1 b3) (.tup (tupBut hp0 b3 hb) (KB b3)) (.tup (tupBut hp0 b3 hc) (KC b3)) (.tup (s3 _ _ ht) (rpt.same s3))) (G.wants W' l') (penSame s3 v2) b3
 refine⟨_,rfl,.sc rfl ⟨_,rfl,ite2 (fun _=>?_) (fun n3=>next_go ?_)⟩⟩
 ·refine⟨_,rfl,_,rfl,_,rfl,p,a,b1',rb,ts,rfl,P1,tupBut hp0 b1 hb,KB b1,by omega,fun t refs ts' H2 ht rpt sub v2 b12=>?_⟩
  have b2:=b1.trans b12
  refine⟨_,rfl,_,rfl,szl 4,fun qq hqq=>?_⟩
  refine nw hqq fun H3 s3 e3=>?_
  have b3:=b2.trans (But.of_same (p:=p) s3)
  have sb:(ts'++ws).Sublist (ts++ws):=sub.append (List.Sublist.refl _)
  exact k qq _ _ _ _ H3 (house_rep e3 (K1 b3) (.tup (s3 _ _ ht) (rpt.same s3)) (.tup (tupBut hp0 b3 hc) (KC b3)) (.tup (tupBut hp0 b3 hd4) (KD' b3))) (G.ties (fun e he=>hok e (sb.subset he)) (sb.nodup G.nd) (Nat.le_trans sb.length_le G.tl)) (penSame s3 v2) b3
 refine⟨_,rfl,.sc rfl ⟨_,rfl,ite2 (fun _=>?_) (fun n4=>next_go ?_)⟩⟩
 ·refine⟨_,rfl,_,rfl,_,rfl,_,rfl,_,rfl,p,a,d1,rd,wn,rfl,P1,tupBut hp0 b1 hd4,KD' b1,by omega,fun t refs wn' H2 ht rpt sub v2 b12=>?_⟩
  have b2:=b1.trans b12
  refine nil_ ⟨szl 4,fun qq hqq=>?_⟩
  refine nw hqq fun H3 s3 e3=>?_
  have b3:=b2.trans (But.of_same (p:=p) s3)
  exact k qq _ _ _ _ H3 (house_rep e3 (K1 b3) (.tup (tupBut hp0 b3 hb) (KB b3)) (.tup (tupBut hp0 b3 hc) (KC b3)) (.tup (s3 _ _ ht) (rpt.same s3))) (G.wants (G.wf.sub sub) (Nat.le_trans sub.length_le wl)) (penSame s3 v2) b3
 have hr:r=5∨r=6:=by
  have a2:r≠2:=fun z=>n2' (by rw[z];decide)
  have a3:r≠3:=fun z=>n3 (by rw[z];decide)
  have a4:r≠4:=fun z=>n4 (by rw[z];decide)
  omega
 clear n2 n2' n3 n4 h10 h11
 refine⟨_,rfl,_,rfl,_,rfl,p,a,q,un,us,ks,ts,ws,wn,rfl,P1,repBut_house hp0 b1 R,G,b1 un _ nup hun,nup,upos,fun x H2 hx v2 b12=>?_⟩
 have b2:=b1.trans b12
 refine name_go ?_
 dsimp only
 refine⟨_,rfl,.non ⟨_,rfl,?_⟩⟩
 rcases hx with rfl | ⟨t,u,v,rfl,ht,hnew,hu,hv,hpo⟩
 ·refine ite2 (fun _=>?_) (fun h=>absurd (by decide) h)
  exact⟨_,rfl,k q _ _ _ _ H2 (repBut_house hp0 b2 R) G v2 b2⟩
 refine ite2 (fun h=>absurd h (by simp)) (fun _=>next_go ?_)
 have npe:∀ {l:Prs},(∀e∈l,e=(u,v)∨e∈ts++ws)->∀e∈l,e.1∈us/\e.2∈us/\partO ks e.1 e.2≠none:=fun h e he=>by
  rcases h e he with rfl | h
  ·exact⟨hu,hv,hpo⟩
  ·exact hok e h
 have hq2:=tupBut hp0 b2 hq
 have npt:t≠p:=by
  obtain⟨ys2,hp2⟩:=penAt v2
  exact ne_of ht hp2 (by intro z;cases z)
 rcases hr with rfl | rfl
 ·refine⟨_,rfl,_,rfl,_,rfl,_,_,rfl,rfl,.tup (.of hq2) rfl (nil_ ⟨_,_,rfl,Or.inr ⟨_,.of (tupBut hp0 b2 hb),rfl⟩,.int ⟨p,a,_,rfl,hP.but b2 v2,by omega,by omega,fun r3 H3 h30 h31 v3 e3=>?_⟩⟩)⟩
  obtain⟨m,rfl⟩:=Int.eq_ofNat_of_zero_le h30
  have b23:=But.of_eq e3
  have b3:=b2.trans b23
  have ht3:=b23 t _ npt ht
  refine name_go ?_
  dsimp only
  refine⟨_,rfl,.sc rfl ⟨_,rfl,ite2 (fun _=>?_) (fun h=>absurd (by decide) h)⟩⟩
  have hb3:=tupBut hp0 b3 hb
  refine⟨_,rfl,_,rfl,_,rfl,_,rfl,b1',rb,rfl,hb3,fun t1 H4 s4 e4=>?_⟩
  rw[show cutV rb none (some (m:Int))=rb.take m from cutV_to rb m (by omega)] at e4
  refine⟨_,rfl,szl 1,fun t2 ht2=>?_⟩
  refine nw ht2 fun H5 s5 e5=>?_
  refine⟨t1,t2,_,_,rfl,rfl,s5 _ _ e4,e5,Nat.le_of_lt (small1000 (by rw[List.length_take];show _+1<=1000;omega)),fun t3 H6 s6 e6=>?_⟩
  have s36:=(s4.trans s5).trans s6
  refine⟨_,rfl,_,rfl,_,rfl,b1',rb,rfl,s36 _ _ hb3,fun t4 H7 s7 e7=>?_⟩
  rw[show cutV rb (some (m:Int)) none=rb.drop m from cutV_from rb m] at e7
  refine⟨t3,t4,_,_,rfl,rfl,s7 _ _ e6,e7,Nat.le_of_lt (small1000 (by rw[List.length_append,List.length_take,List.length_drop];show _+1+_<=1000;omega)),fun t5 H8 s8 e8=>?_⟩
  refine⟨_,rfl,_,rfl,szl 4,fun qq hqq=>?_⟩
  refine nw hqq fun H9 s9 e9=>?_
  have s39:=((s36.trans s7).trans s8).trans s9
  have b9:=b3.trans (But.of_same (p:=p) s39)
  have pm:=ins_perm' ts m (u,v)
  have rpN:RepAll H9 (rb.take m++[V.ref t]++rb.drop m) ((ts.take m++(u,v)::ts.drop m).map pairD):=by
   rw[List.append_assoc]
   exact ins_rep (KB b9) (pair_rep (s:=u) (t:=v) (s39 _ _ ht3)) m
  refine k qq _ _ _ _ H9 (house_rep e9 (K1 b9) (.tup (s9 _ _ e8) rpN) (.tup (tupBut hp0 b9 hc) (KC b9)) (.tup (tupBut hp0 b9 hd4) (KD' b9))) (G.ties (npe fun e he=>?_) ?_ ?_) (penSame s39 v3) b9
  ·rcases List.mem_append.mp he with he | he
   ·exact(ins_sub e he).imp id (List.mem_append_left _)
   ·exact .inr (List.mem_append_right _ he)
  ·have pp:=pm.append_right ws
   rw[pp.nodup_iff]
   exact List.nodup_cons.mpr ⟨hnew,G.nd⟩
  ·rw[List.length_append,pm.length_eq,List.length_cons];omega
 ·refine⟨_,rfl,_,rfl,_,rfl,_,_,rfl,rfl,.tup (.of hq2) rfl (nil_ ⟨_,_,rfl,Or.inr ⟨_,.of (tupBut hp0 b2 hc),rfl⟩,.int ⟨p,a,_,rfl,hP.but b2 v2,by omega,by omega,fun r3 H3 h30 h31 v3 e3=>?_⟩⟩)⟩
  obtain⟨m,rfl⟩:=Int.eq_ofNat_of_zero_le h30
  have b23:=But.of_eq e3
  have b3:=b2.trans b23
  have ht3:=b23 t _ npt ht
  refine name_go ?_
  dsimp only
  refine⟨_,rfl,.sc rfl ⟨_,rfl,ite2 (fun h=>absurd h (by decide)) (fun _=>next_go ?_)⟩⟩
  have hc3:=tupBut hp0 b3 hc
  refine⟨_,rfl,_,rfl,_,rfl,_,rfl,_,rfl,c1,rc,rfl,hc3,fun t1 H4 s4 e4=>?_⟩
  rw[show cutV rc none (some (m:Int))=rc.take m from cutV_to rc m (by omega)] at e4
  refine⟨_,rfl,szl 1,fun t2 ht2=>?_⟩
  refine nw ht2 fun H5 s5 e5=>?_
  refine⟨t1,t2,_,_,rfl,rfl,s5 _ _ e4,e5,Nat.le_of_lt (small1000 (by rw[List.length_take];show _+1<=1000;omega)),fun t3 H6 s6 e6=>?_⟩
  have s36:=(s4.trans s5).trans s6
  refine⟨_,rfl,_,rfl,_,rfl,c1,rc,rfl,s36 _ _ hc3,fun t4 H7 s7 e7=>?_⟩
  rw[show cutV rc (some (m:Int)) none=rc.drop m from cutV_from rc m] at e7
  refine⟨t3,t4,_,_,rfl,rfl,s7 _ _ e6,e7,Nat.le_of_lt (small1000 (by rw[List.length_append,List.length_take,List.length_drop];show _+1+_<=1000;omega)),fun t5 H8 s8 e8=>?_⟩
  refine⟨_,rfl,szl 4,fun qq hqq=>?_⟩
  refine nw hqq fun H9 s9 e9=>?_
  have s39:=((s36.trans s7).trans s8).trans s9
  have b9:=b3.trans (But.of_same (p:=p) s39)
  have pm:=ins_perm' ws m (u,v)
  have rpN:RepAll H9 (rc.take m++[V.ref t]++rc.drop m) ((ws.take m++(u,v)::ws.drop m).map pairD):=by
   rw[List.append_assoc]
   exact ins_rep (KC b9) (pair_rep (s:=u) (t:=v) (s39 _ _ ht3)) m
  refine k qq _ _ _ _ H9 (house_rep e9 (K1 b9) (.tup (tupBut hp0 b9 hb) (KB b9)) (.tup (s9 _ _ e8) rpN) (.tup (tupBut hp0 b9 hd4) (KD' b9))) (G.ties (npe fun e he=>?_) ?_ ?_) (penSame s39 v3) b9
  ·rcases List.mem_append.mp he with he | he
   ·exact .inr (List.mem_append_left _ he)
   ·exact(ins_sub e he).imp id (List.mem_append_right _)
  ·have pp:=(pm.append_left ts).trans List.perm_middle
   rw[pp.nodup_iff]
   exact List.nodup_cons.mpr ⟨hnew,G.nd⟩
  ·rw[List.length_append,pm.length_eq,List.length_cons];omega
end
end K39
namespace K39
open PySem L2
section
variable {P:Program}{w:World}{K:W.Frag}{mg:Str->Option Value}{base:Heap}
def spMade:Sp:=fun vs H Q _=>∃q us ks ts ws wn,vs=[.ref q]/\Rep H (.ref q) (houseD ks ts ws wn)/\FrH us ks ts ws wn /\
 (GdH ks ts wn ws->∀q' H',Same H H'->Rep H' (.ref q') (houseD ks ts ws wn)->Q (.ref q') H')/\(¬ GdH ks ts wn ws->∀H',Same H H'->Q (.str "none") H')
theorem ok_made {f:Addr}{fd:FuncData}{ec:Str->Addr}(F:Fun K "_law_made" "_law_made" sMade f fd) (B:Blt mg) (Er:Errs K mg base ec excL excC) (xhouse_of:CalX P w K mg base 7 "house_of" ["knots","ties","waiting","wants"] (spHouseOf ec)):FnOk P w K mg base CX0 8 f fd ["_law_house_here"] spMade:=by
 refine F.ok1 ["_law_house_here","_law_found","e"] fun nd H Q E hr h=>?_
 obtain⟨q,us,ks,ts,ws,wn,rfl,R,G,k,k0⟩:=h
 obtain⟨bmD,xD,hDb,_⟩:=Er.at_ "OrderError" (by decide)
 obtain⟨bmN,xN,_,hin⟩:=Er.at_ "NoHouse" (by decide)
 have fN:=Er.f "NoHouse" (by decide)
 obtain⟨q',a,b,c,d,e0,hq,R1,R2,R3,R4⟩:=house_at R
 cases e0
 obtain⟨a',ra,e0,ha,rpa⟩:=knots_at R1
 cases e0
 obtain⟨b',rb,e0,hb,rpb⟩:=pairsT_at R2
 cases e0
 obtain⟨c',rc,e0,hc,rpc⟩:=pairsT_at R3
 cases e0
 obtain⟨d',rd,e0,hd4,rpd⟩:=pairsT_at R4
 cases e0
 refine⟨_,(pss_cons (pst 1 nd pe_non)
  (pss_cons (ps_tryG (i:=2) (fun _ _ _=>(pss_one (pst 1 nd (pe_calT xhouse_of (hr.mono (by decide)) rfl (pa_cons (px K hr (pv 0) pe_int) (pa_cons (b_list K rfl B (p1 (px K hr (pv 0) pe_int))) (p2 (px K hr (pv 0) pe_int) (b_list K rfl B (p1 (px K hr (pv 0) pe_int)))))))))) rfl rfl rfl (Er.b "OrderError" (by decide)) xD hDb nd rfl rfl (fun _ _=>(pss_one (pst 1 nd (pe_ix (ix_X K (hr.units)) (pe_lst (p2 pe_str pe_str)) (b_int B (p1 (b_isx K B (p2 (pv 2) (pe_glob (v:=.ref (ec "NoHouse")) rfl (Er.b "NoHouse" (by decide)) rfl))))) (fun _ _=>rfl))))))
  (pss_one (ps_ret (pv 1))))),?_⟩
 refine⟨_,rfl,.tup (.of hq) rfl ⟨_,rfl,.tup (.of hq) rfl (nil_ ⟨_,rfl,.seq (.inr (.of hb)) fun l1 h1=>?_⟩)⟩⟩
 refine nw h1 fun H1 s1 e1=>?_
 refine⟨_,rfl,.tup (.of (s1 _ _ hq)) rfl ⟨_,rfl,.tup (.of (s1 _ _ hq)) rfl (nil_ ⟨_,rfl,.seq (.inr (.of (s1 _ _ hd4))) fun l2 h2=>?_⟩)⟩⟩
 refine nw h2 fun H2 s2 e2=>?_
 have s12:=s1.trans s2
 refine nil_ ⟨rfl,a,l1,c,l2,ra,rb,rc,rd,us,ks,ts,ws,wn,rfl,.inr (s12 _ _ ha),.inl (s2 _ _ e1),.inr (s12 _ _ hc),.inl e2,rpa.same s12,rpb.same s12,rpc.same s12,rpd.same s12,G,fun gd q' H3 s3 R3=>?_,fun nb H3 s3=>⟨ec "NoHouse",bmN,rfl,xN,hin,fun ad had=>?_⟩⟩
 ·exact⟨_,rfl,k gd q' H3 (s12.trans s3) R3⟩
 ·have s13:=s12.trans s3
  refine nw had fun H4 s4 e4=>?_
  refine⟨szl 2,fun l hl=>?_⟩
  refine nw hl fun H5 s5 e5=>?_
  refine⟨_,rfl,ad,ec "NoHouse",none,_,.ref (ec "NoHouse"),true,rfl,s5 _ _ e4,fN,fun v hv=>hv,(Er.kit "NoHouse" (by decide) (by decide) "NoHouse" (by decide)).trans (by decide),?_⟩
  refine nil_ ⟨_,rfl,.bl (.lst (.of e5) rfl ?_)⟩
  exact⟨_,rfl,k0 nb H5 ((s13.trans s4).trans s5)⟩
theorem dep_pairs:∀ts:List (Str × Str),PyData.depthAll (ts.map pairD)<=1
 | []=>by decide
 | e::es=>by
  show max (PyData.depth (pairD e)) (PyData.depthAll (es.map pairD))<=1
  have h1:PyData.depth (pairD e)=1:=rfl
  have h2:=dep_pairs es
  omega
theorem dep_strs:∀ss:List Str,PyData.depthAll (ss.map PyData.str)=0
 | []=>rfl
 | s::ss=>by
  show max (PyData.depth (.str s)) (PyData.depthAll (ss.map PyData.str))=0
  rw[dep_strs ss];rfl
theorem dep_knots:∀ks:Kn,PyData.depthAll (ks.map knotD)<=2
 | []=>by decide
 | k::ks=>by
  show max (max 0 (max (PyData.depthAll (k.2.map PyData.str)+1) 0)+1) (PyData.depthAll (ks.map knotD))<=2
  have:=dep_knots ks
  rw[dep_strs]
  omega
theorem lay_knots:∀ks:Kn,(∀k∈ks,(k.1=""∨Nm k.1)/\∀u∈k.2,Nm u)->PyData.canLayAll0 (ks.map knotD)=true
 | [],_=>rfl
 | k::ks,h=>by
  obtain⟨h1,h2⟩:=h k (List.mem_cons_self ..)
  show ((PyData.canLay0 (.str k.1)&&(PyData.canLayAll0 (k.2.map PyData.str)&&true))&&PyData.canLayAll0 (ks.map knotD))=true
  rw[lay_knots ks fun x hx=>h x (List.mem_cons_of_mem _ hx),canLay_strs _ h2]
  rcases h1 with z | z
  ·rw[z,show PyData.canLay0 (.str "")=true by decide +kernel];rfl
  ·rw[canLay_nm z];rfl
theorem shp_house {us:List Str}{ks:Kn}{ts ws wn:Prs}(T:Tre us ks) (h1:∀e∈ts,Nm e.1/\Nm e.2) (h2:∀e∈ws,Nm e.1/\Nm e.2) (h3:∀e∈wn,Nm e.1/\Nm e.2):shp (houseD ks ts ws wn):=by
 show ((PyData.canLayAll0 (ks.map knotD)&&(PyData.canLayAll0 (ts.map pairD)&&(PyData.canLayAll0 (ws.map pairD)&&(PyData.canLayAll0 (wn.map pairD)&&true))))&&decide (max (PyData.depthAll (ks.map knotD)+1) (max (PyData.depthAll (ts.map pairD)+1) (max (PyData.depthAll (ws.map pairD)+1) (max (PyData.depthAll (wn.map pairD)+1) 0)))+1<=64))=true
 have d0:=dep_knots ks
 have d1:=dep_pairs ts
 have d2:=dep_pairs ws
 have d3:=dep_pairs wn
 rw[lay_knots ks fun k hk=>⟨(T.sub k hk).imp id (T.nm _),fun u hu=>T.nm u (T.isIn hk hu)⟩,canLay_pairsN h1,canLay_pairsN h2,canLay_pairsN h3,decide_eq_true (by omega)]
 rfl
theorem view_fwd {us:List Str}{ks:Kn}(T:Tre us ks) {ts wn:Prs}(tok:TsOk us ks ts) (W:WnX ks wn) {k:Str × List Str}(hk:k ∈ ks):∀e ∈ viewE ks ts wn k.1 k.2, MG.ix k.2 e.1<MG.ix k.2 e.2 := fun e he => by
 have cnd:=kid_nodup T hk
 have own:∀ {word u:Str},u∈wU k.2 wn word->FL k (word,u)/\u∈k.2:=fun {word u} hu=>by
  unfold wU at hu
  rw[List.mem_filter,decide_eq_true_iff] at hu
  obtain⟨k',hk',f⟩:=W.at_ _ hu.2
  have:=kids_uniq T.knd hk hk' hu.1 f.mem
  rw[this];exact⟨f,this ▸ hu.1⟩
 have n:("first":Str)≠"last":=by decide
 unfold viewE at he
 rw[dedTo_mem,List.mem_append,List.mem_append] at he
 rcases he with he | he | he | he
 ·cases he
 ·obtain⟨z,hz,q⟩:=List.mem_filterMap.mp he
  obtain⟨hu,hv',_,kk,hkk,x,y,hp,_,_,_,_,lt⟩:=tok z hz
  unfold basO at q
  rw[hp] at q
  have q:(if kk.1=k.1 then some (x,y) else none)=some e:=q
  by_cases hz:kk.1=k.1
  ·rw[if_pos hz] at q
   have q:=Option.some.inj q
   subst q
   have:=knot_one T hkk hk hz
   subst this
   exact lt
  ·rw[if_neg hz] at q;cases q
 ·obtain⟨u,hu,he⟩:=List.mem_flatMap.mp he
  obtain⟨f,hm⟩:=own hu
  obtain⟨v,hv,e'⟩:=List.mem_map.mp he
  have e':(u,v)=e:=e'
  subst e'
  rw[List.mem_filter,decide_eq_true_iff] at hv
  rcases f with⟨_,f⟩ | ⟨f,_⟩
  ·have h0:k.2[0]? = some u:=by rw[<- List.head?_eq_getElem?];exact f
   have:=(List.getElem?_inj (List.getElem?_eq_some_iff.mp h0).1 cnd).mp (h0.trans (MG.at_ix hm).symm)
   have ne:MG.ix k.2 v≠MG.ix k.2 u:=fun z=>hv.2 (MG.ix_inj hv.1 hm z)
   show MG.ix k.2 u<MG.ix k.2 v
   omega
  ·exact absurd f n
 ·obtain⟨u,hu,he⟩:=List.mem_flatMap.mp he
  obtain⟨f,hm⟩:=own hu
  obtain⟨v,hv,e'⟩:=List.mem_map.mp he
  have e':(v,u)=e:=e'
  subst e'
  rw[List.mem_filter,decide_eq_true_iff] at hv
  rcases f with⟨f,_⟩ | ⟨_,f⟩
  ·exact absurd f (Ne.symm n)
  ·have h0:k.2[k.2.length-1]? = some u:=by rw[<- List.getLast?_eq_getElem?];exact f
   have:=(List.getElem?_inj (List.getElem?_eq_some_iff.mp h0).1 cnd).mp (h0.trans (MG.at_ix hm).symm)
   have ne:MG.ix k.2 v≠MG.ix k.2 u:=fun z=>hv.2 (MG.ix_inj hv.1 hm z)
   have lt:=MG.ix_lt hv.1
   show MG.ix k.2 v<MG.ix k.2 u
   omega
theorem rch_fwd {es:Prs}{c:List Str}(h:∀e∈es,MG.ix c e.1<MG.ix c e.2) {x y:Str}(r:MG.Rch (Tie es) x y):MG.ix c x<=MG.ix c y :=
 r.closed (S:=fun z=>MG.ix c x<=MG.ix c z) (Nat.le_refl _) fun _ _ hy t=>Nat.le_trans hy (Nat.le_of_lt (h _ t))
theorem fr_house {us:List Str}{ks:Kn}{ts ws wn:Prs}{dp:Int}(T:Tre us ks) (hdn:(ks.map (·.1)).head? = some ("":Str)) (dpt:Dpt ks dp) (d6:dp<=6) (tok:TsOk us ks ts) (tnd:ts.Nodup) (win:PsIn us ws) (wnd:ws.Nodup) (wsr:WsR ks ts wn ws) (W:WnX ks wn) (wfx:∀e∈wn,∃k∈ks,FX k e) (tl:ts.length<=40) (wl:ws.length<=6) (nl:wn.length<=122):FrH us ks ts ws wn/\GdH ks ts wn ws:=by
 refine⟨⟨T,hdn,?_,tok.p,fun e he=>?_,?_,WnX.toF T W wfx,by rw[List.length_append];omega,nl⟩,fun k hk=>view_fwd T tok W hk,wsr⟩
 ·obtain⟨d,d0,du,dl⟩:=dpt
  exact⟨d,d0,du,fun k hk=>Int.le_trans (dl k hk) d6⟩
 ·obtain⟨k,_,x,y,hp,_⟩:=wsr e he
  exact⟨(win e he).1,(win e he).2,by rw[hp];intro z;cases z⟩
 ·rw[List.nodup_append]
  refine⟨tnd,wnd,fun a ha b hb z=>?_⟩
  subst z
  obtain⟨_,_,_,kk,hkk,x,y,hp,_,_,_,_,lt⟩:=tok a ha
  obtain⟨k,hk,x',y',hp',_,_,r⟩:=wsr a hb
  obtain⟨e1,e2⟩:=Prod.mk.inj (Option.some.inj (hp.symm.trans hp'))
  obtain⟨e2,e3⟩:=Prod.mk.inj e2
  subst e2 e3
  have:=knot_one T hkk hk e1
  subst this
  have:=rch_fwd (view_fwd T tok W hk) r
  omega
theorem FrH.shp {us:List Str}{ks:Kn}{ts ws wn:Prs}(G:FrH us ks ts ws wn):shp (houseD ks ts ws wn) :=
 shp_house G.T (fun e he=>⟨G.T.nm _ (G.tp e he).1,G.T.nm _ (G.tp e he).2.1⟩) (fun e he=>⟨G.T.nm _ (G.wp e he).1,G.T.nm _ (G.wp e he).2.1⟩) (fun e he=>⟨nm_word (G.wf.ok e he).1,G.T.nm _ (G.wf.ok e he).2⟩)
def spLaw (K:W.Frag):Sp:=fun vs H Q _=>∃(a:_) (ns:List Int),vs=[.ref a]/\SqL K H a (ns.map V.int)/\∀H',Q (.bl true) H'
theorem ok_law {f:Addr}{fd:FuncData}(F:Fun K "law" "law" sLaw f fd) (B:Blt mg) (c_law_pen:Cal P w K mg base 1 "_law_pen" ["_law_script"] (spPen K)) (c_law_draw:Cal P w K mg base 1 "_law_draw" ["_law_pen_here", "_law_most"] (spDraw K)) (c_law_names:Cal P w K mg base 2 "_law_names" ["_law_pen_here", "_law_many"] (spNames K))
    (c_law_house:Cal P w K mg base 5 "_law_house" ["_law_pen_here","_law_units","_law_deep"] (spHouse K)) (c_law_changed:Cal P w K mg base 4 "_law_changed" ["_law_pen_here","_law_house_here","_law_units"] (spChg K)) (c_law_good:Cal P w K mg base 4 "_law_good" ["_law_house_here"] spGood) (cis_house:Cal P w K mg base 6 "is_house" ["thing"] spIsHouse) (c_law_made:Cal P w K mg base 8 "_law_made" ["_law_house_here"] spMade) :
    FnOk P w K mg base CX0 9 f fd ["_law_script"] (spLaw K):=by
 refine F.ok1 ["_law_script","_law_pen_here","_law_units","_law_house_here","_law_k","_law_other","_law_due","_law_told"] fun nd H Q E hr h=>?_
 obtain⟨a,ns,rfl,hS,k⟩:=h
 refine⟨_,(pss_cons (pst 1 nd (pc c_law_pen hr (p1 (pv 0))))
  (pss_cons (pst 2 nd (pc c_law_names hr (p2 (pv 1) (pe_op op_addX pe_int (pc c_law_draw hr (p2 (pv 1) pe_int))))))
  (pss_cons (pst 3 nd (pc c_law_house hr (pa_cons (pv 1) (p2 (pv 2) pe_int))))
  (pss_cons (ps_for PassesOwn.never rfl (pi_range1 rfl B.range (p1 pe_int)) (pg_name (i:=4) nd rfl (Or.inl rfl)) (pss_cons (pst 5 nd (pc c_law_changed hr (pa_cons (pv 1) (p2 (pv 3) (pv 2)))))
  (pss_cons (pst 6 nd (pc c_law_good hr (p1 (pv 5))))
  (pss_cons (pst 7 nd (pc cis_house hr (p1 (pv 5))))
  (pss_one (ps_if (PW.pt (pw_or (pt_not (pt_val (b_isi K "bool" B (p2 (pv 7) (g_bool B))))) (pw_or (pt_cmpR (op_neX hr.units) (pv 7) (pv 6) (nomark _)) (pw_or1 (pt_cmpR (op_neX hr.units) (pc c_law_made hr (p1 (pv 5))) (px K hr (pe_lst (p2 pe_str (pv 5))) (b_int B (p1 (pv 6)))) (nomark _)))))) (pss_one (ps_ret pe_bl)) pss_nil))))))
  (pss_one (ps_ret (pe_and (pe_cmpR op_isX (pc cis_house hr (p1 (pv 3))) pe_bl (nomark _)) (pe_one (pe_cmpR (op_eqX hr.units) (pc c_law_made hr (p1 (pv 3))) (pv 3) (nomark _)))))))))),?_⟩
 refine⟨_,rfl,a,ns,rfl,hS,fun p H1 hP=>?_⟩
 refine name_go ?_
 dsimp only
 refine⟨_,rfl,_,rfl,p,a,13,rfl,hP,by decide,by decide,fun r2 H2 h20 h21 v2 e2=>.int ?_⟩
 have b2:=But.of_eq e2
 obtain⟨m,hm⟩:=Int.eq_ofNat_of_zero_le (show 0<=2+r2 by omega)
 rw[hm]
 refine nil_ ⟨p,a,m,rfl,hP.but b2 v2,by omega,fun un us H3 ulen und unm hun _ nup v3 b23=>?_⟩
 have b3:=b2.trans b23
 refine name_go ?_
 dsimp only
 refine⟨_,rfl,_,rfl,p,a,un,us,3,rfl,hP.but b3 v3,hun,nup,und,unm,by omega,by decide,fun q ks ts ws wn H4 R T hdn dpt tok tnd win wnd wsr W wfx tl wl nl v4 b34=>?_⟩
 have b4:=b3.trans b34
 obtain⟨G,gd⟩:=fr_house T hdn dpt (by decide) tok tnd win wnd wsr W wfx tl wl nl
 have hun4:=b34 un _ nup hun
 have P4:Pen K H4 p a:=hP.but b4 v4
 obtain⟨ys4,hp4⟩:=penAt v4
 have l100:(ts++ws).length<=100:=by rw[List.length_append];omega
 clear T hdn dpt tok tnd win wnd wsr W wfx tl wl nl
 have sh:=G.shp
 refine name_go ?_
 dsimp only
 refine⟨_,rfl,by decide,by decide,?_⟩
 refine for_range (n:=6) (fun i σ H'=>∃(o4 o5 o6 o7:Option V),σ=[some (.ref a),some (.ref p),some (.ref un),some (.ref q),o4,o5,o6,o7]/\PenV H' p a/\But p H4 H') ⟨none,none,none,none,rfl,v4,But.refl p H4⟩ ?_ ?_
 ·rintro i σ H5 hi ⟨o4,o5,o6,o7,rfl,v5,b5⟩
  refine name_go ?_
  refine⟨_,rfl,_,rfl,_,rfl,p,a,q,un,us,ks,ts,ws,wn,rfl,P4.but b5 v5,repBut_house hp4 b5 R,G,l100,b5 un _ nup hun4,nup,by omega,fun q' ks' ts' ws' wn' H6 R' G' v6 b56=>?_⟩
  have b6:=b5.trans b56
  refine name_go ?_
  dsimp only
  refine⟨_,rfl,q',us,ks',ts',ws',wn',rfl,R',G',fun H7 s7=>?_⟩
  refine name_go ?_
  dsimp only
  refine⟨_,rfl,q',us,ks',ts',ws',wn',rfl,R'.same s7,G',fun H8 s8=>?_⟩
  refine name_go ?_
  dsimp only
  have s68:=s7.trans s8
  refine⟨_,rfl,_,_,true,rfl,.bl _,rfl,_,rfl,iteF ?_⟩
  refine⟨_,rfl,_,rfl,.sc rfl ⟨_,rfl,ite2 (fun h=>absurd h (by simp)) fun _=>?_⟩⟩
  have sh':=G'.shp
  by_cases g:GdH ks' ts' wn' ws'
  ·rw[decT g]
   refine⟨_,rfl,q',us,ks',ts',ws',wn',rfl,R'.same s68,G',fun _ q2 H9 s9 R9=>?_,fun nb=>absurd g nb⟩
   refine⟨_,rfl,szl 2,fun l hl=>?_⟩
   refine nw hl fun HA sA eA=>?_
   have s6A:=(s68.trans s9).trans sA
   refine⟨_,rfl,_,rfl,.bl (.lst (.of eA) rfl (.tr (R9.same sA) (R'.same s6A) sh' sh' ⟨_,rfl,?_⟩))⟩
   rw[eqv_shp sh']
   exact iteF (next_go ⟨_,_,_,_,rfl,penSame s6A v6,b6.trans (But.of_same (p:=p) s6A)⟩)
  ·rw[decF g]
   refine⟨_,rfl,q',us,ks',ts',ws',wn',rfl,R'.same s68,G',fun z=>absurd z g,fun _ H9 s9=>?_⟩
   refine⟨_,rfl,szl 2,fun l hl=>?_⟩
   refine nw hl fun HA sA eA=>?_
   have s6A:=(s68.trans s9).trans sA
   refine⟨_,rfl,_,rfl,.bl (.lst (.of eA) rfl (.sc rfl ⟨_,rfl,ite2 (fun h=>absurd h (by simp)) fun _=>next_go ?_⟩))⟩
   exact⟨_,_,_,_,rfl,penSame s6A v6,b6.trans (But.of_same (p:=p) s6A)⟩
 ·rintro σ H5 ⟨o4,o5,o6,o7,rfl,v5,b5⟩
  have R5:=repBut_house hp4 b5 R
  refine⟨_,rfl,q,us,ks,ts,ws,wn,rfl,R5,G,fun H6 s6=>?_⟩
  rw[decT gd]
  refine .bl ⟨_,rfl,iteT ?_⟩
  refine⟨_,rfl,q,us,ks,ts,ws,wn,rfl,R5.same s6,G,fun _ q2 H7 s7 R7=>?_,fun nb=>absurd gd nb⟩
  refine⟨_,rfl,.tr R7 (R5.same (s6.trans s7)) sh sh ?_⟩
  show Q (.bl (PyData.eqv _ _)) H7
  rw[eqv_shp sh]
  exact k H7
end
end K39
namespace K39
open PySem L2
section
variable {P:Program}{w:World}{K:W.Frag}{mg:Str->Option Value}{base:Heap}
theorem sq_lit {K:W.Frag}{a:Addr}{od:Option Addr}{us:List Value}{n:Nat}{sl:Array (Option Value)}{xs:List V}(l:K.lookup a=some ⟨.type "tuple",od,.seq us.toArray n,sl⟩) (hz:us.length<=1000) (r:Vals xs us):∀H,SqT K H a xs:=fun H =>
 .inr ⟨_,us.toArray,n,l,rfl,rfl,by rw[List.size_toArray];exact Nat.le_trans hz (by decide),by rw[List.toList_toArray];exact r⟩
theorem placesQ_X (vs:List V) (H:Hp) (Q:VK) (E:XK) (h:spPlacesX vs H Q E):spPlacesQ vs H Q E := by
 obtain⟨x,rfl,h⟩:=h
 cases h with
 | nm a b k=>exact⟨_,rfl,.nm a b k⟩
 | @pr a refs ps _ h1 h2 h3 k =>
  refine⟨_,rfl,.pr h1 h2 (by omega) fun d kvs H' s1 g1 g2 g3=>k d kvs H' s1 g1 g2 fun e=>?_⟩
  rw[<- valV_any,List.any_eq_true]
  constructor
  ·rintro⟨kv,hk,q⟩
   have q:=of_decide_eq_true q
   have hm:kv.1∈(dedTo [] ps).map pK:=by rw[<- g3];exact List.mem_map.mpr ⟨kv,hk,rfl⟩
   obtain⟨e',he',q'⟩:=List.mem_map.mp hm
   have:=pK_inj (q'.trans q)
   subst this
   rcases (dedTo_mem _ _ _).mp he' with z | z
   ·cases z
   ·exact z
  ·intro he
   have hm:pK e∈kvs.map (·.1):=by rw[g3];exact List.mem_map.mpr ⟨e,(dedTo_mem _ _ _).mpr (.inr he),rfl⟩
   obtain⟨kv,hk,q⟩:=List.mem_map.mp hm
   exact⟨kv,hk,decide_eq_true q⟩
end
end K39
namespace K39
open PySem L2
section
variable {P:Program}{w:World}{K:W.Frag}{mg:Str->Option Value}{base:Heap}
theorem ar1 {us:List Value}(h:us.length=1):∃a,us=[a]:=List.length_eq_one_iff.mp h
theorem ar2 {us:List Value}(h:us.length=2):∃a1 a2,us=[a1,a2]:=by
 obtain⟨a1,t,rfl⟩:=List.exists_cons_of_length_eq_add_one h
 obtain⟨a2,rfl⟩:=ar1 (Nat.succ.inj h)
 exact⟨a1,a2,rfl⟩
theorem ar3 {us:List Value}(h:us.length=3):∃a1 a2 a3,us=[a1,a2,a3]:=by
 obtain⟨a1,t,rfl⟩:=List.exists_cons_of_length_eq_add_one h
 obtain⟨a2,a3,rfl⟩:=ar2 (Nat.succ.inj h)
 exact⟨a1,a2,a3,rfl⟩
theorem ar4 {us:List Value}(h:us.length=4):∃a1 a2 a3 a4,us=[a1,a2,a3,a4]:=by
 obtain⟨a1,t,rfl⟩:=List.exists_cons_of_length_eq_add_one h
 obtain⟨a2,a3,a4,rfl⟩:=ar3 (Nat.succ.inj h)
 exact⟨a1,a2,a3,a4,rfl⟩
structure FH (K:W.Frag) (mg:Str->Option Value) (n:Str) (st:Stmt) (f:Addr) (fd:FuncData):Prop where
 F:Fun K n n st f fd
 g:mg n=some (.ref f)
theorem fh_mk {K:W.Frag}{h:Heap}{mg:Str->Option Value}{n:Str}{st:Stmt}{f:Addr}{od an:Option Addr}{sl:Array (Option Value)}{oc kV dc pm cd ct:Value}(X:K.In h) (G:h.Ns mainGlobals mg) (a:W.nsIn K mainGlobals n=some (some (.ref f)))
    (l:K.lookup f=some ⟨oc,od,.func (W.fnOf n n (defArgs st) (defBody st) (defScope st) .none kV dc pm an cd ct),sl⟩) (c:W.codeIn K cd n=true) (k:W.keepIn K (.ref f)=true) :
    FH K mg n st f (W.fnOf n n (defArgs st) (defBody st) (defScope st) .none kV dc pm an cd ct):=⟨fun_mk l c k,W.mg_of X G a⟩
section
variable {K:W.Frag}{mg:Str->Option Value}{n:Str}{st:Stmt}{f:Addr}{fd:FuncData}{r:Nat}{sp:Sp}
theorem FH.cl (h:FH K mg n st f fd) (l:W.OpenLaw) (w:World) (base:Heap) {ps:List Str}(o:FnOk l.prog w K mg base CX0 r f fd ps sp) (b:∀(kV doc pm:Value) (an:Option Addr) (cdv ct:Value) (us:List Value),us.length=ps.length->bindArgs (W.fnOf n n (defArgs st) (defBody st) (defScope st) .none kV doc pm an cdv ct) ⟨us,[]⟩=pure (ps.zip us):=by intro _ _ _ _ _ _ us hl;first | (obtain⟨_,rfl⟩:=ar1 hl;rfl) | (obtain⟨_,_,rfl⟩:=ar2 hl;rfl) | (obtain⟨_,_,_,rfl⟩:=ar3 hl;rfl) | (obtain⟨_,_,_,_,rfl⟩:=ar4 hl;rfl)):Cal l.prog w K mg base r n ps sp:=⟨_,_,o,h.g,h.F.kp,h.F.binds b⟩
theorem FH.cx (h:FH K mg n st f fd) (l:W.OpenLaw) (w:World) (base:Heap) {ps:List Str}(o:FnOk l.prog w K mg base (CX1 l.prog w) r f fd ps sp) (b:∀(kV doc pm:Value) (an:Option Addr) (cdv ct:Value) (us:List Value),us.length=ps.length->bindArgs (W.fnOf n n (defArgs st) (defBody st) (defScope st) .none kV doc pm an cdv ct) ⟨us,[]⟩=pure (ps.zip us):=by intro _ _ _ _ _ _ us hl;first | (obtain⟨_,rfl⟩:=ar1 hl;rfl) | (obtain⟨_,_,rfl⟩:=ar2 hl;rfl) | (obtain⟨_,_,_,rfl⟩:=ar3 hl;rfl) | (obtain⟨_,_,_,_,rfl⟩:=ar4 hl;rfl)):CalX l.prog w K mg base r n ps sp:=⟨_,_,o,h.g,h.F.kp,h.F.binds b⟩
end
theorem all_mk {l:W.OpenLaw}{w:World}{K:W.Frag}{h:Heap}{mg:Str->Option Value}{fa f1 f2 f3 f4 f5 f6 f7 f8 f9 f10 f11 f12 f13 f14 f15 f16 f17 f18 f19 f20 f21 f22 f23 f24 f25 f26 f27 f28 f29 f30 f31 f32 f33 f34 f35 f36 f37 f38 f39 f40 f41 f42 f43 f44 f45 f46 f47 f48 f49 f50 f51:Addr}{d1 d2 d3 d4 d5 d6 d7 d8 d9 d10 d11 d12 d13 d14 d15 d16 d17 d18 d19 d20 d21 d22 d23 d24 d25 d26 d27 d28 d29 d30 d31 d32 d33 d34 d35 d36 d37 d38 d39 d40 d41 d42 d43 d44 d45 d46 d47 d48 d49 d50 d51:FuncData}(X:K.In h) (G:h.Ns mainGlobals mg) (hfa:mg "law"=some (.ref fa))
    (h1:FH K mg "is_name" sIsName f1 d1)
    (h2:FH K mg "children" sChildren f2 d2)
    (h3:FH K mg "parting" sParting f3 d3)
    (h4:FH K mg "homes" sHomes f4 d4)
    (h5:FH K mg "parting_by" sPartingBy f5 d5)
    (h6:FH K mg "line_down" sLineDown f6 d6)
    (h7:FH K mg "nexts" sNexts f7 d7)
    (h8:FH K mg "places_of" sPlacesOf f8 d8)
    (h9:FH K mg "are_unlike" sUnlike f9 d9)
    (h10:FH K mg "is_tie_among" sAmong f10 d10)
    (h11:FH K mg "lists_things" sLists f11 d11)
    (h12:FH K mg "is_frame" sIsFrame f12 d12)
    (h13:FH K mg "are_knots" sAreKnots f13 d13)
    (h14:FH K mg "is_knot" sIsKnot f14 d14)
    (h15:FH K mg "units_in" sUnitsIn f15 d15)
    (h16:FH K mg "is_below_top" sIsBelowTop f16 d16)
    (h17:FH K mg "are_house_ties" sAreHouseTies f17 d17)
    (h18:FH K mg "are_wants" sAreWants f18 d18)
    (h19:FH K mg "is_want" sIsWant f19 d19)
    (h20:FH K mg "nexts_of_all" sNextsAll f20 d20)
    (h21:FH K mg "steps_from" sSteps f21 d21)
    (h22:FH K mg "is_order" sIsOrder f22 d22)
    (h23:FH K mg "view" sView f23 d23)
    (h24:FH K mg "kept_partings" sKeptPartings f24 d24)
    (h25:FH K mg "view_by" sViewBy f25 d25)
    (h26:FH K mg "wanted" sWanted f26 d26)
    (h27:FH K mg "house_of" sHouseOf f27 d27)
    (h28:FH K mg "is_house" sIsHouse f28 d28)
    (h29:FH K mg "keeps_ties" sKeepsTies f29 d29)
    (h30:FH K mg "keeps_waiting" sKeepsWaiting f30 d30)
    (h31:FH K mg "_law_pen" sPen f31 d31)
    (h32:FH K mg "_law_draw" sDraw f32 d32)
    (h33:FH K mg "_law_names" sNames f33 d33)
    (h34:FH K mg "_law_tree" sTree f34 d34)
    (h35:FH K mg "_law_around" sAround f35 d35)
    (h36:FH K mg "_law_path" sPath f36 d36)
    (h37:FH K mg "_law_parting" sLawParting f37 d37)
    (h38:FH K mg "_law_edges" sEdges f38 d38)
    (h39:FH K mg "_law_reached" sReached f39 d39)
    (h40:FH K mg "_law_wants" sWants f40 d40)
    (h41:FH K mg "_law_kept" sKept f41 d41)
    (h42:FH K mg "_law_waiting" sWaiting f42 d42)
    (h43:FH K mg "_law_house" sHouse f43 d43)
    (h44:FH K mg "_law_good" sGood f44 d44)
    (h45:FH K mg "_law_knots_changed" sKnotsChanged f45 d45)
    (h46:FH K mg "_law_pair" sPairHere f46 d46)
    (h47:FH K mg "_law_wanted" sLWanted f47 d47)
    (h48:FH K mg "_law_fewer" sFewer f48 d48)
    (h49:FH K mg "_law_changed" sChanged f49 d49)
    (h50:FH K mg "_law_made" sMade f50 d50)
    (h51:FH K mg "law" sLaw f51 d51)
    (B:Blt mg) (Zzip:mg "zip"=none)
    {tk1:Tok} (y1:W.nsIn K mainGlobals "MOST_SIGNS"=some (some (.int 8 tk1)))
    {tk2:Tok} (y2:W.nsIn K mainGlobals "MOST_UNITS"=some (some (.int 60 tk2)))
    {tk3:Tok} (y3:W.nsIn K mainGlobals "MOST_WITHIN"=some (some (.int 6 tk3)))
    {tk4:Tok} (y4:W.nsIn K mainGlobals "MOST_TIES"=some (some (.int 200 tk4)))
    {x1 x2:Addr} (r1:W.nsIn K mainGlobals "OrderError"=some (some (.ref x1))) (r2:W.nsIn K mainGlobals "NoHouse"=some (some (.ref x2)))
    (en:W.specialIn K (.builtin "object.__class__") "__get__"=some (some (.builtin "getset_descriptor.__get__"))) (et:W.takesIn K (.builtin "object.__class__")=some true) (ev:W.nsIn K mainGlobals "ValueError"=some none)
    {N1:Addr} {bs1 bm1 su1:List Value} {nm1 q1:Str} {hd1 ab1:Bool} {sn1:List Str} {co1:Option Bool} {dd1:Option Addr} {ka1 kb1 kc1 kd1 ke1:Option Value}
    (o1:K.lookup x1=some (excClassObj nm1 q1 x1 N1 bs1 bm1 hd1 sn1 su1 ab1 co1 dd1 ka1 kb1 kc1 kd1 ke1 "ValueError.__new__"))
    (u1:W.nsOkIn K N1=true) (ni1:W.nsIn K N1 "__init__"=some none) (tl1:W.tailIn K [.type "ValueError",.type "Exception",.type "BaseException",.type "object"] bm1=true)
    (ga1:W.findIn K (.ref x1) "__getattribute__"=some (some (.builtin "BaseException.__getattribute__"))) (gb1:W.findIn K (.ref x1) "__getattr__"=some none) (ha1:W.findIn K (.ref x1) "__class__"=some (some (.builtin "object.__class__")))
    (hm1:W.mroIn K x1 (.type "object")=some true) (hb1:W.mroIn K x1 (.type "BaseException")=some true) (cl1:(W.clsIn K x1).isSome=true)
    (p1:bm1.contains (.type "BaseException")=true) (q_1:(Value.ref x1::bm1).contains (.ref x1)=true) (w1:W.kitOne K (.ref x1) (.type "ValueError")=some true)
    {N2:Addr} {bs2 bm2 su2:List Value} {nm2 q2:Str} {hd2 ab2:Bool} {sn2:List Str} {co2:Option Bool} {dd2:Option Addr} {ka2 kb2 kc2 kd2 ke2:Option Value}
    (o2:K.lookup x2=some (excClassObj nm2 q2 x2 N2 bs2 bm2 hd2 sn2 su2 ab2 co2 dd2 ka2 kb2 kc2 kd2 ke2 "ValueError.__new__"))
    (u2:W.nsOkIn K N2=true) (ni2:W.nsIn K N2 "__init__"=some none) (tl2:W.tailIn K [.type "ValueError",.type "Exception",.type "BaseException",.type "object"] bm2=true)
    (ga2:W.findIn K (.ref x2) "__getattribute__"=some (some (.builtin "BaseException.__getattribute__"))) (gb2:W.findIn K (.ref x2) "__getattr__"=some none) (ha2:W.findIn K (.ref x2) "__class__"=some (some (.builtin "object.__class__")))
    (hm2:W.mroIn K x2 (.type "object")=some true) (hb2:W.mroIn K x2 (.type "BaseException")=some true) (cl2:(W.clsIn K x2).isSome=true)
    (p2:bm2.contains (.type "BaseException")=true) (q_2:(Value.ref x2::bm2).contains (.ref x1)=true) (w2:W.kitOne K (.ref x2) (.type "ValueError")=some true)
    (g2_1:W.kitOne K (.ref x2) (.ref x1)=some true) (g2_2:W.kitOne K (.ref x2) (.ref x2)=some true)
    {aW:Addr} {odW:Option Addr} {tW1 tW2:Tok} {nW:Nat} {slW:Array (Option Value)} (gW:W.nsIn K mainGlobals "WORDS"=some (some (.ref aW))) (lW:K.lookup aW=some ⟨.type "tuple",odW,.seq ([.str "first" tW1,.str "last" tW2]:List Value).toArray nW,slW⟩)
    : ∃fd:FuncData,(∀(s:Shared) (v:Value),BindsTo s fd ⟨[v],[]⟩ [("_law_script",v)])/\∀base:Heap,K.In base->base.Ns mainGlobals mg->FnOk l.prog w K mg base CX0 9 fa fd ["_law_script"] (spLaw K):=by
 have e:=hfa.symm.trans h51.g
 cases e
 have TMOST_SIGNS:=W.mg_of X G y1
 have TMOST_UNITS:=W.mg_of X G y2
 have TMOST_WITHIN:=W.mg_of X G y3
 have TMOST_TIES:=W.mg_of X G y4
 have F51:=h51.F
 obtain⟨_,_,kV,dc,pm,an,cd,ct,_,rfl,_,_⟩:=F51.ex
 refine⟨W.fnOf "law" "law" (defArgs sLaw) (defBody sLaw) (defScope sLaw) .none kV dc pm an cd ct,fun s v=>.of_eq rfl,fun base XB GB=>?_⟩
 have eN:(["OrderError","NoHouse"]:List Str).Nodup:=by decide +kernel
 have eO:ecOf ([("OrderError",x1),("NoHouse",x2)]:List (Str × Addr)) "OrderError"=x1:=ecOf_at (ps:=[("OrderError",x1),("NoHouse",x2)]) eN ("OrderError",x1) (.head _)
 have Er:Errs K mg base (ecOf ([("OrderError",x1),("NoHouse",x2)]:List (Str × Addr))) excL excC:=errs_mk (ps:=[("OrderError",x1),("NoHouse",x2)]) (cs:=[("OrderError",x1),("NoHouse",x2)]) eN (fa_cons (.head _) (fa_cons (.tail _ (.head _)) fa_nil)) (fa_cons (W.mg_of X G r1) (fa_cons (W.mg_of X G r2) fa_nil)) (fa_cons ⟨ga1,gb1,ha1,en,et,hm1,hb1,cl1⟩ (fa_cons ⟨ga2,gb2,ha2,en,et,hm2,hb2,cl2⟩ fa_nil)) (show ("OrderError":Str)∈excC by decide +kernel) (fa_cons (fun h=>absurd rfl h) (fa_cons (fun _=>(fa_cons (g2_1.trans (congrArg some (show true=(("OrderError":Str)==("NoHouse":Str)||("OrderError":Str)==("OrderError":Str)) by decide +kernel))) (fa_cons (g2_2.trans (congrArg some (show true=(("NoHouse":Str)==("NoHouse":Str)||("NoHouse":Str)==("OrderError":Str)) by decide +kernel))) fa_nil))) fa_nil)) (fa_cons w1 (fa_cons w2 fa_nil)) (fa_cons ⟨bm1,xat_mk XB o1,p1,(by rw[eO];exact q_1)⟩ (fa_cons ⟨bm2,xat_mk XB o2,p2,(by rw[eO];exact q_2)⟩ fa_nil)) (W.mg_none_of X G ev) (fa_cons (fun _=>own_mk XB (W.mg_of X G r1) o1 u1 ni1 tl1) (fa_cons (fun _=>own_mk XB (W.mg_of X G r2) o2 u2 ni2 tl2) fa_nil))
 have KW:=sq_lit (xs:=[V.str "first",V.str "last"]) lW (Nat.le_of_ble_eq_true rfl) (.cons ⟨_,rfl⟩ (.cons ⟨_,rfl⟩ .nil))
 have TO:=W.mg_of X G gW
 have c__law_pen:=h31.cl l w base (ok_pen h31.F B)
 have c__law_draw:=h32.cl l w base (ok_draw h32.F B)
 have c__law_names:=h33.cl l w base (ok_names h33.F B c__law_draw)
 have c__law_around:=h35.cl l w base (ok_around h35.F B)
 have c__law_path:=h36.cl l w base (ok_path h36.F B)
 have c__law_parting:=h37.cl l w base (ok_lpart h37.F B c__law_path)
 have c_homes:=h4.cl l w base (ok_homes h4.F B)
 have c_line_down:=h6.cl l w base (ok_line h6.F B)
 have c_parting_by:=h5.cl l w base (ok_part_by h5.F B Zzip c_line_down)
 have c_parting:=h3.cl l w base (ok_part h3.F B c_homes c_parting_by)
 have c__law_tree:=h34.cl l w base (ok_tree h34.F B c__law_draw)
 have c__law_wants:=h40.cl l w base (ok_wants h40.F B c__law_draw)
 have c__law_reached:=h39.cl l w base (ok_reachL h39.F B)
 have c__law_kept:=h41.cl l w base (ok_kept h41.F B c__law_draw c__law_around c__law_parting)
 have c__law_edges:=h38.cl l w base (ok_edges h38.F B c__law_around c__law_parting)
 have c__law_waiting:=h42.cl l w base (ok_waiting h42.F B c__law_draw c__law_around c__law_parting c__law_edges c__law_reached)
 have c__law_house:=h43.cl l w base (ok_house h43.F B c__law_draw c__law_tree c__law_wants c__law_kept c__law_waiting)
 have c_places_of:=h8.cl l w base (ok_placesQ h8.F B)
 have c_places_ofP:=h8.cl l w base ((ok_placesQ h8.F B).imp placesQ_of)
 have c_places_ofD:=h8.cl l w base ((ok_placesQ h8.F B).imp placesQ_D)
 have c_places_ofY:=h8.cl l w base ((ok_placesQ h8.F B).imp placesQ_X)
 have c_are_unlike:=h9.cl l w base (ok_unlike h9.F B c_places_of)
 have c_children:=h2.cl l w base (ok_children h2.F B)
 have c_kept_partings:=h24.cl l w base (ok_kpart h24.F B c_homes c_parting_by)
 have c_wanted:=h26.cl l w base (ok_wanted h26.F B)
 have c_view_by:=h25.cl l w base (ok_viewBy h25.F B c_children c_wanted c_places_ofD)
 have c_view:=h23.cl l w base (ok_view h23.F B c_view_by c_kept_partings)
 have c_is_name:=h1.cl l w base (ok_isname h1.F B TMOST_SIGNS)
 have c_is_tie_among:=h10.cl l w base (ok_among h10.F B c_is_name)
 have c_lists_things:=h11.cl l w base (ok_lists h11.F B c_places_ofY c_is_name)
 have c_is_order:=h22.cl l w base (ok_is_order h22.F B c_places_ofY c_lists_things)
 have c_nexts:=h7.cl l w base (ok_nexts h7.F B c_places_ofP)
 have c_nexts_of_all:=h20.cl l w base (ok_nexts_of_all h20.F B c_nexts)
 have c_steps_from:=h21.cl l w base (ok_steps h21.F B)
 have c_is_knot:=h14.cl l w base (ok_isknot h14.F B c_is_name)
 have c_units_in:=h15.cl l w base (ok_units h15.F B)
 have c_are_knots:=h13.cl l w base (ok_areK h13.F B TMOST_UNITS c_is_name c_is_knot c_units_in c_are_unlike)
 have c_is_below_top:=h16.cl l w base (ok_below h16.F B TMOST_WITHIN)
 have c_is_want:=h19.cl l w base (ok_iswant h19.F B TO KW c_is_name)
 have c_are_wants:=h18.cl l w base (ok_areW h18.F B c_is_want c_are_unlike)
 have c_are_house_ties:=h17.cl l w base (ok_tiesH h17.F B TMOST_TIES c_is_tie_among c_are_unlike c_parting_by)
 have c_is_frame:=h12.cl l w base (ok_frame h12.F B c_are_knots c_homes c_is_below_top c_are_house_ties c_are_wants)
 have c_keeps_ties:=h29.cl l w base (ok_keepsT h29.F B c_kept_partings c_view_by c_is_order)
 have c_keeps_waiting:=h30.cl l w base (ok_keepsW h30.F B c_parting c_view c_nexts_of_all c_steps_from)
 have c_is_house:=h28.cl l w base (ok_ishouse h28.F B c_is_frame c_keeps_ties c_keeps_waiting)
 have c_house_ofX:=h27.cx l w base (ok_houseof h27.F B Er c_is_house)
 have c__law_good:=h44.cl l w base (ok_good h44.F B c__law_around c__law_parting c__law_edges c__law_reached)
 have c__law_fewer:=h48.cl l w base (ok_fewer h48.F B c__law_draw)
 have c__law_knots_changed:=h45.cl l w base (ok_knCh h45.F B c__law_draw)
 have c__law_pair:=h46.cl l w base (ok_lpair h46.F B c__law_draw c__law_around c__law_parting)
 have c__law_wanted:=h47.cl l w base (ok_lwant h47.F B c__law_draw c__law_around)
 have c__law_changed:=h49.cl l w base (ok_chg h49.F B c__law_draw c__law_knots_changed c__law_wanted c__law_fewer c__law_pair)
 have c__law_made:=h50.cl l w base (ok_made h50.F B Er c_house_ofX)
 exact ok_law F51 B c__law_pen c__law_draw c__law_names c__law_house c__law_changed c__law_good c_is_house c__law_made
theorem walk {l:W.OpenLaw}{q:Program}{loose:List Str}{XP:(Str -> Option Value) -> Heap -> Prop}{YP:World -> Heap -> Prop}{d:DefRec}{K:Params -> W.Frag}(hn:l.most=some 63) (hdf:d.params.defaults=[])
    (hY:∀(w:World) (h:Heap),YP w h->(K w.params).In h)
    (F:∀(w:World) (mg:Str->Option Value) (fa:Addr) (h:Heap),(K w.params).In h->h.Ns mainGlobals mg->mg d.name=some (.ref fa) ->
     ∃fd:FuncData,(∀(s:Shared) (u:Value),BindsTo s fd ⟨[u],[]⟩ [("_law_script",u)])/\∀base:Heap,(K w.params).In base->base.Ns mainGlobals mg->FnOk l.prog w (K w.params) mg base CX0 9 fa fd ["_law_script"] (spLaw (K w.params))) :
    W.WalkO q loose XP YP l.row.toRowW d [] (fun f vs=>PySem.call f vs) :=
 L2.walk_of (n:=63) (k:=9) (x:="_law_script") (CX:=fun _=>CX0) (sp:=fun w=>spLaw (K w.params)) hn (by decide) hdf ⟨rfl,by decide,by decide,rfl⟩ hY F (fun _ _ a ns hl _ hS=>⟨a,ns,rfl,hS,fun _=>rfl⟩) fun _ _ _ _ _ z=>z
end
end K39
open PySem PySem.W PyProof.Rows
set_option maxRecDepth 100000 in
set_option maxHeartbeats 0 in
theorem PySem.Challenge.cw_orderkeep_k39_orders_and_waiting_ties_holds : PySem.Challenge.rw_orderkeep_k39_orders_and_waiting_ties.Holds := by
 w_on;o_law;k_head;(case hw=>w_witness2)
 k_fill
 refine K39.walk (l:=PySem.Challenge.rw_orderkeep_k39_orders_and_waiting_ties) rfl rfl (fun w h Y=>W.kIn_of Y) ?F
 case F =>
  intro w mg fa h KX G hmg
  refine' K39.all_mk KX G hmg (K39.fh_mk KX G ?a1 ?l1 ?c1 ?k1) (K39.fh_mk KX G ?a2 ?l2 ?c2 ?k2) (K39.fh_mk KX G ?a3 ?l3 ?c3 ?k3) (K39.fh_mk KX G ?a4 ?l4 ?c4 ?k4) (K39.fh_mk KX G ?a5 ?l5 ?c5 ?k5) (K39.fh_mk KX G ?a6 ?l6 ?c6 ?k6) (K39.fh_mk KX G ?a7 ?l7 ?c7 ?k7) (K39.fh_mk KX G ?a8 ?l8 ?c8 ?k8) (K39.fh_mk KX G ?a9 ?l9 ?c9 ?k9) (K39.fh_mk KX G ?a10 ?l10 ?c10 ?k10) (K39.fh_mk KX G ?a11 ?l11 ?c11 ?k11) (K39.fh_mk KX G ?a12 ?l12 ?c12 ?k12) (K39.fh_mk KX G ?a13 ?l13 ?c13 ?k13) (K39.fh_mk KX G ?a14 ?l14 ?c14 ?k14) (K39.fh_mk KX G ?a15 ?l15 ?c15 ?k15) (K39.fh_mk KX G ?a16 ?l16 ?c16 ?k16) (K39.fh_mk KX G ?a17 ?l17 ?c17 ?k17) (K39.fh_mk KX G ?a18 ?l18 ?c18 ?k18) (K39.fh_mk KX G ?a19 ?l19 ?c19 ?k19) (K39.fh_mk KX G ?a20 ?l20 ?c20 ?k20) (K39.fh_mk KX G ?a21 ?l21 ?c21 ?k21) (K39.fh_mk KX G ?a22 ?l22 ?c22 ?k22) (K39.fh_mk KX G ?a23 ?l23 ?c23 ?k23) (K39.fh_mk KX G ?a24 ?l24 ?c24 ?k24) (K39.fh_mk KX G ?a25 ?l25 ?c25 ?k25) (K39.fh_mk KX G ?a26 ?l26 ?c26 ?k26) (K39.fh_mk KX G ?a27 ?l27 ?c27 ?k27) (K39.fh_mk KX G ?a28 ?l28 ?c28 ?k28) (K39.fh_mk KX G ?a29 ?l29 ?c29 ?k29) (K39.fh_mk KX G ?a30 ?l30 ?c30 ?k30) (K39.fh_mk KX G ?a31 ?l31 ?c31 ?k31) (K39.fh_mk KX G ?a32 ?l32 ?c32 ?k32) (K39.fh_mk KX G ?a33 ?l33 ?c33 ?k33) (K39.fh_mk KX G ?a34 ?l34 ?c34 ?k34) (K39.fh_mk KX G ?a35 ?l35 ?c35 ?k35) (K39.fh_mk KX G ?a36 ?l36 ?c36 ?k36) (K39.fh_mk KX G ?a37 ?l37 ?c37 ?k37) (K39.fh_mk KX G ?a38 ?l38 ?c38 ?k38) (K39.fh_mk KX G ?a39 ?l39 ?c39 ?k39) (K39.fh_mk KX G ?a40 ?l40 ?c40 ?k40) (K39.fh_mk KX G ?a41 ?l41 ?c41 ?k41) (K39.fh_mk KX G ?a42 ?l42 ?c42 ?k42) (K39.fh_mk KX G ?a43 ?l43 ?c43 ?k43) (K39.fh_mk KX G ?a44 ?l44 ?c44 ?k44) (K39.fh_mk KX G ?a45 ?l45 ?c45 ?k45) (K39.fh_mk KX G ?a46 ?l46 ?c46 ?k46) (K39.fh_mk KX G ?a47 ?l47 ?c47 ?k47) (K39.fh_mk KX G ?a48 ?l48 ?c48 ?k48) (K39.fh_mk KX G ?a49 ?l49 ?c49 ?k49) (K39.fh_mk KX G ?a50 ?l50 ?c50 ?k50) (K39.fh_mk KX G ?a51 ?l51 ?c51 ?k51) ⟨W.mg_none_of KX G ?z1,W.mg_none_of KX G ?z2,W.mg_none_of KX G ?z3,W.mg_none_of KX G ?z4,W.mg_none_of KX G ?z5,W.mg_none_of KX G ?z6,W.mg_none_of KX G ?z7,W.mg_none_of KX G ?z8,W.mg_none_of KX G ?z9,W.mg_none_of KX G ?z10,W.mg_none_of KX G ?z11,W.mg_none_of KX G ?z12,W.mg_none_of KX G ?z13,W.mg_none_of KX G ?z14,W.mg_none_of KX G ?z15⟩ (W.mg_none_of KX G ?z16) ?y1 ?y2 ?y3 ?y4 ?r1 ?r2 ?en ?et ?ev ?o1 ?u1 ?ni1 ?tl1 ?ga1 ?gb1 ?ha1 ?hm1 ?hb1 ?cl1 ?p1 ?q_1 ?w1 ?o2 ?u2 ?ni2 ?tl2 ?ga2 ?gb2 ?ha2 ?hm2 ?hb2 ?cl2 ?p2 ?q_2 ?w2 ?g2_1 ?g2_2 ?gW ?lW
  (case a1 | l1 | c1 | k1 | a2 | l2 | c2 | k2 | a3 | l3 | c3 | k3 | a4 | l4 | c4 | k4 | a5 | l5 | c5 | k5 | a6 | l6 | c6 | k6 | a7 | l7 | c7 | k7 | a8 | l8 | c8 | k8 | a9 | l9 | c9 | k9 | a10 | l10 | c10 | k10=>k_is)
  (case a11 | l11 | c11 | k11 | a12 | l12 | c12 | k12 | a13 | l13 | c13 | k13 | a14 | l14 | c14 | k14 | a15 | l15 | c15 | k15 | a16 | l16 | c16 | k16 | a17 | l17 | c17 | k17 | a18 | l18 | c18 | k18 | a19 | l19=>k_is)
  (case c19 | k19 | a20 | l20 | c20 | k20 | a21 | l21 | c21 | k21 | a22 | l22 | c22 | k22 | a23 | l23 | c23 | k23 | a24 | l24 | c24 | k24 | a25 | l25 | c25 | k25 | a26 | l26 | c26 | k26 | a27 | l27 | c27 | k27=>k_is)
  (case a28 | l28 | c28 | k28 | a29 | l29 | c29 | k29 | a30 | l30 | c30 | k30 | a31 | l31 | c31 | k31 | a32 | l32 | c32 | k32 | a33 | l33 | c33 | k33 | a34 | l34 | c34 | k34 | a35 | l35 | c35 | k35 | a36 | l36=>k_is)
  (case c36 | k36 | a37 | l37 | c37 | k37 | a38 | l38 | c38 | k38 | a39 | l39 | c39 | k39 | a40 | l40 | c40 | k40 | a41 | l41 | c41 | k41 | a42 | l42 | c42 | k42 | a43 | l43 | c43 | k43 | a44 | l44 | c44 | k44=>k_is)
  (case a45 | l45 | c45 | k45 | a46 | l46 | c46 | k46 | a47 | l47 | c47 | k47 | a48 | l48 | c48 | k48 | a49 | l49 | c49 | k49 | a50 | l50 | c50 | k50 | a51 | l51 | c51 | k51 | z1 | z2 | z3 | z4 | z5 | z6 | z7=>k_is)
  (case z8 | z9 | z10 | z11 | z12 | z13 | z14 | z15 | z16 | y1 | y2 | y3 | y4 | r1 | r2 | en | et | ev | o1=>k_is)
  (case u1=>kernel_rfl)
  (case ni1=>k_is)
  (case tl1=>kernel_rfl)
  (case ga1 | gb1 | ha1 | hm1 | hb1=>k_is)
  (case cl1 | p1 | q_1 | w1=>exact rfl)
  (case o2=>k_is)
  (case u2=>kernel_rfl)
  (case ni2=>k_is)
  (case tl2=>kernel_rfl)
  (case ga2 | gb2 | ha2 | hm2 | hb2=>k_is)
  (case cl2 | p2 | q_2 | w2 | g2_1 | g2_2=>exact rfl)
  (case gW | lW=>k_is)
end
