import PyProof.Rows.All
import Wide.All
import OpenK.AllK
import Wide.FinOn
import Lean
import PyProof.EqAt
import PyProof.EqKinds
import PyProof.TupleCall
import PyProof.Rows.SumAny
import PyProof.StationsW
import PyProof.ExcClass3
import OpenK.KOwn
import KE.KTryDeep
import KE.KIsAll
import PyProof.ExcAttrAll.ValueError
import PyProof.ExcBaseAll.ValueError
import PyProof.InstStoreFacts
import PyProof.RulesTry
import PyProof.Rows.SortStr
import PyProof.TupleOfSeq
import KE.KxWritten
import PyProof.Conv_bool
import KE.KStrOpen
import PyProof.Rows.FStr
import PyProof.SetRoads
import PyProof.DictKinds
import PyProof.AttrMissHeap
import KE.KDictOf
import PyProof.StrOps2
import PyProof.DictWalks
import KE.KDictList
import PyProof.Rows.ZipGen
import PySem.Challenge.RW_orderkeep_k33_whole_ties_laid
namespace PySem.W.Fast
def tw3641956012702359661:=0
def tw4850094317764926370:=0
def tw7250806235144446564:=0
def tw6484767722469159289:=0
def tw10907505797306918075:=0
def tw12620908200911842771:=0
def tw2995070736788196556:=0
def tw6085137772584891883:=0
def tw5847313397809417948:=0
def tw17037090659924630098:=0
def tw15299124810157622903:=0
def tw9230222857737475840:=0
def tw18043063719091466421:=0
def tw1737255091705733786:=0
def tw13197840487141340618:=0
def tw12633269768334380074:=0
def tw2464009782483078332:=0
def tw7904848292537793494:=0
def tw3420212507780169592:=0
def tw15900014166235642888:=0
def tw15452137406728613005:=0
def tw15612885020366961209:=0
def tw8248459952927913131:=0
def tw8050771526193959017:=0
def tw4635360442020174231:=0
def tw12069471150720423863:=0
def tw11886721189970043939:=0
def tw1425063509251708976:=0
def tw12768655967275043886:=0
def tw10157232827837199930:=0
def tw8234303649755960849:=0
def tw16780108681154185929:=0
def tw16314699988991013005:=0
def tw9242858895612061611:=0
def tw11256079819967387770:=0
def tw6012418944607750642:=0
def tw600050979255900920:=0
def tw5492608629155814642:=0
def tw12330411691091217748:=0
def tw13100510196612407012:=0
def tw16487396012637404694:=0
def tw11880436851101816349:=0
def tw4470154495958954057:=0
def tw14654776611407702552:=0
def tw11535142415175296996:=0
def tw7663036174260019221:=0
def tw7268560109082042084:=0
def tw11854995239051611609:=0
def tw5714452150337836944:=0
def tw9077520769392211303:=0
def tw10802685767279367382:=0
def tw961802231934654266:=0
def tw16410591051022734368:=0
def tw4251493763268345674:=0
def tw1276163780877327786:=0
def tw14083282341348545950:=0
def tw5482460965177350231:=0
def tw1105137150513249203:=0
def tw2756943147545743925:=0
def tw3842459580185009624:=0
def tw113426523729568697:=0
def tw9155489069262860227:=0
def tw1658438927635707334:=0
def tw15228621731317744903:=0
def tw10265025295427869406:=0
def tw3075456533570639243:=0
def tw394999046625512862:=0
def tw4944719799249394928:=0
def tw9421260778883292041:=0
def tw14989988277796324893:=0
def tw16018715745832203293:=0
def tw3541382858697912008:=0
def tw3508237862461273098:=0
def tw17381713820507635728:=0
def tw15062445799838071199:=0
def tw6823301234577296967:=0
def tw12379374933792361721:=0
def tw7808747753396543056:=0
def tw6473137050401026255:=0
def tw5219526685006090836:=0
def tw169381399295243346:=0
def tw17186669686693119064:=0
def tw834100311644466302:=0
def tw2892368460769746957:=0
def tw16908617700954066372:=0
def tw7914488779579330897:=0
def tw4386446454960879665:=0
def tw9631475010505958228:=0
def tw18185559459888762449:=0
def tw16781440714582755378:=0
def tw16649334562361598084:=0
def tw10326071983990117527:=0
def tw3255681913429942521:=0
def tw12425418532754525899:=0
def tw16831743871136072294:=0
def tw3759794373699913148:=0
def tw8511842077899339925:=0
def tw15772456611552863507:=0
def tw6268640841776160094:=0
def tw10902334643496483086:=0
def tw8254801179100797452:=0
def tw12806087823870811510:=0
def tw15763439673529705898:=0
def tw12648045016230348807:=0
def tw5571455836956049452:=0
def tw1358486014170406597:=0
def tw1942328543223528108:=0
def tw6332145074775478804:=0
def tw16344228651535383677:=0
def tw17197695366587329526:=0
def tw15884290830586359794:=0
def tw1410918969231747120:=0
def tw11261917144014895224:=0
def tw14759904223071794928:=0
def tw15549444176665884435:=0
def tw14588390100465977574:=0
def tw1520102265963615842:=0
def tw12489232942148197538:=0
def tw18139082008275753227:=0
def tw5898615086348002824:=0
def tw12072185357214942626:=0
def tw134629079832998192:=0
def tw17720631893462245204:=0
def tw9893004961802248019:=0
def tw741087013603146970:=0
def tw12833592462006523102:=0
def tw7544431673901483469:=0
def tw6817316753380624902:=0
def tw13882461740860726955:=0
def tw7628800184905704213:=0
def tw18104887448961917213:=0
def tw15459301726495511293:=0
def tw9895177375188404183:=0
def tw8414051919603902474:=0
def tw13629147140407494362:=0
def tw15216994451693007357:=0
def tw8065397075779027113:=0
def tw7312922530099326716:=0
def tw12820751178659953530:=0
def tw15007931500488684854:=0
def tw15179527525921544851:=0
def tw477388558245939387:=0
def tw13949275507313739334:=0
def tw11954360330061130076:=0
def tw12775614944975617949:=0
def tw2390580100354021298:=0
def tw12211861410609951410:=0
def tw16657201938453678939:=0
def tw8550146732141647781:=0
def tw9621483994812979612:=0
def tw9682457441243991594:=0
def tw7017949474016486295:=0
def tw4719779795701169845:=0
def tw5316176485143255753:=0
def tw15764976217058181148:=0
def tw16508224495012772269:=0
def tw1979631915481915848:=0
def tw5779654167751064065:=0
def tw17620518530745192739:=0
def tw15769262177138631220:=0
def tw14862117453811478877:=0
def tw7512496473803089560:=0
def tw3745059235655138693:=0
def tw12917467836897542939:=0
def tw14282192794632391392:=0
def tw10389860784064385605:=0
def tw15421064092492221483:=0
def tw4764894612772965467:=0
def tw4511888817185398237:=0
def tw414443000247299190:=0
def tw13334875016673879575:=0
def tw3813617288352418586:=0
def tw1701160353236556853:=0
def tw1995894667181919370:=0
def tw3648438656089919901:=0
def tw339179481014382212:=0
def tw3001879272605486342:=0
def tw9675651978441549698:=0
def tw18106631262178837418:=0
def tw11848266301629481944:=0
def tw198510076550590798:=0
def tw1845778654588891459:=0
def tw5501238550297337943:=0
def tw18224162888945812611:=0
def tw3292660853591231948:=0
def tw1298703228402692103:=0
def tw6762933994040922841:=0
def tw5327432418648077006:=0
def tw15980822286095115851:=0
def tw1662077477855640058:=0
def tw2872755692179343526:=0
def tw15244030259527025547:=0
def tw14709516719857403231:=0
def tw13242004854428758955:=0
def tw49127455969634510:=0
def tw8036943820857940977:=0
def tw13872769330525928560:=0
def tw5863026509814261780:=0
def tw528718354003621999:=0
def tw9012078471083292377:=0
def tw17110832562189014561:=0
def tw13043519344269269747:=0
def tw12219988566031844013:=0
def tw16863795188275741025:=0
def tw12451085189576397179:=0
def tw13930672592452434446:=0
def tw14700470857870600002:=0
def tw7093190914326731926:=0
def tw8012398676672309551:=0
def tw1525606576724874416:=0
def tw3607537374309919609:=0
def tw11105504046988077718:=0
def tw16517081467535921918:=0
def tw7179448640000966814:=0
def tw17078073837911655517:=0
def tw18433070775184266763:=0
def tw3617958074301345235:=0
def tw14683078414797490071:=0
def tw3261094610272412670:=0
def tw10638001065922699178:=0
def tw6082214378551630717:=0
def tw16674221232731717573:=0
def tw1451007788857129547:=0
def tw1742090716808135086:=0
def tw15816315224089860471:=0
def tw9292041412303250592:=0
def tw16074250363924221737:=0
def tw6245723594584222318:=0
def tw4421322002326855619:=0
def tw5770466741825777475:=0
def tw3240984424813352913:=0
def tw16845650452393111668:=0
def tw13693843592086964769:=0
def tw8149812485401819179:=0
def tw8169128494554222818:=0
def tw7082089985920002957:=0
def tw10647592954944397387:=0
def tw534469830930594427:=0
def tw18385062197879502755:=0
def tw18375973800125659074:=0
def tw5044673041931088858:=0
def tw8503278473047416750:=0
def tw9247352219579876006:=0
def tw9301460957444332831:=0
def tw10286249299941892957:=0
def tw13566004485220547447:=0
def tw4908526417721211992:=0
def tw4911432514613809885:=0
def tw5889283681336654298:=0
def tw2553135446493784874:=0
def tw5956946107880754198:=0
def tw2964341646431808300:=0
def tw13350606117522378646:=0
def tw6777662449244176038:=0
def tw670919204983077920:=0
def tw4004055821666018598:=0
def tw15785109110726441919:=0
def tw10885761358996396673:=0
def tw14873787557827806495:=0
def tw16544540009811170409:=0
def tw13744819418073619753:=0
def tw5197879917619623263:=0
def tw14620660288114063857:=0
def tw12222091322414252405:=0
def tw13417610676085943706:=0
def tw1873503320136267907:=0
def tw16474412323625358030:=0
end PySem.W.Fast
section
open PySem PySem.Spec PyProof.Rows
abbrev aa:=@List.length_map
abbrev ad:=@wpAny_bind
abbrev ae:=@Nat.le_refl
abbrev af:=@List.getElem?_eq_some_iff
abbrev ag:=@wpAny_pure
abbrev ah:=@List.map_append
abbrev ai:=@Option.some.inj
abbrev aj:=@List.mem_of_getElem?
abbrev ak:=@Heap.lt_size
abbrev am:=@List.mem_filter
abbrev ao:=@decide_eq_true
abbrev ap:=@List.mem_map
abbrev aq:=@List.mem_append
abbrev ar:=@List.getElem?_eq_getElem
abbrev au:=@List.take_add_one
abbrev av:=@List.length_take
abbrev aw:=@List.take_of_length_le
abbrev ax:=@List.mem_cons
abbrev ay:=@Heap.get?_push_of_some
abbrev az:=@of_decide_eq_true
abbrev aA:=@List.getElem?_map
abbrev aB:=@Nat.ne_of_lt
abbrev aD:=@List.getD_eq_getElem?_getD
abbrev aE:=@List.size_toArray
abbrev aF:=@Heap.get?_push_size
abbrev aG:=@List.length_append
abbrev aH:=@List.getElem?_of_mem
abbrev aI:=@decide_eq_false
abbrev aJ:=@List.mem_append_right
abbrev aK:=@List.length_filter_le
abbrev aL:=@Bool.false_ne_true
abbrev aM:=@List.map_map
abbrev aN:=@List.mem_cons_of_mem
abbrev aO:=@Bool.eq_iff_iff
abbrev aP:=@List.nodup_cons
abbrev aQ:=@List.mem_singleton
abbrev aR:=@List.idxOf_lt_length_of_mem
abbrev aS:=@Nat.lt_of_lt_of_le
abbrev aT:=@Nat.le_of_lt
abbrev aU:=@List.mem_append_left
abbrev aV:=@List.map_cons
abbrev aW:=@Nat.le_trans
abbrev aX:=@wpAny_field
abbrev aY:=@List.filter_append
abbrev aZ:=@wpAny_holding
abbrev a0:=@Nat.zero_le
abbrev ba:=@List.append_nil
abbrev bc:=@List.getElem?_append_left
abbrev bd:=@Bool.and_eq_true
abbrev be:=@List.length_cons
abbrev bf:=@List.lookup_cons
abbrev bg:=@Int.eq_ofNat_of_zero_le
abbrev bh:=@wpAny_mono
abbrev bi:=@List.all_eq_true
abbrev bj:=@List.pairwise_iff_getElem
abbrev bn:=@List.nodup_append
abbrev bo:=@List.mem_range
abbrev bp:=@List.filter_sublist
abbrev bq:=@Nat.lt_irrefl
abbrev br:=@List.getElem?_append_right
abbrev bu:=@List.getElem?_take_of_lt
abbrev bv:=@List.length_drop
abbrev bw:=@List.nodup_nil
abbrev bx:=@List.length_range
abbrev bz:=@Nat.lt_of_not_le
abbrev bE:=@Option.isSome_iff_exists
abbrev bF:=@List.take_sublist
abbrev bG:=@wpAny_seqItems
abbrev bH:=@List.getElem?_inj
abbrev bI:=@List.getElem?_drop
abbrev bJ:=@Nat.ne_of_gt
abbrev bK:=@List.length_replicate
abbrev bL:=@List.any_cons
abbrev bM:=@Int.emod_nonneg
abbrev bN:=@wpAny_setField_rec
abbrev bO:=@List.mem_of_mem_take
abbrev bP:=@List.drop_sublist
abbrev bQ:=@List.mem_of_mem_drop
abbrev bR:=@List.mem_cons_self
abbrev bS:=@wpAny_Call_Name_kw
abbrev bT:=@Int.toNat_natCast
abbrev bU:=@Heap.get?_update_self
abbrev bV:=@Heap.get?_update_other
abbrev bW:=@List.find?_cons
abbrev bX:=@Nat.le_of_not_lt
abbrev bY:=@List.any_eq_true
abbrev bZ:=@List.forIn_cons
abbrev ca:=@Bool.false_eq_true
abbrev cb:=@List.replicate_succ'
abbrev ce:=@List.filter_cons
abbrev cg:=@Array.length_toList
abbrev ci:=@Nat.add_sub_cancel_left
abbrev ck:=@List.getElem_mem
abbrev cm:=@Int.emod_lt_of_pos
abbrev cn:=@List.pairwise_map
abbrev cp:=@List.getElem?_zip_eq_some
abbrev cq:=@List.getElem?_eq_none
abbrev cr:=@Nat.lt_or_eq_of_le
abbrev cu:=@Array.getElem?_eq_some_iff
abbrev cv:=@List.filter_congr
abbrev cw:=@List.perm_middle
abbrev cx:=@List.take_append_drop
abbrev cy:=@Heap.get?_none_of_le
abbrev cz:=@List.getElem?_set_self
abbrev cC:=@List.getElem?_set_ne
abbrev cE:=@List.pairwise_lt_range
abbrev cF:=@List.exists_cons_of_length_eq_add_one
end
noncomputable section
set_option Elab.async false
set_option linter.all false
set_option maxRecDepth 100000
namespace L2
open PySem PySem.Spec PyProof.Rows
abbrev Key:=Sum Int Str
def keyIs:Key->Value->Bool
 | .inl k,v=>Value.isInt k v
 | .inr x,v=>Value.isStrOf x v
def keyH (w:World):Key->Int
 | .inl k=>hashInt k
 | .inr x=>hashStr w x
theorem keyIs_shape:∀ {k:Key}{v:Value},keyIs k v=true->(∃i t,k=Sum.inl i/\v=Value.int i t)∨(∃x t,k=Sum.inr x/\v=Value.str x t)
 | .inl i,v,h=>by
  obtain⟨t,e⟩:=Value.isInt_shape (k:=i) (v:=v) h
  exact .inl ⟨i,t,rfl,e⟩
 | .inr x,v,h=>by
  obtain⟨t,e⟩:=Value.isStrOf_shape (x:=x) (v:=v) h
  exact .inr ⟨x,t,rfl,e⟩
theorem keyIs_int (i:Int) (t:Tok):keyIs (.inl i) (.int i t)=true:=by simp[keyIs,Value.isInt]
theorem keyIs_str (x:Str) (t:Tok):keyIs (.inr x) (.str x t)=true:=by simp[keyIs,Value.isStrOf]
theorem key_ll (a b:Int):decide ((Sum.inl a:Key)=Sum.inl b)=(a==b):=by
 by_cases e:a=b
 ·subst e;simp
 ·have h:¬ (Sum.inl a:Key)=Sum.inl b:=fun q=>e (Sum.inl.inj q)
  rw[aI h]
  exact(beq_eq_false_iff_ne.mpr e).symm
theorem key_rr (a b:Str):decide ((Sum.inr a:Key)=Sum.inr b)=decide (a=b):=by
 by_cases e:a=b
 ·subst e;simp
 ·have h:¬ (Sum.inr a:Key)=Sum.inr b:=fun q=>e (Sum.inr.inj q)
  rw[aI h,aI e]
theorem key_lr (a:Int) (b:Str):decide ((Sum.inl a:Key)=Sum.inr b)=false:=aI (fun q=>nomatch q)
theorem key_rl (a:Str) (b:Int):decide ((Sum.inr a:Key)=Sum.inl b)=false:=aI (fun q=>nomatch q)
def mixKind (prog:Program) (w:World):PySem.KeyKind prog w Key where
 is:=keyIs
 hash:=keyH w
 inj:=fun v a b ha hb=>by
  rcases keyIs_shape ha with⟨i,t,rfl,rfl⟩ | ⟨x,t,rfl,rfl⟩
  ·rcases keyIs_shape hb with⟨j,u,rfl,e⟩ | ⟨y,u,rfl,e⟩
   ·injection e with e1 _;rw[e1]
   ·exact nomatch e
  ·rcases keyIs_shape hb with⟨j,u,rfl,e⟩ | ⟨y,u,rfl,e⟩
   ·exact nomatch e
   ·injection e with e1 _;rw[e1]
 byValue:=fun k v h=>by
  rcases keyIs_shape h with⟨i,t,rfl,rfl⟩ | ⟨x,t,rfl,rfl⟩ <;> rfl
 pyHash:=fun hv h=>by
  rcases keyIs_shape hv with⟨i,t,rfl,rfl⟩ | ⟨x,t,rfl,rfl⟩
  ·exact wpAny_pyHash_int h
  ·exact wpAny_pyHash_str h
 eqBool:=fun hu hv h=>by
  rcases keyIs_shape hu with⟨i,t,rfl,rfl⟩ | ⟨x,t,rfl,rfl⟩
  ·rcases keyIs_shape hv with⟨j,u,rfl,rfl⟩ | ⟨y,u,rfl,rfl⟩
   ·rw[key_ll] at h;exact wpAny_eqBool_int h
   ·rw[key_lr] at h;exact SeqAt.EqAt.int_str i t y u _ _ _ _ h
  ·rcases keyIs_shape hv with⟨j,u,rfl,rfl⟩ | ⟨y,u,rfl,rfl⟩
   ·rw[key_rl] at h;exact SeqAt.EqAt.str_int x t j u _ _ _ _ h
   ·rw[key_rr] at h;exact wpAny_eqBool_str h
 «strs»:=fun k x t v h=>by
  rcases keyIs_shape h with⟨i,u,rfl,e⟩ | ⟨y,u,rfl,e⟩
  ·exact nomatch e
  ·injection e with e1 _
   subst e1
   cases v <;> rfl
theorem mixKind_int (prog:Program) (w:World) (i:Int) (t:Tok):(mixKind prog w).is (.inl i) (.int i t)=true:=keyIs_int i t
theorem mixKind_str (prog:Program) (w:World) (x:Str) (t:Tok):(mixKind prog w).is (.inr x) (.str x t)=true:=keyIs_str x t
inductive V where
 | non | bl (b:Bool) | int (i:Int) | str (x:Str) | byt (b:Array UInt8) | flt (b:UInt64) | ref (a:Addr) | ty (n:String)
 deriving DecidableEq
def RelV:V->Value->Prop
 | .non,u=>u=Value.none
 | .bl b,u=>u=Value.bool b
 | .int i,u=>∃t,u=Value.int i t
 | .str x,u=>∃t,u=Value.str x t
 | .byt b,u=>∃t,u=Value.bytes b t
 | .flt b,u=>∃t,u=Value.float b t
 | .ref a,u=>u=Value.ref a
 | .ty n,u=>u=Value.type n
abbrev Vals:List V->List Value->Prop:=Paired RelV
theorem Vals.length {xs:List V}{us:List Value}(r:Vals xs us):xs.length=us.length:=Paired.length r
theorem Vals.get:∀ {xs:List V}{us:List Value}{i:Nat}{x:V},Vals xs us->xs[i]? = some x->∃u,us[i]? = some u/\RelV x u
 | _,_,_,_,.nil,e=>by simp at e
 | _,_,0,_,.cons r _,e=>by simp at e;subst e;exact⟨_,rfl,r⟩
 | _,_,i+1,x,.cons _ t,e=>by
  obtain⟨u,h1,h2⟩:=Vals.get (i:=i) (x:=x) t (by simpa using e)
  exact⟨u,by simpa using h1,h2⟩
theorem Vals.set {x:V}{u:Value}(r:RelV x u):∀ {xs:List V}{us:List Value}(i:Nat),Vals xs us->Vals (xs.set i x) (us.set i u)
 | _,_,_,.nil=>.nil
 | _,_,0,.cons _ t=>.cons r t
 | _,_,i+1,.cons q t=>.cons q (Vals.set r i t)
theorem Vals.append:∀ {xs ys:List V}{us ws:List Value},Vals xs us->Vals ys ws->Vals (xs++ys) (us++ws)
 | _,_,_,_,.nil,s=>s
 | _,_,_,_,.cons r t,s=>.cons r (Vals.append t s)
theorem Vals.take:∀ {xs:List V}{us:List Value}(n:Nat),Vals xs us->Vals (xs.take n) (us.take n)
 | _,_,0,_=>.nil
 | _,_,_+1,.nil=>.nil
 | _,_,n+1,.cons r t=>.cons r (Vals.take n t)
theorem Vals.drop:∀ {xs:List V}{us:List Value}(n:Nat),Vals xs us->Vals (xs.drop n) (us.drop n)
 | _,_,0,r=>r
 | _,_,_+1,.nil=>.nil
 | _,_,n+1,.cons _ t=>Vals.drop n t
def RelO:Option V->Option Value->Prop
 | some v,some u=>RelV v u
 | none,none=>True
 | _,_=>False
def KV {κ:Type}:List (κ × V)->List (κ × Value)->Prop:=Paired fun (p:κ × V) (q:κ × Value)=>p.1=q.1/\RelV p.2 q.2
def kV:Key->V
 | .inl i=>.int i
 | .inr x=>.str x
inductive HO where
    | lst (xs:List V)
    | tup (xs:List V)
    | dK (kvs:List (Key × V)) | dT (kvs:List (List Key × V))
    | set (S:Int->Bool) (n:Nat)
    | ins (C dx:Addr) (fs:List (Str × V))
    | own (x:Addr)
    | xd (fs:List (Str × V))
    | met (f x:Addr)
    | rng (lo hi:Int)
    | frz (o:Obj) (u:HO)
    | tbl (ps:Array Value)
    | ext (φ:Heap->Prop)
abbrev Hp:=Addr->Option HO
def upd (H:Hp) (a:Addr) (o:HO):Hp:=fun b=>if b=a then some o else H b
theorem upd_same {H:Hp}{a:Addr}{o:HO}:upd H a o a=some o:=by unfold upd;rw[if_pos rfl]
theorem upd_ne {H:Hp}{a b:Addr}{o:HO}(h:b≠a):upd H a o b=H b:=by unfold upd;rw[if_neg h]
theorem upd_upd {H:Hp}{a:Addr}{o u:HO}:upd (upd H a o) a u=upd H a u:=by
 funext b;unfold upd;split <;> rfl
theorem ne_of {H:Hp}{a b:Addr}{o u:HO}(h:H a=some o) (h':H b=some u) (d:o≠u):a≠b:=by
 intro e;subst e;rw[h] at h';exact d (ai h')
theorem ne_of_none {H:Hp}{a b:Addr}{o:HO}(h:H a=some o) (h':H b=none):a≠b:=by
 intro e;subst e;rw[h] at h';cases h'
def TupN (h:Heap) (a:Addr) (items:Array Value):Prop:=∃o,h.get? a=some o/\o.cls=.type "tuple"/\∃n,o.data=.seq items n/\o.dict=none
theorem TupN.tup {h:Heap}{a:Addr}{items:Array Value}(x:TupN h a items):IsTup h a items:=let ⟨o,e,c,n,d,_⟩:=x;⟨o,e,c,n,d⟩
theorem TupN.new (h:Heap) (items:Array Value):TupN (h.push { cls:=.type "tuple",data:=.seq items }) h.objs.size items:=⟨_,aF _ rfl,rfl,_,rfl,rfl⟩
section
variable (P:Program) (w:World)
def ObjOk (H:Hp) (h:Heap) (a:Addr):HO -> Prop
 | .lst xs=>xs.length<=sizeLine/\∃(its:List Value) (n:Nat),Vals xs its/\h.get? a=some { cls:=.type "list",data:=.seq its.toArray n }
 | .tup xs=>xs.length<=sizeLine/\∃its:List Value,Vals xs its/\TupN h a its.toArray
 | .dK kvs=>kvs.length<=sizeLine/\(a==sysModules)=false/\∃vs,KV kvs vs/\h.DictOf (mixKind P w) a vs
 | .dT kvs=>kvs.length<=sizeLine/\(a==sysModules)=false/\∃xs:List (List Key × Addr × Value),
     Paired (fun (p:List Key × V) (q:List Key × Addr × Value)=>p.1=q.1/\H q.2.1=some (.tup (p.1.map kV))/\RelV p.2 q.2.2) kvs xs /\
     ∃o es ep,h.get? a=some o/\o.ExactDict/\o.data=.dict es ep/\es.toList=xs.map (entryOfKey (tupleKind (mixKind P w)))/\(xs.map (·.1)).Nodup
 | .set S n=>h.SetOf (intKind P w) a S n
 | .ins C dx fs=>H dx=some (.own a)/\fs.length<=1000/\dx≠a/\h.get? a=some (W.instObj C dx) /\
     ∃mA,h.Ns1 dx mA/\(∀f,RelO (fs.lookup f) (mA f))/\PySem.Within mA (fs.map (·.1))
 | .own _=>∃o,h.get? a=some o
 | .xd fs=>∃mA,h.Ns1 a mA/\∀f,RelO (fs.lookup f) (mA f)
 | .rng lo hi=>∃t u v,h.get? a=some { cls:=.type "range",data:=.fields #[.int lo t,.int hi u,.int 1 v] }
 | .frz o u=>h.get? a=some o/\ObjOk H h a u
 | .tbl ps=>h.get? a=some { cls:=.none,data:=.fields ps }
 | .met f x=>h.get? a=some (W.methodObj (.ref f) (.ref x))
 | .ext φ=>φ h/\(∃o,h.get? a=some o)/\∀h1 h2:Heap,φ h1->(∀o,h1.get? a=some o->h2.get? a=some o)->φ h2
def HOk (H:Hp) (h:Heap):Prop:=∀a o,H a=some o->ObjOk P w H h a o
end
section
variable {P:Program}{w:World}{H H':Hp}{h h':Heap}{a:Addr}{o:HO}
theorem ObjOk.lt (x:ObjOk P w H h a o):a<h.objs.size:=by
 cases o with
 | lst xs=>obtain⟨_,_,_,_,e⟩:=x;exact ak e
 | tup xs=>obtain⟨_,_,_,p⟩:=x;exact p.tup.lt
 | dK kvs=>obtain⟨_,_,_,_,o,_,_,e,_⟩:=x;exact ak e
 | dT kvs=>obtain⟨_,_,_,_,o,_,_,e,_⟩:=x;exact ak e
 | set S n=>obtain⟨o,_,_,_,e,_⟩:=x;exact ak e
 | ins C dx fs=>obtain⟨_,_,_,e,_⟩:=x;exact ak e
 | own y=>obtain⟨_,e⟩:=x;exact ak e
 | xd fs=>obtain⟨_,⟨_,_,_,e,_⟩,_⟩:=x;exact ak e
 | rng lo hi=>obtain⟨_,_,_,e⟩:=x;exact ak e
 | frz ob u=>obtain⟨e,_⟩:=x;exact ak e
 | tbl ps=>exact ak (show h.get? a=some _ from x)
 | met f y=>exact ak (show h.get? a=some _ from x)
 | ext φ=>obtain⟨_,⟨_,e⟩,_⟩:=x;exact ak e
theorem Paired.mapP {α β:Type}{F G:α->β->Prop}:∀ {l₁:List α}{l₂:List β},Paired F l₁ l₂->(∀a b,F a b->G a b)->Paired G l₁ l₂
 | _,_,.nil,_=>.nil
 | _,_,.cons r t,f=>.cons (f _ _ r) (Paired.mapP t f)
theorem ObjOk.stay (x:ObjOk P w H h a o) (k:∀b u,(b=a∨H b=some (.own a))->h.get? b=some u->h'.get? b=some u)
    (ho:∀b,H b=some (.own a)->H' b=some (.own a)) (ht:∀b xs,H b=some (.tup xs)->H' b=some (.tup xs)):ObjOk P w H' h' a o:=by
 induction o with
 | lst xs=>obtain⟨z,its,n,r,e⟩:=x;exact⟨z,its,n,r,k _ _ (.inl rfl) e⟩
 | tup xs=>obtain⟨z,its,r,ob,e,c⟩:=x;exact⟨z,its,r,ob,k _ _ (.inl rfl) e,c⟩
 | dK kvs=>obtain⟨z,y,vs,r,ob,es,ep,e,c⟩:=x;exact⟨z,y,vs,r,ob,es,ep,k _ _ (.inl rfl) e,c⟩
 | dT kvs =>
  obtain⟨z,y,xs,r,ob,es,ep,e,c⟩:=x
  exact⟨z,y,xs,Paired.mapP r fun p q z=>⟨z.1,ht _ _ z.2.1,z.2.2⟩,ob,es,ep,k _ _ (.inl rfl) e,c⟩
 | set S n=>obtain⟨ob,es,ep,t,e,c⟩:=x;exact⟨ob,es,ep,t,k _ _ (.inl rfl) e,c⟩
 | ins C dx fs =>
  obtain⟨d,z,ne,e,mA,⟨od,es,ep,e2,c⟩,r⟩:=x
  exact⟨ho _ d,z,ne,k _ _ (.inl rfl) e,mA,⟨od,es,ep,k _ _ (.inr d) e2,c⟩,r⟩
 | own y=>obtain⟨ob,e⟩:=x;exact⟨ob,k _ _ (.inl rfl) e⟩
 | xd fs=>obtain⟨mA,⟨od,es,ep,e,c⟩,r⟩:=x;exact⟨mA,⟨od,es,ep,k _ _ (.inl rfl) e,c⟩,r⟩
 | rng lo hi=>obtain⟨t,u,v,e⟩:=x;exact⟨t,u,v,k _ _ (.inl rfl) e⟩
 | frz ob u ih=>obtain⟨e,q⟩:=x;exact⟨k _ _ (.inl rfl) e,ih q⟩
 | tbl ps =>
  have e:h.get? a=some { cls:=.none,data:=.fields ps }:=x
  show h'.get? a=some { cls:=.none,data:=.fields ps }
  exact k a _ (.inl rfl) e
 | met f y =>
  have e:h.get? a=some (W.methodObj (.ref f) (.ref y)):=x
  show h'.get? a=some (W.methodObj (.ref f) (.ref y))
  exact k a _ (.inl rfl) e
 | ext φ=>obtain⟨p,⟨o,e⟩,st⟩:=x;exact⟨st _ _ p fun o q=>k _ _ (.inl rfl) q,⟨o,k _ _ (.inl rfl) e⟩,st⟩
theorem HOk.lt (x:HOk P w H h) (e:H a=some o):a<h.objs.size:=(x a o e).lt
theorem HOk.fresh (x:HOk P w H h) (e:h.objs.size<=a):H a=none:=by
 cases q:H a with
 | none=>rfl
 | some u=>exact absurd (aS (x.lt q) e) (bq _)
theorem HOk.kept (x:HOk P w H h) (k:∀b u,h.get? b=some u->h'.get? b=some u):HOk P w H h':=fun a o e =>
 (x a o e).stay (fun b u _ q=>k b u q) (fun _ q=>q) fun _ _ q=>q
theorem HOk.laid (x:HOk P w H h) (k:∀b u,h.get? b=some u->h'.get? b=some u) (hp:h.objs.size<=a) (new:ObjOk P w (upd H a o) h' a o):HOk P w (upd H a o) h':=fun b u e=>by
 have hn:=x.fresh hp
 by_cases hb:b=a
 ·subst hb;rw[upd_same] at e;cases e;exact new
 ·rw[upd_ne hb] at e
  exact(x b u e).stay (fun c v _ q=>k c v q) (fun c q=>by rw[upd_ne (ne_of_none q hn)];exact q) fun c xs q=>by rw[upd_ne (ne_of_none q hn)];exact q
end
def Rd (H:Hp) (a:Addr) (u:HO):Prop:=H a=some u∨∃o,H a=some (.frz o u)
theorem Rd.ok {P:Program}{w:World}{H:Hp}{h:Heap}{a:Addr}{u:HO}(r:Rd H a u) (x:HOk P w H h):ObjOk P w H h a u:=by
 rcases r with r | ⟨o,r⟩
 ·exact x a u r
 ·obtain⟨_,q⟩:=x a _ r
  exact q
def Mut:Option HO->Prop
 | some (.lst _)=>True
 | some (.dK _)=>True
 | some (.dT _)=>True
 | some (.set _ _)=>True
 | some (.ins _ _ _)=>True
 | some (.ext _)=>True
 | _=>False
section
variable {P:Program}{w:World}{H:Hp}{h h':Heap}{x e:Addr}{o':HO}
theorem HOk.write (ok:HOk P w H h) (mu:Mut (H x)) (he:e=x ∨ H e=some (.own x)) (k:∀b u, b ≠ e -> h.get? b=some u -> h'.get? b=some u) (heo:∃u, h'.get? e=some u)
    (new:ObjOk P w (upd H x o') h' x o'):HOk P w (upd H x o') h':=fun b u q=>by
 have nown:∀c y,H c=some (.own y)->c≠x:=fun c y r z=>by subst z;rw[r] at mu;exact mu
 have ntup:∀c xs,H c=some (.tup xs)->c≠x:=fun c xs r z=>by subst z;rw[r] at mu;exact mu
 by_cases hb:b=x
 ·subst hb;rw[upd_same] at q;cases q;exact new
 ·rw[upd_ne hb] at q
  by_cases hbe:b=e
  ·have q':H b=some (.own x):=by
      rcases he with z | z
      ·exact absurd (hbe.trans z) hb
      ·rw[hbe];exact z
   rw[q] at q';cases q'
   obtain⟨v,hv⟩:=heo
   exact⟨v,by rw[hbe];exact hv⟩
  ·refine(ok b u q).stay (fun c v hc r=>k c v ?_ r) (fun c r=>by rw[upd_ne (nown c b r)];exact r) fun c xs r=>by rw[upd_ne (ntup c xs r)];exact r
   rcases hc with rfl | hc
   ·exact hbe
   ·rintro rfl
    rcases he with z | z
    ·exact nown c b hc z
    ·rw[hc] at z;cases z;exact hb rfl
end
structure Un (fs ex:List Addr) (H H':Hp) (h h':Heap):Prop where
 keep:∀b o,h.get? b=some o->H b=none->b∉fs->b∉ex->h'.get? b=some o
 slot:∀b o,h.get? b=some o->H b=none->b∈fs->b∉ex->∃sl,h'.get? b=some { o with slots:=sl }
 free:∀b o,h.get? b=some o->H b=none->b∉ex->H' b=none
 there:∀b o,h.get? b=some o->b∉ex->∃o',h'.get? b=some o'
 tups:∀b xs,H b=some (.tup xs)->H' b=some (.tup xs)
 frzs:∀b o u,H b=some (.frz o u)->H' b=some (.frz o u)
 tbls:∀b ps,H b=some (.tbl ps)->∃more,H' b=some (.tbl (ps++more))
section
variable {fs fs' ex ex':List Addr}{H H1 H2:Hp}{h h1 h2 h':Heap}{a x e:Addr}{o:HO}
theorem Un.any (u:Un fs ex H H1 h h1) {b:Addr}{ob:Obj}(q:h.get? b=some ob) (n:H b=none) (hx:b∉ex):∃sl,h1.get? b=some { ob with slots:=sl }:=by
 by_cases hb:b∈fs
 ·exact u.slot b ob q n hb hx
 ·exact⟨ob.slots,u.keep b ob q n hb hx⟩
theorem Un.kept (k:∀b u,h.get? b=some u->h'.get? b=some u):Un fs ex H H h h' :=
 ⟨fun b ob q _ _ _=>k b ob q,fun b ob q _ _ _=>⟨ob.slots,k b ob q⟩,fun _ _ _ n _=>n,fun b ob q _=>⟨ob,k b ob q⟩,fun _ _ q=>q,fun _ _ _ q=>q,fun _ ps q=>⟨#[],by rw[q];simp⟩⟩
theorem Un.refl:Un fs ex H H h h:=Un.kept fun _ _ q=>q
theorem Un.laid (k:∀b u,h.get? b=some u->h'.get? b=some u) (hp:h.objs.size<=a) (hn:H a=none):Un fs ex H (upd H a o) h h' where
 keep:=fun b u q _ _ _=>k b u q
 slot:=fun b u q _ _ _=>⟨u.slots,k b u q⟩
 free:=fun b u q n _=>by rw[upd_ne (aB (aS (ak q) hp))];exact n
 there:=fun b u q _=>⟨u,k b u q⟩
 tups:=fun b xs q=>by rw[upd_ne (ne_of_none q hn)];exact q
 frzs:=fun b u xs q=>by rw[upd_ne (ne_of_none q hn)];exact q
 tbls:=fun b ps q=>⟨#[],by rw[upd_ne (ne_of_none q hn),q];simp⟩
theorem Un.write (mu:Mut (H x)) (he:e=x∨H e=some (.own x)) (k:∀b u,b≠e->h.get? b=some u->h'.get? b=some u) (heo:∃u,h'.get? e=some u):Un fs ex H (upd H x o) h h':=by
 have hx:∀b,H b=none->b≠x:=fun b n z=>by subst z;rw[n] at mu;exact mu
 have hb:∀b,H b=none->b≠e:=fun b n z=>by
  subst z
  rcases he with r | r
  ·exact hx b n r
  ·rw[n] at r;cases r
 have hm:∀b u,H b=some u->¬ Mut (some u)->b≠x:=fun b u q nm z=>by subst z;rw[q] at mu;exact nm mu
 refine⟨fun b u q n _ _=>k b u (hb b n) q,fun b u q n _ _=>⟨u.slots,k b u (hb b n) q⟩,fun b u q n _=>by rw[upd_ne (hx b n)];exact n,fun b u q _=>?_,
  fun b xs q=>by rw[upd_ne (hm b _ q fun z=>z)];exact q,fun b u xs q=>by rw[upd_ne (hm b _ q fun z=>z)];exact q,fun b ps q=>⟨#[],by rw[upd_ne (hm b _ q fun z=>z),q];simp⟩⟩
 by_cases hbe:b=e
 ·subst hbe;exact heo
 ·exact⟨u,k b u hbe q⟩
end
def trk (h:Heap) (H:Hp):List Addr:=(List.range h.objs.size).filter fun a=>(H a).isSome
def hidT (h:Heap) (H:Hp):Heap:=W.hideAll h (trk h H)
theorem hidT_size (h:Heap) (H:Hp):(hidT h H).objs.size=h.objs.size:=W.hideAll_size _ _
theorem hidT_get {h:Heap}{H:Hp}{b:Addr}{o:Obj}(e:h.get? b=some o) (n:H b=none):(hidT h H).get? b=some o :=
 W.hideAll_get _ e fun hm=>by
  have q:(H b).isSome=true:=(am.mp hm).2
  rw[n] at q;simp at q
theorem of_hidT {h:Heap}{H:Hp}{b:Addr}{o:Obj}(e:(hidT h H).get? b=some o):h.get? b=some o/\H b=none:=by
 have e':h.get? b=some o:=W.of_hideAll (trk h H) e
 refine⟨e',?_⟩
 cases q:H b with
 | none=>rfl
 | some x =>
  have hm:b∈trk h H:=am.mpr ⟨bo.mpr (ak e'),by simp[q]⟩
  have z:(hidT h H).get? b=none:=W.hideAll_none (trk h H) hm
  rw[z] at e;cases e
def allNews (g h:Heap) (L:Addr):List (Addr × Obj):=(List.range h.objs.size).filterMap fun a=>if a=L∨(g.get? a).isSome=true then none else (h.get? a).map fun o=>(a,o)
def rest (g h:Heap) (L d:Addr):List (Addr × Obj):=(allNews g h L).filter fun p=>decide (p.1≠d)
structure Mod (K:W.Frag) (mg:Str->Option Value) (base:Heap):Prop where
 kin:K.In base
 glob:base.Ns mainGlobals mg
 blt:∃mb,base.Ns builtinsNs mb/\∀x:Str,x≠"__name__"->mb x=bootBuiltins x
 nolimit:base.NoLimit
structure Cx where
 prog:Program
 w:World
 K:W.Frag
 mg:Str->Option Value
 base:Heap
 A:Around
 N:List Str
 s₀:Shared
 H₀:Hp
 env:Env
 outer:List Env
 stack:List Env
 ex:List Addr
 fn:Str->Bool
 calm:Bool
 pn:List (Addr × Obj)
 xe:Value->Shared->Prop
def frs (l:List Env):List Addr:=l.filterMap (·.frame)
abbrev Cx.fs (X:Cx):List Addr:=frs X.outer
def Vis (sc:Scope) (x:Str):Prop:=sc.names.lookup x=some .local∨sc.names.lookup x=some .cell∨sc.names.lookup x=some .free
def Loc (sc:Scope) (x:Str):Prop:=sc.names.lookup x=some .local∨sc.names.lookup x=some .cell
def Look (env:Env) (h:Heap) (m:Str->Option Value) (x:Str) (u:Value):Prop :=
 (env.kindOf x=some .local/\m x=some u)∨((env.kindOf x=some .cell∨env.kindOf x=some .free)/\∃c,env.cells.lookup x=some c/\h.IsCell c (some u))
structure Cx.Ok (X:Cx):Prop where
 mod:Mod X.K X.mg X.base
 kind:X.env.scope.kind=.function
 glob:X.env.globals=mainGlobals
 blt:X.env.builtins=builtinsNs
 above:X.s₀.heap.objs.size<=X.env.locals
 inj:∀x y c,X.env.cells.lookup x=some c->X.env.cells.lookup y=some c->x=y
 has:∀x,(X.env.kindOf x=some .cell∨X.env.kindOf x=some .free)->∃c,X.env.cells.lookup x=some c
 cab:∀x c,X.fn x=true->X.env.cells.lookup x=some c->X.s₀.heap.objs.size<=c
 hd:X.calm=true->X.A.handled=none
 frames:X.A.frames=some X.stack
 stk:X.stack=X.outer∨(X.stack=X.env::X.outer/\X.env.frame=some X.env.locals)
 exf:∀b∈X.ex,b≠X.env.locals/\∀x c,X.env.cells.lookup x=some c->c≠b
 bs:∀b o,X.base.get? b=some o->X.s₀.heap.get? b=some o/\X.H₀ b=none
 bsz:X.base.objs.size<=X.s₀.heap.objs.size
 noex:∀b o,X.base.get? b=some o->b∉X.ex
 exfs:∀b∈X.ex,b∉X.fs
 funs:X.s₀.heap.FunFrames X.base X.outer
 frf:∀b∈X.fs,X.H₀ b=none
structure Inv (X:Cx) (pins:List (Addr × Obj)) (σ:List (Option V)) (H:Hp) (s:Shared):Prop where
 ok:X.Ok
 os:s.os=X.s₀.os
 bare:AllBare s.gens
 base:Un X.fs X.ex X.H₀ H X.s₀.heap s.heap
 loc:∃m,s.heap.Ns X.env.locals m/\∀(i:Nat) (x:Str) (v:V),X.N[i]? = some x->σ[i]? = some (some v)->Vis X.env.scope x->∃u,RelV v u/\Look X.env s.heap m x u
 cell:∀x c,X.env.cells.lookup x=some c->∃v,s.heap.IsCell c v
 free:H X.env.locals=none
 freeC:∀x c,X.env.cells.lookup x=some c->H c=none
 pin:∀p∈X.pn++pins,s.heap.get? p.1=some p.2/\H p.1=none/\p.1≠X.env.locals/\p.1∉X.fs/\∀v,p.2.data≠.cell v
 hok:HOk X.prog X.w H s.heap
 len:σ.length=X.N.length
section
variable {X:Cx}{pins:List (Addr × Obj)}{σ:List (Option V)}{H H':Hp}{s:Shared}{h':Heap}
theorem Cx.Ok.nofr (ok:X.Ok) {b:Addr}{o:Obj}(e:X.base.get? b=some o):b∉X.fs:=fun hb=>by
 have:=(ok.funs.mem hb).1
 rw[e] at this;cases this
theorem Inv.bs (I:Inv X pins σ H s):∀b o,X.base.get? b=some o->s.heap.get? b=some o/\H b=none:=fun b o e =>
 ⟨I.base.keep b o (I.ok.bs b o e).1 (I.ok.bs b o e).2 (I.ok.nofr e) (I.ok.noex b o e),I.base.free b o (I.ok.bs b o e).1 (I.ok.bs b o e).2 (I.ok.noex b o e)⟩
theorem Inv.bk (I:Inv X pins σ H s):∀b o,X.base.get? b=some o->s.heap.get? b=some o:=fun b o e=>(I.bs b o e).1
theorem Inv.mod (I:Inv X pins σ H s):Mod X.K X.mg X.base:=I.ok.mod
theorem Inv.kIn (I:Inv X pins σ H s):X.K.In s.heap:=I.ok.mod.kin.keeps I.bk
theorem Inv.lt (I:Inv X pins σ H s):X.env.locals<s.heap.objs.size:=let ⟨_,hn,_⟩:=I.loc;hn.lt
theorem Inv.sz (I:Inv X pins σ H s):X.s₀.heap.objs.size<=s.heap.objs.size:=aW I.ok.above (aT I.lt)
theorem Inv.nofs (I:Inv X pins σ H s) {a:Addr}(h:s.heap.objs.size<=a):a∉X.fs:=fun hb=>by
 obtain⟨_,o,ho,_⟩:=I.ok.funs.mem hb
 exact absurd (aS (ak ho) (aW I.sz h)) (bq _)
theorem Inv.cne (I:Inv X pins σ H s):∀x c,X.env.cells.lookup x=some c->c≠X.env.locals:=fun x c e z=>by
 obtain⟨v,o,ho,hd⟩:=I.cell x c e
 obtain⟨m,⟨o',es,ep,ho',hd',_⟩,_⟩:=I.loc
 rw[z,ho'] at ho;cases ho;rw[hd'] at hd;cases hd
theorem Inv.funs (I:Inv X pins σ H s):s.heap.FunFrames X.base X.outer := by
 have all:∀(l:List Env),(∀b∈frs l,b∈X.fs)->X.s₀.heap.FunFrames X.base l->s.heap.FunFrames X.base l:=by
  intro l
  induction l with
  | nil=>intro _ _;trivial
  | cons env r ih =>
   intro hs hl
   obtain⟨hk,⟨L,o,hf,hn,ho,hd⟩,hr⟩:=hl
   have hL:L∈X.fs:=hs L (by unfold frs;rw[List.filterMap_cons,hf];exact bR)
   obtain⟨sl,e⟩:=I.base.slot L o ho (I.ok.frf L hL) hL fun z=>I.ok.exfs L z hL
   exact⟨hk,⟨L,_,hf,hn,e,hd⟩,ih (fun b hb=>hs b (by unfold frs;rw[List.filterMap_cons,hf];exact aN _ hb)) hr⟩
 exact all X.outer (fun _ hb=>hb) I.ok.funs
theorem Inv.stack (I:Inv X pins σ H s):s.heap.FunFrames X.base X.stack:=by
 rcases I.ok.stk with e | ⟨e,hf⟩
 ·rw[e];exact I.funs
 ·rw[e]
  obtain⟨m,hn,_⟩:=I.loc
  refine .cons (by rw[I.ok.kind];decide) hf hn ?_ I.funs
  exact cy (aW I.ok.bsz I.ok.above)
theorem Inv.stkSub (I:Inv X pins σ H s):∀b∈frs X.stack,b∈X.env.locals::X.fs:=fun b hb=>by
 rcases I.ok.stk with e | ⟨e,hf⟩
 ·rw[e] at hb;exact aN _ hb
 ·rw[e] at hb
  unfold frs at hb
  rw[List.filterMap_cons,hf] at hb
  exact hb
theorem Inv.stkFree (I:Inv X pins σ H s):∀b∈frs X.stack,H b=none:=fun b hb=>by
 rcases ax.mp (I.stkSub b hb) with e | hb
 ·rw[e];exact I.free
 ·obtain⟨_,o,ho,_⟩:=I.ok.funs.mem hb
  exact I.base.free b o ho (I.ok.frf b hb) fun z=>I.ok.exfs b z hb
theorem Inv.step {g':Array GenState}{t':Nat}{d':Drawn}{ch:List Addr}(I:Inv X pins σ H s)
    (hch:∀b∈ch,(b∈X.ex∨X.s₀.heap.objs.size<=b)/\b≠X.env.locals/\(∀x c,X.env.cells.lookup x=some c->c≠b)/\∀p∈X.pn++pins,p.1≠b)
    (keep:∀b o,b≠X.env.locals->b∉X.fs->b∉ch->s.heap.get? b=some o->H b=none->h'.get? b=some o)
    (slot:∀b o,b≠X.env.locals->b∈X.fs->b∉ch->s.heap.get? b=some o->H b=none->∃sl,h'.get? b=some { o with slots:=sl }) (free:∀b o,b∉ch->s.heap.get? b=some o->H b=none->H' b=none)
    (there:∀b o,b∉ch->s.heap.get? b=some o->∃o',h'.get? b=some o')
    (tups:∀b xs,H b=some (.tup xs)->H' b=some (.tup xs)) (frzs:∀b o u,H b=some (.frz o u)->H' b=some (.frz o u)) (tbls:∀b ps,H b=some (.tbl ps)->∃more,H' b=some (.tbl (ps++more)))
    (ns:∀m,s.heap.Ns X.env.locals m->h'.Ns X.env.locals m) (hok:HOk X.prog X.w H' h') (hg:AllBare g') :
    Inv X pins σ H' { s with heap:=h',gens:=g',drawn:=d',toks:=t' }:=by
 have neL:∀b o,X.s₀.heap.get? b=some o->b≠X.env.locals:=fun b o e=>aB (aS (ak e) I.ok.above)
 have neC:∀b o,X.s₀.heap.get? b=some o->b∉X.ex->b∉ch:=fun b o e hx hb=>by
  rcases (hch b hb).1 with z | z
  ·exact hx z
  ·exact absurd (aS (ak e) z) (bq _)
 have cellK:∀x c,X.env.cells.lookup x=some c->∀v,s.heap.IsCell c v->h'.IsCell c v:=fun x c e v ⟨o,ho,hd⟩=>by
  have nch:c∉ch:=fun z=>(hch c z).2.2.1 x c e rfl
  by_cases hc:c∈X.fs
  ·obtain⟨sl,q⟩:=slot c o (I.cne x c e) hc nch ho (I.freeC x c e)
   exact⟨_,q,hd⟩
  ·exact⟨o,keep c o (I.cne x c e) hc nch ho (I.freeC x c e),hd⟩
 refine⟨I.ok,I.os,hg,⟨fun b o e n hb hx=>?_,fun b o e n hb hx=>?_,fun b o e n hx=>?_,fun b o e hx=>?_,fun b xs e=>tups b xs (I.base.tups b xs e),fun b o xs e=>frzs b o xs (I.base.frzs b o xs e),fun b ps e=>?_⟩,?_,fun x c e=>?_,?_,fun x c e=>?_,fun p hp=>?_,hok,I.len⟩
 ·exact keep b o (neL b o e) hb (neC b o e hx) (I.base.keep b o e n hb hx) (I.base.free b o e n hx)
 ·obtain⟨sl,e1⟩:=I.base.slot b o e n hb hx
  obtain⟨sl',e2⟩:=slot b _ (neL b o e) hb (neC b o e hx) e1 (I.base.free b o e n hx)
  exact⟨sl',e2⟩
 ·obtain⟨o',e1⟩:=I.base.there b o e hx
  exact free b o' (neC b o e hx) e1 (I.base.free b o e n hx)
 ·obtain⟨o',e1⟩:=I.base.there b o e hx
  exact there b o' (neC b o e hx) e1
 ·obtain⟨m1,e1⟩:=I.base.tbls b ps e
  obtain⟨m2,e2⟩:=tbls b _ e1
  exact⟨m1++m2,by rw[e2,Array.append_assoc]⟩
 ·obtain⟨m,hn,hl⟩:=I.loc
  refine⟨m,ns m hn,fun i x v e1 e2 e3=>?_⟩
  obtain⟨u,r,l⟩:=hl i x v e1 e2 e3
  refine⟨u,r,?_⟩
  rcases l with l | ⟨k,c,e,z⟩
  ·exact .inl l
  ·exact .inr ⟨k,c,e,cellK x c e _ z⟩
 ·obtain⟨v,z⟩:=I.cell x c e
  exact⟨v,cellK x c e v z⟩
 ·obtain⟨m,⟨o,_,_,ho,_⟩,_⟩:=I.loc
  exact free _ o (fun z=>(hch _ z).2.1 rfl) ho I.free
 ·obtain⟨v,o,ho,hd⟩:=I.cell x c e
  exact free c o (fun z=>(hch c z).2.2.1 x c e rfl) ho (I.freeC x c e)
 ·obtain⟨e,n,ne,nf,d⟩:=I.pin p hp
  have nch:p.1∉ch:=fun z=>(hch p.1 z).2.2.2 p hp rfl
  exact⟨keep p.1 p.2 ne nf nch e n,free p.1 p.2 nch e n,ne,nf,d⟩
theorem Inv.un {t':Nat}(I:Inv X pins σ H s) (u:Un X.fs [] H H' s.heap h') (hok:HOk X.prog X.w H' h'):Inv X pins σ H' { s with heap:=h',toks:=t' }:=by
 obtain⟨m,⟨o,es,ep,ho,r⟩,_⟩:=id I.loc
 obtain⟨sl,hL⟩:=u.any ho I.free (by simp)
 exact I.step (g':=s.gens) (d':=s.drawn) (ch:=[]) (fun _ z=>nomatch z) (fun b o _ hb _ e n=>u.keep b o e n hb (by simp)) (fun b o _ hb _ e n=>u.slot b o e n hb (by simp)) (fun b o _ e n=>u.free b o e n (by simp)) (fun b o _ e=>u.there b o e (by simp)) u.tups u.frzs u.tbls (fun m' hm=>by
  obtain⟨o',es',ep',ho',r'⟩:=hm
  rw[ho] at ho';cases ho'
  exact⟨_,es',ep',hL,r'⟩) hok I.bare
theorem Inv.call {g':Array GenState}{t':Nat}{d':Drawn}{ch:List Addr}(I:Inv X pins σ H s) (u:Un (frs X.stack) ch H H' s.heap h') (hok:HOk X.prog X.w H' h') (hg:AllBare g')
    (hch:∀b∈ch,(b∈X.ex∨X.s₀.heap.objs.size<=b)/\b≠X.env.locals/\(∀x c,X.env.cells.lookup x=some c->c≠b)/\∀p∈X.pn++pins,p.1≠b) :
    Inv X pins σ H' { s with heap:=h',gens:=g',drawn:=d',toks:=t' }:=by
 obtain⟨m,⟨o,es,ep,ho,r⟩,_⟩:=id I.loc
 obtain⟨sl,hL⟩:=u.any ho I.free fun z=>(hch _ z).2.1 rfl
 exact I.step (ch:=ch) hch (fun b o hL hb hc e n=>u.keep b o e n (fun z=>(ax.mp (I.stkSub b z)).elim hL hb) hc) (fun b o _ _ hc e n=>u.any e n hc) (fun b o hc e n=>u.free b o e n hc) (fun b o hc e=>u.there b o e hc) u.tups u.frzs u.tbls (fun m' hm=>by
  obtain⟨o',es',ep',ho',r'⟩:=hm
  rw[ho] at ho';cases ho'
  exact⟨_,es',ep',hL,r'⟩) hok hg
theorem Inv.turned {t':Nat}{it:Addr}(I:Inv X pins σ H s) (k:∀b o,b≠it->s.heap.get? b=some o->h'.get? b=some o) (hn:H it=none) (hL:it≠X.env.locals)
    (h1:it∈X.ex∨X.s₀.heap.objs.size<=it) (h2:∀x c,X.env.cells.lookup x=some c->c≠it) (h3:∀p∈X.pn++pins,p.1≠it):Inv X pins σ H { s with heap:=h',toks:=t' }:=by
 have nit:∀b u,H b=some u->b≠it:=fun b u e z=>by rw[z,hn] at e;cases e
 refine I.step (g':=s.gens) (d':=s.drawn) (ch:=[it]) (fun b hb=>?_) (fun b o _ _ hc e _=>k b o (fun z=>hc (by simp[z])) e) (fun b o _ _ hc e _=>⟨o.slots,k b o (fun z=>hc (by simp[z])) e⟩) (fun _ _ _ _ n=>n)
  (fun b o hc e=>⟨o,k b o (fun z=>hc (by simp[z])) e⟩) (fun _ _ e=>e) (fun _ _ _ e=>e) (fun b ps e=>⟨#[],by rw[e];simp⟩) (fun m hm=>?_) (fun b u e=>?_) I.bare
 ·have e:b=it:=by simpa using hb
  subst e
  exact⟨h1,hL,h2,h3⟩
 ·obtain⟨o,es,ep,ho,r⟩:=hm
  exact⟨o,es,ep,k _ o (Ne.symm hL) ho,r⟩
 ·refine(I.hok b u e).stay (fun c v hc q=>k c v ?_ q) (fun _ q=>q) fun _ _ q=>q
  rcases hc with z | z
  ·rw[z];exact nit b u e
  ·exact nit c _ z
theorem Inv.tok (I:Inv X pins σ H s) (t:Nat):Inv X pins σ H { s with toks:=t }:=I.un (h':=s.heap) (t':=t) Un.refl I.hok
theorem Inv.kept {t':Nat}(I:Inv X pins σ H s) (k:∀b u,s.heap.get? b=some u->h'.get? b=some u):Inv X pins σ H { s with heap:=h',toks:=t' }:=I.un (Un.kept k) (I.hok.kept k)
theorem Inv.laid {a:Addr}{o:HO}{t':Nat}(I:Inv X pins σ H s) (k:∀b u,s.heap.get? b=some u->h'.get? b=some u) (hp:s.heap.objs.size<=a) (new:ObjOk X.prog X.w (upd H a o) h' a o) :
    Inv X pins σ (upd H a o) { s with heap:=h',toks:=t' }:=I.un (Un.laid k hp (I.hok.fresh hp)) (I.hok.laid k hp new)
theorem Inv.write {x e:Addr}{o:HO}{t':Nat}(I:Inv X pins σ H s) (mu:Mut (H x)) (he:e=x∨H e=some (.own x)) (k:∀b u,b≠e->s.heap.get? b=some u->h'.get? b=some u) (heo:∃u,h'.get? e=some u)
    (new:ObjOk X.prog X.w (upd H x o) h' x o):Inv X pins σ (upd H x o) { s with heap:=h',toks:=t' }:=I.un (Un.write mu he k heo) (I.hok.write mu he k heo new)
theorem Inv.pins_of {pins':List (Addr × Obj)}(I:Inv X pins σ H s) (h:∀p∈pins',s.heap.get? p.1=some p.2/\H p.1=none/\p.1≠X.env.locals/\p.1∉X.fs/\∀v,p.2.data≠.cell v):Inv X pins' σ H s :=
 ⟨I.ok,I.os,I.bare,I.base,I.loc,I.cell,I.free,I.freeC,fun p hp=>(aq.mp hp).elim (fun z=>I.pin p (aU _ z)) (h p),I.hok,I.len⟩
theorem nodup_ix {N:List Str}(hN:N.Nodup) {i j:Nat}{x:Str}(a:N[i]? = some x) (b:N[j]? = some x):i=j:=by
 obtain⟨h1,e1⟩:=af.mp a
 obtain⟨h2,e2⟩:=af.mp b
 exact(List.getElem_inj hN).mp (e1.trans e2.symm)
theorem store_ok2 {M:Model}{A:Around}{E:Value -> Shared -> Prop}{i:Nat}{x:Str}{v:V}{u:Value}{Q:Unit -> Shared -> Prop}(I:Inv X pins σ H s) (hN:X.N.Nodup) (hi:X.N[i]? = some x) (hx:Loc X.env.scope x) (r:RelV v u)
    (h:∀s',Inv X pins (σ.set i (some v)) H s'->(∃a,Heap.SameBut a s.heap s'.heap/\(a=X.env.locals∨X.env.cells.lookup x=some a))->Q () s') (hf:X.fn x=true∨X.env.scope.names.lookup x=some .local:=by first | exact .inl rfl | exact .inr rfl | assumption):wpAny M A (storeName X.env x u) Q E s:=by
 obtain⟨m,hn,hl⟩:=id I.loc
 have hcls:(X.env.scope.kind==.class||(X.env.scope.kind==.module&&X.env.locals != X.env.globals))=false:=by rw[I.ok.kind];rfl
 have hiσ:i<σ.length:=by rw[I.len];exact(af.mp hi).1
 have cne:=I.cne
 have tracked:∀ {a:Addr} {h':Heap},(∃o,s.heap.get? a=some o/\H a=none)->Heap.SameBut a s.heap h'->HOk X.prog X.w H h':=fun {a h'} ha hs b ob e=>by
  obtain⟨_,_,hfree⟩:=ha
  refine(I.hok b ob e).stay (fun c w' hc q=>(hs.2 c ?_).trans q) (fun _ q=>q) fun _ _ q=>q
  rintro rfl
  rcases hc with rfl | hc
  ·rw[hfree] at e;cases e
  ·rw[hfree] at hc;cases hc
 rcases hx with hk | hk
 ·refine wpAny_storeName_local hk hn (fun h' hn' hs => ?_) hcls
  obtain⟨oL,_,_,hoL,_⟩:=id hn
  refine h _ ⟨I.ok,I.os,I.bare,⟨fun b o e n hb hx=>?_,fun b o e n hb hx=>?_,I.base.free,fun b o e hx=>?_,I.base.tups,I.base.frzs,I.base.tbls⟩,⟨_,hn',fun j y v' e1 e2 e3=>?_⟩,fun y c e=>?_,I.free,I.freeC,fun p hp=>?_,tracked ⟨oL,hoL,I.free⟩ hs,by simpa using I.len⟩ ⟨_,hs,.inl rfl⟩
  ·exact(hs.2 b (aB (aS (ak e) I.ok.above))).trans (I.base.keep b o e n hb hx)
  ·obtain⟨sl,e1⟩:=I.base.slot b o e n hb hx
   exact⟨sl,(hs.2 b (aB (aS (ak e) I.ok.above))).trans e1⟩
  ·obtain⟨o',e1⟩:=I.base.there b o e hx
   exact⟨o',(hs.2 b (aB (aS (ak e) I.ok.above))).trans e1⟩
  ·by_cases hj:j=i
   ·subst hj
    rw[hi] at e1;cases e1
    rw[cz hiσ] at e2
    cases e2
    exact⟨u,r,.inl ⟨hk,by simp⟩⟩
   ·rw[cC (Ne.symm hj)] at e2
    obtain⟨u',r',q⟩:=hl j y v' e1 e2 e3
    refine⟨u',r',?_⟩
    rcases q with⟨k,e⟩ | ⟨k,c,e,z⟩
    ·refine .inl ⟨k,?_⟩
     have:y≠x:=fun e=>hj (nodup_ix hN e1 (e ▸ hi))
     simp[this,e]
    ·exact .inr ⟨k,c,e,z.sameBut hs (cne y c e)⟩
  ·obtain⟨w',z⟩:=I.cell y c e
   exact⟨w',z.sameBut hs (cne y c e)⟩
  ·obtain⟨e,n,ne,nf,d⟩:=I.pin p hp
   exact⟨(hs.2 p.1 ne).trans e,n,ne,nf,d⟩
 ·have hfn:X.fn x=true := by
     rcases hf with z | z
     ·exact z
     ·rw[z] at hk;cases hk
  obtain⟨c,hc⟩:=I.ok.has x (.inl hk)
  obtain⟨w',z⟩:=I.cell x c hc
  refine wpAny_storeName_cell I.ok.kind hk hc z (fun h' hc' hs=>?_)
  obtain⟨oc,hoc,hocd⟩:=id z
  refine h { s with heap:=h' } ⟨I.ok,I.os,I.bare,⟨fun b o e n hb hx=>?_,fun b o e n hb hx=>?_,I.base.free,fun b o e hx=>?_,I.base.tups,I.base.frzs,I.base.tbls⟩,⟨m,hn.sameBut hs (Ne.symm (cne x c hc)),fun j y v' e1 e2 e3=>?_⟩,fun y c' e=>?_,I.free,I.freeC,fun p hp=>?_,tracked ⟨oc,hoc,I.freeC x c hc⟩ hs,by simpa using I.len⟩ ⟨c,hs,.inr hc⟩
  ·exact(hs.2 b (aB (aS (ak e) (I.ok.cab x c hfn hc)))).trans (I.base.keep b o e n hb hx)
  ·obtain⟨sl,e1⟩:=I.base.slot b o e n hb hx
   exact⟨sl,(hs.2 b (aB (aS (ak e) (I.ok.cab x c hfn hc)))).trans e1⟩
  ·obtain⟨o',e1⟩:=I.base.there b o e hx
   exact⟨o',(hs.2 b (aB (aS (ak e) (I.ok.cab x c hfn hc)))).trans e1⟩
  ·by_cases hj:j=i
   ·subst hj
    rw[hi] at e1;cases e1
    rw[cz hiσ] at e2
    cases e2
    exact⟨u,r,.inr ⟨.inl hk,c,hc,hc'⟩⟩
   ·rw[cC (Ne.symm hj)] at e2
    obtain⟨u',r',q⟩:=hl j y v' e1 e2 e3
    refine⟨u',r',?_⟩
    rcases q with q | ⟨k,c',e,z'⟩
    ·exact .inl q
    ·refine .inr ⟨k,c',e,z'.sameBut hs ?_⟩
     rintro rfl
     exact hj (nodup_ix hN e1 (I.ok.inj _ _ _ e hc ▸ hi))
  ·by_cases hcc:c'=c
   ·subst hcc;exact⟨_,hc'⟩
   ·obtain⟨w2,z2⟩:=I.cell y c' e
    exact⟨w2,z2.sameBut hs hcc⟩
  ·obtain⟨e,n,ne,nf,d⟩:=I.pin p hp
   refine⟨(hs.2 p.1 ?_).trans e,n,ne,nf,d⟩
   intro q
   rw[q,hoc] at e
   have q':oc=p.2:=ai e
   exact d w' (by rw[<- q'];exact hocd)
theorem store_ok {M:Model}{A:Around}{E:Value->Shared->Prop}{i:Nat}{x:Str}{v:V}{u:Value}{Q:Unit->Shared->Prop}(I:Inv X pins σ H s) (hN:X.N.Nodup) (hi:X.N[i]? = some x) (hx:Loc X.env.scope x) (r:RelV v u)
    (h:∀s',Inv X pins (σ.set i (some v)) H s'->Q () s') (hf:X.fn x=true∨X.env.scope.names.lookup x=some .local:=by first | exact .inl rfl | exact .inr rfl | assumption):wpAny M A (storeName X.env x u) Q E s :=
 store_ok2 I hN hi hx r (fun s' I' _=>h s' I') hf
theorem Inv.call' {s':Shared}{ch:List Addr}(I:Inv X pins σ H s) (ho:s'.os=s.os) (u:Un (frs X.stack) ch H H' s.heap s'.heap) (hok:HOk X.prog X.w H' s'.heap) (hg:AllBare s'.gens)
    (hch:∀b∈ch,(b∈X.ex∨X.s₀.heap.objs.size<=b)/\b≠X.env.locals/\(∀x c,X.env.cells.lookup x=some c->c≠b)/\∀p∈X.pn++pins,p.1≠b):Inv X pins σ H' s':=by
 obtain⟨h',g',d',t',o'⟩:=s'
 have e:o'=s.os:=ho
 subst e
 exact I.call (g':=g') (t':=t') (d':=d') u hok hg hch
end
abbrev XK:=Value->Option Addr->Hp->Prop
abbrev St:=List (Option V)
abbrev VK:=V->Hp->Prop
abbrev TE:=St->Hp->VK->Prop
abbrev TT:=St->Hp->(Bool->Hp->Prop)->Prop
abbrev TA:=St->Hp->(List V->Hp->Prop)->Prop
structure Ends where
 nx:St->Hp->Prop
 rt:VK
 bk:St->Hp->Prop:=fun _ _=>False
 ct:St->Hp->Prop:=fun _ _=>False
abbrev TS:=Ends->St->Hp->Prop
def EP (X:Cx) (pins:List (Addr × Obj)) (σ:St) (Q:VK) (u:Value) (s':Shared):Prop:=∃v H',Inv X pins σ H' s'/\RelV v u/\Q v H'
def TP (X:Cx) (pins:List (Addr × Obj)) (σ:St) (Q:Bool->Hp->Prop) (b:Bool) (s':Shared):Prop:=∃H',Inv X pins σ H' s'/\Q b H'
def AP (X:Cx) (pins:List (Addr × Obj)) (σ:St) (Q:List V->Hp->Prop) (us:List Value) (s':Shared):Prop:=∃vs H',Inv X pins σ H' s'/\Vals vs us/\Q vs H'
def SP (X:Cx) (pins:List (Addr × Obj)) (D:Ends) (f:Flow) (s':Shared):Prop :=
 match f with
 | .next=>∃σ' H',Inv X pins σ' H' s'/\D.nx σ' H'
 | .brk=>∃σ' H',Inv X pins σ' H' s'/\D.bk σ' H'
 | .cont=>∃σ' H',Inv X pins σ' H' s'/\D.ct σ' H'
 | .ret u=>∃v σ' H',Inv X pins σ' H' s'/\RelV v u/\D.rt v H'
def PE (X:Cx) (e:Expr) (t:TE):Prop :=
 ∀(pins:List (Addr × Obj)) (s:Shared) (σ:St) (H:Hp) (Q:VK),Inv X pins σ H s->t σ H Q->wpAny (model X.prog X.w) X.A (eval e X.env) (EP X pins σ Q) X.xe s
def PT (X:Cx) (e:Expr) (t:TT):Prop :=
 ∀(pins:List (Addr × Obj)) (s:Shared) (σ:St) (H:Hp) (Q:Bool->Hp->Prop),Inv X pins σ H s->t σ H Q->wpAny (model X.prog X.w) X.A (isTrue e X.env (eval e X.env)) (TP X pins σ Q) X.xe s
def PW (X:Cx) (e:Expr) (t:TT):Prop :=
 ∀(whole:Sem Value) (pins:List (Addr × Obj)) (s:Shared) (σ:St) (H:Hp) (Q:Bool->Hp->Prop),Inv X pins σ H s->t σ H Q->wpAny (model X.prog X.w) X.A (isTrue e X.env whole) (TP X pins σ Q) X.xe s
theorem PW.pt {X:Cx}{e:Expr}{t:TT}(h:PW X e t):PT X e t:=h _
def PA (X:Cx) (es:List Expr) (t:TA):Prop :=
 ∀(pos:Pos) (pins:List (Addr × Obj)) (s:Shared) (σ:St) (H:Hp) (Q:List V->Hp->Prop),Inv X pins σ H s->t σ H Q->wpAny (model X.prog X.w) X.A (spliced (backTo pos (starEach es X.env))) (AP X pins σ Q) X.xe s
def PS (X:Cx) (st:Stmt) (t:TS):Prop :=
 ∀(pins:List (Addr × Obj)) (s:Shared) (σ:St) (H:Hp) (D:Ends),Inv X pins σ H s->t D σ H->wpAny (model X.prog X.w) X.A (exec st X.env) (SP X pins D) X.xe s
def PSs (X:Cx) (st:List Stmt) (t:TS):Prop :=
 ∀(pins:List (Addr × Obj)) (s:Shared) (σ:St) (H:Hp) (D:Ends),Inv X pins σ H s->t D σ H->wpAny (model X.prog X.w) X.A (execs st X.env) (SP X pins D) X.xe s
theorem thn {α:Type}{t:Sem α}{Q Q':α->Shared->Prop}{M:Model}{A:Around}{E:Value->Shared->Prop}{s:Shared}(h:wpAny M A t Q E s) (hQ:∀a s,Q a s->Q' a s):wpAny M A t Q' E s:=bh h hQ fun _ _ x=>x
section
variable {X:Cx}
theorem bin {a b:Expr}{ta tb:TE}(ha:PE X a ta) (hb:PE X b tb) {pins:List (Addr × Obj)}{s:Shared}{σ:St}{H:Hp}{R:V->V->Hp->Prop}(I:Inv X pins σ H s) (h:ta σ H fun x H1=>tb σ H1 fun y H2=>R x y H2)
    {α:Type} {Q:α->Shared->Prop} {f:Value->Value->Sem α}
    (hf:∀v u s2 x y H2,Inv X pins σ H2 s2->RelV x v->RelV y u->R x y H2->wpAny (model X.prog X.w) X.A (f v u) Q X.xe s2) :
    wpAny (model X.prog X.w) X.A (eval a X.env) (fun v s₁=>wpAny (model X.prog X.w) X.A (eval b X.env) (fun u s₂=>wpAny (model X.prog X.w) X.A (f v u) Q X.xe s₂) X.xe s₁) X.xe s:=by
 refine thn (ha pins s σ H _ I h) fun v s1 ⟨x,H1,I1,r1,q1⟩=>?_
 refine thn (hb pins s1 σ H1 _ I1 q1) fun u s2 ⟨y,H2,I2,r2,q2⟩=>?_
 exact hf v u s2 x y H2 I2 r1 r2 q2
def tVar (i:Nat):TE:=fun σ H Q=>∃v,σ[i]? = some (some v)/\Q v H
def tC (v:V):TE:=fun _ H Q=>Q v H
theorem pe_var {i:Nat}{x:Str}{pos:Pos}(hN:X.N[i]? = some x) (hv:Vis X.env.scope x) (hd:(x==("__debug__":Str))=false:=by decide) (hcd:(x==("__classdict__":Str))=false:=by decide):PE X (.Name x pos) (tVar i):=by
 intro pins s σ H Q I h
 obtain⟨v,e,h⟩:=h
 obtain⟨m,hn,hl⟩:=I.loc
 obtain⟨u,r,l⟩:=hl i x v hN e hv
 have fin:EP X pins σ Q u s:=⟨v,H,I,r,h⟩
 rcases l with⟨hk,hm⟩ | ⟨hk,c,hc,hcell⟩
 ·exact wpAny_Name (wpAny_loadName_local I.ok.kind hk hn hm fin) hd
 ·rcases hk with hk | hk
  ·exact wpAny_Name (wpAny_loadName_cell I.ok.kind hk hc hcell fin) hd
  ·exact wpAny_Name (wpAny_loadName_free I.ok.kind hk hc hcell fin hcd) hd
theorem pe_int {i j pos}:PE X (.Constant (.int i) j pos) (tC (.int i)):=fun _ _ _ H _ I h=>wpAny_Constant_int ⟨.int i,H,I.tok _,⟨_,rfl⟩,h⟩
theorem pe_bl {b j pos}:PE X (.Constant (.bool b) j pos) (tC (.bl b)):=fun _ _ _ H _ I h=>Constant_bool ⟨.bl b,H,I,rfl,h⟩
theorem pe_non {j pos}:PE X (.Constant .none j pos) (tC .non):=fun _ _ _ H _ I h=>Constant_none ⟨.non,H,I,rfl,h⟩
theorem pe_str {x j pos}:PE X (.Constant (.str x) j pos) (tC (.str x)):=fun _ _ _ H _ I h=>Calls.Constant_str ⟨.str x,H,I.tok _,⟨_,rfl⟩,h⟩
def Gl (X:Cx) (x:Str):Prop:=X.env.kindOf x=some .globalImplicit
theorem ld_glob {E:Value->Shared->Prop}{pins:List (Addr × Obj)}{s:Shared}{σ:St}{H:Hp}{x:Str}{u:Value}{pos:Pos}{Q:Value->Shared->Prop}(I:Inv X pins σ H s) (hg:Gl X x) (hm:X.mg x=some u) (h:Q u s)
    (hd:(x==("__debug__":Str))=false:=by decide):wpAny (model X.prog X.w) X.A (eval (.Name x pos) X.env) Q E s :=
 Calls.Name_function_global I.ok.kind hg (Calls.loadGlobal_global (by rw[I.ok.glob];exact I.mod.glob.keeps I.bk) hm h) hd
theorem ld_blt {E:Value->Shared->Prop}{pins:List (Addr × Obj)}{s:Shared}{σ:St}{H:Hp}{x:Str}{u:Value}{pos:Pos}{Q:Value->Shared->Prop}(I:Inv X pins σ H s) (hg:Gl X x) (hm:X.mg x=none) (hv:bootBuiltins x=some u) (h:Q u s)
    (hn:x≠"__name__":=by decide) (hd:(x==("__debug__":Str))=false:=by decide):wpAny (model X.prog X.w) X.A (eval (.Name x pos) X.env) Q E s:=by
 obtain⟨mb,h1,h2⟩:=I.mod.blt
 exact Calls.Name_function_global I.ok.kind hg (Calls.loadGlobal_builtin (by rw[I.ok.glob];exact I.mod.glob.keeps I.bk) hm (by rw[I.ok.blt];exact h1.keeps I.bk) ((h2 x hn).trans hv) h) hd
theorem pe_glob {x:Str}{v:V}{u:Value}{pos:Pos}(hg:Gl X x) (hm:X.mg x=some u) (r:RelV v u) (hd:(x==("__debug__":Str))=false:=by decide):PE X (.Name x pos) (tC v) :=
 fun _ _ _ H _ I h=>ld_glob I hg hm ⟨v,H,I,r,h⟩ hd
theorem pe_bltn {x:Str}{v:V}{u:Value}{pos:Pos}(hg:Gl X x) (hm:X.mg x=none) (hv:bootBuiltins x=some u) (r:RelV v u) (hn:x≠"__name__":=by decide) (hd:(x==("__debug__":Str))=false:=by decide):PE X (.Name x pos) (tC v) :=
 fun _ _ _ H _ I h=>ld_blt I hg hm hv ⟨v,H,I,r,h⟩ hn hd
variable {a b:Expr}{ta tb:TE}{pos:Pos}
def tB (t:TE):TT:=fun σ H Q=>t σ H fun x H1=>∃c,x=.bl c/\Q c H1
theorem pt_val {e:Expr}{t:TE}(h:PE X e t) (he:∀whole,isTrue e X.env whole=(do let v ← whole;standAt e.pos;holding [v] (truthy v)):=by intro _;rfl):PT X e (tB t):=by
 intro pins s σ H Q I hw
 refine isTrue_plain (thn (h pins s σ H _ I hw) fun v s1 ⟨x,H1,I1,r1,q1⟩=>?_) (he _)
 obtain⟨d,rfl,q⟩:=q1
 cases r1
 exact wpAny_truthy_bool ⟨H1,I1,q⟩
variable {tA tB':TT}{rest:List Expr}
def tAnd (t u:TT):TT:=fun σ H Q=>t σ H fun c H1=>if c=true then u σ H1 Q else Q false H1
def tOr (t u:TT):TT:=fun σ H Q=>t σ H fun c H1=>if c=true then Q true H1 else u σ H1 Q
def tNot (t:TT):TT:=fun σ H Q=>t σ H fun c H1=>Q (!c) H1
theorem pw_and1 (ha:PT X a tA):PW X (.BoolOp .And [a] pos) tA:=by
 intro wh pins s σ H Q I h
 refine isTrue_and (thn (ha pins s σ H Q I h) fun c s1 e=>?_)
 cases c with
 | true=>exact isTrue_and_nil e
 | false=>exact e
theorem pw_or1 (ha:PT X a tA):PW X (.BoolOp .Or [a] pos) tA:=by
 intro wh pins s σ H Q I h
 refine isTrue_or (thn (ha pins s σ H Q I h) fun c s1 e=>?_)
 cases c with
 | false=>exact isTrue_or_nil e
 | true=>exact e
theorem pw_and (ha:PT X a tA) (hb:PW X (.BoolOp .And (b::rest) pos) tB'):PW X (.BoolOp .And (a::b::rest) pos) (tAnd tA tB'):=by
 intro wh pins s σ H Q I h
 refine isTrue_and (thn (ha pins s σ H _ I h) fun c s1 ⟨H1,I1,q1⟩=>?_)
 cases c with
 | true=>exact hb wh pins s1 σ H1 Q I1 q1
 | false=>exact⟨H1,I1,q1⟩
theorem pw_or (ha:PT X a tA) (hb:PW X (.BoolOp .Or (b::rest) pos) tB'):PW X (.BoolOp .Or (a::b::rest) pos) (tOr tA tB'):=by
 intro wh pins s σ H Q I h
 refine isTrue_or (thn (ha pins s σ H _ I h) fun c s1 ⟨H1,I1,q1⟩=>?_)
 cases c with
 | true=>exact⟨H1,I1,q1⟩
 | false=>exact hb wh pins s1 σ H1 Q I1 q1
theorem pt_not (ha:PT X a tA):PT X (.UnaryOp .Not a pos) (tNot tA):=by
 intro pins s σ H Q I h
 exact isTrue_not (ha pins s σ H (fun c H1=>Q (!c) H1) I h)
def tAndV (ta tb:TE):TE:=fun σ H Q=>ta σ H fun x H1=>∃c,x=.bl c/\if c=true then tb σ H1 Q else Q (.bl false) H1
def tNotV (ta:TE):TE:=fun σ H Q=>ta σ H fun x H1=>∃c,x=.bl c/\Q (.bl (!c)) H1
theorem pe_one {op}{t:TE}(h:PE X a t):PE X (.BoolOp op [a] pos) t:=fun pins s σ H Q I hw=>BoolOp_one (h pins s σ H Q I hw)
theorem pe_and (ha:PE X a ta) (hb:PE X (.BoolOp .And (b::rest) pos) tb):PE X (.BoolOp .And (a::b::rest) pos) (tAndV ta tb):=by
 intro pins s σ H Q I h
 refine BoolOp_and (thn (ha pins s σ H _ I h) fun v s1 ⟨x,H1,I1,r1,q1⟩=>?_)
 obtain⟨c,rfl,q1⟩:=q1
 cases r1
 refine wpAny_truthy_bool ?_
 cases c with
 | true=>exact hb pins s1 σ H1 Q I1 q1
 | false=>exact⟨.bl false,H1,I1,rfl,q1⟩
theorem pe_not (ha:PE X a ta):PE X (.UnaryOp .Not a pos) (tNotV ta):=by
 intro pins s σ H Q I h
 refine UnaryOp_ (thn (ha pins s σ H _ I h) fun v s1 ⟨x,H1,I1,r1,q1⟩=>?_)
 obtain⟨c,rfl,q1⟩:=q1
 cases r1
 exact not_of (wpAny_truthy_bool ⟨.bl (!c),H1,I1,rfl,q1⟩)
end
def SqL (K:W.Frag) (H:Hp) (a:Addr) (xs:List V):Prop :=
 Rd H a (.lst xs) ∨
  ∃(o:Obj) (its:Array Value) (n:Nat),K.lookup a=some o/\o.cls=.type "list"/\o.dict=none/\o.data=.seq its n/\its.size<=sizeLine/\Vals xs its.toList
def SqT (K:W.Frag) (H:Hp) (a:Addr) (xs:List V):Prop :=
 Rd H a (.tup xs) ∨
  ∃(o:Obj) (its:Array Value) (n:Nat),K.lookup a=some o/\o.cls=.type "tuple"/\o.data=.seq its n/\its.size<=sizeLine/\Vals xs its.toList
def absV:Value->Option V
 | .none=>some .non
 | .bool b=>some (.bl b)
 | .int i _=>some (.int i)
 | .str x _=>some (.str x)
 | .bytes b _=>some (.byt b)
 | .float b _=>some (.flt b)
 | .ref a=>some (.ref a)
 | .type n=>some (.ty n)
 | _=>none
theorem RelV.abs {x:V}{u:Value}(r:RelV x u):absV u=some x:=by
 cases x with
 | non=>cases r;rfl
 | bl _=>cases r;rfl
 | int _=>obtain⟨t,rfl⟩:=r;rfl
 | str _=>obtain⟨t,rfl⟩:=r;rfl
 | byt _=>obtain⟨t,rfl⟩:=r;rfl
 | flt _=>obtain⟨t,rfl⟩:=r;rfl
 | ref _=>cases r;rfl
 | ty _=>cases r;rfl
theorem RelV.inj {x y:V}{u:Value}(r:RelV x u) (q:RelV y u):x=y:=ai (r.abs.symm.trans q.abs)
theorem Vals.inj:∀ {xs ys:List V}{us:List Value},Vals xs us->Vals ys us->xs=ys
 | _,_,_,.nil,.nil=>rfl
 | _,_,_,.cons r t,.cons r' t'=>by rw[r.inj r',Vals.inj t t']
section
variable {X:Cx}{pins:List (Addr × Obj)}{σ:St}{H:Hp}{s:Shared}{a:Addr}{xs ys:List V}
theorem SqL.of {K:W.Frag}(h:H a=some (.lst xs)):SqL K H a xs:=.inl (.inl h)
theorem SqT.of {K:W.Frag}(h:H a=some (.tup xs)):SqT K H a xs:=.inl (.inl h)
theorem Inv.list (I:Inv X pins σ H s) (h:SqL X.K H a xs):∃its:List Value,Vals xs its/\PlainL s.heap a its.toArray/\xs.length<=sizeLine:=by
 rcases h with h | ⟨o,its,n,hk,hc,hd,hs,hz,r⟩
 ·obtain⟨z,its,n,r,e⟩:=h.ok I.hok
  exact⟨its,r,⟨_,n,e,rfl,rfl,rfl⟩,z⟩
 ·refine⟨its.toList,r,⟨o,n,I.kIn a o hk,hc,hd,by simpa using hs⟩,?_⟩
  have e:=r.length
  simp only[cg] at e
  omega
theorem Inv.tuple (I:Inv X pins σ H s) (h:SqT X.K H a xs):∃its:List Value,Vals xs its/\IsTup s.heap a its.toArray/\xs.length<=sizeLine:=by
 rcases h with h | ⟨o,its,n,hk,hc,hs,hz,r⟩
 ·obtain⟨z,its,r,p⟩:=h.ok I.hok
  exact⟨its,r,p.tup,z⟩
 ·refine⟨its.toList,r,⟨o,I.kIn a o hk,hc,n,by simpa using hs⟩,?_⟩
  have e:=r.length
  simp only[cg] at e
  omega
theorem Inv.list_inj (I:Inv X pins σ H s) (h:SqL X.K H a xs) (h':SqL X.K H a ys):xs=ys:=by
 obtain⟨its,r,⟨o,n,e,_,_,d⟩,_⟩:=I.list h
 obtain⟨its',r',⟨o',n',e',_,_,d'⟩,_⟩:=I.list h'
 rw[e] at e';cases e'
 rw[d] at d'
 injection d' with d1 _
 have:its=its':=by simpa using congrArg Array.toList d1
 subst this
 exact r.inj r'
theorem Inv.tuple_inj (I:Inv X pins σ H s) (h:SqT X.K H a xs) (h':SqT X.K H a ys):xs=ys:=by
 obtain⟨its,r,⟨o,e,_,n,d⟩,_⟩:=I.tuple h
 obtain⟨its',r',⟨o',e',_,n',d'⟩,_⟩:=I.tuple h'
 rw[e] at e';cases e'
 rw[d] at d'
 injection d' with d1 _
 have:its=its':=by simpa using congrArg Array.toList d1
 subst this
 exact r.inj r'
end
abbrev Cx.wish (X:Cx) (E:Value->Shared->Prop):Cx:={ X with xe:=E }
abbrev Cx.nox (X:Cx):Cx:=X.wish fun _ _=>False
theorem Cx.Ok.wish {X:Cx}(ok:X.Ok) (E:Value->Shared->Prop):(X.wish E).Ok :=
 ⟨ok.mod,ok.kind,ok.glob,ok.blt,ok.above,ok.inj,ok.has,ok.cab,ok.hd,ok.frames,ok.stk,ok.exf,ok.bs,ok.bsz,ok.noex,ok.exfs,ok.funs,ok.frf⟩
theorem Cx.Ok.unwish {X:Cx}{E:Value->Shared->Prop}(ok:(X.wish E).Ok):X.Ok :=
 ⟨ok.mod,ok.kind,ok.glob,ok.blt,ok.above,ok.inj,ok.has,ok.cab,ok.hd,ok.frames,ok.stk,ok.exf,ok.bs,ok.bsz,ok.noex,ok.exfs,ok.funs,ok.frf⟩
section
variable {X:Cx}{pins:List (Addr × Obj)}{σ:St}{H:Hp}{s:Shared}{E:Value->Shared->Prop}
theorem Inv.wish (I:Inv X pins σ H s) (E:Value->Shared->Prop):Inv (X.wish E) pins σ H s:=⟨I.ok.wish E,I.os,I.bare,I.base,I.loc,I.cell,I.free,I.freeC,I.pin,I.hok,I.len⟩
theorem Inv.unwish (I:Inv (X.wish E) pins σ H s):Inv X pins σ H s:=⟨I.ok.unwish,I.os,I.bare,I.base,I.loc,I.cell,I.free,I.freeC,I.pin,I.hok,I.len⟩
theorem SP.unwish {D:Ends}{f:Flow}{s':Shared}(h:SP (X.wish E) pins D f s'):SP X pins D f s':=by
 cases f with
 | next=>obtain⟨σ',H',I,q⟩:=h;exact⟨σ',H',I.unwish,q⟩
 | brk=>obtain⟨σ',H',I,q⟩:=h;exact⟨σ',H',I.unwish,q⟩
 | cont=>obtain⟨σ',H',I,q⟩:=h;exact⟨σ',H',I.unwish,q⟩
 | ret u=>obtain⟨v,σ',H',I,r,q⟩:=h;exact⟨v,σ',H',I.unwish,r,q⟩
theorem PSs.nox {st:List Stmt}{t:TS}(h:PSs X.nox st t):PSs X st t:=fun pins s σ H D I hw =>
 bh (h pins s σ H D (I.wish _) hw) (fun _ _ q=>q.unwish) fun _ _ z=>False.elim z
end
section
variable {X:Cx}{st:Stmt}{rest:List Stmt}{t u:TS}{e:Expr}{te:TE}{pos:Pos}
def tNext:TS:=fun D σ H=>D.nx σ H
def tSeq (t u:TS):TS:=fun D σ H=>t { D with nx:=u D } σ H
theorem pss_nil:PSs X [] tNext:=fun _ _ σ H _ I h=>wpAny_execs_nil ⟨σ,H,I,h⟩
theorem pss_cons (h1:PS X st t) (h2:PSs X rest u):PSs X (st::rest) (tSeq t u):=by
 intro pins s σ H D I h
 refine wpAny_execs_cons (thn (h1 pins s σ H { D with nx:=u D } I h) fun f s1 q=>?_)
 cases f with
 | next =>
  obtain⟨σ',H',I',q⟩:=q
  exact h2 pins s1 σ' H' D I' q
 | ret v=>exact q
 | brk=>exact q
 | cont=>exact q
theorem pss_one (h1:PS X st t):PSs X [st] t:=by
 intro pins s σ H D I h
 refine wpAny_execs_cons (thn (h1 pins s σ H D I h) fun f s1 q=>?_)
 cases f with
 | next=>exact wpAny_execs_nil q
 | ret v=>exact q
 | brk=>exact q
 | cont=>exact q
theorem Inv.quiet {pins:List (Addr × Obj)}{σ:St}{H:Hp}{s:Shared}(I:Inv X pins σ H s):interactive X.env=false:=by simp[interactive,I.ok.kind]
def tDrop (te:TE):TS:=fun D σ H=>te σ H fun _ H1=>D.nx σ H1
theorem ps_expr (he:PE X e te) (hs:swapsWith e none pos.line X.env=pure false:=by rfl):PS X (.Expr e pos) (tDrop te):=by
 intro pins s σ H D I h
 exact wpAny_Expr_any (thn (he pins s σ H _ I h) fun v s1 ⟨x,H1,I1,r1,q1⟩=>⟨σ,H1,I1,q1⟩) I.quiet hs
def tRet (te:TE):TS:=fun D σ H=>te σ H D.rt
theorem ps_ret (he:PE X e te):PS X (.Return (some e) pos) (tRet te):=by
 intro pins s σ H D I h
 exact wpAny_Return_some (thn (he pins s σ H _ I h) fun v s1 ⟨x,H1,I1,r1,q1⟩=>⟨x,σ,H1,I1,r1,q1⟩)
def tIfS (c:TT) (t u:TS):TS:=fun D σ H=>c σ H fun b H1=>if b=true then t D σ H1 else u D σ H1
theorem ps_if {c:Expr}{a b:List Stmt}{tc:TT}(hc:PT X c tc) (ha:PSs X a t) (hb:PSs X b u):PS X (.If c a b pos) (tIfS tc t u):=by
 intro pins s σ H D I h
 refine wpAny_If (thn (hc pins s σ H _ I h) fun d s1 ⟨H1,I1,q1⟩=>?_)
 cases d with
 | true=>exact ha pins s1 σ H1 D I1 q1
 | false=>exact hb pins s1 σ H1 D I1 q1
def tNever:TS:=fun _ _ _=>False
theorem ps_never:PS X st tNever:=fun _ _ _ _ _ _ h=>h.elim
theorem pss_never {sts:List Stmt}:PSs X sts tNever:=fun _ _ _ _ _ _ h=>h.elim
end
abbrev TG:=V->St->Hp->(St->Hp->Prop)->Prop
abbrev TGs:=List V->St->Hp->(St->Hp->Prop)->Prop
def PG (X:Cx) (target:Expr) (t:TG):Prop :=
 ∀(pins:List (Addr × Obj)) (s:Shared) (σ:St) (H:Hp) (v:V) (u:Value) (Q:St->Hp->Prop),Inv X pins σ H s->RelV v u->t v σ H Q ->
  wpAny (model X.prog X.w) X.A (assign target X.env u) (fun _ s'=>∃σ' H',Inv X pins σ' H' s'/\Q σ' H') X.xe s
def PGs (X:Cx) (ts:List Expr) (t:TGs):Prop :=
 ∀(pins:List (Addr × Obj)) (s:Shared) (σ:St) (H:Hp) (vs:List V) (us:List Value) (Q:St->Hp->Prop),Inv X pins σ H s->Vals vs us->t vs σ H Q ->
  wpAny (model X.prog X.w) X.A (assignInOrder ((assignEach ts X.env).map (·.2)) us) (fun _ s'=>∃σ' H',Inv X pins σ' H' s'/\Q σ' H') X.xe s
abbrev TSet:=V->V->V->Hp->(Hp->Prop)->Prop
def PSet (X:Cx) (t:TSet):Prop :=
 ∀(pins:List (Addr × Obj)) (s:Shared) (σ:St) (H:Hp) (o i v:V) (ov iv u:Value) (Q:Hp->Prop),Inv X pins σ H s->RelV o ov->RelV i iv->RelV v u->t o i v H Q ->
  wpAny (model X.prog X.w) X.A (setItem ov iv u) (fun _ s'=>∃H',Inv X pins σ H' s'/\Q H') X.xe s
section
variable {X:Cx}{pos:Pos}
def gName (i:Nat):TG:=fun v σ H Q=>Q (σ.set i (some v)) H
theorem pg_name {i:Nat}{x:Str}(hN:X.N.Nodup) (hi:X.N[i]? = some x) (hx:Loc X.env.scope x) (hf:X.fn x=true∨X.env.scope.names.lookup x=some .local:=by first | exact .inl rfl | exact .inr rfl | assumption):PG X (.Name x pos) (gName i):=by
 intro pins s σ H v u Q I r h
 exact wpAny_assign_Name (store_ok I hN hi hx r (fun s' I'=>⟨_,H,I',h⟩) hf)
def gNil:TGs:=fun vs σ H Q=>vs=[]/\Q σ H
def gCons (t:TG) (u:TGs):TGs:=fun vs σ H Q=>∃v r,vs=v::r/\t v σ H fun σ' H'=>u r σ' H' Q
theorem pgs_nil:PGs X [] gNil:=by
 intro pins s σ H vs us Q I r h
 obtain⟨e,h⟩:=h
 subst e
 cases r
 exact assignInOrder_nil ⟨σ,H,I,h⟩
theorem pgs_cons {e:Expr}{es:List Expr}{t:TG}{u:TGs}(h1:PG X e t) (h2:PGs X es u)
    (hs:(assignEach (e::es) X.env).map (·.2)=assign e X.env::(assignEach es X.env).map (·.2):=by rfl):PGs X (e::es) (gCons t u):=by
 intro pins s σ H vs us Q I r h
 obtain⟨v,vr,e1,h⟩:=h
 subst e1
 cases r with
 | cons r rr =>
  rw[hs]
  refine assignInOrder_cons (thn (h1 pins s σ H _ _ _ I r h) fun _ s1 ⟨σ1,H1,I1,q1⟩=>?_)
  exact h2 pins s1 σ1 H1 _ _ Q I1 rr q1
def gTup (K:W.Frag) (n:Nat) (t:TGs):TG:=fun v σ H Q=>∃a xs,v=.ref a/\SqT K H a xs/\xs.length=n/\t xs σ H Q
theorem pg_tup {es:List Expr}{k:Nat}{t:TGs}{n:Nat}(hc:X.calm=true) (h:PGs X es t)
    (hn:(assignEach es X.env).length=n:=by rfl) (hst:(assignEach es X.env).findIdx? (·.1)=none:=by rfl):PG X (.Tuple es k pos) (gTup X.K n t):=by
 intro pins s σ H v u Q I r hw
 obtain⟨a,xs,e1,hq,hl,hw⟩:=hw
 subst e1
 cases r
 obtain⟨its,rv,ht,hz⟩:=I.tuple hq
 refine assign_Tuple_tuple (I.ok.hd hc) ht (by simp[hn,<- hl,rv.length]) hst fun h' hx=>?_
 have I1:Inv X pins σ H { s with heap:=h' }:=I.kept (t':=s.toks) fun b o e=>hx b o (aB (ak e)) e
 exact h pins _ σ H xs _ Q I1 (by simpa using rv) hw
def gSub (to ti:TE) (t:TSet):TG:=fun v σ H Q=>to σ H fun o H1=>ti σ H1 fun i H2=>t o i v H2 fun H3=>Q σ H3
theorem pg_sub {o i:Expr}{to ti:TE}{t:TSet}(ho:PE X o to) (hi:PE X i ti) (hs:PSet X t)
    (ha:∀v,assign (.Subscript o i pos) X.env v=(do
     let ov ← holding [v] (eval o X.env)
     let iv ← holding [v,ov] (eval i X.env)
     standAt pos
     holding [v,ov,iv] (setItem ov iv v)
     release [v,ov,iv] []):=by intro _;rfl):PG X (.Subscript o i pos) (gSub to ti t):=by
 intro pins s σ H v u Q I r h
 rw[ha]
 refine ad (aZ (thn (ho pins s σ H _ I h) fun ov s1 ⟨x,H1,I1,r1,q1⟩=>?_))
 refine ad (aZ (thn (hi pins s1 σ H1 _ I1 q1) fun iv s2 ⟨y,H2,I2,r2,q2⟩=>?_))
 refine ad (wpAny_standAt (ad (aZ (thn (hs pins s2 σ H2 x y v ov iv u _ I2 r1 r2 r q2) fun _ s3 ⟨H3,I3,q3⟩=>?_))))
 exact wpAny_release ⟨σ,H3,I3,q3⟩
def tAsg (te:TE) (g:TG):TS:=fun D σ H=>te σ H fun x H1=>g x σ H1 D.nx
theorem ps_asg {tg e:Expr}{te:TE}{g:TG}(he:PE X e te) (hg:PG X tg g) (hs:swapsWithSole [tg] e pos.line X.env=pure false:=by rfl) (hw:swappedStores [tg] e X.env=pure none:=by rfl)
    (h1:(assignEach [tg] X.env).map (·.2)=[assign tg X.env]:=by rfl):PS X (.Assign [tg] e pos) (tAsg te g):=by
 intro pins s σ H D I h
 refine wpAny_Assign_stores (thn (he pins s σ H _ I h) fun v s1 ⟨x,H1,I1,r1,q1⟩=>?_) hs hw
 rw[h1]
 exact thn (hg pins s1 σ H1 x v _ I1 r1 q1) fun _ s2 q=>q
theorem ps_set {i:Nat}{x:Str}{e:Expr}{te:TE}{pos':Pos}(hN:X.N.Nodup) (hi:X.N[i]? = some x) (hx:Loc X.env.scope x) (he:PE X e te) (hs:swapsWith e (some (.Name x pos')) pos.line X.env=pure false:=by rfl) (hf:X.fn x=true∨X.env.scope.names.lookup x=some .local:=by first | exact .inl rfl | exact .inr rfl | assumption) :
    PS X (.Assign [.Name x pos'] e pos) (tAsg te (gName i)):=by
 intro pins s σ H D I h
 refine wpAny_Assign_Name (thn (he pins s σ H _ I h) fun v s1 ⟨y,H1,I1,r1,q1⟩=>?_) hs
 exact store_ok I1 hN hi hx r1 (fun s2 I2=>⟨_,H1,I2,q1⟩) hf
def tPar (i j:Nat) (ta:TA):TS:=fun D σ H=>ta σ H fun vs H1=>∃v w,vs=[v,w]/\D.nx ((σ.set i (some v)).set j (some w)) H1
theorem ps_par {i j:Nat}{x y:Str}{a b:Expr}{ta:TA}{px py pt:Pos}{kt k2 pt2}(hc:X.calm=true) (hN:X.N.Nodup) (hi:X.N[i]? = some x) (hj:X.N[j]? = some y) (hij:i ≠ j)
    (hx:X.env.scope.names.lookup x=some .local) (hy:X.env.scope.names.lookup y=some .local) (ha:PA X [a,b] ta)
    (hw:swappedStores [.Tuple [.Name x px,.Name y py] kt pt] (.Tuple [a,b] k2 pt2) X.env=pure (some [x,y]))
    (hs:swapsWithSole [.Tuple [.Name x px,.Name y py] kt pt] (.Tuple [a,b] k2 pt2) pos.line X.env=pure false:=by rfl) :
    PS X (.Assign [.Tuple [.Name x px,.Name y py] kt pt] (.Tuple [a,b] k2 pt2) pos) (tPar i j ta):=by
 intro pins s σ H D I h
 rw[exec_Assign_arm]
 refine ad (wpAny_standAt ?_)
 rw[hs]
 refine ad (ag ?_)
 rw[if_neg (by decide)]
 refine ad (Tuple_ (thn (ha _ pins s σ H _ I h) fun us s1 ⟨vs,H1,I1,r1,q1⟩=>?_))
 obtain⟨v,w,e1,q1⟩:=q1
 subst e1
 obtain⟨u1, u2, rfl, rv, rw'⟩:∃u1 u2, us=[u1, u2] /\ RelV v u1 /\ RelV w u2 := by
  cases r1 with
  | cons p q =>
   cases q with
   | cons p' q' =>
    cases q'
    exact⟨_,_,rfl,p,p'⟩
 refine wpAny_newObj_type ?_ (by show 2<=sizeLine;decide)
 have I2:Inv X pins σ H1 { s1 with heap:=s1.heap.push { cls:=.type "tuple",data:=.seq [u1,u2].toArray } }:=I1.kept (t':=s1.toks) fun b o e=>ay _ e
 rw[hw]
 refine ad (ag ?_)
 show wpAny (model X.prog X.w) X.A (do rule "assign.swapped-stores";let items ← unpackItems (.ref s1.heap.objs.size) 2 none;assignInOrder [fun v=>bindName X.env y v,fun v=>bindName X.env x v] items.reverse;pure Flow.next) _ _ _
 refine ad (wpAny_rule (ad (unpackItems_tuple (items:=#[u1,u2]) (I.ok.hd hc) (IsTup.new s1.heap _) fun h' hx'=>?_)))
 have I3:=I2.kept (h':=h') (t':=s1.toks) fun b o e=>hx' b o (aB (ak e)) e
 show wpAny _ _ (assignInOrder [fun v=>bindName X.env y v,fun v=>bindName X.env x v] [u2,u1] >>= fun _=>pure Flow.next) _ _ _
 refine ad (assignInOrder_cons (wpAny_bindName (store_ok I3 hN hj (.inl hy) rw' (fun s2 I4=>?_) (.inr hy))))
 refine assignInOrder_cons (wpAny_bindName (store_ok I4 hN hi (.inl hx) rv (fun s3 I5=>assignInOrder_nil (ag ?_)) (.inr hx)))
 rw[List.set_comm _ _ (Ne.symm hij)] at I5
 exact⟨_,H1,I5,q1⟩
end
section
variable {X:Cx}{pos:Pos}
def tWhile (c:TT) (tb:TS):TS:=fun D σ H=>∃W:Nat->St->Hp->Prop,(∃m,W m σ H)/\∀m σ H,W m σ H ->
 c σ H fun b H1=>if b=true then ∃N:St->Hp->Prop,(∀σ' H',N σ' H'->∃m',m'<m/\W m' σ' H')/\tb { D with nx:=N,ct:=N,bk:=D.nx } σ H1 else D.nx σ H1
theorem ps_while {c:Expr}{body:List Stmt}{tc:TT}{tb:TS}(hp:PassesOwn (model X.prog X.w) X.A X.env X.xe) (hc:PT X c tc) (hb:PSs X body tb):PS X (.While c body [] pos) (tWhile tc tb) := by
 intro pins s σ H D I h
 obtain⟨W,⟨m0,w0⟩,turn⟩:=h
 refine wpAny_While (codeAny_whileLoop (fun n s'=>∃σ' H',Inv X pins σ' H' s'/\W n σ' H') ?_ m0 ⟨σ,H,I,w0⟩)
 rintro n s1 ⟨σ1,H1,I1,w1⟩
 refine wpAny_passesOwn hp (thn (hc pins s1 σ1 H1 _ I1 (turn n σ1 H1 w1)) fun b s2 ⟨H2,I2,q2⟩=>?_)
 cases b with
 | true =>
  obtain⟨N,hN,q2⟩:=q2
  rw[if_pos rfl]
  refine wpAny_passesOwn hp (thn (hb pins s2 σ1 H2 _ I2 q2) fun f s3 q3=>?_)
  cases f with
  | next =>
   obtain⟨σ3,H3,I3,n3⟩:=q3
   obtain⟨m',hm,w3⟩:=hN σ3 H3 n3
   exact⟨m',hm,σ3,H3,I3,w3⟩
  | cont =>
   obtain⟨σ3,H3,I3,n3⟩:=q3
   obtain⟨m',hm,w3⟩:=hN σ3 H3 n3
   exact⟨m',hm,σ3,H3,I3,w3⟩
  | brk=>exact q3
  | ret v=>exact q3
 | false =>
  rw[if_neg aL]
  exact wpAny_execs_nil ⟨σ1,H2,I2,q2⟩
end
structure It where
 go:Nat->Hp->Prop
 yld:Nat->Hp->V->Hp->Prop
 stop:Nat->Hp->Prop
def FpOk (X:Cx) (pins:List (Addr × Obj)) (H:Hp) (b:Addr):Prop :=
 H b=none/\b≠X.env.locals/\b∉X.fs/\(b∈X.ex∨X.s₀.heap.objs.size<=b)/\(∀x c,X.env.cells.lookup x=some c->c≠b)/\∀p∈X.pn++pins,p.1≠b
theorem Inv.fpOk {X:Cx}{pins:List (Addr × Obj)}{σ:St}{H H':Hp}{s:Shared}{b:Addr}(I:Inv X pins σ H s) (hb:s.heap.objs.size<=b) (hn:H' b=none):FpOk X pins H' b:=by
 refine⟨hn,bJ (aS I.lt hb),I.nofs hb,.inr (aW I.sz hb),fun x c e z=>?_,fun p hp z=>?_⟩
 ·obtain⟨v,q⟩:=I.cell x c e
  exact absurd (aS q.lt (by rw[z];exact hb)) (bq _)
 ·exact absurd (aS (ak (I.pin p hp).1) (by rw[z];exact hb)) (bq _)
structure Turn (P:Program) (w:World) (K:W.Frag) (tg:Expr) (J:It) (fp:List Addr) (it:Addr) (tn:Nat -> Heap -> Prop):Prop where
 mem:it∈fp
 obj:∀i h,tn i h->∀b∈fp,∃o,h.get? b=some o/\∀v,o.data≠.cell v
 keep:∀i h h',tn i h->(∀b∈fp,∀o,h.get? b=some o->h'.get? b=some o)->tn i h'
 item:∀(X:Cx),X.prog=P->X.w=w->X.K=K->X.calm=true->∀(i:Nat) (pins:List (Addr × Obj)) (s:Shared) (σ:St) (H:Hp) (E:Value->Shared->Prop),Inv X pins σ H s->(∀b∈fp,FpOk X pins H b)->tn i s.heap->J.go i H ->
  wpAny (model P w) X.A (pyNext (.ref it)) (fun r s1=>∃u,r=some u /\
   wpAny (model P w) X.A (letOwnedTupleGo tg (.ref it) u) (fun _ s2=>∃x H',Inv X pins σ H' s2/\RelV x u/\J.yld i H x H'/\tn (i+1) s2.heap/\∀b∈fp,H' b=none) E s1) E s
 done:∀(X:Cx),X.prog=P->X.w=w->X.K=K->X.calm=true->∀(i:Nat) (pins:List (Addr × Obj)) (s:Shared) (σ:St) (H:Hp) (E:Value->Shared->Prop),Inv X pins σ H s->(∀b∈fp,FpOk X pins H b)->tn i s.heap->J.stop i H ->
  wpAny (model P w) X.A (pyNext (.ref it)) (fun r s1=>r=none/\Inv X pins σ H s1) E s
 self:∀(A:Around) (i:Nat) (s:Shared) (Q:Value->Shared->Prop) (E:Value->Shared->Prop),tn i s.heap->Q (.ref it) s->wpAny (model P w) A (pyIter (.ref it)) Q E s
abbrev TI:=St->Hp->(It->Hp->Prop)->Prop
def PIE (X:Cx) (pins:List (Addr × Obj)) (σ:St) (tg:Expr) (R:It->Hp->Prop) (itv:Value) (s2:Shared):Prop :=
 ∃(it:Addr) (fp:List Addr) (tn:Nat->Heap->Prop) (J:It) (H':Hp),itv=.ref it/\Inv X pins σ H' s2/\Turn X.prog X.w X.K tg J fp it tn/\tn 0 s2.heap/\(∀b∈fp,FpOk X pins H' b)/\R J H'
def PI (X:Cx) (tg iter:Expr) (wi:TI):Prop :=
 ∀(pins:List (Addr × Obj)) (s:Shared) (σ:St) (H:Hp) (R:It->Hp->Prop),Inv X pins σ H s->wi σ H R ->
  wpAny (model X.prog X.w) X.A (eval iter X.env) (fun v s1=>wpAny (model X.prog X.w) X.A (pyIter v) (PIE X pins σ tg R) X.xe s1) X.xe s
theorem go_of {M:Model}{A:Around}{E:Value -> Shared -> Prop}{s:Shared}{tg:Expr}{it:Addr}{u:Value}{o:Obj}{n:String}{vs:Array Value}{Q:Unit -> Shared -> Prop}(ho:s.heap.get? it=some o) (hc:o.cls=.type n) (hd:o.data=.fields vs)
    (hn:["enumerate","zip","dict_itemiterator","dict_reverseitemiterator","odict_iterator","itertools.zip_longest","itertools.pairwise"].contains n=false) (hQ:Q () s):wpAny M A (letOwnedTupleGo tg (.ref it) u) Q E s:=by
 unfold letOwnedTupleGo
 cases tg <;> first
  | exact ag hQ
  | (cases u <;> first
      | exact ag hQ
      | (refine ad (wpAny_load ho ?_)
         rw[hc,hd]
         show wpAny M A (if (["enumerate","zip","dict_itemiterator","dict_reverseitemiterator","odict_iterator","itertools.zip_longest","itertools.pairwise"].contains n&&vs[0]?==some (rawInt _))=true then _ else _) Q E s
         rw[if_neg (by intro h;rw[hn,Bool.false_and] at h;cases h)]
         exact ag hQ))
def Itl (K:W.Frag) (a:Addr):It :=
 ⟨fun i H=>∃xs x,SqL K H a xs/\xs[i]? = some x,fun i H x H'=>H'=H/\∀xs,SqL K H a xs->xs[i]? = some x,fun i H=>∃xs,SqL K H a xs/\xs.length<=i⟩
def Itt (K:W.Frag) (a:Addr):It :=
 ⟨fun i H=>∃xs x,SqT K H a xs/\xs[i]? = some x,fun i H x H'=>H'=H/\∀xs,SqT K H a xs->xs[i]? = some x,fun i H=>∃xs,SqT K H a xs/\xs.length<=i⟩
def Itr (lo:Int) (n:Nat):It:=⟨fun i _=>i<n,fun i H x H'=>H'=H/\x=.int (lo+i),fun i _=>n<=i⟩
theorem turn_list {P:Program}{w:World}{K:W.Frag}{tg:Expr}(a it:Addr):Turn P w K tg (Itl K a) [it] it (fun i h=>h.IsListIter it a i) where
 mem:=by simp
 obj:=fun i h st b hb=>by
  have e:b=it:=by simpa using hb
  subst e
  obtain⟨o,e,c,d⟩:=st
  exact⟨o,e,fun v z=>by rw[d] at z;cases z⟩
 keep:=fun i h h' st k=>st.at fun o e=>k it (by simp) o e
 item:=by
  intro X hP hw hK hc i pins s σ H E I hf st hg
  subst hP hw hK
  obtain⟨xs,x,hq,hx⟩:=hg
  obtain⟨its,rv,p,hz⟩:=I.list hq
  obtain⟨u,hu,ru⟩:=rv.get hx
  obtain⟨f0,f1,f2,f3,f4,f5⟩:=hf it (by simp)
  refine wpAny_pyNext_list_item st p.isList (x:=u) (by simpa using hu) fun h' st' sb=>?_
  have I1:Inv X pins σ H { s with heap:=h' }:=I.turned (t':=s.toks) (fun b o hb e=>(sb.2 b hb).trans e) f0 f1 f3 f4 f5
  obtain⟨o,e,c,d⟩:=id st'
  exact⟨u,rfl,go_of (s:={ s with heap:=h' }) e c d (by decide) ⟨x,H,I1,ru,⟨rfl,fun ys hy=>by rw[I.list_inj hy hq];exact hx⟩,st',fun b hb=>(hf b hb).1⟩⟩
 done:=by
  intro X hP hw hK hc i pins s σ H E I hf st hg
  subst hP hw hK
  obtain⟨xs,hq,hx⟩:=hg
  obtain⟨its,rv,p,hz⟩:=I.list hq
  obtain⟨f0,f1,f2,f3,f4,f5⟩:=hf it (by simp)
  have hl:=rv.length
  exact wpAny_pyNext_list_end (I.ok.hd hc) st p.isList (by simp;omega) fun h' eb=>⟨rfl,I.turned (t':=s.toks) (fun b o hb e=>eb b o hb e) f0 f1 f3 f4 f5⟩
 self:=fun _ _ _ _ _ st h=>wpAny_pyIter_listiter st h
theorem turn_tuple {P:Program}{w:World}{K:W.Frag}{tg:Expr}(a it:Addr):Turn P w K tg (Itt K a) [it] it (fun i h=>h.IsTupleIter it a i) where
 mem:=by simp
 obj:=fun i h st b hb=>by
  have e:b=it:=by simpa using hb
  subst e
  obtain⟨o,e,c,d⟩:=st
  exact⟨o,e,fun v z=>by rw[d] at z;cases z⟩
 keep:=fun i h h' st k=>st.at fun o e=>k it (by simp) o e
 item:=by
  intro X hP hw hK hc i pins s σ H E I hf st hg
  subst hP hw hK
  obtain⟨xs,x,hq,hx⟩:=hg
  obtain⟨its,rv,p,hz⟩:=I.tuple hq
  obtain⟨u,hu,ru⟩:=rv.get hx
  obtain⟨f0,f1,f2,f3,f4,f5⟩:=hf it (by simp)
  refine wpAny_pyNext_tuple_item st (show s.heap.IsTuple a its.toArray from p) (x:=u) (by simpa using hu) fun h' st' sb=>?_
  have I1:Inv X pins σ H { s with heap:=h' }:=I.turned (t':=s.toks) (fun b o hb e=>(sb.2 b hb).trans e) f0 f1 f3 f4 f5
  obtain⟨o,e,c,d⟩:=id st'
  exact⟨u,rfl,go_of (s:={ s with heap:=h' }) e c d (by decide) ⟨x,H,I1,ru,⟨rfl,fun ys hy=>by rw[I.tuple_inj hy hq];exact hx⟩,st',fun b hb=>(hf b hb).1⟩⟩
 done:=by
  intro X hP hw hK hc i pins s σ H E I hf st hg
  subst hP hw hK
  obtain⟨xs,hq,hx⟩:=hg
  obtain⟨its,rv,p,hz⟩:=I.tuple hq
  obtain⟨f0,f1,f2,f3,f4,f5⟩:=hf it (by simp)
  have hl:=rv.length
  exact wpAny_pyNext_tuple_end (I.ok.hd hc) st (show s.heap.IsTuple a its.toArray from p) (by simp;omega) fun h' eb=>⟨rfl,I.turned (t':=s.toks) (fun b o hb e=>eb b o hb e) f0 f1 f3 f4 f5⟩
 self:=fun _ _ _ _ _ st h=>wpAny_pyIter_tupleiter st h
theorem turn_range {P:Program}{w:World}{K:W.Frag}{tg:Expr}(it:Addr) (lo:Int) (n:Nat):Turn P w K tg (Itr lo n) [it] it (fun i h => IsRangeIter h it (lo+(i:Nat) * 1) ((n:Int)-(i:Nat)) 1) where
 mem:=by simp
 obj:=fun i h st b hb=>by
  have e:b=it:=by simpa using hb
  subst e
  exact⟨_,st,fun v z=>by
   have z':Data.fields _=Data.cell v:=z
   cases z'⟩
 keep:=fun i h h' st k=>k it (by simp) _ st
 item:=by
  intro X hP hw hK hc i pins s σ H E I hf st hg
  subst hP hw hK
  obtain⟨f0,f1,f2,f3,f4,f5⟩:=hf it (by simp)
  have W:=Walks.range (prog:=X.prog) (w:=X.w) (I.ok.hd hc) it lo 1 n
  refine W.item i s _ _ hg st fun v h' tk hv st' kk=>?_
  obtain⟨t,rfl⟩:=hv
  have I1:Inv X pins σ H { s with heap:=h',toks:=tk }:=I.turned (fun b o hb e=>kk b o (by simpa using hb) e) f0 f1 f3 f4 f5
  refine⟨_,rfl,go_of (s:={ s with heap:=h',toks:=tk }) (n:="range_iterator") st' rfl rfl (by decide) ⟨.int (lo+i),H,I1,⟨t,?_⟩,⟨rfl,rfl⟩,st',fun b hb=>(hf b hb).1⟩⟩
  rw[Int.mul_one]
 done:=by
  intro X hP hw hK hc i pins s σ H E I hf st hg
  subst hP hw hK
  obtain⟨f0,f1,f2,f3,f4,f5⟩:=hf it (by simp)
  exact wpAny_pyNext_range_end (I.ok.hd hc) st (by have:n<=i:=hg;omega) fun h' eb=>⟨rfl,I.turned (t':=s.toks) (fun b o hb e=>eb b o hb e) f0 f1 f3 f4 f5⟩
 self:=fun _ _ _ _ _ st h=>wpAny_pyIter_rangeiter st h
section
variable {X:Cx}{tg:Expr}
def iList (K:W.Frag) (tl:TE):TI:=fun σ H R=>tl σ H fun x H1=>∃a,x=.ref a/\(∃xs,SqL K H1 a xs)/\R (Itl K a) H1
def iTup (K:W.Frag) (tl:TE):TI:=fun σ H R=>tl σ H fun x H1=>∃a,x=.ref a/\(∃xs,SqT K H1 a xs)/\R (Itt K a) H1
theorem pi_list {l:Expr}{tl:TE}(hl:PE X l tl):PI X tg l (iList X.K tl):=by
 intro pins s σ H R I h
 refine thn (hl pins s σ H _ I h) fun v s1 ⟨x,H1,I1,r1,q1⟩=>?_
 obtain⟨a,e,⟨xs,hq⟩,q⟩:=q1
 subst e
 cases r1
 obtain⟨its,rv,p,hz⟩:=I1.list hq
 refine wpAny_pyIter_list p.isList ?_
 refine⟨s1.heap.objs.size,[s1.heap.objs.size],_,_,H1,rfl,I1.kept (t':=s1.toks) fun b o e=>ay _ e,turn_list a _,⟨_,aF _ rfl,rfl,rfl⟩,fun b hb=>?_,q⟩
 have e:b=s1.heap.objs.size:=by simpa using hb
 subst e
 exact I1.fpOk (ae _) (I1.hok.fresh (ae _))
theorem pi_tup {l:Expr}{tl:TE}(hl:PE X l tl):PI X tg l (iTup X.K tl):=by
 intro pins s σ H R I h
 refine thn (hl pins s σ H _ I h) fun v s1 ⟨x,H1,I1,r1,q1⟩=>?_
 obtain⟨a,e,⟨xs,hq⟩,q⟩:=q1
 subst e
 cases r1
 obtain⟨its,rv,p,hz⟩:=I1.tuple hq
 refine wpAny_pyIter_tuple (show s1.heap.IsTuple a its.toArray from p) ?_
 refine⟨s1.heap.objs.size,[s1.heap.objs.size],_,_,H1,rfl,I1.kept (t':=s1.toks) fun b o e=>ay _ e,turn_tuple a _,⟨_,aF _ rfl,rfl,rfl⟩,fun b hb=>?_,q⟩
 have e:b=s1.heap.objs.size:=by simpa using hb
 subst e
 exact I1.fpOk (ae _) (I1.hok.fresh (ae _))
theorem range_it {pins:List (Addr × Obj)}{σ:St}{H:Hp}{s:Shared}{R:It->Hp->Prop}{E:Value->Shared->Prop}{lo hi:Int}{t u v:Tok}{tk:Nat}(I:Inv X pins σ H s) (h1:-(2 ^ 62)<=lo) (h2:lo<2 ^ 62) (h3:-(2 ^ 62)<=hi) (h4:hi<2 ^ 62)
    (q:R (Itr lo (hi-lo).toNat) H):wpAny (model X.prog X.w) X.A (pyIter (.ref s.heap.objs.size)) (PIE X pins σ tg R) E { s with heap:=s.heap.push { cls:=.type "range",data:=.fields #[.int lo t,.int hi u,.int 1 v] },toks:=tk }:=by
 refine wpAny_pyIter_range (IsRange.new ..) (small_one h1 h2 h3 h4) ?_
 have I1:Inv X pins σ H { s with heap:=s.heap.push { cls:=.type "range",data:=.fields #[.int lo t,.int hi u,.int 1 v] },toks:=tk }:=I.kept fun b o e=>ay _ e
 refine⟨(s.heap.push { cls:=.type "range",data:=.fields #[.int lo t,.int hi u,.int 1 v] }).objs.size,[(s.heap.push { cls:=.type "range",data:=.fields #[.int lo t,.int hi u,.int 1 v] }).objs.size],_,_,H,rfl,
  I1.kept (t':=tk) fun b o e=>ay _ e,turn_range _ lo (hi-lo).toNat,?_,fun b hb=>?_,q⟩
 ·have e1:lo+((0:Nat):Int) * 1=lo:=by simp
  have e2:(((hi-lo).toNat:Nat):Int)-((0:Nat):Int)=Builtin.Range.rangeSize lo hi 1:=by rw[rangeSize_one];split <;> omega
  show IsRangeIter _ _ (lo+((0:Nat):Int) * 1) ((((hi-lo).toNat:Nat):Int)-((0:Nat):Int)) 1
  rw[e1,e2]
  exact aF _ rfl
 ·have e:b=(s.heap.push { cls:=.type "range",data:=.fields #[.int lo t,.int hi u,.int 1 v] }).objs.size:=by simpa using hb
  subst e
  exact I1.fpOk (ae _) (I1.hok.fresh (ae _))
def iRng1 (ta:TA):TI:=fun σ H R=>ta σ H fun vs H1=>∃j:Int,vs=[.int j]/\-(2 ^ 62)<=j/\j<2 ^ 62/\R (Itr 0 j.toNat) H1
def iRng2 (ta:TA):TI:=fun σ H R=>ta σ H fun vs H1=>∃i j:Int,vs=[.int i,.int j]/\(-(2 ^ 62)<=i/\i<2 ^ 62/\-(2 ^ 62)<=j/\j<2 ^ 62)/\R (Itr i (j-i).toNat) H1
theorem pi_range1 {a:Expr}{ta:TA}{p pos:Pos}(hg:Gl X "range") (hm:X.mg "range"=none) (ha:PA X [a] ta) (hs:starEach [a] X.env=[(false,eval a X.env)]:=by rfl):PI X tg (.Call (.Name "range" p) [a] [] pos) (iRng1 ta):=by
 intro pins s σ H R I h
 refine Call_ (ld_blt I hg hm boot_range (PyProof.Rows.callWith_type1 (thn (ha pos pins s σ H _ I h) fun us s1 ⟨vs,H1,I1,r1,q1⟩=>?_) hs rfl))
 obtain⟨j,e,q1,q2,q⟩:=q1
 subst e
 cases r1 with
 | cons r rr =>
  cases rr
  obtain⟨t,rfl⟩:=r
  exact call_range_1 (range_it I1 (by omega) (by omega) q1 q2 (by simpa using q))
theorem pi_range2 {a b:Expr}{ta:TA}{p pos:Pos}(hg:Gl X "range") (hm:X.mg "range"=none) (ha:PA X [a, b] ta) (hs:starEach [a, b] X.env=[(false, eval a X.env), (false, eval b X.env)] := by rfl) (hs2:starEach [b] X.env=[(false, eval b X.env)] := by rfl) :
    PI X tg (.Call (.Name "range" p) [a,b] [] pos) (iRng2 ta):=by
 intro pins s σ H R I h
 refine Call_ (ld_blt I hg hm boot_range (PyProof.Rows.callWith_type1 (thn (ha pos pins s σ H _ I h) fun us s1 ⟨vs,H1,I1,r1,q1⟩=>?_) (by rw[hs,hs2]) (by rw[hs2];rfl)))
 obtain⟨i,j,e,⟨q1,q2,q3,q4⟩,q⟩:=q1
 subst e
 cases r1 with
 | cons r rr =>
  cases rr with
  | cons r' rr =>
   cases rr
   obtain⟨t,rfl⟩:=r
   obtain⟨t',rfl⟩:=r'
   exact call_range_2 (range_it I1 q1 q2 q3 q4 q)
def tFor (wi:TI) (g:TG) (tb:TS):TS:=fun D σ H=>wi σ H fun J H1=>∃W:Nat->Nat->St->Hp->Prop,(∃m,W 0 m σ H1)/\∀i m σ H,W i m σ H ->
 (J.stop i H/\D.nx σ H)∨(J.go i H/\∃N:St->Hp->Prop,(∀σ' H',N σ' H'->∃m',m'<m/\W (i+1) m' σ' H')/\∀x H',J.yld i H x H'->g x σ H' fun σ2 H2=>tb { D with nx:=N,ct:=N,bk:=D.nx } σ2 H2)
def pinsAt (fp:List Addr) (h:Heap):List (Addr × Obj):=fp.filterMap fun b=>(h.get? b).map fun o=>(b,o)
theorem mem_pinsAt {fp:List Addr}{h:Heap}{b:Addr}{o:Obj}(hb:b∈fp) (e:h.get? b=some o):(b,o)∈pinsAt fp h:=List.mem_filterMap.mpr ⟨b,hb,by rw[e];rfl⟩
theorem of_pinsAt {fp:List Addr}{h:Heap}{p:Addr × Obj}(hp:p∈pinsAt fp h):p.1∈fp/\h.get? p.1=some p.2:=by
 obtain⟨b,hb,e⟩:=List.mem_filterMap.mp hp
 cases q:h.get? b with
 | none=>rw[q] at e;cases e
 | some o =>
  rw[q] at e
  have e':(b,o)=p:=ai e
  subst e'
  exact⟨hb,q⟩
theorem Inv.pinned {pins:List (Addr × Obj)}{σ:St}{H:Hp}{s:Shared}{fp:List Addr}(I:Inv X pins σ H s) (hf:∀b∈fp,FpOk X pins H b) (ho:∀b∈fp,∃o,s.heap.get? b=some o/\∀v,o.data≠.cell v):Inv X (pins++pinsAt fp s.heap) σ H s :=
 I.pins_of fun p hp=>(aq.mp hp).elim (fun z=>I.pin p (aJ _ z)) fun z=>by
  obtain⟨hb,e⟩:=of_pinsAt z
  obtain⟨f0,f1,f2,_⟩:=hf p.1 hb
  obtain⟨o,e',d⟩:=ho p.1 hb
  rw[e] at e';cases e'
  exact⟨e,f0,f1,f2,d⟩
theorem Inv.unpinned {pins pl:List (Addr × Obj)}{σ:St}{H:Hp}{s:Shared}(I:Inv X (pins++pl) σ H s):Inv X pins σ H s:=I.pins_of fun p hp=>I.pin p (aJ _ (aU _ hp))
theorem ps_for {iter:Expr}{body:List Stmt}{wi:TI}{g:TG}{tb:TS}{pos:Pos}(hp:PassesOwn (model X.prog X.w) X.A X.env X.xe) (hc:X.calm=true) (hi:PI X tg iter wi) (hg:PG X tg g) (hb:PSs X body tb)
    (hs:∀x,foldedSetIterable iter X.env x=pure x:=by intro _;rfl):PS X (.For tg iter body [] pos) (tFor wi g tb):=by
 intro pins s σ H D I h
 refine wpAny_For (thn (hi pins s σ H _ I h) fun v s1 h1=>thn h1 fun itv s2 h2=>?_) hs
 obtain⟨it,fp,tn,J,H2,e,I2,T,st2,f2,W,⟨m0,w0⟩,turn⟩:=h2
 subst e
 have stat:∀ {H':Hp},(∀b∈fp,H' b=none)->∀b∈fp,FpOk X pins H' b:=fun hn b hb=>⟨hn b hb,(f2 b hb).2⟩
 refine codeAny_forLoop_any (fun n s'=>∃i σ' H',Inv X pins σ' H' s'/\tn i s'.heap/\(∀b∈fp,H' b=none)/\W i n σ' H') ?_ m0 ⟨0,σ,H2,I2,st2,fun b hb=>(f2 b hb).1,w0⟩
 rintro n s3 ⟨i,σ3,H3,I3,st3,fr3,w3⟩
 rcases turn i n σ3 H3 w3 with⟨stop,qn⟩ | ⟨go,N,hN,step⟩
 ·refine wpAny_passesOwn hp (thn (T.done X rfl rfl rfl hc i pins s3 σ3 H3 X.xe I3 (stat fr3) st3 stop) fun r s4 ⟨hr,I4⟩=>?_)
  subst hr
  exact wpAny_execs_nil ⟨σ3,H3,I4,qn⟩
 ·refine wpAny_passesOwn hp (thn (T.item X rfl rfl rfl hc i pins s3 σ3 H3 X.xe I3 (stat fr3) st3 go) fun r s4 ⟨u,hr,h4⟩=>?_)
  subst hr
  refine wpAny_passesOwn hp (thn h4 fun _ s5 ⟨x,H5,I5,r5,y5,st5,fr5⟩=>?_)
  have I5':=I5.pinned (stat fr5) (T.obj _ _ st5)
  refine wpAny_passesOwn hp (thn (hg _ s5 σ3 H5 x u _ I5' r5 (step x H5 y5)) fun _ s6 ⟨σ6,H6,I6,q6⟩=>?_)
  refine wpAny_passesOwn hp (thn (hb _ s6 σ6 H6 _ I6 q6) fun f s7 q7=>?_)
  have again:∀ {σ7:St} {H7:Hp},Inv X (pins++pinsAt fp s5.heap) σ7 H7 s7->N σ7 H7->∃m,m<n/\∃i σ' H',Inv X pins σ' H' s7/\tn i s7.heap/\(∀b∈fp,H' b=none)/\W i m σ' H':=fun {σ7 H7} I7 n7=>by
   obtain⟨m',hm,w7⟩:=hN σ7 H7 n7
   refine⟨m',hm,i+1,σ7,H7,I7.unpinned,T.keep _ _ _ st5 fun b hb o e=>(I7.pin (b,o) (aJ _ (aJ _ (mem_pinsAt hb e)))).1,fun b hb=>?_,w7⟩
   obtain⟨o,e,d⟩:=T.obj _ _ st5 b hb
   exact(I7.pin (b,o) (aJ _ (aJ _ (mem_pinsAt hb e)))).2.1
  cases f with
  | next=>obtain⟨σ7,H7,I7,n7⟩:=q7;exact again I7 n7
  | cont=>obtain⟨σ7,H7,I7,n7⟩:=q7;exact again I7 n7
  | brk=>obtain⟨σ7,H7,I7,q7⟩:=q7;exact⟨σ7,H7,I7.unpinned,q7⟩
  | ret v=>obtain⟨x7,σ7,H7,I7,r7,q7⟩:=q7;exact⟨x7,σ7,H7,I7.unpinned,r7,q7⟩
end
theorem for_list {K:W.Frag}{a:Addr}{xs:List V}{g:TG}{tb:TS}{D:Ends}{σ:St}{H:Hp}(Pv:Nat -> St -> Hp -> Prop) (h0:Pv 0 σ H) (hl:∀i σ H, i <= xs.length -> Pv i σ H -> SqL K H a xs)
    (hs:∀i x σ H,xs[i]? = some x->Pv i σ H->g x σ H fun σ2 H2=>tb { D with nx:=Pv (i+1),ct:=Pv (i+1),bk:=D.nx } σ2 H2) (hd:∀σ H,Pv xs.length σ H->D.nx σ H) :
    ∃W:Nat->Nat->St->Hp->Prop,(∃m,W 0 m σ H)/\∀i m σ H,W i m σ H ->
     ((Itl K a).stop i H/\D.nx σ H)∨((Itl K a).go i H/\∃N:St->Hp->Prop,(∀σ' H',N σ' H'->∃m',m'<m/\W (i+1) m' σ' H')/\∀x H',(Itl K a).yld i H x H'->g x σ H' fun σ2 H2=>tb { D with nx:=N,ct:=N,bk:=D.nx } σ2 H2):=by
 refine⟨fun i m σ H=>m=xs.length-i/\i<=xs.length/\Pv i σ H,⟨xs.length,by simp,a0 _,h0⟩,?_⟩
 rintro i m σ H ⟨rfl,hi,p⟩
 have q:=hl i σ H hi p
 by_cases hlt:i<xs.length
 ·refine .inr ⟨⟨xs,xs[i],q,by simp[hlt]⟩,Pv (i+1),fun σ' H' p'=>⟨xs.length-(i+1),by omega,rfl,hlt,p'⟩,fun x H' y=>?_⟩
  obtain⟨e,y⟩:=y
  subst e
  exact hs i x σ _ (y xs q) p
 ·have e:i=xs.length:=by omega
  subst e
  exact .inl ⟨⟨xs,q,ae _⟩,hd σ H p⟩
theorem for_tup {K:W.Frag}{a:Addr}{xs:List V}{g:TG}{tb:TS}{D:Ends}{σ:St}{H:Hp}(Pv:Nat -> St -> Hp -> Prop) (h0:Pv 0 σ H) (hl:∀i σ H, i <= xs.length -> Pv i σ H -> SqT K H a xs)
    (hs:∀i x σ H,xs[i]? = some x->Pv i σ H->g x σ H fun σ2 H2=>tb { D with nx:=Pv (i+1),ct:=Pv (i+1),bk:=D.nx } σ2 H2) (hd:∀σ H,Pv xs.length σ H->D.nx σ H) :
    ∃W:Nat->Nat->St->Hp->Prop,(∃m,W 0 m σ H)/\∀i m σ H,W i m σ H ->
     ((Itt K a).stop i H/\D.nx σ H)∨((Itt K a).go i H/\∃N:St->Hp->Prop,(∀σ' H',N σ' H'->∃m',m'<m/\W (i+1) m' σ' H')/\∀x H',(Itt K a).yld i H x H'->g x σ H' fun σ2 H2=>tb { D with nx:=N,ct:=N,bk:=D.nx } σ2 H2):=by
 refine⟨fun i m σ H=>m=xs.length-i/\i<=xs.length/\Pv i σ H,⟨xs.length,by simp,a0 _,h0⟩,?_⟩
 rintro i m σ H ⟨rfl,hi,p⟩
 have q:=hl i σ H hi p
 by_cases hlt:i<xs.length
 ·refine .inr ⟨⟨xs,xs[i],q,by simp[hlt]⟩,Pv (i+1),fun σ' H' p'=>⟨xs.length-(i+1),by omega,rfl,hlt,p'⟩,fun x H' y=>?_⟩
  obtain⟨e,y⟩:=y
  subst e
  exact hs i x σ _ (y xs q) p
 ·have e:i=xs.length:=by omega
  subst e
  exact .inl ⟨⟨xs,q,ae _⟩,hd σ H p⟩
theorem for_range {lo:Int}{n:Nat}{g:TG}{tb:TS}{D:Ends}{σ:St}{H:Hp}(Pv:Nat -> St -> Hp -> Prop) (h0:Pv 0 σ H)
    (hs:∀i σ H,i<n->Pv i σ H->g (.int (lo+i)) σ H fun σ2 H2=>tb { D with nx:=Pv (i+1),ct:=Pv (i+1),bk:=D.nx } σ2 H2) (hd:∀σ H,Pv n σ H->D.nx σ H) :
    ∃W:Nat->Nat->St->Hp->Prop,(∃m,W 0 m σ H)/\∀i m σ H,W i m σ H ->
     ((Itr lo n).stop i H/\D.nx σ H)∨((Itr lo n).go i H/\∃N:St->Hp->Prop,(∀σ' H',N σ' H'->∃m',m'<m/\W (i+1) m' σ' H')/\∀x H',(Itr lo n).yld i H x H'->g x σ H' fun σ2 H2=>tb { D with nx:=N,ct:=N,bk:=D.nx } σ2 H2):=by
 refine⟨fun i m σ H=>m=n-i/\i<=n/\Pv i σ H,⟨n,by simp,a0 _,h0⟩,?_⟩
 rintro i m σ H ⟨rfl,hi,p⟩
 by_cases hlt:i<n
 ·refine .inr ⟨hlt,Pv (i+1),fun σ' H' p'=>⟨n-(i+1),by omega,rfl,hlt,p'⟩,fun x H' y=>?_⟩
  obtain⟨e,y⟩:=y
  subst e y
  exact hs i σ _ hlt p
 ·have e:i=n:=by omega
  subst e
  exact .inl ⟨ae _,hd σ H p⟩
abbrev R2:=V->V->Hp->VK->Prop
def OpR (X:Cx) (f:Value->Value->Sem Value) (r:R2):Prop :=
 ∀(pins:List (Addr × Obj)) (s:Shared) (σ:St) (H:Hp) (x y:V) (v u:Value) (Q:VK),Inv X pins σ H s->RelV x v->RelV y u->r x y H Q ->
  wpAny (model X.prog X.w) X.A (f v u) (EP X pins σ Q) X.xe s
def UnR (X:Cx) (f:Value->Sem Value) (r:V->Hp->VK->Prop):Prop :=
 ∀(pins:List (Addr × Obj)) (s:Shared) (σ:St) (H:Hp) (x:V) (v:Value) (Q:VK),Inv X pins σ H s->RelV x v->r x H Q ->
  wpAny (model X.prog X.w) X.A (f v) (EP X pins σ Q) X.xe s
def CallR (X:Cx) (f:Value) (r:List V->Hp->VK->Prop):Prop :=
 ∀(pins:List (Addr × Obj)) (s:Shared) (σ:St) (H:Hp) (xs:List V) (us:List Value) (Q:VK),Inv X pins σ H s->Vals xs us->r xs H Q ->
  wpAny (model X.prog X.w) X.A (call f us) (EP X pins σ Q) X.xe s
def tOp (r:R2) (ta tb:TE):TE:=fun σ H Q=>ta σ H fun x H1=>tb σ H1 fun y H2=>r x y H2 Q
def tUn (r:V->Hp->VK->Prop) (ta:TE):TE:=fun σ H Q=>ta σ H fun x H1=>r x H1 Q
def rI (C:Int->Int->Prop) (g:Int->Int->V):R2:=fun x y H Q=>∃i j,x=.int i/\y=.int j/\C i j/\Q (g i j) H
def rI0 (g:Int->Int->V):R2:=fun x y H Q=>∃i j,x=.int i/\y=.int j/\Q (g i j) H
def rU (g:Int->V):V->Hp->VK->Prop:=fun x H Q=>∃i,x=.int i/\Q (g i) H
section
variable {X:Cx}{a b c:Expr}{ta tb tc:TE}{pos:Pos}
theorem binT (ha:PE X a ta) (hb:PE X b tb) {pins:List (Addr × Obj)}{s:Shared}{σ:St}{H:Hp}{R:V->V->Hp->Prop}(I:Inv X pins σ H s)
    (h:ta σ H fun x H1=>tb σ H1 fun y H2=>R x y H2) {Q:Value->Shared->Prop} {f:Value->Value->Sem Value}
    (hf:∀v u s2 x y H2,Inv X pins σ H2 s2->RelV x v->RelV y u->R x y H2->wpAny (model X.prog X.w) X.A (f v u) Q X.xe s2) :
    wpAny (model X.prog X.w) X.A (eval a X.env) (fun v s₁=>wpAny (model X.prog X.w) X.A (eval b X.env) (fun u s₂=>wpAny (model X.prog X.w) X.A (f v u) Q X.xe s₂) X.xe s₁) X.xe s:=by
 refine thn (ha pins s σ H _ I h) fun v s1 ⟨x,H1,I1,r1,q1⟩=>?_
 refine thn (hb pins s1 σ H1 _ I1 q1) fun u s2 ⟨y,H2,I2,r2,q2⟩=>?_
 exact hf v u s2 x y H2 I2 r1 r2 q2
theorem pe_op {op:Operator}{r:R2}(ho:OpR X (binaryOp op) r) (ha:PE X a ta) (hb:PE X b tb):PE X (.BinOp a op b pos) (tOp r ta tb):=by
 intro pins s σ H Q I h
 exact wpAny_BinOp (binT ha hb I h fun v u s2 x y H2 I2 rx ry q=>ho pins s2 σ H2 x y v u Q I2 rx ry q)
theorem pe_un {op:UnaryOp}{r:V->Hp->VK->Prop}(ho:UnR X (unaryOp op) r) (ha:PE X a ta):PE X (.UnaryOp op a pos) (tUn r ta):=by
 intro pins s σ H Q I h
 exact UnaryOp_ (thn (ha pins s σ H _ I h) fun v s1 ⟨x,H1,I1,r1,q1⟩=>ho pins s1 σ H1 x v Q I1 r1 q1)
theorem opI {f:Value->Value->Sem Value}{C:Int->Int->Prop}{g:Int->Int->Int}
    (rule:∀(i j:Int) (t u:Tok) (s:Shared) (Q:Value->Shared->Prop) (E:Value->Shared->Prop),C i j->Q (.int (g i j) s.toks) { s with toks:=s.toks+1 }->wpAny (model X.prog X.w) X.A (f (.int i t) (.int j u)) Q E s) :
    OpR X f (rI C fun i j=>.int (g i j)):=by
 intro pins s σ H x y v u Q I rx ry h
 obtain⟨i,j,rfl,rfl,hc,q⟩:=h
 obtain⟨t,rfl⟩:=rx
 obtain⟨t',rfl⟩:=ry
 exact rule i j t t' s _ _ hc ⟨.int (g i j),H,I.tok _,⟨_,rfl⟩,q⟩
theorem opI0 {f:Value->Value->Sem Value}{g:Int->Int->Int}
    (rule:∀(i j:Int) (t u:Tok) (s:Shared) (Q:Value->Shared->Prop) (E:Value->Shared->Prop),Q (.int (g i j) s.toks) { s with toks:=s.toks+1 }->wpAny (model X.prog X.w) X.A (f (.int i t) (.int j u)) Q E s) :
    OpR X f (rI0 fun i j=>.int (g i j)):=by
 intro pins s σ H x y v u Q I rx ry h
 obtain⟨i,j,rfl,rfl,q⟩:=h
 obtain⟨t,rfl⟩:=rx
 obtain⟨t',rfl⟩:=ry
 exact rule i j t t' s _ _ ⟨.int (g i j),H,I.tok _,⟨_,rfl⟩,q⟩
theorem opB0 {f:Value->Value->Sem Value}{g:Int->Int->Bool}
    (rule:∀(i j:Int) (t u:Tok) (s:Shared) (Q:Value->Shared->Prop) (E:Value->Shared->Prop),Q (.bool (g i j)) s->wpAny (model X.prog X.w) X.A (f (.int i t) (.int j u)) Q E s) :
    OpR X f (rI0 fun i j=>.bl (g i j)):=by
 intro pins s σ H x y v u Q I rx ry h
 obtain⟨i,j,rfl,rfl,q⟩:=h
 obtain⟨t,rfl⟩:=rx
 obtain⟨t',rfl⟩:=ry
 exact rule i j t t' s _ _ ⟨.bl (g i j),H,I,rfl,q⟩
def CDiv (i j:Int):Prop:=0<j/\j<1073741824
def CPow (i j:Int):Prop:=0<=j/\j<=1000000/\i.natAbs<2 ^ 64
def CMul (i j:Int):Prop:=(-(2 ^ 64)<i/\i<2 ^ 64)∨(-(2 ^ 64)<j/\j<2 ^ 64)
theorem CMul.ok {i j:Int}(h:CMul i j):IntMulOk i j:=by
 rcases h with⟨h1,h2⟩ | ⟨h1,h2⟩
 ·exact .of_left (intBits_le_64 h1 h2)
 ·exact .of_right (intBits_le_64 h1 h2)
theorem op_add:OpR X (binaryOp .Add) (rI0 fun i j=>.int (i+j)):=opI0 fun _ _ _ _ _ _ _ q=>add_int q
theorem op_sub:OpR X (binaryOp .Sub) (rI0 fun i j=>.int (i-j)):=opI0 fun _ _ _ _ _ _ _ q=>sub_int q
theorem op_mul:OpR X (binaryOp .Mult) (rI CMul fun i j=>.int (i * j)):=opI fun _ _ _ _ _ _ _ hc q=>mul_int q hc.ok
theorem op_fdiv:OpR X (binaryOp .FloorDiv) (rI CDiv fun i j=>.int (i / j)):=opI fun i j _ _ _ _ _ hc q=>by
 have h1:(0:Int)<j:=hc.1
 have h2:j<1073741824:=hc.2
 exact floordiv_int (by omega) (by rw[Int.fdiv_eq_ediv_of_nonneg i (by omega)];exact q) (.inl (PyProof.noPylong_small (by omega)))
theorem op_mod:OpR X (binaryOp .Mod) (rI (fun _ j=>0<j) fun i j=>.int (i % j)):=opI fun i j _ _ _ _ _ hc q=>by
 have h1:(0:Int)<j:=hc
 exact mod_int' (by omega) (by rw[Int.fmod_eq_emod_of_nonneg i (by omega)];exact q)
theorem op_pow:OpR X (binaryOp .Pow) (rI CPow fun i j=>.int (i ^ j.toNat)):=opI fun _ _ _ _ _ _ _ hc q=>pow_int_small hc.1 hc.2.1 hc.2.2 q
theorem unI {f:Value->Sem Value}{g:Int->Int}
    (rule:∀(i:Int) (t:Tok) (s:Shared) (Q:Value->Shared->Prop) (E:Value->Shared->Prop),Q (.int (g i) s.toks) { s with toks:=s.toks+1 }->wpAny (model X.prog X.w) X.A (f (.int i t)) Q E s) :
    UnR X f (rU fun i=>.int (g i)):=by
 intro pins s σ H x v Q I rx h
 obtain⟨i,rfl,q⟩:=h
 obtain⟨t,rfl⟩:=rx
 exact rule i t s _ _ ⟨.int (g i),H,I.tok _,⟨_,rfl⟩,q⟩
theorem un_neg:UnR X (unaryOp .USub) (rU fun i=>.int (-i)):=unI fun _ _ _ _ _ q=>neg_int q
end
def scal:V->V->Bool
 | .non,.non=>true | .non,.int _=>true | .int _,.non=>true | .non,.bl _=>true | .bl _,.non=>true | .non,.str _=>true | .str _,.non=>true
 | .int _,.int _=>true | .bl _,.bl _=>true | .str _,.str _=>true | .byt _,.byt _=>true
 | .int _,.str _=>true | .str _,.int _=>true | .bl _,.str _=>true | .str _,.bl _=>true
 | _,_=>false
def rEq:R2:=fun x y H Q=>scal x y=true/\Q (.bl (decide (x=y))) H
def rNe:R2:=fun x y H Q=>scal x y=true/\Q (.bl (!decide (x=y))) H
theorem dec_int {i j:Int}:decide (V.int i=V.int j)=(i==j):=by
 rw[aO]
 simp
theorem dec_bl {i j:Bool}:decide (V.bl i=V.bl j)=(i==j):=by
 rw[aO]
 simp
theorem dec_str {i j:Str}:decide (V.str i=V.str j)=(i==j):=by
 rw[aO]
 simp
theorem dec_byt {i j:Array UInt8}:decide (V.byt i=V.byt j)=(i.toList==j.toList):=by
 rw[aO]
 cases i
 cases j
 simp
section
variable {X:Cx}{a b c:Expr}{ta tb tc:TE}{pos:Pos}
theorem fin_bl {pins:List (Addr × Obj)}{σ:St}{H:Hp}{s:Shared}{Q:VK}{k k':Bool}(I:Inv X pins σ H s) (q:Q (.bl k) H) (e:k=k'):EP X pins σ Q (.bool k') s:=by
 subst e
 exact⟨.bl k,H,I,rfl,q⟩
theorem op_eq:OpR X (compareOp .Eq) rEq:=by
 intro pins s σ H x y v u Q I rx ry h
 obtain⟨hs,q⟩:=h
 cases x with
 | non =>
  cases rx
  cases y with
  | non=>cases ry;exact PySem.EqNone.eq_none_none (fin_bl I q (by simp))
  | bl j=>cases ry;exact PySem.EqNone.eq_none_bool (fin_bl I q (by simp))
  | int j=>obtain⟨t',rfl⟩:=ry;exact PySem.EqNone.eq_none_int (fin_bl I q (by simp))
  | str j=>obtain⟨t',rfl⟩:=ry;exact PySem.EqNone.eq_none_str (fin_bl I q (by simp))
  | _=>exact absurd (show false=true from hs) aL
 | bl i =>
  cases rx
  cases y with
  | non=>cases ry;exact PySem.EqNone.eq_bool_none (fin_bl I q (by simp))
  | bl j=>cases ry;exact eq_bool (fin_bl I q dec_bl)
  | str j=>obtain⟨t',rfl⟩:=ry;exact PySem.EqMixed.eq_bool_str (fin_bl I q (by simp))
  | _=>exact absurd (show false=true from hs) aL
 | int i =>
  obtain⟨t,rfl⟩:=rx
  cases y with
  | non=>cases ry;exact PySem.EqNone.eq_int_none (fin_bl I q (by simp))
  | int j=>obtain⟨t',rfl⟩:=ry;exact eq_int (fin_bl I q dec_int)
  | str j=>obtain⟨t',rfl⟩:=ry;exact PySem.EqMixed.eq_int_str (fin_bl I q (by simp))
  | _=>exact absurd (show false=true from hs) aL
 | str i =>
  obtain⟨t,rfl⟩:=rx
  cases y with
  | non=>cases ry;exact PySem.EqNone.eq_str_none (fin_bl I q (by simp))
  | bl j=>cases ry;exact PySem.EqMixed.eq_str_bool (fin_bl I q (by simp))
  | int j=>obtain⟨t',rfl⟩:=ry;exact PySem.EqMixed.eq_str_int (fin_bl I q (by simp))
  | str j=>obtain⟨t',rfl⟩:=ry;exact eq_str (fin_bl I q dec_str)
  | _=>exact absurd (show false=true from hs) aL
 | byt i =>
  obtain⟨t,rfl⟩:=rx
  cases y with
  | byt j=>obtain⟨t',rfl⟩:=ry;exact W.eq_bytes (fin_bl I q dec_byt)
  | _=>exact absurd (show false=true from hs) aL
 | _=>cases y <;> exact absurd (show false=true from hs) aL
theorem op_ne:OpR X (compareOp .NotEq) rNe:=by
 intro pins s σ H x y v u Q I rx ry h
 obtain⟨hs,q⟩:=h
 cases x with
 | non =>
  cases rx
  cases y with
  | non=>cases ry;exact PySem.EqNone.ne_none_none (fin_bl I q (by simp))
  | bl j=>cases ry;exact PySem.EqNone.ne_none_bool (fin_bl I q (by simp))
  | int j=>obtain⟨t',rfl⟩:=ry;exact PySem.EqNone.ne_none_int (fin_bl I q (by simp))
  | str j=>obtain⟨t',rfl⟩:=ry;exact PySem.EqNone.ne_none_str (fin_bl I q (by simp))
  | _=>exact absurd (show false=true from hs) aL
 | bl i =>
  cases rx
  cases y with
  | non=>cases ry;exact PySem.EqNone.ne_bool_none (fin_bl I q (by simp))
  | bl j=>cases ry;exact ne_bool (fin_bl I q (congrArg not dec_bl))
  | str j=>obtain⟨t',rfl⟩:=ry;exact PySem.EqMixed.ne_bool_str (fin_bl I q (by simp))
  | _=>exact absurd (show false=true from hs) aL
 | int i =>
  obtain⟨t,rfl⟩:=rx
  cases y with
  | non=>cases ry;exact PySem.EqNone.ne_int_none (fin_bl I q (by simp))
  | int j=>obtain⟨t',rfl⟩:=ry;exact ne_int (fin_bl I q (congrArg not dec_int))
  | str j=>obtain⟨t',rfl⟩:=ry;exact PySem.EqMixed.ne_int_str (fin_bl I q (by simp))
  | _=>exact absurd (show false=true from hs) aL
 | str i =>
  obtain⟨t,rfl⟩:=rx
  cases y with
  | non=>cases ry;exact PySem.EqNone.ne_str_none (fin_bl I q (by simp))
  | bl j=>cases ry;exact PySem.EqMixed.ne_str_bool (fin_bl I q (by simp))
  | int j=>obtain⟨t',rfl⟩:=ry;exact PySem.EqMixed.ne_str_int (fin_bl I q (by simp))
  | str j=>obtain⟨t',rfl⟩:=ry;exact ne_str (fin_bl I q (congrArg not dec_str))
  | _=>exact absurd (show false=true from hs) aL
 | byt i =>
  obtain⟨t,rfl⟩:=rx
  cases y with
  | byt j=>obtain⟨t',rfl⟩:=ry;exact W.ne_bytes (fin_bl I q (congrArg not dec_byt))
  | _=>exact absurd (show false=true from hs) aL
 | _=>cases y <;> exact absurd (show false=true from hs) aL
theorem op_lt:OpR X (compareOp .Lt) (rI0 fun i j=>.bl (decide (i<j))):=opB0 fun _ _ _ _ _ _ _ q=>lt_int q
theorem op_le:OpR X (compareOp .LtE) (rI0 fun i j=>.bl (decide (i<=j))):=opB0 fun _ _ _ _ _ _ _ q=>le_int q
theorem op_gt:OpR X (compareOp .Gt) (rI0 fun i j=>.bl (decide (j<i))):=opB0 fun _ _ _ _ _ _ _ q=>gt_int q
theorem op_ge:OpR X (compareOp .GtE) (rI0 fun i j=>.bl (decide (j<=i))):=opB0 fun _ _ _ _ _ _ _ q=>ge_int q
theorem op_lt_str:OpR X (compareOp .Lt) (fun x y H Q=>∃i j,x=.str i/\y=.str j/\Q (.bl (decide (i.cps.toList<j.cps.toList))) H):=by
 intro pins s σ H x y v u Q I rx ry h
 obtain⟨i,j,rfl,rfl,q⟩:=h
 obtain⟨t,rfl⟩:=rx
 obtain⟨t',rfl⟩:=ry
 exact lt_str (fin_bl I q rfl)
theorem op_isN:OpR X (compareOp .Is) (fun x y H Q=>y=.non/\Q (.bl (decide (x=.non))) H):=by
 intro pins s σ H x y v u Q I rx ry h
 obtain⟨rfl,q⟩:=h
 cases ry
 refine is_none_gen (fin_bl I q ?_)
 cases x <;> first
  | (cases rx;rfl)
  | (obtain⟨t,rfl⟩:=rx;rfl)
theorem op_notN:OpR X (compareOp .IsNot) (fun x y H Q=>y=.non/\Q (.bl (!decide (x=.non))) H):=by
 intro pins s σ H x y v u Q I rx ry h
 obtain⟨rfl,q⟩:=h
 cases ry
 refine isnot_none_gen (fin_bl I q ?_)
 cases x <;> first
  | (cases rx;rfl)
  | (obtain⟨t,rfl⟩:=rx;rfl)
theorem nomark (b:Expr) {op:CmpOp}(h:op≠.In:=by decide) (h2:op≠.NotIn:=by decide):behindInMarks op b=false:=by
 have e1:(op==CmpOp.In)=false:=by cases op <;> first | rfl | exact absurd rfl h
 have e2:(op==CmpOp.NotIn)=false:=by cases op <;> first | rfl | exact absurd rfl h2
 cases b <;> simp[behindInMarks,e1,e2]
theorem pe_cmpR {op:CmpOp}{r:R2}(ho:OpR X (compareOp op) r) (ha:PE X a ta) (hb:PE X b tb) (hm:behindInMarks op b=false):PE X (.Compare a [op] [b] pos) (tOp r ta tb):=by
 intro pins s σ H Q I h
 exact wpAny_Compare1 (binT ha hb I h fun v u s2 x y H2 I2 rx ry q=>ho pins s2 σ H2 x y v u Q I2 rx ry q) hm
def tTest (t:TE):TT:=fun σ H Q=>t σ H fun x H'=>∃k,x=.bl k/\Q k H'
theorem pt_cmpR {op:CmpOp}{r:R2}(ho:OpR X (compareOp op) r) (ha:PE X a ta) (hb:PE X b tb) (hm:behindInMarks op b=false):PT X (.Compare a [op] [b] pos) (tTest (tOp r ta tb)):=by
 intro pins s σ H Q I h
 refine wpAny_isTrue_Compare1 (thn (ha pins s σ H _ I h) fun v s1 ⟨x,H1,I1,r1,q1⟩=>thn (hb pins s1 σ H1 _ I1 q1) fun u s2 ⟨y,H2,I2,r2,q2⟩ =>
  thn (ho pins s2 σ H2 x y v u _ I2 r1 r2 q2) fun c s3 ⟨z,H3,I3,r3,k,e,q3⟩=>?_) hm
 subst e
 cases r3
 exact wpAny_truthy_bool ⟨H3,I3,q3⟩
def tChain (r r':R2) (ta tb tc:TE):TE:=fun σ H Q=>ta σ H fun x H1=>tb σ H1 fun y H2=>r x y H2 fun z H3=>∃k,z=.bl k /\
 (if k=true then tc σ H3 fun w' H4=>r' y w' H4 Q else Q (.bl false) H3)
theorem pe_chain {op op':CmpOp}{r r':R2}(ho:OpR X (compareOp op) r) (ho':OpR X (compareOp op') r') (ha:PE X a ta) (hb:PE X b tb) (hc:PE X c tc)
    (hm:lastMarks [op,op'] [b,c]=false:=by with_unfolding_all rfl):PE X (.Compare a [op,op'] [b,c] pos) (tChain r r' ta tb tc):=by
 intro pins s σ H Q I h
 refine Compare_chain (thn (ha pins s σ H _ I h) fun v s1 ⟨x,H1,I1,r1,q1⟩=>chain_link (thn (hb pins s1 σ H1 _ I1 q1) fun u s2 ⟨y,H2,I2,r2,q2⟩ =>
  thn (ho pins s2 σ H2 x y v u _ I2 r1 r2 q2) fun d s3 ⟨z,H3,I3,r3,k,e,q3⟩=>?_)) hm
 subst e
 cases r3
 refine wpAny_truthy_bool ?_
 cases k with
 | false=>exact ite_ff ⟨.bl false,H3,I3,rfl,q3⟩
 | true=>exact ite_tt (chain_last (thn (hc pins s3 σ H3 _ I3 q3) fun w' s4 ⟨z',H4,I4,r4,q4⟩=>ho' pins s4 σ H4 y z' u w' Q I4 r2 r4 q4))
theorem line63:(sizeLine:Nat)<2 ^ 63:=by rw[sizeLine_eq];decide
theorem op_add_str:OpR X (binaryOp .Add) (fun x y H Q=>∃i j,x=.str i/\y=.str j/\i.length+j.length<=sizeLine/\Q (.str (i++j)) H):=by
 intro pins s σ H x y v u Q I rx ry h
 obtain⟨i,j,rfl,rfl,hz,q⟩:=h
 obtain⟨t,rfl⟩:=rx
 obtain⟨t',rfl⟩:=ry
 exact add_str (fun t' tk=>⟨.str (i++j),H,I.tok _,⟨_,rfl⟩,q⟩) hz
theorem vals1 {x:V}{us:List Value}(r:Vals [x] us):∃u,us=[u]/\RelV x u:=by
 cases r with
 | cons r1 r2=>cases r2;exact⟨_,rfl,r1⟩
theorem vals2 {x y:V}{us:List Value}(r:Vals [x,y] us):∃u w',us=[u,w']/\RelV x u/\RelV y w':=by
 cases r with
 | cons r1 r2 =>
  cases r2 with
  | cons r3 r4=>cases r4;exact⟨_,_,rfl,r1,r3⟩
theorem call_abs:CallR X (.builtin "abs") (fun xs H Q=>∃i,xs=[.int i]/\Q (.int (if i<0 then -i else i)) H):=by
 intro pins s σ H xs us Q I r h
 obtain⟨i,rfl,q⟩:=h
 obtain⟨u,rfl,t,rfl⟩:=vals1 r
 exact call_abs_int fun u tk=>⟨.int (if i<0 then -i else i),H,I.tok _,⟨_,rfl⟩,q⟩
theorem call_max2 (hc:X.calm=true):CallR X (.builtin "max") (fun xs H Q=>∃i j,xs=[.int i,.int j]/\Q (.int (if j > i then j else i)) H):=by
 intro pins s σ H xs us Q I r h
 obtain⟨i,j,rfl,q⟩:=h
 obtain⟨u,w',rfl,⟨t,rfl⟩,⟨t',rfl⟩⟩:=vals2 r
 refine max_two_ints (I.ok.hd hc) fun h' tk k=>⟨_,H,I.kept k,?_,q⟩
 by_cases hj:j > i
 ·rw[if_pos hj,if_pos hj];exact⟨_,rfl⟩
 ·rw[if_neg hj,if_neg hj];exact⟨_,rfl⟩
theorem call_min2 (hc:X.calm=true):CallR X (.builtin "min") (fun xs H Q=>∃i j,xs=[.int i,.int j]/\Q (.int (if j<i then j else i)) H):=by
 intro pins s σ H xs us Q I r h
 obtain⟨i,j,rfl,q⟩:=h
 obtain⟨u,w',rfl,⟨t,rfl⟩,⟨t',rfl⟩⟩:=vals2 r
 refine min_two_ints (I.ok.hd hc) fun h' tk k=>⟨_,H,I.kept k,?_,q⟩
 by_cases hj:j<i
 ·rw[if_pos hj,if_pos hj];exact⟨_,rfl⟩
 ·rw[if_neg hj,if_neg hj];exact⟨_,rfl⟩
theorem call_int1:CallR X (.type "int") (fun xs H Q=>(∃i,xs=[.int i]/\Q (.int i) H)∨∃k,xs=[.bl k]/\Q (.int (if k then 1 else 0)) H):=by
 intro pins s σ H xs us Q I r h
 rcases h with⟨i,rfl,q⟩ | ⟨k,rfl,q⟩
 ·obtain⟨u,rfl,t,rfl⟩:=vals1 r
  exact call_int_int ⟨.int i,H,I,⟨_,rfl⟩,q⟩
 ·obtain⟨u,rfl,r1⟩:=vals1 r
  cases r1
  exact call_int_bool ⟨.int (if k then 1 else 0),H,I.tok _,⟨_,rfl⟩,q⟩
def LenV (K:W.Frag) (x:V) (H:Hp) (n:Nat):Prop :=
 match x with
 | .str y=>y.length<=sizeLine/\n=y.length
 | .byt y=>y.size<=sizeLine/\n=y.size
 | .ref p=>(∃xs,SqL K H p xs/\n=xs.length)∨∃xs,SqT K H p xs/\n=xs.length
 | _=>False
theorem call_len:CallR X (.builtin "len") (fun xs H Q => ∃x n, xs=[x] /\ LenV X.K x H n /\ Q (.int n) H) := by
 intro pins s σ H xs us Q I r h
 obtain⟨x,n,rfl,e,q⟩:=h
 obtain⟨u,rfl,rx⟩:=vals1 r
 have hl:=line63
 have hs:sizeLine=16777216:=sizeLine_eq
 cases x with
 | str y =>
  obtain⟨t,rfl⟩:=rx
  obtain⟨hy,e'⟩:y.length<=sizeLine/\n=y.length:=e
  subst e'
  exact len_str (by omega) ⟨.int _,H,I.tok _,⟨_,rfl⟩,q⟩
 | byt y =>
  obtain⟨t,rfl⟩:=rx
  obtain⟨hy,e'⟩:y.size<=sizeLine/\n=y.size:=e
  subst e'
  exact W.len_bytes (by omega) ⟨.int _,H,I.tok _,⟨_,rfl⟩,q⟩
 | ref p =>
  cases rx
  have e':(∃xs,SqL X.K H p xs/\n=xs.length)∨∃xs,SqT X.K H p xs/\n=xs.length:=e
  rcases e' with⟨xs,hx,e'⟩ | ⟨xs,hx,e'⟩
  ·subst e'
   obtain⟨its,r',pl,hz⟩:=I.list hx
   have hlen:=r'.length
   exact Calls.call_len_list pl.isList (by simp only[aE];omega) ⟨.int xs.length,H,I.tok _,⟨_,by simp only[aE];rw[hlen]⟩,q⟩
  ·subst e'
   obtain⟨its,r',pl,hz⟩:=I.tuple hx
   have hlen:=r'.length
   exact len_tuple pl (by simp only[aE];omega) ⟨.int xs.length,H,I.tok _,⟨_,by simp only[aE];rw[hlen]⟩,q⟩
 | _=>exact(show False from e).elim
end
structure ObjM (h:Heap) (x dx C:Addr) (mA:Str->Option Value):Prop where
 obj:h.get? x=some (W.instObj C dx)
 ns:h.Ns1 dx mA
 ne:dx≠x
theorem lookIn_ns {h:Heap}{dx:Addr}{mA:Str -> Option Value}(n:h.Ns1 dx mA):∃od, h.get? dx=some od /\ ∀name, W.lookIn name od=some (mA name) := by
 obtain⟨o,es,ep,ho,hd,hk,_,hm⟩:=n
 refine⟨o,ho,fun name=>?_⟩
 have e:=hm name
 unfold nsFind findBy at e
 rw[<- Array.find?_toList] at e
 unfold W.lookIn
 rw[hd]
 dsimp only
 split
 ·rename_i y q
  rw[q] at e
  exact congrArg some e
 ·rename_i q
  rw[q] at e
  have a:es.toList.any (·.refKey)=false:=by
   rw[List.any_eq_false]
   intro y hy
   obtain⟨z,t,hkey⟩:=hk y (Array.mem_toList_iff.mp hy)
   simp[DictEntry.refKey,hkey]
  have a':¬ es.toList.any (·.refKey)=true:=by rw[a];exact aL
  rw[if_neg a']
  exact congrArg some e
theorem ObjM.look {h:Heap}{x dx C:Addr}{mA:Str->Option Value}(I:ObjM h x dx C mA):∃od,W.InstAt h x (W.instObj C dx) C (some od)/\∀name,W.lookIn name od=some (mA name) :=
 let ⟨od,ho,hl⟩:=lookIn_ns I.ns
 ⟨od,⟨I.obj,rfl,rfl,ho⟩,hl⟩
theorem RelO.some_of {v:V}{o:Option Value}(r:RelO (some v) o):∃u,o=some u/\RelV v u:=by
 cases o with
 | none=>exact(show False from r).elim
 | some u=>exact⟨u,rfl,r⟩
theorem handed_of {v:V}{u:Value}(r:RelV v u):W.handedIn u=true:=by
 cases v with
 | non=>cases (show u=Value.none from r);rfl
 | bl b=>cases (show u=Value.bool b from r);rfl
 | int i=>obtain⟨t,e⟩:=(show ∃t,u=Value.int i t from r);cases e;rfl
 | str x=>obtain⟨t,e⟩:=(show ∃t,u=Value.str x t from r);cases e;rfl
 | byt b=>obtain⟨t,e⟩:=(show ∃t,u=Value.bytes b t from r);cases e;rfl
 | flt b=>obtain⟨t,e⟩:=(show ∃t,u=Value.float b t from r);cases e;rfl
 | ref a=>cases (show u=Value.ref a from r);rfl
 | ty n=>cases (show u=Value.type n from r);rfl
section
variable {P:Program}{w:World}{H H':Hp}{h h':Heap}{a C dx:Addr}{fs fs':List (Str × V)}
theorem ins_get (hok:HOk P w H h) (e:H a=some (.ins C dx fs)):∃mA,ObjM h a dx C mA/\(∀f,RelO (fs.lookup f) (mA f))/\PySem.Within mA (fs.map (·.1))/\fs.length<=1000/\H dx=some (.own a):=by
 obtain⟨d,z,ne,ob,mA,n,r,q⟩:=(show ObjOk P w H h a (.ins C dx fs) from hok a _ e)
 exact⟨mA,⟨ob,n,ne⟩,r,q,z,d⟩
end
structure Cls (K:W.Frag) (C:Addr):Prop where
 pg:W.plainGet K C Str.empty=true
 hd:W.hasDictIn K C=true
 po:W.plainOver K C=true
 sa:W.findIn K (.ref C) "__setattr__"=some (some (.builtin "object.__setattr__"))
theorem Cls.get {K:W.Frag}{C:Addr}(c:Cls K C) (f:Str):W.plainGet K C f=true:=c.pg
section
variable {X:Cx}{pins:List (Addr × Obj)}{σ:St}{H:Hp}{s:Shared}{a C dx:Addr}{fs:List (Str × V)}{f:Str}{v:V}{A:Around}{E:Value->Shared->Prop}
theorem attr_of {prog:Program}{w:World}{env:Env}{e:Expr}{f:Str}{pos:Pos}{s:Shared}{Q:Value->Shared->Prop}(hb:attributeBase e f env (eval e env)=eval e env)
    (h:wpAny (model prog w) A (eval e env) (fun o s₁=>wpAny (model prog w) A (getAttr o f true) Q E s₁) E s):wpAny (model prog w) A (eval (.Attribute e f pos) env) Q E s :=
 Attribute_any_ h (by rw[arm_eval_Attribute,hb])
end
section
variable {X:Cx}{pins:List (Addr × Obj)}{σ:St}{H:Hp}{s:Shared}{A:Around}{E:Value->Shared->Prop}{Q:Value->Shared->Prop}{c:Value}{b:Bool}
inductive TyOf (K:W.Frag) (H:Hp):V -> Value -> Prop where
 | non:TyOf K H .non (.type "NoneType")
 | bl (x:Bool):TyOf K H (.bl x) (.type "bool")
 | int (i:Int):TyOf K H (.int i) (.type "int")
 | str (x:Str):TyOf K H (.str x) (.type "str")
 | flt (x:UInt64):TyOf K H (.flt x) (.type "float")
 | lst {a:Addr} {xs:List V} (e:H a=some (.lst xs)):TyOf K H (.ref a) (.type "list")
 | frz {a:Addr} {o:Obj} {xs:List V} (e:H a=some (.frz o (.lst xs))):TyOf K H (.ref a) (.type "list")
 | tup {a:Addr} {xs:List V} (e:H a=some (.tup xs)):TyOf K H (.ref a) (.type "tuple")
 | dK {a:Addr} {kvs:List (Key × V)} (e:H a=some (.dK kvs)):TyOf K H (.ref a) (.type "dict")
 | dT {a:Addr} {kvs:List (List Key × V)} (e:H a=some (.dT kvs)):TyOf K H (.ref a) (.type "dict")
 | ins {a C dx:Addr} {fs:List (Str × V)} (e:H a=some (.ins C dx fs)) (cl:Cls K C) (ha:W.findIn K (.ref C) "__class__"=some (some (.builtin "object.__class__")))
     (hn:W.specialIn K (.builtin "object.__class__") "__get__"=some (some (.builtin "getset_descriptor.__get__"))) (htk:W.takesIn K (.builtin "object.__class__")=some true)
     (hm:W.mroIn K C (.type "object")=some true):TyOf K H (.ref a) (.ref C)
theorem isinst_ok {x:V}{u t:Value}(I:Inv X pins σ H s) (rx:RelV x u) (ty:TyOf X.K H x t) (e:W.kitOne X.K t c=some b) (h:∀tk,Q (.bool b) { s with toks:=tk }) :
    wpAny (model X.prog X.w) A (call (.builtin "isinstance") [u,c]) Q E s:=by
 cases ty with
 | non=>cases (show u=Value.none from rx);exact W.kia_one W.kitx_none I.kIn True.intro e (fun z=>nomatch z) h
 | bl y=>cases (show u=Value.bool y from rx);exact W.kia_one W.kitx_bool I.kIn True.intro e (fun z=>nomatch z) h
 | int i=>obtain⟨t,q⟩:=(show ∃t,u=Value.int i t from rx);cases q;exact W.kia_one W.kitx_int I.kIn True.intro e (fun z=>nomatch z) h
 | str y=>obtain⟨t,q⟩:=(show ∃t,u=Value.str y t from rx);cases q;exact W.kia_one W.kitx_str I.kIn True.intro e (fun z=>nomatch z) h
 | flt y=>obtain⟨t,q⟩:=(show ∃t,u=Value.float y t from rx);cases q;exact W.kia_one W.kitx_float I.kIn True.intro e (fun z=>nomatch z) h
 | @lst a xs ea =>
  cases (show u=Value.ref a from rx)
  obtain⟨_,_,n,_,h1⟩:=(show ObjOk X.prog X.w H s.heap a (.lst xs) from I.hok a _ ea)
  exact W.kia_one W.kitx_list I.kIn ⟨_,h1,rfl⟩ e (fun z=>nomatch z) h
 | @frz a ob xs ea =>
  cases (show u=Value.ref a from rx)
  obtain⟨_,_,_,n,_,h1⟩:=(show ObjOk X.prog X.w H s.heap a (.frz ob (.lst xs)) from I.hok a _ ea)
  exact W.kia_one W.kitx_list I.kIn ⟨_,h1,rfl⟩ e (fun z=>nomatch z) h
 | @tup a xs ea =>
  cases (show u=Value.ref a from rx)
  obtain⟨_,_,_,p⟩:=(show ObjOk X.prog X.w H s.heap a (.tup xs) from I.hok a _ ea)
  obtain⟨o,h1,h2,_⟩:=p
  exact W.kia_one W.kitx_tuple I.kIn ⟨o,h1,h2⟩ e (fun z=>nomatch z) h
 | @dK a kvs ea =>
  cases (show u=Value.ref a from rx)
  obtain⟨_,_,vs,_,p⟩:=(show ObjOk X.prog X.w H s.heap a (.dK kvs) from I.hok a _ ea)
  obtain⟨o,es,ep,h1,h2,_⟩:=p
  exact W.kia_one W.kitx_dict I.kIn ⟨o,h1,h2.1⟩ e (fun z=>nomatch z) h
 | @dT a kvs ea =>
  cases (show u=Value.ref a from rx)
  obtain⟨_,_,xs,_,o,es,ep,h1,h2,_⟩:=(show ObjOk X.prog X.w H s.heap a (.dT kvs) from I.hok a _ ea)
  exact W.kia_one W.kitx_dict I.kIn ⟨o,h1,h2.1⟩ e (fun z=>nomatch z) h
 | @ins a C dx fs ea cl ha hn htk hm =>
  cases (show u=Value.ref a from rx)
  obtain⟨mA,O,_⟩:=ins_get I.hok ea
  obtain⟨od,J,_⟩:=O.look
  exact W.kia_one (W.kitx_own (cl.get _) cl.hd ha hn htk hm) I.kIn J e (fun z=>nomatch z) h
end
structure Room (k:Nat) (A:Around):Prop where
 hd:A.handled=none
 dp:A.depth+3 * k+5<recursionLimit
 un:A.units+16 * k+200<cLine
 gd:A.guards=some []
theorem Room.mono {j k:Nat}{A:Around}(r:Room k A) (h:j<=k):Room j A:=⟨r.hd,by have:=r.dp;omega,by have:=r.un;omega,r.gd⟩
theorem Room.deeper {k:Nat}{A:Around}(r:Room (k+1) A) (env:Env):Room k (A.deeper env) :=
 ⟨r.hd,by have:=r.dp;show A.depth+1+3 * k+5<_;omega,by have:=r.un;show A.units+3+16 * k+200<_;omega,r.gd⟩
theorem make_depth {A:Around}{C:Addr}{us:List Value}{kw:List (Str × Value)}:(A.under (.builtin "type.__call__" ⟨.ref C::us,kw⟩)).depth=A.depth+1:=by
 first | rfl | simp[Around.under,Code.weight,Code.isCreation,Code.isGuard,Code.isCaller,Code.frames,Code.isFrame,guardIds]
theorem make_units {A:Around}{C:Addr}{us:List Value}{kw:List (Str × Value)}:(A.under (.builtin "type.__call__" ⟨.ref C::us,kw⟩)).units=A.units+1:=by
 first | rfl | simp[Around.under,Code.cUnits,Code.frames,Code.isFrame]
theorem Room.make {k:Nat}{A:Around}(r:Room (k+1) A) (C:Addr) (us:List Value) (kw:List (Str × Value)):Room k (A.under (.builtin "type.__call__" ⟨.ref C::us,kw⟩)) :=
 ⟨r.hd,by have:=r.dp;rw[make_depth];omega,by have:=r.un;rw[make_units];omega,by first | exact r.gd | (simp[Around.under,Code.isGuard,guardIds];exact r.gd)⟩
theorem Room.depth {k:Nat}{A:Around}(r:Room k A):A.depth<recursionLimit:=by have:=r.dp;omega
theorem Room.units {k:Nat}{A:Around}(r:Room k A):A.units+64<cLine:=by have:=r.un;omega
def tNil:TA:=fun _ H Q=>Q [] H
def tCons (ta:TE) (tr:TA):TA:=fun σ H Q=>ta σ H fun x H1=>tr σ H1 fun xs H2=>Q (x::xs) H2
section
variable {X:Cx}{e:Expr}{es:List Expr}{te:TE}{t:TA}{pos:Pos}
theorem pa_nil:PA X [] tNil:=fun _ _ _ _ H Q I h=>Calls.spliced_nil ⟨[],H,I,.nil,h⟩
theorem pa_cons (ha:PE X e te) (hr:PA X es t) (hs:starEach (e::es) X.env=(false,eval e X.env)::starEach es X.env:=by rfl):PA X (e::es) (tCons te t):=by
 intro pos pins s σ H Q I h
 rw[hs]
 show wpAny _ _ (spliced ((false,eval e X.env)::backTo pos (starEach es X.env))) _ _ s
 refine Calls.spliced_cons (thn (ha pins s σ H _ I h) fun u s1 ⟨x,H1,I1,r1,q1⟩=>?_)
 exact thn (hr pos pins s1 σ H1 _ I1 q1) fun us s2 ⟨xs,H2,I2,r2,q2⟩=>⟨x::xs,H2,I2,.cons r1 r2,q2⟩
def tTup (t:TA):TE:=fun σ H Q=>t σ H fun xs H1=>xs.length<=sizeLine/\∀p,H1 p=none->Q (.ref p) (upd H1 p (.tup xs))
def tLst (t:TA):TE:=fun σ H Q=>t σ H fun xs H1=>xs.length<=sizeLine/\∀p,H1 p=none->Q (.ref p) (upd H1 p (.lst xs))
theorem pe_tup {x1}(h:PA X es t):PE X (.Tuple es x1 pos) (tTup t):=by
 intro pins s σ H Q I hq
 refine wpAny_Tuple_spliced (thn (h pos pins s σ H _ I hq) fun us s1 ⟨xs,H1,I1,r,z,q⟩=>⟨by rw[<- r.length];exact z,?_⟩)
 have hf:H1 s1.heap.objs.size=none:=I1.hok.fresh (ae _)
 refine⟨.ref s1.heap.objs.size,upd H1 s1.heap.objs.size (.tup xs),I1.laid (t':=s1.toks) (fun b u e=>ay _ e) (ae _) ?_,rfl,q _ hf⟩
 exact⟨z,us,r,⟨_,aF _ rfl,rfl,_,rfl,rfl⟩⟩
theorem pe_lst (h:PA X es t):PE X (.List es pos) (tLst t):=by
 intro pins s σ H Q I hq
 refine wpAny_List_spliced (thn (h pos pins s σ H _ I hq) fun us s1 ⟨xs,H1,I1,r,z,q⟩=>⟨by rw[<- r.length];exact z,?_⟩)
 have hf:H1 s1.heap.objs.size=none:=I1.hok.fresh (ae _)
 refine⟨.ref s1.heap.objs.size,upd H1 s1.heap.objs.size (.lst xs),I1.laid (t':=s1.toks) (fun b u e=>ay _ e) (ae _) ?_,rfl,q _ hf⟩
 exact⟨z,us,0,r,aF _ rfl⟩
end
abbrev Sp:=List V->Hp->VK->XK->Prop
abbrev CXT:=List Env->Hp->Shared->XK->Value->Shared->Prop
structure Env0 (P:Program) (w:World) (K:W.Frag) (mg:Str->Option Value) (base:Heap) (A:Around) (outer:List Env) (s:Shared) (H:Hp):Prop where
 frames:A.frames=some outer
 mod:Mod K mg base
 bs:∀b o,base.get? b=some o->s.heap.get? b=some o/\H b=none
 bsz:base.objs.size<=s.heap.objs.size
 funs:s.heap.FunFrames base outer
 frf:∀b∈frs outer,H b=none
 hok:HOk P w H s.heap
 bare:AllBare s.gens
def CE (outer:List Env) (P:Program) (w:World) (H:Hp) (s:Shared) (Q:VK) (u:Value) (s':Shared):Prop :=
 ∃v H',s'.os=s.os/\AllBare s'.gens/\Un (frs outer) [] H H' s.heap s'.heap/\HOk P w H' s'.heap/\RelV v u/\Q v H'
def CR (CX:CXT) (outer:List Env) (P:Program) (w:World) (H:Hp) (s:Shared) (Q:VK) (E:XK) (r:Result) (s':Shared):Prop :=
 match r with
 | .ok (.ret u)=>CE outer P w H s Q u s'
 | .ok _=>False
 | .error e=>CX outer H s E e s'
structure FnOk (P:Program) (w:World) (K:W.Frag) (mg:Str->Option Value) (base:Heap) (CX:CXT) (k:Nat) (f:Addr) (fd:FuncData) (ps:List Str) (sp:Sp):Prop where
 len:∀vs H Q E,sp vs H Q E->vs.length=ps.length
 run:∀(A:Around) (outer:List Env) (s:Shared) (H:Hp) (args:Args) (us:List Value) (vs:List V) (Q:VK) (E:XK),Room k A->Env0 P w K mg base A outer s H->BindsTo s fd args (ps.zip us)->Vals vs us->sp vs H Q E ->
  codeAny (model P w) A (.call (.ref f) args) (CR CX outer P w H s Q E) s
theorem FnOk.imp {P:Program}{w:World}{K:W.Frag}{mg:Str->Option Value}{base:Heap}{CX:CXT}{k:Nat}{f:Addr}{fd:FuncData}{ps:List Str}{sp sp':Sp}(F:FnOk P w K mg base CX k f fd ps sp)
    (h:∀vs H Q E,sp' vs H Q E->sp vs H Q E):FnOk P w K mg base CX k f fd ps sp' :=
 ⟨fun vs H Q E q=>F.len vs H Q E (h _ _ _ _ q),fun A outer s H args us vs Q E hr he hb hv hs=>F.run A outer s H args us vs Q E hr he hb hv (h _ _ _ _ hs)⟩
theorem Env0.make {P:Program}{w:World}{K:W.Frag}{mg:Str->Option Value}{base:Heap}{A:Around}{outer:List Env}{s:Shared}{H:Hp}(e:Env0 P w K mg base A outer s H) (C:Addr) (us:List Value) (kw:List (Str × Value)) :
    Env0 P w K mg base (A.under (.builtin "type.__call__" ⟨.ref C::us,kw⟩)) outer s H:=⟨by first | exact e.frames | (simpa [Around.under,Code.envs,Code.isFrame,pushEnvs] using e.frames),e.mod,e.bs,e.bsz,e.funs,e.frf,e.hok,e.bare⟩
section
variable {X:Cx}{pins:List (Addr × Obj)}{σ:St}{H:Hp}{s s':Shared}
theorem Inv.env0 (I:Inv X pins σ H s):Env0 X.prog X.w X.K X.mg X.base X.A X.stack s H :=
 ⟨I.ok.frames,I.ok.mod,I.bs,aW I.ok.bsz I.sz,I.stack,I.stkFree,I.hok,I.bare⟩
theorem Inv.after {Q:VK}{u:Value}(I:Inv X pins σ H s) (h:CE X.stack X.prog X.w H s Q u s'):EP X pins σ Q u s':=by
 obtain⟨v,H',os,bare,un,hok,r,q⟩:=h
 obtain⟨hh,g,d,t,os'⟩:=s'
 obtain rfl:os'=s.os:=os
 exact⟨v,H',I.call (h':=hh) (g':=g) (d':=d) (t':=t) (ch:=[]) un hok bare (fun b z=>absurd z (by simp)),r,q⟩
end
def tCall (sp:Sp) (dvs:List V) (E:XK) (t:TA):TE:=fun σ H Q=>t σ H fun vs H1=>sp (vs++dvs) H1 Q E
def Binds (K:W.Frag) (fd:FuncData) (ps:List Str) (ds:List Value):Prop :=
 ∀(s:Shared) (us:List Value),K.In s.heap->(us++ds).length=ps.length->BindsTo s fd ⟨us,[]⟩ (ps.zip (us++ds))
theorem Binds.all {K:W.Frag}{fd:FuncData}{ps:List Str}(h:∀us:List Value,us.length=ps.length->bindArgs fd ⟨us,[]⟩=pure (ps.zip us)):Binds K fd ps []:=fun s us _ hl=>by
 rw[ba] at hl ⊢
 exact .of_eq (h us hl)
def Passes (CX:CXT) (X:Cx) (E:XK):Prop:=∀(pins:List (Addr × Obj)) (σ:St) (H:Hp) (s:Shared) (e:Value) (s':Shared),Inv X pins σ H s->CX X.stack H s E e s'->X.xe e s'
section
variable {X:Cx}{CX:CXT}{k:Nat}{f C:Addr}{fd:FuncData}{ps:List Str}{sp:Sp}{dvs:List V}{ds:List Value}{E:XK}{x m:Str}{p pos apos:Pos}{e o:Expr}{es:List Expr}{ta:TE}{t:TA}
theorem run_fn {pins:List (Addr × Obj)}{σ:St}{H:Hp}{s:Shared}{Q:VK}{us:List Value}{vs:List V}(F:FnOk X.prog X.w X.K X.mg X.base CX k f fd ps sp) (hr:Room k X.A) (hb:Binds X.K fd ps ds) (hd:Vals dvs ds) (hx:Passes CX X E)
    (I:Inv X pins σ H s) (r:Vals vs us) (h:sp (vs++dvs) H Q E):wpAny (model X.prog X.w) X.A (call (.ref f) us) (EP X pins σ Q) X.xe s:=by
 have r2:Vals (vs++dvs) (us++ds):=r.append hd
 have hl:(us++ds).length=ps.length:=by rw[<- r2.length];exact F.len _ _ _ _ h
 refine wpAny_call (codeAny_mono (F.run X.A X.stack s H ⟨us,[]⟩ (us++ds) (vs++dvs) Q E hr I.env0 (hb s us I.kIn hl) r2 h) fun r s' hq=>?_)
 cases r with
 | error e=>exact hx pins σ H s e s' I hq
 | ok fl =>
  cases fl with
  | ret u=>exact I.after hq
  | next=>exact False.elim hq
  | brk=>exact False.elim hq
  | cont=>exact False.elim hq
theorem pe_call (F:FnOk X.prog X.w X.K X.mg X.base CX k f fd ps sp) (hr:Room k X.A) (hg:Gl X x) (hm:X.mg x=some (.ref f)) (hk:W.keepIn X.K (.ref f)=true) (hb:Binds X.K fd ps ds) (hd:Vals dvs ds) (hx:Passes CX X E)
    (ha:PA X (e::es) t) (hdb:(x==("__debug__":Str))=false:=by decide) (he:starEach (e::es) X.env=(false,eval e X.env)::starEach es X.env:=by rfl) (hpl:(backTo pos (starEach es X.env)).any (·.1)=false:=by rfl) :
    PE X (.Call (.Name x p) (e::es) [] pos) (tCall sp dvs E t):=by
 intro pins s σ H Q I h
 refine bS (ld_glob I hg hm ?_ hdb)
 refine W.callWith_K (h₀:=X.base) I.ok.mod.kin hk (thn (ha pos pins s σ H _ I h) fun us s1 ⟨vs,H1,I1,r,q⟩=>⟨I1.kIn,?_⟩) he hpl
 exact run_fn F hr hb hd hx I1 r q
end
structure FnScope (N P:List Str) (sc:Scope):Prop where
 kind:sc.kind=.function
 co:sc.isCoroutine=false
 gen:sc.isGenerator=false
 nd:N.Nodup
 pre:N.take P.length=P
 par:∀x∈P,sc.names.lookup x=some .local∨sc.names.lookup x=some .cell
 nofree:∀y∈sc.names,y.2≠.free
theorem bindL_out {kindOf:Str -> Option NameKind}{x:Str}:∀ {binds:List (Str × Value)}{m:Str -> Option Value}, (∀v, (x, v) ∉ binds) -> bindL kindOf binds m x=m x
 | [],_,_=>rfl
 | (n,v)::r,m,h=>by
  unfold bindL
  rw[bindL_out fun w hw=>h w (aN _ hw)]
  split
  ·have:x≠n:=by rintro rfl;exact h v bR
   simp[this]
  ·rfl
theorem bindC_out {kindOf:Str -> Option NameKind}{x:Str}:∀ {binds:List (Str × Value)}{m:Str -> Option Value}, (∀v, (x, v) ∉ binds) -> bindC kindOf binds m x=m x
 | [],_,_=>rfl
 | (n,v)::r,m,h=>by
  unfold bindC
  rw[bindC_out fun w hw=>h w (aN _ hw)]
  split
  ·rfl
  ·have:x≠n:=by rintro rfl;exact h v bR
   simp[this]
theorem bindL_get {kindOf:Str->Option NameKind}{x:Str}{v:Value}:∀ {P:List Str}{vs:List Value}{i:Nat}{m:Str->Option Value},P.Nodup->P[i]? = some x->vs[i]? = some v->kindOf x=some .local ->
    bindL kindOf (P.zip vs) m x=some v
 | [],_,_,_,_,h,_,_=>by simp at h
 | _::_,[],_,_,_,_,h,_=>by simp at h
 | p::P,w::vs,0,m,nd,h1,h2,hk=>by
  simp at h1 h2;subst h1;subst h2
  show bindL kindOf ((p,w)::P.zip vs) m p=_
  unfold bindL
  rw[bindL_out fun v hv=>(aP.mp nd).1 (List.of_mem_zip hv).1,if_pos hk]
  simp
 | p::P,w::vs,i+1,m,nd,h1,h2,hk=>by
  show bindL kindOf ((p,w)::P.zip vs) m x=_
  unfold bindL
  exact bindL_get (i:=i) (aP.mp nd).2 (by simpa using h1) (by simpa using h2) hk
theorem bindC_get {kindOf:Str->Option NameKind}{x:Str}{v:Value}:∀ {P:List Str}{vs:List Value}{i:Nat}{m:Str->Option Value},P.Nodup->P[i]? = some x->vs[i]? = some v->kindOf x≠some .local ->
    bindC kindOf (P.zip vs) m x=some v
 | [],_,_,_,_,h,_,_=>by simp at h
 | _::_,[],_,_,_,_,h,_=>by simp at h
 | p::P,w::vs,0,m,nd,h1,h2,hk=>by
  simp at h1 h2;subst h1;subst h2
  show bindC kindOf ((p,w)::P.zip vs) m p=_
  unfold bindC
  rw[bindC_out fun v hv=>(aP.mp nd).1 (List.of_mem_zip hv).1,if_neg hk]
  simp
 | p::P,w::vs,i+1,m,nd,h1,h2,hk=>by
  show bindC kindOf ((p,w)::P.zip vs) m x=_
  unfold bindC
  exact bindC_get (i:=i) (aP.mp nd).2 (by simpa using h1) (by simpa using h2) hk
def start (N:List Str) (vs:List V):St:=vs.map some++List.replicate (N.length-vs.length) none
def cxOf (CX:CXT) (P:Program) (w:World) (K:W.Frag) (mg:Str->Option Value) (base:Heap) (N:List Str) (qual:Str) (scope:Scope) (f:Addr) (cd:Value) (A:Around) (outer:List Env) (s:Shared) (H:Hp) (E:XK):Cx where
 prog:=P
 w:=w
 K:=K
 mg:=mg
 base:=base
 A:=A.deeper (envOfC qual scope s.heap.objs.size f cd)
 N:=N
 s₀:=s
 H₀:=H
 env:=envOfC qual scope s.heap.objs.size f cd
 outer:=outer
 stack:=envOfC qual scope s.heap.objs.size f cd::outer
 ex:=[]
 calm:=true
 fn:=fun _=>true
 pn:=[]
 xe:=fun e s'=>wpAny (model P w) (A.deeper (envOfC qual scope s.heap.objs.size f cd)) (leaving (envOfC qual scope s.heap.objs.size f cd) e) (fun _ s''=>CX outer H s E e s'') (fun e' s''=>CX outer H s E e' s'') s'
theorem cell_has {sc:Scope}{n:Nat}{x:Str}(h:sc.names.lookup x=some .cell):∃c,(cellsFrom n sc.names []).lookup x=some c:=by
 have q:=W.cellsFrom_some sc.names n [] (.inl h)
 exact bE.mp q
theorem inv_start {CX:CXT}{P:Program}{w:World}{K:W.Frag}{mg:Str -> Option Value}{base:Heap}{N ps:List Str}{qual:Str}{scope:Scope}{f:Addr}{cd:Value}{A:Around}{outer:List Env}{s s1:Shared}{H:Hp}{E:XK}{us:List Value}{vs:List V}
    (S:FnScope N ps scope) (hd:A.handled=none) (e0:Env0 P w K mg base A outer s H) (hl:vs.length=ps.length) (r:Vals vs us)
    (x:InCallC s s.heap.objs.size (bindL (envOfC qual scope s.heap.objs.size f cd).kindOf (ps.zip us) fun _=>none) (cellsFrom (s.heap.objs.size+1) scope.names []) (bindC (envOfC qual scope s.heap.objs.size f cd).kindOf (ps.zip us) fun _=>none) s1) :
    Inv (cxOf CX P w K mg base N qual scope f cd A outer s H E) [] (start N vs) H s1:=by
 have hpl:ps.length<=N.length:=by have:=congrArg List.length S.pre;rw[av] at this;omega
 obtain⟨h1,tk,rfl,hk⟩:=x.done
 have noA:∀b:Addr,b∉(cxOf CX P w K mg base N qual scope f cd A outer s H E).ex:=fun b z=>absurd (show b∈([]:List Addr) from z) (by simp)
 refine⟨⟨e0.mod,S.kind,rfl,rfl,ae _,fun y z c h1 h2=>?_,fun y hy=>?_,fun y c _ h=>?_,fun _=>hd,Around.frames_deeper e0.frames,.inr ⟨rfl,rfl⟩,fun b z=>absurd z (noA b),e0.bs,e0.bsz,fun b _ _=>noA b,fun b z=>absurd z (noA b),e0.funs,e0.frf⟩,
  rfl,e0.bare,Un.kept hk,⟨_,x.toInCall.ns,fun i y v h1 h2 h3=>?_⟩,fun y c h=>⟨_,x.cell y c h⟩,e0.hok.fresh (ae _),fun y c h=>?_,fun p hp=>absurd (show p∈([]:List (Addr × Obj)) from hp) (by simp),e0.hok.kept hk,?_⟩
 ·exact name_of_addr x.apart (PySem.mem_of_lookup h1) (PySem.mem_of_lookup h2)
 ·have hy:scope.names.lookup y=some .cell∨scope.names.lookup y=some .free:=hy
  rcases hy with hy | hy
  ·exact cell_has hy
  ·exact absurd rfl (S.nofree _ (PySem.mem_of_lookup hy))
 ·exact aT (x.above y c (PySem.mem_of_lookup h))
 ·have hi:i<vs.length := by
     unfold start at h2
     by_cases hi:i<vs.length
     ·exact hi
     ·rw[br (by simpa using hi)] at h2
      rw[List.getElem?_replicate] at h2
      split at h2 <;> cases h2
  have ha:vs[i]? = some v:=by
   unfold start at h2
   rw[bc (by simpa using hi),aA] at h2
   cases e:vs[i]? with
   | none=>rw[e] at h2;cases h2
   | some a=>rw[e] at h2;cases h2;rfl
  obtain⟨u,hu,rv⟩:=r.get ha
  have hp:ps[i]? = some y:=by
   rw[<- S.pre,bu (by omega)];exact h1
  have ndP:ps.Nodup:=by rw[<- S.pre];exact S.nd.sublist (bF _ _)
  refine⟨u,rv,?_⟩
  rcases S.par y (aj hp) with k | k
  ·exact .inl ⟨k,bindL_get ndP hp hu k⟩
  ·obtain⟨c,e⟩:=cell_has (n:=s.heap.objs.size+1) k
   refine .inr ⟨.inl k,c,e,?_⟩
   have q:=x.cell y c e
   rw[bindC_get ndP hp hu (by show scope.names.lookup y≠_;rw[k];decide)] at q
   exact q
 ·exact e0.hok.fresh (aT (x.above y c (PySem.mem_of_lookup h)))
 ·unfold start
  show _=N.length
  rw[aG,aa,bK]
  omega
theorem fn_of {CX:CXT}{P:Program}{w:World}{K:W.Frag}{mg:Str -> Option Value}{base:Heap}{k:Nat}{f:Addr}{name qual:Str}{params:Arguments}{body:List Stmt}{scope:Scope}{dV kV doc pm cdv ct oc:Value}{an od:Option Addr}
    {osl:Array (Option Value)} {N ps:List Str} {sp:Sp} (lk:K.lookup f=some ⟨oc,od,.func (W.fnOf name qual params body scope dV kV doc pm an cdv ct),osl⟩) (hcd:W.codeIn K cdv qual=true) (S:FnScope N ps scope)
    (len:∀vs H Q E,sp vs H Q E->vs.length=ps.length)
    (hbody:∀(A:Around) (outer:List Env) (s:Shared) (H:Hp) (vs:List V) (Q:VK) (E:XK),Room k (A.deeper (envOfC qual scope s.heap.objs.size f cdv))->sp vs H Q E ->
     ∃t,PSs (cxOf CX P w K mg base N qual scope f cdv A outer s H E) body t/\t { nx:=fun _ H'=>Q .non H',rt:=Q } (start N vs) H) :
    FnOk P w K mg base CX (k+1) f (W.fnOf name qual params body scope dV kV doc pm an cdv ct) ps sp:=by
 refine⟨len,fun A outer s H args us vs Q E hr e0 hb r hsp=>?_⟩
 have hl:=len _ _ _ _ hsp
 have KX:K.In s.heap:=e0.mod.kin.keeps fun b o e=>(e0.bs b o e).1
 have lim:s.heap.NoLimit:=e0.mod.nolimit.keeps fun b o e=>(e0.bs b o e).1
 have hkind:∀y∈ps.zip us,scope.names.lookup y.1=some .local∨(scope.names.lookup y.1=some .cell/\((cellsFrom (s.heap.objs.size+1) scope.names []).lookup y.1).isSome=true):=fun ⟨n,v⟩ hy=>by
  rcases S.par n (List.of_mem_zip hy).1 with q | q
  ·exact .inl q
  ·exact .inr ⟨q,W.cellsFrom_some _ _ _ (.inl q)⟩
 refine codeAny_call_function hr.depth (KX _ _ lk) rfl S.co S.gen rfl (W.codeRec_of KX hcd) (hb _ _ _ _ ?_)
 refine wpAny_newFunctionEnv_cells S.kind hkind fun env he s1 x=>?_
 subst he
 refine⟨lim.keeps x.toInCall.keep,codeAny_func ?_⟩
 obtain⟨t,ht,hq⟩:=hbody A outer s H vs Q E (hr.deeper _) hsp
 have I:Inv (cxOf CX P w K mg base N qual scope f cdv A outer s H E) [] (start N vs) H s1:=inv_start S hr.hd e0 hl r x
 refine bh (ht [] s1 (start N vs) H _ I hq) (fun fl s' hs=>?_) fun e s' hs=>hs
 have fin:∀ {σ':St} {H':Hp} {v:V} {u:Value},Inv (cxOf CX P w K mg base N qual scope f cdv A outer s H E) [] σ' H' s'->RelV v u->Q v H'->CE outer P w H s Q u s' :=
  fun {σ' H' v u} J rv q=>⟨v,H',J.os,J.bare,J.base,J.hok,rv,q⟩
 cases fl with
 | ret u =>
  obtain⟨v,σ',H',J,rv,q⟩:=hs
  exact fin J rv q
 | next =>
  obtain⟨σ',H',J,q⟩:=hs
  exact fin (v:=V.non) (u:=Value.none) J rfl q
 | brk =>
  obtain⟨_,_,_,q⟩:=hs
  exact False.elim q
 | cont =>
  obtain⟨_,_,_,q⟩:=hs
  exact False.elim q
section
variable {X:Cx}{x:Str}{p pos:Pos}{e:Expr}{es:List Expr}{t:TA}{id T:String}{r:List V->Hp->VK->Prop}
def tCB (r:List V->Hp->VK->Prop) (t:TA):TE:=fun σ H Q=>t σ H fun vs H1=>r vs H1 Q
theorem pe_callB (hc:CallR X (.builtin id) r) (hg:Gl X x) (hm:X.mg x=none) (hv:bootBuiltins x=some (.builtin id)) (ha:PA X (e::es) t) (hn:x≠"__name__":=by decide) (hdb:(x==("__debug__":Str))=false:=by decide)
    (he:starEach (e::es) X.env=(false,eval e X.env)::starEach es X.env:=by rfl) (hpl:(backTo pos (starEach es X.env)).any (·.1)=false:=by rfl):PE X (.Call (.Name x p) (e::es) [] pos) (tCB r t):=by
 intro pins s σ H Q I h
 refine bS (ld_blt I hg hm hv ?_ hn hdb)
 exact PyProof.Rows.callWith_builtin1 (thn (ha pos pins s σ H _ I h) fun us s1 ⟨vs,H1,I1,r1,q1⟩=>hc pins s1 σ H1 vs us Q I1 r1 q1) he hpl
theorem pe_callTy (hc:CallR X (.type T) r) (hg:Gl X x) (hm:X.mg x=none) (hv:bootBuiltins x=some (.type T)) (ha:PA X (e::es) t) (hn:x≠"__name__":=by decide) (hdb:(x==("__debug__":Str))=false:=by decide)
    (he:starEach (e::es) X.env=(false,eval e X.env)::starEach es X.env:=by rfl) (hpl:(backTo pos (starEach es X.env)).any (·.1)=false:=by rfl):PE X (.Call (.Name x p) (e::es) [] pos) (tCB r t):=by
 intro pins s σ H Q I h
 refine bS (ld_blt I hg hm hv ?_ hn hdb)
 exact PyProof.Rows.callWith_type1 (thn (ha pos pins s σ H _ I h) fun us s1 ⟨vs,H1,I1,r1,q1⟩=>hc pins s1 σ H1 vs us Q I1 r1 q1) he hpl
end
end L2
namespace HT
open PySem PyProof.Rows
section
open PySem.SeqAt
open PySem.AutoSeq1 (wpAny_loadPart')
open PySem.MeetsSeq PySem.MeetsSeq2 PySem.MeetsSeq3
end
section
variable {prog:Program}{w:World}{A:Around}{E:Value->Shared->Prop}{s:Shared}
theorem cat_tup {t b:Addr}{vs ws:List Value}{Q:Value -> Shared -> Prop}(ht:IsTup s.heap t vs.toArray) (hb:IsTup s.heap b ws.toArray) (hv:vs ≠ [])
    (h1:ws=[]->Q (.ref t) s) (h2:ws≠[]->Q (.ref s.heap.objs.size) { s with heap:=s.heap.push { cls:=.type "tuple",data:=.seq (vs++ws).toArray } })
    (hsz:vs.length+ws.length<=sizeLine):wpAny (model prog w) A (binaryOp .Add (.ref t) (.ref b)) Q E s:=by
 obtain⟨⟨cls,dd,data,sl⟩,ho,hc,n,hd⟩:=id ht
 obtain⟨⟨cls2,dd2,data2,sl2⟩,ho2,hc2,n2,hd2⟩:=id hb
 simp only at hc hd hc2 hd2
 subst hc hd hc2 hd2
 have e:vs.toArray++ws.toArray=(vs++ws).toArray:=by simp
 by_cases hw:ws=[]
 ·exact concat_meets ⟨_,ho,rfl⟩ ⟨_,ho2,rfl⟩ noFill_tuple_add seq_tuple_add PySem.F.slot_tuple_add PySem.F.entry_tuple_add (PySem.F.args_tuple_add_2 _ _)
     (tuple_addW1 t b vs.toArray ws.toArray n n2 dd dd2 sl sl2 (by simpa using hv) (by simp[hw])) ⟨ho,ho2,h1 hw⟩
 ·refine concat_meets ⟨_,ho,rfl⟩ ⟨_,ho2,rfl⟩ noFill_tuple_add seq_tuple_add PySem.F.slot_tuple_add PySem.F.entry_tuple_add (PySem.F.args_tuple_add_2 _ _)
     (tuple_addW2 t b vs.toArray ws.toArray n n2 dd dd2 sl sl2 (by simpa using hv) (by simpa using hw) (by rw[aE,aE];exact hsz)) ⟨ho,ho2,?_⟩
  rw[e]
  exact h2 hw
def sIx (n d:Nat):Option Int->Nat
 | none=>d
 | some v=>if v<0 then (v+(n:Int)).toNat else min v.toNat n
theorem sIx_nat (n d k:Nat):sIx n d (some (k:Int))=min k n:=by
 show (if (k:Int)<0 then ((k:Int)+(n:Int)).toNat else min (k:Int).toNat n)=min k n
 rw[if_neg (by omega),bT]
end
end HT
namespace L2
open PySem PySem.Spec PyProof.Rows
abbrev TO:=St->Hp->(Option Int->Hp->Prop)->Prop
def PO (X:Cx) (e:Option Expr) (t:TO):Prop :=
 ∀(pins:List (Addr × Obj)) (s:Shared) (σ:St) (H:Hp) (Q:Option Int->Hp->Prop),Inv X pins σ H s->t σ H Q ->
  wpAny (model X.prog X.w) X.A (evalPart e X.env) (fun u s'=>∃o H',Inv X pins σ H' s'/\IsPart u o/\Q o H') X.xe s
def tNoPart:TO:=fun _ H Q=>Q none H
def tPart (t:TE):TO:=fun σ H Q=>t σ H fun x H1=>∃i,x=.int i/\Q (some i) H1
theorem intsAre_of {ns:List Int}:∀ {us:List Value}, Vals (ns.map V.int) us -> IntsAre us ns := by
 induction ns with
 | nil=>intro us r;rw[List.map_nil] at r;cases r;exact .nil
 | cons n ns ih =>
  intro us r
  rw[aV] at r
  cases r with
  | cons r1 r2 =>
   obtain⟨t,e⟩:=r1
   subst e
   exact .cons n t (ih r2)
section
variable {X:Cx}{e:Expr}{te:TE}{lo hi:Option Expr}{tl th:TO}{pos p2:Pos}
theorem po_none:PO X none tNoPart:=by
 intro pins s σ H Q I h
 rw[evalPart_none]
 exact ag ⟨none,H,I,.none,h⟩
theorem po_some (h:PE X e te):PO X (some e) (tPart te):=by
 intro pins s σ H Q I hw
 rw[evalPart_some]
 refine thn (h pins s σ H _ I hw) fun u s1 ⟨x,H1,I1,r1,q1⟩=>?_
 obtain⟨i,rfl,q⟩:=q1
 obtain⟨t,rfl⟩:=r1
 exact⟨some i,H1,I1,.int i t,q⟩
def SlR (X:Cx) (r:V->Option Int->Option Int->Hp->VK->Prop):Prop :=
 ∀(pins:List (Addr × Obj)) (s:Shared) (σ:St) (H:Hp) (x:V) (v vl vu:Value) (lo hi:Option Int) (sl:Addr) (Q:VK),Inv X pins σ H s->RelV x v->s.heap.IsSliceOf sl vl vu .none->IsPart vl lo->IsPart vu hi->r x lo hi H Q ->
  ∃T id,typeLookup (.type T) "__getitem__"=pure (some (.builtin id))/\s.TypeIs v T/\wpAny (model X.prog X.w) X.A (getItem v (.ref sl)) (EP X pins σ Q) X.xe s
def tSl (r:V->Option Int->Option Int->Hp->VK->Prop) (te:TE) (tl th:TO):TE:=fun σ H Q=>te σ H fun x H1=>tl σ H1 fun l H2=>th σ H2 fun u H3=>r x l u H3 Q
theorem pe_slice {r:V->Option Int->Option Int->Hp->VK->Prop}(hr:SlR X r) (he:PE X e te) (hl:PO X lo tl) (hu:PO X hi th):PE X (.Subscript e (.Slice lo hi none p2) pos) (tSl r te tl th):=by
 intro pins s σ H Q I h
 refine Subscript_ (thn (he pins s σ H _ I h) fun v s1 ⟨x,H1,I1,r1,q1⟩=>?_)
 refine wpAny_Slice (thn (hl pins s1 σ H1 _ I1 q1) fun vl s2 ⟨l,H2,I2,pl,q2⟩=>thn (hu pins s2 σ H2 _ I2 q2) fun vu s3 ⟨u,H3,I3,pu,q3⟩=>?_)
 rw[evalPart_none]
 refine ag ?_
 have I4:Inv X pins σ H3 { s3 with heap:=s3.heap.push { cls:=.type "slice",data:=.fields #[vl,vu,.none] } }:=I3.kept (t':=s3.toks) fun b ob q=>ay _ q
 obtain⟨T,id,hT,ht,hg⟩:=hr pins { s3 with heap:=s3.heap.push { cls:=.type "slice",data:=.fields #[vl,vu,.none] } } σ H3 x v vl vu l u s3.heap.objs.size Q I4 r1 (Heap.IsSliceOf.new ..) pl pu q3
 show wpAny (model X.prog X.w) X.A (subscriptTail e (.Slice lo hi none p2) v (.ref s3.heap.objs.size)) (EP X pins σ Q) X.xe { s3 with heap:=s3.heap.push { cls:=.type "slice",data:=.fields #[vl,vu,.none] } }
 exact tail_any (ops:=[.ref s3.heap.objs.size,v]) ht hT hg (by with_unfolding_all rfl)
def cutV (xs:List V) (lo hi:Option Int):List V:=(xs.drop (HT.sIx xs.length 0 lo)).take (HT.sIx xs.length xs.length hi-HT.sIx xs.length 0 lo)
theorem cutV_length (xs:List V) (lo hi:Option Int):(cutV xs lo hi).length<=xs.length:=by
 unfold cutV
 rw[av,bv]
 omega
def rCatT (K:W.Frag):R2:=fun x y H Q=>∃a b xs ys,x=.ref a/\y=.ref b/\SqT K H a xs/\SqT K H b ys/\xs≠[]/\xs.length+ys.length<=sizeLine /\
 (ys=[]->Q (.ref a) H)/\(ys≠[]->∀p,H p=none->Q (.ref p) (upd H p (.tup (xs++ys))))
theorem Vals.nil_iff {xs:List V}{us:List Value}(r:Vals xs us):us=[] ↔ xs=[]:=by
 cases r with
 | nil=>simp
 | cons _ _=>simp
theorem op_catT:OpR X (binaryOp .Add) (rCatT X.K):=by
 intro pins s σ H x y v u Q I rx ry h
 obtain⟨a,b,xs,ys,rfl,rfl,ha,hb,hx,hz,q1,q2⟩:=h
 cases rx
 cases ry
 obtain⟨its,r1,p1,_⟩:=I.tuple ha
 obtain⟨its2,r2,p2,_⟩:=I.tuple hb
 refine HT.cat_tup p1 p2 (fun z=>hx (r1.nil_iff.mp z)) (fun z=>⟨.ref a,H,I,rfl,q1 (r2.nil_iff.mp z)⟩) (fun z=>?_) (by rw[<- r1.length,<- r2.length];exact hz)
 refine⟨.ref s.heap.objs.size,_,I.laid (t':=s.toks) (o:=.tup (xs++ys)) (fun b ob q=>ay _ q) (ae _) ?_,rfl,q2 (fun w=>z (r2.nil_iff.mpr w)) _ (I.hok.fresh (ae _))⟩
 exact⟨by rw[aG];exact hz,_,r1.append r2,TupN.new _ _⟩
end
def ixN (n:Nat) (i:Int):Option Nat:=if 0<=i then (if i<n then some i.toNat else none) else if -(n:Int)<=i then some (i+n).toNat else none
def atI {α:Type}(xs:List α) (i:Int):Option α:=(ixN xs.length i).bind fun j=>xs[j]?
theorem ixN_seq {n:Nat}{i:Int}{j:Nat}(h:ixN n i=some j):seqIndex? i n=some j /\ j<n /\ -(n:Int) <= i /\ i<n := by
 unfold ixN at h
 by_cases h0:0<=i
 ·rw[if_pos h0] at h
  by_cases h1:i<n
  ·rw[if_pos h1] at h
   have e:i.toNat=j:=ai h
   exact⟨by rw[seqIndex_of h0 h1,e],by omega,by omega,h1⟩
  ·rw[if_neg h1] at h;cases h
 ·rw[if_neg h0] at h
  by_cases h1:-(n:Int)<=i
  ·rw[if_pos h1] at h
   have e:(i+n).toNat=j:=ai h
   exact⟨by rw[seqIndex_neg (by omega) h1,e],by omega,h1,by omega⟩
  ·rw[if_neg h1] at h;cases h
theorem atI_get {α:Type}{xs:List α}{i:Int}{v:α}(h:atI xs i=some v):∃j,seqIndex? i xs.length=some j/\xs[j]? = some v/\j<xs.length/\-(xs.length:Int)<=i/\i<xs.length:=by
 unfold atI at h
 cases e:ixN xs.length i with
 | none=>rw[e] at h;cases h
 | some j =>
  rw[e] at h
  obtain⟨h1,h2,h3,h4⟩:=ixN_seq e
  exact⟨j,h1,h,h2,h3,h4⟩
theorem atI_nat {α:Type}{xs:List α}{j:Nat}{v:α}(h:xs[j]? = some v):atI xs (j:Int)=some v:=by
 have hj:j<xs.length:=(af.mp h).1
 have e:ixN xs.length (j:Int)=some j:=by
  unfold ixN
  rw[if_pos (by omega),if_pos (by omega)];simp
 unfold atI;rw[e];exact h
theorem atI_last {α:Type}(xs:List α) (v:α):atI (xs++[v]) (-1)=some v:=by
 have hl:(xs++[v]).length=xs.length+1:=by simp
 have e:ixN (xs++[v]).length (-1)=some xs.length:=by
  unfold ixN
  rw[hl,if_neg (by decide),if_pos (by omega)]
  congr 1
  omega
 unfold atI
 rw[e]
 show (xs++[v])[xs.length]? = some v
 simp
def PlainIx (b:Expr):Prop:=∀o i,subscripted b false o i=operate [o,i] (getItem o i)
def IxR (X:Cx) (r:R2):Prop :=
 ∀(value slice:Expr) (pins:List (Addr × Obj)) (s:Shared) (σ:St) (H:Hp) (x y:V) (v u:Value) (Q:VK),Inv X pins σ H s->RelV x v->RelV y u->r x y H Q ->
  subscripted slice false v u=operate [v,u] (getItem v u)->wpAny (model X.prog X.w) X.A (subscriptTail value slice v u) (EP X pins σ Q) X.xe s
def MtR (X:Cx) (id:String) (r:V->List V->Hp->VK->Prop):Prop :=
 ∀(pins:List (Addr × Obj)) (s:Shared) (σ:St) (H:Hp) (x:V) (xs:List V) (v:Value) (us:List Value) (Q:VK),Inv X pins σ H s->RelV x v->Vals xs us->r x xs H Q ->
  wpAny (model X.prog X.w) X.A (call (.builtin id) (v::us)) (EP X pins σ Q) X.xe s
section
variable {X:Cx}{a b:Expr}{ta tb:TE}{pos:Pos}
theorem pe_ix {r:R2}(hr:IxR X r) (ha:PE X a ta) (hb:PE X b tb) (hs:PlainIx b):PE X (.Subscript a b pos) (tOp r ta tb):=by
 intro pins s σ H Q I h
 exact Subscript_ (binT ha hb I h fun v u s2 x y H2 I2 rx ry q=>hr a b pins s2 σ H2 x y v u Q I2 rx ry q (hs _ _))
def rIxL (K:W.Frag):R2:=fun x y H Q=>∃p xs i v,x=.ref p/\y=.int i/\SqL K H p xs/\atI xs i=some v/\Q v H
def rIxT (K:W.Frag):R2:=fun x y H Q=>∃p xs i v,x=.ref p/\y=.int i/\SqT K H p xs/\atI xs i=some v/\Q v H
def rIxS:R2:=fun x y H Q=>∃z i c,x=.str z/\y=.int i/\z.length<=sizeLine/\atI z.cps.toList i=some c/\Q (.str ⟨#[c]⟩) H
theorem ix_list:IxR X (rIxL X.K) := by
 intro value slice pins s σ H x y v u Q I rx ry h hs
 obtain⟨p,xs,i,z,rfl,rfl,hq,he,q⟩:=h
 cases rx
 obtain⟨t,rfl⟩:=ry
 obtain⟨its,r,pl,hz⟩:=I.list hq
 obtain⟨j,h1,h2,h3,h4,h5⟩:=atI_get he
 obtain⟨w,ew,rw'⟩:=r.get h2
 have hl:=r.length
 have hn:=line63
 have fin:EP X pins σ Q w s:=⟨z,H,I,rw',q⟩
 by_cases h0:0<=i
 ·have hj:i.toNat=j:=by
     rw[seqIndex_of h0 h5] at h1
     exact ai h1
  exact item_listR pl.isList h0 (by omega) (by rw[hj];simpa using ew) fin hs
 ·have hj:(i+(its.toArray.size:Int)).toNat=j:=by
     rw[seqIndex_neg (by omega) h4] at h1
     rw[aE,<- hl]
     exact ai h1
  exact subscriptTail_builtinR (x:=w) pl.isList.typeIs slot_list_getitem.lookup
   (wpAny_getItem_list_neg (Q:=fun r s'=>r=w/\EP X pins σ Q r s') pl.isList (by omega) (by rw[aE] <;> omega) (by omega) (by rw[hj];simpa using ew) ⟨rfl,fin⟩) hs
theorem ix_tup:IxR X (rIxT X.K):=by
 intro value slice pins s σ H x y v u Q I rx ry h hs
 obtain⟨p,xs,i,z,rfl,rfl,hq,he,q⟩:=h
 cases rx
 obtain⟨t,rfl⟩:=ry
 obtain⟨its,r,pl,hz⟩:=I.tuple hq
 obtain⟨j,h1,h2,h3,h4,h5⟩:=atI_get he
 obtain⟨w,ew,rw'⟩:=r.get h2
 have hl:=r.length
 have hn:=line63
 have fin:EP X pins σ Q w s:=⟨z,H,I,rw',q⟩
 exact subscriptTail_builtinR (x:=w) pl.typeIs slot_tuple_getitem.lookup
  (getItem_tuple (j:=j) (Q:=fun r s'=>r=w/\EP X pins σ Q r s') pl (by omega) (by omega) (by rw[aE,<- hl];exact h1) (by simpa using ew) ⟨rfl,fin⟩) hs
theorem ix_str:IxR X rIxS:=by
 intro value slice pins s σ H x y v u Q I rx ry h hs
 obtain⟨z,i,c,rfl,rfl,hz,he,q⟩:=h
 obtain⟨t,rfl⟩:=rx
 obtain⟨t',rfl⟩:=ry
 obtain⟨j,h1,h2,h3,h4,h5⟩:=atI_get he
 have hl:z.cps.toList.length=z.length:=by simp[Str.length]
 rw[hl] at h1 h4 h5
 have hn:=line63
 exact tail_any (typeIs_str s z t) slot_str_getitem.lookup (getItem_str (c:=c) (by
  have e1:decide (i < -(2 ^ 63:Int))=false:=aI (by omega)
  have e2:decide (i ≥ 2 ^ 63)=false:=aI (by omega)
  rw[e1,e2,Bool.or_false]) (by rw[h1];simpa using h2) ⟨.str ⟨#[c]⟩,H,I.tok _,⟨_,rfl⟩,q⟩) hs
theorem mapSeq_set (its:List Value) (n j:Nat) (u:Value):Obj.mapSeq (·.setIfInBounds j u) { cls:=.type "list",data:=.seq its.toArray n }={ cls:=.type "list",data:=.seq (its.set j u).toArray n }:=by
 simp[Obj.mapSeq]
theorem Inv.lst {pins:List (Addr × Obj)}{σ:St}{H:Hp}{s:Shared}{p:Addr}{xs:List V}(I:Inv X pins σ H s) (h:H p=some (.lst xs)) :
    ∃(its:List Value) (n:Nat),Vals xs its/\s.heap.get? p=some { cls:=.type "list",data:=.seq its.toArray n }/\xs.length<=sizeLine:=by
 obtain⟨z,its,n,r,e⟩:=I.hok p _ h
 exact⟨its,n,r,e,z⟩
theorem Inv.lstUpd {pins:List (Addr × Obj)}{σ:St}{H:Hp}{s:Shared}{p:Addr}{xs ys:List V}{its its':List Value}{n n':Nat}{f:Obj->Obj}(I:Inv X pins σ H s) (h:H p=some (.lst xs))
    (ho:s.heap.get? p=some { cls:=.type "list",data:=.seq its.toArray n }) (hf:f { cls:=.type "list",data:=.seq its.toArray n }={ cls:=.type "list",data:=.seq its'.toArray n' }) (r:Vals ys its') (hz:ys.length<=sizeLine) (t:Nat) :
    Inv X pins σ (upd H p (.lst ys)) { s with heap:=s.heap.update p f,toks:=t }:=by
 have e:(s.heap.update p f).get? p=some { cls:=.type "list",data:=.seq its'.toArray n' }:=by
  rw[bU f ho (by rw[hf] <;> rfl),hf]
 refine I.write (x:=p) (e:=p) (by rw[h];trivial) (.inl rfl) (fun b u hb q=>(bV _ _ (Ne.symm hb)).trans q) ⟨_,e⟩ ?_
 exact⟨hz,its',n',r,e⟩
def rSetL:V->V->V->Hp->(Hp->Prop)->Prop:=fun o i v H Q=>∃p xs k j,o=.ref p/\i=.int k/\H p=some (.lst xs)/\ixN xs.length k=some j/\Q (upd H p (.lst (xs.set j v)))
theorem set_list:PSet X rSetL := by
 intro pins s σ H o i v ov iv u Q I ro ri rv h
 obtain⟨p,xs,k,j,rfl,rfl,hp,hj,q⟩:=h
 cases ro
 obtain⟨t,rfl⟩:=ri
 obtain⟨its,n,r,ho,hz⟩:=I.lst hp
 obtain⟨h1,h2,h3,h4⟩:=ixN_seq hj
 have hl:=r.length
 have hn:=line63
 have I':Inv X pins σ (upd H p (.lst (xs.set j v))) { s with heap:=s.heap.update p (Obj.mapSeq (·.setIfInBounds j u)) } :=
  I.lstUpd hp ho (mapSeq_set its n j u) (r.set rv j) (by rw[List.length_set];exact hz) s.toks
 by_cases h0:0<=k
 ·have hk:k.toNat=j:=by
     rw[seqIndex_of h0 h4] at h1
     exact ai h1
  exact W.ki_setAt ho h0 (by omega) (by rw[aE,<- hl];exact h4) (by rw[hk];exact⟨_,I',q⟩)
 ·have hk:(k+(its.toArray.size:Int)).toNat=j:=by
     rw[seqIndex_neg (by omega) h3] at h1
     rw[aE,<- hl]
     exact ai h1
  exact W.ki_setBack ho (by omega) (by rw[aE,<- hl];exact h3) (by omega) (by rw[hk];exact⟨_,I',q⟩)
theorem slice_bounds (lo hi:Option Int) (n:Nat):(sliceBounds lo hi none n).1=((HT.sIx n 0 lo:Nat):Int) /\ (sliceBounds lo hi none n).2.1=((HT.sIx n n hi:Nat):Int) /\ (sliceBounds lo hi none n).2.2=1 := by
 refine⟨?_,?_,rfl⟩
 ·cases lo with
  | none=>simp[sliceBounds,HT.sIx]
  | some i =>
   simp only[sliceBounds,HT.sIx,Option.getD_none,show (1:Int) > 0 by decide,if_true]
   by_cases h:i<0
   ·simp only[h,if_true] <;> omega
   ·simp only[h,if_false] <;> omega
 ·cases hi with
  | none=>simp[sliceBounds,HT.sIx]
  | some i =>
   simp only[sliceBounds,HT.sIx,Option.getD_none,show (1:Int) > 0 by decide,if_true]
   by_cases h:i<0
   ·simp only[h,if_true] <;> omega
   ·simp only[h,if_false] <;> omega
theorem slicePick_cut (its:List Value) (lo hi:Option Int):slicePick its.toArray lo hi none=((its.drop (HT.sIx its.length 0 lo)).take (HT.sIx its.length its.length hi-HT.sIx its.length 0 lo)).toArray:=by
 obtain⟨h1,h2,h3⟩:=slice_bounds lo hi its.toArray.size
 unfold slicePick
 rw[h1,h2,h3]
 simp only[sliceRange_one,pick_run,aE] <;> rfl
def rSlL (K:W.Frag):V->Option Int->Option Int->Hp->VK->Prop:=fun x lo hi H Q=>∃a xs,x=.ref a/\SqL K H a xs/\∀p,H p=none->Q (.ref p) (upd H p (.lst (cutV xs lo hi)))
theorem sl_list:SlR X (rSlL X.K):=by
 intro pins s σ H x v vl vu lo hi sl Q I rx hs pl pu h
 obtain⟨a,xs,rfl,hx,q⟩:=h
 cases rx
 obtain⟨its,r,ht,hz⟩:=I.list hx
 have hlen:=r.length
 refine⟨"list",_,slot_list_getitem.lookup,ht.isList.typeIs,?_⟩
 refine wpAny_getItem_list_slice ht.isList hs pl pu .none (by simp) ?_ (by rw[aE] <;> omega)
 rw[slicePick_cut,<- hlen]
 refine⟨.ref s.heap.objs.size,_,I.laid (t':=s.toks) (o:=.lst (cutV xs lo hi)) (fun b ob q=>ay _ q) (ae _) ?_,rfl,q _ (I.hok.fresh (ae _))⟩
 exact⟨aW (cutV_length xs lo hi) hz,_,0,(r.drop (HT.sIx xs.length 0 lo)).take (HT.sIx xs.length xs.length hi-HT.sIx xs.length 0 lo),aF _ rfl⟩
def flatV:V->Bool
 | .non=>true
 | .bl _=>true
 | .int _=>true
 | .str _=>true
 | _=>false
def eqV:V->V->Bool
 | .non,.non=>true
 | .bl a,.bl b=>a==b
 | .bl a,.int b=>(if a then 1 else 0)==b
 | .int a,.bl b=>a==(if b then 1 else 0)
 | .int a,.int b=>a==b
 | .str a,.str b=>a==b
 | _,_=>false
theorem eqAt_V {A:Around}{s:Shared}{y x:V}{u v:Value}(ry:RelV y u) (rx:RelV x v) (fy:flatV y=true) (fx:flatV x=true):SeqAt.EqAt A s u v (eqV y x):=by
 cases y with
 | non =>
  cases ry
  cases x with
  | non=>cases rx;exact SeqAt.EqAt.same _
  | bl b=>cases rx;exact SeqAt.EqAt.none_bool b
  | int b=>obtain⟨t,rfl⟩:=rx;exact SeqAt.EqAt.none_int b t
  | str b=>obtain⟨t,rfl⟩:=rx;exact SeqAt.EqAt.none_str b t
  | _=>exact absurd (show false=true from fx) aL
 | bl a =>
  cases ry
  cases x with
  | non=>cases rx;exact SeqAt.EqAt.bool_none a
  | bl b=>cases rx;exact SeqAt.EqAt.bool_bool a b
  | int b=>obtain⟨t,rfl⟩:=rx;exact SeqAt.EqAt.bool_int a b t
  | str b=>obtain⟨t,rfl⟩:=rx;exact SeqAt.EqAt.bool_str a b t
  | _=>exact absurd (show false=true from fx) aL
 | int a =>
  obtain⟨t',rfl⟩:=ry
  cases x with
  | non=>cases rx;exact SeqAt.EqAt.int_none a t'
  | bl b=>cases rx;exact SeqAt.EqAt.int_bool a t' b
  | int b=>obtain⟨t,rfl⟩:=rx;exact SeqAt.EqAt.int_int a t' b t
  | str b=>obtain⟨t,rfl⟩:=rx;exact SeqAt.EqAt.int_str a t' b t
  | _=>exact absurd (show false=true from fx) aL
 | str a =>
  obtain⟨t',rfl⟩:=ry
  cases x with
  | non=>cases rx;exact SeqAt.EqAt.str_none a t'
  | bl b=>cases rx;exact SeqAt.EqAt.str_bool a t' b
  | int b=>obtain⟨t,rfl⟩:=rx;exact SeqAt.EqAt.str_int a t' b t
  | str b=>obtain⟨t,rfl⟩:=rx;exact SeqAt.EqAt.str_str a t' b t
  | _=>exact absurd (show false=true from fx) aL
 | _=>exact absurd (show false=true from fy) aL
def eqU (x:V) (u:Value):Bool:=match u with
 | .none=>eqV .non x
 | .bool b=>eqV (.bl b) x
 | .int i _=>eqV (.int i) x
 | .str z _=>eqV (.str z) x
 | _=>false
theorem eqU_of {x y:V}{u:Value}(r:RelV y u) (f:flatV y=true):eqU x u=eqV y x:=by
 cases y with
 | non=>cases r;rfl
 | bl b=>cases r;rfl
 | int i=>obtain⟨t,rfl⟩:=r;rfl
 | str z=>obtain⟨t,rfl⟩:=r;rfl
 | _=>exact absurd (show false=true from f) aL
theorem any_eqU {x:V}:∀ {xs:List V}{us:List Value},Vals xs us->xs.all flatV=true->us.any (eqU x)=xs.any fun y=>eqV y x
 | _,_,.nil,_=>rfl
 | y::xs,u::us,.cons r t,f=>by
  rw[List.all_cons,bd] at f
  rw[bL,bL,eqU_of r f.1,any_eqU t f.2]
theorem mem_eqAt {A:Around}{s:Shared}{x:V}{v:Value}(rx:RelV x v) (fx:flatV x=true):∀ {xs:List V}{us:List Value},Vals xs us->xs.all flatV=true->∀u∈us,SeqAt.EqAt A s u v (eqU x u)
 | _,_,.nil,_=>fun u hu=>by cases hu
 | y::xs,u::us,.cons r t,f=>fun u' hu=>by
  rw[List.all_cons,bd] at f
  rcases ax.mp hu with rfl | hu
  ·rw[eqU_of r f.1];exact eqAt_V r rx f.1 fx
  ·exact mem_eqAt rx fx t f.2 u' hu
def inV (x:V) (xs:List V):Bool:=xs.any fun y=>eqV y x
def rIn (K:W.Frag) (neg:Bool):R2:=fun x y H Q=>∃p xs,y=.ref p/\(SqL K H p xs∨SqT K H p xs)/\flatV x=true/\xs.all flatV=true/\Q (.bl (if neg then !inV x xs else inV x xs)) H
theorem op_in_seq:OpR X (compareOp .In) (rIn X.K false):=by
 intro pins s σ H x y v u Q I rx ry h
 obtain⟨p,xs,rfl,hq,fx,fs,q⟩:=h
 cases ry
 rcases hq with hq | hq
 ·obtain⟨its,r,pl,hz⟩:=I.list hq
  refine SeqAt.in_listAt (eqU x) pl.isList (fun w hw=>mem_eqAt rx fx r fs w (by simpa using hw)) ⟨.bl _,H,I,rfl,?_⟩
  rw[show its.toArray.any (eqU x)=its.any (eqU x) by simp,any_eqU r fs]
  exact q
 ·obtain⟨its,r,pl,hz⟩:=I.tuple hq
  refine SeqAt.in_tupleAt (eqU x) pl (fun w hw=>mem_eqAt rx fx r fs w (by simpa using hw)) ⟨.bl _,H,I,rfl,?_⟩
  rw[show its.toArray.any (eqU x)=its.any (eqU x) by simp,any_eqU r fs]
  exact q
theorem op_notIn_seq:OpR X (compareOp .NotIn) (rIn X.K true):=by
 intro pins s σ H x y v u Q I rx ry h
 obtain⟨p,xs,rfl,hq,fx,fs,q⟩:=h
 cases ry
 rcases hq with hq | hq
 ·obtain⟨its,r,pl,hz⟩:=I.list hq
  refine SeqAt.notIn_listAt (eqU x) pl.isList (fun w hw=>mem_eqAt rx fx r fs w (by simpa using hw)) ⟨.bl _,H,I,rfl,?_⟩
  rw[show its.toArray.any (eqU x)=its.any (eqU x) by simp,any_eqU r fs]
  exact q
 ·obtain⟨its,r,pl,hz⟩:=I.tuple hq
  refine SeqAt.notIn_tupleAt (eqU x) pl (fun w hw=>mem_eqAt rx fx r fs w (by simpa using hw)) ⟨.bl _,H,I,rfl,?_⟩
  rw[show its.toArray.any (eqU x)=its.any (eqU x) by simp,any_eqU r fs]
  exact q
theorem call_list_of:CallR X (.type "list") (fun xs H Q => ∃p ys, xs=[.ref p] /\ (SqL X.K H p ys ∨ SqT X.K H p ys) /\ ∀l, H l=none -> Q (.ref l) (upd H l (.lst ys))) := by
 intro pins s σ H xs us Q I r h
 obtain⟨p,ys,rfl,hq,q⟩:=h
 obtain⟨u,rfl,rx⟩:=vals1 r
 cases rx
 have fin:∀(its:List Value),Vals ys its->ys.length<=sizeLine->∀(h':Heap) (c':Nat),(∀b o',s.heap.get? b=some o'->h'.get? b=some o') ->
     h'.get? s.heap.objs.size=some { cls:=.type "list",dict:=none,data:=.seq its.toArray c',slots:=#[] }->EP X pins σ Q (.ref s.heap.objs.size) { s with heap:=h' }:=fun its r' hz h' c' kp e =>
  ⟨.ref s.heap.objs.size,_,I.laid (t':=s.toks) kp (ae _) (show ObjOk X.prog X.w _ h' _ (.lst ys) from⟨hz,its,c',r',e⟩),rfl,q _ (I.hok.fresh (ae _))⟩
 rcases hq with hq | hq
 ·obtain⟨its,r',pl,hz⟩:=I.list hq
  have hlen:=r'.length
  obtain⟨o,ho,hc,n,hd⟩:=pl.isList
  exact call_list_seq p (.inl rfl) ho hc hd (fun h' c' kp e=>fin its r' hz h' c' kp e) (by simp only[aE] <;> omega)
 ·obtain⟨its,r',pl,hz⟩:=I.tuple hq
  have hlen:=r'.length
  obtain⟨o,ho,hc,n,hd⟩:=pl
  exact call_list_seq p (.inr rfl) ho hc hd (fun h' c' kp e=>fin its r' hz h' c' kp e) (by simp only[aE] <;> omega)
theorem call_tuple_of:CallR X (.type "tuple") (fun xs H Q => ∃p ys, xs=[.ref p] /\ ((SqL X.K H p ys /\ ∀l, H l=none -> Q (.ref l) (upd H l (.tup ys))) ∨ (SqT X.K H p ys /\ Q (.ref p) H))) := by
 intro pins s σ H xs us Q I r h
 obtain⟨p,ys,rfl,h⟩:=h
 obtain⟨u,rfl,rx⟩:=vals1 r
 cases rx
 rcases h with⟨hq,q⟩ | ⟨hq,q⟩
 ·obtain⟨its,r',pl,hz⟩:=I.list hq
  have hlen:=r'.length
  refine call_tuple_list pl.isList (fun h' kp=>?_) (by simp only[aE] <;> omega)
  have I1:Inv X pins σ H { s with heap:=h' }:=I.kept (t':=s.toks) kp
  have I2:Inv X pins σ (upd H h'.objs.size (.tup ys)) { s with heap:=h'.push { cls:=.type "tuple",data:=.seq its.toArray } } :=
   I1.laid (t':=s.toks) (fun b o e=>ay _ e) (ae _) (show ObjOk X.prog X.w _ _ _ (.tup ys) from⟨hz,its,r',TupN.new _ _⟩)
  exact⟨.ref h'.objs.size,_,I2,rfl,q _ (I1.hok.fresh (ae _))⟩
 ·obtain⟨its,r',pl,hz⟩:=I.tuple hq
  exact call_tuple_same pl ⟨.ref p,H,I,rfl,q⟩
def tyV (K:W.Frag) (T:String) (x:V) (H:Hp):Prop := match x with
 | .str _=>T="str"
 | .int _=>T="int"
 | .ref p=>(T="list"/\∃xs,SqL K H p xs)∨(T="tuple"/\∃o,K.lookup p=some o/\o.cls=.type "tuple"/\o.dict=none) ∨
     (T="dict"/\((∃kvs,H p=some (.dK kvs))∨∃kvs,H p=some (.dT kvs)))∨(T="set"/\∃S n,H p=some (.set S n))
 | _=>False
theorem tyV_is {pins:List (Addr × Obj)}{σ:St}{H:Hp}{s:Shared}{T:String}{x:V}{v:Value}(I:Inv X pins σ H s) (r:RelV x v) (ty:tyV X.K T x H) :
    s.TypeIs v T/\∀a,v=.ref a->∃ob,s.heap.get? a=some ob/\ob.dict=none:=by
 cases x with
 | str z =>
  obtain⟨t,rfl⟩:=r
  cases (show T="str" from ty)
  exact⟨typeIs_str s z t,fun _ e=>nomatch e⟩
 | int i =>
  obtain⟨t,rfl⟩:=r
  cases (show T="int" from ty)
  exact⟨typeIs_int s i t,fun _ e=>nomatch e⟩
 | ref p =>
  cases r
  rcases ty with⟨rfl,xs,hq⟩ | ⟨rfl,o,hk,hc,hd⟩ | ⟨rfl,hk⟩ | ⟨rfl,S,n,hk⟩
  ·obtain⟨its,_,pl,_⟩:=I.list hq
   refine⟨pl.isList.typeIs,fun a e=>?_⟩
   cases e
   obtain⟨o,n,e,c,hd,_⟩:=pl
   exact⟨o,e,hd⟩
  ·refine⟨⟨o,I.kIn p o hk,hc⟩,fun a e=>?_⟩
   cases e
   exact⟨o,I.kIn _ o hk,hd⟩
  ·have z:∃o, s.heap.get? p=some o /\ o.ExactDict := by
      rcases hk with⟨kvs,hk⟩ | ⟨kvs,hk⟩
      ·obtain⟨_,_,_,_,o,_,_,e,ex,_⟩:=I.hok p _ hk
       exact⟨o,e,ex⟩
      ·obtain⟨_,_,_,_,o,_,_,e,ex,_⟩:=I.hok p _ hk
       exact⟨o,e,ex⟩
   obtain⟨o,e,ex⟩:=z
   refine⟨⟨o,e,ex.1⟩,fun a e2=>?_⟩
   cases e2
   exact⟨o,e,ex.2.1⟩
  ·obtain⟨o,_,_,_,e,ex,_⟩:=I.hok p _ hk
   refine⟨⟨o,e,ex.1⟩,fun a e2=>?_⟩
   cases e2
   exact⟨o,e,ex.2.1⟩
 | _=>exact False.elim ty
def tBM (K:W.Frag) (T:String) (r:V->List V->Hp->VK->Prop) (to:TE) (t:TA):TE:=fun σ H Q=>to σ H fun x H1=>tyV K T x H1/\t σ H1 fun xs H2=>r x xs H2 Q
variable {o e:Expr}{es:List Expr}{to:TE}{t:TA}{name:Str}{apos cpos:Pos}{T id:String}{r:V->List V->Hp->VK->Prop}
theorem pe_bm (pa:PlainAttrs T) (slot:Slot T name id) (hty:typeOf (.builtin id)=pure (.type "method_descriptor")) (hm:MtR X id r) (ho:PE X o to) (ha:PA X (e :: es) t)
    (hbase:attributeBase o name X.env (eval o X.env)=eval o X.env:=by rfl)
    (hfew:((backTo cpos (starEach (e::es) X.env)).all (fun x=>!x.1)&&(backToKw cpos (keywordEach [] X.env)).all (fun x=>x.1.isSome)
     && decide ((e::es).length+([]:List Keyword).length+(if ([]:List Keyword).isEmpty then 0 else 1)<30))=true:=by rfl)
    (hline:(apos.endLine==cpos.line)=true:=by rfl) (hs:starEach (e::es) X.env=(false,eval e X.env)::starEach es X.env:=by rfl) (hplain:(backTo cpos (starEach es X.env)).any (·.1)=false:=by rfl) :
    PE X (.Call (.Attribute o name apos) (e::es) [] cpos) (tBM X.K T r to t):=by
 intro pins s σ H Q I h
 refine wpAny_Call_method_late hbase hfew hline rfl (thn (ho pins s σ H _ I h) fun v s1 ⟨x,H1,I1,r1,ty,q1⟩=>?_)
 obtain⟨h1,h2⟩:=tyV_is I1 r1 ty
 refine⟨T,id,pa,slot,hty,h1,h2,?_⟩
 have hA:=ha cpos pins s1 σ H1 _ I1 q1
 rw[hs] at hA ⊢
 refine Calls.callWith_builtin (by show (false||(backTo cpos (starEach es X.env)).any (·.1))=false;rw[hplain] <;> rfl) (Calls.evalArgs_plain ?_)
 exact thn hA fun us s2 ⟨vs,H2,I2,r2,q2⟩=>hm pins s2 σ H2 x vs v us Q I2 r1 r2 q2
end
def MtM (X:Cx) (id:String) (r:V->List V->Hp->VK->Prop):Prop :=
 ∀(pins:List (Addr × Obj)) (s:Shared) (σ:St) (H:Hp) (x:V) (xs:List V) (v:Value) (us:List Value) (Q:VK),Inv X pins σ H s->RelV x v->Vals xs us->r x xs H Q ->
  wpAny (model X.prog X.w) X.A (call (.builtin id) (v::us)) (EP X pins σ Q) X.xe s
theorem Vals.one:∀ {x:V}{us:List Value},Vals [x] us->∃u,us=[u]/\RelV x u
 | _,_,.cons r .nil=>⟨_,rfl,r⟩
section
variable {X:Cx}{pins:List (Addr × Obj)}{σ:St}{H:Hp}{s:Shared}{l b:Addr}{xs ys zs:List V}
theorem Inv.lset {its its':List Value}{n:Nat}{f:Array Value->Array Value}{t':Nat}(I:Inv X pins σ H s) (hH:H l=some (.lst xs))
    (e:s.heap.get? l=some { cls:=.type "list",data:=.seq its.toArray n }) (hf:f its.toArray=its'.toArray) (hv:Vals ys its') (hz:ys.length<=sizeLine) :
    Inv X pins σ (upd H l (.lst ys)) { s with heap:=s.heap.update l (Obj.mapSeq f),toks:=t' }:=by
 have q:=PySem.IsL.update e f
 rw[hf] at q
 refine I.write (x:=l) (e:=l) (by rw[hH];exact trivial) (.inl rfl) (fun b' u hb hu=>(bV s.heap (Obj.mapSeq f) (Ne.symm hb)).trans hu) ⟨_,q⟩ ?_
 exact⟨hz,its',_,hv,q⟩
theorem Inv.lnew {its:List Value}{t':Nat}(I:Inv X pins σ H s) (hv:Vals ys its) (hz:ys.length<=sizeLine) :
    Inv X pins σ (upd H s.heap.objs.size (.lst ys)) { s with heap:=s.heap.push { cls:=.type "list",data:=.seq its.toArray },toks:=t' } :=
 I.laid (fun _ _ q=>ay _ q) (ae _) ⟨hz,its,0,hv,aF _ rfl⟩
theorem Inv.fresh (I:Inv X pins σ H s):H s.heap.objs.size=none:=I.hok.fresh (ae _)
theorem Inv.lstM (I:Inv X pins σ H s) (hH:H l=some (.lst xs)):xs.length<=sizeLine/\∃(its:List Value) (n:Nat),Vals xs its/\xs.length=its.length/\s.heap.get? l=some { cls:=.type "list",data:=.seq its.toArray n }:=by
 obtain⟨z,its,n,r,e⟩:=I.hok l _ hH
 exact⟨z,its,n,r,r.length,e⟩
end
section
variable {X:Cx}
def rAppend:V->List V->Hp->VK->Prop:=fun x vs H Q=>∃l xs y,x=.ref l/\vs=[y]/\H l=some (.lst xs)/\xs.length<sizeLine/\Q .non (upd H l (.lst (xs++[y])))
theorem mt_append:MtM X "list.append" rAppend:=by
 intro pins s σ H x vs v us Q I rx rv h
 obtain⟨l,xs,y,rfl,rfl,hH,hz,q⟩:=h
 cases rx
 obtain⟨u,rfl,ru⟩:=rv.one
 obtain⟨z,its,n,r,hl,e⟩:=I.lstM hH
 refine call_meets F.slot_list_append ⟨_,e,rfl⟩ F.entry_list_append (F.args_list_append_2 _ _) (PySem.list_append l its.toArray n u (by rw[aE];omega)) ⟨e,?_⟩
 refine⟨.non,_,I.lset (its':=its++[u]) hH e (by simp) (r.append (.cons ru .nil)) ?_,rfl,q⟩
 rw[aG,List.length_singleton]
 omega
def rCat:R2:=fun x y H Q=>∃l b xs zs,x=.ref l/\y=.ref b/\H l=some (.lst xs)/\H b=some (.lst zs)/\xs.length+zs.length<=sizeLine/\∀p,H p=none->Q (.ref p) (upd H p (.lst (xs++zs)))
theorem op_cat:OpR X (binaryOp .Add) rCat:=by
 intro pins s σ H x y v u Q I rx ry h
 obtain⟨l,b,xs,zs,rfl,rfl,hH,hB,hz,q⟩:=h
 cases rx
 cases ry
 obtain⟨z,its,n,r,hl,e⟩:=I.lstM hH
 obtain⟨z2,its2,n2,r2,hl2,e2⟩:=I.lstM hB
 refine PySem.P.add_list e e2 ?_ (by rw[aE,aE];omega)
 have ea:its.toArray++its2.toArray=(its++its2).toArray:=by simp
 rw[ea]
 exact⟨.ref _,_,I.lnew (t':=s.toks) (r.append r2) (by rw[aG];omega),rfl,q _ I.fresh⟩
end
section
variable {κ:Type} [DecidableEq κ]
def valV (kvs:List (κ × V)) (k:κ):Option V:=(kvs.find? fun kv=>decide (kv.1=k)).map (·.2)
def putK (kvs:List (κ × V)) (k:κ) (v:V):List (κ × V) :=
 if (kvs.any fun kv=>decide (kv.1=k))=true then kvs.map (fun kv=>if kv.1=k then (kv.1,v) else kv) else kvs++[(k,v)]
theorem valV_nil {k:κ}:valV ([]:List (κ × V)) k=none:=rfl
theorem valV_pos {p:κ × V}{r:List (κ × V)}{k:κ}(e:p.1=k):valV (p::r) k=some p.2:=by simp[valV,bW,e]
theorem valV_neg {p:κ × V}{r:List (κ × V)}{k:κ}(e:¬ p.1=k):valV (p::r) k=valV r k:=by simp[valV,bW,e]
theorem valV_any (k:κ):∀kvs:List (κ × V),(kvs.any fun kv=>decide (kv.1=k))=(valV kvs k).isSome
 | []=>rfl
 | p::r=>by
  rw[bL]
  by_cases e:p.1=k
  ·simp only[valV_pos e,ao e,Bool.true_or,Option.isSome_some]
  ·rw[valV_neg e,aI e,Bool.false_or];exact valV_any k r
theorem valV_map (k j:κ) (y:V):∀kvs:List (κ × V), valV (kvs.map fun kv => if kv.1=k then (kv.1, y) else kv) j=(valV kvs j).map fun x => if j=k then y else x
 | []=>rfl
 | p::r=>by
  have ih:=valV_map k j y r
  rw[aV]
  by_cases h:p.1=k
  ·rw[if_pos h]
   by_cases e:p.1=j
   ·rw[valV_pos (p:=(p.1,y)) e,valV_pos e,Option.map_some,if_pos (e.symm.trans h)]
   ·rw[valV_neg (p:=(p.1,y)) e,valV_neg e,ih]
  ·rw[if_neg h]
   by_cases e:p.1=j
   ·rw[valV_pos (p:=p) e,valV_pos e,Option.map_some,if_neg (fun z=>h (e.trans z))]
   ·rw[valV_neg (p:=p) e,valV_neg e,ih]
theorem valV_snoc (k j:κ) (y:V):∀kvs:List (κ × V),valV kvs k=none->valV (kvs++[(k,y)]) j=if j=k then some y else valV kvs j
 | [],_=>by
  by_cases e:k=j
  ·rw[if_pos e.symm];exact valV_pos (p:=(k,y)) e
  ·rw[if_neg (fun z=>e z.symm)];exact valV_neg (p:=(k,y)) e
 | p::r,hn=>by
  rw[List.cons_append]
  have hk:¬ p.1=k:=fun z=>by rw[valV_pos z] at hn;cases hn
  rw[valV_neg hk] at hn
  have ih:=valV_snoc k j y r hn
  by_cases e:p.1=j
  ·rw[valV_pos e,valV_pos e,if_neg (fun z=>hk (e.trans z))]
  ·rw[valV_neg e,valV_neg e,ih]
theorem valV_put (kvs:List (κ × V)) (k j:κ) (y:V):valV (putK kvs k y) j=if j=k then some y else valV kvs j := by
 unfold putK
 by_cases a:(kvs.any fun kv=>decide (kv.1=k))=true
 ·rw[if_pos a,valV_map]
  rw[valV_any] at a
  by_cases e:j=k
  ·obtain⟨x,hx⟩:=bE.mp a
   rw[if_pos e,e,hx,Option.map_some,if_pos rfl]
  ·rw[if_neg e]
   cases valV kvs j with
   | none=>rfl
   | some x=>rw[Option.map_some,if_neg e]
 ·rw[if_neg a]
  refine valV_snoc k j y kvs ?_
  rw[valV_any] at a
  cases q:valV kvs k with
  | none=>rfl
  | some x=>rw[q] at a;exact(a rfl).elim
theorem length_putK (kvs:List (κ × V)) (k:κ) (v:V):(putK kvs k v).length<=kvs.length+1:=by
 unfold putK
 split
 ·rw[aa];omega
 ·rw[aG,be,List.length_nil];omega
theorem putK_new {kvs:List (κ × V)}{k:κ}(v:V) (h:valV kvs k=none):putK kvs k v=kvs++[(k,v)]:=by
 unfold putK
 rw[valV_any,h]
 exact if_neg (by decide)
theorem RelO.isSome_eq {o:Option V}{u:Option Value}(r:RelO o u):o.isSome=u.isSome:=by
 cases o with
 | none=>cases u with
  | none=>rfl
  | some _=>exact(show False from r).elim
 | some _=>cases u with
  | none=>exact(show False from r).elim
  | some _=>rfl
theorem KV.val {kvs:List (κ × V)}{vs:List (κ × Value)}(r:KV kvs vs) (k:κ):RelO (valV kvs k) (valueAt vs k) := by
 unfold KV at r
 induction r with
 | nil=>exact True.intro
 | @cons p q ps qs h t ih =>
  obtain⟨h1,h2⟩:=h
  by_cases e:p.1=k
  ·have e':q.1=k:=h1.symm.trans e
   have b:valueAt (q::qs) k=some q.2:=by simp[valueAt,bW,e']
   rw[valV_pos e,b];exact h2
  ·have e':¬ q.1=k:=fun z=>e (h1.trans z)
   have b:valueAt (q::qs) k=valueAt qs k:=by simp[valueAt,bW,e']
   rw[valV_neg e,b];exact ih
theorem KV.any {kvs:List (κ × V)}{vs:List (κ × Value)}(r:KV kvs vs) (k:κ):(kvs.any fun kv=>decide (kv.1=k))=vs.any fun kv=>decide (kv.1=k):=by
 unfold KV at r
 induction r with
 | nil=>rfl
 | cons h t ih=>rw[bL,bL,ih,h.1]
theorem KV.repl {kvs:List (κ × V)}{vs:List (κ × Value)}(r:KV kvs vs) (k:κ) {y:V}{u:Value}(ry:RelV y u) :
    KV (kvs.map fun kv=>if kv.1=k then (kv.1,y) else kv) (vs.map fun kv=>if kv.1=k then (kv.1,u) else kv):=by
 unfold KV at r ⊢
 induction r with
 | nil=>exact .nil
 | @cons p q ps qs h t ih =>
  rw[aV,aV]
  refine .cons ?_ ih
  obtain⟨h1,h2⟩:=h
  by_cases e:p.1=k
  ·rw[if_pos e,if_pos (h1.symm.trans e)];exact⟨h1,ry⟩
  ·rw[if_neg e,if_neg (fun z=>e (h1.trans z))];exact⟨h1,h2⟩
theorem KV.put {kvs:List (κ × V)}{vs:List (κ × Value)}(r:KV kvs vs) (k:κ) {y:V}{u:Value}(ry:RelV y u):KV (putK kvs k y) (stored vs k u):=by
 unfold putK stored
 rw[r.any k]
 by_cases e:(vs.any fun kv=>decide (kv.1=k))=true
 ·rw[if_pos e,if_pos e];exact r.repl k ry
 ·rw[if_neg e,if_neg e];exact Paired.snoc r ⟨rfl,ry⟩
theorem KV.length {kvs:List (κ × V)}{vs:List (κ × Value)}(r:KV kvs vs):kvs.length=vs.length:=Paired.length r
end
theorem kV_is {P:Program}{w:World}{k:Key}{u:Value}(r:RelV (kV k) u):(mixKind P w).is k u=true:=by
 cases k with
 | inl i=>obtain⟨t,e⟩:=(show ∃t,u=Value.int i t from r);subst e;exact mixKind_int P w i t
 | inr x=>obtain⟨t,e⟩:=(show ∃t,u=Value.str x t from r);subst e;exact mixKind_str P w x t
theorem items_are {P:Program}{w:World}:∀ {ks:List Key}{us:List Value},Vals (ks.map kV) us->ItemsAre (mixKind P w) ks us
 | [],_,r=>by rw[List.map_nil] at r;cases r;exact .nil
 | k::ks,_,r=>by
  rw[aV] at r
  cases r with
  | cons h t=>exact .cons (kV_is h) (items_are t)
abbrev KT (H:Hp):List (List Key × V)->List (List Key × Addr × Value)->Prop:=Paired fun p q=>p.1=q.1/\H q.2.1=some (.tup (p.1.map kV))/\RelV p.2 q.2.2
theorem KT.val {H:Hp}{kvs:List (List Key × V)}{xs:List (List Key × Addr × Value)}(r:KT H kvs xs) (k:List Key):RelO (valV kvs k) ((atKey xs k).map (·.2)) := by
 induction r with
 | nil=>exact True.intro
 | @cons p q ps qs h t ih =>
  obtain⟨h1,_,h2⟩:=h
  by_cases e:p.1=k
  ·have e':q.1=k:=h1.symm.trans e
   have b:atKey (q::qs) k=some q.2:=by simp[atKey,bW,e']
   rw[valV_pos e,b];exact h2
  ·have e':¬ q.1=k:=fun z=>e (h1.trans z)
   have b:atKey (q::qs) k=atKey qs k:=by simp[atKey,bW,e']
   rw[valV_neg e,b];exact ih
theorem KT.repl {H:Hp}{kvs:List (List Key × V)}{xs:List (List Key × Addr × Value)}(r:KT H kvs xs) (k:List Key) {y:V}{u:Value}(ry:RelV y u) :
    KT H (kvs.map fun kv=>if kv.1=k then (kv.1,y) else kv) (xs.map (putAt k u)):=by
 induction r with
 | nil=>exact .nil
 | @cons p q ps qs h t ih =>
  rw[aV,aV]
  refine .cons ?_ ih
  obtain⟨h1,h2,h3⟩:=h
  unfold putAt
  by_cases e:p.1=k
  ·rw[if_pos e,if_pos (h1.symm.trans e)];exact⟨h1,h2,ry⟩
  ·rw[if_neg e,if_neg (fun z=>e (h1.trans z))];exact⟨h1,h2,h3⟩
theorem KT.put {H:Hp}{kvs:List (List Key × V)}{xs:List (List Key × Addr × Value)}(r:KT H kvs xs) (k:List Key) {b:Addr}{y:V}{u:Value}(hb:H b=some (.tup (k.map kV))) (ry:RelV y u) :
    KT H (putK kvs k y) (storedH xs k b u):=by
 have e:(kvs.any fun kv=>decide (kv.1=k))=(atKey xs k).isSome:=by
  rw[valV_any,(r.val k).isSome_eq,Option.isSome_map]
 unfold putK storedH
 rw[e]
 by_cases q:(atKey xs k).isSome=true
 ·rw[if_pos q,if_pos q];exact r.repl k ry
 ·rw[if_neg q,if_neg q];exact Paired.snoc r ⟨rfl,hb,ry⟩
theorem KT.keeps {H H':Hp}{kvs:List (List Key × V)}{xs:List (List Key × Addr × Value)}(r:KT H kvs xs) (ht:∀b ys,H b=some (.tup ys)->H' b=some (.tup ys)):KT H' kvs xs :=
 Paired.mapP r fun _ _ z=>⟨z.1,ht _ _ z.2.1,z.2.2⟩
section
variable {P:Program}{w:World}{H:Hp}{h:Heap}{a:Addr}
theorem rd_of {u:HO}(ok:HOk P w H h) (e:Rd H a u):ObjOk P w H h a u:=e.ok ok
theorem dk_rd {kvs:List (Key × V)}(ok:HOk P w H h) (e:Rd H a (.dK kvs)):kvs.length<=sizeLine/\(a==sysModules)=false/\∃vs,KV kvs vs/\h.DictOf (mixKind P w) a vs :=
 show ObjOk P w H h a (.dK kvs) from rd_of ok e
theorem dk_of {kvs:List (Key × V)}(ok:HOk P w H h) (e:H a=some (.dK kvs)):kvs.length<=sizeLine/\(a==sysModules)=false/\∃vs,KV kvs vs/\h.DictOf (mixKind P w) a vs:=dk_rd ok (.inl e)
theorem key_of {ks:List Key}(ok:HOk P w H h) (e:H a=some (.tup (ks.map kV))):(tupleKind (mixKind P w)).is h ks a:=by
 obtain⟨_,its,r,o,h1,h2,n,h3,_⟩:=(show ObjOk P w H h a (.tup (ks.map kV)) from ok a _ e)
 exact⟨o,its.toArray,n,h1,h2,h3,by simpa using items_are r⟩
theorem dt_rd {kvs:List (List Key × V)}(ok:HOk P w H h) (e:Rd H a (.dT kvs)):kvs.length <= sizeLine /\ (a==sysModules)=false /\
    ∃xs,KT H kvs xs/\h.DictOfH (tupleKind (mixKind P w)) a xs:=by
 obtain⟨z,y,xs,r,o,es,ep,h1,h2,h3,h4,h5⟩:=(show ObjOk P w H h a (.dT kvs) from rd_of ok e)
 refine⟨z,y,xs,r,o,es,ep,h1,h2,h3,h4,fun x hx=>?_,h5⟩
 have all:∀ {l:List (List Key × V)} {m:List (List Key × Addr × Value)}, KT H l m -> ∀x ∈ m, (tupleKind (mixKind P w)).is h x.1 x.2.1 := by
  intro l m q
  induction q with
  | nil=>intro x hx;exact nomatch hx
  | @cons p q ps qs hq t ih =>
   intro x hx
   rcases ax.mp hx with e | hx
   ·subst e
    exact key_of ok (by rw[<- hq.1];exact hq.2.1)
   ·exact ih x hx
 exact all r x hx
theorem dt_of {kvs:List (List Key × V)}(ok:HOk P w H h) (e:H a=some (.dT kvs)):kvs.length<=sizeLine/\(a==sysModules)=false /\
    ∃xs,KT H kvs xs/\h.DictOfH (tupleKind (mixKind P w)) a xs:=dt_rd ok (.inl e)
end
def DGet (H:Hp) (a:Addr) (y:V) (r:Option V):Prop :=
 (∃kvs k,Rd H a (.dK kvs)/\y=kV k/\r=valV kvs k)∨∃kvs k b,Rd H a (.dT kvs)/\y=.ref b/\H b=some (.tup (k.map kV))/\r=valV kvs k
def DPut (H:Hp) (a:Addr) (y v:V) (H':Hp):Prop :=
 (∃kvs k,H a=some (.dK kvs)/\y=kV k/\kvs.length<sizeLine/\H'=upd H a (.dK (putK kvs k v))) ∨
 ∃kvs k b,H a=some (.dT kvs)/\y=.ref b/\H b=some (.tup (k.map kV))/\kvs.length<sizeLine/\H'=upd H a (.dT (putK kvs k v))
theorem DGet.k {H:Hp}{a:Addr}{kvs:List (Key × V)}{k:Key}(e:H a=some (.dK kvs)):DGet H a (kV k) (valV kvs k):=.inl ⟨kvs,k,.inl e,rfl,rfl⟩
theorem DGet.t {H:Hp}{a b:Addr}{kvs:List (List Key × V)}{k:List Key}(e:H a=some (.dT kvs)) (eb:H b=some (.tup (k.map kV))):DGet H a (.ref b) (valV kvs k):=.inr ⟨kvs,k,b,.inl e,rfl,eb,rfl⟩
theorem DPut.k {H:Hp}{a:Addr}{kvs:List (Key × V)}{k:Key}{v:V}(e:H a=some (.dK kvs)) (hl:kvs.length<sizeLine):DPut H a (kV k) v (upd H a (.dK (putK kvs k v))):=.inl ⟨kvs,k,e,rfl,hl,rfl⟩
theorem DPut.t {H:Hp}{a b:Addr}{kvs:List (List Key × V)}{k:List Key}{v:V}(e:H a=some (.dT kvs)) (eb:H b=some (.tup (k.map kV))) (hl:kvs.length<sizeLine) :
    DPut H a (.ref b) v (upd H a (.dT (putK kvs k v))):=.inr ⟨kvs,k,b,e,rfl,eb,hl,rfl⟩
section
variable {X:Cx}{pins:List (Addr × Obj)}{σ:St}{H:Hp}{s:Shared}{a:Addr}{y v:V}{u r:Value}{o:Option V}{A:Around}{E:Value->Shared->Prop}
theorem Inv.big (I:Inv X pins σ H s):sysModules<s.heap.objs.size:=by
 have h:mainGlobals<s.heap.objs.size:=(I.mod.glob.keeps I.bk).lt
 exact Nat.lt_trans (by decide) h
theorem d_getItem {Q:Value->Shared->Prop}(hu:A.units+1<cLine) (I:Inv X pins σ H s) (g:DGet H a y (some v)) (ry:RelV y u) (h:∀w' s',Inv X pins σ H s'->RelV v w'->Q w' s') :
    wpAny (model X.prog X.w) A (getItem (.ref a) u) Q E s:=by
 rcases g with⟨kvs,k,e,ey,l⟩ | ⟨kvs,k,b,e,ey,eb,l⟩
 ·subst ey
  obtain⟨z,hd,vs,rel,dd⟩:=dk_rd I.hok e
  obtain⟨w',hw,rw'⟩:=RelO.some_of (v:=v) (o:=valueAt vs k) (by rw[l];exact rel.val k)
  exact wpAny_getItem_of (kV_is ry) dd.mapOf hw (h w' _ (I.tok _) rw')
 ·subst ey
  cases (show u=Value.ref b from ry)
  obtain⟨z,hd,xs,rel,dd⟩:=dt_rd I.hok e
  obtain⟨w',hw,rw'⟩:=RelO.some_of (v:=v) (o:=(atKey xs k).map (·.2)) (by rw[l];exact rel.val k)
  obtain⟨p,hp,hp2⟩:=Option.map_eq_some_iff.mp hw
  refine wpAny_getItem_heap (tupleKind_room_in1 hu) (key_of I.hok eb) dd hp ?_
  rw[hp2]
  exact h w' _ (I.tok _) rw'
theorem d_in {Q:Value->Shared->Prop}(hu:A.units+1<cLine) (I:Inv X pins σ H s) (g:DGet H a y o) (ry:RelV y u) (h:∀s',Inv X pins σ H s'->Q (.bool o.isSome) s') :
    wpAny (model X.prog X.w) A (compareOp .In u (.ref a)) Q E s:=by
 rcases g with⟨kvs,k,e,ey,l⟩ | ⟨kvs,k,b,e,ey,eb,l⟩
 ·subst ey
  obtain⟨z,hd,vs,rel,dd⟩:=dk_rd I.hok e
  refine wpAny_in_of (kV_is ry) hd dd.mapOf ?_
  rw[<- (rel.val k).isSome_eq,<- l]
  exact h _ (I.tok _)
 ·subst ey
  cases (show u=Value.ref b from ry)
  obtain⟨z,hd,xs,rel,dd⟩:=dt_rd I.hok e
  refine wpAny_in_heap (tupleKind_room_in1 hu) (key_of I.hok eb) hd dd ?_
  have q:=(rel.val k).isSome_eq
  rw[Option.isSome_map] at q
  rw[<- q,<- l]
  exact h _ (I.tok _)
theorem d_notIn {Q:Value->Shared->Prop}(hu:A.units+1<cLine) (I:Inv X pins σ H s) (g:DGet H a y o) (ry:RelV y u) (h:∀s',Inv X pins σ H s'->Q (.bool (!o.isSome)) s') :
    wpAny (model X.prog X.w) A (compareOp .NotIn u (.ref a)) Q E s:=by
 rcases g with⟨kvs,k,e,ey,l⟩ | ⟨kvs,k,b,e,ey,eb,l⟩
 ·subst ey
  obtain⟨z,hd,vs,rel,dd⟩:=dk_rd I.hok e
  refine wpAny_notIn_of (kV_is ry) hd dd.mapOf ?_
  rw[<- (rel.val k).isSome_eq,<- l]
  exact h _ (I.tok _)
 ·subst ey
  cases (show u=Value.ref b from ry)
  obtain⟨z,hd,xs,rel,dd⟩:=dt_rd I.hok e
  refine wpAny_notIn_heap (tupleKind_room_in1 hu) (key_of I.hok eb) hd dd ?_
  have q:=(rel.val k).isSome_eq
  rw[Option.isSome_map] at q
  rw[<- q,<- l]
  exact h _ (I.tok _)
theorem d_write {h':Heap}{t':Nat}{ob:HO}(I:Inv X pins σ H s) (mu:Mut (H a)) (hs:Heap.SameBut a s.heap h') (he:∃q,h'.get? a=some q) (new:ObjOk X.prog X.w (upd H a ob) h' a ob) :
    Inv X pins σ (upd H a ob) { s with heap:=h',toks:=t' } :=
 I.write (x:=a) (e:=a) mu (.inl rfl) (fun b q hb z=>(hs.2 b hb).trans z) he new
theorem dk_new {P:Program}{w:World}{H':Hp}{h':Heap}{kvs:List (Key × V)}{vs:List (Key × Value)}(z:kvs.length<=sizeLine) (hd:(a==sysModules)=false) (rel:KV kvs vs) (dd:h'.DictOf (mixKind P w) a vs) :
    ObjOk P w H' h' a (.dK kvs):=⟨z,hd,vs,rel,dd⟩
theorem d_setItem {H':Hp}{Q:Unit->Shared->Prop}(hu:A.units+1<cLine) (I:Inv X pins σ H s) (g:DPut H a y v H') (ry:RelV y u) (rv:RelV v r) (h:∀s',Inv X pins σ H' s'->Q () s') :
    wpAny (model X.prog X.w) A (setItem (.ref a) u r) Q E s:=by
 rcases g with⟨kvs,k,e,ey,l,eH⟩ | ⟨kvs,k,b,e,ey,eb,l,eH⟩
 ·subst ey eH
  obtain⟨z,hd,vs,rel,dd⟩:=dk_of I.hok e
  have hz:vs.length<=sizeLine:=by rw[<- rel.length];exact z
  have hl:(putK kvs k v).length<=sizeLine:=by have:=length_putK kvs k v;omega
  refine wpAny_setItem_pairs (hsz:=hz) (kV_is ry) dd fun h' dd' hs=>h _ ?_
  have he:∃q,h'.get? a=some q:=let ⟨q,_,_,hq,_⟩:=dd';⟨q,hq⟩
  exact d_write I (by rw[e];exact True.intro) hs he (dk_new hl hd (rel.put k rv) dd')
 ·subst ey eH
  cases (show u=Value.ref b from ry)
  obtain⟨z,hd,xs,rel,dd⟩:=dt_of I.hok e
  have hz:xs.length<=sizeLine:=by rw[<- Paired.length rel];exact z
  have hl:(putK kvs k v).length<=sizeLine:=by have:=length_putK kvs k v;omega
  refine wpAny_setItem_heap (hsz:=hz) (tupleKind_room_in1 hu) (key_of I.hok eb) dd fun h' dd' hs=>h _ ?_
  obtain⟨q,es,ep,hq,h2,h3,h4,_,h5⟩:=dd'
  refine d_write I (by rw[e];exact True.intro) hs ⟨q,hq⟩ ⟨hl,hd,_,(rel.put k eb rv).keeps fun c ys ec=>?_,q,es,ep,hq,h2,h3,h4,h5⟩
  rw[upd_ne (ne_of ec e (fun z=>nomatch z))]
  exact ec
end
section
variable {X:Cx}{pins:List (Addr × Obj)}{σ:St}{H:Hp}{s:Shared}{a:Addr}{kvs:List (Key × V)}{k:Key}{u:Value}{A:Around}{E:Value->Shared->Prop}
theorem d_len {Q:Value->Shared->Prop}(I:Inv X pins σ H s) (e:Rd H a (.dK kvs)) (h:∀t s',Inv X pins σ H s'->Q (.int kvs.length t) s'):wpAny (model X.prog X.w) A (call (.builtin "len") [.ref a]) Q E s:=by
 obtain⟨z,hd,vs,rel,dd⟩:=dk_rd I.hok e
 refine call_len_dict hd dd (by rw[<- rel.length];rw[sizeLine_eq] at z;omega) ?_
 rw[<- rel.length]
 exact h _ _ (I.tok _)
end
theorem dict_typeIs {X:Cx}{pins:List (Addr × Obj)}{σ:St}{H:Hp}{s:Shared}{a:Addr}{y:V}{o:Option V}(I:Inv X pins σ H s) (g:DGet H a y o):s.TypeIs (.ref a) "dict":=by
 rcases g with⟨kvs,k,e,_,_⟩ | ⟨kvs,k,b,e,_,_,_⟩
 ·obtain⟨_,_,vs,_,dd⟩:=dk_rd I.hok e
  exact dd.typeIs
 ·obtain⟨_,_,xs,_,dd⟩:=dt_rd I.hok e
  exact dd.typeIs
theorem dk_empty {P:Program}{w:World}{H:Hp}(h:Heap) (hb:sysModules<h.objs.size):ObjOk P w H (h.push { cls:=.type "dict",data:=.dict #[] }) h.objs.size (.dK []) :=
 ⟨a0 _,beq_eq_false_iff_ne.mpr (Ne.symm (aB hb)),[],.nil,Heap.DictOf.new h⟩
theorem dt_empty {P:Program}{w:World}{H:Hp}(h:Heap) (hb:sysModules<h.objs.size):ObjOk P w H (h.push { cls:=.type "dict",data:=.dict #[] }) h.objs.size (.dT []) :=
 ⟨a0 _,beq_eq_false_iff_ne.mpr (Ne.symm (aB hb)),[],.nil,_,#[],0,aF _ rfl,⟨rfl,rfl,rfl⟩,rfl,rfl,bw⟩
def tDNewK:TE:=fun _ H Q=>∀p,H p=none->Q (.ref p) (upd H p (.dK []))
def tDNewT:TE:=fun _ H Q=>∀p,H p=none->Q (.ref p) (upd H p (.dT []))
section
variable {X:Cx}{pos:Pos}
theorem pe_dnewK:PE X (.Dict [] [] pos) tDNewK:=fun pins s σ H Q I h =>
 wpAny_Dict_empty ⟨.ref s.heap.objs.size,_,I.laid (a:=s.heap.objs.size) (o:=.dK []) (t':=s.toks) (fun _ _ q=>ay _ q) (ae _) (dk_empty s.heap I.big),rfl,h _ (I.hok.fresh (ae _))⟩
theorem pe_dnewT:PE X (.Dict [] [] pos) tDNewT:=fun pins s σ H Q I h =>
 wpAny_Dict_empty ⟨.ref s.heap.objs.size,_,I.laid (a:=s.heap.objs.size) (o:=.dT []) (t':=s.toks) (fun _ _ q=>ay _ q) (ae _) (dt_empty s.heap I.big),rfl,h _ (I.hok.fresh (ae _))⟩
end
end L2
namespace Att
open PySem PySem.W PySem.Calls PyProof.Rows
theorem ints_of_wellAll {P:Params}{h:Heap}:∀(ns:List Int) (vs:List Value), WellAll P h vs (ns.map WData.int) -> IntsAre vs ns := by
 intro ns
 induction ns with
 | nil =>
  intro vs w
  rw[List.map_nil] at w
  cases w
  exact .nil
 | cons n ns ih =>
  intro vs w
  rw[aV] at w
  cases w with
  | cons a b =>
   cases a
   exact .cons _ _ (ih _ b)
theorem script_of {l:OpenLaw}{n:Nat}(hn:l.most=some n) {P:Params}{h:Heap}{args:List WData}{vals:List Value}
    (hpre:l.row.toRowW.claim.pre args=true) (hwl:WellAll P h vals args) :
    ∃a vs ns,vals=[Value.ref a]/\args=[WData.list (ns.map WData.int)]/\h.get? a=some { cls:=.type "list",data:=.seq vs.toArray }/\IntsAre vs ns/\ns.length<=n:=by
 have hsh:WShape.hasAll [] args [.list .int]=true:=(pre_splitW hpre).1
 have hc:l.pre.holds [] { args:=args }=true:=(pre_splitW hpre).2
 obtain⟨d,r,rfl,h1,h2⟩:=hasAllW_cons hsh
 obtain rfl:=hasAllW_nil h2
 obtain⟨xs,rfl,h3⟩:=hasW_list h1
 obtain⟨ns,rfl⟩:=items_int h3
 have hlen:ns.length<=n:=by
  unfold OpenLaw.pre at hc
  have h4:(WTm.not (.lt (.lit (.int (n:Int))) (.len (.arg 0)))).holds [] { args:=[.list (ns.map .int)] }=true:=by
   have h4:=(holds_andW hc).1
   rw[hn] at h4
   exact h4
  have h5:=condW_of h4 (w_not (w_lt w_lit (w_len_list (w_arg rfl))))
  rw[aa] at h5
  refine bX fun q=>?_
  have q':(n:Int)<((ns.length:Nat):Int):=by omega
  first
   | (rw[ao q'] at h5;exact absurd h5 (by decide))
   | (simp at h5;omega)
 cases hwl with
 | cons w1 w2 =>
  cases w2
  cases w1 with
  | list ho hall=>exact⟨_,_,ns,rfl,rfl,ho,ints_of_wellAll ns _ hall,hlen⟩
theorem post_true (l:OpenLaw) (args:List WData):l.row.toRowW.claim.post args (.bool true) args=true :=
 postW_of (r:=l.row.toRowW) (X:=(true==true))
  (show WShape.has [] (.bool true) .bool=true by first | rfl | decide | simp[WShape.has,WShape.arms,WShape.armsAll])
  (show (WTm.eq .res (.lit (.bool true))).value [] { args:=args,res:=some (.bool true),after:=args }=some (.bool (true==true)) from w_eq_bool (w_res rfl) w_lit) rfl
theorem attach_call {l:OpenLaw}{n:Nat}{q:Program}{loose:List Str}{XP:(Str -> Option Value) -> Heap -> Prop}{YP:World -> Heap -> Prop}{d:DefRec}
    (hn:l.most=some n) (hdf:d.params.defaults=[])
    (call:∀(w:World) (s₀ s₁:Shared) (mg mb:Str->Option Value) (fa:Addr) (o:Obj) (pm cd doc:Value) (a:Addr) (vs:List Value) (ns:List Int),
     Ground q loose [] XP w s₀ mg mb s₁.heap->YP w s₁.heap ->
     s₁.heap.get? fa=some o->o.data=.func (docDef d.name d.params d.body d.scope pm cd doc)->s₁.heap.CodeRec cd d.name->mg d.name=some (.ref fa) ->
     s₁.heap.get? a=some { cls:=.type "list",data:=.seq vs.toArray }->IntsAre vs ns->ns.length<=n->s₁.gens=#[] ->
     codeAny (model l.prog w) callerA (.call (.ref fa) ⟨[.ref a],[]⟩) (fun r s'=>r=.ok (.ret (.bool true))/\OldK s₁.heap s'.heap/\s'.os=s₁.os/\AllBare s'.gens) s₁) :
    WalkO q loose XP YP l.row.toRowW d [] (fun f vs=>PySem.call f vs):=by
 intro w s₀ s₁ mg mb G Y fa o pm cd doc dV kV ho hd hcd hD hmg hg args vals as hpre hlay hrd hwl hlo
 obtain rfl:dV=.none:=Dflts.none hD hdf
 obtain rfl:kV=.none:=Dflts.noKw hD
 obtain⟨a,vs,ns,rfl,rfl,hobj,hints,hlen⟩:=script_of hn hpre hwl
 refine enter_call (codeAny_mono (call w s₀ s₁ mg mb fa o pm cd doc a vs ns G Y ho (fd_plain hd) hcd hmg hobj hints hlen hg) fun r s' hq=>?_)
 obtain⟨rfl,h2,h3,h4⟩:=hq
 exact⟨.inl ⟨.bool true,.bool true,[],rfl,fun _=>rfl,.bool true,post_true l _,fun _=>⟨List.Pairwise.nil,fun _ hm=>(nomatch hm)⟩⟩,h2,h3,h4⟩
end Att
namespace L2
open PySem PySem.Spec PyProof.Rows
theorem vals_ints:∀ {vs:List Value}{ns:List Int},IntsAre vs ns->Vals (ns.map V.int) vs
 | _,_,.nil=>.nil
 | _,_,.cons n t h=>.cons ⟨t,rfl⟩ (vals_ints h)
def Only (H:Hp):Prop:=∀b,H b=none∨∃o xs,H b=some (.frz o (.lst xs))
theorem law_call {P:Program}{w:World}{K:W.Frag}{mg mb:Str -> Option Value}{CX:CXT}{k:Nat}{fa a:Addr}{fd:FuncData}{x:Str}{sp:Sp}{s₁:Shared}{vs:List Value}{ns:List Int}
    (KX:K.In s₁.heap) (hns:s₁.heap.Ns mainGlobals mg) (hb:s₁.heap.Ns builtinsNs mb) (hbb:∀x:Str,x≠"__name__"->mb x=bootBuiltins x) (hlim:s₁.heap.NoLimit) (hg:s₁.gens=#[])
    (ha:s₁.heap.get? a=some { cls:=.type "list",data:=.seq vs.toArray }) (hi:IntsAre vs ns) (hl:ns.length<=sizeLine) (hr:Room k callerA)
    (F:∀base:Heap,K.In base->base.Ns mainGlobals mg->FnOk P w K mg base CX k fa fd [x] sp) (hbind:∀(s:Shared) (u:Value),BindsTo s fd ⟨[u],[]⟩ [(x,u)])
    (hsp:∀H:Hp,Only H->SqL K H a (ns.map V.int)->sp [.ref a] H (fun v _=>v=.bl true) fun _ _ _=>False)
    (hCX:∀H e s',CX [] H s₁ (fun _ _ _=>False) e s'->False) :
    codeAny (model P w) callerA (.call (.ref fa) ⟨[.ref a],[]⟩) (fun r s'=>r=.ok (.ret (.bool true))/\OldK s₁.heap s'.heap/\s'.os=s₁.os/\AllBare s'.gens) s₁:=by
 have rv:=vals_ints hi
 have lenV:=hi.length
 have core:∀H:Hp, Only H -> SqL K H a (ns.map V.int) -> HOk P w H s₁.heap -> (∀b, H b ≠ none -> b=a) -> (H a ≠ none -> K.lookup a=none) ->
     codeAny (model P w) callerA (.call (.ref fa) ⟨[.ref a],[]⟩) (fun r s'=>r=.ok (.ret (.bool true))/\OldK s₁.heap s'.heap/\s'.os=s₁.os/\AllBare s'.gens) s₁:=by
  intro H hO hS hok hA hK
  have base_of:∀ {b:Addr} {o:Obj},s₁.heap.get? b=some o->H b=none->(hidT s₁.heap H).get? b=some o:=fun e n=>hidT_get e n
  have noA:∀ {b:Addr} {o:Obj} {es:Array DictEntry} {ep:Nat},s₁.heap.get? b=some o->o.data=.dict es ep->H b=none:=fun {b o es ep} e d=>by
   cases q:H b with
   | none=>rfl
   | some u =>
    have e':b=a:=hA b (by rw[q];simp)
    subst e'
    rw[ha] at e;cases e
    have d':Data.seq vs.toArray _=Data.dict es ep:=d
    cases d'
  have nsK:∀ {b:Addr} {m:Str->Option Value},s₁.heap.Ns b m->(hidT s₁.heap H).Ns b m:=fun {b m} ⟨o,es,ep,e,d,r⟩=>⟨o,es,ep,base_of e (noA e d),d,r⟩
  have hKb:K.In (hidT s₁.heap H):=fun b o e=>base_of (KX b o e) (by
   cases q:H b with
   | none=>rfl
   | some u =>
    have e':b=a:=hA b (by rw[q];simp)
    subst e'
    rw[hK (by rw[q];simp)] at e;cases e)
  have hM:Mod K mg (hidT s₁.heap H):=⟨hKb,nsK hns,⟨mb,nsK hb,hbb⟩,let ⟨mc,h1,h2⟩:=hlim;⟨mc,nsK h1,h2⟩⟩
  have e0:Env0 P w K mg (hidT s₁.heap H) callerA [] s₁ H:=⟨rfl,hM,fun b o e=>of_hidT e,Nat.le_of_eq (hidT_size _ _),trivial,fun b hb=>absurd (show b∈([]:List Addr) from hb) (by simp),hok,.of_eq hg⟩
  refine codeAny_mono ((F _ hKb (nsK hns)).run callerA [] s₁ H ⟨[.ref a],[]⟩ [.ref a] [.ref a] _ _ hr e0 (hbind s₁ (.ref a)) (.cons rfl .nil) (hsp H hO hS)) fun r s' h=>?_
  cases r with
  | error e=>exact(hCX H e s' h).elim
  | ok fl =>
   cases fl with
   | next=>exact False.elim h
   | brk=>exact False.elim h
   | cont=>exact False.elim h
   | ret u =>
    obtain⟨v,H',os,bare,un,hok',r',q⟩:=h
    have q':v=.bl true:=q
    subst q'
    obtain rfl:u=Value.bool true:=r'
    refine⟨rfl,OldK.of_keep fun b o e=>?_,os,bare⟩
    cases q:H b with
    | none=>exact un.keep b o e q (by intro z;exact absurd (show b∈([]:List Addr) from z) (by simp)) (by simp)
    | some u =>
     rcases hO b with z | ⟨ob,xs,z⟩
     ·rw[q] at z;cases z
     ·have z2:=un.frzs b ob _ z
      obtain⟨e1,_⟩:=hok b _ z
      obtain⟨e2,_⟩:=hok' b _ z2
      rw[e] at e1;cases e1
      exact e2
 cases hk:K.lookup a with
 | some o =>
  have e:=KX a o hk
  rw[ha] at e
  cases e
  refine core (fun _=>none) (fun _=>.inl rfl) (.inr ⟨_,vs.toArray,_,hk,rfl,rfl,rfl,by rw[aE,lenV];exact hl,by simpa using rv⟩) (fun b u z=>by have z':(none:Option HO)=some u:=z;cases z') (fun b z=>absurd rfl z) fun z=>absurd rfl z
 | none =>
  refine core (fun b=>if b=a then some (.frz { cls:=.type "list",data:=.seq vs.toArray } (.lst (ns.map V.int))) else none) (fun b=>?_) (.inl (.inr ⟨{ cls:=.type "list",data:=.seq vs.toArray },if_pos rfl⟩)) (fun b u z=>?_) (fun b z=>?_) fun _=>hk
  ·by_cases hb:b=a
   ·exact .inr ⟨_,_,if_pos hb⟩
   ·exact .inl (if_neg hb)
  ·by_cases hb:b=a
   ·have z':=(if_pos hb).symm.trans z
    cases z'
    subst hb
    exact⟨ha,by rw[aa];exact hl,vs,_,rv,ha⟩
   ·have z':=(if_neg hb).symm.trans z
    cases z'
  ·by_cases hb:b=a
   ·exact hb
   ·exact absurd (if_neg hb) z
theorem walk_of {l:W.OpenLaw}{n k:Nat}{q:Program}{loose:List Str}{XP:(Str -> Option Value) -> Heap -> Prop}{YP:World -> Heap -> Prop}{d:DefRec}{K:Params -> W.Frag}{CX:World -> CXT}{sp:World -> Sp}{x:Str}
    (hn:l.most=some n) (hn2:n<=sizeLine) (hdf:d.params.defaults=[]) (hr:Room k callerA)
    (hY:∀(w:World) (h:Heap),YP w h->(K w.params).In h)
    (F:∀(w:World) (mg:Str->Option Value) (fa:Addr) (h:Heap),(K w.params).In h->h.Ns mainGlobals mg->mg d.name=some (.ref fa) ->
     ∃fd:FuncData,(∀(s:Shared) (u:Value),BindsTo s fd ⟨[u],[]⟩ [(x,u)]) /\
      ∀base:Heap,(K w.params).In base->base.Ns mainGlobals mg->FnOk l.prog w (K w.params) mg base (CX w) k fa fd [x] (sp w))
    (hsp:∀(w:World) (H:Hp) (a:Addr) (ns:List Int),ns.length<=n->Only H->SqL (K w.params) H a (ns.map V.int)->sp w [.ref a] H (fun v _=>v=.bl true) fun _ _ _=>False)
    (hCX:∀(w:World) (H:Hp) (s:Shared) (e:Value) (s':Shared),CX w [] H s (fun _ _ _=>False) e s'->False) :
    W.WalkO q loose XP YP l.row.toRowW d [] (fun f vs=>PySem.call f vs):=by
 refine Att.attach_call hn hdf fun w s₀ s₁ mg mb fa o pm cd doc a vs ns G Y ho hd hcd hmg hobj hints hlen hg=>?_
 have KX:=hY w _ Y
 obtain⟨fd,hb,hF⟩:=F w mg fa _ KX G.T.g hmg
 exact law_call KX G.T.g G.T.b G.T.builtins G.T.nolimit hg hobj hints (aW hlen hn2) hr hF hb (fun H hO hS=>hsp w H a ns hlen hO hS) fun H e s'=>hCX w H s₁ e s'
def defArgs (s:Stmt):Arguments:=match s with
 | .FunctionDef _ a _ _ _ _ _ _ _ _=>a
 | _=>{ posonlyargs:=[],args:=[],vararg:=none,kwonlyargs:=[],kw_defaults:=[],kwarg:=none,defaults:=[] }
def defBody (s:Stmt):List Stmt:=match s with
 | .FunctionDef _ _ b _ _ _ _ _ _ _=>b
 | _=>[]
def defScope (s:Stmt):Scope:=match s with
 | .FunctionDef _ _ _ _ _ _ sc _ _ _=>sc
 | _=>{ kind:=.function,names:=[],isGenerator:=false,isCoroutine:=false }
abbrev CX0:CXT:=fun _ _ _ _ _ _=>False
abbrev E0:XK:=fun _ _ _=>False
theorem pass0 {X:Cx}:Passes CX0 X E0:=fun _ _ _ _ _ _ _ h=>h.elim
structure Fun (K:W.Frag) (x qual:Str) (st:Stmt) (f:Addr) (fd:FuncData):Prop where
 ex:∃(oc:Value) (od:Option Addr) (kV doc pm:Value) (an:Option Addr) (cdv ct:Value) (osl:Array (Option Value)),
  fd=W.fnOf x qual (defArgs st) (defBody st) (defScope st) .none kV doc pm an cdv ct/\K.lookup f=some ⟨oc,od,.func fd,osl⟩/\W.codeIn K cdv qual=true
 kp:W.keepIn K (.ref f)=true
section
variable {P:Program}{w:World}{K:W.Frag}{mg:Str->Option Value}{base:Heap}
theorem Fun.ok {x qual:Str}{st:Stmt}{f:Addr}{fd:FuncData}{N ps:List Str}{k:Nat}{sp:Sp}(F:Fun K x qual st f fd) (S:FnScope N ps (defScope st)) (len:∀vs H Q E, sp vs H Q E -> vs.length=ps.length)
    (hbody:∀(cdv:Value) (A:Around) (outer:List Env) (s:Shared) (H:Hp) (vs:List V) (Q:VK) (E:XK),Room k (A.deeper (envOfC qual (defScope st) s.heap.objs.size f cdv))->sp vs H Q E ->
     ∃t,PSs (cxOf CX0 P w K mg base N qual (defScope st) f cdv A outer s H E).nox (defBody st) t/\t { nx:=fun _ H'=>Q .non H',rt:=Q } (start N vs) H):FnOk P w K mg base CX0 (k+1) f fd ps sp:=by
 obtain⟨oc,od,kV,doc,pm,an,cdv,ct,osl,rfl,lk,hcd⟩:=F.ex
 refine fn_of lk hcd S len fun A outer s H vs Q E hr hsp=>?_
 obtain⟨t,h,q⟩:=hbody cdv A outer s H vs Q E hr hsp
 exact⟨t,h.nox,q⟩
theorem Fun.binds {x qual:Str}{st:Stmt}{f:Addr}{fd:FuncData}{ps:List Str}(F:Fun K x qual st f fd)
    (h:∀(kV doc pm:Value) (an:Option Addr) (cdv ct:Value) (us:List Value),us.length=ps.length->bindArgs (W.fnOf x qual (defArgs st) (defBody st) (defScope st) .none kV doc pm an cdv ct) ⟨us,[]⟩=pure (ps.zip us)):Binds K fd ps []:=by
 obtain⟨oc,od,kV,doc,pm,an,cdv,ct,osl,rfl,lk,hcd⟩:=F.ex
 exact .all (h kV doc pm an cdv ct)
theorem fun_mk {x qual:Str}{st:Stmt}{f:Addr}{oc:Value}{od an:Option Addr}{osl:Array (Option Value)}{kV doc pm cdv ct:Value}(l:K.lookup f=some ⟨oc,od,.func (W.fnOf x qual (defArgs st) (defBody st) (defScope st) .none kV doc pm an cdv ct),osl⟩)
    (c:W.codeIn K cdv qual=true) (k:W.keepIn K (.ref f)=true):Fun K x qual st f (W.fnOf x qual (defArgs st) (defBody st) (defScope st) .none kV doc pm an cdv ct):=⟨⟨oc,od,kV,doc,pm,an,cdv,ct,osl,rfl,l,c⟩,k⟩
end
theorem small1000 {n:Nat}(h:n<=1000):n<sizeLine:=Nat.lt_of_le_of_lt h (by decide)
section
variable {X:Cx}
theorem pv (i:Nat) {x:Str}{pos:Pos}(hN:X.N[i]? = some x:=by rfl) (hv:Vis X.env.scope x:=by first | exact Or.inl rfl | exact Or.inr (Or.inl rfl) | exact Or.inr (Or.inr rfl)) (hd:(x==("__debug__":Str))=false:=by decide)
    (hcd:(x==("__classdict__":Str))=false:=by decide):PE X (.Name x pos) (tVar i):=pe_var hN hv hd hcd
theorem call_lenD:CallR X (.builtin "len") (fun xs H Q=>∃a kvs,xs=[V.ref a]/\H a=some (.dK kvs)/\Q (.int kvs.length) H):=by
 intro pins s σ H xs us Q I r h
 obtain⟨a,kvs,rfl,ha,q⟩:=h
 obtain⟨u,rfl,ru⟩:=vals1 r
 cases ru
 exact d_len I (.inl ha) fun t s' I'=>⟨.int kvs.length,H,I',⟨t,rfl⟩,q⟩
end
theorem iteF {A B:Prop}(h:B):if false=true then A else B:=by
 rw[if_neg aL]
 exact h
theorem iteT {A B:Prop}(h:A):if true=true then A else B:=by
 rw[if_pos rfl]
 exact h
theorem ite2 {c A B:Prop} [Decidable c] (h1:c->A) (h2:¬ c->B):if c then A else B:=by
 by_cases h:c
 ·rw[if_pos h]
  exact h1 h
 ·rw[if_neg h]
  exact h2 h
def Same (H H':Hp):Prop:=∀b o,H b=some o->H' b=some o
theorem Same.refl (H:Hp):Same H H:=fun _ _ h=>h
theorem Same.trans {H H1 H2:Hp}(a:Same H H1) (b:Same H1 H2):Same H H2:=fun c o h=>b c o (a c o h)
section
variable {κ:Type} [DecidableEq κ]
theorem valV_not {kvs:List (κ × V)}{k:κ}(h:valV kvs k=none):¬ k∈kvs.map (·.1):=by
 intro m
 obtain⟨p,hp,e⟩:=ap.mp m
 have q:(kvs.any fun kv=>decide (kv.1=k))=true:=bY.mpr ⟨p,hp,ao e⟩
 rw[valV_any,h] at q
 exact absurd q (by simp)
theorem valV_in {kvs:List (κ × V)}{k:κ}{v:V}(h:valV kvs k=some v):k∈kvs.map (·.1):=by
 have q:(kvs.any fun kv=>decide (kv.1=k))=true:=by
  rw[valV_any,h]
  all_goals rfl
 obtain⟨p,hp,e⟩:=bY.mp q
 exact ap.mpr ⟨p,hp,az e⟩
theorem nd_snoc:∀ {l:List κ}{k:κ},l.Nodup->¬ k∈l->(l++[k]).Nodup
 | [],k,_,_=>by simp
 | a::r,k,h,hk=>by
  obtain⟨h1,h2⟩:=aP.mp h
  show (a::(r++[k])).Nodup
  refine aP.mpr ⟨fun m=>?_,nd_snoc h2 fun m=>hk (ax.mpr (Or.inr m))⟩
  rcases aq.mp m with q | q
  ·exact h1 q
  ·exact hk (ax.mpr (Or.inl (aQ.mp q).symm))
theorem nd_putK {kvs:List (κ × V)}{k:κ}(v:V) (hn:(kvs.map (·.1)).Nodup) (h:valV kvs k=none):((putK kvs k v).map (·.1)).Nodup:=by
 rw[putK_new v h,ah]
 exact nd_snoc hn (valV_not h)
end
end L2
set_option maxHeartbeats 4000000
namespace L2
open PySem PySem.Spec PyProof.Rows
theorem clos_go {env:Env}{f:Str × NameKind -> List (Str × Addr) -> Sem (ForInStep (List (Str × Addr)))}
    (f1:∀n k r,k≠NameKind.free->f (n,k) r=pure (.yield r))
    (f2:∀n c r,env.cells.lookup n=some c->f (n,NameKind.free) r=pure (.yield ((n,c)::r))) :
    ∀(names:List (Str × NameKind)) (acc:List (Str × Addr)),
    (∀y∈names,y.2=NameKind.free->∃c,env.cells.lookup y.1=some c) ->
    (∀x c,acc.lookup x=some c->env.cells.lookup x=some c) ->
    ∃cl,forIn names acc f=(pure cl:Sem (List (Str × Addr)))/\(∀x c,cl.lookup x=some c->env.cells.lookup x=some c) /\
     (∀x,(acc.lookup x).isSome=true->(cl.lookup x).isSome=true)/\∀y∈names,y.2=NameKind.free->(cl.lookup y.1).isSome=true
 | [],acc,_,h=>⟨acc,by rw[List.forIn_nil],h,fun _ q=>q,fun y hy=>nomatch hy⟩
 | (n, k) :: r, acc, hn, h => by
  by_cases hk:k=NameKind.free
  ·subst hk
   obtain⟨c,hc⟩:=hn (n,.free) bR rfl
   have hc':env.cells.lookup n=some c:=hc
   obtain⟨cl,e,a,b,d⟩:=clos_go f1 f2 r ((n,c)::acc) (fun y hy=>hn y (aN _ hy)) (fun x c' q=>by
    rw[bf] at q
    cases e:x==n with
    | true =>
     rw[e] at q
     cases q
     rw[show x=n from LawfulBEq.eq_of_beq e]
     exact hc'
    | false =>
     rw[e] at q
     exact h x c' q)
   refine⟨cl,?_,a,fun x q=>b x ?_,fun y hy hf=>?_⟩
   ·rw[bZ,f2 n c acc hc',pure_bind]
    exact e
   ·rw[bf]
    cases x==n with
    | true=>rfl
    | false=>exact q
   ·rcases ax.mp hy with rfl | hy
    ·refine b _ ?_
     rw[bf]
     simp
    ·exact d y hy hf
  ·obtain⟨cl,e,a,b,d⟩:=clos_go f1 f2 r acc (fun y hy=>hn y (aN _ hy)) h
   refine⟨cl,?_,a,b,fun y hy hf=>?_⟩
   ·rw[bZ,f1 n k acc hk,pure_bind]
    exact e
   ·rcases ax.mp hy with rfl | hy
    ·exact absurd hf hk
    ·exact d y hy hf
theorem clos_ok {scope:Scope}{env:Env}(hf:∀y ∈ scope.names, y.2=NameKind.free -> ∃c, env.cells.lookup y.1=some c) :
    ∃cl,closureFor scope env=pure cl/\(∀x c,cl.lookup x=some c->env.cells.lookup x=some c) /\
     ∀y∈scope.names,y.2=NameKind.free->∃c,cl.lookup y.1=some c:=by
 have go:=clos_go (env:=env) (f:=fun (x:Str × NameKind) (r:List (Str × Addr))=>match x with
     | (name,kind)=>if (kind==NameKind.free)=true then do let c ← cellOf env name;pure (ForInStep.yield ((name,c)::r)) else pure (ForInStep.yield r))
  (fun n k r hk=>by
   have z:(k==NameKind.free)=false:=by simpa using hk
   simp only[z,ca,if_false])
  (fun n c r hc=>by
   simp only[beq_self_eq_true,if_true,cellOf,hc,pure_bind])
  scope.names [] hf (fun x c q=>by cases q)
 obtain⟨cl,e,a,_,d⟩:=go
 refine⟨cl,?_,a,fun y hy z=>bE.mp (d y hy z)⟩
 simp only[closureFor]
 first
  | exact e
  | (simp only[bind_pure];exact e)
  | (refine Eq.trans ?_ e;simp only[bind_pure])
def cxC (X:Cx) (scope:Scope) (N:List Str) (cl:List (Str × Addr)) (C:Addr) (s₀:Shared) (H₀:Hp) (ex:List Addr):Cx where
 prog:=X.prog
 w:=X.w
 K:=X.K
 mg:=X.mg
 base:=X.base
 A:=X.A
 N:=N
 s₀:=s₀
 H₀:=H₀
 env:=compEnvC scope cl C X.env
 outer:=X.stack
 stack:=X.stack
 ex:=ex
 fn:=fun _=>false
 calm:=X.calm
 pn:=[]
 xe:=fun _ _=>False
def inSt (k:Nat) (fr:List Nat) (σ:St):St:=List.replicate k none++fr.map fun i=>(σ[i]?).join
def frOk (osc scope:Scope) (NX:List Str) (fr:List Nat):Bool:=fr.all fun i=>match NX[i]? with
 | some x=>(decide (osc.names.lookup x=some .cell)||decide (osc.names.lookup x=some .free))&&decide (scope.names.lookup x=some .free)
 | none=>false
structure CompSc (osc scope:Scope) (NX own:List Str) (fr:List Nat) (N:List Str):Prop where
 kind:scope.kind=.function
 nocell:∀y∈scope.names,y.2≠NameKind.cell
 loc:∀y∈scope.names,y.2=NameKind.local->scope.names.lookup y.1=some .local
 free:∀y∈scope.names,y.2=NameKind.free->osc.names.lookup y.1=some .cell∨osc.names.lookup y.1=some .free
 names:N.map some=own.map some++fr.map fun i=>NX[i]?
 outer:frOk osc scope NX fr=true
def compOk (osc scope:Scope) (NX own:List Str) (fr:List Nat) (N:List Str):Bool :=
 decide (scope.kind=.function)&&(scope.names.all (fun y=>decide (y.2≠NameKind.cell))&&(scope.names.all (fun y=>decide (y.2=NameKind.local->scope.names.lookup y.1=some .local)) &&
  (scope.names.all (fun y=>decide (y.2=NameKind.free->(osc.names.lookup y.1=some .cell∨osc.names.lookup y.1=some .free)))&&(decide (N.map some=own.map some++fr.map fun i=>NX[i]?)&&frOk osc scope NX fr))))
theorem CompSc.of {osc scope:Scope}{NX own:List Str}{fr:List Nat}{N:List Str}(h:compOk osc scope NX own fr N=true):CompSc osc scope NX own fr N:=by
 unfold compOk at h
 simp only[bd,decide_eq_true_eq,bi] at h
 obtain⟨h1,h2,h3,h4,h5,h6⟩:=h
 exact⟨h1,h2,h3,h4,h5,h6⟩
theorem CompSc.len {osc scope:Scope}{NX own:List Str}{fr:List Nat}{N:List Str}(S:CompSc osc scope NX own fr N):N.length=own.length+fr.length:=by
 have h:=congrArg List.length S.names
 simpa using h
theorem lookup_relabel_free {env:Env}:∀ {names:List (Str × NameKind)}{x:Str}, names.lookup x=some .free ->
    (names.map fun (n,k)=>if (k==NameKind.free&&env.scope.kind==.function&&env.kindOf n==some .cell) then (n,NameKind.cell) else (n,k)).lookup x=some .cell ∨
    (names.map fun (n,k)=>if (k==NameKind.free&&env.scope.kind==.function&&env.kindOf n==some .cell) then (n,NameKind.cell) else (n,k)).lookup x=some .free
 | [],_,h=>by simp at h
 | (n,k)::r,x,h=>by
  have ih:=@lookup_relabel_free env r x
  cases hx:x==n with
  | true =>
   simp only[bf,hx] at h
   cases h
   simp only[aV]
   split
   ·left;simp[bf,hx]
   ·right;simp[bf,hx]
  | false =>
   simp only[bf,hx] at h
   simp only[aV]
   split
   ·simp only[bf,hx];exact ih h
   ·simp only[bf,hx];exact ih h
theorem of_relabel {env:Env}:∀ {names:List (Str × NameKind)}{x:Str}{k':NameKind},
    (names.map fun (n,k)=>if (k==NameKind.free&&env.scope.kind==.function&&env.kindOf n==some .cell) then (n,NameKind.cell) else (n,k)).lookup x=some k' ->
    k'=.cell∨k'=.free->(∀y∈names,y.2≠NameKind.cell)->∃y∈names,y.1=x/\y.2=.free
 | [],_,_,h,_,_=>by simp at h
 | (n, k) :: r, x, k', h, hk, nc => by
  have ih:=@of_relabel env r x k'
  simp only[aV] at h
  cases hx:x==n with
  | true =>
   have ex:x=n:=LawfulBEq.eq_of_beq hx
   refine⟨(n,k),bR,ex.symm,?_⟩
   have nck:k≠.cell:=nc (n,k) bR
   by_cases z:k=.free
   ·exact z
   ·have zb:(k==NameKind.free)=false:=by simpa using z
    simp only[zb,Bool.false_and,ca,if_false,bf,hx] at h
    cases h
    rcases hk with q | q
    ·exact absurd q nck
    ·exact absurd q z
  | false =>
   have h':(r.map fun (n,k)=>if (k==NameKind.free&&env.scope.kind==.function&&env.kindOf n==some .cell) then (n,NameKind.cell) else (n,k)).lookup x=some k':=by
    split at h
    ·simpa only[bf,hx] using h
    ·simpa only[bf,hx] using h
   obtain⟨y,hy,a,b⟩:=ih h' hk fun z hz=>nc z (aN _ hz)
   exact⟨y,aN _ hy,a,b⟩
section
variable {X:Cx}{pins:List (Addr × Obj)}{σ:St}{H:Hp}{s:Shared}
def PTs (X:Cx) (ifs:List Expr) (t:TT):Prop :=
 ∀(pins:List (Addr × Obj)) (s:Shared) (σ:St) (H:Hp) (Q:Bool->Hp->Prop),Inv X pins σ H s->t σ H Q ->
  wpAny (model X.prog X.w) X.A (forIn ifs true fun c r=>if r=true then do let ok ← isTrue c X.env (eval c X.env);pure (ForInStep.yield ok) else pure (ForInStep.yield r)) (TP X pins σ Q) X.xe s
def tYes:TT:=fun _ H Q=>Q true H
theorem pts_nil:PTs X [] tYes:=fun _ _ _ H _ I h=>wpAny_tests_nil ⟨H,I,h⟩
theorem pts_one {c:Expr}{t:TT}(h:PT X c t):PTs X [c] t:=fun pins s σ H Q I q=>wpAny_tests_one (h pins s σ H Q I q)
theorem nx {α:Type}{t:Sem α}{Q Q':α->Shared->Prop}{M:Model}{A:Around}{E:Value->Shared->Prop}{s:Shared}(h:wpAny M A t Q (fun _ _=>False) s) (hQ:∀a s,Q a s->Q' a s):wpAny M A t Q' E s :=
 bh h hQ fun _ _ f=>f.elim
theorem inv_block {scope:Scope}{own:List Str}{fr:List Nat}{N:List Str}{cl:List (Str × Addr)}{s3 s4:Shared}{H3:Hp}{fp:List Addr}{m:Str -> Option Value}
    (hc:X.calm=true) (S:CompSc X.env.scope scope X.N own fr N)
    (c1:∀x c,cl.lookup x=some c->X.env.cells.lookup x=some c) (c2:∀y∈scope.names,y.2=NameKind.free->∃c,cl.lookup y.1=some c)
    (I3:Inv X pins σ H3 s3) (f3:∀b∈fp,FpOk X pins H3 b/\b<s3.heap.objs.size)
    (hk:∀b o,s3.heap.get? b=some o->s4.heap.get? b=some o) (hn:s4.heap.Ns s3.heap.objs.size m) (ho:s4.os=s3.os) (hg:s4.gens=s3.gens) :
    Inv (cxC X scope N cl s3.heap.objs.size s3 H3 fp) [] (inSt own.length fr σ) H3 s4:=by
 have kindF:(compEnvC scope cl s3.heap.objs.size X.env).scope.kind=.function:=by
  show (relabel scope X.env).kind=.function
  exact S.kind
 refine⟨⟨I3.ok.mod,kindF,I3.ok.glob,I3.ok.blt,ae _,?_,?_,?_,I3.ok.hd,I3.ok.frames,.inl rfl,?_,?_,?_,?_,?_,I3.stack,I3.stkFree⟩,ho,?_,Un.kept hk,⟨m,hn,?_⟩,?_,?_,?_,?_,I3.hok.kept hk,?_⟩
 ·exact fun x y c h1 h2=>I3.ok.inj x y c (c1 x c h1) (c1 y c h2)
 ·intro x hx
  have hx':(relabel scope X.env).names.lookup x=some .cell∨(relabel scope X.env).names.lookup x=some .free:=hx
  obtain⟨k',hk',hkk⟩:∃k',(relabel scope X.env).names.lookup x=some k'/\(k'=NameKind.cell∨k'=NameKind.free):=by
   rcases hx' with q | q
   ·exact⟨_,q,.inl rfl⟩
   ·exact⟨_,q,.inr rfl⟩
  obtain⟨y,hy,e,hf⟩:=of_relabel (env:=X.env) hk' hkk S.nocell
  subst e
  exact c2 y hy hf
 ·exact fun x c h=>by cases h
 ·intro b hb
  obtain⟨f,hl⟩:=f3 b hb
  refine⟨aB hl,fun x c h=>f.2.2.2.2.1 x c (c1 x c h)⟩
 ·exact fun b o e=>I3.bs b o e
 ·exact aW I3.ok.bsz I3.sz
 ·intro b o e hb
  obtain⟨f,hl⟩:=f3 b hb
  rcases f.2.2.2.1 with z | z
  ·exact I3.ok.noex b o e z
  ·exact absurd (aS (ak e) (aW I3.ok.bsz z)) (bq _)
 ·intro b hb
  obtain⟨f,hl⟩:=f3 b hb
  show b∉frs X.stack
  intro z
  rcases ax.mp (I3.stkSub b z) with q | q
  ·exact f.2.1 q
  ·exact f.2.2.1 q
 ·rw[hg];exact I3.bare
 ·intro i x v h1 h2 h3
  have h1:N[i]? = some x:=h1
  obtain⟨m0,hn0,hl0⟩:=I3.loc
  have hi:own.length<=i:=by
   refine bX fun q=>?_
   unfold inSt at h2
   rw[bc (by simpa using q),List.getElem?_replicate] at h2
   split at h2 <;> cases h2
  obtain⟨j,rfl⟩:=Nat.exists_eq_add_of_le hi
  have h2':(fr.map fun i=>(σ[i]?).join)[j]? = some (some v):=by
   unfold inSt at h2
   rw[br (by simp)] at h2
   simpa using h2
  rw[aA] at h2'
  cases ej:fr[j]? with
  | none=>rw[ej] at h2';cases h2'
  | some k =>
   rw[ej] at h2'
   have e2:(σ[k]?).join=some v:=ai h2'
   have eσ:σ[k]? = some (some v):=by
    cases q:σ[k]? with
    | none=>rw[q] at e2;cases e2
    | some o=>rw[q] at e2;exact congrArg some e2
   have eN:X.N[k]? = some x:=by
    have q:=congrArg (fun l=>l[own.length+j]?) S.names
    simp only[aA,h1,br (show (own.map some).length<=own.length+j by simp),aa,ci,ej,Option.map_some] at q
    exact(ai q).symm
   have ok:=bi.mp S.outer k (aj ej)
   rw[eN] at ok
   simp only[bd,Bool.or_eq_true,decide_eq_true_eq] at ok
   obtain⟨ok1,ok2⟩:=ok
   have vis:Vis X.env.scope x:=.inr ok1
   obtain⟨u,r,l⟩:=hl0 k x v eN eσ vis
   refine⟨u,r,?_⟩
   rcases l with⟨l,_⟩ | ⟨_,c,e,z⟩
   ·have l:X.env.scope.names.lookup x=some .local:=l
    rcases ok1 with q | q
    ·rw[l] at q;cases q
    ·rw[l] at q;cases q
   ·obtain⟨c',e'⟩:=c2 (x,.free) (PySem.mem_of_lookup ok2) rfl
    have e':cl.lookup x=some c':=e'
    have ec:c'=c:=ai ((c1 x c' e').symm.trans e)
    subst ec
    refine .inr ⟨lookup_relabel_free (env:=X.env) ok2,c',e',?_⟩
    obtain⟨o,h1,h2⟩:=z
    exact⟨o,hk _ _ h1,h2⟩
 ·intro x c e
  obtain⟨v,o,h1,h2⟩:=I3.cell x c (c1 x c e)
  exact⟨v,o,hk _ _ h1,h2⟩
 ·exact I3.hok.fresh (ae _)
 ·exact fun x c e=>I3.freeC x c (c1 x c e)
 ·intro p hp
  exact absurd hp (by simp[cxC])
 ·show (inSt own.length fr σ).length=N.length
  rw[S.len]
  simp[inSt]
end
section
variable {prog:Program}{w:World}{A:Around}{R:Result->Shared->Prop}{s:Shared}
theorem comp_loop {elt tg iter:Expr}{ifs:List Expr}{scope:Scope}{pos:Pos}{it acc:Value}{env:Env}(J:Nat -> Shared -> Prop)
    (turn:∀k s, J k s -> ∀E:Value -> Shared -> Prop, wpAny (model prog w) A (pyNext it) (fun r s1 => match r with
     | none=>R (.ok .next) s1
     | some v => wpAny (model prog w) A (letOwnedTupleGo tg it v) (fun _ s2 => wpAny (model prog w) A (assign tg env v) (fun _ s3 =>
         wpAny (model prog w) A (forIn ifs true fun c r=>if r=true then do let ok ← isTrue c env (eval c env);pure (ForInStep.yield ok) else pure (ForInStep.yield r)) (fun ok s4 =>
          if ok=true then wpAny (model prog w) A (eval elt env) (fun x s5=>wpAny (model prog w) A (call (.builtin "list.append") [acc,x]) (fun _ s6=>∃m,m<k/\J m s6) E s5) E s4
          else ∃m,m<k/\J m s4) E s3) E s2) E s1) E s)
    (k:Nat) (h:J k s):codeAny (model prog w) A (.compLoop (.ListComp elt [⟨tg,iter,ifs,0⟩] scope pos) 0 it acc env) R s:=by
 refine codeAny_loop rfl J (fun k s hJ=>?_) k h
 show wpAny _ A ((compTurn (.ListComp elt [⟨tg,iter,ifs,0⟩] scope pos) 0 it acc env).onRaise (fun e=>do noteFrame e env;theTreesLotGoes e)) _ _ s
 refine wpAny_noted ?_
 rw[compTurn_list]
 refine ad (wpAny_standAt (ad (thn (turn k s hJ _) fun r s1 h1=>?_)))
 cases r with
 | none=>exact ag h1
 | some v =>
  refine ad (thn h1 fun _ s2 h2=>ad (thn h2 fun _ s3 h3=>ad (thn h3 fun ok s4 h4=>?_)))
  cases ok with
  | false=>exact ag ⟨rfl,h4⟩
  | true=>exact ad (ad (thn h4 fun x s5 h5=>ad (thn h5 fun _ s6 h6=>ag (ag ⟨rfl,h6⟩))))
end
def tCompW (k:Nat) (fr:List Nat) (g:TG) (tc:TT) (te:TE) (J:It) (σ:St) (H1:Hp) (Q:VK):Prop :=
 ∀D,H1 D=none->∃W:Nat->Nat->List V->St->Hp->Prop,(∃m,W 0 m [] (inSt k fr σ) (upd H1 D (.lst [])))/\∀i m acc σ' H',W i m acc σ' H'->H' D=some (.lst acc) ->
  (J.stop i H'/\Q (.ref D) H')∨(J.go i H'/\∃N:List V->St->Hp->Prop,(∀acc' σ2 H2,N acc' σ2 H2->∃m',m'<m/\W (i+1) m' acc' σ2 H2)/\∀x H2,J.yld i H' x H2->g x σ' H2 fun σ2 H3=>tc σ2 H3 fun b H4 =>
   if b=true then te σ2 H4 fun y H5=>H5 D=some (.lst acc)/\acc.length<sizeLine/\N (acc++[y]) σ2 (upd H5 D (.lst (acc++[y])))
   else H4 D=some (.lst acc)/\N acc σ2 H4)
def tComp (k:Nat) (fr:List Nat) (wi:TI) (g:TG) (tc:TT) (te:TE):TE:=fun σ H Q=>wi σ H fun J H1=>tCompW k fr g tc te J σ H1 Q
section
variable {X:Cx}{pins:List (Addr × Obj)}{σ:St}{H:Hp}{s:Shared}{tg elt iter:Expr}{ifs:List Expr}{scope:Scope}{pos:Pos}
theorem comp_block {own:List Str}{fr:List Nat}{N:List Str}{cl:List (Str × Addr)}{H2:Hp}{s2:Shared}{fp:List Addr}{it:Addr}{J:It}{tn:Nat -> Heap -> Prop}{g:TG}{tc:TT}{te:TE}{Q:VK}{E:Value -> Shared -> Prop}{POST:Value -> Addr -> Result -> Shared -> Prop}
    (hc:X.calm=true) (S:CompSc X.env.scope scope X.N own fr N)
    (c1:∀x c,cl.lookup x=some c->X.env.cells.lookup x=some c) (c2:∀y∈scope.names,y.2=NameKind.free->∃c,cl.lookup y.1=some c)
    (hg:∀C s₀ H₀ ex,PG (cxC X scope N cl C s₀ H₀ ex) tg g) (ht:∀C s₀ H₀ ex,PTs (cxC X scope N cl C s₀ H₀ ex) ifs tc) (he:∀C s₀ H₀ ex,PE (cxC X scope N cl C s₀ H₀ ex) elt te)
    (I2:Inv X pins σ H2 s2) (T:Turn X.prog X.w X.K tg J fp it tn) (t2:tn 0 s2.heap) (f2:∀b∈fp,FpOk X pins H2 b) (q:tCompW own.length fr g tc te J σ H2 Q)
    (fin:∀D C s' H' m,Inv X pins σ H' s'->FpOk X pins H' C->s'.heap.Ns C m->Q (.ref D) H'->POST (.ref D) C (.ok .next) s') :
    wpAny (model X.prog X.w) X.A (newList []) (fun acc s3=>wpAny (model X.prog X.w) X.A (newFunctionEnv scope X.env.globals cl [] X.env.qual none .none (some X.env)) (fun cenv s4 =>
     codeAny (model X.prog X.w) X.A (.compStart (.ListComp elt [⟨tg,iter,ifs,0⟩] scope pos) 0 (.ref it) acc { cenv with scope:=relabel scope X.env }) (POST acc cenv.locals) s4) E s3) E s2:=by
 refine wpAny_newObj_type (wpAny_newFunctionEnv S.nocell (by intro y hy;simp at hy) (fun h4 ns4 sb4=>?_) S.kind)
 dsimp only at ns4 sb4 ⊢
 have hD:H2 s2.heap.objs.size=none:=I2.hok.fresh (ae _)
 obtain⟨W,⟨m0,w0⟩,turn⟩:=q s2.heap.objs.size hD
 have I3:Inv X pins σ (upd H2 s2.heap.objs.size (.lst [])) { s2 with heap:=s2.heap.push { cls:=.type "list",dict:=none,data:=.seq ([]:List Value).toArray },toks:=s2.toks } :=
  I2.laid (fun b u q=>ay _ q) (ae _) ⟨a0 _,[],_,.nil,aF _ rfl⟩
 generalize hh3:s2.heap.push { cls:=.type "list",dict:=none,data:=.seq ([]:List Value).toArray }=h3 at *
 have z3:h3.objs.size=s2.heap.objs.size+1:=by rw[<- hh3,Heap.size_push]
 have k23:∀b o,s2.heap.get? b=some o->h3.get? b=some o:=fun b o e=>by rw[<- hh3];exact ay _ e
 have k34:∀b o,h3.get? b=some o->h4.get? b=some o:=fun b o e=>sb4.extBut b o (aB (ak e)) (ay _ e)
 have fpl:∀b∈fp,b<s2.heap.objs.size:=fun b hb=>by
  obtain⟨o,e,_⟩:=T.obj _ _ t2 b hb
  exact ak e
 have f3:∀b∈fp,FpOk X pins (upd H2 s2.heap.objs.size (.lst [])) b/\b<h3.objs.size:=fun b hb=>by
  refine⟨⟨?_,(f2 b hb).2⟩,by rw[z3];exact Nat.lt_succ_of_lt (fpl b hb)⟩
  rw[upd_ne (aB (fpl b hb))]
  exact(f2 b hb).1
 generalize hs3:({ s2 with heap:=h3,toks:=s2.toks }:Shared)=s3 at I3
 have es3:s3.heap=h3:=by rw[<- hs3]
 have hs3':({ s2 with heap:=h3 }:Shared)=s3:=hs3
 have I4:=inv_block (s3:=s3) (s4:={ s3 with heap:=h4,toks:=s3.toks+([]:List (Str × Value)).length }) hc S c1 c2 I3 (by rw[es3];exact f3) (by rw[es3];exact k34) (m:=fun x=>([]:List (Str × Value)).reverse.lookup x) (by rw[es3];exact ns4) rfl rfl
 rw[es3] at I4
 have stat:∀ {H':Hp} {s':Shared} {σ':St} {pl:List (Addr × Obj)},Inv (cxC X scope N cl h3.objs.size s3 (upd H2 s2.heap.objs.size (.lst [])) fp) pl σ' H' s'->(∀p∈pl,p.1∉fp)->(∀b∈fp,H' b=none)->∀b∈fp,FpOk (cxC X scope N cl h3.objs.size s3 (upd H2 s2.heap.objs.size (.lst [])) fp) pl H' b:=fun {H' s' σ' pl} I' hpl hn b hb=>by
  refine⟨hn b hb,aB (f3 b hb).2,I'.ok.exfs b hb,.inl hb,fun x c e=>(f2 b hb).2.2.2.2.1 x c (c1 x c e),fun p hp=>?_⟩
  intro z
  exact hpl p (by simpa [cxC] using hp) (z ▸ hb)
 have loop:∀s4:Shared, s4={ s3 with heap := h4, toks := s3.toks+([]:List (Str × Value)).length } ->
     codeAny (model X.prog X.w) X.A (.compLoop (.ListComp elt [⟨tg,iter,ifs,0⟩] scope pos) 0 (.ref it) (.ref s2.heap.objs.size) (compEnvC scope cl h3.objs.size X.env)) (POST (.ref s2.heap.objs.size) h3.objs.size) s4:=by
  rintro s4 rfl
  refine comp_loop (fun n s'=>∃i acc σ' H',Inv (cxC X scope N cl h3.objs.size s3 (upd H2 s2.heap.objs.size (.lst [])) fp) [] σ' H' s'/\tn i s'.heap/\(∀b∈fp,H' b=none)/\H' s2.heap.objs.size=some (.lst acc)/\W i n acc σ' H') ?_ m0
   ⟨0,[],_,_,I4,T.keep _ _ _ t2 fun b hb o e=>k34 b o (k23 b o e),fun b hb=>(f3 b hb).1.1,upd_same,w0⟩
  rintro n s5 ⟨i,acc,σ5,H5,I5,t5,fr5,d5,w5⟩ E'
  rcases turn i n acc σ5 H5 w5 d5 with⟨stop,qn⟩ | ⟨go,NN,hNN,step⟩
  ·refine thn (T.done (cxC X scope N cl h3.objs.size s3 (upd H2 s2.heap.objs.size (.lst [])) fp) rfl rfl rfl hc i [] s5 σ5 H5 E' I5 (stat I5 (by simp) fr5) t5 stop) fun r s6 ⟨hr,I6⟩=>?_
   subst hr
   obtain⟨m6,n6,_⟩:=id I6.loc
   have J6:Inv X pins σ H5 s6:=I3.call' (ch:=fp) I6.os I6.base I6.hok I6.bare fun b hb=>⟨(f2 b hb).2.2.2.1,(f2 b hb).2.1,(f2 b hb).2.2.2.2.1,(f2 b hb).2.2.2.2.2⟩
   exact fin _ _ s6 H5 m6 J6 (I2.fpOk (by rw[z3];exact Nat.le_succ _) I6.free) n6 qn
  ·refine thn (T.item (cxC X scope N cl h3.objs.size s3 (upd H2 s2.heap.objs.size (.lst [])) fp) rfl rfl rfl hc i [] s5 σ5 H5 E' I5 (stat I5 (by simp) fr5) t5 go) fun r s6 ⟨u,hr,h6⟩=>?_
   subst hr
   refine thn h6 fun _ s7 ⟨x,H7,I7,r7,y7,t7,fr7⟩=>?_
   have I7':=I7.pinned (stat I7 (by simp) fr7) (T.obj _ _ t7)
   have backTn:∀ {s':Shared} {H':Hp} {σ':St},Inv (cxC X scope N cl h3.objs.size s3 (upd H2 s2.heap.objs.size (.lst [])) fp) ([]++pinsAt fp s7.heap) σ' H' s'->tn (i+1) s'.heap/\∀b∈fp,H' b=none:=fun {s' H' σ'} I'=>by
    refine⟨T.keep _ _ _ t7 fun b hb o e=>(I'.pin (b,o) (aJ _ (aJ _ (mem_pinsAt hb e)))).1,fun b hb=>?_⟩
    obtain⟨o,e,_⟩:=T.obj _ _ t7 b hb
    exact(I'.pin (b,o) (aJ _ (aJ _ (mem_pinsAt hb e)))).2.1
   refine nx (hg _ _ _ _ _ s7 σ5 H7 x u _ I7' r7 (step x H7 y7)) fun _ s8 ⟨σ8,H8,I8,q8⟩=>?_
   refine nx (ht _ _ _ _ _ s8 σ8 H8 _ I8 q8) fun ok s9 ⟨H9,I9,q9⟩=>?_
   cases ok with
   | false =>
    obtain⟨d9,n9⟩:=q9
    obtain⟨m',hm,w9⟩:=hNN _ _ _ n9
    obtain⟨a1,a2⟩:=backTn I9
    exact⟨m',hm,i+1,acc,σ8,H9,I9.unpinned,a1,a2,d9,w9⟩
   | true =>
    rw[if_pos rfl]
    refine nx (he _ _ _ _ _ s9 σ8 H9 _ I9 q9) fun y s10 ⟨v,H10,I10,r10,d10,l10,n10⟩=>?_
    obtain⟨m',hm,w10⟩:=hNN _ _ _ n10
    refine nx (mt_append _ s10 σ8 H10 (.ref s2.heap.objs.size) [v] (.ref s2.heap.objs.size) [y] (fun _ H'=>H'=upd H10 s2.heap.objs.size (.lst (acc++[v]))) I10 rfl (.cons r10 .nil) ⟨_,acc,v,rfl,rfl,d10,l10,rfl⟩) fun _ s11 ⟨_,H11,I11,_,e11⟩=>?_
    subst e11
    obtain⟨a1,a2⟩:=backTn I11
    exact⟨m',hm,i+1,_,σ8,_,I11.unpinned,a1,a2,upd_same,w10⟩
 exact codeAny_compStart_list (loop _ (by rw[<- hs3])) (T.self _ 0 _ _ _ (T.keep _ _ _ t2 fun b hb o e=>k34 b o (k23 b o e)) (loop _ (by rw[<- hs3])))
theorem pe_comp (osc:Scope) (NX own:List Str) (fr:List Nat) (N:List Str) {wi:TI}{g:TG}{tc:TT}{te:TE}(hc:X.calm=true)
    (hi:PI X tg iter wi) (hg:∀cl C s₀ H₀ ex,PG (cxC X scope N cl C s₀ H₀ ex) tg g) (ht:∀cl C s₀ H₀ ex,PTs (cxC X scope N cl C s₀ H₀ ex) ifs tc) (he:∀cl C s₀ H₀ ex,PE (cxC X scope N cl C s₀ H₀ ex) elt te)
    (hs:∀x,foldedSetIterable iter X.env x=pure x:=by intro _;rfl) (hosc:X.env.scope=osc:=by rfl) (hNX:X.N=NX:=by rfl) (hS:compOk osc scope NX own fr N=true:=by decide +kernel) :
    PE X (.ListComp elt [⟨tg,iter,ifs,0⟩] scope pos) (tComp own.length fr wi g tc te):=by
 intro pins s σ H Q I h
 have S:CompSc X.env.scope scope X.N own fr N:=by rw[hosc,hNX];exact CompSc.of hS
 obtain⟨cl,ecl,c1,c2⟩:=clos_ok (scope:=scope) (env:=X.env) fun y hy hf=>I.ok.has y.1 (S.free y hy hf)
 rw[eval_ListComp]
 refine wpAny_comprehension_free (use:=none) rfl hs ecl S.kind S.loc (thn (hi pins s σ H _ I h) fun v s1 h1=>thn h1 fun itv s2 h2=>?_)
 obtain⟨it,fp,tn,J,H2,e,I2,T,t2,f2,q⟩:=h2
 subst e
 refine comp_block (POST:=fun acc C=>compPost (model X.prog X.w) X.A X.xe none (EP X pins σ Q) acc C) hc S c1 c2 (hg cl) (ht cl) (he cl) I2 T t2 f2 q fun D C s' H' m I' fC ns q'=>?_
 refine⟨m,ns,fun h' sb=>⟨.ref D,H',?_,rfl,q'⟩⟩
 obtain⟨g0,g1,_,g3,g4,g5⟩:=fC
 exact I'.turned (t':=s'.toks) (fun b o hb e=>(sb.2 b hb).trans e) g0 g1 g3 g4 g5
theorem ps_setC {wi:TI}{g:TG}{tc:TT}{te:TE}{i:Nat}{x:Str}{px spos:Pos}(hN:X.N.Nodup) (hi':X.N[i]? = some x) (hx:X.env.scope.names.lookup x=some .local)
    (hsw:swapsWith (.ListComp elt [⟨tg,iter,ifs,0⟩] scope pos) (some (.Name x px)) spos.line X.env=pure true)
    (osc:Scope) (NX own:List Str) (fr:List Nat) (N:List Str) (hc:X.calm=true)
    (hi:PI X tg iter wi) (hg:∀cl C s₀ H₀ ex,PG (cxC X scope N cl C s₀ H₀ ex) tg g) (ht:∀cl C s₀ H₀ ex,PTs (cxC X scope N cl C s₀ H₀ ex) ifs tc) (he:∀cl C s₀ H₀ ex,PE (cxC X scope N cl C s₀ H₀ ex) elt te)
    (hs:∀x,foldedSetIterable iter X.env x=pure x:=by intro _;rfl) (hosc:X.env.scope=osc:=by rfl) (hNX:X.N=NX:=by rfl) (hS:compOk osc scope NX own fr N=true:=by decide +kernel) :
    PS X (.Assign [.Name x px] (.ListComp elt [⟨tg,iter,ifs,0⟩] scope pos) spos) (tAsg (tComp own.length fr wi g tc te) (gName i)):=by
 intro pins s σ H D I h
 have S:CompSc X.env.scope scope X.N own fr N:=by rw[hosc,hNX];exact CompSc.of hS
 obtain⟨cl,ecl,c1,c2⟩:=clos_ok (scope:=scope) (env:=X.env) fun y hy hf=>I.ok.has y.1 (S.free y hy hf)
 rw[exec_Assign_Name_used _ _ _ _ hsw]
 refine ad (wpAny_standAt (ad ?_))
 show wpAny _ X.A (do let _ ← comprehension (.ListComp elt [⟨tg,iter,ifs,0⟩] scope pos) scope X.env _ (newList []) false (eval iter X.env) (some (assign (.Name x px) X.env))) _ _ s
 refine ad (thn (wpAny_comprehension_free (use:=some (assign (.Name x px) X.env)) (Q:=fun _ s'=>SP X pins D .next s') rfl hs ecl S.kind S.loc (thn (hi pins s σ H _ I h) fun v s1 h1=>thn h1 fun itv s2 h2=>?_)) fun _ s' hq=>ag (ag hq))
 obtain⟨it,fp,tn,J,H2,e,I2,T,t2,f2,q⟩:=h2
 subst e
 refine comp_block (POST:=fun acc C=>compPost (model X.prog X.w) X.A X.xe (some (assign (.Name x px) X.env)) (fun _ s'=>SP X pins D .next s') acc C) hc S c1 c2 (hg cl) (ht cl) (he cl) I2 T t2 f2 q fun D' C s' H' m I' fC ns q'=>?_
 show wpAny _ X.A (assign (.Name x px) X.env (.ref D')) _ _ s'
 refine wpAny_assign_Name (store_ok2 I' hN hi' (.inl hx) (show RelV (.ref D') (.ref D') from rfl) (fun s3 I3 sb=>?_) (.inr hx))
 obtain⟨a,sb,ha⟩:=sb
 obtain⟨g0,g1,g2,g3,g4,g5⟩:=fC
 have aC:C≠a:=by
  rcases ha with z | z
  ·rw[z];exact g1
  ·exact fun w=>g4 x a z w.symm
 refine⟨m,ns.sameBut sb aC,fun h' sb'=>⟨_,H',?_,q'⟩⟩
 exact I3.turned (t':=s3.toks) (fun b o hb e=>(sb'.2 b hb).trans e) g0 g1 g3 g4 g5
end
def sgV (x:Str) (i:Nat):Option V:=(x.cps[i]?).map fun c=>V.str ⟨#[c]⟩
def Its (x:Str):It:=⟨fun i _=>i<x.cps.size,fun i H v H'=>H'=H/\sgV x i=some v,fun i _=>x.cps.size<=i⟩
theorem turn_signs {P:Program}{w:World}{K:W.Frag}{tg:Expr}(T:String) (it:Addr) (x:Str) (t:Tok)
    (hn:["enumerate","zip","dict_itemiterator","dict_reverseitemiterator","odict_iterator","itertools.zip_longest","itertools.pairwise"].contains T=false)
    (W:∀A:Around,A.handled=none->Walks P w A it [it] [it] x.cps.size (SignAt x) (fun i h=>h.IsStrIter it T x t i))
    (hs:∀(A:Around) (i:Nat) (s:Shared) (Q:Value->Shared->Prop) (E:Value->Shared->Prop),s.heap.IsStrIter it T x t i->Q (.ref it) s->wpAny (model P w) A (pyIter (.ref it)) Q E s) :
    Turn P w K tg (Its x) [it] it (fun i h=>h.IsStrIter it T x t i/\i<=x.cps.size) where
 mem:=by simp
 obj:=fun i h st b hb=>by
  have e:b=it:=by simpa using hb
  subst e
  obtain⟨o,e,c,d⟩:=st.1
  exact⟨o,e,fun v z=>by rw[d] at z;cases z⟩
 keep:=fun i h h' st k=>⟨by
  obtain⟨o,e,c⟩:=st.1
  exact⟨o,k it (by simp) o e,c⟩,st.2⟩
 item:=by
  intro X hP hw hK hc i pins s σ H E I hf st hg
  subst hP hw hK
  obtain⟨f0,f1,f2,f3,f4,f5⟩:=hf it (by simp)
  refine(W X.A (I.ok.hd hc)).item i s _ _ hg st.1 fun v h' tk hv st' kk=>?_
  obtain⟨c,u,hcp,rfl⟩:=hv
  have I1:Inv X pins σ H { s with heap:=h',toks:=tk }:=I.turned (fun b o hb e=>kk b o (by simpa using hb) e) f0 f1 f3 f4 f5
  obtain⟨o,e,cc,d⟩:=id st'
  refine⟨_,rfl,go_of (s:={ s with heap:=h',toks:=tk }) e cc d hn ⟨.str ⟨#[c]⟩,H,I1,⟨u,rfl⟩,⟨rfl,?_⟩,⟨st',?_⟩,fun b hb=>(hf b hb).1⟩⟩
  ·unfold sgV;rw[hcp];rfl
  ·exact hg
 done:=by
  intro X hP hw hK hc i pins s σ H E I hf st hg
  subst hP hw hK
  obtain⟨f0,f1,f2,f3,f4,f5⟩:=hf it (by simp)
  have e:i=x.cps.size:=Nat.le_antisymm st.2 hg
  subst e
  exact(W X.A (I.ok.hd hc)).done s _ _ st.1 fun h' tk kk=>⟨rfl,I.turned (fun b o hb e=>kk b o (by simpa using hb) e) f0 f1 f3 f4 f5⟩
 self:=fun A i s Q E st h=>hs A i s Q E st.1 h
def iStr (tl:TE):TI:=fun σ H R=>tl σ H fun x H1=>∃z,x=.str z/\R (Its z) H1
theorem pi_str {X:Cx}{tg l:Expr}{tl:TE}(hl:PE X l tl):PI X tg l (iStr tl) := by
 intro pins s σ H R I h
 refine thn (hl pins s σ H _ I h) fun v s1 ⟨x,H1,I1,r1,q1⟩=>?_
 obtain⟨z,e,q⟩:=q1
 subst e
 obtain⟨t,rfl⟩:=r1
 have fin:∀(T:String),["enumerate","zip","dict_itemiterator","dict_reverseitemiterator","odict_iterator","itertools.zip_longest","itertools.pairwise"].contains T=false ->
     (∀A:Around,A.handled=none->Walks X.prog X.w A s1.heap.objs.size [s1.heap.objs.size] [s1.heap.objs.size] z.cps.size (SignAt z) (fun i h=>h.IsStrIter s1.heap.objs.size T z t i)) ->
     (∀(A:Around) (i:Nat) (s:Shared) (Q:Value->Shared->Prop) (E:Value->Shared->Prop),s.heap.IsStrIter s1.heap.objs.size T z t i->Q (.ref s1.heap.objs.size) s->wpAny (model X.prog X.w) A (pyIter (.ref s1.heap.objs.size)) Q E s) ->
     PIE X pins σ tg R (.ref s1.heap.objs.size) { s1 with heap:=s1.heap.push { cls:=.type T,data:=.fields #[.str z t,.int 0 0] } }:=fun T hn W hs=>by
  refine⟨_,[s1.heap.objs.size],_,_,H1,rfl,I1.kept (t':=s1.toks) fun b o e=>ay _ e,turn_signs T _ z t hn W hs,⟨⟨_,aF _ rfl,rfl,rfl⟩,a0 _⟩,fun b hb=>?_,q⟩
  have e:b=s1.heap.objs.size:=by simpa using hb
  subst e
  exact I1.fpOk (ae _) (I1.hok.fresh (ae _))
 cases ha:z.cps.all (·<128)
 ·exact wpAny_pyIter_wide ha (fin "str_iterator" (by decide) (fun A hA=>Walks.strWide hA _ z t) fun A i s Q E st h=>wpAny_pyIter_striter_wide st h)
 ·exact wpAny_pyIter_ascii ha (fin "str_ascii_iterator" (by decide) (fun A hA=>Walks.strAscii hA _ z t) fun A i s Q E st h=>wpAny_pyIter_striter_ascii st h)
def Ite (K:W.Frag) (a:Addr):It :=
 ⟨fun i H=>∃xs x,SqL K H a xs/\xs[i]? = some x,fun i H v H'=>∃p x,H p=none/\v=.ref p/\(∀xs,SqL K H a xs->xs[i]? = some x)/\H'=upd H p (.tup [.int i,x]),fun i H=>∃xs,SqL K H a xs/\xs.length<=i⟩
theorem turn_enum {P:Program}{w:World}{K:W.Frag}{elts:List Expr}{k:Nat}{tp:Pos}(a e it:Addr) (hne:e ≠ it) :
    Turn P w K (.Tuple elts k tp) (Ite K a) [e,it] e (fun i h=>(∃old,IsEnum h e it i old)/\h.IsListIter it a i) where
 mem:=by simp
 obj:=fun i h st b hb=>by
  obtain⟨⟨old,he⟩,hit⟩:=st
  have hb:b=e∨b=it:=by simpa using hb
  rcases hb with z | z
  ·subst z
   exact⟨_,he,fun v z=>by cases z⟩
  ·subst z
   obtain⟨o,e1,c,d⟩:=hit
   exact⟨o,e1,fun v z=>by rw[d] at z;cases z⟩
 keep:=fun i h h' st kk=>by
  obtain⟨⟨old,he⟩,hit⟩:=st
  exact⟨⟨old,kk e (by simp) _ he⟩,hit.at fun o q=>kk it (by simp) o q⟩
 item := by
  intro X hP hw hK hc i pins s σ H E I hf st hg
  subst hP hw hK
  obtain⟨⟨old,he⟩,hit⟩:=st
  obtain⟨xs,x,hq,hx⟩:=hg
  obtain⟨its,rv,p,hz⟩:=I.list hq
  obtain⟨u,hu,ru⟩:=rv.get hx
  obtain⟨f0,f1,f2,f3,f4,f5⟩:=hf e (by simp)
  obtain⟨g0,g1,g2,g3,g4,g5⟩:=hf it (by simp)
  refine wpAny_pyNext_enum_item he hit p.isList (x:=u) (by simpa using hu) hne fun h1 ho hit1 ht1 hz1 k1=>?_
  have hel:e<s.heap.objs.size:=ak he
  have hil:it<s.heap.objs.size:=by obtain⟨o,q,_⟩:=hit;exact ak q
  refine⟨_,rfl,wpAny_letOwnedTupleGo_enum ho fun h2 he2 sb2=>?_⟩
  have sb2:Heap.SameBut e h1 h2:=sb2
  have T2:h2.get? s.heap.objs.size=some { cls:=.type "tuple",data:=.seq #[.int i s.toks,u] }:=(sb2.2 _ (bJ hel)).trans ht1
  have hp:H s.heap.objs.size=none:=I.hok.fresh (ae _)
  have nit:∀b v,H b=some v->b≠e/\b≠it:=fun b v q=>⟨fun z=>(by rw[z,f0] at q;cases q),fun z=>(by rw[z,g0] at q;cases q)⟩
  have kk:∀b o,b≠e->b≠it->s.heap.get? b=some o->h2.get? b=some o:=fun b o n1 n2 q=>(sb2.2 b n1).trans (k1 b o n1 n2 q)
  have up:∀b v,H b=some v->upd H s.heap.objs.size (.tup [.int i,x]) b=some v:=fun b v q=>by rw[upd_ne (ne_of_none q hp)];exact q
  have I1:Inv X pins σ (upd H s.heap.objs.size (.tup [.int i, x])) { s with heap := h2, gens := s.gens, drawn := s.drawn, toks := s.toks+1 } := by
   refine I.step (g':=s.gens) (d':=s.drawn) (ch:=[e,it]) (fun b hb=>?_) (fun b o _ _ hb q _=>kk b o (fun z=>hb (by simp[z])) (fun z=>hb (by simp[z])) q) (fun b o _ _ hb q _=>⟨o.slots,kk b o (fun z=>hb (by simp[z])) (fun z=>hb (by simp[z])) q⟩) (fun b o _ q n=>?_)
    (fun b o hb q=>⟨o,kk b o (fun z=>hb (by simp[z])) (fun z=>hb (by simp[z])) q⟩) (fun b ys q=>up b _ q) (fun b o v q=>up b _ q) (fun b ps q=>⟨#[],by rw[up b _ q];simp⟩) (fun m hm=>?_) (fun b v q=>?_) I.bare
   ·have hb:b=e∨b=it:=by simpa using hb
    rcases hb with z | z
    ·subst z;exact⟨f3,f1,f4,f5⟩
    ·subst z;exact⟨g3,g1,g4,g5⟩
   ·rw[upd_ne (aB (ak q))];exact n
   ·obtain⟨o,es,ep,ho,r⟩:=hm
    exact⟨o,es,ep,kk _ o (Ne.symm f1) (Ne.symm g1) ho,r⟩
   ·by_cases hb:b=s.heap.objs.size
    ·subst hb
     rw[upd_same] at q
     have q':HO.tup [V.int i,x]=v:=ai q
     subst q'
     exact⟨by show 2<=sizeLine;decide,[.int i s.toks,u],.cons ⟨_,rfl⟩ (.cons ru .nil),⟨_,T2,rfl,_,rfl,rfl⟩⟩
    ·rw[upd_ne hb] at q
     refine(I.hok b v q).stay (fun c v' hc q'=>?_) (fun c q=>up c _ q) fun c ys q=>up c _ q
     rcases hc with z | z
     ·rw[z] at q' ⊢;exact kk b v' (nit b v q).1 (nit b v q).2 q'
     ·exact kk c v' (nit c _ z).1 (nit c _ z).2 q'
  refine⟨.ref s.heap.objs.size,upd H s.heap.objs.size (.tup [.int i,x]),I1,rfl,⟨_,x,hp,rfl,fun ys hy=>by rw[I.list_inj hy hq];exact hx,rfl⟩,⟨⟨u,?_⟩,?_⟩,fun b hb=>?_⟩
  ·exact(by simpa using he2)
  ·exact hit1.at fun o q=>(sb2.2 it (Ne.symm hne)).trans q
  ·have hb:b=e∨b=it:=by simpa using hb
   rcases hb with z | z
   ·rw[z,upd_ne (aB hel)];exact f0
   ·rw[z,upd_ne (aB hil)];exact g0
 done:=by
  intro X hP hw hK hc i pins s σ H E I hf st hg
  subst hP hw hK
  obtain⟨⟨old,he⟩,hit⟩:=st
  obtain⟨xs,hq,hx⟩:=hg
  obtain⟨its,rv,p,hz⟩:=I.list hq
  obtain⟨g0,g1,g2,g3,g4,g5⟩:=hf it (by simp)
  have hl:=rv.length
  exact wpAny_pyNext_enum_end (I.ok.hd hc) he hit p.isList (by simp;omega) fun h' eb=>⟨rfl,I.turned (t':=s.toks) (fun b o hb q=>eb b o hb q) g0 g1 g3 g4 g5⟩
 self:=fun _ _ _ _ _ st h=>by
  obtain⟨⟨old,he⟩,_⟩:=st
  exact wpAny_pyIter_enum he h
mutual
inductive Rep (H:Hp):V->PyData->Prop
 | non:Rep H .non .none
 | bl (b:Bool):Rep H (.bl b) (.bool b)
 | int (i:Int):Rep H (.int i) (.int i)
 | str (x:Str):Rep H (.str x) (.str x)
 | lst {a:Addr} {xs:List V} {ds:List PyData}:H a=some (.lst xs)->RepAll H xs ds->Rep H (.ref a) (.list ds)
 | tup {a:Addr} {xs:List V} {ds:List PyData}:H a=some (.tup xs)->RepAll H xs ds->Rep H (.ref a) (.tuple ds)
inductive RepAll (H:Hp):List V->List PyData->Prop
 | nil:RepAll H [] []
 | cons {x:V} {xs:List V} {d:PyData} {ds:List PyData}:Rep H x d->RepAll H xs ds->RepAll H (x::xs) (d::ds)
end
mutual
theorem Rep.reads {P:Program}{w:World}{H:Hp}{h:Heap}(ok:HOk P w H h):∀ {v:V}{d:PyData}{u:Value},Rep H v d->RelV v u->∃as,Reads h u d as
 | _,_,_,.non,r=>by cases r;exact⟨_,.none⟩
 | _,_,_,.bl b,r=>by cases r;exact⟨_,.bool b⟩
 | _,_,_,.int i,r=>by obtain⟨t,rfl⟩:=r;exact⟨_,.int i t⟩
 | _,_,_,.str x,r=>by obtain⟨t,rfl⟩:=r;exact⟨_,.str x t⟩
 | _,_,_,.lst (a:=a) (xs:=xs) e rs,r=>by
  cases r
  obtain⟨_,its,n,rv,eh⟩:=(show ObjOk P w H h a (.lst xs) from ok a _ e)
  obtain⟨as,z⟩:=RepAll.reads ok rs rv
  exact⟨_,.list eh rfl rfl (by simpa using z)⟩
 | _,_,_,.tup (a:=a) (xs:=xs) e rs,r=>by
  cases r
  obtain⟨_,its,rv,o,eh,hc,n,hd,_⟩:=(show ObjOk P w H h a (.tup xs) from ok a _ e)
  obtain⟨as,z⟩:=RepAll.reads ok rs rv
  exact⟨_,.tuple eh hc hd (by simpa using z)⟩
theorem RepAll.reads {P:Program}{w:World}{H:Hp}{h:Heap}(ok:HOk P w H h):∀ {vs:List V}{ds:List PyData}{us:List Value}, RepAll H vs ds -> Vals vs us -> ∃as, ReadsAll h us ds as
 | _,_,_,.nil,r=>by cases r;exact⟨_,.nil⟩
 | _,_,_,.cons q qs,r=>by
  cases r with
  | cons r1 r2 =>
   obtain⟨as,z⟩:=Rep.reads ok q r1
   obtain⟨bs,zs⟩:=RepAll.reads ok qs r2
   exact⟨_,.cons z zs⟩
end
mutual
theorem Rep.same {H H':Hp}(s:Same H H'):∀ {v:V}{d:PyData},Rep H v d->Rep H' v d
 | _,_,.non=>.non
 | _,_,.bl b=>.bl b
 | _,_,.int i=>.int i
 | _,_,.str x=>.str x
 | _,_,.lst e rs=>.lst (s _ _ e) (rs.same s)
 | _,_,.tup e rs=>.tup (s _ _ e) (rs.same s)
theorem RepAll.same {H H':Hp}(s:Same H H'):∀ {vs:List V}{ds:List PyData},RepAll H vs ds->RepAll H' vs ds
 | _,_,.nil=>.nil
 | _,_,.cons q qs=>.cons (q.same s) (qs.same s)
end
section
variable {X:Cx}
def shp (d:PyData):Prop:=SeqAt.shaped d=true
def rEqD:R2:=fun x y H Q=>∃da db,Rep H x da/\Rep H y db/\shp da/\shp db/\Q (.bl (PyData.eqv da db)) H
def rNeD:R2:=fun x y H Q=>∃da db,Rep H x da/\Rep H y db/\shp da/\shp db/\Q (.bl (!PyData.eqv da db)) H
theorem op_eqD (hu:X.A.units+64<cLine):OpR X (compareOp .Eq) rEqD:=by
 intro pins s σ H x y v u Q I rx ry h
 obtain⟨da,db,ra,rb,sa,sb,q⟩:=h
 obtain⟨as,za⟩:=ra.reads I.hok rx
 obtain⟨bs,zb⟩:=rb.reads I.hok ry
 exact eq_dataH za zb sa sb hu ⟨.bl _,H,I,rfl,q⟩
theorem op_neD (hu:X.A.units+64<cLine):OpR X (compareOp .NotEq) rNeD:=by
 intro pins s σ H x y v u Q I rx ry h
 obtain⟨da,db,ra,rb,sa,sb,q⟩:=h
 obtain⟨as,za⟩:=ra.reads I.hok rx
 obtain⟨bs,zb⟩:=rb.reads I.hok ry
 exact ne_dataH za zb sa sb hu ⟨.bl _,H,I,rfl,q⟩
theorem op_le_str:OpR X (compareOp .LtE) (fun x y H Q=>∃i j,x=.str i/\y=.str j/\Q (.bl (!decide (j.cps.toList<i.cps.toList))) H):=by
 intro pins s σ H x y v u Q I rx ry h
 obtain⟨i,j,rfl,rfl,q⟩:=h
 obtain⟨t,rfl⟩:=rx
 obtain⟨t',rfl⟩:=ry
 exact PySem.P.le_str (fin_bl I q (by simp))
theorem all_range (bs:List Bool):((List.range bs.length).all fun i=>bs.getD i false)=bs.all id:=by
 rw[aO,bi,bi]
 constructor
 ·intro h b hb
  obtain⟨i,hi,rfl⟩:=List.mem_iff_getElem.mp hb
  have:=h i (by simpa using hi)
  simpa [aD,hi] using this
 ·intro h i hi
  have hi:i<bs.length:=by simpa using hi
  have:=h bs[i] (ck hi)
  simpa [aD,hi] using this
theorem vals_bl {bs:List Bool}{its:List Value}(r:Vals (bs.map V.bl) its) {i:Nat}{v:Value}(e:its[i]? = some v):v=.bool (bs.getD i false):=by
 have hl:=r.length
 rw[aa] at hl
 have hi:i<bs.length:=by rw[hl];exact(af.mp e).1
 obtain⟨u,hu,ru⟩:=r.get (i:=i) (x:=V.bl (bs.getD i false)) (by rw[aA];simp[aD,hi])
 rw[e] at hu
 cases hu
 exact ru
theorem call_all_bl (hc:X.calm=true):CallR X (.builtin "all") (fun xs H Q=>∃p bs,xs=[.ref p]/\H p=some (.lst (List.map V.bl bs))/\Q (.bl (bs.all id)) H):=by
 intro pins s σ H xs us Q I r h
 obtain⟨p,bs,rfl,e,q⟩:=h
 obtain⟨u,rfl,ru⟩:=vals1 r
 cases ru
 obtain⟨hz,its,n,rv,eh⟩:=(show ObjOk X.prog X.w H s.heap p (.lst (List.map V.bl bs)) from I.hok p _ e)
 have hl:s.heap.IsList p its.toArray:=⟨_,eh,rfl,n,rfl⟩
 have hlen:its.length=bs.length:=by have:=rv.length;rw[aa] at this;exact this.symm
 have hpl:p<s.heap.objs.size:=ak eh
 refine call_all_walk (wpAny_pyIter_list hl ?_)
 refine⟨s.heap.objs.size,[s.heap.objs.size,p],[s.heap.objs.size],its.toArray.size,_,_,fun i=>bs.getD i false,rfl,
  Walks.list (A:=X.A.in1) (I.ok.hd hc) _ p (aB hpl) its.toArray,⟨⟨_,aF _ rfl,rfl,rfl⟩,⟨_,ay _ eh,rfl,n,rfl⟩⟩,?_,fun h' tk hk=>?_⟩
 ·intro i v s' Q' E' hv hQ'
  have hv:its[i]? = some v:=by simpa using hv
  rw[vals_bl rv hv]
  exact ag hQ'
 ·refine⟨.bl _,H,I.kept fun b o eb=>hk b o (by simpa using aB (ak eb)) (ay _ eb),rfl,?_⟩
  rw[aE,hlen,all_range]
  exact q
theorem strs_of:∀ {ys:List Str}{us:List Value}, Vals (ys.map V.str) us -> StrsAre us ys
 | [],us,r=>by cases r;exact .nil
 | y::ys,us,r=>by
  cases r with
  | cons r1 r2 =>
   obtain⟨t,rfl⟩:=r1
   exact .cons y t (strs_of r2)
def rJoin:V->List V->Hp->VK->Prop:=fun x xs H Q=>∃z p ys,x=.str z/\xs=[.ref p]/\H p=some (.lst (List.map V.str ys))/\(ys.map (·.length)).sum+ys.length * z.length<=16777216/\Q (.str (Txt.join z ys)) H
theorem mt_join:MtR X "str.join" rJoin:=by
 intro pins s σ H x xs v us Q I rx rv h
 obtain⟨z,p,ys,rfl,rfl,e,hz,q⟩:=h
 obtain⟨t,rfl⟩:=rx
 obtain⟨u,rfl,ru⟩:=vals1 rv
 cases ru
 obtain⟨_,its,n,rv,eh⟩:=(show ObjOk X.prog X.w H s.heap p (.lst (List.map V.str ys)) from I.hok p _ e)
 exact join_list (D:=p) (items:=its.toArray) ⟨_,eh,rfl,n,rfl⟩ (by simpa using strs_of rv) hz fun t' k=>⟨.str _,H,I.tok k,⟨t',rfl⟩,q⟩
def rSlS:V->Option Int->Option Int->Hp->VK->Prop:=fun x lo hi H Q=>∃z,x=.str z/\z.length<=sizeLine/\Q (.str (Txt.slice z lo hi)) H
theorem sl_str:SlR X rSlS:=by
 intro pins s σ H x v vl vu lo hi sl Q I rx hs pl pu h
 obtain⟨z,rfl,hz,q⟩:=h
 obtain⟨t,rfl⟩:=rx
 refine⟨"str",_,PySem.F.slot_str_getitem.lookup,typeIs_str _ _ _,?_⟩
 obtain⟨o,h1,h2,h3⟩:=hs
 have fin:∀t' k,EP X pins σ Q (.str (Txt.slice z lo hi) t') { s with toks:=k }:=fun t' k=>⟨.str _,H,I.tok k,⟨t',rfl⟩,q⟩
 cases pl with
 | none=>cases pu with
  | none=>exact wpAny_getItem_str_slice (l:=none) (u:=none) (st:=none) ⟨o,h1,h2,h3⟩ rfl (post_val_or_str ⟨aW (Txt.slice_le z _ _) hz,fin⟩)
  | int j tj=>exact wpAny_getItem_str_slice (l:=none) (u:=some (j,tj)) (st:=none) ⟨o,h1,h2,h3⟩ rfl (post_val_or_str ⟨aW (Txt.slice_le z _ _) hz,fin⟩)
 | int i ti=>cases pu with
  | none=>exact wpAny_getItem_str_slice (l:=some (i,ti)) (u:=none) (st:=none) ⟨o,h1,h2,h3⟩ rfl (post_val_or_str ⟨aW (Txt.slice_le z _ _) hz,fin⟩)
  | int j tj=>exact wpAny_getItem_str_slice (l:=some (i,ti)) (u:=some (j,tj)) (st:=none) ⟨o,h1,h2,h3⟩ rfl (post_val_or_str ⟨aW (Txt.slice_le z _ _) hz,fin⟩)
def rIsi (K:W.Frag) (c:String):List V->Hp->VK->Prop:=fun xs H Q=>∃x t b,xs=[x,.ty c]/\TyOf K H x t/\W.kitOne K t (.type c)=some b/\Q (.bl b) H
theorem call_isi (c:String):CallR X (.builtin "isinstance") (rIsi X.K c):=by
 intro pins s σ H xs us Q I r h
 obtain⟨x,t,b,rfl,ty,e,q⟩:=h
 obtain⟨u,w',rfl,ru,rw'⟩:=vals2 r
 cases rw'
 exact isinst_ok I ru ty e fun tk=>⟨.bl b,H,I.tok tk,rfl,q⟩
theorem any_readOf {P:Program}{w:World}{H:Hp}{h:Heap}(ok:HOk P w H h) {d:PyData}:∀ {xs:List V}{ds:List PyData}{us:List Value}, RepAll H xs ds -> Vals xs us -> PyData.canLayAll0 ds=true -> us.any (fun u => PyData.eqv (SeqAt.readOf h u) d)=ds.any fun e => PyData.eqv e d
 | _,_,_,.nil,r,_=>by cases r;rfl
 | _,_,_,.cons q qs,r,hl=>by
  cases r with
  | cons r1 r2 =>
   have hl':=Bool.and_eq_true_iff.mp (show (PyData.canLay0 _&&PyData.canLayAll0 _)=true from hl)
   obtain⟨as,z⟩:=q.reads ok r1
   rw[bL,bL,SeqAt.readOf_eq hl'.1 z,any_readOf ok qs r2 hl'.2]
theorem mem_readOf {P:Program}{w:World}{H:Hp}{A:Around}{s:Shared}(ok:HOk P w H s.heap) {d:PyData}{x:V}{v:Value}{bs:List Addr}(zx:Reads s.heap v d bs) (hd:d.canLay0=true) (hu:A.units+d.depth<cLine) :
    ∀ {xs:List V} {ds:List PyData} {us:List Value},RepAll H xs ds->Vals xs us->PyData.canLayAll0 ds=true->∀u∈us,SeqAt.EqAt A s u v (PyData.eqv (SeqAt.readOf s.heap u) d)
 | _,_,_,.nil,r,_=>by cases r;intro u hu;cases hu
 | _, _, _, .cons q qs, r, hl => by
  cases r with
  | cons r1 r2 =>
   have hl':=Bool.and_eq_true_iff.mp (show (PyData.canLay0 _&&PyData.canLayAll0 _)=true from hl)
   intro u hm
   rcases ax.mp hm with rfl | hm
   ·obtain⟨as,z⟩:=q.reads ok r1
    rw[SeqAt.readOf_eq hl'.1 z]
    exact SeqAt.eqAt_reads _ _ _ _ _ _ _ _ z zx hl'.1 hd (Nat.lt_of_le_of_lt (Nat.add_le_add_left (Nat.min_le_right _ _) _) hu)
   ·exact mem_readOf (x:=x) ok zx hd hu qs r2 hl'.2 u hm
def rInD (neg:Bool):R2:=fun x y H Q=>∃p xs ds d,y=.ref p/\H p=some (.lst xs)/\RepAll H xs ds/\Rep H x d/\PyData.canLayAll0 ds=true/\d.canLay0=true/\d.depth<=16 /\
 Q (.bl (if neg then !(ds.any fun e=>PyData.eqv e d) else ds.any fun e=>PyData.eqv e d)) H
theorem op_inD (hu:X.A.units+64<cLine):OpR X (compareOp .In) (rInD false):=by
 intro pins s σ H x y v u Q I rx ry h
 obtain⟨p,xs,ds,d,rfl,e,rs,r,cs,c,dp,q⟩:=h
 cases ry
 obtain⟨_,its,n,rv,eh⟩:=(show ObjOk X.prog X.w H s.heap p (.lst xs) from I.hok p _ e)
 obtain⟨bs,zx⟩:=r.reads I.hok rx
 refine SeqAt.in_listAt (fun u=>PyData.eqv (SeqAt.readOf s.heap u) d) ⟨_,eh,rfl,n,rfl⟩ (fun w hw=>mem_readOf (x:=x) I.hok zx c (by show X.A.units+1+d.depth<cLine;omega) rs rv cs w (by simpa using hw)) ⟨.bl _,H,I,rfl,?_⟩
 rw[show its.toArray.any (fun u=>PyData.eqv (SeqAt.readOf s.heap u) d)=its.any (fun u=>PyData.eqv (SeqAt.readOf s.heap u) d) by simp,any_readOf I.hok rs rv cs]
 exact q
theorem op_notInD (hu:X.A.units+64<cLine):OpR X (compareOp .NotIn) (rInD true):=by
 intro pins s σ H x y v u Q I rx ry h
 obtain⟨p,xs,ds,d,rfl,e,rs,r,cs,c,dp,q⟩:=h
 cases ry
 obtain⟨_,its,n,rv,eh⟩:=(show ObjOk X.prog X.w H s.heap p (.lst xs) from I.hok p _ e)
 obtain⟨bs,zx⟩:=r.reads I.hok rx
 refine SeqAt.notIn_listAt (fun u=>PyData.eqv (SeqAt.readOf s.heap u) d) ⟨_,eh,rfl,n,rfl⟩ (fun w hw=>mem_readOf (x:=x) I.hok zx c (by show X.A.units+1+d.depth<cLine;omega) rs rv cs w (by simpa using hw)) ⟨.bl _,H,I,rfl,?_⟩
 rw[show its.toArray.any (fun u=>PyData.eqv (SeqAt.readOf s.heap u) d)=its.any (fun u=>PyData.eqv (SeqAt.readOf s.heap u) d) by simp,any_readOf I.hok rs rv cs]
 exact q
end
structure Cal (P:Program) (w:World) (K:W.Frag) (mg:Str->Option Value) (base:Heap) (k:Nat) (x:Str) (ps:List Str) (sp:Sp):Prop where
 ex:∃(f:Addr) (fd:FuncData),FnOk P w K mg base CX0 k f fd ps sp/\mg x=some (.ref f)/\W.keepIn K (.ref f)=true/\Binds K fd ps []
section
variable {X:Cx}{x:Str}{ps:List Str}{sp:Sp}{k j:Nat}{p pos:Pos}{e:Expr}{es:List Expr}{t:TA}
theorem pe_cal (c:Cal X.prog X.w X.K X.mg X.base k x ps sp) (hr:Room k X.A) (hg:Gl X x) (ha:PA X (e::es) t)
    (hs:starEach (e::es) X.env=(false,eval e X.env)::starEach es X.env:=by rfl) (hpl:(backTo pos (starEach es X.env)).any (·.1)=false:=by rfl) (hdb:(x==("__debug__":Str))=false:=by decide) :
    PE X (.Call (.Name x p) (e::es) [] pos) (tCall sp [] E0 t):=by
 obtain⟨f,fd,G,mf,kp,b⟩:=c.ex
 exact pe_call G hr hg mf kp b .nil pass0 ha (hdb:=hdb) (he:=hs) (hpl:=hpl)
end
section
variable {X:Cx}
inductive AddR (H:Hp):V->V->VK->Prop
 | int {i j:Int} {Q:VK}:Q (.int (i+j)) H->AddR H (.int i) (.int j) Q
 | str {i j:Str} {Q:VK}:i.length+j.length<=sizeLine->Q (.str (i++j)) H->AddR H (.str i) (.str j) Q
 | lst {l b:Addr} {xs zs:List V} {Q:VK}:H l=some (.lst xs)->H b=some (.lst zs)->xs.length+zs.length<=sizeLine->(∀p,H p=none->Q (.ref p) (upd H p (.lst (xs++zs))))->AddR H (.ref l) (.ref b) Q
theorem op_addX:OpR X (binaryOp .Add) (fun x y H Q=>AddR H x y Q):=by
 intro pins s σ H x y v u Q I rx ry h
 cases h with
 | int q=>exact op_add pins s σ H _ _ v u Q I rx ry ⟨_,_,rfl,rfl,q⟩
 | str hz q=>exact op_add_str pins s σ H _ _ v u Q I rx ry ⟨_,_,rfl,rfl,hz,q⟩
 | lst h1 h2 hz q=>exact op_cat pins s σ H _ _ v u Q I rx ry ⟨_,_,_,_,rfl,rfl,h1,h2,hz,q⟩
inductive EqR (neg:Bool) (H:Hp):V->V->VK->Prop
 | sc {x y:V} {Q:VK}:scal x y=true->Q (.bl (if neg then !decide (x=y) else decide (x=y))) H->EqR neg H x y Q
 | tr {x y:V} {da db:PyData} {Q:VK}:Rep H x da->Rep H y db->shp da->shp db->Q (.bl (if neg then !PyData.eqv da db else PyData.eqv da db)) H->EqR neg H x y Q
theorem op_eqX (hu:X.A.units+64<cLine):OpR X (compareOp .Eq) (fun x y H Q=>EqR false H x y Q):=by
 intro pins s σ H x y v u Q I rx ry h
 cases h with
 | sc h q=>exact op_eq pins s σ H _ _ v u Q I rx ry ⟨h,q⟩
 | tr ra rb sa sb q=>exact op_eqD hu pins s σ H _ _ v u Q I rx ry ⟨_,_,ra,rb,sa,sb,q⟩
theorem op_neX (hu:X.A.units+64<cLine):OpR X (compareOp .NotEq) (fun x y H Q=>EqR true H x y Q):=by
 intro pins s σ H x y v u Q I rx ry h
 cases h with
 | sc h q=>exact op_ne pins s σ H _ _ v u Q I rx ry ⟨h,q⟩
 | tr ra rb sa sb q=>exact op_neD hu pins s σ H _ _ v u Q I rx ry ⟨_,_,ra,rb,sa,sb,q⟩
inductive SlX (K:W.Frag) (H:Hp):V->Option Int->Option Int->VK->Prop
 | str {z:Str} {lo hi:Option Int} {Q:VK}:z.length<=sizeLine->Q (.str (Txt.slice z lo hi)) H->SlX K H (.str z) lo hi Q
 | lst {a:Addr} {xs:List V} {lo hi:Option Int} {Q:VK}:SqL K H a xs->(∀p,H p=none->Q (.ref p) (upd H p (.lst (cutV xs lo hi))))->SlX K H (.ref a) lo hi Q
theorem sl_X:SlR X (fun x lo hi H Q=>SlX X.K H x lo hi Q):=by
 intro pins s σ H x v vl vu lo hi sl Q I rx hs pl pu h
 cases h with
 | str hz q=>exact sl_str pins s σ H _ v vl vu lo hi sl Q I rx hs pl pu ⟨_,rfl,hz,q⟩
 | lst h1 q=>exact sl_list pins s σ H _ v vl vu lo hi sl Q I rx hs pl pu ⟨_,_,rfl,h1,q⟩
end
section
variable {X:Cx}
inductive CmR (f:Int->Int->Bool) (g:Str->Str->Bool) (H:Hp):V->V->VK->Prop
 | int {i j:Int} {Q:VK}:Q (.bl (f i j)) H->CmR f g H (.int i) (.int j) Q
 | str {i j:Str} {Q:VK}:Q (.bl (g i j)) H->CmR f g H (.str i) (.str j) Q
theorem op_leX:OpR X (compareOp .LtE) (fun x y H Q=>CmR (fun i j=>decide (i<=j)) (fun i j=>!decide (j.cps.toList<i.cps.toList)) H x y Q):=by
 intro pins s σ H x y v u Q I rx ry h
 cases h with
 | int q=>exact op_le pins s σ H _ _ v u Q I rx ry ⟨_,_,rfl,rfl,q⟩
 | str q=>exact op_le_str pins s σ H _ _ v u Q I rx ry ⟨_,_,rfl,rfl,q⟩
theorem op_ltX:OpR X (compareOp .Lt) (fun x y H Q=>CmR (fun i j=>decide (i<j)) (fun i j=>decide (i.cps.toList<j.cps.toList)) H x y Q):=by
 intro pins s σ H x y v u Q I rx ry h
 cases h with
 | int q=>exact op_lt pins s σ H _ _ v u Q I rx ry ⟨_,_,rfl,rfl,q⟩
 | str q=>exact op_lt_str pins s σ H _ _ v u Q I rx ry ⟨_,_,rfl,rfl,q⟩
inductive IsB (neg:Bool) (H:Hp):V->V->VK->Prop
 | int {i:Int} {b:Bool} {Q:VK}:Q (.bl neg) H->IsB neg H (.int i) (.bl b) Q
 | bl {c b:Bool} {Q:VK}:Q (.bl (if neg then !decide (c=b) else decide (c=b))) H->IsB neg H (.bl c) (.bl b) Q
 | non {x:V} {Q:VK}:Q (.bl (if neg then !decide (x=.non) else decide (x=.non))) H->IsB neg H x .non Q
theorem op_isNotX:OpR X (compareOp .IsNot) (fun x y H Q=>IsB true H x y Q):=by
 intro pins s σ H x y v u Q I rx ry h
 cases h with
 | int q =>
  obtain⟨t,rfl⟩:=rx
  cases ry
  exact wpAny_isNot_other (by rfl) (by intro z;cases z) ⟨.bl _,H,I,rfl,q⟩
 | @bl c b _ q =>
  cases rx
  cases ry
  exact wpAny_isNot_plain (by rfl) (fin_bl I q (by cases c <;> cases b <;> rfl))
 | non q=>exact op_notN pins s σ H _ _ v u Q I rx ry ⟨rfl,q⟩
theorem op_isX:OpR X (compareOp .Is) (fun x y H Q=>IsB false H x y Q):=by
 intro pins s σ H x y v u Q I rx ry h
 cases h with
 | int q =>
  obtain⟨t,rfl⟩:=rx
  cases ry
  exact wpAny_is_other (by rfl) (by intro z;cases z) ⟨.bl _,H,I,rfl,q⟩
 | @bl c b _ q =>
  cases rx
  cases ry
  exact wpAny_is_plain (by rfl) (fin_bl I q (by cases c <;> cases b <;> rfl))
 | non q=>exact op_isN pins s σ H _ _ v u Q I rx ry ⟨rfl,q⟩
theorem m_join (K:W.Frag) {o e:Expr}{to:TE}{t:TA}{apos cpos:Pos}(ho:PE X o to) (ha:PA X [e] t)
    (hbase:attributeBase o "join" X.env (eval o X.env)=eval o X.env:=by rfl)
    (hfew:((backTo cpos (starEach [e] X.env)).all (fun x=>!x.1)&&(backToKw cpos (keywordEach [] X.env)).all (fun x=>x.1.isSome)
     && decide ([e].length+([]:List Keyword).length+(if ([]:List Keyword).isEmpty then 0 else 1)<30))=true:=by rfl)
    (hline:(apos.endLine==cpos.line)=true:=by rfl) (hs:starEach [e] X.env=(false,eval e X.env)::starEach [] X.env:=by rfl) (hplain:(backTo cpos (starEach [] X.env)).any (·.1)=false:=by rfl) (hK:X.K=K:=by rfl) :
    PE X (.Call (.Attribute o "join" apos) [e] [] cpos) (tBM K "str" rJoin to t):=hK ▸ pe_bm PySem.F.plainAttrs_str PySem.F.slot_str_join PySem.F.type_str_join mt_join ho ha hbase hfew hline hs hplain
theorem m_append (K:W.Frag) {o e:Expr}{to:TE}{t:TA}{apos cpos:Pos}(ho:PE X o to) (ha:PA X [e] t)
    (hbase:attributeBase o "append" X.env (eval o X.env)=eval o X.env:=by rfl)
    (hfew:((backTo cpos (starEach [e] X.env)).all (fun x=>!x.1)&&(backToKw cpos (keywordEach [] X.env)).all (fun x=>x.1.isSome)
     && decide ([e].length+([]:List Keyword).length+(if ([]:List Keyword).isEmpty then 0 else 1)<30))=true:=by rfl)
    (hline:(apos.endLine==cpos.line)=true:=by rfl) (hs:starEach [e] X.env=(false,eval e X.env)::starEach [] X.env:=by rfl) (hplain:(backTo cpos (starEach [] X.env)).any (·.1)=false:=by rfl) (hK:X.K=K:=by rfl) :
    PE X (.Call (.Attribute o "append" apos) [e] [] cpos) (tBM K "list" rAppend to t):=hK ▸ pe_bm PySem.F.plainAttrs_list PySem.F.slot_list_append PySem.F.type_list_append mt_append ho ha hbase hfew hline hs hplain
theorem sl_K (K:W.Frag) (hK:X.K=K:=by rfl):SlR X (fun x lo hi H Q=>SlX K H x lo hi Q):=hK ▸ sl_X
theorem pi_listK (K:W.Frag) {tg l:Expr}{tl:TE}(hl:PE X l tl) (hK:X.K=K:=by rfl):PI X tg l (iList K tl):=hK ▸ pi_list hl
theorem pi_tupK (K:W.Frag) {tg l:Expr}{tl:TE}(hl:PE X l tl) (hK:X.K=K:=by rfl):PI X tg l (iTup K tl):=hK ▸ pi_tup hl
end
theorem gYes {i:Nat}{v:V}{σ:St}{H:Hp}{A B:St->Hp->Prop}(h:A (σ.set i (some v)) H):gName i v σ H fun σ2 H3=>tYes σ2 H3 fun b H4=>if b=true then A σ2 H4 else B σ2 H4:=by
 show (if true=true then A (σ.set i (some v)) H else B (σ.set i (some v)) H)
 rw[if_pos rfl]
 exact h
section
variable {K:W.Frag}{k:Nat}{fr:List Nat}{g:TG}{tc:TT}{te:TE}{σ:St}{H1:Hp}{Q:VK}
theorem comp_items {J:It}(xs:List V) (Ok:Hp -> Prop) (hgo:∀i H, Ok H -> i<xs.length -> J.go i H) (hyl:∀i H x H', Ok H -> i<xs.length -> J.yld i H x H' -> H'=H /\ xs[i]? = some x) (hst:∀H, Ok H -> J.stop xs.length H)
    (Pv:Addr->Nat->List V->St->Hp->Prop)
    (h:∀D,H1 D=none->Pv D 0 [] (inSt k fr σ) (upd H1 D (.lst []))/\(∀i acc σ' H',i<=xs.length->Pv D i acc σ' H'->H' D=some (.lst acc)->Ok H') /\
     (∀i acc σ' H' x,xs[i]? = some x->Pv D i acc σ' H'->H' D=some (.lst acc)->g x σ' H' fun σ2 H3=>tc σ2 H3 fun b H4 =>
      if b=true then te σ2 H4 fun y H5=>H5 D=some (.lst acc)/\acc.length<sizeLine/\Pv D (i+1) (acc++[y]) σ2 (upd H5 D (.lst (acc++[y]))) else H4 D=some (.lst acc)/\Pv D (i+1) acc σ2 H4) /\
     ∀acc σ' H',Pv D xs.length acc σ' H'->H' D=some (.lst acc)->Q (.ref D) H'):tCompW k fr g tc te J σ H1 Q:=by
 intro D hD
 obtain⟨h0,hok,hs,hd⟩:=h D hD
 refine⟨fun i m acc σ' H'=>m=xs.length-i/\i<=xs.length/\Pv D i acc σ' H',⟨xs.length,by simp,a0 _,h0⟩,?_⟩
 rintro i m acc σ' H' ⟨rfl,hi,p⟩ hacc
 have ok:=hok i acc σ' H' hi p hacc
 by_cases hlt:i<xs.length
 ·refine .inr ⟨hgo i H' ok hlt,Pv D (i+1),fun acc' σ2 H2 p'=>⟨xs.length-(i+1),by omega,rfl,hlt,p'⟩,fun x H2 y=>?_⟩
  obtain⟨e,hx⟩:=hyl i H' x H2 ok hlt y
  subst e
  exact hs i acc σ' H2 x hx p hacc
 ·have e:i=xs.length:=by omega
  subst e
  exact .inl ⟨hst H' ok,hd acc σ' H' p hacc⟩
def rngV (n:Nat):List V:=(List.range n).map fun i=>V.int (0+(i:Nat))
theorem comp_range {n:Nat}(Pv:Addr -> Nat -> List V -> St -> Hp -> Prop)
    (h:∀D,H1 D=none->Pv D 0 [] (inSt k fr σ) (upd H1 D (.lst [])) /\
     (∀i acc σ' H',i<n->Pv D i acc σ' H'->H' D=some (.lst acc)->g (.int (0+(i:Nat))) σ' H' fun σ2 H3=>tc σ2 H3 fun b H4 =>
      if b=true then te σ2 H4 fun y H5=>H5 D=some (.lst acc)/\acc.length<sizeLine/\Pv D (i+1) (acc++[y]) σ2 (upd H5 D (.lst (acc++[y]))) else H4 D=some (.lst acc)/\Pv D (i+1) acc σ2 H4) /\
     ∀acc σ' H',Pv D n acc σ' H'->H' D=some (.lst acc)->Q (.ref D) H'):tCompW k fr g tc te (Itr 0 n) σ H1 Q:=by
 have hl:(rngV n).length=n:=by simp[rngV]
 refine comp_items (rngV n) (fun _=>True) (fun i H _ hi=>by rw[hl] at hi;exact hi) (fun i H x H' _ hi y=>⟨y.1,?_⟩) (fun H _=>by show n<=(rngV n).length;rw[hl];exact ae _) Pv fun D hD=>?_
 ·rw[hl] at hi
  rw[y.2]
  simp[rngV,hi]
 ·obtain⟨a,b,c⟩:=h D hD
  refine⟨a,fun _ _ _ _ _ _ _=>trivial,fun i acc σ' H' x hx p hacc=>?_,by rw[hl];exact c⟩
  have hi:i<n:=by rw[<- hl];exact(af.mp hx).1
  have e:x=V.int (0+(i:Nat)):=by
   simp[rngV,hi] at hx
   rw[<- hx];simp
  subst e
  exact b i acc σ' H' hi p hacc
theorem comp_list {a:Addr}(xs:List V) (Pv:Addr -> Nat -> List V -> St -> Hp -> Prop)
    (h:∀D,H1 D=none->Pv D 0 [] (inSt k fr σ) (upd H1 D (.lst []))/\(∀i acc σ' H',i<=xs.length->Pv D i acc σ' H'->H' D=some (.lst acc)->SqL K H' a xs) /\
     (∀i acc σ' H' x,xs[i]? = some x->Pv D i acc σ' H'->H' D=some (.lst acc)->g x σ' H' fun σ2 H3=>tc σ2 H3 fun b H4 =>
      if b=true then te σ2 H4 fun y H5=>H5 D=some (.lst acc)/\acc.length<sizeLine/\Pv D (i+1) (acc++[y]) σ2 (upd H5 D (.lst (acc++[y]))) else H4 D=some (.lst acc)/\Pv D (i+1) acc σ2 H4) /\
     ∀acc σ' H',Pv D xs.length acc σ' H'->H' D=some (.lst acc)->Q (.ref D) H'):tCompW k fr g tc te (Itl K a) σ H1 Q :=
 comp_items xs (fun H=>SqL K H a xs) (fun i H q hi=>⟨xs,xs[i],q,by simp[hi]⟩) (fun i H x H' q hi y=>⟨y.1,y.2 xs q⟩) (fun H q=>⟨xs,q,ae _⟩) Pv h
theorem comp_tup {a:Addr}(xs:List V) (Pv:Addr -> Nat -> List V -> St -> Hp -> Prop)
    (h:∀D,H1 D=none->Pv D 0 [] (inSt k fr σ) (upd H1 D (.lst []))/\(∀i acc σ' H',i<=xs.length->Pv D i acc σ' H'->H' D=some (.lst acc)->SqT K H' a xs) /\
     (∀i acc σ' H' x,xs[i]? = some x->Pv D i acc σ' H'->H' D=some (.lst acc)->g x σ' H' fun σ2 H3=>tc σ2 H3 fun b H4 =>
      if b=true then te σ2 H4 fun y H5=>H5 D=some (.lst acc)/\acc.length<sizeLine/\Pv D (i+1) (acc++[y]) σ2 (upd H5 D (.lst (acc++[y]))) else H4 D=some (.lst acc)/\Pv D (i+1) acc σ2 H4) /\
     ∀acc σ' H',Pv D xs.length acc σ' H'->H' D=some (.lst acc)->Q (.ref D) H'):tCompW k fr g tc te (Itt K a) σ H1 Q :=
 comp_items xs (fun H=>SqT K H a xs) (fun i H q hi=>⟨xs,xs[i],q,by simp[hi]⟩) (fun i H x H' q hi y=>⟨y.1,y.2 xs q⟩) (fun H q=>⟨xs,q,ae _⟩) Pv h
def signsV (z:Str):List V:=z.cps.toList.map fun c=>V.str ⟨#[c]⟩
theorem comp_str {z:Str}(Pv:Addr -> Nat -> List V -> St -> Hp -> Prop)
    (h:∀D,H1 D=none->Pv D 0 [] (inSt k fr σ) (upd H1 D (.lst [])) /\
     (∀i acc σ' H' c,z.cps.toList[i]? = some c->Pv D i acc σ' H'->H' D=some (.lst acc)->g (.str ⟨#[c]⟩) σ' H' fun σ2 H3=>tc σ2 H3 fun b H4 =>
      if b=true then te σ2 H4 fun y H5=>H5 D=some (.lst acc)/\acc.length<sizeLine/\Pv D (i+1) (acc++[y]) σ2 (upd H5 D (.lst (acc++[y]))) else H4 D=some (.lst acc)/\Pv D (i+1) acc σ2 H4) /\
     ∀acc σ' H',Pv D z.cps.toList.length acc σ' H'->H' D=some (.lst acc)->Q (.ref D) H'):tCompW k fr g tc te (Its z) σ H1 Q:=by
 have hl:(signsV z).length=z.cps.toList.length:=by simp[signsV]
 refine comp_items (signsV z) (fun _=>True) (fun i H _ hi=>by rw[hl] at hi;show i<z.cps.size;simpa using hi) (fun i H x H' _ hi y=>⟨y.1,?_⟩) (fun H _=>by show z.cps.size<=(signsV z).length;rw[hl];simp) Pv fun D hD=>?_
 ·have y2:=y.2
  unfold sgV at y2
  simp only[signsV,aA,Array.getElem?_toList]
  exact y2
 ·obtain⟨a,b,c⟩:=h D hD
  refine⟨a,fun _ _ _ _ _ _ _=>trivial,fun i acc σ' H' x hx p hacc=>?_,by rw[hl];exact c⟩
  simp only[signsV,aA] at hx
  cases e:z.cps.toList[i]? with
  | none=>rw[e] at hx;cases hx
  | some cc =>
   rw[e] at hx
   cases hx
   exact b i acc σ' H' cc e p hacc
end
def But (p:Addr) (H H':Hp):Prop:=∀b o,b≠p->H b=some o->H' b=some o
theorem But.refl (p:Addr) (H:Hp):But p H H:=fun _ _ _ h=>h
theorem But.trans {p:Addr}{H H1 H2:Hp}(a:But p H H1) (b:But p H1 H2):But p H H2:=fun c o n h=>b c o n (a c o n h)
theorem But.upd {p:Addr}{H:Hp}{o:HO}:But p H (upd H p o):=fun b o' n h=>by rw[upd_ne n];exact h
theorem But.of_same {p:Addr}{H H':Hp}(s:Same H H'):But p H H':=fun b o _ h=>s b o h
theorem Same.new {H:Hp}{p:Addr}{o:HO}(h:H p=none):Same H (upd H p o):=fun b o' e=>by rw[upd_ne (ne_of_none e h)];exact e
theorem Rd.but {p:Addr}{H H':Hp}(b:But p H H') {a:Addr}{u:HO}(n:a≠p) (h:Rd H a u):Rd H' a u:=by
 rcases h with h | ⟨o,h⟩
 ·exact .inl (b _ _ n h)
 ·exact .inr ⟨o,b _ _ n h⟩
theorem SqL.but {K:W.Frag}{p:Addr}{H H':Hp}(b:But p H H') {a:Addr}{xs:List V}(n:a≠p) (h:SqL K H a xs):SqL K H' a xs:=by
 rcases h with h | h
 ·exact .inl (h.but b n)
 ·exact .inr h
structure Blt (mg:Str->Option Value):Prop where
 len:mg "len"=none
 range:mg "range"=none
 abs:mg "abs"=none
 all:mg "all"=none
 repr:mg "repr"=none
 isinstance:mg "isinstance"=none
 str:mg "str"=none
 int:mg "int"=none
 bool:mg "bool"=none
 enumerate:mg "enumerate"=none
 list:mg "list"=none
 tuple:mg "tuple"=none
 dict:mg "dict"=none
 min:mg "min"=none
 max:mg "max"=none
section
variable {X:Cx}{p pos:Pos}{e f:Expr}{t:TA}
def rLen (K:W.Frag):List V->Hp->VK->Prop:=fun xs H Q=>∃x n,xs=[x]/\LenV K x H n/\Q (.int n) H
def rAbs:List V->Hp->VK->Prop:=fun xs H Q=>∃i,xs=[.int i]/\Q (.int (if i<0 then -i else i)) H
def rAll:List V->Hp->VK->Prop:=fun xs H Q=>∃p bs,xs=[.ref p]/\H p=some (.lst (List.map V.bl bs))/\Q (.bl (bs.all id)) H
theorem b_len (K:W.Frag) (B:Blt X.mg) (ha:PA X [e] t) (hg:Gl X "len":=by rfl) (he:starEach [e] X.env=(false,eval e X.env)::starEach [] X.env:=by rfl) (hpl:(backTo pos (starEach [] X.env)).any (·.1)=false:=by rfl) (hK:X.K=K:=by rfl):PE X (.Call (.Name "len" p) [e] [] pos) (tCB (rLen K) t) :=
 hK ▸ pe_callB call_len hg B.len PySem.boot_len ha (by decide) (by decide) he hpl
theorem b_abs (B:Blt X.mg) (ha:PA X [e] t) (hg:Gl X "abs":=by rfl) (he:starEach [e] X.env=(false,eval e X.env)::starEach [] X.env:=by rfl) (hpl:(backTo pos (starEach [] X.env)).any (·.1)=false:=by rfl):PE X (.Call (.Name "abs" p) [e] [] pos) (tCB rAbs t) :=
 pe_callB call_abs hg B.abs boot_abs ha (by decide) (by decide) he hpl
theorem b_all (hc:X.calm=true) (B:Blt X.mg) (ha:PA X [e] t) (hg:Gl X "all":=by rfl) (he:starEach [e] X.env=(false,eval e X.env)::starEach [] X.env:=by rfl) (hpl:(backTo pos (starEach [] X.env)).any (·.1)=false:=by rfl):PE X (.Call (.Name "all" p) [e] [] pos) (tCB rAll t) :=
 pe_callB (call_all_bl hc) hg B.all boot_all ha (by decide) (by decide) he hpl
theorem b_isi (K:W.Frag) (c:String) (B:Blt X.mg) (ha:PA X [e,f] t) (hg:Gl X "isinstance":=by rfl) (he:starEach [e,f] X.env=(false,eval e X.env)::starEach [f] X.env:=by rfl) (hpl:(backTo pos (starEach [f] X.env)).any (·.1)=false:=by rfl) (hK:X.K=K:=by rfl):PE X (.Call (.Name "isinstance" p) [e,f] [] pos) (tCB (rIsi K c) t) :=
 hK ▸ pe_callB (call_isi c) hg B.isinstance boot_isinstance ha (by decide) (by decide) he hpl
theorem g_str (B:Blt X.mg) (hg:Gl X "str":=by rfl):PE X (.Name "str" p) (tC (.ty "str")):=pe_bltn hg B.str PyProof.Rows.boot_str rfl
theorem g_int (B:Blt X.mg) (hg:Gl X "int":=by rfl):PE X (.Name "int" p) (tC (.ty "int")):=pe_bltn hg B.int PyProof.Rows.boot_int rfl
theorem g_bool (B:Blt X.mg) (hg:Gl X "bool":=by rfl):PE X (.Name "bool" p) (tC (.ty "bool")):=pe_bltn hg B.bool PyProof.Rows.boot_bool rfl
theorem g_list (B:Blt X.mg) (hg:Gl X "list":=by rfl):PE X (.Name "list" p) (tC (.ty "list")):=pe_bltn hg B.list (show bootBuiltins "list"=some (.type "list") by decide +kernel) rfl
end
end L2
namespace L2
open PySem PySem.Spec PyProof.Rows PySem.Builtin PySem.Builtin.Str
theorem len_app (x y:Str):(x++y).length=x.length+y.length:=by
 show (x.cps++y.cps).size=x.cps.size+y.cps.size
 rw[Array.size_append]
theorem sum_le {ys:List Str}{n:Nat}(h:∀y∈ys,y.length<=n):(ys.map (·.length)).sum<=ys.length * n:=by
 induction ys with
 | nil=>simp
 | cons y r ih =>
  have h1:=h y (by simp)
  have h2:=ih fun z hz=>h z (aN _ hz)
  simp only[aV,List.sum_cons,be]
  rw[Nat.succ_mul]
  omega
theorem at_ok {α:Type}{xs:List α}{j:Int}(h0:0<=j) (h1:j<xs.length):∃v,atI xs j=some v/\v∈xs:=by
 obtain⟨k,rfl⟩:=bg h0
 have hk:k<xs.length:=by omega
 exact⟨xs[k],atI_nat (by simp[hk]),ck hk⟩
theorem at_int {ns:List Int}{j:Int}(h0:0<=j) (h1:j<(ns.map V.int).length):∃c,atI (ns.map V.int) j=some (.int c):=by
 obtain⟨v,e,m⟩:=at_ok h0 h1
 obtain⟨c,_,rfl⟩:=ap.mp m
 exact⟨c,e⟩
theorem fst_small (x:Int):-(2 ^ 64)<x % 2147483647/\x % 2147483647<2 ^ 64:=by
 have h1:=bM x (show (2147483647:Int)≠0 by decide)
 have h2:=cm x (show (0:Int)<2147483647 by decide)
 omega
def PenV (H:Hp) (p a:Addr):Prop:=∃(i n:Int),H p=some (.lst [.ref a,.int i,.int n])/\0<=i/\0<=n
def Pen (K:W.Frag) (H:Hp) (p a:Addr):Prop:=(∃ns:List Int,∀H',But p H H'->SqL K H' a (ns.map V.int))/\PenV H p a
theorem Pen.but {K:W.Frag}{H H':Hp}{p a:Addr}(h:Pen K H p a) (b:But p H H') (v:PenV H' p a):Pen K H' p a:=⟨let ⟨ns,q⟩:=h.1;⟨ns,fun H2 b2=>q H2 (b.trans b2)⟩,v⟩
theorem Pen.new {K:W.Frag}{H:Hp}{p a:Addr}{ns:List Int}{o:HO}(h:SqL K H a (ns.map V.int)) (hp:H p=none) (v:PenV (upd H p o) p a):Pen K (upd H p o) p a := by
 refine⟨⟨ns,fun H' b=>?_⟩,v⟩
 rcases h with h | h
 ·have n:a≠p:=by
     rcases h with h | ⟨ob,h⟩
     ·exact ne_of_none h hp
     ·exact ne_of_none h hp
  have s:Same H (upd H p o):=Same.new hp
  exact SqL.but (fun c o' n' e=>b c o' n' (s c o' e)) n (.inl h)
 ·exact .inr h
theorem PenV.upd {H:Hp}{p a D:Addr}{o:HO}(h:PenV H p a) (n:p≠D):PenV (L2.upd H D o) p a:=let ⟨i,m,e,q⟩:=h;⟨i,m,by rw[upd_ne n];exact e,q⟩
theorem PenV.ne {H:Hp}{p a D:Addr}(h:PenV H p a) (e:H D=none):p≠D:=let ⟨_,_,q,_⟩:=h;ne_of_none q e
theorem But.at {p D:Addr}{H H':Hp}{o:HO}(b:But p H H') (hD:H D=none):But p H (L2.upd H' D o):=fun c o' n h=>by rw[upd_ne (ne_of_none h hD)];exact b c o' n h
theorem But.of_eq {p:Addr}{H H':Hp}(h:∀b,b≠p->H' b=H b):But p H H':=fun b o n e=>(h b n).trans e
theorem But.free {p D:Addr}{H H':Hp}(b:But p H H') (n:D≠p) (h:H' D=none):H D=none:=by
 cases e:H D with
 | none=>rfl
 | some o=>rw[b D o n e] at h;cases h
def spDraw (K:W.Frag):Sp:=fun vs H Q _=>∃(p a:Addr) (m:Int),vs=[.ref p,.int m]/\Pen K H p a/\0<m/\m<1073741824/\∀r H',0<=r->r<m->PenV H' p a->(∀b,b≠p->H' b=H b)->Q (.int r) H'
end L2
namespace L2
open PySem PySem.Spec PyProof.Rows
section
variable {X:Cx}
inductive InR (K:W.Frag) (neg:Bool) (H:Hp):V -> V -> VK -> Prop
 | dic {a:Addr} {y:V} {o:Option V} {Q:VK}:DGet H a y o->Q (.bl (if neg then !o.isSome else o.isSome)) H->InR K neg H y (.ref a) Q
 | seq {p:Addr} {x:V} {xs:List V} {Q:VK}:(SqL K H p xs∨SqT K H p xs)->flatV x=true->xs.all flatV=true->Q (.bl (if neg then !inV x xs else inV x xs)) H->InR K neg H x (.ref p) Q
 | tr {p:Addr} {x:V} {xs:List V} {ds:List PyData} {d:PyData} {Q:VK}:H p=some (.lst xs)->RepAll H xs ds->Rep H x d->PyData.canLayAll0 ds=true->d.canLay0=true->d.depth<=16 ->
     Q (.bl (if neg then !(ds.any fun e=>PyData.eqv e d) else ds.any fun e=>PyData.eqv e d)) H->InR K neg H x (.ref p) Q
theorem op_inX (K:W.Frag) (hu:X.A.units+64<cLine) (hK:X.K=K:=by rfl):OpR X (compareOp .In) (fun x y H Q=>InR K false H x y Q):=by
 subst hK
 intro pins s σ H x y v u Q I rx ry h
 cases h with
 | dic g q =>
  cases ry
  exact d_in (by omega) I g rx fun s' I'=>⟨.bl _,H,I',rfl,q⟩
 | seq hq fx fs q=>exact op_in_seq pins s σ H _ _ v u Q I rx ry ⟨_,_,rfl,hq,fx,fs,q⟩
 | tr e rs r cs c dp q=>exact op_inD hu pins s σ H _ _ v u Q I rx ry ⟨_,_,_,_,rfl,e,rs,r,cs,c,dp,q⟩
theorem op_notInX (K:W.Frag) (hu:X.A.units+64<cLine) (hK:X.K=K:=by rfl):OpR X (compareOp .NotIn) (fun x y H Q=>InR K true H x y Q):=by
 subst hK
 intro pins s σ H x y v u Q I rx ry h
 cases h with
 | dic g q =>
  cases ry
  exact d_notIn (by omega) I g rx fun s' I'=>⟨.bl _,H,I',rfl,q⟩
 | seq hq fx fs q=>exact op_notIn_seq pins s σ H _ _ v u Q I rx ry ⟨_,_,rfl,hq,fx,fs,q⟩
 | tr e rs r cs c dp q=>exact op_notInD hu pins s σ H _ _ v u Q I rx ry ⟨_,_,_,_,rfl,e,rs,r,cs,c,dp,q⟩
inductive IxX (K:W.Frag) (H:Hp):V->V->VK->Prop
 | lst {p:Addr} {xs:List V} {i:Int} {v:V} {Q:VK}:SqL K H p xs->atI xs i=some v->Q v H->IxX K H (.ref p) (.int i) Q
 | tup {p:Addr} {xs:List V} {i:Int} {v:V} {Q:VK}:SqT K H p xs->atI xs i=some v->Q v H->IxX K H (.ref p) (.int i) Q
 | str {z:Str} {i:Int} {c:Nat} {Q:VK}:z.length<=sizeLine->atI z.cps.toList i=some c->Q (.str ⟨#[c]⟩) H->IxX K H (.str z) (.int i) Q
 | dic {a:Addr} {y v:V} {Q:VK}:DGet H a y (some v)->Q v H->IxX K H (.ref a) y Q
theorem ix_X (K:W.Frag) (hu:X.A.units+64<cLine) (hK:X.K=K:=by rfl):IxR X (fun x y H Q=>IxX K H x y Q):=by
 subst hK
 intro value slice pins s σ H x y v u Q I rx ry h hs
 cases h with
 | lst hq e q=>exact ix_list value slice pins s σ H _ _ v u Q I rx ry ⟨_,_,_,_,rfl,rfl,hq,e,q⟩ hs
 | tup hq e q=>exact ix_tup value slice pins s σ H _ _ v u Q I rx ry ⟨_,_,_,_,rfl,rfl,hq,e,q⟩ hs
 | str hz e q=>exact ix_str value slice pins s σ H _ _ v u Q I rx ry ⟨_,_,_,rfl,rfl,hz,e,q⟩ hs
 | dic g q =>
  cases rx
  exact tail_any (dict_typeIs I g) PySem.F.slot_dict_getitem.lookup (d_getItem (by omega) I g ry fun w' s3 I3 rw'=>⟨_,H,I3,rw',q⟩) hs
inductive SetX (H:Hp):V->V->V->(Hp->Prop)->Prop
 | lst {p:Addr} {xs:List V} {k:Int} {j:Nat} {v:V} {Q:Hp->Prop}:H p=some (.lst xs)->ixN xs.length k=some j->Q (upd H p (.lst (xs.set j v)))->SetX H (.ref p) (.int k) v Q
 | dic {a:Addr} {y v:V} {H':Hp} {Q:Hp->Prop}:DPut H a y v H'->Q H'->SetX H (.ref a) y v Q
theorem set_X (hu:X.A.units+64<cLine):PSet X (fun o i v H Q=>SetX H o i v Q):=by
 intro pins s σ H o i v ov iv u Q I ro ri rv h
 cases h with
 | lst e ej q=>exact set_list pins s σ H _ _ _ ov iv u Q I ro ri rv ⟨_,_,_,_,rfl,rfl,e,ej,q⟩
 | dic g q =>
  cases ro
  exact d_setItem (by omega) I g ri rv fun s4 I4=>⟨_,I4,q⟩
theorem pg_tupK (K:W.Frag) {es:List Expr}{k:Nat}{pos:Pos}{t:TGs}{n:Nat}(hc:X.calm=true) (h:PGs X es t)
    (hn:(assignEach es X.env).length=n:=by rfl) (hst:(assignEach es X.env).findIdx? (·.1)=none:=by rfl) (hK:X.K=K:=by rfl):PG X (.Tuple es k pos) (gTup K n t):=hK ▸ pg_tup hc h hn hst
variable {p pos p2 pos2:Pos}{e f:Expr}{t:TA}
def rSorted (K:W.Frag):List V->Hp->VK->Prop:=fun xs H Q=>∃a ns,xs=[.ref a]/\SqL K H a (List.map V.int ns)/\ns.length<64/\∀l ns',H l=none->ns'.Perm ns->ns'.Pairwise (·<=·)->Q (.ref l) (upd H l (.lst (List.map V.int ns')))
theorem call_sorted:CallR X (.builtin "sorted") (rSorted X.K):=by
 intro pins s σ H xs us Q I r h
 obtain⟨a,ns,rfl,hq,hl,q⟩:=h
 obtain⟨u,rfl,ru⟩:=vals1 r
 cases ru
 obtain⟨its,rv,pl,hz⟩:=I.list hq
 have hi:=intsAre_of rv
 have hlen:its.length=ns.length:=by have:=rv.length;rw[aa] at this;exact this.symm
 refine sorted_ints pl.isList hi (by omega) fun out ns' a1 a2 a3=>?_
 obtain⟨e,he⟩:=sortedAll_at s.heap its out
 have hz':(List.map V.int ns').length<=sizeLine:=by
  rw[aa,a2.length_eq]
  exact aT (small1000 (by omega))
 have I1:=I.laid (a:=s.heap.objs.size+1) (o:=.lst (List.map V.int ns')) (t':=s.toks) (h':=sortedAll s.heap its out) (fun b o e=>sortedAll_old e) (Nat.le_succ _) ⟨hz',out.toList,_,vals_ints a1,by simpa [seqObj] using he⟩
 exact⟨.ref _,_,I1,rfl,q _ _ (I.hok.fresh (Nat.le_succ _)) a2 a3⟩
end
section
variable {X:Cx}{p pos p2 pos2:Pos}{e f:Expr}{t:TA}
theorem b_sorted (K:W.Frag) (hm:X.mg "sorted"=none) (ha:PA X [e] t) (hg:Gl X "sorted":=by rfl) (he:starEach [e] X.env=(false,eval e X.env)::starEach [] X.env:=by rfl) (hpl:(backTo pos (starEach [] X.env)).any (·.1)=false:=by rfl) (hK:X.K=K:=by rfl) :
    PE X (.Call (.Name "sorted" p) [e] [] pos) (tCB (rSorted K) t):=hK ▸ pe_callB call_sorted hg hm (show bootBuiltins "sorted"=some (.builtin "sorted") by decide +kernel) ha (by decide) (by decide) he hpl
def rTupL (K:W.Frag):List V->Hp->VK->Prop:=fun xs H Q=>∃a ys,xs=[.ref a]/\SqL K H a ys/\∀l,H l=none->Q (.ref l) (upd H l (.tup ys))
theorem b_tuple (K:W.Frag) (B:Blt X.mg) (ha:PA X [e] t) (hg:Gl X "tuple":=by rfl) (he:starEach [e] X.env=(false,eval e X.env)::starEach [] X.env:=by rfl) (hpl:(backTo pos (starEach [] X.env)).any (·.1)=false:=by rfl) (hK:X.K=K:=by rfl) :
    PE X (.Call (.Name "tuple" p) [e] [] pos) (tCB (rTupL K) t):=by
 subst hK
 refine pe_callTy (r:=rTupL X.K) (fun pins s σ H xs us Q I r h=>?_) hg B.tuple (show bootBuiltins "tuple"=some (.type "tuple") by decide +kernel) ha (by decide) (by decide) he hpl
 obtain⟨a,ys,rfl,hq,q⟩:=h
 exact call_tuple_of pins s σ H _ us Q I r ⟨a,ys,rfl,.inl ⟨hq,q⟩⟩
inductive LstR (K:W.Frag) (H:Hp):V->VK->Prop
 | seq {a:Addr} {ys:List V} {Q:VK}:(SqL K H a ys∨SqT K H a ys)->(∀l,H l=none->Q (.ref l) (upd H l (.lst ys)))->LstR K H (.ref a) Q
 | rng {a:Addr} {n:Nat} {Q:VK}:H a=some (.rng 0 (n:Int))->n<=1000->(∀l,H l=none->Q (.ref l) (upd H l (.lst (rngV n))))->LstR K H (.ref a) Q
def rLst (K:W.Frag):List V->Hp->VK->Prop:=fun xs H Q=>∃x,xs=[x]/\LstR K H x Q
theorem vals_rng {n:Nat}{its:List Value}(hl:its.length=n) (h:∀i v, its[i]? = some v -> ∃t, v=Value.int (0+(i:Nat) * 1) t):Vals (rngV n) its := by
 subst hl
 have key:∀(its:List Value) (k:Nat), (∀i v, its[i]? = some v -> ∃t, v=Value.int (0+((k+i:Nat):Int)) t) -> Vals ((List.range' k its.length).map fun i => V.int (0+(i:Nat))) its := by
  intro its
  induction its with
  | nil=>intro k _;exact .nil
  | cons u r ih =>
   intro k h
   rw[be,List.range'_succ,aV]
   refine .cons ?_ (ih (k+1) fun i v e=>?_)
   ·obtain⟨t,e⟩:=h 0 u rfl
    exact⟨t,by rw[e,Nat.add_zero]⟩
   ·obtain⟨t,e'⟩:=h (i+1) v (by simpa using e)
    exact⟨t,by rw[e',show ((k+(i+1):Nat):Int)=((k+1+i:Nat):Int) by omega]⟩
 have:=key its 0 fun i v e=>by
  obtain⟨t,e'⟩:=h i v e
  exact⟨t,by rw[e',Int.mul_one,Nat.zero_add]⟩
 rw[rngV,List.range_eq_range']
 exact this
theorem b_list (K:W.Frag) (hc:X.calm=true) (B:Blt X.mg) (ha:PA X [e] t) (hg:Gl X "list":=by rfl) (he:starEach [e] X.env=(false,eval e X.env)::starEach [] X.env:=by rfl) (hpl:(backTo pos (starEach [] X.env)).any (·.1)=false:=by rfl) (hK:X.K=K:=by rfl) :
    PE X (.Call (.Name "list" p) [e] [] pos) (tCB (rLst K) t):=by
 subst hK
 refine pe_callTy (r:=rLst X.K) (fun pins s σ H xs us Q I r h=>?_) hg B.list (show bootBuiltins "list"=some (.type "list") by decide +kernel) ha (by decide) (by decide) he hpl
 obtain⟨x,rfl,h⟩:=h
 cases h with
 | seq hq q=>exact call_list_of pins s σ H _ us Q I r ⟨_,_,rfl,hq,q⟩
 | @rng a n _ ea hn q =>
  obtain⟨u,rfl,ru⟩:=vals1 r
  cases ru
  obtain⟨t1,t2,t3,eh⟩:=(show ObjOk X.prog X.w H s.heap a (.rng 0 (n:Int)) from I.hok a _ ea)
  refine call_list_range (n:=n) (I.ok.hd hc) eh (small_one (by decide) (by decide) (by omega) (by omega)) (by rw[rangeSize_one];split <;> omega) (by omega) fun h' tk acc' c' hk hl hi=>?_
  have hv:Vals (rngV n) acc'.toList:=vals_rng (by simpa using hi.1) fun i v e=>hi.2 i v (by simpa using e)
  refine⟨.ref _,_,I.laid (o:=.lst (rngV n)) hk (ae _) ⟨?_,acc'.toList,c',hv,by simpa using hl⟩,rfl,q _ (I.hok.fresh (ae _))⟩
  have:(rngV n).length=n:=by simp[rngV]
  rw[this]
  exact aT (small1000 hn)
theorem b_min (hc:X.calm=true) (B:Blt X.mg) (ha:PA X [e,f] t) (hg:Gl X "min":=by rfl) (he:starEach [e,f] X.env=(false,eval e X.env)::starEach [f] X.env:=by rfl) (hpl:(backTo pos (starEach [f] X.env)).any (·.1)=false:=by rfl) :
    PE X (.Call (.Name "min" p) [e,f] [] pos) (tCB (fun xs H Q=>∃i j,xs=[.int i,.int j]/\Q (.int (if j<i then j else i)) H) t) :=
 pe_callB (call_min2 hc) hg B.min (show bootBuiltins "min"=some (.builtin "min") by decide +kernel) ha (by decide) (by decide) he hpl
theorem b_max (hc:X.calm=true) (B:Blt X.mg) (ha:PA X [e,f] t) (hg:Gl X "max":=by rfl) (he:starEach [e,f] X.env=(false,eval e X.env)::starEach [f] X.env:=by rfl) (hpl:(backTo pos (starEach [f] X.env)).any (·.1)=false:=by rfl) :
    PE X (.Call (.Name "max" p) [e,f] [] pos) (tCB (fun xs H Q=>∃i j,xs=[.int i,.int j]/\Q (.int (if j > i then j else i)) H) t) :=
 pe_callB (call_max2 hc) hg B.max (show bootBuiltins "max"=some (.builtin "max") by decide +kernel) ha (by decide) (by decide) he hpl
theorem ins_at {its:List Value}{u:Value}{k:Nat}{x:Int}(hx:x=(k:Int)) (hk:k<=its.length) :
    (fun xs:Array Value=>have k:=if x<0 then (x+(xs.size:Int)).toNat else min x.toNat xs.size;(xs.extract 0 k).push u++xs.extract k) its.toArray=(its.take k++u::its.drop k).toArray:=by
 subst hx
 simp only[aE]
 rw[if_neg (by omega),bT,Nat.min_eq_left hk]
 simp[List.extract_eq_drop_take]
 exact aw (by rw[bv];omega)
def rInsert:V->List V->Hp->VK->Prop:=fun x vs H Q=>∃l xs i k y,x=.ref l/\vs=[.int i,y]/\i=((k:Nat):Int)/\H l=some (.lst xs)/\k<=xs.length/\xs.length<sizeLine/\Q .non (upd H l (.lst (xs.take k++y::xs.drop k)))
theorem mt_insert:MtR X "list.insert" rInsert:=by
 intro pins s σ H x vs v us Q I rx rv h
 obtain⟨l,xs,i,k,y,rfl,rfl,hi,hH,hk,hz,q⟩:=h
 cases rx
 obtain⟨u1,u2,rfl,r1,r2⟩:=vals2 rv
 obtain⟨t,rfl⟩:=r1
 obtain⟨z,its,n,r,hl,e⟩:=I.lstM hH
 have hs:its.length<=sizeLine:=by omega
 have hfit:Builtin.List.listFitsIndex i=true:=by
  have h1:i<2 ^ 63:=by have:=line63;omega
  exact fitsIndex_both (by omega) h1
 have ME:=PySem.AutoSeq1.list_insert_list_int_val_1 l its.toArray n i t u2 (by simp[hfit]) (by rw[aE];exact hs)
 refine call_meets F.slot_list_insert ⟨_,e,rfl⟩ F.entry_list_insert (F.args_list_insert_3 _ _ _) ME ⟨e,?_⟩
 refine⟨.non,_,I.lset (its':=its.take k++u2::its.drop k) hH e (ins_at hi (by omega)) (Vals.append (r.take k) (.cons r2 (r.drop k))) ?_,rfl,q⟩
 simp only[aG,be,av,bv]
 omega
theorem m_insert (K:W.Frag) {o e f:Expr}{to:TE}{t:TA}{apos cpos:Pos}(ho:PE X o to) (ha:PA X [e, f] t)
    (hbase:attributeBase o "insert" X.env (eval o X.env)=eval o X.env:=by rfl)
    (hfew:((backTo cpos (starEach [e,f] X.env)).all (fun x=>!x.1)&&(backToKw cpos (keywordEach [] X.env)).all (fun x=>x.1.isSome)
     && decide ([e,f].length+([]:List Keyword).length+(if ([]:List Keyword).isEmpty then 0 else 1)<30))=true:=by rfl)
    (hline:(apos.endLine==cpos.line)=true:=by rfl) (hs:starEach [e,f] X.env=(false,eval e X.env)::starEach [f] X.env:=by rfl) (hplain:(backTo cpos (starEach [f] X.env)).any (·.1)=false:=by rfl) (hK:X.K=K:=by rfl) :
    PE X (.Call (.Attribute o "insert" apos) [e,f] [] cpos) (tBM K "list" rInsert to t):=hK ▸ pe_bm PySem.F.plainAttrs_list PySem.F.slot_list_insert PySem.F.type_list_insert mt_insert ho ha hbase hfew hline hs hplain
end
def Nm (s:Str):Prop:=1<=s.length/\s.length<=8/\∀c∈s.cps.toList,97<=c/\c<=122
def pairD (e:Str × Str):PyData:=.tuple [.str e.1,.str e.2]
def webD (ss:List Str) (ts:List (Str × Str)):PyData:=.tuple [.tuple (ss.map .str),.tuple (ts.map pairD)]
section
variable {H H':Hp}
theorem Rep.tupI {v:V}{ds:List PyData}(h:Rep H v (.tuple ds)):∃a xs,v=.ref a/\H a=some (.tup xs)/\RepAll H xs ds:=by
 cases h with
 | tup e r=>exact⟨_,_,rfl,e,r⟩
theorem Rep.strI {v:V}{s:Str}(h:Rep H v (.str s)):v=.str s:=by cases h;rfl
theorem RepAll.nilI {xs:List V}(h:RepAll H xs []):xs=[]:=by cases h;rfl
theorem RepAll.consI {xs:List V}{d:PyData}{ds:List PyData}(h:RepAll H xs (d::ds)):∃y ys,xs=y::ys/\Rep H y d/\RepAll H ys ds:=by
 cases h with
 | cons a b=>exact⟨_,_,rfl,a,b⟩
theorem RepAll.strs:∀ {xs:List V}{ss:List Str},RepAll H xs (ss.map PyData.str)->xs=ss.map V.str
 | _,[],h=>by rw[h.nilI];rfl
 | _,s::ss,h=>by
  obtain⟨y,ys,rfl,a,b⟩:=RepAll.consI h
  rw[a.strI,RepAll.strs b];rfl
theorem RepAll.of_strs:∀(ss:List Str),RepAll H (ss.map V.str) (ss.map PyData.str)
 | []=>.nil
 | s::ss=>.cons (.str s) (RepAll.of_strs ss)
theorem RepAll.len {xs:List V}{ds:List PyData}(h:RepAll H xs ds):xs.length=ds.length:=by
 induction ds generalizing xs with
 | nil=>rw[h.nilI];rfl
 | cons d ds ih =>
  obtain⟨y,ys,rfl,a,b⟩:=h.consI
  simp[ih b]
theorem RepAll.get {xs:List V}{ds:List PyData}(h:RepAll H xs ds) {i:Nat}{x:V}(e:xs[i]? = some x):∃d,ds[i]? = some d/\Rep H x d:=by
 induction ds generalizing xs i with
 | nil=>rw[h.nilI] at e;simp at e
 | cons d ds ih =>
  obtain⟨y,ys,rfl,a,b⟩:=h.consI
  cases i with
  | zero=>simp at e;subst e;exact⟨d,rfl,a⟩
  | succ i=>simpa using ih b (by simpa using e)
theorem RepAll.append {xs ys:List V}{ds es:List PyData}(h:RepAll H xs ds) (g:RepAll H ys es):RepAll H (xs++ys) (ds++es):=by
 induction ds generalizing xs with
 | nil=>rw[h.nilI];exact g
 | cons d ds ih =>
  obtain⟨y,zs,rfl,a,b⟩:=h.consI
  exact .cons a (ih b)
theorem RepAll.take {xs:List V}{ds:List PyData}(h:RepAll H xs ds):∀k,RepAll H (xs.take k) (ds.take k):=by
 induction ds generalizing xs with
 | nil=>intro k;rw[h.nilI];simp;exact .nil
 | cons d ds ih =>
  obtain⟨y,zs,rfl,a,b⟩:=h.consI
  intro k
  cases k with
  | zero=>exact .nil
  | succ k=>exact .cons a (ih b k)
theorem RepAll.drop {xs:List V}{ds:List PyData}(h:RepAll H xs ds):∀k,RepAll H (xs.drop k) (ds.drop k):=by
 induction ds generalizing xs with
 | nil=>intro k;rw[h.nilI];simp;exact .nil
 | cons d ds ih =>
  obtain⟨y,zs,rfl,a,b⟩:=h.consI
  intro k
  cases k with
  | zero=>exact .cons a b
  | succ k=>exact ih b k
theorem pair_at {v:V}{e:Str × Str}(h:Rep H v (pairD e)):∃a,v=.ref a/\H a=some (.tup [.str e.1,.str e.2]):=by
 obtain⟨a,xs,rfl,ha,r⟩:=Rep.tupI h
 obtain⟨y,ys,rfl,r1,r⟩:=r.consI
 obtain⟨z,zs,rfl,r2,r⟩:=r.consI
 have e1:=RepAll.nilI r
 subst e1
 rw[r1.strI,r2.strI] at ha
 exact⟨a,rfl,ha⟩
theorem pair_rep {a:Addr}{s t:Str}(h:H a=some (.tup [.str s,.str t])):Rep H (.ref a) (pairD (s,t)):=.tup h (.cons (.str _) (.cons (.str _) .nil))
theorem web_at {v:V}{ss:List Str}{ts:List (Str × Str)}(h:Rep H v (webD ss ts)):∃q a b xs,v=.ref q/\H q=some (.tup [.ref a,.ref b])/\H a=some (.tup (ss.map V.str))/\H b=some (.tup xs)/\RepAll H xs (ts.map pairD):=by
 obtain⟨q,ws,rfl,hq,r0⟩:=Rep.tupI h
 obtain⟨y,ys,rfl,r1,r3⟩:=r0.consI
 obtain⟨z,zs,rfl,r2,r4⟩:=r3.consI
 obtain⟨a,xa,rfl,ha,ra⟩:=Rep.tupI r1
 obtain⟨b,xb,rfl,hb,rb⟩:=Rep.tupI r2
 have e1:=RepAll.nilI r4
 subst e1
 have e2:=RepAll.strs ra
 subst e2
 exact⟨q,a,b,xb,rfl,hq,ha,hb,rb⟩
end
end L2
set_option autoImplicit false
namespace MG
variable {α:Type}
def Walk (R:α->α->Prop):Nat->α->α->Prop
 | 0,x,y=>x=y
 | n+1,x,y=>∃z,Walk R n x z/\R z y
def Rch (R:α->α->Prop) (x y:α):Prop:=∃n,Walk R n x y
def Dst (R:α->α->Prop) (x:α) (d:Nat) (y:α):Prop:=Walk R d x y/\∀k,k<d->¬ Walk R k x y
variable {R:α->α->Prop}{x:α}
theorem Dst.uniq {d e:Nat}{y:α}(a:Dst R x d y) (b:Dst R x e y):d=e:=by
 rcases Nat.lt_trichotomy d e with h | h | h
 ·exact absurd a.1 (b.2 d h)
 ·exact h
 ·exact absurd b.1 (a.2 e h)
theorem Rch.dst {y:α}(h:Rch R x y):∃d, Dst R x d y := by
 obtain⟨n,h⟩:=h
 induction n using Nat.strongRecOn generalizing y with
 | _ n ih =>
  by_cases e:∃k,k<n/\Walk R k x y
  ·obtain⟨k,hk,w⟩:=e
   exact ih k hk w
  ·exact⟨n,h,fun k hk w=>e ⟨k,hk,w⟩⟩
theorem Dst.rch {d:Nat}{y:α}(h:Dst R x d y):Rch R x y:=⟨d,h.1⟩
theorem Dst.pred {d:Nat}{y:α}(h:Dst R x (d+1) y):∃z,Dst R x d z/\R z y:=by
 obtain⟨⟨z,w,r⟩,m⟩:=h
 exact⟨z,⟨w,fun k hk w'=>m (k+1) (by omega) ⟨z,w',r⟩⟩,r⟩
theorem Dst.zero:Dst R x 0 x:=⟨rfl,fun k hk=>by omega⟩
theorem Dst.of_zero {y:α}(h:Dst R x 0 y):y=x:=h.1.symm
theorem Dst.below {d:Nat}{y:α}(h:Dst R x d y):∀e, e <= d -> ∃z, Dst R x e z := by
 induction d generalizing y with
 | zero => intro e he; have:e=0 := by omega
           subst this;exact⟨y,h⟩
 | succ d ih =>
  intro e he
  by_cases q:e=d+1
  ·subst q;exact⟨y,h⟩
  ·obtain⟨z,hz,_⟩:=h.pred
   exact ih hz e (by omega)
theorem Rch.refl:Rch R x x:=⟨0,rfl⟩
theorem Rch.step {y z:α}(h:Rch R x y) (r:R y z):Rch R x z:=by
 obtain⟨n,w⟩:=h
 exact⟨n+1,y,w,r⟩
theorem Rch.closed {S:α -> Prop}(h0:S x) (hs:∀y z, S y -> R y z -> S z) {y:α}(h:Rch R x y):S y := by
 obtain⟨n,w⟩:=h
 induction n generalizing y with
 | zero => have:x=y := w
           subst this;exact h0
 | succ n ih =>
  obtain⟨z,w,r⟩:=w
  exact hs z y (ih w) r
structure Lev (R:α->α->Prop) (x:α) (L:Nat) (look:α->Option Nat) (edge:List α):Prop where
 snd:∀y k,look y=some k->Dst R x k y/\k<=L
 cmp:∀y k,k<=L->Dst R x k y->look y=some k
 edg:∀y,y∈edge ↔ Dst R x L y
structure Mid (R:α->α->Prop) (x:α) (L:Nat) (look:α->Option Nat) (further:List α) (done:α->α->Prop):Prop where
 snd:∀y k,look y=some k->(Dst R x k y/\k<=L)∨(k=L+1/\y∈further)
 cmp:∀y k,k<=L->Dst R x k y->look y=some k
 fur:∀y,y∈further->Dst R x (L+1) y/\look y=some (L+1)
 dn:∀z y,done z y->(look y).isSome=true
theorem Lev.start [DecidableEq α] {look:α->Option Nat}(h:∀y,look y=if y=x then some 0 else none):Lev R x 0 look [x]:=by
 refine⟨fun y k e=>?_,fun y k hk d=>?_,fun y=>?_⟩
 ·rw[h] at e
  split at e
  ·rename_i q;subst q;cases e;exact⟨Dst.zero,ae _⟩
  ·cases e
 ·have:k=0:=by omega
  subst this
  rw[h,if_pos d.of_zero]
 ·rw[aQ]
  exact⟨fun e=>e ▸ Dst.zero,fun d=>d.of_zero⟩
theorem Lev.mid {L:Nat}{look:α->Option Nat}{edge:List α}(h:Lev R x L look edge):Mid R x L look [] (fun _ _=>False) :=
 ⟨fun y k e=>.inl (h.snd y k e),h.cmp,fun y hy=>(nomatch hy),fun _ _ f=>f.elim⟩
theorem Mid.skip {L:Nat}{look:α->Option Nat}{further:List α}{done:α->α->Prop}(h:Mid R x L look further done) {z y:α}(e:(look y).isSome=true):Mid R x L look further (fun a b=>done a b∨(a=z/\b=y)) :=
 ⟨h.snd,h.cmp,h.fur,fun a b d=>by
  rcases d with d | ⟨_,q⟩
  ·exact h.dn a b d
  ·rw[q];exact e⟩
theorem Mid.add {L:Nat}{look look':α -> Option Nat}{further:List α}{done:α -> α -> Prop}(h:Mid R x L look further done) {z y:α}(hz:Dst R x L z) (r:R z y) (e:look y=none)
    [DecidableEq α] (hl:∀a,look' a=if a=y then some (L+1) else look a):Mid R x L look' (further++[y]) (fun a b=>done a b∨(a=z/\b=y)):=by
 have dy:Dst R x (L+1) y:=by
  refine⟨⟨z,hz.1,r⟩,fun k hk w=>?_⟩
  obtain⟨d,dd⟩:=Rch.dst ⟨k,w⟩
  have hd:d<=k:=bX fun q=>dd.2 k q w
  rw[h.cmp y d (by omega) dd] at e
  cases e
 refine⟨fun a k q=>?_,fun a k hk d=>?_,fun a ha=>?_,fun a b d=>?_⟩
 ·rw[hl] at q
  split at q
  ·rename_i ea;cases q;subst ea;exact .inr ⟨rfl,by simp⟩
  ·rcases h.snd a k q with q' | ⟨q1,q2⟩
   ·exact .inl q'
   ·exact .inr ⟨q1,by simp[q2]⟩
 ·rw[hl]
  split
  ·rename_i ea;subst ea;have:=d.uniq dy;omega
  ·exact h.cmp a k hk d
 ·rcases aq.mp ha with q | q
  ·refine⟨(h.fur a q).1,?_⟩
   rw[hl]
   split
   ·rfl
   ·exact(h.fur a q).2
  ·have:a=y:=by simpa using q
   subst this
   exact⟨dy,by rw[hl,if_pos rfl]⟩
 ·rw[hl]
  split
  ·rfl
  ·rename_i nb
   rcases d with d | ⟨_,q⟩
   ·exact h.dn a b d
   ·exact absurd q nb
theorem Mid.wk {L:Nat}{look:α->Option Nat}{further:List α}{done done':α->α->Prop}(h:Mid R x L look further done) (w:∀a b,done' a b->done a b):Mid R x L look further done' :=
 ⟨h.snd,h.cmp,h.fur,fun a b d=>h.dn a b (w a b d)⟩
theorem Mid.next {L:Nat}{look:α->Option Nat}{further edge:List α}{done:α->α->Prop}(h:Mid R x L look further done) (he:∀y,y∈edge ↔ Dst R x L y) (hd:∀z y,z∈edge->R z y->done z y):Lev R x (L+1) look further:=by
 have key:∀y,Dst R x (L+1) y->y∈further/\look y=some (L+1):=fun y d=>by
  obtain⟨z,dz,r⟩:=d.pred
  have s:=h.dn z y (hd z y ((he z).mpr dz) r)
  obtain⟨k,e⟩:=bE.mp s
  rcases h.snd y k e with⟨q,hk⟩ | ⟨q1,q2⟩
  ·have:=q.uniq d;omega
  ·subst q1;exact⟨q2,e⟩
 refine⟨fun y k e=>?_,fun y k hk d=>?_,fun y=>⟨fun q=>(h.fur y q).1,fun d=>(key y d).1⟩⟩
 ·rcases h.snd y k e with⟨q,hk⟩ | ⟨q1,q2⟩
  ·exact⟨q,by omega⟩
  ·subst q1;exact⟨(h.fur y q2).1,ae _⟩
 ·by_cases q:k=L+1
  ·subst q;exact(key y d).2
  ·exact h.cmp y k (by omega) d
theorem Lev.done {L:Nat}{look:α->Option Nat}(h:Lev R x L look []):∀y k,look y=some k ↔ Dst R x k y:=fun y k=>by
 refine⟨fun e=>(h.snd y k e).1,fun d=>?_⟩
 by_cases q:k<=L
 ·exact h.cmp y k q d
 ·obtain⟨z,hz⟩:=d.below L (by omega)
  exact(nomatch (h.edg z).mpr hz)
end MG
namespace MG
variable {α:Type}{R:α->α->Prop}{x:α}
theorem Dst.lt {ss:List α}(hin:∀y, Rch R x y -> y ∈ ss) {L:Nat}{y:α}(d:Dst R x L y):L<ss.length := by
 have key:∀n, n <= L+1 -> ∃zs:List α, zs.length=n /\ zs.Nodup /\ ∀z ∈ zs, ∃e, e<n /\ Dst R x e z := by
  intro n
  induction n with
  | zero=>intro _;exact⟨[],rfl,bw,fun z hz=>by cases hz⟩
  | succ n ih =>
   intro hn
   obtain⟨zs,hl,hnd,hz⟩:=ih (by omega)
   obtain⟨z,dz⟩:=d.below n (by omega)
   refine⟨z::zs,by simp[hl],aP.mpr ⟨fun hm=>?_,hnd⟩,fun w hw=>?_⟩
   ·obtain⟨e,he,de⟩:=hz z hm
    have:=de.uniq dz
    omega
   ·rcases ax.mp hw with rfl | hw
    ·exact⟨n,by omega,dz⟩
    ·obtain⟨e,he,de⟩:=hz w hw
     exact⟨e,by omega,de⟩
 obtain⟨zs,hl,hnd,hz⟩:=key (L+1) (ae _)
 have:=hnd.length_le_of_subset (l₂:=ss) fun z hm=>by
  obtain⟨e,_,de⟩:=hz z hm
  exact hin z de.rch
 omega
theorem Rch.map {β:Type}{S:β->β->Prop}(f:α->β) (h:∀a b,R a b->S (f a) (f b)) {y:α}(r:Rch R x y):Rch S (f x) (f y):=by
 obtain⟨n,w⟩:=r
 refine⟨n,?_⟩
 induction n generalizing y with
 | zero =>
  have w:x=y:=w
  subst w
  exact rfl
 | succ n ih =>
  obtain⟨z,w,r⟩:=w
  exact⟨f z,ih w,h z y r⟩
theorem Rch.back {β:Type}{S:β->β->Prop}(f:α->β) (h:∀a c,S (f a) c->∃b,c=f b/\R a b) {c:β}(r:Rch S (f x) c):∃y,c=f y/\Rch R x y:=by
 refine Rch.closed (S:=fun c=>∃y,c=f y/\Rch R x y) ⟨x,rfl,Rch.refl⟩ (fun y z hy r=>?_) r
 obtain⟨a,rfl,ra⟩:=hy
 obtain⟨b,rfl,rb⟩:=h a z r
 exact⟨b,rfl,ra.step rb⟩
end MG
namespace L2
open PySem PySem.Spec PyProof.Rows
def namesD (ss:List Str):PyData:=.list (ss.map .str)
theorem names_rep {H:Hp}{a:Addr}{ss:List Str}(h:H a=some (.lst (ss.map V.str))):Rep H (.ref a) (namesD ss):=.lst h (RepAll.of_strs ss)
theorem canLay_nm {s:Str}(h:Nm s):PyData.canLay0 (.str s)=true:=by
 show (s.cps.all (·<0x110000))=true
 rw[<- Array.all_toList,bi]
 intro c hc
 have:=h.2.2 c hc
 exact ao (by omega)
theorem canLay_strs:∀ss:List Str,(∀s∈ss,Nm s)->PyData.canLayAll0 (ss.map PyData.str)=true
 | [],_=>rfl
 | s::ss,h=>by
  show (PyData.canLay0 (.str s)&&PyData.canLayAll0 (ss.map PyData.str))=true
  rw[canLay_strs ss fun x hx=>h x (aN _ hx),canLay_nm (h s (by simp))]
  rfl
theorem depth_strs:∀ss:List Str,PyData.depthAll (ss.map PyData.str)=0
 | []=>rfl
 | s::ss=>by
  show max (PyData.depth (.str s)) (PyData.depthAll (ss.map PyData.str))=0
  rw[depth_strs ss];rfl
theorem shp_names {ss:List Str}(h:∀s∈ss,Nm s):shp (namesD ss):=by
 show (PyData.canLayAll0 (ss.map PyData.str)&&decide (PyData.depthAll (ss.map PyData.str)+1<=64))=true
 rw[canLay_strs ss h,depth_strs];rfl
theorem eqv_shp {d:PyData}(h:shp d):PyData.eqv d d=true:=SeqAt.eqv_refl d (SeqAt.canLay_of_shaped h)
theorem for_enum {K:W.Frag}{a:Addr}{xs:List V}{g:TG}{tb:TS}{D:Ends}{σ:St}{H:Hp}(Pv:Nat -> St -> Hp -> Prop) (h0:Pv 0 σ H) (hl:∀i σ H, i <= xs.length -> Pv i σ H -> SqL K H a xs)
    (hs:∀i x σ H p,xs[i]? = some x->Pv i σ H->H p=none->g (.ref p) σ (upd H p (.tup [.int i,x])) fun σ2 H2=>tb { D with nx:=Pv (i+1),ct:=Pv (i+1),bk:=D.nx } σ2 H2) (hd:∀σ H,Pv xs.length σ H->D.nx σ H) :
    ∃W:Nat->Nat->St->Hp->Prop,(∃m,W 0 m σ H)/\∀i m σ H,W i m σ H ->
     ((Ite K a).stop i H/\D.nx σ H)∨((Ite K a).go i H/\∃N:St->Hp->Prop,(∀σ' H',N σ' H'->∃m',m'<m/\W (i+1) m' σ' H')/\∀x H',(Ite K a).yld i H x H'->g x σ H' fun σ2 H2=>tb { D with nx:=N,ct:=N,bk:=D.nx } σ2 H2):=by
 refine⟨fun i m σ H=>m=xs.length-i/\i<=xs.length/\Pv i σ H,⟨xs.length,by simp,a0 _,h0⟩,?_⟩
 rintro i m σ H ⟨rfl,hi,p⟩
 have q:=hl i σ H hi p
 by_cases hlt:i<xs.length
 ·refine .inr ⟨⟨xs,xs[i],q,by simp[hlt]⟩,Pv (i+1),fun σ' H' p'=>⟨xs.length-(i+1),by omega,rfl,hlt,p'⟩,fun x H' y=>?_⟩
  obtain⟨r,z,hr,rfl,hz,rfl⟩:=y
  exact hs i z σ H r (hz xs q) p hr
 ·have e:i=xs.length:=by omega
  subst e
  exact .inl ⟨⟨xs,q,ae _⟩,hd σ H p⟩
def spPlaces:Sp:=fun vs H Q _=>∃a xs,vs=[.ref a]/\H a=some (.lst (List.map V.str xs))/\xs.length<=1000 /\
 ∀d kvs H',Same H H'->H d=none->H' d=some (.dK kvs)->(∀s,(valV kvs (.inr s)).isSome=true ↔ s∈xs)->(∀s v,valV kvs (.inr s)=some v->∃j:Nat,v=.int j/\xs[j]? = some s)->Q (.ref d) H'
structure Web (H:Hp) (v:V) (ss:List Str) (ts:List (Str × Str)):Prop where
 rep:Rep H v (webD ss ts)
 nd:ss.Nodup
 nm:∀s∈ss,Nm s
 len:ss.length<=60
 few:ts.length<=401
 inn:∀e∈ts,e.1∈ss/\e.2∈ss
theorem Web.same {H H':Hp}{v:V}{ss:List Str}{ts:List (Str × Str)}(h:Web H v ss ts) (s:Same H H'):Web H' v ss ts:=⟨h.rep.same s,h.nd,h.nm,h.len,h.few,h.inn⟩
def nxtL (ss:List Str) (ts:List (Str × Str)) (s:Str):List Str:=ss.filter fun t=>decide ((s,t)∈ts)
def flipE (ts:List (Str × Str)):List (Str × Str):=ts.map fun e=>(e.2,e.1)
theorem mem_flip {ts:List (Str × Str)}{a b:Str}:(a,b)∈flipE ts ↔ (b,a)∈ts:=by
 unfold flipE
 rw[ap]
 constructor
 ·rintro⟨⟨x,y⟩,h,e⟩
  cases e;exact h
 ·intro h;exact⟨(b,a),h,rfl⟩
def spNexts (rev:Bool):Sp:=fun vs H Q _=>∃q ss ts s,vs=[q,.str s]/\Web H q ss ts /\
 ∀l H',Same H H'->H l=none->H' l=some (.lst (List.map V.str (nxtL ss (if rev then flipE ts else ts) s)))->Q (.ref l) H'
def Tab (H:Hp) (d:Addr) (ss:List Str) (f:Str->List Str):Prop:=∃kvs,H d=some (.dK kvs)/\∀s∈ss,∃l,valV kvs (.inr s)=some (.ref l)/\H l=some (.lst (List.map V.str (f s)))
theorem Tab.same {H H':Hp}{d:Addr}{ss:List Str}{f:Str->List Str}(h:Tab H d ss f) (s:Same H H'):Tab H' d ss f:=let ⟨kvs,a,b⟩:=h;⟨kvs,s _ _ a,fun x hx=>let ⟨l,c,e⟩:=b x hx;⟨l,c,s _ _ e⟩⟩
def spNextsAll (rev:Bool):Sp:=fun vs H Q _=>∃q ss ts,vs=[q]/\Web H q ss ts /\
 ∀d H',Same H H'->H d=none->Tab H' d ss (nxtL ss (if rev then flipE ts else ts))->Q (.ref d) H'
def Ner (ss:List Str) (f:Str->List Str) (a b:Str):Prop:=a∈ss/\b∈f a
def Tie (ts:List (Str × Str)) (a b:Str):Prop:=(a,b)∈ts
def spBehinds (rev:Bool):Sp:=fun vs H Q _=>∃q ss ts s,vs=[q,.str s]/\Web H q ss ts/\s∈ss /\
 ∀l H' (g:Str->Bool),Same H H'->H l=none->(∀t,g t=true ↔ MG.Rch (Tie (if rev then flipE ts else ts)) s t)->H' l=some (.lst (List.map V.str (ss.filter g)))->Q (.ref l) H'
end L2
namespace MG
variable {α:Type}{R:α->α->Prop}{x:α}
theorem Walk.map {β:Type}{S:β->β->Prop}(f:α->β) (h:∀a b,R a b->S (f a) (f b)) {n:Nat}{y:α}(w:Walk R n x y):Walk S n (f x) (f y):=by
 induction n generalizing y with
 | zero =>
  have w:x=y:=w
  subst w
  exact rfl
 | succ n ih =>
  obtain⟨z,w,r⟩:=w
  exact⟨f z,ih w,h z y r⟩
theorem Walk.back {β:Type}{S:β->β->Prop}(f:α->β) (h:∀a c,S (f a) c->∃b,c=f b/\R a b) {n:Nat}{c:β}(w:Walk S n (f x) c):∃y,c=f y/\Walk R n x y:=by
 induction n generalizing c with
 | zero =>
  have w:f x=c:=w
  exact⟨x,w.symm,rfl⟩
 | succ n ih =>
  obtain⟨z,w,r⟩:=w
  obtain⟨y,rfl,wy⟩:=ih w
  obtain⟨b,rfl,rb⟩:=h y c r
  exact⟨b,rfl,y,wy,rb⟩
def swp (es:List (Nat × Nat)):List (Nat × Nat):=es.map fun e=>(e.2,e.1)
theorem mem_swp {es:List (Nat × Nat)}{a b:Nat}:(a,b)∈swp es ↔ (b,a)∈es:=by
 unfold swp
 rw[ap]
 constructor
 ·rintro⟨⟨x,y⟩,h,e⟩
  cases e;exact h
 ·intro h;exact⟨(b,a),h,rfl⟩
def Arr (es:List (Nat × Nat)) (a b:Nat):Prop:=(a,b)∈es
def To (es:List (Nat × Nat)) (goal k a:Nat):Prop:=Dst (Arr (swp es)) goal k a
variable {es:List (Nat × Nat)}{goal:Nat}
theorem To.pred {k a:Nat}(h:To es goal (k+1) a):∃c,(a,c)∈es/\To es goal k c:=by
 obtain⟨z,d,r⟩:=Dst.pred h
 exact⟨z,mem_swp.mp r,d⟩
theorem To.step {k m a c:Nat}(r:(a,c)∈es) (h:To es goal k c) (g:To es goal m a):m<=k+1:=by
 refine bX fun q=>?_
 exact g.2 (k+1) q ⟨c,h.1,mem_swp.mpr r⟩
theorem To.zero {a:Nat}(h:To es goal 0 a):a=goal:=h.of_zero
theorem To.here:To es goal 0 goal:=Dst.zero
theorem To.rch {k a:Nat}(h:To es goal k a):Rch (Arr (swp es)) goal a:=h.1 |> fun w=>⟨k,w⟩
theorem To.inn {n k a:Nat}(val:∀e∈es,e.1<n/\e.2<n) (hg:goal<n) (h:To es goal k a):a<n :=
 Rch.closed (S:=fun y=>y<n) hg (fun x y _ r=>(val _ (mem_swp.mp r)).1) h.rch
theorem To.lt {n k a:Nat}(val:∀e∈es,e.1<n/\e.2<n) (hg:goal<n) (h:To es goal k a):k<n:=by
 have:=Dst.lt (ss:=List.range n) (fun y r=>bo.mpr (Rch.closed (S:=fun y=>y<n) hg (fun x y _ r=>(val _ (mem_swp.mp r)).1) r)) h
 simpa using this
def Lst (es:List (Nat × Nat)) (goal k a b:Nat):Prop:=(a,b)∈es/\To es goal k b/\∀c,(a,c)∈es->To es goal k c->b<=c
def Wy (es:List (Nat × Nat)) (goal:Nat):Nat->Nat->List Nat->Prop
 | 0,a,ws=>a=goal/\ws=[a]
 | k+1,a,ws=>∃b r,ws=a::r/\Lst es goal k a b/\Wy es goal k b r
theorem Wy.len {k a:Nat}{ws:List Nat}(h:Wy es goal k a ws):ws.length=k+1:=by
 induction k generalizing a ws with
 | zero=>rw[h.2];rfl
 | succ k ih =>
  obtain⟨b,r,rfl,l,w⟩:=h
  simp[ih w]
theorem Wy.inn {n k a:Nat}{ws:List Nat}(val:∀e∈es,e.1<n/\e.2<n) (hg:goal<n) (h:Wy es goal k a ws):∀x∈ws,x<n:=by
 induction k generalizing a ws with
 | zero =>
  rw[h.2,h.1]
  intro x hx
  have:x=goal:=by simpa using hx
  omega
 | succ k ih =>
  obtain⟨b,r,rfl,l,w⟩:=h
  intro x hx
  rcases ax.mp hx with rfl | hx
  ·exact(val _ l.1).1
  ·exact ih w x hx
def Pre (es:List (Nat × Nat)) (goal k one j a:Nat) (ws:List Nat):Prop:=To es goal j a/\(∃us,ws=us++[a])/\(∀r,Wy es goal j a (a::r)->Wy es goal k one (ws++r))/\ws.length+j=k+1
theorem Pre.start {k one:Nat}(h:To es goal k one):Pre es goal k one k one [one]:=⟨h,⟨[],rfl⟩,fun r w=>w,by simp;omega⟩
theorem Pre.add {k one j a b:Nat}{ws:List Nat}(h:Pre es goal k one (j+1) a ws) (l:Lst es goal j a b):Pre es goal k one j b (ws++[b]):=by
 obtain⟨h1,h2,h3,h4⟩:=h
 refine⟨l.2.1,⟨ws,rfl⟩,fun r w=>?_,by simp;omega⟩
 rw[List.append_assoc]
 exact h3 (b::r) ⟨b,b::r,rfl,l,w⟩
theorem Pre.done {k one a:Nat}{ws:List Nat}(h:Pre es goal k one 0 a ws):Wy es goal k one ws:=by
 have:=h.2.2.1 [] ⟨h.1.zero,rfl⟩
 simpa using this
end MG
namespace MG
variable {es:List (Nat × Nat)}
theorem Walk.cons {α:Type}{R:α->α->Prop}{x y z:α}{n:Nat}(r:R x y) (w:Walk R n y z):Walk R (n+1) x z:=by
 induction n generalizing z with
 | zero =>
  have w:y=z:=w
  subst w
  exact⟨x,rfl,r⟩
 | succ n ih =>
  obtain⟨v,w,q⟩:=w
  exact⟨v,ih w,q⟩
theorem walk_swp {n a b:Nat}(w:Walk (Arr es) n a b):Walk (Arr (swp es)) n b a:=by
 induction n generalizing b with
 | zero =>
  have w:a=b:=w
  exact w.symm
 | succ n ih =>
  obtain⟨z,w,r⟩:=w
  exact Walk.cons (mem_swp.mpr r) (ih w)
theorem swp_swp (es:List (Nat × Nat)):swp (swp es)=es:=by
 unfold swp
 rw[aM]
 exact List.map_id'' (fun e=>rfl) es
theorem rch_to {a goal:Nat}:Rch (Arr es) a goal ↔ ∃k,To es goal k a:=by
 constructor
 ·rintro⟨n,w⟩
  exact Rch.dst ⟨n,walk_swp w⟩
 ·rintro⟨k,h⟩
  have:=walk_swp h.1
  rw[swp_swp] at this
  exact⟨k,this⟩
end MG
namespace L2
open PySem PySem.Spec PyProof.Rows
theorem same_free {H H':Hp}{b:Addr}(s:Same H H') (h:H' b=none):H b=none:=by
 cases q:H b with
 | none=>rfl
 | some o=>rw[s _ _ q] at h;cases h
theorem same_at {H H':Hp}{b:Addr}{o:HO}(s:Same H H') (h:H b=none):Same H (upd H' b o):=fun c o' hc=>by
 rw[upd_ne (ne_of_none hc h)];exact s _ _ hc
theorem penSame {H H':Hp}{p a:Addr}(s:Same H H') (v:PenV H p a):PenV H' p a:=let ⟨i,m,e,q⟩:=v;⟨i,m,s _ _ e,q⟩
section
variable {X:Cx}{p pos p2 pos2:Pos}{e f:Expr}{t:TA}
def rIndex:V->List V->Hp->VK->Prop:=fun x vs H Q=>∃l xs y j z,x=.ref l/\vs=[y]/\H l=some (.lst xs)/\flatV y=true/\xs.all flatV=true/\xs[j]? = some z/\eqV z y=true/\(∀(m:Nat) z',m<j->xs[m]? = some z'->eqV z' y=false)/\Q (.int ((j:Nat):Int)) H
theorem vals_get {xs:List V}{us:List Value}(r:Vals xs us) {j:Nat}{u:Value}(e:us[j]? = some u):∃x,xs[j]? = some x/\RelV x u:=by
 induction r generalizing j with
 | nil=>simp at e
 | @cons a b as bs h t ih =>
  cases j with
  | zero=>simp at e;subst e;exact⟨a,rfl,h⟩
  | succ j=>simpa using ih (by simpa using e)
theorem mt_index:MtR X "list.index" rIndex:=by
 intro pins s σ H x vs v us Q I rx rv h
 obtain⟨l,xs,y,j,z,rfl,rfl,hH,fy,fs,hj,hz,hno,q⟩:=h
 cases rx
 obtain⟨u,rfl,ru⟩:=vals1 rv
 obtain⟨zz,its,n,r,hl,e⟩:=I.lstM hH
 have hjl:=(af.mp hj).1
 have hlen:=r.length
 have hat:∀m (hm:m<its.length),∃z',xs[m]? = some z'/\eqU y its[m]=eqV z' y:=fun m hm=>by
  obtain⟨z',hz',rz⟩:=vals_get r (ar hm)
  refine⟨z',hz',eqU_of rz ?_⟩
  exact bi.mp fs z' (aj hz')
 have h63:(j:Int)<2 ^ 63-1:=by
  have h1:xs.length<=sizeLine:=by omega
  have h2:(sizeLine:Nat)<2 ^ 62:=by decide
  omega
 refine call_meets F.slot_list_index ⟨_,e,rfl⟩ F.entry_list_index (F.args_list_index_2 _ _)
  (SeqAt.list_indexAt l its.toArray n _ _ u (eqU y) j (by simpa using (by omega:j<its.length)) h63 ?_ ?_) ⟨e,fun w hw=>mem_eqAt ru fy r fs w (by simpa using hw),⟨.int _,H,?_,⟨_,rfl⟩,q⟩⟩
 ·obtain⟨z',h1,h2⟩:=hat j (by omega)
  rw[hj] at h1
  cases h1
  simpa using h2.trans hz
 ·intro m hm hlt
  obtain⟨z',h1,h2⟩:=hat m (by simpa using hm)
  simpa using h2.trans (hno m z' hlt h1)
 ·exact I.kept fun b o eb=>eb
theorem m_index (K:W.Frag) {o e:Expr}{to:TE}{t:TA}{apos cpos:Pos}(ho:PE X o to) (ha:PA X [e] t)
    (hbase:attributeBase o "index" X.env (eval o X.env)=eval o X.env:=by rfl)
    (hfew:((backTo cpos (starEach [e] X.env)).all (fun x=>!x.1)&&(backToKw cpos (keywordEach [] X.env)).all (fun x=>x.1.isSome)
     && decide ([e].length+([]:List Keyword).length+(if ([]:List Keyword).isEmpty then 0 else 1)<30))=true:=by rfl)
    (hline:(apos.endLine==cpos.line)=true:=by rfl) (hs:starEach [e] X.env=(false,eval e X.env)::starEach [] X.env:=by rfl) (hplain:(backTo cpos (starEach [] X.env)).any (·.1)=false:=by rfl) (hK:X.K=K:=by rfl) :
    PE X (.Call (.Attribute o "index" apos) [e] [] cpos) (tBM K "list" rIndex to t):=hK ▸ pe_bm PySem.F.plainAttrs_list PySem.F.slot_list_index PySem.F.type_list_index mt_index ho ha hbase hfew hline hs hplain
def rMinL (K:W.Frag):List V->Hp->VK->Prop:=fun xs H Q=>∃a ns,xs=[.ref a]/\SqL K H a (List.map V.int ns)/\0<ns.length/\∀M,M∈ns->(∀b,b∈ns->M<=b)->Q (.int M) H
theorem call_minL (hc:X.calm=true):CallR X (.builtin "min") (rMinL X.K):=by
 intro pins s σ H xs us Q I r h
 obtain⟨a,ns,rfl,hq,hne,q⟩:=h
 obtain⟨u,rfl,ru⟩:=vals1 r
 cases ru
 obtain⟨its,rv,pl,hz⟩:=I.list hq
 have hi:=intsAre_of rv
 obtain⟨xs,e⟩:=hi.allInts.items
 have hns:ns=xs.toList.map (·.1):=by
  rw[<- hi.numsOf,<- nums_intItems,<- e]
 have hsz:0<xs.size:=by
  have h3:=hne;rw[hns,aa,cg] at h3;exact h3
 have hl:=pl.isList
 rw[e] at hl
 refine min_intList (I.ok.hd hc) hl hsz fun v h' tk hv hk=>?_
 obtain⟨t,rfl⟩:=intItems_at hv
 obtain⟨h1,h2⟩:=argBest_lt (numAt xs) (xs.size-1)
 refine⟨.int _,H,I.kept hk,⟨_,rfl⟩,q _ ?_ fun b hb=>?_⟩
 ·rw[hns,numAt_eq];exact getD_mem (by rw[aa,cg];omega)
 ·rw[hns] at hb
  obtain⟨j,hj,rfl⟩:=mem_getD hb
  rw[aa,cg] at hj
  rw[<- numAt_eq];exact h2 j (by omega)
theorem b_minL (K:W.Frag) (hc:X.calm=true) (B:Blt X.mg) (ha:PA X [e] t) (hg:Gl X "min":=by rfl) (he:starEach [e] X.env=(false,eval e X.env)::starEach [] X.env:=by rfl) (hpl:(backTo pos (starEach [] X.env)).any (·.1)=false:=by rfl) (hK:X.K=K:=by rfl) :
    PE X (.Call (.Name "min" p) [e] [] pos) (tCB (rMinL K) t):=hK ▸ pe_callB (call_minL hc) hg B.min (show bootBuiltins "min"=some (.builtin "min") by decide +kernel) ha (by decide) (by decide) he hpl
end
end L2
namespace MG
section
variable {α:Type} [DecidableEq α]
def ix:List α->α->Nat
 | [],_=>0
 | a::r,x=>if a=x then 0 else ix r x+1
end
variable {es:List (Nat × Nat)}
def Fwd (es:List (Nat × Nat)):Prop:=∃r:Nat->Nat,∀e∈es,r e.1<r e.2
end MG
namespace L2
open PySem PySem.Spec PyProof.Rows
theorem shp_nameLists {ls:List (List Str)}(h:∀l ∈ ls, ∀s ∈ l, Nm s):shp (.list (ls.map namesD)) := by
 have a:∀ls:List (List Str), (∀l ∈ ls, ∀s ∈ l, Nm s) -> PyData.canLayAll0 (ls.map namesD)=true /\ PyData.depthAll (ls.map namesD) <= 1 := by
  intro ls
  induction ls with
  | nil=>intro _;exact⟨rfl,by decide⟩
  | cons l ls ih =>
   intro h
   obtain⟨h1,h2⟩:=ih fun x hx=>h x (aN _ hx)
   have h3:=canLay_strs l (h l (by simp))
   have h4:=depth_strs l
   refine⟨?_,?_⟩
   ·show (PyData.canLayAll0 (l.map PyData.str)&&PyData.canLayAll0 (ls.map namesD))=true
    rw[h1,h3];rfl
   ·show max (PyData.depthAll (l.map PyData.str)+1) (PyData.depthAll (ls.map namesD))<=1
    omega
 obtain⟨h1,h2⟩:=a ls h
 show (PyData.canLayAll0 (ls.map namesD)&&decide (PyData.depthAll (ls.map namesD)+1<=64))=true
 rw[h1,ao (by omega)];rfl
open PySem.AutoSeq1 (wpAny_loadPart')
section
variable {prog:Program}{w:World}{A:Around}{E:Value->Shared->Prop}{s:Shared}
theorem nextT_item {jt tt:Addr}{i:Nat}{its:Array Value}{y:Value}{Q:Value->Shared->Prop}(hj:s.heap.IsTupleIter jt tt i) (htt:s.heap.IsTuple tt its) (hy:its[i]? = some y)
    (hQ:∀h',h'.IsTupleIter jt tt (i+1)->Heap.SameBut jt s.heap h'->Q y { s with heap:=h' }):wpAny (model prog w) A (Builtin.SmallTypes.nextOf (.ref jt)) Q E s:=by
 obtain⟨oj,hoj,cj,dj⟩:=id hj
 obtain⟨ot,hot,_,nt,dt⟩:=htt
 unfold Builtin.SmallTypes.nextOf
 refine ad (wpAny_callSpecial?_slot (name:=Str.ofString "__next__") hj.typeIs F.slot_tuple_iterator_next (wpAny_call_entry F.slot_tuple_iterator_next hj.typeIs F.entry_tuple_iterator_next ?_ (F.args_tuple_iterator_next_1 _)))
 show wpAny _ _ (field (.ref jt) 0 >>= _) _ _ s
 refine ad (aX hoj dj (x:=.ref tt) rfl ?_)
 show wpAny _ _ (if (Value.ref tt==Value.none)=true then _ else _) _ _ s
 rw[if_neg (show ¬ ((Value.ref tt==Value.none)=true) from aL)]
 show wpAny _ _ (field (.ref jt) 1 >>= _) _ _ s
 refine ad (aX hoj dj (x:=.int i 0) rfl (ad (bG hot dt ?_)))
 simp only[bT,hy]
 refine ad (wpAny_setField hoj dj (by simp) (ag ⟨y,rfl,ag (hQ _ ?_ (Heap.SameBut.update ..))⟩))
 exact⟨_,bU _ hoj (Obj.isFreed_of_fields (Obj.data_mapFields dj _)),(Obj.cls_mapFields ..).trans cj,by rw[Obj.data_mapFields dj];simp[rawInt]⟩
theorem nextT_end {jt tt:Addr}{i:Nat}{its:Array Value}{Q:Value->Shared->Prop}(hh:A.handled=none) (hj:s.heap.IsTupleIter jt tt i) (htt:s.heap.IsTuple tt its) (hy:its[i]? = none)
    (hE:∀h' e,Heap.ExtBut jt s.heap h'->(∃o,h'.get? e=some o/\o.cls=.type "StopIteration")->E (.ref e) { s with heap:=h' }):wpAny (model prog w) A (Builtin.SmallTypes.nextOf (.ref jt)) Q E s:=by
 obtain⟨oj,hoj,cj,dj⟩:=id hj
 obtain⟨ot,hot,_,nt,dt⟩:=htt
 unfold Builtin.SmallTypes.nextOf
 refine ad (wpAny_callSpecial?_slot (name:=Str.ofString "__next__") hj.typeIs F.slot_tuple_iterator_next (wpAny_call_entry F.slot_tuple_iterator_next hj.typeIs F.entry_tuple_iterator_next ?_ (F.args_tuple_iterator_next_1 _)))
 show wpAny _ _ (field (.ref jt) 0 >>= _) _ _ s
 refine ad (aX hoj dj (x:=.ref tt) rfl ?_)
 show wpAny _ _ (if (Value.ref tt==Value.none)=true then _ else _) _ _ s
 rw[if_neg (show ¬ ((Value.ref tt==Value.none)=true) from aL)]
 show wpAny _ _ (field (.ref jt) 1 >>= _) _ _ s
 refine ad (aX hoj dj (x:=.int i 0) rfl (ad (bG hot dt ?_)))
 simp only[bT,hy]
 refine ad (wpAny_rule (ad (wpAny_setField hoj dj (by simp) ?_)))
 show wpAny _ _ (newExc (.type "StopIteration") [] >>= _) _ _ _
 refine ad ?_
 simp only[newExc,newTuple]
 refine ad (wpAny_newObj_type (ad (m:=firstArgMember _ _) (wpAny_of_eq (a:=Value.none) (by first | rfl | (simp only[firstArgMember];rfl)) ?_)) (by size_fits))
 refine wpAny_newObj_type ?_ (by size_fits)
 simp only[raiseNew]
 refine ad (wpAny_handled ?_)
 first | rw[show A.in1.handled=none from hh] | rw[hh]
 refine ad (ag (wpAny_throw (hE _ _ (((Heap.SameBut.update ..).extBut.push _).push _) ⟨_,aF _ rfl,rfl⟩)))
theorem drawsT {prog:Program}{w:World}{A:Around}(hh:A.handled=none) (jt tt:Addr) (hne:tt≠jt) (its:Array Value) :
    Draws prog w A jt [jt,tt] its.size (fun i y=>its[i]? = some y) (fun i h=>h.IsTupleIter jt tt i/\h.IsTuple tt its) where
 live:=fun i h st=>let ⟨o,e,_⟩:=st.1;⟨o,e⟩
 frame:=fun i h h' st k=>⟨let ⟨o,e,r⟩:=st.1;⟨o,k jt (by simp) o e,r⟩,let ⟨o,e,r⟩:=st.2;⟨o,k tt (by simp) o e,r⟩⟩
 item:=fun i s Q E hi st hQ=>nextT_item st.1 st.2 (y:=its[i]) (by simp[hi]) fun h' j' sb=>hQ _ h' s.toks (by simp[hi]) ⟨j',st.2.extBut sb.extBut hne⟩ sb
 done:=fun s Q E st hE=>nextT_end hh st.1 st.2 (by simp) hE
set_option maxHeartbeats 1000000 in
theorem meets_enumT (l:Addr) (its:Array Value) (n:Nat) (dct:Option Addr) (sl:Array (Option Value)) :
    Meets (Builtin.«enumerate.__new__» ⟨[.type "enumerate",.ref l],[]⟩) (fun _ R s=>s.heap.get? l=some { cls:=.type "tuple",dict:=dct,data:=.seq its n,slots:=sl } /\
     R (.ok (.ret (.ref (s.heap.push { cls:=.type "tuple_iterator",data:=.fields #[.ref l,.int 0 0] }).objs.size)))
      { s with heap:=(s.heap.push { cls:=.type "tuple_iterator",data:=.fields #[.ref l,.int 0 0] }).push { cls:=.type "enumerate",data:=.fields #[.none,.bool false,.ref s.heap.objs.size,rawInt 0,.none,.none] } }) :=
 .of_wp fun prog w A R s h => by
  obtain⟨h0,g0,d0,t0,os0⟩:=s
  obtain⟨hl,h⟩:=h
  have hsub:=sub_enumerate
  have hT:Heap.IsTuple (Shared.heap ⟨h0,g0,d0,t0,os0⟩) l its:=⟨_,hl,rfl,n,rfl⟩
  wp_walk using wpAny_loadPart' hl
  refine wpAny_stack_any fun st=>ag ?_
  split
  ·rename_i c _ _ _ _ _
   cases (c==Value.type "enumerate")
   ·wp_walk using wpAny_loadPart' hl,wpAny_pyIter_tuple hT
    exact⟨_,rfl,h⟩
   ·wp_walk using wpAny_loadPart' hl,wpAny_pyIter_tuple hT
    exact⟨_,rfl,h⟩
  ·wp_walk using wpAny_loadPart' hl,wpAny_pyIter_tuple hT
   exact⟨_,rfl,h⟩
theorem call_enumT {l:Addr}{its:Array Value}{Q:Value->Shared->Prop}(hT:s.heap.IsTuple l its)
    (h:∀h',IsEnum h' (s.heap.objs.size+1) s.heap.objs.size 0 .none->h'.IsTupleIter s.heap.objs.size l 0->(∀b o,s.heap.get? b=some o->h'.get? b=some o)->Q (.ref (s.heap.objs.size+1)) { s with heap:=h' }) :
    wpAny (model prog w) A (call (.type "enumerate") [.ref l]) Q E s:=by
 obtain⟨⟨c,dct,dt,sl⟩,hl,hc,n,hd⟩:=hT
 replace hc:c=.type "tuple":=hc
 replace hd:dt=.seq its n:=hd
 subst hc hd
 refine callType_new F.called_enumerate (by decide) (F.typeCall_enumerate_1 _) (F.newCall_enumerate_1 _) (fun obj=>F.args_object_init_2 obj _) F.entry_enumerate_new (meets_enumT l its n dct sl) ⟨hl,?_⟩
 have hz:(s.heap.push { cls:=.type "tuple_iterator",data:=.fields #[.ref l,.int 0 0] }).objs.size=s.heap.objs.size+1:=Heap.size_push ..
 show _/\_
 rw[hz]
 have he:IsEnum ((s.heap.push { cls:=.type "tuple_iterator",data:=.fields #[.ref l,.int 0 0] }).push { cls:=.type "enumerate",data:=.fields #[.none,.bool false,.ref s.heap.objs.size,rawInt 0,.none,.none] }) (s.heap.objs.size+1) s.heap.objs.size 0 .none:=by
  have:=aF (s.heap.push { cls:=.type "tuple_iterator",data:=.fields #[.ref l,.int 0 0] }) (o:={ cls:=.type "enumerate",data:=.fields #[.none,.bool false,.ref s.heap.objs.size,rawInt 0,.none,.none] }) rfl
  rw[hz] at this;exact this
 exact⟨⟨_,he,rfl⟩,h _ he ⟨_,ay _ (aF _ rfl),rfl,rfl⟩ fun b o x=>ay _ (ay _ x)⟩
end
def IteT (K:W.Frag) (a:Addr):It :=
 ⟨fun i H=>∃xs x,SqT K H a xs/\xs[i]? = some x,fun i H v H'=>∃p x,H p=none/\v=.ref p/\(∀xs,SqT K H a xs->xs[i]? = some x)/\H'=upd H p (.tup [.int i,x]),fun i H=>∃xs,SqT K H a xs/\xs.length<=i⟩
theorem turn_enumT {P:Program}{w:World}{K:W.Frag}{elts:List Expr}{k:Nat}{tp:Pos}(a e it:Addr) (hne:e ≠ it) :
    Turn P w K (.Tuple elts k tp) (IteT K a) [e,it] e (fun i h=>(∃old,IsEnum h e it i old)/\h.IsTupleIter it a i) where
 mem:=by simp
 obj:=fun i h st b hb=>by
  obtain⟨⟨old,he⟩,hit⟩:=st
  have hb:b=e∨b=it:=by simpa using hb
  rcases hb with z | z
  ·subst z
   exact⟨_,he,fun v z=>by cases z⟩
  ·subst z
   obtain⟨o,e1,c,d⟩:=hit
   exact⟨o,e1,fun v z=>by rw[d] at z;cases z⟩
 keep:=fun i h h' st kk=>by
  obtain⟨⟨old,he⟩,hit⟩:=st
  exact⟨⟨old,kk e (by simp) _ he⟩,let ⟨o,q,r⟩:=hit;⟨o,kk it (by simp) o q,r⟩⟩
 item := by
  intro X hP hw hK hc i pins s σ H E I hf st hg
  subst hP hw hK
  obtain⟨⟨old,he⟩,hit⟩:=st
  obtain⟨xs,x,hq,hx⟩:=hg
  obtain⟨its,rv,p,hz⟩:=I.tuple hq
  obtain⟨u,hu,ru⟩:=rv.get hx
  obtain⟨f0,f1,f2,f3,f4,f5⟩:=hf e (by simp)
  obtain⟨g0,g1,g2,g3,g4,g5⟩:=hf it (by simp)
  have hel:e<s.heap.objs.size:=ak he
  have hil:it<s.heap.objs.size:=by obtain⟨o,q,_⟩:=hit;exact ak q
  have hae:a≠e:=fun z=>by
   obtain⟨o,q,c,_⟩:=p
   rw[z,he] at q;cases q;simp at c
  have hai:a≠it:=fun z=>by
   obtain⟨o,q,c,_⟩:=p
   obtain⟨o',q',c',_⟩:=hit
   rw[z,q'] at q;cases q;rw[c] at c';simp at c'
  have hul:=(af.mp hu).1
  refine wpAny_pyNext_enum_itemD (drawsT (A:=X.A.in1) (show X.A.in1.handled=none from I.ok.hd hc) it a hai its.toArray) he ⟨hit,p⟩ (by simpa using hul) hne (by simp[hne,Ne.symm hae]) fun u' h1 tk hu' ho hit1 ht1 hz1 k1=>?_
  have eu:u'=u:=by
   have:its[i]? = some u':=by simpa using hu'
   rw[hu] at this
   exact(ai this).symm
  subst eu
  refine⟨_,rfl,wpAny_letOwnedTupleGo_enum ho fun h2 he2 sb2=>?_⟩
  have sb2:Heap.SameBut e h1 h2:=sb2
  have T2:h2.get? s.heap.objs.size=some { cls:=.type "tuple",data:=.seq #[.int i tk,u'] }:=(sb2.2 _ (bJ hel)).trans ht1
  have hp:H s.heap.objs.size=none:=I.hok.fresh (ae _)
  have nit:∀b v,H b=some v->b≠e/\b≠it:=fun b v q=>⟨fun z=>(by rw[z,f0] at q;cases q),fun z=>(by rw[z,g0] at q;cases q)⟩
  have kk:∀b o,b≠e->b≠it->s.heap.get? b=some o->h2.get? b=some o:=fun b o n1 n2 q=>(sb2.2 b n1).trans (k1 b o n1 n2 q)
  have up:∀b v,H b=some v->upd H s.heap.objs.size (.tup [.int i,x]) b=some v:=fun b v q=>by rw[upd_ne (ne_of_none q hp)];exact q
  have I1:Inv X pins σ (upd H s.heap.objs.size (.tup [.int i, x])) { s with heap := h2, gens := s.gens, drawn := s.drawn, toks := tk+1 } := by
   refine I.step (g':=s.gens) (d':=s.drawn) (ch:=[e,it]) (fun b hb=>?_) (fun b o _ _ hb q _=>kk b o (fun z=>hb (by simp[z])) (fun z=>hb (by simp[z])) q) (fun b o _ _ hb q _=>⟨o.slots,kk b o (fun z=>hb (by simp[z])) (fun z=>hb (by simp[z])) q⟩) (fun b o _ q n=>?_)
    (fun b o hb q=>⟨o,kk b o (fun z=>hb (by simp[z])) (fun z=>hb (by simp[z])) q⟩) (fun b ys q=>up b _ q) (fun b o v q=>up b _ q) (fun b ps q=>⟨#[],by rw[up b _ q];simp⟩) (fun m hm=>?_) (fun b v q=>?_) I.bare
   ·have hb:b=e∨b=it:=by simpa using hb
    rcases hb with z | z
    ·subst z;exact⟨f3,f1,f4,f5⟩
    ·subst z;exact⟨g3,g1,g4,g5⟩
   ·rw[upd_ne (aB (ak q))];exact n
   ·obtain⟨o,es,ep,ho,r⟩:=hm
    exact⟨o,es,ep,kk _ o (Ne.symm f1) (Ne.symm g1) ho,r⟩
   ·by_cases hb:b=s.heap.objs.size
    ·subst hb
     rw[upd_same] at q
     have q':HO.tup [V.int i,x]=v:=ai q
     subst q'
     exact⟨by show 2<=sizeLine;decide,[.int i tk,u'],.cons ⟨_,rfl⟩ (.cons ru .nil),⟨_,T2,rfl,_,rfl,rfl⟩⟩
    ·rw[upd_ne hb] at q
     refine(I.hok b v q).stay (fun c v' hc q'=>?_) (fun c q=>up c _ q) fun c ys q=>up c _ q
     rcases hc with z | z
     ·rw[z] at q' ⊢;exact kk b v' (nit b v q).1 (nit b v q).2 q'
     ·exact kk c v' (nit c _ z).1 (nit c _ z).2 q'
  refine⟨.ref s.heap.objs.size,upd H s.heap.objs.size (.tup [.int i,x]),I1,rfl,⟨_,x,hp,rfl,fun ys hy=>by rw[I.tuple_inj hy hq];exact hx,rfl⟩,⟨⟨u',?_⟩,?_⟩,fun b hb=>?_⟩
  ·exact(by simpa using he2)
  ·obtain⟨o,q,r⟩:=hit1.1
   exact⟨o,(sb2.2 it (Ne.symm hne)).trans q,r⟩
  ·have hb:b=e∨b=it:=by simpa using hb
   rcases hb with z | z
   ·rw[z,upd_ne (aB hel)];exact f0
   ·rw[z,upd_ne (aB hil)];exact g0
 done:=by
  intro X hP hw hK hc i pins s σ H E I hf st hg
  subst hP hw hK
  obtain⟨⟨old,he⟩,hit⟩:=st
  obtain⟨xs,hq,hx⟩:=hg
  obtain⟨its,rv,p,hz⟩:=I.tuple hq
  obtain⟨g0,g1,g2,g3,g4,g5⟩:=hf it (by simp)
  have hl:=rv.length
  have hT:s.TypeIs (.ref e) "enumerate":=⟨_,he,rfl⟩
  unfold pyNext
  refine ad (wpAny_attempt (wpAny_callSpecial?_slot (name:=Str.ofString "__next__") hT F.slot_enumerate_next (wpAny_call_entry F.slot_enumerate_next hT F.entry_enumerate_next ?_ (F.args_enumerate_next_1 _))))
  show wpAny _ _ (field (.ref e) 2 >>= _) _ _ _
  refine ad (aX he rfl (x:=.ref it) rfl (ad (nextT_end (I.ok.hd hc) hit p (by simp;omega) fun h' x he' hx'=>?_)))
  obtain⟨o,ho,hc'⟩:=hx'
  refine ad (wpAny_isInstance (T:="StopIteration") (b:=true) ⟨o,ho,hc'⟩ isSubtype_stop ?_)
  exact ag ⟨rfl,I.turned (t':=s.toks) (fun b o hb q=>he' b o hb q) g0 g1 g3 g4 g5⟩
 self:=fun _ _ _ _ _ st h=>by
  obtain⟨⟨old,he⟩,_⟩:=st
  exact wpAny_pyIter_enum he h
inductive EnmR (K:W.Frag) (H:Hp):V->(It->Hp->Prop)->Prop
 | lst {a:Addr} {xs:List V} {R:It->Hp->Prop}:SqL K H a xs->R (Ite K a) H->EnmR K H (.ref a) R
 | tup {a:Addr} {xs:List V} {R:It->Hp->Prop}:SqT K H a xs->R (IteT K a) H->EnmR K H (.ref a) R
def iEnumX (K:W.Frag) (ta:TA):TI:=fun σ H R=>ta σ H fun vs H1=>∃x,vs=[x]/\EnmR K H1 x R
theorem pi_enumX (K:W.Frag) {X:Cx}{elts:List Expr}{k:Nat}{tp:Pos}{a:Expr}{ta:TA}{p pos:Pos}(hg:Gl X "enumerate") (hm:X.mg "enumerate"=none) (ha:PA X [a] ta) (hs:starEach [a] X.env=[(false,eval a X.env)]:=by rfl) (hK:X.K=K:=by rfl) :
    PI X (.Tuple elts k tp) (.Call (.Name "enumerate" p) [a] [] pos) (iEnumX K ta):=by
 subst hK
 intro pins s σ H R I h
 refine Call_ (ld_blt I hg hm boot_enumerate (PyProof.Rows.callWith_type1 (thn (ha pos pins s σ H _ I h) fun us s1 ⟨vs,H1,I1,r1,q1⟩=>?_) hs rfl))
 obtain⟨x,e,q⟩:=q1
 subst e
 obtain⟨u,rfl,ru⟩:=vals1 r1
 have fin:∀b,b=s1.heap.objs.size+1∨b=s1.heap.objs.size->FpOk X pins H1 b:=fun b hb=>by
  rcases hb with z | z
  ·subst z;exact I1.fpOk (Nat.le_succ _) (I1.hok.fresh (Nat.le_succ _))
  ·subst z;exact I1.fpOk (ae _) (I1.hok.fresh (ae _))
 cases q with
 | lst hq q =>
  cases ru
  obtain⟨its,rv,pl,hz⟩:=I1.list hq
  refine call_enumerate_list pl.isList fun h' he hit hz' k'=>wpAny_pyIter_enum (s:={ s1 with heap:=h' }) he ?_
  exact⟨_,[s1.heap.objs.size+1,s1.heap.objs.size],_,_,H1,rfl,I1.kept (t':=s1.toks) k',turn_enum _ _ _ (Nat.succ_ne_self _),⟨⟨_,he⟩,hit⟩,fun b hb=>fin b (by simpa using hb),q⟩
 | tup hq q =>
  cases ru
  obtain⟨its,rv,pl,hz⟩:=I1.tuple hq
  refine call_enumT pl fun h' he hit k'=>wpAny_pyIter_enum (s:={ s1 with heap:=h' }) he ?_
  exact⟨_,[s1.heap.objs.size+1,s1.heap.objs.size],_,_,H1,rfl,I1.kept (t':=s1.toks) k',turn_enumT _ _ _ (Nat.succ_ne_self _),⟨⟨_,he⟩,hit⟩,fun b hb=>fin b (by simpa using hb),q⟩
theorem for_enumT {K:W.Frag}{a:Addr}{xs:List V}{g:TG}{tb:TS}{D:Ends}{σ:St}{H:Hp}(Pv:Nat -> St -> Hp -> Prop) (h0:Pv 0 σ H) (hl:∀i σ H, i <= xs.length -> Pv i σ H -> SqT K H a xs)
    (hs:∀i x σ H p,xs[i]? = some x->Pv i σ H->H p=none->g (.ref p) σ (upd H p (.tup [.int i,x])) fun σ2 H2=>tb { D with nx:=Pv (i+1),ct:=Pv (i+1),bk:=D.nx } σ2 H2) (hd:∀σ H,Pv xs.length σ H->D.nx σ H) :
    ∃W:Nat->Nat->St->Hp->Prop,(∃m,W 0 m σ H)/\∀i m σ H,W i m σ H ->
     ((IteT K a).stop i H/\D.nx σ H)∨((IteT K a).go i H/\∃N:St->Hp->Prop,(∀σ' H',N σ' H'->∃m',m'<m/\W (i+1) m' σ' H')/\∀x H',(IteT K a).yld i H x H'->g x σ H' fun σ2 H2=>tb { D with nx:=N,ct:=N,bk:=D.nx } σ2 H2):=by
 refine⟨fun i m σ H=>m=xs.length-i/\i<=xs.length/\Pv i σ H,⟨xs.length,by simp,a0 _,h0⟩,?_⟩
 rintro i m σ H ⟨rfl,hi,p⟩
 have q:=hl i σ H hi p
 by_cases hlt:i<xs.length
 ·refine .inr ⟨⟨xs,xs[i],q,by simp[hlt]⟩,Pv (i+1),fun σ' H' p'=>⟨xs.length-(i+1),by omega,rfl,hlt,p'⟩,fun x H' y=>?_⟩
  obtain⟨r,z,hr,rfl,hz,rfl⟩:=y
  exact hs i z σ H r (hz xs q) p hr
 ·have e:i=xs.length:=by omega
  subst e
  exact .inl ⟨⟨xs,q,ae _⟩,hd σ H p⟩
end L2
namespace L2
open PySem PySem.Spec PyProof.Rows
abbrev Zp (h:Heap) (z TI TO:Addr) (f0:Value) (f1:Bool):Prop:=h.get? z=some { cls:=.type "zip",dict:=none,data:=.fields #[f0,.bool f1,.bool false,.ref TI,.ref TO],slots:=#[] }
def F0 (f0:Value):Prop:=f0=.none∨∃T:Nat,f0=rawInt (T:Int)
section
variable {prog:Program}{w:World}{A:Around}{E:Value->Shared->Prop}{s:Shared}
theorem alive_any {a:Addr}{Q:Option Obj->Shared->Prop}(h:Q (s.heap.get? a) s):wpAny (model prog w) A (loadIfAlive a) Q E s:=fun _ _ _=>h
theorem zp_free {z TI TO:Addr}{f0:Value}{f1:Bool}(hf:F0 f0) (hz:Zp s.heap z TI TO f0 f1) {Q:Bool -> Shared -> Prop}(h:∀b f1' h', Zp h' z TI TO f0 f1' -> Heap.SameBut z s.heap h' -> Q b { s with heap := h' }) :
    wpAny (model prog w) A (Builtin.SmallTypes.ownedTupleIsFree (.ref z)) Q E s:=by
 unfold Builtin.SmallTypes.ownedTupleIsFree
 rcases hf with rfl | ⟨T,rfl⟩
 ·exact ad (aX hz rfl (x:=.none) rfl (ag (h true f1 s.heap hz (Heap.SameBut.refl ..))))
 ·refine ad (aX hz rfl (x := rawInt (T:Int)) rfl ?_)
  refine ad (alive_any ?_)
  cases s.heap.get? (T:Int).toNat with
  | none=>exact ag (h true f1 s.heap hz (Heap.SameBut.refl ..))
  | some o =>
   show wpAny _ _ (field (.ref z) 1 >>= _) _ _ _
   refine ad (aX hz rfl (x:=.bool f1) rfl ?_)
   cases f1 with
   | true=>exact ag (h false true s.heap hz (Heap.SameBut.refl ..))
   | false =>
    show wpAny _ _ (setField (.ref z) 1 (.bool true) >>= _) _ _ _
    exact ad (bN hz (by simp) fun h1 hz1 sb=>ag (h false true h1 hz1 sb))
theorem zpn_item {z TI TO i1 i2 l1 l2:Addr}{k1 k2:Nat}{f0:Value}{f1:Bool}{xs ys:Array Value}{x y a b:Value}{Q:Value -> Shared -> Prop}(D:ZipApart z TI TO i1 i2 l1 l2) (hf:F0 f0)
    (hz:Zp s.heap z TI TO f0 f1) (hTI:IsPair s.heap TI (.ref i1) (.ref i2)) (hTO:IsPair s.heap TO a b)
    (h1:s.heap.IsListIter i1 l1 k1) (h2:s.heap.IsListIter i2 l2 k2) (hl1:s.heap.IsList l1 xs) (hl2:s.heap.IsList l2 ys) (hx:xs[k1]? = some x) (hy:ys[k2]? = some y)
    (hQ:∀h' f0' f1',F0 f0'->Zp h' z TI TO f0' f1'->(∃a b,IsPair h' TO a b)->h'.IsListIter i1 l1 (k1+1)->h'.IsListIter i2 l2 (k2+1)->IsPair h' s.heap.objs.size x y ->
     (∀c o,c≠z->c≠TO->c≠i1->c≠i2->s.heap.get? c=some o->h'.get? c=some o)->Q (.ref s.heap.objs.size) { s with heap:=h' }) :
    wpAny (model prog w) A (Builtin.«zip.__next__» ⟨[.ref z],[]⟩) (fun fin s'=>∃v,fin=.done (.ret v)/\Q v s') E s:=by
 show wpAny _ _ (field (.ref z) 2 >>= _) _ _ _
 refine ad (aX hz rfl (x:=.bool false) rfl ?_)
 show wpAny _ _ (field (.ref z) 3 >>= _) _ _ _
 refine ad (aX hz rfl (x:=.ref TI) rfl (ad (bG hTI rfl ?_)))
 refine ad (zp_free hf hz fun own f1' g0 hz0 sb0=>?_)
 have sz0:g0.objs.size=s.heap.objs.size:=sb0.1
 cases own with
 | true =>
  simp only[if_true]
  refine ad (wpAny_rule ?_)
  refine ad (aX (s:={ s with heap:=g0 }) hz0 rfl (x:=.ref TO) rfl ?_)
  refine ad (bN (s:={ s with heap:=g0 }) hz0 (by simp) fun g1 hz1 sb1=>?_)
  replace hz1:Zp g1 z TI TO .ellipsis f1':=hz1
  refine ad ?_
  simp only[List.zipIdx_cons,List.zipIdx_nil,bZ,List.forIn_nil]
  refine ad (ad (wpAny_onRaise ?_))
  show wpAny _ _ (Builtin.SmallTypes.nextOf (.ref i1) >>= _) _ _ _
  have up1:∀c o,c≠z->s.heap.get? c=some o->g1.get? c=some o:=fun c o n e=>sb1.extBut _ _ n (sb0.extBut _ _ n e)
  refine ad (wpAny_nextOf_list_item (h1.at fun o e=>up1 _ o D.i1z e) (hl1.at fun o e=>up1 _ o D.l1z e) hx fun g2 j1 sb2=>ag ?_)
  have hTO2:IsPair g2 TO a b:=sb2.extBut _ _ D.TOi1 (up1 _ _ D.TOz hTO)
  refine ad (bG hTO2 rfl (ad (wpAny_updateSeq_pair hTO2 fun g3 hTO3 sb3=>?_)))
  replace hTO3:IsPair g3 TO x b:=hTO3
  refine ad (wpAny_letGo (ag (ad (ad (wpAny_onRaise ?_)))))
  show wpAny _ _ (Builtin.SmallTypes.nextOf (.ref i2) >>= _) _ _ _
  have up3:∀c o,c≠z->c≠i1->c≠TO->s.heap.get? c=some o->g3.get? c=some o:=fun c o n1 n2 n3 e=>sb3.extBut _ _ n3 (sb2.extBut _ _ n2 (up1 _ _ n1 e))
  refine ad (wpAny_nextOf_list_item (h2.at fun o e=>up3 _ o D.i2z D.i12.symm D.TOi2.symm e) (hl2.at fun o e=>up3 _ o D.l2z D.l2i1 D.l2TO e) hy fun g4 j2 sb4=>ag ?_)
  have hTO4:IsPair g4 TO x b:=sb4.extBut _ _ D.TOi2 hTO3
  refine ad (bG hTO4 rfl (ad (wpAny_updateSeq_pair hTO4 fun g5 hTO5 sb5=>?_)))
  replace hTO5:IsPair g5 TO x y:=hTO5
  refine ad (wpAny_letGo (ag (ag ?_)))
  refine ad (bG hTO5 rfl (ad (wpAny_newTuple ?_)))
  have hsz:g5.objs.size=s.heap.objs.size:=by rw[sb5.1,sb4.1,sb3.1,sb2.1,sb1.1,sz0]
  have hz5:Zp g5 z TI TO .ellipsis f1':=sb5.extBut _ _ D.TOz.symm (sb4.extBut _ _ D.i2z.symm (sb3.extBut _ _ D.TOz.symm (sb2.extBut _ _ D.i1z.symm hz1)))
  have j15:g5.IsListIter i1 l1 (k1+1):=j1.at fun o e=>sb5.extBut _ _ D.TOi1.symm (sb4.extBut _ _ D.i12 (sb3.extBut _ _ D.TOi1.symm e))
  have j25:g5.IsListIter i2 l2 (k2+1):=j2.at fun o e=>sb5.extBut _ _ D.TOi2.symm e
  have hk5:∀c o,c≠z->c≠TO->c≠i1->c≠i2->s.heap.get? c=some o->g5.get? c=some o:=fun c o c1 c2 c3 c4 e=>sb5.extBut _ _ c2 (sb4.extBut _ _ c4 (up3 _ _ c1 c3 c2 e))
  have hzlt:z<g5.objs.size:=ak hz5
  show wpAny _ _ (Builtin.SmallTypes.ownedTupleHandOut (.ref z) (.ref g5.objs.size) >>= _) _ _ _
  refine ad ?_
  unfold Builtin.SmallTypes.ownedTupleHandOut
  have hz6:Zp (g5.push { cls:=.type "tuple",data:=.seq #[x,y] }) z TI TO .ellipsis f1':=ay _ hz5
  refine ad (bN hz6 (by simp) fun g7 hz7 sb7=>?_)
  replace hz7:Zp g7 z TI TO (rawInt g5.objs.size) f1':=hz7
  refine bN hz7 (by simp) fun g8 hz8 sb8=>?_
  replace hz8:Zp g8 z TI TO (rawInt g5.objs.size) false:=hz8
  have up:∀c o,c≠z->g5.get? c=some o->g8.get? c=some o:=fun c o c1 e=>sb8.extBut _ _ c1 (sb7.extBut _ _ c1 (ay _ e))
  have hT8:IsPair g8 g5.objs.size x y:=sb8.extBut _ _ (bJ hzlt) (sb7.extBut _ _ (bJ hzlt) (aF _ rfl))
  refine ag ⟨_,rfl,?_⟩
  show Q (.ref g5.objs.size) _
  rw[hsz] at hz8 hT8 ⊢
  exact hQ g8 _ _ (.inr ⟨_,rfl⟩) hz8 ⟨x,y,up _ _ D.TOz hTO5⟩ (j15.at fun o e=>up _ o D.i1z e) (j25.at fun o e=>up _ o D.i2z e) hT8 fun c o c1 c2 c3 c4 e=>up c o c1 (hk5 c o c1 c2 c3 c4 e)
 | false =>
  simp only[ca,if_false]
  refine ad ?_
  rw[<- Array.forIn_toList]
  simp only[bZ,List.forIn_nil]
  refine ad (ad (aZ ?_))
  show wpAny _ _ (Builtin.SmallTypes.nextOf (.ref i1) >>= _) _ _ _
  have up1:∀c o,c≠z->s.heap.get? c=some o->g0.get? c=some o:=fun c o n e=>sb0.extBut _ _ n e
  refine ad (wpAny_nextOf_list_item (s:={ s with heap:=g0 }) (h1.at fun o e=>up1 _ o D.i1z e) (hl1.at fun o e=>up1 _ o D.l1z e) hx fun g2 j1 sb2=>ag ?_)
  replace sb2:Heap.SameBut i1 g0 g2:=sb2
  refine ag (ad (ad (aZ ?_)))
  show wpAny _ _ (Builtin.SmallTypes.nextOf (.ref i2) >>= _) _ _ _
  have up2:∀c o,c≠z->c≠i1->s.heap.get? c=some o->g2.get? c=some o:=fun c o n1 n2 e=>sb2.extBut _ _ n2 (up1 _ _ n1 e)
  refine ad (wpAny_nextOf_list_item (h2.at fun o e=>up2 _ o D.i2z D.i12.symm e) (hl2.at fun o e=>up2 _ o D.l2z D.l2i1 e) hy fun g4 j2 sb4=>ag ?_)
  replace sb4:Heap.SameBut i2 g2 g4:=sb4
  refine ag (ag ?_)
  show wpAny _ _ (newTuple [x,y] >>= _) _ _ _
  refine ad (wpAny_newTuple (ag ⟨_,rfl,?_⟩))
  have hsz:g4.objs.size=s.heap.objs.size:=by rw[sb4.1,sb2.1,sz0]
  show Q (.ref g4.objs.size) _
  have pu:∀c o,g4.get? c=some o->(g4.push { cls:=.type "tuple",data:=.seq #[x,y] }).get? c=some o:=fun c o e=>ay _ e
  have hT8:IsPair (g4.push { cls:=.type "tuple",data:=.seq #[x,y] }) g4.objs.size x y:=aF _ rfl
  rw[hsz] at hT8 ⊢
  exact hQ _ _ _ hf (pu _ _ (sb4.extBut _ _ D.i2z.symm (sb2.extBut _ _ D.i1z.symm hz0))) ⟨a,b,pu _ _ (sb4.extBut _ _ D.TOi2 (up2 _ _ D.TOz D.TOi1 hTO))⟩ (j1.at fun o e=>pu _ o (sb4.extBut _ _ D.i12 e)) (j2.at fun o e=>pu _ o e) hT8 fun c o c1 c2 c3 c4 e=>pu _ _ (sb4.extBut _ _ c4 (up2 _ _ c1 c3 e))
theorem zpn_end {z TI TO i1 i2 l1 l2:Addr}{k1 k2:Nat}{f0:Value}{f1:Bool}{xs ys:Array Value}{a b:Value}{Q:Fin -> Shared -> Prop}(hh:A.handled=none) (D:ZipApart z TI TO i1 i2 l1 l2) (hf:F0 f0)
    (hz:Zp s.heap z TI TO f0 f1) (hTI:IsPair s.heap TI (.ref i1) (.ref i2)) (hTO:IsPair s.heap TO a b)
    (h1:s.heap.IsListIter i1 l1 k1) (h2:s.heap.IsListIter i2 l2 k2) (hl1:s.heap.IsList l1 xs) (hl2:s.heap.IsList l2 ys) (hend:xs[k1]? = none∨ys[k2]? = none)
    (hE:∀h' e,(∀c o,c≠z->c≠TO->c≠i1->c≠i2->s.heap.get? c=some o->h'.get? c=some o)->(∃o,h'.get? e=some o/\o.cls=.type "StopIteration")->E (.ref e) { s with heap:=h' }) :
    wpAny (model prog w) A (Builtin.«zip.__next__» ⟨[.ref z],[]⟩) Q E s:=by
 show wpAny _ _ (field (.ref z) 2 >>= _) _ _ _
 refine ad (aX hz rfl (x:=.bool false) rfl ?_)
 show wpAny _ _ (field (.ref z) 3 >>= _) _ _ _
 refine ad (aX hz rfl (x:=.ref TI) rfl (ad (bG hTI rfl ?_)))
 refine ad (zp_free hf hz fun own f1' g0 hz0 sb0=>?_)
 cases own with
 | true =>
  simp only[if_true]
  refine ad (wpAny_rule ?_)
  refine ad (aX (s:={ s with heap:=g0 }) hz0 rfl (x:=.ref TO) rfl ?_)
  refine ad (bN (s:={ s with heap:=g0 }) hz0 (by simp) fun g1 hz1 sb1=>?_)
  replace hz1:Zp g1 z TI TO .ellipsis f1':=hz1
  refine ad ?_
  simp only[List.zipIdx_cons,List.zipIdx_nil,bZ,List.forIn_nil]
  refine ad (ad (wpAny_onRaise ?_))
  show wpAny _ _ (Builtin.SmallTypes.nextOf (.ref i1) >>= _) _ _ _
  have up1:∀c o,c≠z->s.heap.get? c=some o->g1.get? c=some o:=fun c o n e=>sb1.extBut _ _ n (sb0.extBut _ _ n e)
  cases hx:xs[k1]? with
  | none =>
   refine ad (wpAny_nextOf_list_end hh (h1.at fun o e=>up1 _ o D.i1z e) (hl1.at fun o e=>up1 _ o D.l1z e) hx fun g2 e sb2 he=>?_)
   obtain⟨oe,hoe,hce⟩:=he
   have hz2:Zp g2 z TI TO .ellipsis f1':=sb2 _ _ D.i1z.symm hz1
   have hez:e≠z:=fun q=>by subst q;rw[hz2] at hoe;cases hoe;simp at hce
   exact bN hz2 (by simp) fun g3 _ sb3=>hE g3 e (fun c o c1 _ c3 _ q=>sb3.extBut _ _ c1 (sb2 _ _ c3 (up1 _ _ c1 q))) ⟨oe,sb3.extBut _ _ hez hoe,hce⟩
  | some x =>
   have hy:ys[k2]? = none:=by rcases hend with q | q;rw[hx] at q;cases q;exact q
   refine ad (wpAny_nextOf_list_item (h1.at fun o e=>up1 _ o D.i1z e) (hl1.at fun o e=>up1 _ o D.l1z e) hx fun g2 j1 sb2=>ag ?_)
   have hTO2:IsPair g2 TO a b:=sb2.extBut _ _ D.TOi1 (up1 _ _ D.TOz hTO)
   refine ad (bG hTO2 rfl (ad (wpAny_updateSeq_pair hTO2 fun g3 hTO3 sb3=>?_)))
   refine ad (wpAny_letGo (ag (ad (ad (wpAny_onRaise ?_)))))
   show wpAny _ _ (Builtin.SmallTypes.nextOf (.ref i2) >>= _) _ _ _
   have up3:∀c o,c≠z->c≠i1->c≠TO->s.heap.get? c=some o->g3.get? c=some o:=fun c o n1 n2 n3 e=>sb3.extBut _ _ n3 (sb2.extBut _ _ n2 (up1 _ _ n1 e))
   refine ad (wpAny_nextOf_list_end hh (h2.at fun o e=>up3 _ o D.i2z D.i12.symm D.TOi2.symm e) (hl2.at fun o e=>up3 _ o D.l2z D.l2i1 D.l2TO e) hy fun g4 e sb4 he=>?_)
   obtain⟨oe,hoe,hce⟩:=he
   have hz4:Zp g4 z TI TO .ellipsis f1':=sb4 _ _ D.i2z.symm (sb3.extBut _ _ D.TOz.symm (sb2.extBut _ _ D.i1z.symm hz1))
   have hez:e≠z:=fun q=>by subst q;rw[hz4] at hoe;cases hoe;simp at hce
   exact bN hz4 (by simp) fun g5 _ sb5=>hE g5 e (fun c o c1 c2 c3 c4 q=>sb5.extBut _ _ c1 (sb4 _ _ c4 (up3 _ _ c1 c3 c2 q))) ⟨oe,sb5.extBut _ _ hez hoe,hce⟩
 | false =>
  simp only[ca,if_false]
  refine ad ?_
  rw[<- Array.forIn_toList]
  simp only[bZ,List.forIn_nil]
  refine ad (ad (aZ ?_))
  show wpAny _ _ (Builtin.SmallTypes.nextOf (.ref i1) >>= _) _ _ _
  have up1:∀c o,c≠z->s.heap.get? c=some o->g0.get? c=some o:=fun c o n e=>sb0.extBut _ _ n e
  cases hx:xs[k1]? with
  | none =>
   refine ad (wpAny_nextOf_list_end (s:={ s with heap:=g0 }) hh (h1.at fun o e=>up1 _ o D.i1z e) (hl1.at fun o e=>up1 _ o D.l1z e) hx fun g2 e sb2 he=>?_)
   exact hE g2 e (fun c o c1 _ c3 _ q=>sb2 _ _ c3 (up1 _ _ c1 q)) he
  | some x =>
   have hy:ys[k2]? = none:=by rcases hend with q | q;rw[hx] at q;cases q;exact q
   refine ad (wpAny_nextOf_list_item (s:={ s with heap:=g0 }) (h1.at fun o e=>up1 _ o D.i1z e) (hl1.at fun o e=>up1 _ o D.l1z e) hx fun g2 j1 sb2=>ag ?_)
   replace sb2:Heap.SameBut i1 g0 g2:=sb2
   refine ag (ad (ad (aZ ?_)))
   show wpAny _ _ (Builtin.SmallTypes.nextOf (.ref i2) >>= _) _ _ _
   have up2:∀c o,c≠z->c≠i1->s.heap.get? c=some o->g2.get? c=some o:=fun c o n1 n2 e=>sb2.extBut _ _ n2 (up1 _ _ n1 e)
   refine ad (wpAny_nextOf_list_end hh (h2.at fun o e=>up2 _ o D.i2z D.i12.symm e) (hl2.at fun o e=>up2 _ o D.l2z D.l2i1 e) hy fun g4 e sb4 he=>?_)
   exact hE g4 e (fun c o c1 c2 c3 c4 q=>sb4 _ _ c4 (up2 _ _ c1 c3 q)) he
end
theorem zip_next_typed {prog:Program}{w:World}{A:Around}{E:Value->Shared->Prop}{s:Shared}{z:Addr}{Q:Option Value->Shared->Prop}(hT:s.TypeIs (.ref z) "zip")
    (h:wpAny (model prog w) A.in1 (Builtin.«zip.__next__» ⟨[.ref z],[]⟩) (fun fin s'=>∃v,fin=.done (.ret v)/\Q (some v) s') (fun e s'=>(∃o,s'.heap.get? (match e with | .ref a=>a | _=>0)=some o/\o.cls=.type "StopIteration")/\(∃a,e=.ref a)/\Q none s') s) :
    wpAny (model prog w) A (pyNext (.ref z)) Q E s:=by
 unfold pyNext
 refine ad (wpAny_attempt (wpAny_callSpecial?_slot (name:=Str.ofString "__next__") hT F.slot_zip_next (wpAny_call_entry F.slot_zip_next hT F.entry_zip_next (bh h (fun fin s' ⟨v,e,q⟩=>⟨v,e,ag q⟩) fun e s' q=>?_) (F.args_zip_next_1 _))))
 obtain⟨⟨o,ho,hc⟩,⟨a,rfl⟩,q⟩:=q
 exact ad (wpAny_isInstance (T:="StopIteration") (b:=true) ⟨o,ho,hc⟩ isSubtype_stop (ag q))
def Itz (K:W.Frag) (a b:Addr):It :=
 ⟨fun i H=>∃xs ys x y,SqL K H a xs/\SqL K H b ys/\xs[i]? = some x/\ys[i]? = some y,
  fun i H v H'=>∃p x y,H p=none/\v=.ref p/\(∀xs,SqL K H a xs->xs[i]? = some x)/\(∀ys,SqL K H b ys->ys[i]? = some y)/\H'=upd H p (.tup [x,y]),
  fun i H=>∃xs ys,SqL K H a xs/\SqL K H b ys/\(xs.length<=i∨ys.length<=i)⟩
theorem turn_zip {P:Program}{w:World}{K:W.Frag}{nm:Str}{tp:Pos}(a b z TI TO i1 i2:Addr) (D:ZipApart z TI TO i1 i2 a b) :
    Turn P w K (.Name nm tp) (Itz K a b) [z,TI,TO,i1,i2] z (fun i h=>(∃f0 f1,F0 f0/\Zp h z TI TO f0 f1)/\IsPair h TI (.ref i1) (.ref i2)/\(∃c d,IsPair h TO c d)/\h.IsListIter i1 a i/\h.IsListIter i2 b i) where
 mem:=by simp
 obj:=fun i h st c hc=>by
  obtain⟨⟨f0,f1,_,hz⟩,hTI,⟨u,v,hTO⟩,⟨o1,e1,_,d1⟩,⟨o2,e2,_,d2⟩⟩:=st
  have hc:c=z∨c=TI∨c=TO∨c=i1∨c=i2:=by simpa using hc
  rcases hc with rfl | rfl | rfl | rfl | rfl
  ·exact⟨_,hz,fun v q=>by cases q⟩
  ·exact⟨_,hTI,fun v q=>by cases q⟩
  ·exact⟨_,hTO,fun v q=>by cases q⟩
  ·exact⟨_,e1,fun v q=>by rw[d1] at q;cases q⟩
  ·exact⟨_,e2,fun v q=>by rw[d2] at q;cases q⟩
 keep:=fun i h h' st k=>by
  obtain⟨⟨f0,f1,hf,hz⟩,hTI,⟨u,v,hTO⟩,h1,h2⟩:=st
  exact⟨⟨f0,f1,hf,k z (by simp) _ hz⟩,k TI (by simp) _ hTI,⟨u,v,k TO (by simp) _ hTO⟩,h1.at fun o e=>k i1 (by simp) o e,h2.at fun o e=>k i2 (by simp) o e⟩
 item := by
  intro X hP hw hK hc i pins s σ H E I hf st hg
  subst hP hw hK
  obtain⟨⟨f0,f1,hf0,hz⟩,hTI,⟨ta,tb,hTO⟩,h1,h2⟩:=st
  obtain⟨xs,ys,x,y,hqa,hqb,hx,hy⟩:=hg
  obtain⟨its,rv,pa,_⟩:=I.list hqa
  obtain⟨jts,rw',pb,_⟩:=I.list hqb
  obtain⟨u,hu,ru⟩:=rv.get hx
  obtain⟨v,hv,rv'⟩:=rw'.get hy
  refine zip_next_typed ⟨_,hz,rfl⟩ (zpn_item D hf0 hz hTI hTO h1 h2 pa.isList pb.isList (x:=u) (y:=v) (by simpa using hu) (by simpa using hv) fun h' f0' f1' hf' hz' hTO' j1 j2 hpr k=>⟨_,rfl,?_⟩)
  refine ag (s:={ s with heap:=h' }) ?_
  have hp:H s.heap.objs.size=none:=I.hok.fresh (ae _)
  have fr:∀c∈[z,TI,TO,i1,i2],H c=none:=fun c hc=>(hf c hc).1
  have nit:∀c o,H c=some o->c≠z/\c≠TO/\c≠i1/\c≠i2:=fun c o q=>by
   refine⟨?_,?_,?_,?_⟩ <;> (intro e;rw[e,fr _ (by simp)] at q;cases q)
  have up:∀c o,H c=some o->upd H s.heap.objs.size (.tup [x,y]) c=some o:=fun c o q=>by rw[upd_ne (ne_of_none q hp)];exact q
  have kk:∀c o,c∉[z,TO,i1,i2]->s.heap.get? c=some o->h'.get? c=some o:=fun c o n q=>k c o (fun e=>n (by simp[e])) (fun e=>n (by simp[e])) (fun e=>n (by simp[e])) (fun e=>n (by simp[e])) q
  have mem5:∀c∈[z,TO,i1,i2],c∈[z,TI,TO,i1,i2]:=fun c hc=>by simp at hc ⊢;rcases hc with e | e | e | e <;> simp[e]
  have hlt:∀c∈[z,TI,TO,i1,i2],c<s.heap.objs.size:=fun c hc=>by
   have hc:c=z∨c=TI∨c=TO∨c=i1∨c=i2:=by simpa using hc
   rcases hc with rfl | rfl | rfl | rfl | rfl
   ·exact ak hz
   ·exact ak hTI
   ·exact ak hTO
   ·obtain⟨o,e,_⟩:=h1;exact ak e
   ·obtain⟨o,e,_⟩:=h2;exact ak e
  have I1:Inv X pins σ (upd H s.heap.objs.size (.tup [x, y])) { s with heap := h', gens := s.gens, drawn := s.drawn, toks := s.toks } := by
   refine I.step (g':=s.gens) (d':=s.drawn) (ch:=[z,TO,i1,i2]) (fun c hc=>?_) (fun c o _ _ n q _=>kk c o n q) (fun c o _ _ n q _=>⟨o.slots,kk c o n q⟩) (fun c o _ q n=>?_) (fun c o n q=>⟨o,kk c o n q⟩) (fun c ys q=>up c _ q) (fun c o v q=>up c _ q) (fun c ps q=>⟨#[],by rw[up c _ q];simp⟩) (fun m hm=>?_) (fun c o q=>?_) I.bare
   ·obtain⟨_,g1,_,g3,g4,g5⟩:=hf c (mem5 c hc)
    exact⟨g3,g1,g4,g5⟩
   ·rw[upd_ne (aB (ak q))];exact n
   ·obtain⟨o,es,ep,ho,r⟩:=hm
    refine⟨o,es,ep,kk _ o (fun n=>?_) ho,r⟩
    exact(hf _ (mem5 _ n)).2.1 rfl
   ·by_cases hb:c=s.heap.objs.size
    ·subst hb
     rw[upd_same] at q
     have q':HO.tup [x,y]=o:=ai q
     subst q'
     exact⟨by show 2<=sizeLine;decide,[u,v],.cons ru (.cons rv' .nil),⟨_,hpr,rfl,_,rfl,rfl⟩⟩
    ·rw[upd_ne hb] at q
     refine(I.hok c o q).stay (fun d o' hd q'=>?_) (fun d q=>up d _ q) fun d ys q=>up d _ q
     rcases hd with e | e
     ·rw[e] at q' ⊢;obtain⟨n1,n2,n3,n4⟩:=nit c o q;exact k c o' n1 n2 n3 n4 q'
     ·obtain⟨n1,n2,n3,n4⟩:=nit d _ e;exact k d o' n1 n2 n3 n4 q'
  refine⟨.ref s.heap.objs.size,upd H s.heap.objs.size (.tup [x,y]),I1,rfl,⟨_,x,y,hp,rfl,fun zs hz=>by rw[I.list_inj hz hqa];exact hx,fun zs hz=>by rw[I.list_inj hz hqb];exact hy,rfl⟩,⟨⟨f0',f1',hf',hz'⟩,?_,hTO',j1,j2⟩,fun c hc=>?_⟩
  ·exact k TI _ D.TIz D.TITO D.TIi1 D.TIi2 hTI
  ·rw[upd_ne (aB (hlt c hc))];exact fr c hc
 done:=by
  intro X hP hw hK hc i pins s σ H E I hf st hg
  subst hP hw hK
  obtain⟨⟨f0,f1,hf0,hz⟩,hTI,⟨ta,tb,hTO⟩,h1,h2⟩:=st
  obtain⟨xs,ys,hqa,hqb,hxy⟩:=hg
  obtain⟨its,rv,pa,_⟩:=I.list hqa
  obtain⟨jts,rw',pb,_⟩:=I.list hqb
  have l1:=rv.length
  have l2:=rw'.length
  have hend:its.toArray[i]? = none∨jts.toArray[i]? = none:=by
   rcases hxy with q | q
   ·exact .inl (by simp;omega)
   ·exact .inr (by simp;omega)
  refine zip_next_typed ⟨_,hz,rfl⟩ (zpn_end (A:=X.A.in1) (show X.A.in1.handled=none from I.ok.hd hc) D hf0 hz hTI hTO h1 h2 pa.isList pb.isList hend fun h' e k he=>⟨he,⟨e,rfl⟩,rfl,?_⟩)
  have fr:∀c∈[z,TI,TO,i1,i2],H c=none:=fun c hc=>(hf c hc).1
  have nit:∀c o,H c=some o->c≠z/\c≠TO/\c≠i1/\c≠i2:=fun c o q=>by
   refine⟨?_,?_,?_,?_⟩ <;> (intro e;rw[e,fr _ (by simp)] at q;cases q)
  have kk:∀c o,c∉[z,TO,i1,i2]->s.heap.get? c=some o->h'.get? c=some o:=fun c o n q=>k c o (fun e=>n (by simp[e])) (fun e=>n (by simp[e])) (fun e=>n (by simp[e])) (fun e=>n (by simp[e])) q
  have mem5:∀c∈[z,TO,i1,i2],c∈[z,TI,TO,i1,i2]:=fun c hc=>by simp at hc ⊢;rcases hc with e | e | e | e <;> simp[e]
  refine I.step (h':=h') (g':=s.gens) (d':=s.drawn) (t':=s.toks) (ch:=[z,TO,i1,i2]) (fun c hc=>?_) (fun c o _ _ n q _=>kk c o n q) (fun c o _ _ n q _=>⟨o.slots,kk c o n q⟩) (fun c o _ q n=>n) (fun c o n q=>⟨o,kk c o n q⟩) (fun c ys q=>q) (fun c o v q=>q) (fun c ps q=>⟨#[],by rw[q];simp⟩) (fun m hm=>?_) (fun c o q=>?_) I.bare
  ·obtain⟨_,g1,_,g3,g4,g5⟩:=hf c (mem5 c hc)
   exact⟨g3,g1,g4,g5⟩
  ·obtain⟨o,es,ep,ho,r⟩:=hm
   refine⟨o,es,ep,kk _ o (fun n=>?_) ho,r⟩
   exact(hf _ (mem5 _ n)).2.1 rfl
  ·refine(I.hok c o q).stay (fun d o' hd q'=>?_) (fun d q=>q) fun d ys q=>q
   rcases hd with e | e
   ·rw[e] at q' ⊢;obtain⟨n1,n2,n3,n4⟩:=nit c o q;exact k c o' n1 n2 n3 n4 q'
   ·obtain⟨n1,n2,n3,n4⟩:=nit d _ e;exact k d o' n1 n2 n3 n4 q'
 self:=fun A i s Q E st h=>by
  obtain⟨⟨f0,f1,hf0,hz⟩,_⟩:=st
  have hT:s.TypeIs (.ref z) "zip":=⟨_,hz,rfl⟩
  refine wpAny_pyIter_slot hT F.slot_zip_iter (wpAny_call_entry F.slot_zip_iter hT F.entry_zip_iter ?_ (F.args_zip_iter_1 _))
  show wpAny _ _ (ret (.ref z)) _ _ s
  exact ag ⟨_,rfl,"zip",_,hT,F.slot_zip_next.lookup,h⟩
inductive Thg (H:Hp):V->Prop
 | non:Thg H .non
 | bl (b:Bool):Thg H (.bl b)
 | int (i:Int):Thg H (.int i)
 | str {z:Str}:z.length<=sizeLine->Thg H (.str z)
 | lst {a:Addr} {xs:List V}:H a=some (.lst xs)->Thg H (.ref a)
 | tup {a:Addr} {xs:List V}:H a=some (.tup xs)->Thg H (.ref a)
 | dK {a:Addr} {kvs:List (Key × V)}:H a=some (.dK kvs)->Thg H (.ref a)
 | dT {a:Addr} {kvs:List (List Key × V)}:H a=some (.dT kvs)->Thg H (.ref a)
def isS:V->Bool
 | .str _=>true
 | _=>false
def isI:V->Bool
 | .int _ | .bl _=>true
 | _=>false
def isB:V->Bool
 | .bl _=>true
 | _=>false
def isL (H:Hp):V->Bool
 | .ref a=>match H a with
  | some (.lst _)=>true
  | _=>false
 | _=>false
def isT (H:Hp):V->Bool
 | .ref a=>match H a with
  | some (.tup _)=>true
  | _=>false
 | _=>false
theorem isL_of {H:Hp}{a:Addr}{xs:List V}(e:H a=some (.lst xs)):isL H (.ref a)=true:=by show (match H a with | some (.lst _)=>true | _=>false)=true;rw[e]
theorem isT_of {H:Hp}{a:Addr}{xs:List V}(e:H a=some (.tup xs)):isT H (.ref a)=true:=by show (match H a with | some (.tup _)=>true | _=>false)=true;rw[e]
theorem isL_not {H:Hp}{a:Addr}{o:HO}(e:H a=some o) (n:∀xs,o≠.lst xs):isL H (.ref a)=false:=by
 show (match H a with | some (.lst _)=>true | _=>false)=false
 rw[e];split
 ·rename_i xs q;exact absurd (ai q) (n xs)
 ·rfl
theorem isT_not {H:Hp}{a:Addr}{o:HO}(e:H a=some o) (n:∀xs,o≠.tup xs):isT H (.ref a)=false:=by
 show (match H a with | some (.tup _)=>true | _=>false)=false
 rw[e];split
 ·rename_i xs q;exact absurd (ai q) (n xs)
 ·rfl
theorem ty_thg {K:W.Frag}{H:Hp}{x:V}(h:Thg H x):∃t,TyOf K H x t/\W.kitOne K t (.type "str")=some (isS x)/\W.kitOne K t (.type "int")=some (isI x)/\W.kitOne K t (.type "bool")=some (isB x) /\
    W.kitOne K t (.type "list")=some (isL H x)/\W.kitOne K t (.type "tuple")=some (isT H x):=by
 cases h with
 | non=>exact⟨_,.non,by rfl,by rfl,by rfl,by rfl,by rfl⟩
 | bl b=>exact⟨_,.bl b,by rfl,by rfl,by rfl,by rfl,by rfl⟩
 | int i=>exact⟨_,.int i,by rfl,by rfl,by rfl,by rfl,by rfl⟩
 | str z=>exact⟨_,.str _,by rfl,by rfl,by rfl,by rfl,by rfl⟩
 | lst e=>exact⟨_,.lst e,by rfl,by rfl,by rfl,by rw[isL_of e];rfl,by rw[isT_not e (fun _ z=>by cases z)];rfl⟩
 | tup e=>exact⟨_,.tup e,by rfl,by rfl,by rfl,by rw[isL_not e (fun _ z=>by cases z)];rfl,by rw[isT_of e];rfl⟩
 | dK e=>exact⟨_,.dK e,by rfl,by rfl,by rfl,by rw[isL_not e (fun _ z=>by cases z)];rfl,by rw[isT_not e (fun _ z=>by cases z)];rfl⟩
 | dT e=>exact⟨_,.dT e,by rfl,by rfl,by rfl,by rw[isL_not e (fun _ z=>by cases z)];rfl,by rw[isT_not e (fun _ z=>by cases z)];rfl⟩
def isLow (c:Nat):Bool:=decide (97<=c)&&decide (c<=122)
def isNm:V->Bool
 | .str z=>decide (1<=z.length)&&(decide (z.length<=8)&&z.cps.toList.all isLow)
 | _=>false
theorem isNm_iff {z:Str}:isNm (.str z)=true ↔ Nm z:=by
 show (decide (1<=z.length)&&(decide (z.length<=8)&&z.cps.toList.all isLow))=true ↔ _
 rw[bd,bd,decide_eq_true_iff,decide_eq_true_iff,bi]
 unfold Nm
 constructor
 ·rintro⟨h1,h2,h3⟩
  refine⟨h1,h2,fun c hc=>?_⟩
  have h:=h3 c hc
  unfold isLow at h
  rw[bd,decide_eq_true_iff,decide_eq_true_iff] at h
  exact h
 ·rintro⟨h1,h2,h3⟩
  refine⟨h1,h2,fun c hc=>?_⟩
  unfold isLow
  rw[bd,decide_eq_true_iff,decide_eq_true_iff]
  exact h3 c hc
theorem lt_one (c d:Nat):decide ([c]<[d])=decide (c<d):=by
 by_cases h:c<d
 ·rw[ao h];exact ao (List.Lex.rel h)
 ·rw[aI h]
  refine aI fun z=>?_
  cases z with
  | rel z=>exact h z
  | cons z=>cases z
def spIsName:Sp:=fun vs H Q _=>∃x,vs=[x]/\Thg H x/\∀H',Same H H'->Q (.bl (isNm x)) H'
def pK (e:Str × Str):List Key:=[.inr e.1,.inr e.2]
theorem pK_inj {e f:Str × Str}(h:pK e=pK f):e=f:=by
 unfold pK at h
 have h1:=List.cons.inj h
 have h2:=List.cons.inj h1.2
 exact Prod.ext (Sum.inr.inj h1.1) (Sum.inr.inj h2.1)
inductive PlR (H:Hp):V -> VK -> Prop
 | nm {a:Addr} {xs:List Str} {Q:VK}:(H a=some (.lst (List.map V.str xs))∨H a=some (.tup (List.map V.str xs)))->xs.length<=1000 ->
     (∀d kvs H',Same H H'->H d=none->H' d=some (.dK kvs)->(∀s,(valV kvs (.inr s)).isSome=true ↔ s∈xs)->(∀s v,valV kvs (.inr s)=some v->∃j:Nat,v=.int j/\xs[j]? = some s)->(kvs.map (·.1)).Nodup->(∀k∈kvs.map (·.1),∃s∈xs,k=Sum.inr s)->Q (.ref d) H')->PlR H (.ref a) Q
 | pr {a:Addr} {refs:List V} {ps:List (Str × Str)} {Q:VK}:(H a=some (.lst refs)∨H a=some (.tup refs))->RepAll H refs (ps.map pairD)->ps.length<=1000 ->
     (∀d kvs H',Same H H'->H d=none->H' d=some (.dT kvs)->(∀e:Str × Str,(valV kvs (pK e)).isSome=true ↔ e∈ps)->Q (.ref d) H')->PlR H (.ref a) Q
def spPlacesX:Sp:=fun vs H Q _=>∃x,vs=[x]/\PlR H x Q
section
variable {X:Cx}{p pos p2 pos2:Pos}{e f:Expr}{t:TA}
inductive IntR (H:Hp):V->VK->Prop
 | int {i:Int} {Q:VK}:Q (.int i) H->IntR H (.int i) Q
 | bl {b:Bool} {Q:VK}:Q (.int (if b then 1 else 0)) H->IntR H (.bl b) Q
theorem b_int (B:Blt X.mg) (ha:PA X [e] t) (hg:Gl X "int":=by rfl) (he:starEach [e] X.env=(false,eval e X.env)::starEach [] X.env:=by rfl) (hpl:(backTo pos (starEach [] X.env)).any (·.1)=false:=by rfl) :
    PE X (.Call (.Name "int" p) [e] [] pos) (tCB (fun xs H Q=>∃x,xs=[x]/\IntR H x Q) t):=by
 refine pe_callTy (r:=fun xs H Q=>∃x,xs=[x]/\IntR H x Q) (fun pins s σ H xs us Q I r h=>?_) hg B.int PyProof.Rows.boot_int ha (by decide) (by decide) he hpl
 obtain⟨x,rfl,h⟩:=h
 cases h with
 | int q=>exact call_int1 pins s σ H _ us Q I r (.inl ⟨_,rfl,q⟩)
 | bl q=>exact call_int1 pins s σ H _ us Q I r (.inr ⟨_,rfl,q⟩)
theorem g_tuple (B:Blt X.mg) (hg:Gl X "tuple":=by rfl):PE X (.Name "tuple" p) (tC (.ty "tuple")):=pe_bltn hg B.tuple (show bootBuiltins "tuple"=some (.type "tuple") by decide +kernel) rfl
def rIsi2 (K:W.Frag) (c d:String):List V->Hp->VK->Prop:=fun xs H Q=>∃x a t b,xs=[x,.ref a]/\H a=some (.tup [.ty c,.ty d])/\TyOf K H x t/\W.kitAny K t [.type c,.type d]=some b/\Q (.bl b) H
theorem isinst_tup {pins:List (Addr × Obj)}{σ:St}{H:Hp}{s:Shared}{A:Around}{E:Value->Shared->Prop}{Q:Value->Shared->Prop}{x:V}{u t:Value}{tp:Addr}{dd:Option Addr}{its:List Value}{n:Nat}{sl:Array (Option Value)}{b:Bool}
    (I:Inv X pins σ H s) (rx:RelV x u) (ty:TyOf X.K H x t) (htp:s.heap.get? tp=some ⟨.type "tuple",dd,.seq its.toArray n,sl⟩) (e:W.kitAny X.K t its=some b) (h:∀tk,Q (.bool b) { s with toks:=tk }) :
    wpAny (model X.prog X.w) A (call (.builtin "isinstance") [u,.ref tp]) Q E s:=by
 cases ty with
 | non=>cases (show u=Value.none from rx);exact W.kia_tup W.kitx_none I.kIn True.intro htp e (fun z=>nomatch z) h
 | bl y=>cases (show u=Value.bool y from rx);exact W.kia_tup W.kitx_bool I.kIn True.intro htp e (fun z=>nomatch z) h
 | int i=>obtain⟨t,q⟩:=(show ∃t,u=Value.int i t from rx);cases q;exact W.kia_tup W.kitx_int I.kIn True.intro htp e (fun z=>nomatch z) h
 | str y=>obtain⟨t,q⟩:=(show ∃t,u=Value.str y t from rx);cases q;exact W.kia_tup W.kitx_str I.kIn True.intro htp e (fun z=>nomatch z) h
 | flt y=>obtain⟨t,q⟩:=(show ∃t,u=Value.float y t from rx);cases q;exact W.kia_tup W.kitx_float I.kIn True.intro htp e (fun z=>nomatch z) h
 | @lst a xs ea =>
  cases (show u=Value.ref a from rx)
  obtain⟨_,_,n,_,h1⟩:=(show ObjOk X.prog X.w H s.heap a (.lst xs) from I.hok a _ ea)
  exact W.kia_tup W.kitx_list I.kIn ⟨_,h1,rfl⟩ htp e (fun z=>nomatch z) h
 | @frz a ob xs ea =>
  cases (show u=Value.ref a from rx)
  obtain⟨_,_,_,n,_,h1⟩:=(show ObjOk X.prog X.w H s.heap a (.frz ob (.lst xs)) from I.hok a _ ea)
  exact W.kia_tup W.kitx_list I.kIn ⟨_,h1,rfl⟩ htp e (fun z=>nomatch z) h
 | @tup a xs ea =>
  cases (show u=Value.ref a from rx)
  obtain⟨_,_,_,p⟩:=(show ObjOk X.prog X.w H s.heap a (.tup xs) from I.hok a _ ea)
  obtain⟨o,h1,h2,_⟩:=p
  exact W.kia_tup W.kitx_tuple I.kIn ⟨o,h1,h2⟩ htp e (fun z=>nomatch z) h
 | @dK a kvs ea =>
  cases (show u=Value.ref a from rx)
  obtain⟨_,_,vs,_,p⟩:=(show ObjOk X.prog X.w H s.heap a (.dK kvs) from I.hok a _ ea)
  obtain⟨o,es,ep,h1,h2,_⟩:=p
  exact W.kia_tup W.kitx_dict I.kIn ⟨o,h1,h2.1⟩ htp e (fun z=>nomatch z) h
 | @dT a kvs ea =>
  cases (show u=Value.ref a from rx)
  obtain⟨_,_,xs,_,o,es,ep,h1,h2,_⟩:=(show ObjOk X.prog X.w H s.heap a (.dT kvs) from I.hok a _ ea)
  exact W.kia_tup W.kitx_dict I.kIn ⟨o,h1,h2.1⟩ htp e (fun z=>nomatch z) h
 | @ins a C dx fs ea cl ha hn htk hm =>
  cases (show u=Value.ref a from rx)
  obtain⟨mA,O,_⟩:=ins_get I.hok ea
  obtain⟨od,J,_⟩:=O.look
  exact W.kia_tup (W.kitx_own (cl.get _) cl.hd ha hn htk hm) I.kIn J htp e (fun z=>nomatch z) h
theorem call_isi2 (c d:String):CallR X (.builtin "isinstance") (rIsi2 X.K c d):=by
 intro pins s σ H xs us Q I r h
 obtain⟨x,a,t,b,rfl,ea,ty,e,q⟩:=h
 obtain⟨u,w',rfl,ru,rw'⟩:=vals2 r
 cases rw'
 obtain⟨_,its,rv,⟨oc,od,odt,osl⟩,h1,h2,n,h3,_⟩:=(show ObjOk X.prog X.w H s.heap a (.tup [.ty c,.ty d]) from I.hok a _ ea)
 have h2:oc=.type "tuple":=h2
 have h3:odt=.seq its.toArray n:=h3
 subst h2 h3
 obtain⟨u1,u2,rfl,r1,r2⟩:=vals2 rv
 cases r1
 cases r2
 exact isinst_tup I ru ty h1 e fun tk=>⟨.bl b,H,I.tok tk,rfl,q⟩
theorem b_isi2 (K:W.Frag) (c d:String) (B:Blt X.mg) (ha:PA X [e,f] t) (hg:Gl X "isinstance":=by rfl) (he:starEach [e,f] X.env=(false,eval e X.env)::starEach [f] X.env:=by rfl) (hpl:(backTo pos (starEach [f] X.env)).any (·.1)=false:=by rfl) (hK:X.K=K:=by rfl):PE X (.Call (.Name "isinstance" p) [e,f] [] pos) (tCB (rIsi2 K c d) t) :=
 hK ▸ pe_callB (call_isi2 c d) hg B.isinstance boot_isinstance ha (by decide) (by decide) he hpl
end
theorem kit_lt {K:W.Frag}{H:Hp}{x:V}{t:Value}(h1:W.kitOne K t (.type "list")=some (isL H x)) (h2:W.kitOne K t (.type "tuple")=some (isT H x)):W.kitAny K t [.type "list",.type "tuple"]=some (isL H x||isT H x):=by
 unfold W.kitAny
 rw[h1]
 cases isL H x with
 | true=>rfl
 | false =>
  show W.kitAny K t [.type "tuple"]=_
  unfold W.kitAny
  rw[h2]
  cases isT H x <;> rfl
end L2
namespace MG
variable {es:List (Nat × Nat)}{goal:Nat}
theorem Wy.last {k a:Nat}{ws:List Nat}(h:Wy es goal k a ws):ws.getLast? = some goal:=by
 induction k generalizing a ws with
 | zero=>rw[h.2,h.1];rfl
 | succ k ih =>
  obtain⟨b,r,rfl,_,w⟩:=h
  have:=ih w
  cases r with
  | nil=>simp at this
  | cons c r=>rw[List.getLast?_cons_cons];exact this
end MG
namespace L2
open PySem PySem.Spec PyProof.Rows
section
variable {X:Cx}{p pos:Pos}{e:Expr}{t:TA}
def rLenD:List V->Hp->VK->Prop:=fun xs H Q=>∃a kvs,xs=[V.ref a]/\H a=some (.dK kvs)/\Q (.int kvs.length) H
theorem b_lenD (B:Blt X.mg) (ha:PA X [e] t) (hg:Gl X "len":=by rfl) (he:starEach [e] X.env=(false,eval e X.env)::starEach [] X.env:=by rfl) (hpl:(backTo pos (starEach [] X.env)).any (·.1)=false:=by rfl):PE X (.Call (.Name "len" p) [e] [] pos) (tCB rLenD t) :=
 pe_callB call_lenD hg B.len PySem.boot_len ha (by decide) (by decide) he hpl
end
theorem eqv_str (x y:Str):PyData.eqv (.str x) (.str y)=decide (x=y):=by
 show (x==y)=_
 by_cases h:x=y
 ·subst h;simp
 ·rw[aI h];simpa using h
theorem twice_of {α:Type} [DecidableEq α]:∀ {l:List α}, ¬ l.Nodup -> ∃l1 a l2, l=l1 ++ a :: l2 /\ a ∈ l2
 | [],h=>absurd bw h
 | x::l,h=>by
  by_cases q:x∈l
  ·exact⟨[],x,l,rfl,q⟩
  ·have h:¬ l.Nodup:=fun z=>h (aP.mpr ⟨q,z⟩)
   obtain⟨l1,a,l2,e,m⟩:=twice_of h
   exact⟨x::l1,a,l2,by rw[e];rfl,m⟩
theorem len_keys {α:Type} [DecidableEq α] {ks ws:List α}(nd:ks.Nodup) (h1:∀k ∈ ks, k ∈ ws) (h2:∀w ∈ ws, w ∈ ks):ks.length=ws.length ↔ ws.Nodup := by
 constructor
 ·intro hl
  refine Classical.byContradiction fun hn=>?_
  obtain⟨l1,a,l2,e,m⟩:=twice_of hn
  have:=nd.length_le_of_subset (l₂:=l1++l2) fun k hk=>by
   have:=h1 k hk
   rw[e] at this
   rcases aq.mp this with q | q
   ·exact aU _ q
   ·rcases ax.mp q with q | q
    ·rw[q];exact aJ _ m
    ·exact aJ _ q
  rw[hl,e,aG,aG,be] at this
  omega
 ·intro hw
  exact Nat.le_antisymm (nd.length_le_of_subset h1) (hw.length_le_of_subset h2)
theorem len_kvs {kvs:List (Key × V)}{ws:List Str}(nd:(kvs.map (·.1)).Nodup) (ks:∀k ∈ kvs.map (·.1), ∃s ∈ ws, k=Sum.inr s) (hin:∀s, (valV kvs (.inr s)).isSome=true ↔ s ∈ ws):kvs.length=ws.length ↔ ws.Nodup := by
 have h:=len_keys (ks:=kvs.map (·.1)) (ws:=ws.map (Sum.inr:Str->Key)) nd (fun k hk=>by
     obtain⟨s,hs,rfl⟩:=ks k hk
     exact ap.mpr ⟨s,hs,rfl⟩) (fun k hk=>by
     obtain⟨s,hs,rfl⟩:=ap.mp hk
     obtain⟨v,hv⟩:=bE.mp ((hin s).mpr hs)
     exact valV_in hv)
 rw[aa,aa] at h
 rw[h]
 constructor
 ·intro q
  exact List.Pairwise.of_map (Sum.inr:Str->Key) (fun a b n e=>n (by rw[e])) q
 ·intro q
  exact List.Pairwise.map _ (fun a b n e=>n (Sum.inr.inj e)) q
end L2
namespace L2
open PySem PySem.Spec PyProof.Rows PySem.Builtin PySem.Builtin.Str
theorem idx_len (i j n:Nat):(strSliceIndices (some (i:Int)) (some (j:Int)) 1 n).length<=j-i:=by
 unfold strSliceIndices sliceRange
 simp only[show (1:Int) > 0 by decide,if_true,aa,bx]
 split <;> (try simp only[Int.ediv_one]) <;> (repeat' split) <;> (try simp only[aa,bx,Int.ediv_one,List.length_nil]) <;> omega
theorem slice_len (z:Str) (i j:Nat):(Txt.slice z (some (i:Int)) (some (j:Int))).length<=j-i:=by
 unfold Txt.slice
 have h:=idx_len i j z.length
 split
 ·rename_i q
  have q:(strSliceIndices (some (i:Int)) (some (j:Int)) 1 z.length).length=z.length:=by simpa using q
  omega
 ·show (List.filterMap _ _).toArray.size<=_
  rw[aE]
  exact aW (List.length_filterMap_le _ _) h
theorem slice_to {z:Str}{j:Nat}(h:j<=z.length):(Txt.slice z none (some (j:Int))).length=j:=by
 have e:Txt.slice z none (some (j:Int))=StrLaws.sliceText z none (some (j:Int)):=rfl
 rw[e,StrLaws.sliceText_to ⟨by omega,by simp[Str.length] at h ⊢;omega⟩]
 show (List.take _ _).toArray.size=j
 rw[aE]
 simp[Str.length] at h ⊢
 omega
theorem slice_toL (z:Str) (j:Nat):(Txt.slice z none (some (j:Int))).length<=j:=by
 by_cases h:j<=z.length
 ·exact Nat.le_of_eq (slice_to h)
 ·exact aW (Txt.slice_le z _ _) (by omega)
def Lo (t:Str):Prop:=∀x∈t.cps.toList,97<=x/\x<=122
theorem Lo.nil:Lo "":=fun c hc=>by
 have hc:c∈("":Str).cps.toList:=hc
 rw[show ("":Str).cps.toList=[] by decide +kernel] at hc
 cases hc
theorem Lo.one {c:Nat}(h:97<=c/\c<=122):Lo ⟨#[c]⟩:=fun d hd=>by
 have:d=c:=by simpa using hd
 omega
theorem Lo.app {x y:Str}(hx:Lo x) (hy:Lo y):Lo (x++y):=fun c hc=>by
 have hc:c∈(x.cps++y.cps).toList:=hc
 rw[Array.toList_append] at hc
 rcases aq.mp hc with h | h
 ·exact hx c h
 ·exact hy c h
theorem Lo.slice {x:Str}(h:Lo x) (l u:Option Int):Lo (Txt.slice x l u):=by
 unfold Txt.slice
 split
 ·exact h
 ·intro c hc
  have hc:c∈(List.filterMap (x.cps[·]?) (strSliceIndices l u 1 x.length)).toArray.toList:=hc
  rw[List.toList_toArray] at hc
  obtain⟨i,_,e⟩:=List.mem_filterMap.mp hc
  exact h c (by simpa using Array.mem_of_getElem? e)
theorem Lo.joinS {sep:Str}(hs:Lo sep):∀ {ys:List Str},(∀y∈ys,Lo y)->Lo (Str.join sep ys)
 | [],_=>fun c hc=>by
  have hc:c∈(#[]:Array Nat).toList:=hc
  simp at hc
 | [y],h=>h y (by simp)
 | y::z::r,h=>by
  show Lo (y++sep++Str.join sep (z::r))
  exact((h y (by simp)).app hs).app (Lo.joinS hs fun x hx=>h x (aN _ hx))
theorem Lo.join {sep:Str}{ys:List Str}(hs:Lo sep) (h:∀y∈ys,Lo y):Lo (Txt.join sep ys):=by
 unfold Txt.join
 rw[StrLaws.glued_eq_join]
 exact Lo.joinS hs h
theorem Lo.nm {z:Str}(h:Lo z) (h1:1<=z.length) (h2:z.length<=8):Nm z:=⟨h1,h2,h⟩
def abc (j:Int):Str:=⟨#[97+j.toNat]⟩
theorem abc_lo {j:Int}(h0:0<=j) (h1:j<26):Lo (abc j):=Lo.one (by omega)
theorem abc_len (j:Int):(abc j).length=1:=rfl
theorem abc_at {j:Int}(h0:0<=j) (h1:j<26):atI ("abcdefghijklmnopqrstuvwxyz":Str).cps.toList j=some (97+j.toNat):=by
 obtain⟨k,rfl⟩:=bg h0
 have hk:k<26:=by omega
 exact(by decide +kernel:∀k:Nat,k<26->atI ("abcdefghijklmnopqrstuvwxyz":Str).cps.toList (k:Int)=some (97+(k:Int).toNat)) k hk
theorem join_len {ys:List Str}(h:∀y∈ys,y.length=1):(Txt.join "" ys).length=ys.length:=by
 have e0:("":Str).length=0:=by decide +kernel
 unfold Txt.join
 rw[size_glued,e0,Nat.mul_zero,Nat.add_zero]
 induction ys with
 | nil=>rfl
 | cons y r ih =>
  have h1:=h y (by simp)
  have h2:=ih fun z hz=>h z (aN _ hz)
  simp only[aV,List.sum_cons,be]
  omega
theorem nodup_by {α:Type}(f:Nat->α) (m:Nat) (h:∀i j,i<j->j<m->f i≠f j):((List.range m).map f).Nodup:=by
 rw[List.nodup_iff_pairwise_ne,cn]
 refine List.Pairwise.imp_of_mem ?_ (cE (n:=m))
 intro a b ha hb hab
 exact h a b hab (bo.mp hb)
theorem range_snoc {α:Type}(f:Nat->α) (i:Nat):(List.range (i+1)).map f=(List.range i).map f++[f i]:=by rw[List.range_succ,ah];rfl
theorem mem_by {α:Type}{f:Nat->α}{m:Nat}{x:α}(h:x∈(List.range m).map f):∃i,i<m/\x=f i:=by
 obtain⟨i,hi,e⟩:=ap.mp h
 exact⟨i,bo.mp hi,e.symm⟩
theorem star_n {x:Str}{p:Pos}{es:List Expr}{env:Env}:starEach (.Name x p::es) env=(false,eval (.Name x p) env)::starEach es env:=rfl
theorem star_s {x y:Expr}{p:Pos}{es:List Expr}{env:Env}:starEach (.Subscript x y p::es) env=(false,eval (.Subscript x y p) env)::starEach es env:=rfl
end L2
namespace L2
open PySem PySem.Spec PyProof.Rows
def SqA (H:Hp) (a:Addr) (xs:List V):Prop:=H a=some (.lst xs)∨H a=some (.tup xs)
theorem SqA.same {H H':Hp}{a:Addr}{xs:List V}(h:SqA H a xs) (s:Same H H'):SqA H' a xs:=by
 rcases h with h | h
 ·exact .inl (s _ _ h)
 ·exact .inr (s _ _ h)
theorem SqA.len {K:W.Frag}{H:Hp}{a:Addr}{xs:List V}(h:SqA H a xs):LenV K (.ref a) H xs.length:=by
 rcases h with h | h
 ·exact .inl ⟨xs,.of h,rfl⟩
 ·exact .inr ⟨xs,.of h,rfl⟩
theorem SqA.thg {H:Hp}{a:Addr}{xs:List V}(h:SqA H a xs):Thg H (.ref a):=by
 rcases h with h | h
 ·exact .lst h
 ·exact .tup h
theorem SqA.lt {H:Hp}{a:Addr}{xs:List V}(h:SqA H a xs):(isL H (.ref a)||isT H (.ref a))=true:=by
 rcases h with h | h
 ·rw[isL_of h];rfl
 ·rw[isT_of h,Bool.or_true]
section
variable {X:Cx}{p pos p2 pos2:Pos}{e f:Expr}{t:TA}
inductive TupR (K:W.Frag) (H:Hp):V->VK->Prop
 | lst {a:Addr} {ys:List V} {Q:VK}:SqL K H a ys->(∀l,H l=none->Q (.ref l) (upd H l (.tup ys)))->TupR K H (.ref a) Q
 | tup {a:Addr} {ys:List V} {Q:VK}:SqT K H a ys->Q (.ref a) H->TupR K H (.ref a) Q
theorem b_tupX (K:W.Frag) (B:Blt X.mg) (ha:PA X [e] t) (hg:Gl X "tuple":=by rfl) (he:starEach [e] X.env=(false,eval e X.env)::starEach [] X.env:=by rfl) (hpl:(backTo pos (starEach [] X.env)).any (·.1)=false:=by rfl) (hK:X.K=K:=by rfl) :
    PE X (.Call (.Name "tuple" p) [e] [] pos) (tCB (fun xs H Q=>∃x,xs=[x]/\TupR K H x Q) t):=by
 subst hK
 refine pe_callTy (r:=fun xs H Q=>∃x,xs=[x]/\TupR X.K H x Q) (fun pins s σ H xs us Q I r h=>?_) hg B.tuple (show bootBuiltins "tuple"=some (.type "tuple") by decide +kernel) ha (by decide) (by decide) he hpl
 obtain⟨x,rfl,h⟩:=h
 cases h with
 | lst h1 q=>exact call_tuple_of pins s σ H _ us Q I r ⟨_,_,rfl,.inl ⟨h1,q⟩⟩
 | tup h1 q=>exact call_tuple_of pins s σ H _ us Q I r ⟨_,_,rfl,.inr ⟨h1,q⟩⟩
end
theorem wpAny_flat {α:Type}{M:Model}{A:Around}{E:Value->Shared->Prop}{s:Shared}{m:Sem (Option α)}{P:α->Shared->Prop}
    (h:wpAny M A m (fun r s1=>∃u,r=some u/\wpAny M A (pure ():Sem Unit) (fun _ s2=>P u s2) E s1) E s):wpAny M A m (fun r s1=>∃u,r=some u/\P u s1) E s:=by
 intro Γ p hΓ
 exact Sem.wp_mono M Γ m (fun r p' s1 ⟨u,e,q⟩=>⟨u,e,q Γ p' hΓ⟩) (fun _ _ _ z=>z) p s (h Γ p hΓ)
theorem Inv.atA {X:Cx}{pins:List (Addr × Obj)}{σ:St}{H:Hp}{s:Shared}(I:Inv X pins σ H s) (A':Around) (h1:A'.handled=X.A.handled) (h2:A'.frames=X.A.frames):Inv { X with A:=A' } pins σ H s :=
 ⟨⟨I.ok.mod,I.ok.kind,I.ok.glob,I.ok.blt,I.ok.above,I.ok.inj,I.ok.has,I.ok.cab,fun c=>h1.trans (I.ok.hd c),h2.trans I.ok.frames,I.ok.stk,I.ok.exf,I.ok.bs,I.ok.bsz,I.ok.noex,I.ok.exfs,I.ok.funs,I.ok.frf⟩,
  I.os,I.bare,I.base,I.loc,I.cell,I.free,I.freeC,I.pin,I.hok,I.len⟩
theorem Inv.ofA {X:Cx}{pins:List (Addr × Obj)}{σ:St}{H:Hp}{s:Shared}{A':Around}(ok:X.Ok) (I:Inv { X with A:=A' } pins σ H s):Inv X pins σ H s :=
 ⟨ok,I.os,I.bare,I.base,I.loc,I.cell,I.free,I.freeC,I.pin,I.hok,I.len⟩
theorem keys_miss_zip:typeLookup (.type "zip") "keys"=pure none:=am_miss_of_fast (by decide +kernel)
namespace DU
theorem entry_loop:entryFor table "dict.update.loop"=some Builtin.«dict.update.loop»:=entryFor_of_fast (by kernel_rfl)
theorem plain_loop:plainId "dict.update.loop"=true:=by decide +kernel
end DU
section
variable {X:Cx}{pins:List (Addr × Obj)}{σ:St}{H:Hp}{s:Shared}{a:Addr}{y v:V}{u r:Value}{A:Around}{E:Value->Shared->Prop}
theorem d_dictSet {H':Hp}{Q:Unit->Shared->Prop}(hu:A.units<cLine) (I:Inv X pins σ H s) (g:DPut H a y v H') (ry:RelV y u) (rv:RelV v r) (h:∀s',Inv X pins σ H' s'->(∀b o,b≠a->s.heap.get? b=some o->s'.heap.get? b=some o)->Q () s') :
    wpAny (model X.prog X.w) A (dictSet a u r) Q E s:=by
 rcases g with⟨kvs,k,e,ey,l,eH⟩ | ⟨kvs,k,b,e,ey,eb,l,eH⟩
 ·subst ey eH
  obtain⟨z,hd,vs,rel,dd⟩:=dk_of I.hok e
  have hz:vs.length<=sizeLine:=by rw[<- rel.length];exact z
  have hl:(putK kvs k v).length<=sizeLine:=by have:=length_putK kvs k v;omega
  refine wpAny_dictSet_pairs (hsz:=hz) (kV_is ry) dd fun h' dd' hs=>h _ ?_ fun b o n q=>hs.extBut _ _ n q
  have he:∃q,h'.get? a=some q:=let ⟨q,_,_,hq,_⟩:=dd';⟨q,hq⟩
  exact d_write I (by rw[e];exact True.intro) hs he (dk_new hl hd (rel.put k rv) dd')
 ·subst ey eH
  cases (show u=Value.ref b from ry)
  obtain⟨z,hd,xs,rel,dd⟩:=dt_of I.hok e
  have hz:xs.length<=sizeLine:=by rw[<- Paired.length rel];exact z
  have hl:(putK kvs k v).length<=sizeLine:=by have:=length_putK kvs k v;omega
  refine wpAny_dictSet_heap (hsz:=hz) hu (key_of I.hok eb) dd fun h' dd' hs=>h _ ?_ fun b o n q=>hs.extBut _ _ n q
  obtain⟨q,es,ep,hq,h2,h3,h4,_,h5⟩:=dd'
  refine d_write I (by rw[e];exact True.intro) hs ⟨q,hq⟩ ⟨hl,hd,_,(rel.put k eb rv).keeps fun c ys ec=>?_,q,es,ep,hq,h2,h3,h4,h5⟩
  rw[upd_ne (ne_of ec e (fun z=>nomatch z))]
  exact ec
theorem DPut.at_ {H':Hp}(g:DPut H a y v H'):(∃o,H a=some o)/\∀b,b≠a->H' b=H b:=by
 rcases g with⟨kvs,k,e,ey,l,eH⟩ | ⟨kvs,k,b,e,ey,eb,l,eH⟩
 ·exact⟨⟨_,e⟩,fun b n=>by rw[eH,upd_ne n]⟩
 ·exact⟨⟨_,e⟩,fun b n=>by rw[eH,upd_ne n]⟩
end
theorem dict_loop {X:Cx}{pins:List (Addr × Obj)}{σ:St}{nm:Str}{tp:Pos}{J:It}{fp:List Addr}{it:Addr}{tn:Nat -> Heap -> Prop}(T:Turn X.prog X.w X.K (.Name nm tp) J fp it tn) (hc:X.calm=true) (hu:X.A.units+64<cLine) (d:Addr) (n:Nat) (Dv:Nat -> Hp -> Prop)
    (go:∀i H,i<n->Dv i H->J.go i H/\∀x H1,J.yld i H x H1->∃b k v H2,x=.ref b/\SqT X.K H1 b [k,v]/\DPut H1 d k v H2/\Dv (i+1) H2)
    (stop:∀H,Dv n H->J.stop n H) {R:Result->Shared->Prop}:∀(k i:Nat) (j:Int) (s:Shared) (H:Hp),n-i=k->i<=n->Inv X pins σ H s->(∀b∈fp,FpOk X pins H b)->tn i s.heap->Dv i H ->
     (∀H' s',Inv X pins σ H' s'->Dv n H'->R (.ok (.ret .none)) s')->codeAny (model X.prog X.w) X.A.in1 (.builtin "dict.update.loop" ⟨[.ref d,.ref it,rawInt j,.none],[]⟩) R s:=by
 intro k
 induction k with
 | zero =>
  intro i j s H hk hi I hf ht hd hR
  have hin:i=n:=by omega
  subst hin
  refine codeAny_builtin DU.entry_loop ?_
  rw[Around.under_plainId DU.plain_loop _]
  show wpAny _ X.A.in1.in1 (pyNext (.ref it) >>= _) _ _ s
  refine ad (bh (T.done { X with A:=X.A.in1.in1 } rfl rfl rfl hc i pins s σ H _ (I.atA _ rfl rfl) hf ht (stop H hd)) (fun r s1 ⟨e,I1⟩=>?_) fun _ _ z=>z)
  subst e
  show wpAny _ _ (Builtin.Dict.addKeywords d [] >>= _) _ _ _
  exact ad (ag (ag (hR H s1 (Inv.ofA I.ok I1) hd)))
 | succ k ih =>
  intro i j s H hk hi I hf ht hd hR
  have hlt:i<n:=by omega
  obtain⟨hg,hy⟩:=go i H hlt hd
  refine codeAny_builtin DU.entry_loop ?_
  rw[Around.under_plainId DU.plain_loop _]
  show wpAny _ X.A.in1.in1 (pyNext (.ref it) >>= _) _ _ s
  refine ad (bh (wpAny_flat (T.item { X with A:=X.A.in1.in1 } rfl rfl rfl hc i pins s σ H _ (I.atA _ rfl rfl) hf ht hg)) (fun r s1 ⟨u,e,x,H1,I1,rx,yl,t1,fn⟩=>?_) fun _ _ z=>z)
  subst e
  replace I1:=Inv.ofA I.ok I1
  obtain⟨b,kk,v,H2,ex,sq,dp,dv⟩:=hy x H1 yl
  subst ex
  cases (show u=Value.ref b from rx)
  obtain⟨its,rv,pt,hz⟩:=I1.tuple sq
  obtain⟨u1,u2,e2,r1,r2⟩:=vals2 rv
  subst e2
  obtain⟨o,ho,hcl,m,hdt⟩:=pt
  show wpAny _ _ (holding [Value.ref b] _ >>= _) _ _ _
  refine ad (aZ ?_)
  show wpAny _ _ (Sem.tryCatch (Builtin.Dict.pairItems (Value.ref b)) _ >>= _) _ _ _
  refine ad (wpAny_tryCatch ?_)
  unfold Builtin.Dict.pairItems
  refine ad (wpAny_typeOf (T:="tuple") ⟨o,ho,hcl⟩ ?_)
  simp only[show ((Value.type "tuple"==Value.type "list")||(Value.type "tuple"==Value.type "tuple"))=true from rfl,if_true]
  unfold seqItems?
  refine ad (ad (wpAny_load ho ?_))
  rw[hdt]
  refine ag (ag ?_)
  show wpAny _ _ (holding [u1,u2] (dictSet d u1 u2)) _ _ _
  have hu':X.A.in1.in1.units<cLine:=by show X.A.units+1+1<cLine;omega
  refine aZ (d_dictSet hu' I1 dp r1 r2 fun s2 I2 hk2=>?_)
  have dn:∀b∈fp,b≠d:=fun b hb q=>by
   obtain⟨o,eo⟩:=dp.at_.1
   rw[<- q,fn b hb] at eo
   cases eo
  refine ag ⟨plainId_quiet DU.plain_loop _,ih (i+1) (j+1) s2 H2 (by omega) hlt I2 (fun b hb=>?_) (T.keep _ _ _ t1 fun b hb o q=>hk2 b o (dn b hb) q) dv hR⟩
  obtain⟨_,f1,f2,f3,f4,f5⟩:=hf b hb
  exact⟨(dp.at_.2 b (dn b hb)).trans (fn b hb),f1,f2,f3,f4,f5⟩
theorem Rd.fresh {H:Hp}{a l:Addr}{u o:HO}(r:Rd H a u) (hl:H l=none):Rd (upd H l o) a u:=by
 have n:a≠l:=fun e=>by subst e;rcases r with r | ⟨_,r⟩ <;> rw[hl] at r <;> cases r
 unfold Rd
 rw[upd_ne n]
 exact r
theorem SqL.fresh {K:W.Frag}{H:Hp}{a l:Addr}{xs:List V}{o:HO}(r:SqL K H a xs) (hl:H l=none):SqL K (upd H l o) a xs:=by
 rcases r with r | r
 ·exact Or.inl (r.fresh hl)
 ·exact Or.inr r
theorem foldK_le {κ:Type} [DecidableEq κ]:∀(ps:List (κ × V)) (m:List (κ × V)),(ps.foldl (fun m q=>putK m q.1 q.2) m).length<=m.length+ps.length:=by
 intro ps
 induction ps with
 | nil=>intro m;exact ae _
 | cons q r ih =>
  intro m
  have h1:=ih (putK m q.1 q.2)
  have h2:=length_putK m q.1 q.2
  rw[List.foldl_cons,be]
  omega
def mkK {κ:Type} [DecidableEq κ] (ps:List (κ × V)):List (κ × V):=ps.foldl (fun m q=>putK m q.1 q.2) []
theorem mkK_le {κ:Type} [DecidableEq κ] (ps:List (κ × V)):(mkK ps).length<=ps.length:=by
 have:=foldK_le ps []
 rw[List.length_nil,Nat.zero_add] at this
 exact this
theorem mkK_take {κ:Type} [DecidableEq κ] (ps:List (κ × V)) (i:Nat) (q:κ × V) (h:ps[i]? = some q):mkK (ps.take (i+1))=putK (mkK (ps.take i)) q.1 q.2:=by
 unfold mkK
 rw[au,h,List.foldl_append]
 rfl
namespace SP
open PySem.Builtin PySem.Builtin.Str PySem.StrLaws
abbrev one (c:Nat):Str:=⟨#[c]⟩
end SP
end L2
namespace MG
variable {es:List (Nat × Nat)}{goal:Nat}
theorem Wy.far {k a:Nat}{ws:List Nat}(t:To es goal k a) (h:Wy es goal k a ws):ws.Nodup /\ ∀x ∈ ws, ∃j, j <= k /\ To es goal j x := by
 induction k generalizing a ws with
 | zero =>
  rw[h.2]
  refine⟨by simp,fun x hx=>?_⟩
  rw[aQ.mp hx]
  exact⟨0,ae _,t⟩
 | succ k ih =>
  obtain⟨b,r,rfl,l,w⟩:=h
  obtain⟨n1,n2⟩:=ih l.2.1 w
  refine⟨aP.mpr ⟨fun hm=>?_,n1⟩,fun x hx=>?_⟩
  ·obtain⟨j,hj,tj⟩:=n2 a hm
   have:=Dst.uniq t tj
   omega
  ·rcases ax.mp hx with rfl | hx
   ·exact⟨_,ae _,t⟩
   ·obtain⟨j,hj,tj⟩:=n2 x hx
    exact⟨j,by omega,tj⟩
theorem Wy.split {k a:Nat}{ws:List Nat}(h:Wy es goal k a ws):ws=ws.dropLast++[goal]:=by
 have hl:=h.last
 have hne:ws≠[]:=fun z=>by rw[z] at hl;cases hl
 have e:=List.dropLast_concat_getLast hne
 rw[List.getLast?_eq_getLast hne] at hl
 rw[ai hl] at e
 exact e.symm
end MG
set_option maxHeartbeats 400000
namespace L2
open PySem PySem.Spec PyProof.Rows
theorem ne_list_lengths {prog:Program}{w:World}{A:Around}{E:Value->Shared->Prop}{s:Shared}{l b:Addr}{items items2:Array Value}{Q:Value->Shared->Prop}(hl:s.heap.IsList l items) (hb:s.heap.IsList b items2) (hsz:(items.size != items2.size)=true) (hu:A.units<cLine) (h:Q (Value.bool true) s):wpAny (model prog w) A (compareOp CmpOp.NotEq (Value.ref l) (Value.ref b)) Q E s:=by
 obtain⟨⟨cls,dd,data,sl⟩,ho,hc,n,hd⟩:=id hl
 obtain⟨⟨cls2,dd2,data2,sl2⟩,ho2,hc2,n2,hd2⟩:=id hb
 have hc:cls=.type "list":=hc
 have hd:data=.seq items n:=hd
 have hc2:cls2=.type "list":=hc2
 have hd2:data2=.seq items2 n2:=hd2
 subst hc hd hc2 hd2
 show wpAny (model prog w) A (richCompare CmpOp.NotEq (Value.ref l) (Value.ref b)) Q E s
 refine richCompare_meets_room ⟨_,ho,rfl⟩ ⟨_,ho2,rfl⟩ F.slot_list_ne F.entry_list_ne (F.args_list_ne_2 _ _) (SeqAt.list_ne_lengthsAt l b items items2 n n2 dd dd2 sl sl2 hsz) ⟨ho,ho2,?_⟩ hu
 exact⟨(fun x=>nomatch x),h⟩
section
variable {X:Cx}
def rInDT (neg:Bool):V->V->Hp->VK->Prop:=fun x y H Q=>∃p xs ds d,y=.ref p/\H p=some (.tup xs)/\RepAll H xs ds/\Rep H x d/\PyData.canLayAll0 ds=true/\d.canLay0=true/\d.depth<=16/\Q (.bl (if neg then !(ds.any fun e=>PyData.eqv e d) else ds.any fun e=>PyData.eqv e d)) H
theorem op_notInDT (hu:X.A.units+64<cLine):OpR X (compareOp .NotIn) (rInDT true):=by
 intro pins s σ H x y v u Q I rx ry h
 obtain⟨p,xs,ds,d,rfl,e,rs,r,cs,c,dp,q⟩:=h
 cases ry
 obtain⟨its,rv,pl,_⟩:=I.tuple (a:=p) (xs:=xs) (.of e)
 obtain⟨bs,zx⟩:=r.reads I.hok rx
 refine SeqAt.notIn_tupleAt (fun u=>PyData.eqv (SeqAt.readOf s.heap u) d) pl (fun w hw=>mem_readOf (x:=x) I.hok zx c (by show X.A.units+1+d.depth<cLine;omega) rs rv cs w (by simpa using hw)) ⟨.bl _,H,I,rfl,?_⟩
 rw[show its.toArray.any (fun u=>PyData.eqv (SeqAt.readOf s.heap u) d)=its.any (fun u=>PyData.eqv (SeqAt.readOf s.heap u) d) by simp,any_readOf I.hok rs rv cs]
 exact q
theorem op_inDT (hu:X.A.units+64<cLine):OpR X (compareOp .In) (rInDT false):=by
 intro pins s σ H x y v u Q I rx ry h
 obtain⟨p,xs,ds,d,rfl,e,rs,r,cs,c,dp,q⟩:=h
 cases ry
 obtain⟨its,rv,pl,_⟩:=I.tuple (a:=p) (xs:=xs) (.of e)
 obtain⟨bs,zx⟩:=r.reads I.hok rx
 refine SeqAt.in_tupleAt (fun u=>PyData.eqv (SeqAt.readOf s.heap u) d) pl (fun w hw=>mem_readOf (x:=x) I.hok zx c (by show X.A.units+1+d.depth<cLine;omega) rs rv cs w (by simpa using hw)) ⟨.bl _,H,I,rfl,?_⟩
 rw[show its.toArray.any (fun u=>PyData.eqv (SeqAt.readOf s.heap u) d)=its.any (fun u=>PyData.eqv (SeqAt.readOf s.heap u) d) by simp,any_readOf I.hok rs rv cs]
 exact q
def rLens (neg:Bool):V->V->Hp->VK->Prop:=fun x y H Q=>∃a b xs ys,x=.ref a/\y=.ref b/\H a=some (.lst xs)/\H b=some (.lst ys)/\xs.length≠ys.length/\Q (.bl neg) H
theorem op_neLens (hu:X.A.units+64<cLine):OpR X (compareOp .NotEq) (rLens true):=by
 intro pins s σ H x y v u Q I rx ry h
 obtain⟨a,b,xs,ys,rfl,rfl,ha,hb,hne,q⟩:=h
 cases rx
 cases ry
 obtain⟨_,its,n,rv,eh⟩:=(show ObjOk X.prog X.w H s.heap a (.lst xs) from I.hok a _ ha)
 obtain⟨_,its2,n2,rv2,eh2⟩:=(show ObjOk X.prog X.w H s.heap b (.lst ys) from I.hok b _ hb)
 have l1:=rv.length
 have l2:=rv2.length
 have hsz:(its.toArray.size != its2.toArray.size)=true:=by
  rw[bne_iff_ne,aE,aE]
  omega
 have hq:EP X pins σ Q (Value.bool true) s:=⟨.bl true,H,I,rfl,q⟩
 exact ne_list_lengths ⟨_,eh,rfl,n,rfl⟩ ⟨_,eh2,rfl,n2,rfl⟩ hsz (by omega) hq
theorem op_neY (hu:X.A.units+64<cLine):OpR X (compareOp .NotEq) (fun x y H Q=>EqR true H x y Q∨rLens true x y H Q):=by
 intro pins s σ H x y v u Q I rx ry h
 rcases h with h | h
 ·exact op_neX hu pins s σ H x y v u Q I rx ry h
 ·exact op_neLens hu pins s σ H x y v u Q I rx ry h
end
end L2
set_option maxHeartbeats 4000000
namespace L2
open PySem PySem.Spec PyProof.Rows
section
variable {prog:Program}{w:World}{A:Around}{E:Value->Shared->Prop}{s:Shared}
theorem zip_getattr_none:typeLookup (.type "zip") "__getattr__"=pure none:=by rw[typeLookup_type,builtinLookup_eq_fast];kernel_rfl
theorem entry_zip_getattribute:entryFor table "zip.__getattribute__"=some Builtin.«object.__getattribute__» :=
 entryFor_alias (id':="object.__getattribute__") (by kernel_rfl) (by decide +kernel) (by decide +kernel) (by kernel_rfl)
theorem meets_miss_zip (a:Addr) (fs:Array Value) (sl:Array (Option Value)) (u:Tok) :
    Meets (Builtin.«object.__getattribute__» ⟨[.ref a,.str "keys" u],[]⟩) (fun A R s=>s.heap.get? a=some { cls:=.type "zip",dict:=none,data:=.fields fs,slots:=sl }/\raisesAttr (.ref a) "keys" A R s) :=
 Meets.of_wp fun prog w A R s hs=>by
  obtain⟨h0,g0,d0,t0,os0⟩:=s
  obtain⟨hx,hs⟩:=hs
  have hT:(⟨h0,g0,d0,t0,os0⟩:Shared).TypeIs (.ref a) "zip":=⟨_,hx,rfl⟩
  have hmiss:=keys_miss_zip
  have hname:(["__module__","__name__","__qualname__","__doc__","__annotations__"]:List Str).contains ("keys":Str)=false:=by decide +kernel
  unfold Builtin.«object.__getattribute__»
  repeat any_goals first | assumption | wp_step
  exact wpAny_raiseAttrError hs.1 hs.2 (attrMsg_fits (name:="keys") (by decide +kernel) (by size_fits))
theorem nokeys_zip {a:Addr}{o:Obj}{fs:Array Value}{Q:Option Value->Shared->Prop}
    (hx:s.heap.get? a=some o) (hc:o.cls=.type "zip") (hdat:o.data=.fields fs) (hd:o.dict=none) (hA:A.handled=none)
    (h:∀h' tk,(∀b ob,s.heap.get? b=some ob->h'.get? b=some ob)->Q none { s with heap:=h',toks:=tk }) :
    wpAny (model prog w) A (getAttr? (.ref a) "keys") Q E s:=by
 obtain⟨c,dct,dat,sl⟩:=o
 simp only at hc hdat hd
 subst hc hdat hd
 obtain⟨h0,g0,d0,t0,os0⟩:=s
 have hT:∀tk',(⟨h0,g0,d0,tk',os0⟩:Shared).TypeIs (.ref a) "zip":=fun _=>⟨_,hx,rfl⟩
 have f1:=sub_AttributeError
 have f3:=F.slot_zip_getattribute.lookup
 have f4:=F.slot_zip_getattribute.bind (.ref a)
 have f5:=zip_getattr_none
 unfold getAttr? getAttrBy? getAttrBy
 repeat (any_goals (first | assumption | exact hT _ | ((with_reducible show wpAny _ _ (call (Value.builtin "zip.__getattribute__") _ _) _ _ _);refine call_meets F.slot_zip_getattribute (hT _) entry_zip_getattribute (F.args_zip_getattribute_2 _ _) (meets_miss_zip a fs sl _) ⟨hx,hA,fun h' tk' e hx'=>?_⟩) | wp_step))
 obtain⟨t',u',he⟩:=hx'.there
 show wpAny _ _ (getattributeRaised _ _ _ _ _ _ _) _ _ _
 unfold getattributeRaised
 repeat (any_goals (first | assumption | wp_step))
 exact h _ _ hx'.keeps
end
theorem Rd.same' {H H':Hp}{a:Addr}{u:HO}(r:Rd H a u) (s:Same H H'):Rd H' a u:=by
 rcases r with r | ⟨o,r⟩
 ·exact .inl (s _ _ r)
 ·exact .inr ⟨o,s _ _ r⟩
theorem SqL.same' {K:W.Frag}{H H':Hp}{a:Addr}{xs:List V}(r:SqL K H a xs) (s:Same H H'):SqL K H' a xs:=by
 rcases r with r | r
 ·exact .inl (r.same' s)
 ·exact .inr r
def zipK (ks:List Str) (ys:List V):List (Key × V):=(ks.map Sum.inr).zip ys
theorem putK_snoc {kvs:List (Key × V)}{k:Key}{v:V}(h:k∉kvs.map (·.1)):putK kvs k v=kvs++[(k,v)]:=by
 unfold putK
 rw[if_neg]
 intro z
 obtain⟨kv,hm,e⟩:=bY.mp z
 exact h (ap.mpr ⟨kv,hm,az e⟩)
theorem valV_mem {kvs:List (Key × V)}{k:Key}:(valV kvs k).isSome=true ↔ k∈kvs.map (·.1):=by
 rw[<- valV_any,bY,ap]
 exact⟨fun ⟨kv,hm,e⟩=>⟨kv,hm,az e⟩,fun ⟨kv,hm,e⟩=>⟨kv,hm,ao e⟩⟩
theorem mkK_zip:∀(ks:List Str) (ys:List V), ks.Nodup -> mkK (zipK ks ys)=zipK ks ys := by
 have key:∀(ks:List Str) (ys:List V) (m:List (Key × V)), ks.Nodup -> (∀k ∈ ks, (Sum.inr k:Key) ∉ m.map (·.1)) -> (zipK ks ys).foldl (fun m q => putK m q.1 q.2) m=m ++ zipK ks ys := by
  intro ks
  induction ks with
  | nil=>intro ys m _ _;unfold zipK;simp
  | cons k ks ih =>
   intro ys m nd hm
   cases ys with
   | nil=>unfold zipK;simp
   | cons y ys =>
    obtain⟨h1,h2⟩:=aP.mp nd
    have e:zipK (k::ks) (y::ys)=(.inr k,y)::zipK ks ys:=rfl
    rw[e,List.foldl_cons]
    show List.foldl _ (putK m (.inr k) y) _=_
    rw[putK_snoc (hm k (by simp)),ih ys _ h2 (fun x hx=>?_)]
    ·simp
    ·rw[ah,aq]
     rintro (z | z)
     ·exact hm x (aN _ hx) z
     ·have:(Sum.inr x:Key)=Sum.inr k:=by simpa using z
      exact h1 (Sum.inr.inj this ▸ hx)
 intro ks ys nd
 unfold mkK
 rw[key ks ys [] nd (fun k _ h=>by cases h)]
 rfl
theorem valV_zip:∀ {ks:List Str}{ys:List V}{i:Nat}{k:Str}{y:V},ks.Nodup->ks[i]? = some k->ys[i]? = some y->valV (zipK ks ys) (.inr k)=some y
 | [],_,_,_,_,_,h,_=>by simp at h
 | k::ks,[],_,_,_,_,_,h=>by simp at h
 | k::ks,y::ys,0,k',y',nd,h1,h2=>by
  have e1:k=k':=by simpa using h1
  have e2:y=y':=by simpa using h2
  subst e1 e2
  exact valV_pos (p:=(Sum.inr k,y)) rfl
 | k::ks,y::ys,i+1,k',y',nd,h1,h2=>by
  obtain⟨n1,n2⟩:=aP.mp nd
  have h1:ks[i]? = some k':=by simpa using h1
  have h2:ys[i]? = some y':=by simpa using h2
  have ne:¬ (Sum.inr k:Key)=Sum.inr k':=fun z=>n1 (by rw[Sum.inr.inj z];exact aj h1)
  show valV ((Sum.inr k,y)::zipK ks ys) _=_
  rw[valV_neg ne]
  exact valV_zip n2 h1 h2
theorem once {G T:Prop}(m:T->G) (t:T):G:=m t
theorem once2 {G:Prop}{T C:Nat->Hp->Prop}(m:(∀y HC,C y HC->T y HC)->G) (t:∀y HC,C y HC->T y HC):G:=m t
end L2
namespace MG
def mx:List Int->Int
 | []=>0
 | x::l=>max x (mx l)
def dp (es:List (Nat × Nat)) (W:Nat->Int):Nat->Nat->Int
 | 0,_=>0
 | k+1,v=>W v+mx ((es.filter fun e=>decide (e.2=v)).map fun e=>dp es W k e.1)
end MG
namespace L2
open PySem
def intsD (zs:List Int):PyData:=.list (zs.map PyData.int)
theorem repAll_int {H:Hp}:∀zs:List Int,RepAll H (zs.map V.int) (zs.map PyData.int)
 | []=>.nil
 | x::xs=>.cons (.int _) (repAll_int xs)
end L2
namespace L2
open PySem PySem.Spec PyProof.Rows
section
variable {X:Cx}
def rCatTA (K:W.Frag):R2:=fun x y H Q=>∃a b xs ys,x=.ref a/\y=.ref b/\SqT K H a xs/\SqT K H b ys/\xs.length+ys.length<=sizeLine /\
 (xs=[]->Q (.ref b) H)/\(xs≠[]->ys=[]->Q (.ref a) H)/\(xs≠[]->ys≠[]->∀p,H p=none->Q (.ref p) (upd H p (.tup (xs++ys))))
theorem op_catTA (K:W.Frag) (hK:X.K=K:=by rfl):OpR X (binaryOp .Add) (rCatTA K):=by
 subst hK
 intro pins s σ H x y v u Q I rx ry h
 obtain⟨a,b,xs,ys,rfl,rfl,ha,hb,hz,q0,q1,q2⟩:=h
 by_cases hx:xs=[]
 ·cases rx
  cases ry
  obtain⟨its,r1,p1,_⟩:=I.tuple ha
  obtain⟨its2,r2,p2,_⟩:=I.tuple hb
  have e1:its=[]:=r1.nil_iff.mpr hx
  obtain⟨⟨cls,dd,data,sl⟩,ho,hc,n,hd⟩:=id p1
  obtain⟨⟨cls2,dd2,data2,sl2⟩,ho2,hc2,n2,hd2⟩:=id p2
  simp only at hc hd hc2 hd2
  subst hc hd hc2 hd2
  exact concat_meets ⟨_,ho,rfl⟩ ⟨_,ho2,rfl⟩ noFill_tuple_add seq_tuple_add F.slot_tuple_add F.entry_tuple_add (F.args_tuple_add_2 _ _) (tuple_addW0 a b its.toArray its2.toArray n n2 dd dd2 sl sl2 (by simp[e1])) ⟨ho,ho2,⟨.ref b,H,I,rfl,q0 hx⟩⟩
 ·exact op_catT pins s σ H _ _ v u Q I rx ry ⟨a,b,xs,ys,rfl,rfl,ha,hb,hx,hz,q1 hx,q2 hx⟩
end
end L2
namespace L2
open PySem
theorem perm_of {α:Type} [DecidableEq α]:∀ {l m:List α},l.Nodup->(∀x∈l,x∈m)->m.length<=l.length->l.Perm m
 | [],m,_,_,h=>by
  have:m=[]:=List.length_eq_zero_iff.mp (by have:=h;rw[List.length_nil] at this;omega)
  rw[this]
 | x::l,m,nd,sub,h=>by
  obtain⟨n1,n2⟩:=aP.mp nd
  have hx:=sub x (by simp)
  have pe:=(List.perm_cons_erase hx)
  have le:=pe.length_eq
  rw[be] at le h
  refine(List.Perm.cons x (perm_of n2 (fun y hy=>?_) (by omega))).trans pe.symm
  exact(List.mem_erase_of_ne (fun z:y=x=>n1 (z ▸ hy))).mpr (sub y (aN _ hy))
def setAll (r:List Str) (ps:List (Nat × Str)):List Str:=ps.foldl (fun r p=>r.set p.1 p.2) r
theorem setAll_len:∀(ps:List (Nat × Str)) (r:List Str),(setAll r ps).length=r.length
 | [],r=>rfl
 | p::ps,r=>by
  show (setAll (r.set p.1 p.2) ps).length=_
  rw[setAll_len ps,List.length_set]
theorem setAll_out:∀(ps:List (Nat × Str)) (r:List Str) (k:Nat),k∉ps.map (·.1)->(setAll r ps)[k]? = r[k]?
 | [],r,k,_=>rfl
 | p::ps,r,k,h=>by
  show (setAll (r.set p.1 p.2) ps)[k]? = _
  rw[aV,ax] at h
  rw[setAll_out ps _ k (fun z=>h (.inr z)),cC (fun z=>h (.inl z.symm))]
theorem setAll_in:∀(ps:List (Nat × Str)) (r:List Str) (k:Nat) (x:Str), (ps.map (·.1)).Nodup -> (k, x) ∈ ps -> k<r.length -> (setAll r ps)[k]? = some x
 | p::ps,r,k,x,nd,h,hk=>by
  show (setAll (r.set p.1 p.2) ps)[k]? = _
  rw[aV] at nd
  obtain⟨n1,n2⟩:=aP.mp nd
  rcases ax.mp h with e | h
  ·subst e
   rw[setAll_out ps _ k n1,cz hk]
  ·exact setAll_in ps _ k x n2 h (by rw[List.length_set];exact hk)
def plc (os A:List Str):List Nat:=(List.range os.length).filter fun k=>decide (os.getD k ""∈A)
def laidL (os A:List Str):List Str:=setAll os ((plc os A).zip A)
theorem plc_lt {os A:List Str}{k:Nat}(h:k∈plc os A):k<os.length:=bo.mp (am.mp h).1
theorem plc_in {os A:List Str}{k:Nat}(h:k∈plc os A):os.getD k ""∈A:=az (am.mp h).2
theorem plc_nd (os A:List Str):(plc os A).Nodup:=List.Nodup.sublist bp List.nodup_range
theorem os_range (os:List Str):os=(List.range os.length).map fun k=>os.getD k "":=by
 apply List.ext_getElem
 ·rw[aa,bx]
 ·intro i h1 h2
  rw[List.getElem_map,List.getElem_range,aD,ar h1];rfl
theorem plc_map (os A:List Str):(plc os A).map (fun k=>os.getD k "")=os.filter fun x=>decide (x∈A):=by
 have e:os.filter (fun x=>decide (x∈A))=((List.range os.length).map fun k=>os.getD k "").filter fun x=>decide (x∈A):=by rw[<- os_range]
 rw[e,List.filter_map]
 rfl
theorem plc_len {os A:List Str}(ond:os.Nodup) (and_:A.Nodup) (sub:∀x∈A,x∈os):(plc os A).length=A.length:=by
 have h:=congrArg List.length (plc_map os A)
 rw[aa] at h
 rw[h]
 have nd:(os.filter fun x=>decide (x∈A)).Nodup:=List.Nodup.sublist bp ond
 have l1:(os.filter fun x=>decide (x∈A)).length<=A.length:=nd.length_le_of_subset fun x hx=>az (am.mp hx).2
 have l2:A.length<=(os.filter fun x=>decide (x∈A)).length:=and_.length_le_of_subset fun x hx=>am.mpr ⟨sub x hx,ao hx⟩
 omega
theorem laid_len (os A:List Str):(laidL os A).length=os.length:=setAll_len _ _
theorem zip_keys {os A:List Str}(h:(plc os A).length<=A.length):((plc os A).zip A).map (·.1)=plc os A:=List.map_fst_zip h
theorem laid_at {os A:List Str}(ond:os.Nodup) (and_:A.Nodup) (sub:∀x∈A,x∈os) {k:Nat}(hk:k<os.length) :
    (∃(i:Nat) (x:Str),(plc os A)[i]? = some k/\A[i]? = some x/\(laidL os A)[k]? = some x)∨(k∉plc os A/\(laidL os A)[k]? = os[k]?/\os.getD k ""∉A):=by
 have pl:=plc_len ond and_ sub
 have zk:=zip_keys (os:=os) (A:=A) (by omega)
 by_cases q:k∈plc os A
 ·obtain⟨i,hi⟩:=aH q
  have hil:=(af.mp hi).1
  obtain⟨x,hx⟩:∃x,A[i]? = some x:=⟨_,ar (by omega)⟩
  refine .inl ⟨i,x,hi,hx,setAll_in _ _ k x (by rw[zk];exact plc_nd os A) ?_ hk⟩
  exact aj (i:=i) (by rw[cp];exact⟨hi,hx⟩)
 ·refine .inr ⟨q,setAll_out _ _ k (by rw[zk];exact q),fun z=>q (am.mpr ⟨bo.mpr hk,ao z⟩)⟩
theorem laid_perm {os A:List Str}(ond:os.Nodup) (and_:A.Nodup) (sub:∀x ∈ A, x ∈ os):(laidL os A).Perm os := by
 have g:∀k,k<os.length->os[k]? = some (os.getD k ""):=fun k hk=>by rw[aD,ar hk];rfl
 refine perm_of ?_ (fun x hx=>?_) (by rw[laid_len];exact ae _)
 ·rw[os_range (laidL os A), laid_len]
  refine nodup_by _ _ fun i j hij hj e=>?_
  have e:(laidL os A)[i]? = (laidL os A)[j]?:=by
   have f:∀k,k<os.length->(laidL os A)[k]? = some ((laidL os A).getD k ""):=fun k hk=>by rw[aD,ar (by rw[laid_len];exact hk)];rfl
   rw[f i (by omega),f j hj,e]
  rcases laid_at ond and_ sub (show i<os.length by omega) with⟨a,x,h1,h2,h3⟩ | ⟨h1,h2,h3⟩
  ·rcases laid_at ond and_ sub hj with⟨b,y,g1,g2,g3⟩ | ⟨g1,g2,g3⟩
   ·have exy:x=y:=ai (h3.symm.trans (e.trans g3))
    subst exy
    have hab:a=b:=(bH (af.mp h2).1 and_).mp (h2.trans g2.symm)
    subst hab
    have:=ai (h1.symm.trans g1)
    omega
   ·rw[h3,g2,g j hj] at e
    have:=ai e
    exact g3 (this ▸ aj h2)
  ·rcases laid_at ond and_ sub hj with⟨b,y,g1,g2,g3⟩ | ⟨g1,g2,g3⟩
   ·rw[h2,g3,g i (by omega)] at e
    have:=ai e
    exact h3 (this ▸ aj g2)
   ·rw[h2,g2] at e
    have:=(bH (show i<os.length by omega) ond).mp e
    omega
 ·obtain⟨k,hk⟩:=aH hx
  have hkl:=(af.mp hk).1
  rw[laid_len] at hkl
  rcases laid_at ond and_ sub hkl with⟨a,y,h1,h2,h3⟩ | ⟨h1,h2,h3⟩
  ·have:y=x:=ai (h3.symm.trans hk)
   exact this ▸ sub y (aj h2)
  ·rw[h2] at hk
   exact aj hk
end L2
namespace L2
open PySem PySem.Spec PyProof.Rows
theorem call_dictZL {X:Cx}(hc:X.calm=true) (hu:X.A.units+64<cLine) {pins:List (Addr × Obj)}{s:Shared}{σ:St}{H:Hp}{a b z TI TO i1 i2:Addr}{ks:List Str}{ys:List V}{Q:VK}(I:Inv X pins σ H s) (D:ZipApart z TI TO i1 i2 a b)
    (t0:(∃f0 f1,F0 f0/\Zp s.heap z TI TO f0 f1)/\IsPair s.heap TI (.ref i1) (.ref i2)/\(∃c d,IsPair s.heap TO c d)/\s.heap.IsListIter i1 a 0/\s.heap.IsListIter i2 b 0) (hf:∀c∈[z,TI,TO,i1,i2],FpOk X pins H c)
    (hqa:SqL X.K H a (List.map V.str ks)) (hqb:SqL X.K H b ys) (hl:ks.length=ys.length) (hn:ks.length<=1000) (q:∀l H2,H l=none->Same H H2->H2 l=some (.dK (mkK (zipK ks ys)))->Q (.ref l) H2) :
    wpAny (model X.prog X.w) X.A (call (.type "dict") [.ref z]) (EP X pins σ Q) X.xe s:=by
 have T:=turn_zip (P:=X.prog) (w:=X.w) (K:=X.K) (nm:="x") (tp:=default) a b z TI TO i1 i2 D
 have hlt:∀c∈[z,TI,TO,i1,i2],c<s.heap.objs.size:=fun c hc=>by
  obtain⟨o,e,_⟩:=T.obj 0 s.heap t0 c hc
  exact ak e
 have zl:(zipK ks ys).length=ks.length:=by unfold zipK;rw[List.length_zip,aa];omega
 refine callType_codes (Q₁:=fun ob s1=>ob=.ref s.heap.objs.size/\s1={ s with heap:=s.heap.push { cls:=.type "dict",data:=.dict #[] } }) F.kt_called_dict (F.kt_typeCall_dict_1 _) F.entry_dict_init (kt_code_dict_new _ ⟨rfl,rfl⟩) ?_
 rintro ob s1 ⟨rfl,rfl⟩
 have hfree:H s.heap.objs.size=none:=I.hok.fresh (ae _)
 have I1:Inv X pins σ (upd H s.heap.objs.size (.dK [])) { s with heap:=s.heap.push { cls:=.type "dict",data:=.dict #[] } } :=
  I.laid (a:=s.heap.objs.size) (o:=.dK []) (t':=s.toks) (fun _ _ q=>ay _ q) (ae _) (dk_empty s.heap I.big)
 have hnew:(⟨s.heap.push { cls:=.type "dict",data:=.dict #[] },s.gens,s.drawn,s.toks,s.os⟩:Shared).TypeIs (.ref s.heap.objs.size) "dict":=⟨_,aF _ rfl,rfl⟩
 refine⟨hnew,F.args_dict_init_2 _ _,?_⟩
 unfold Builtin.«dict.__init__»
 refine ad ?_
 unfold Builtin.Dict.selfAndRest
 refine ad (wpAny_notOrdered_dict hnew ?_)
 show wpAny _ _ (pure (s.heap.objs.size,[Value.ref z])) _ _ _
 refine ag ?_
 show wpAny _ _ (Builtin.Dict.updateFrom "dict.__init__" s.heap.objs.size (.ref z) [] .none) _ _ _
 unfold Builtin.Dict.updateFrom
 have hA:X.A.in1.in1.handled=none:=I.ok.hd hc
 have t1:=T.keep 0 s.heap (s.heap.push { cls:=.type "dict",data:=.dict #[] }) t0 fun c _ o e=>ay _ e
 obtain⟨⟨f0,f1,hf0,hz⟩,_⟩:=id t1
 refine ad (wpAny_typeOf (T:="zip") ⟨_,hz,rfl⟩ ?_)
 rw[if_pos (by decide)]
 refine ad (nokeys_zip hz rfl rfl rfl hA fun h' tk kp=>?_)
 have I2:=I1.kept (h':=h') (t':=tk) kp
 have t2:=T.keep 0 _ h' t1 fun c _ o e=>kp c o e
 refine ad (wpAny_rule (ad ?_))
 refine T.self X.A.in1.in1 0 { s with heap:=h',toks:=tk } _ _ t2 ?_
 refine ag ⟨plainId_quiet DU.plain_loop _,?_⟩
 refine dict_loop (nm:="x") (tp:=default) T hc hu s.heap.objs.size ks.length (fun i H'=>Same H H'/\H' s.heap.objs.size=some (.dK (mkK ((zipK ks ys).take i)))) (fun i H' hi e=>?_) (fun H' e=>?_) _ 0 0 _ _ rfl (a0 _) I2 (fun c hc=>?_) t2 ?_ ?_
 ·obtain⟨sm,hd⟩:=e
  have hx:(List.map V.str ks)[i]? = some (V.str ks[i]):=by simp[hi]
  have hy:ys[i]? = some (ys[i]'(by omega)):=ar (by omega)
  refine⟨⟨_,_,_,_,hqa.same' sm,hqb.same' sm,hx,hy⟩,fun x H1 yl=>?_⟩
  obtain⟨p,u,v,hp,rfl,hu1,hv1,rfl⟩:=yl
  have e1:V.str ks[i]=u:=ai (hx.symm.trans (hu1 _ (hqa.same' sm)))
  have e2:ys[i]'(by omega)=v:=ai (hy.symm.trans (hv1 _ (hqb.same' sm)))
  subst e1 e2
  have npl:s.heap.objs.size≠p:=ne_of_none hd hp
  have hzk:(zipK ks ys)[i]? = some (.inr ks[i],ys[i]'(by omega)):=by
   unfold zipK
   rw[cp]
   exact⟨by simp[hi],hy⟩
  have hkl:(mkK ((zipK ks ys).take i)).length<sizeLine:=by
   have:=mkK_le ((zipK ks ys).take i)
   rw[av] at this
   exact small1000 (by omega)
  refine⟨p,V.str ks[i],_,_,rfl,.of upd_same,DPut.k (k:=.inr ks[i]) (by rw[upd_ne npl];exact hd) hkl,fun c o hc=>?_,?_⟩
  ·have h1:=sm c o hc
   rw[upd_ne (ne_of_none hc hfree),upd_ne (ne_of_none h1 hp)]
   exact h1
  ·rw[upd_same,mkK_take _ i _ hzk]
 ·obtain⟨sm,hd⟩:=e
  exact⟨_,_,hqa.same' sm,hqb.same' sm,.inl (by rw[aa];exact ae _)⟩
 ·obtain⟨g0,g1,g2,g3,g4,g5⟩:=hf c hc
  exact⟨by rw[upd_ne (aB (hlt c hc))];exact g0,g1,g2,g3,g4,g5⟩
 ·exact⟨Same.new hfree,by rw[upd_same];rfl⟩
 ·intro H' s' I' e
  obtain⟨sm,hd⟩:=e
  rw[<- zl,aw (ae _)] at hd
  exact⟨rfl,.ref _,_,I',rfl,q _ _ hfree sm hd⟩
def tDZipL (K:W.Frag) (ta:TA):TE:=fun σ H Q=>ta σ H fun vs H1=>∃a b ks ys,vs=[.ref a,.ref b]/\SqL K H1 a (List.map V.str ks)/\SqL K H1 b ys/\ks.length=ys.length/\ks.length<=1000/\∀l H2,H1 l=none->Same H1 H2->H2 l=some (.dK (mkK (zipK ks ys)))->Q (.ref l) H2
theorem pe_dzipL (K:W.Frag) {X:Cx}{a b:Expr}{ta:TA}{p p2 pos pos2:Pos}(hc:X.calm=true) (hu:X.A.units+64<cLine) (B:Blt X.mg) (hm:X.mg "zip"=none) (ha:PA X [a,b] ta) (hgd:Gl X "dict":=by rfl) (hgz:Gl X "zip":=by rfl)
    (he:starEach [.Call (.Name "zip" p2) [a,b] [] pos2] X.env=(false,eval (.Call (.Name "zip" p2) [a,b] [] pos2) X.env)::starEach [] X.env:=by rfl) (hpl:(backTo pos (starEach [] X.env)).any (·.1)=false:=by rfl)
    (hs:starEach [a,b] X.env=(false,eval a X.env)::starEach [b] X.env:=by rfl) (hp2:(backTo pos2 (starEach [b] X.env)).any (·.1)=false:=by rfl) (hK:X.K=K:=by rfl) :
    PE X (.Call (.Name "dict" p) [.Call (.Name "zip" p2) [a,b] [] pos2] [] pos) (tDZipL K ta):=by
 subst hK
 intro pins s σ H Q I h
 refine bS (ld_blt I hgd B.dict (show bootBuiltins "dict"=some (.type "dict") by decide +kernel) ?_ (by decide) (by decide))
 refine PyProof.Rows.callWith_type1 ?_ he hpl
 rw[he]
 show wpAny _ _ (spliced ((false,eval (.Call (.Name "zip" p2) [a,b] [] pos2) X.env)::backTo pos (starEach [] X.env))) _ _ s
 refine Calls.spliced_cons ?_
 refine Call_ (ld_blt I hgz hm (show bootBuiltins "zip"=some (.type "zip") by decide +kernel) (PyProof.Rows.callWith_type1 (thn (ha pos2 pins s σ H _ I h) fun us s1 ⟨vs,H1,I1,r1,q1⟩=>?_) hs hp2))
 obtain⟨l,m,ks,ys,rfl,hqa,hqb,hl,hn,q⟩:=q1
 obtain⟨u1,u2,rfl,r1,r2⟩:=vals2 r1
 cases r1
 cases r2
 obtain⟨its,rv,pa,_⟩:=I1.list hqa
 obtain⟨jts,rw',pb,_⟩:=I1.list hqb
 have a1:l<s1.heap.objs.size:=by obtain⟨_,e,_⟩:=pa.isList;exact ak e
 have a2:m<s1.heap.objs.size:=by obtain⟨_,e,_⟩:=pb.isList;exact ak e
 refine call_zip_2 pa.isList pb.isList fun h' hz hTI hTO hi1 hi2 _ hk=>?_
 refine Calls.spliced_nil ?_
 have I2:=I1.kept (t':=s1.toks) hk
 refine call_dictZL hc hu I2 (zipApart_new a1 a2) ⟨⟨_,_,.inl rfl,hz⟩,hTI,⟨_,_,hTO⟩,hi1,hi2⟩ (fun c hc=>?_) hqa hqb hl hn q
 have hb:c=s1.heap.objs.size+4∨c=s1.heap.objs.size+2∨c=s1.heap.objs.size+3∨c=s1.heap.objs.size∨c=s1.heap.objs.size+1:=by simpa using hc
 have hle:s1.heap.objs.size<=c:=by rcases hb with e | e | e | e | e <;> rw[e] <;> first | exact ae _ | exact Nat.le_add_right _ _
 exact I1.fpOk hle (I1.hok.fresh hle)
end L2
namespace L2
open PySem
theorem idxAt {os:List Str}(nd:os.Nodup) {j:Nat}{s:Str}(h:os[j]? = some s):os.idxOf s=j:=by
 have hj:=(af.mp h).1
 have hm:=aj h
 have hi:=aR hm
 have e:os[os.idxOf s]? = some s:=by rw[ar hi,List.getElem_idxOf]
 exact((bH hj nd).mp (h.trans e.symm)).symm
theorem atIdx {os:List Str}{s:Str}(hm:s∈os):os[os.idxOf s]? = some s:=by
 have hi:=aR hm
 rw[ar hi,List.getElem_idxOf]
theorem getDIdx {os:List Str}{s:Str}(hm:s∈os):os.getD (os.idxOf s) ""=s:=by rw[aD,atIdx hm];rfl
theorem plc_idx {os A:List Str}(sub:∀x∈A,x∈os) {x:Str}(hx:x∈A):os.idxOf x∈plc os A :=
 am.mpr ⟨bo.mpr (aR (sub x hx)),ao (by rw[getDIdx (sub x hx)];exact hx)⟩
theorem map_nd {α β:Type}{l:List α}{f:α->β}(nd:l.Nodup) (inj:∀x∈l,∀y∈l,f x=f y->x=y):(l.map f).Nodup:=by
 rw[List.Nodup,cn]
 exact List.Pairwise.imp_of_mem (fun {a b} ha hb hab z=>hab (inj a ha b hb z)) nd
theorem plc_perm {os A:List Str}(ond:os.Nodup) (and_:A.Nodup) (sub:∀x∈A,x∈os):(A.map fun x=>os.idxOf x).Perm (plc os A):=by
 refine perm_of (map_nd and_ fun x hx y hy e=>?_) (fun k hk=>?_) (by rw[aa,plc_len ond and_ sub];exact ae _)
 ·have:=getDIdx (sub x hx)
  rw[e,getDIdx (sub y hy)] at this
  exact this.symm
 ·obtain⟨x,hx,rfl⟩:=ap.mp hk
  exact plc_idx sub hx
theorem olds_eq {os A:List Str}(ond:os.Nodup) (and_:A.Nodup) (sub:∀x∈A,x∈os) {ns:List Int}(hp:ns.Perm (A.map fun x=>((os.idxOf x:Nat):Int))) (ho:ns.Pairwise (·<=·)):ns=(plc os A).map fun k:Nat=>(k:Int):=by
 have e:(A.map fun x=>((os.idxOf x:Nat):Int))=(A.map fun x=>os.idxOf x).map fun k:Nat=>(k:Int):=by rw[aM];rfl
 rw[e] at hp
 refine List.Perm.eq_of_pairwise (le:=(·<=·)) (fun a b _ _ h1 h2=>Int.le_antisymm h1 h2) ho ?_ (hp.trans ((plc_perm ond and_ sub).map _))
 rw[cn]
 refine List.Pairwise.imp ?_ ((cE (n:=os.length)).filter _)
 intro a b h
 omega
def newP (os A:List Str) (k:Nat):Nat:=(plc os A).getD (A.idxOf (os.getD k "")) 0
def mvs (os A:List Str):List (Str × Nat × Nat):=(plc os A).map fun k=>(os.getD k "",k,newP os A k)
theorem newP_at {os A:List Str}(ond:os.Nodup) (and_:A.Nodup) (sub:∀x∈A,x∈os) {k:Nat}(hk:k∈plc os A):(plc os A)[A.idxOf (os.getD k "")]? = some (newP os A k)/\A[A.idxOf (os.getD k "")]? = some (os.getD k ""):=by
 have hx:=plc_in hk
 have hi:=aR hx
 refine⟨?_,atIdx hx⟩
 unfold newP
 rw[aD (l:=plc os A),ar (by rw[plc_len ond and_ sub];exact hi)];rfl
theorem mv_mem {os A:List Str}(ond:os.Nodup) (and_:A.Nodup) (sub:∀x∈A,x∈os) (k:Nat) (x:Str):(k,x)∈(mvs os A).map (fun m=>(m.2.2,m.1)) ↔ (k,x)∈(plc os A).zip A:=by
 constructor
 ·intro h
  obtain⟨m,hm,e⟩:=ap.mp h
  obtain⟨j,hj,rfl⟩:=ap.mp hm
  obtain⟨a,b⟩:=newP_at ond and_ sub hj
  have e1:newP os A j=k:=congrArg Prod.fst e
  have e2:os.getD j ""=x:=congrArg Prod.snd e
  rw[e1] at a
  rw[e2] at a b
  exact aj (i:=A.idxOf x) (by rw[cp];exact⟨a,b⟩)
 ·intro h
  obtain⟨i,hi⟩:=aH h
  obtain⟨h1,h2⟩:=cp.mp hi
  have hx:=aj h2
  have hp:=plc_idx sub hx
  refine ap.mpr ⟨(os.getD (os.idxOf x) "",os.idxOf x,newP os A (os.idxOf x)),ap.mpr ⟨_,hp,rfl⟩,?_⟩
  have e:=getDIdx (sub x hx)
  obtain⟨a,_⟩:=newP_at ond and_ sub hp
  rw[e,idxAt and_ h2] at a
  have:=ai (a.symm.trans h1)
  show (newP os A (os.idxOf x),os.getD (os.idxOf x) "")=(k,x)
  rw[this,e]
theorem mv_keys {os A:List Str}(ond:os.Nodup) (and_:A.Nodup) (sub:∀x∈A,x∈os):(((mvs os A).map (fun m=>(m.2.2,m.1))).map (·.1)).Nodup:=by
 have e:((mvs os A).map (fun m=>(m.2.2,m.1))).map (·.1)=(plc os A).map (newP os A):=by unfold mvs;rw[aM,aM];rfl
 rw[e]
 refine map_nd (plc_nd os A) fun x hx y hy e=>?_
 obtain⟨a1,a2⟩:=newP_at ond and_ sub hx
 obtain⟨b1,b2⟩:=newP_at ond and_ sub hy
 rw[e] at a1
 have hl:=(af.mp a1).1
 have ij:=(bH hl (plc_nd os A)).mp (a1.trans b1.symm)
 rw[ij] at a2
 have ee:=ai (a2.symm.trans b2)
 have gx:os[x]? = some (os.getD x ""):=by rw[aD,ar (plc_lt hx)];rfl
 have gy:os[y]? = some (os.getD y ""):=by rw[aD,ar (plc_lt hy)];rfl
 rw[ee] at gx
 exact(bH (plc_lt hx) ond).mp (gx.trans gy.symm)
theorem setAll_ext {r:List Str}{ps qs:List (Nat × Str)}(n1:(ps.map (·.1)).Nodup) (n2:(qs.map (·.1)).Nodup) (h:∀k x, (k, x) ∈ ps ↔ (k, x) ∈ qs):setAll r ps=setAll r qs := by
 apply List.ext_getElem?
 intro k
 by_cases hk:k<r.length
 ·by_cases q:k ∈ ps.map (·.1)
  ·obtain⟨⟨k',x⟩,hm,e⟩:=ap.mp q
   have e:k'=k:=e
   subst e
   rw[setAll_in ps r k' x n1 hm hk,setAll_in qs r k' x n2 ((h _ _).mp hm) hk]
  ·have q2:k∉qs.map (·.1):=fun z=>by
      obtain⟨⟨k',x⟩,hm,e⟩:=ap.mp z
      have e:k'=k:=e
      subst e
      exact q (ap.mpr ⟨_,(h _ _).mpr hm,rfl⟩)
   rw[setAll_out _ _ _ q,setAll_out _ _ _ q2]
 ·rw[cq (by rw[setAll_len];omega),cq (by rw[setAll_len];omega)]
theorem moved_eq {os A:List Str}(ond:os.Nodup) (and_:A.Nodup) (sub:∀x∈A,x∈os):setAll os ((mvs os A).map (fun m=>(m.2.2,m.1)))=laidL os A:=by
 unfold laidL
 refine setAll_ext (mv_keys ond and_ sub) ?_ (mv_mem ond and_ sub)
 rw[zip_keys (by rw[plc_len ond and_ sub];exact ae _)]
 exact plc_nd os A
theorem laid_idx {os A:List Str}(ond:os.Nodup) (and_:A.Nodup) (sub:∀x∈A,x∈os) {k:Nat}(hk:k∈plc os A):(laidL os A).idxOf (os.getD k "")=newP os A k:=by
 obtain⟨a,b⟩:=newP_at ond and_ sub hk
 have lnd:(laidL os A).Nodup:=(laid_perm ond and_ sub).nodup_iff.mpr ond
 refine idxAt lnd ?_
 have hp:=aj a
 unfold laidL
 refine setAll_in _ _ _ _ ?_ ?_ (plc_lt hp)
 ·rw[zip_keys (by rw[plc_len ond and_ sub];exact ae _)];exact plc_nd os A
 ·exact aj (i:=A.idxOf (os.getD k "")) (by rw[cp];exact⟨a,b⟩)
theorem plc_up (os A:List Str):(plc os A).Pairwise (·<·):=(cE (n:=os.length)).filter _
section
variable {os A B:List Str}(ond:os.Nodup) (cnd:(A++B).Nodup) (sub:∀x∈A++B,x∈os)
theorem laid_new {i:Nat}{x:Str}(h:(A++B)[i]? = some x) (ond:os.Nodup) (cnd:(A++B).Nodup) (sub:∀x∈A++B,x∈os):(plc os (A++B))[i]? = some ((laidL os (A++B)).idxOf x):=by
 have hx:=aj h
 have hk:=plc_idx sub hx
 have g:=getDIdx (sub x hx)
 have e:=laid_idx ond cnd sub hk
 rw[g] at e
 obtain⟨a,_⟩:=newP_at ond cnd sub hk
 rw[g,idxAt cnd h] at a
 rw[e];exact a
theorem laid_out {x:Str}(hx:x∈os) (hn:x∉A++B) (ond:os.Nodup) (cnd:(A++B).Nodup) (sub:∀x∈A++B,x∈os):(laidL os (A++B)).idxOf x=os.idxOf x:=by
 have hk:=aR hx
 rcases laid_at ond cnd sub hk with⟨i,y,h1,h2,h3⟩ | ⟨_,h2,_⟩
 ·exact absurd (getDIdx hx ▸ plc_in (aj h1)) hn
 ·refine idxAt ((laid_perm ond cnd sub).nodup_iff.mpr ond) ?_
  rw[h2];exact atIdx hx
theorem laid_lt {i j:Nat}{x y:Str}(hi:(A++B)[i]? = some x) (hj:(A++B)[j]? = some y) (hij:i<j) (ond:os.Nodup) (cnd:(A++B).Nodup) (sub:∀x∈A++B,x∈os):(laidL os (A++B)).idxOf x<(laidL os (A++B)).idxOf y:=by
 have a:=laid_new hi ond cnd sub
 have b:=laid_new hj ond cnd sub
 obtain⟨h1,e1⟩:=af.mp a
 obtain⟨h2,e2⟩:=af.mp b
 have:=bj.mp (plc_up os (A++B)) i j h1 h2 hij
 rw[e1,e2] at this
 exact this
theorem laid_mem {x:Str}(hx:x∈A++B) (ond:os.Nodup) (cnd:(A++B).Nodup) (sub:∀x∈A++B,x∈os):∃y∈A++B,(laidL os (A++B)).idxOf x=os.idxOf y:=by
 obtain⟨i,hi⟩:=aH hx
 have a:=aj (laid_new hi ond cnd sub)
 refine⟨_,plc_in a,?_⟩
 have hl:=plc_lt a
 exact(idxAt ond (by rw[aD,ar hl];rfl)).symm
theorem idx_inj {x y:Str}(hx:x∈os) (hy:y∈os) (h:os.idxOf x=os.idxOf y):x=y:=by rw[<- getDIdx hx,h,getDIdx hy]
theorem laid_down (oA:A.Pairwise fun x y => os.idxOf x<os.idxOf y) {x:Str}(hx:x ∈ A) (ond:os.Nodup) (cnd:(A ++ B).Nodup) (sub:∀x ∈ A ++ B, x ∈ os):(laidL os (A ++ B)).idxOf x <= os.idxOf x := by
 obtain⟨i,hi⟩:=aH hx
 have hil:=(af.mp hi).1
 have hi2:(A++B)[i]? = some x:=by rw[bc hil];exact hi
 have a:=laid_new hi2 ond cnd sub
 obtain⟨h1,e1⟩:=af.mp a
 refine bX fun hlt=>?_
 have key:((A.take (i+1)).map os.idxOf).length <= ((plc os (A ++ B)).take i).length := by
  refine List.Nodup.length_le_of_subset (map_nd ((bn.mp cnd).1.sublist (bF _ _)) fun u hu v hv e=>idx_inj (sub u (aU _ (bO hu))) (sub v (aU _ (bO hv))) e) fun k hk=>?_
  obtain⟨u,hu,rfl⟩:=ap.mp hk
  have huA:=bO hu
  have hle:os.idxOf u<=os.idxOf x:=by
   obtain⟨j,hj⟩:=aH hu
   have hjl:=(af.mp hj).1
   rw[av] at hjl
   rw[bu (by omega)] at hj
   by_cases z:j=i
   ·subst z;rw[hi] at hj;cases hj;exact ae _
   ·obtain⟨g1,g2⟩:=af.mp hj
    obtain⟨g3,g4⟩:=af.mp hi
    have:=bj.mp oA j i g1 g3 (by omega)
    rw[g2,g4] at this
    omega
  have hp:=plc_idx sub (aU B huA)
  obtain⟨m,hm⟩:=aH hp
  obtain⟨m1,m2⟩:=af.mp hm
  have hmi:m<i:=by
   refine bz fun z=>?_
   rcases cr z with z | z
   ·have:=bj.mp (plc_up os (A++B)) i m h1 m1 z
    rw[e1,m2] at this
    omega
   ·subst z
    rw[e1] at m2
    omega
  exact aj (i:=m) (by rw[bu hmi];exact hm)
 rw[aa,av,av] at key
 omega
theorem laid_up (oB:B.Pairwise fun x y => os.idxOf x<os.idxOf y) {x:Str}(hx:x ∈ B) (ond:os.Nodup) (cnd:(A ++ B).Nodup) (sub:∀x ∈ A ++ B, x ∈ os):os.idxOf x <= (laidL os (A ++ B)).idxOf x := by
 obtain⟨i,hi⟩:=aH hx
 have hil:=(af.mp hi).1
 have hi2:(A++B)[A.length+i]? = some x:=by rw[br (by omega),ci];exact hi
 have a:=laid_new hi2 ond cnd sub
 obtain⟨h1,e1⟩:=af.mp a
 have pl:=plc_len ond cnd sub
 rw[aG] at pl
 refine bX fun hlt=>?_
 have key:((B.drop i).map os.idxOf).length <= ((plc os (A ++ B)).drop (A.length+i+1)).length := by
  refine List.Nodup.length_le_of_subset (map_nd ((bn.mp cnd).2.1.sublist (bP _ _)) fun u hu v hv e=>idx_inj (sub u (aJ _ (bQ hu))) (sub v (aJ _ (bQ hv))) e) fun k hk=>?_
  obtain⟨u,hu,rfl⟩:=ap.mp hk
  have huB:=bQ hu
  have hle:os.idxOf x<=os.idxOf u:=by
   obtain⟨j,hj⟩:=aH hu
   rw[bI] at hj
   by_cases z:j=0
   ·subst z
    have hj:B[i]? = some u:=hj
    rw[hi] at hj;cases hj;exact ae _
   ·obtain⟨g1,g2⟩:=af.mp hj
    obtain⟨g3,g4⟩:=af.mp hi
    have:=bj.mp oB i (i+j) g3 g1 (by omega)
    rw[g2,g4] at this
    omega
  have hp:=plc_idx sub (aJ A huB)
  obtain⟨m,hm⟩:=aH hp
  obtain⟨m1,m2⟩:=af.mp hm
  have hmi:A.length+i<m:=by
   refine bz fun z=>?_
   rcases cr z with z | z
   ·have:=bj.mp (plc_up os (A++B)) m (A.length+i) m1 h1 z
    rw[e1,m2] at this
    omega
   ·subst z
    rw[e1] at m2
    omega
  refine aj (i:=m-(A.length+i+1)) ?_
  rw[bI,show A.length+i+1+(m-(A.length+i+1))=m by omega]
  exact hm
 rw[aa,bv,bv] at key
 omega
end
theorem laid_keeps {os A B:List Str}(ond:os.Nodup) (cnd:(A ++ B).Nodup) (sub:∀x ∈ A ++ B, x ∈ os) (oA:A.Pairwise fun x y => os.idxOf x<os.idxOf y) (oB:B.Pairwise fun x y => os.idxOf x<os.idxOf y) {lo hi:Nat}
    (hin:∀x∈A++B,lo<=os.idxOf x/\os.idxOf x<=hi) {x y:Str} (hx:x∈os) (hy:y∈os) (hxy:os.idxOf x<os.idxOf y)
    (cA:y∈A->lo<=os.idxOf x->x∈A) (cB:x∈B->os.idxOf y<=hi->y∈B) (cN:¬ (x∈B/\y∈A)):(laidL os (A++B)).idxOf x<(laidL os (A++B)).idxOf y:=by
 have pos:∀ {l:List Str} {u v:Str},l.Pairwise (fun x y=>os.idxOf x<os.idxOf y)->u∈l->v∈l->os.idxOf u<os.idxOf v->∃i j,i<j/\l[i]? = some u/\l[j]? = some v:=fun {l u v} pw hu hv huv=>by
  obtain⟨i,hi⟩:=aH hu
  obtain⟨j,hj⟩:=aH hv
  obtain⟨i1,i2⟩:=af.mp hi
  obtain⟨j1,j2⟩:=af.mp hj
  refine⟨i,j,bz fun z=>?_,hi,hj⟩
  rcases cr z with z | z
  ·have:=bj.mp pw j i j1 i1 z
   rw[i2,j2] at this
   omega
  ·subst z;rw[hi] at hj;cases hj;omega
 have inL:∀ {i:Nat} {u:Str},A[i]? = some u->(A++B)[i]? = some u:=fun {i u} h=>by rw[bc (af.mp h).1];exact h
 have inR:∀ {i:Nat} {u:Str},B[i]? = some u->(A++B)[A.length+i]? = some u:=fun {i u} h=>by rw[br (by omega),ci];exact h
 by_cases xA:x∈A
 ·by_cases yA:y ∈ A
  ·obtain⟨i,j,hij,h1,h2⟩:=pos oA xA yA hxy
   exact laid_lt (inL h1) (inL h2) hij ond cnd sub
  ·by_cases yB:y∈B
   ·obtain⟨i,h1⟩:=aH xA
    obtain⟨j,h2⟩:=aH yB
    have:=(af.mp h1).1
    exact laid_lt (inL h1) (inR h2) (by omega) ond cnd sub
   ·have h1:=laid_down (B:=B) oA xA ond cnd sub
    rw[laid_out hy (fun z=>(aq.mp z).elim yA yB) ond cnd sub]
    omega
 ·by_cases xB:x ∈ B
  ·by_cases yA:y ∈ A
   ·exact absurd ⟨xB,yA⟩ cN
   ·by_cases yB:y∈B
    ·obtain⟨i,j,hij,h1,h2⟩:=pos oB xB yB hxy
     exact laid_lt (inR h1) (inR h2) (by omega) ond cnd sub
    ·have hyh:hi<os.idxOf y:=bz fun z=>yB (cB xB z)
     obtain⟨u,hu,eu⟩:=laid_mem (aJ A xB) ond cnd sub
     have:=(hin u hu).2
     rw[laid_out hy (fun z=>(aq.mp z).elim yA yB) ond cnd sub]
     omega
  ·rw[laid_out hx (fun z => (aq.mp z).elim xA xB) ond cnd sub]
   by_cases yA:y∈A
   ·have hxl:os.idxOf x<lo:=bz fun z=>xA (cA yA z)
    obtain⟨u,hu,eu⟩:=laid_mem (aU B yA) ond cnd sub
    have:=(hin u hu).1
    omega
   ·by_cases yB:y∈B
    ·have:=laid_up (A:=A) oB yB ond cnd sub
     omega
    ·rw[laid_out hy (fun z=>(aq.mp z).elim yA yB) ond cnd sub]
     exact hxy
end L2
namespace L2
open PySem PySem.Spec PyProof.Rows
def XF (B:Heap) (l:List Env) (a:Addr) (c:Value) (dd:Option Addr) (fl:Value) (h:Heap):Prop :=
 B.StaysIn h/\B.get? a=none/\h.FunFrames B l/\∃o vs T p ts,h.get? a=some o/\o.cls=c/\o.dict=dd/\o.data=.fields vs/\vs[1]? = some (.ref T)/\B.get? T=none/\T≠a/\h.get? T=some p/\p.data=.fields ts/\ts[3]? = some fl
theorem XF.there {B:Heap}{l:List Env}{a:Addr}{c fl:Value}{dd:Option Addr}{h:Heap}(x:XF B l a c dd fl h):∃o,h.get? a=some o/\o.cls=c/\o.dict=dd:=by
 obtain⟨_,_,_,o,_,_,_,_,e,k1,k2,_⟩:=x
 exact⟨o,e,k1,k2⟩
theorem XF.rec {B:Heap}{l:List Env}{a:Addr}{c fl:Value}{dd:Option Addr}{h:Heap}(x:XF B l a c dd fl h):∃o vs,h.get? a=some o/\o.data=.fields vs:=by
 obtain⟨_,_,_,o,vs,_,_,_,e,_,_,k,_⟩:=x
 exact⟨o,vs,e,k⟩
theorem XF.out {B:Heap}{e0:Env}{l:List Env}{a:Addr}{c fl:Value}{dd:Option Addr}{h:Heap}(x:XF B (e0::l) a c dd fl h):XF B l a c dd fl h:=⟨x.1,x.2.1,x.2.2.1.2.2,x.2.2.2⟩
theorem dict_map (f:Array Value->Array Value) (o:Obj):(Obj.mapFields f o).dict=o.dict:=by
 unfold Obj.mapFields
 split <;> rfl
section
variable {M:Model}{A:Around}{E:Value->Shared->Prop}{s:Shared}{B:Heap}{e0:Env}{out:List Env}{a L:Addr}{Q:Unit->Shared->Prop}
theorem entryX {o:Obj}{vs:Array Value}{hd:Value}{b0:Bool}(fr:A.frames=some (e0 :: out)) (ff:s.heap.FunFrames B (e0 :: out)) (fL:e0.frame=some L) (ea:s.heap.get? a=some o) (st:B.StaysIn s.heap) (na:B.get? a=none) (dv:o.data=.fields vs) (n1:1<vs.size)
    (k:∀h',XF B (e0::out) a o.cls o.dict (rawInt L) h'->s.heap.UpToSlots h'->Q () { s with heap:=h' }) :
    wpAny M A (do let f ← frameOf e0;let pl ← entryPlaceOf L b0;let b ← EntryCells.newEntry hd f .none (rawInt L) .none pl;setField (.ref a) 1 b) Q E s:=by
 have nf:a∉(e0::out).filterMap (·.frame):=fun z=>by
  obtain⟨_,p,ep,q⟩:=ff.mem z
  exact q vs (ai (ea.symm.trans ep) ▸ dv)
 refine ad (wpAny_frameOf_fun fr ff fL fun g1 so=>ad (wpAny_entryPlaceOf fun pl ip=>?_))
 unfold EntryCells.newEntry newFields
 refine ad (wpAny_newObj_type ?_ (ip.sizeOk5 _ _ _ _ _))
 generalize ep:([hd,Value.ref L,Value.none,rawInt L,Value.none]++(if pl.isEmpty then List.replicate 6 Value.none else pl)).toArray=tv
 have t3:tv[3]? = some (rawInt L):=by rw[<- ep];first | (simp;done) | (rcases ip with rfl | ⟨_,_,_,_,_,_,_,rfl⟩ <;> simp)
 have e1:g1.get? a=some o:=(so.2.1 a nf).trans ea
 have e2:=ay (h:=g1) { cls:=.type "traceback",dict:=none,data:=.fields tv } e1
 have nT:g1.objs.size≠a:=bJ (ak e1)
 have dm:=Obj.data_mapFields dv (·.setIfInBounds 1 (Value.ref g1.objs.size))
 have ot:∀b p,b≠a->g1.get? b=some p->((g1.push { cls:=.type "traceback",dict:=none,data:=.fields tv }).update a (Obj.mapFields (·.setIfInBounds 1 (Value.ref g1.objs.size)))).get? b=some p:=fun b p nb eb=>by
  rw[bV _ _ (Ne.symm nb)]
  exact ay _ eb
 have up:s.heap.UpToSlots ((g1.push { cls:=.type "traceback",dict:=none,data:=.fields tv }).update a (Obj.mapFields (·.setIfInBounds 1 (Value.ref g1.objs.size)))):=fun b p eb q=>by
  obtain⟨sl,es⟩:=so.2.2 b p eb
  exact⟨sl,ot b _ (fun z=>q vs (ai (ea.symm.trans (z ▸ eb)) ▸ dv)) es⟩
 refine wpAny_setField e2 dv n1 (k _ ?_ ?_)
 ·have sg:B.StaysIn g1:=fun b p eb=>(so.2.1 b fun z=>by have:=(ff.mem z).1;rw[eb] at this;cases this).trans (st b p eb)
  refine⟨fun b p eb=>ot b p (fun z=>by rw[z,na] at eb;cases eb) (sg b p eb),na,ff.of_keeps fun b p eb q=>?_,_,_,g1.objs.size,{ cls:=.type "traceback",dict:=none,data:=.fields tv },tv,bU _ e2 (Obj.isFreed_of_fields dm),Obj.cls_mapFields _ _,dict_map _ _,dm,by simp[n1],sg.fresh,nT,?_,rfl,t3⟩
  ·obtain⟨sl,es⟩:=up b p eb q
   exact⟨_,es,rfl⟩
  ·rw[bV _ _ (Ne.symm nT)]
   exact aF g1 rfl
 ·exact up
theorem flightX {c fl x:Value}{dd:Option Addr}{l:List Env}(X:XF B l a c dd fl s.heap):∃T p ts,(∀h',h'=s.heap.update T (Obj.mapFields (·.setIfInBounds 3 x))->XF B l a c dd x h'/\s.heap.UpToSlots h') /\
    s.heap.get? T=some p/\p.data=.fields ts/\ts[3]? = some fl/\∃o vs,s.heap.get? a=some o/\o.data=.fields vs/\vs[1]? = some (.ref T):=by
 obtain⟨st,na,ff,o,vs,T,p,ts,ea,k1,k2,dv,v1,nT,ne,eT,dT,t3⟩:=X
 have l3:3<ts.size:=(cu.mp t3).1
 refine⟨T,p,ts,fun h' e=>?_,eT,dT,t3,o,vs,ea,dv,v1⟩
 have ot:∀b,b≠T->h'.get? b=s.heap.get? b:=fun b nb=>by rw[e];exact bV _ _ (Ne.symm nb)
 have up:s.heap.UpToSlots h':=fun b u eb q=>⟨u.slots,(ot b fun z=>q ts (ai (eT.symm.trans (z ▸ eb)) ▸ dT)).trans eb⟩
 refine⟨⟨fun b u eb=>(ot b fun z=>by rw[z,nT] at eb;cases eb).trans (st b u eb),na,ff.of_keeps fun b u eb q=>?_,o,vs,T,Obj.mapFields (·.setIfInBounds 3 x) p,ts.setIfInBounds 3 x,(ot a (Ne.symm ne)).trans ea,k1,k2,dv,v1,nT,ne,?_,Obj.data_mapFields dT _,by simp[l3]⟩,up⟩
 ·obtain⟨sl,es⟩:=up b u eb q
  exact⟨_,es,rfl⟩
 ·rw[e]
  exact bU _ eT (Obj.isFreed_of_fields (Obj.data_mapFields dT _))
theorem landX {c fl:Value}{dd:Option Addr}{l:List Env}(X:XF B l a c dd fl s.heap) (k:∀h',XF B l a c dd .none h'->s.heap.UpToSlots h'->Q () { s with heap:=h' }):wpAny M A (setFlight (.ref a) none) Q E s:=by
 obtain⟨T,p,ts,z,eT,dT,t3,o,vs,ea,dv,v1⟩:=flightX (x:=.none) X
 unfold setFlight
 refine ad (aX ea dv v1 ?_)
 rw[if_pos (show (Value.ref T != Value.none)=true by simp)]
 obtain⟨z1,z2⟩:=z _ rfl
 exact wpAny_setField eT dT (cu.mp t3).1 (k _ z1 z2)
theorem noteX {c:Value}{dd:Option Addr}(fr:A.frames=some (e0::out)) (fL:e0.frame=some L) (X:XF B (e0::out) a c dd .none s.heap)
    (k:∀h',XF B (e0::out) a c dd (rawInt L) h'->s.heap.UpToSlots h'->Q () { s with heap:=h' }):wpAny M A (noteFrame (.ref a) e0) Q E s:=by
 obtain⟨T,p,ts,z,eT,dT,t3,o,vs,ea,dv,v1⟩:=flightX (x:=.none) X
 unfold noteFrame
 simp only[fL]
 refine ad (aX ea dv v1 ?_)
 rw[if_pos (show (Value.ref T != Value.none)=true by simp)]
 refine ad (aX eT dT t3 ?_)
 rw[if_neg (show ¬ ((Value.none==rawInt L)=true) by simp[rawInt])]
 obtain⟨z1,z2⟩:=z _ rfl
 refine ad (wpAny_setField eT dT (cu.mp t3).1 ?_)
 obtain⟨q1,q2,q3,o',vs',T',p',ts',g1,g2,g3,g4,g5,_⟩:=z1
 subst g2 g3
 exact entryX (s:={ s with heap:=s.heap.update T (Obj.mapFields (·.setIfInBounds 3 Value.none)) }) fr q3 fL g1 q1 q2 g4 (cu.mp g5).1 fun h' x y=>k h' x (z2.trans y)
theorem leaveX {c:Value}{dd:Option Addr}(fr:A.frames=some (e0::out)) (fL:e0.frame=some L) (X:XF B (e0::out) a c dd .none s.heap)
    (k:∀h',XF B out a c dd .none h'->s.heap.UpToSlots h'->Q () { s with heap:=h' }):wpAny M A (leaving e0 (.ref a)) Q E s:=by
 unfold leaving
 refine ad (noteX fr fL X fun h' x y=>?_)
 exact landX (s:={ s with heap:=h' }) x fun h2 x2 y2=>k h2 x2.out (y.trans y2)
theorem leaveX0 {o:Obj}{vs:Array Value}(fr:A.frames=some (e0::out)) (ff:s.heap.FunFrames B (e0::out)) (fL:e0.frame=some L) (ea:s.heap.get? a=some o) (st:B.StaysIn s.heap) (na:B.get? a=none) (dv:o.data=.fields vs) (v1:vs[1]? = some .none)
    (k:∀h',XF B out a o.cls o.dict .none h'->s.heap.UpToSlots h'->Q () { s with heap:=h' }):wpAny M A (leaving e0 (.ref a)) Q E s:=by
 unfold leaving noteFrame
 simp only[fL]
 refine ad (ad (aX ea dv v1 ?_))
 rw[if_neg (by decide)]
 refine entryX fr ff fL ea st na dv (cu.mp v1).1 fun h' x y=>?_
 exact landX (s:={ s with heap:=h' }) x fun h2 x2 y2=>k h2 x2.out (y.trans y2)
end
theorem ObjOk.obj {P:Program}{w:World}{H:Hp}{h:Heap}{a:Addr}{o:HO}(x:ObjOk P w H h a o):∃ob,h.get? a=some ob:=by
 cases o with
 | lst xs=>obtain⟨_,_,_,_,e⟩:=x;exact⟨_,e⟩
 | tup xs=>obtain⟨_,_,_,ob,e,_⟩:=x;exact⟨_,e⟩
 | dK kvs=>obtain⟨_,_,_,_,o,_,_,e,_⟩:=x;exact⟨_,e⟩
 | dT kvs=>obtain⟨_,_,_,_,o,_,_,e,_⟩:=x;exact⟨_,e⟩
 | set S n=>obtain⟨o,_,_,_,e,_⟩:=x;exact⟨_,e⟩
 | ins C dx fs=>obtain⟨_,_,_,e,_⟩:=x;exact⟨_,e⟩
 | own y=>obtain⟨_,e⟩:=x;exact⟨_,e⟩
 | xd fs=>obtain⟨_,⟨_,_,_,e,_⟩,_⟩:=x;exact⟨_,e⟩
 | rng lo hi=>obtain⟨_,_,_,e⟩:=x;exact⟨_,e⟩
 | frz ob u=>obtain⟨e,_⟩:=x;exact⟨_,e⟩
 | tbl ps=>exact⟨_,(show h.get? a=some _ from x)⟩
 | met f y=>exact⟨_,(show h.get? a=some _ from x)⟩
 | ext φ=>obtain⟨_,e,_⟩:=x;exact e
def CX1 (P:Program) (w:World):CXT:=fun outer H s E e s' =>
 ∃(a:Addr) (cls:Value) (dd:Option Addr) (B:Heap) (H':Hp),e=.ref a/\s'.os=s.os/\AllBare s'.gens/\Un (frs outer) [] H H' s.heap s'.heap/\HOk P w H' s'.heap/\XF B outer a cls dd .none s'.heap/\H' a=none /\
  (∀b u,H' b=some u->∃o,s'.heap.get? b=some o/\B.get? b=some o)/\(∀b o,s.heap.get? b=some o->H b=none->b∉frs outer->B.get? b=some o)/\(∀b o,s.heap.get? b=some o->b∉frs outer->∃o',B.get? b=some o')/\E cls dd H'
theorem pass1 {P:Program}{w:World}{K:W.Frag}{mg:Str -> Option Value}{base:Heap}{N:List Str}{qual:Str}{scope:Scope}{f:Addr}{cd:Value}{A:Around}{outer:List Env}{s:Shared}{H:Hp}{E:XK} :
    Passes (CX1 P w) (cxOf (CX1 P w) P w K mg base N qual scope f cd A outer s H E) E:=by
 intro pins σ Hc sc e s' I h
 obtain⟨a,cls,dd,B,H',rfl,os,bare,un,hok,fl,hna,TB,KB,AB,q⟩:=h
 obtain⟨v,H2,J,_,rfl⟩:=I.after (Q:=fun _ H2=>H'=H2) (u:=.none) ⟨.non,H',os,bare,un,hok,rfl,rfl⟩
 show wpAny (model P w) (A.deeper (envOfC qual scope s.heap.objs.size f cd)) (leaving (envOfC qual scope s.heap.objs.size f cd) (.ref a)) (fun _ s''=>CX1 P w outer H s E (.ref a) s'') (fun e' s''=>CX1 P w outer H s E e' s'') s'
 refine leaveX (out:=outer) (L:=s.heap.objs.size) I.ok.frames rfl fl fun h2 x1 x2=>?_
 have old:∀b o,s.heap.get? b=some o->H b=none->b∉frs outer->B.get? b=some o:=fun b o q n hb=>by
  have e1:sc.heap.get? b=some o:=I.base.keep b o q n hb (by intro z;cases z)
  have e2:Hc b=none:=I.base.free b o q n (by intro z;cases z)
  refine KB b o e1 e2 fun z=>?_
  rcases ax.mp (I.stkSub b z) with r | r
  ·have r:b=s.heap.objs.size:=r
   exact absurd (r ▸ ak q) (bq _)
  ·exact hb r
 have notL:∀b o,s.heap.get? b=some o->b∉frs outer->b∉frs (envOfC qual scope s.heap.objs.size f cd::outer):=fun b o q hb z=>by
  rcases ax.mp (I.stkSub b z) with r | r
  ·have r:b=s.heap.objs.size:=r
   exact absurd (r ▸ ak q) (bq _)
  ·exact hb r
 have exi:∀b o,s.heap.get? b=some o->b∉frs outer->∃o',B.get? b=some o':=fun b o q hb=>by
  obtain⟨oc,ec⟩:=I.base.there b o q (by intro z;cases z)
  exact AB b oc ec (notL b o q hb)
 refine⟨a,cls,dd,B,H',rfl,J.os,bare,?_,fun c o e=>(hok c o e).stay (fun d u hd q'=>?_) (fun _ z=>z) fun _ _ z=>z,x1,hna,fun b u e=>?_,old,exi,q⟩
 ·refine⟨fun b o q n hb hx => x1.1 b o (old b o q n hb), fun b o q n hb hx => ?_, fun b o q n hx => J.base.free b o q n hx, fun b o q hx => ?_, J.base.tups, J.base.frzs, J.base.tbls⟩
  ·obtain⟨sl,e1⟩:=J.base.slot b o q n hb hx
   obtain⟨_,o1,g1,g2⟩:=(I.ok.funs.mem hb)
   have:o1=o:=ai (g1.symm.trans q)
   subst this
   obtain⟨sl2,e2⟩:=x2 b _ e1 (by intro vs z;exact g2 vs z)
   exact⟨sl2,e2⟩
  ·by_cases hb:b∈frs outer
   ·obtain⟨_,o1,g1,_⟩:=x1.2.2.1.mem hb
    exact⟨_,g1⟩
   ·obtain⟨o',e1⟩:=exi b o q hb
    exact⟨o',x1.1 b o' e1⟩
 ·have tr:∃z,H' d=some z:=by
     rcases hd with r | r
     ·exact⟨_,r ▸ e⟩
     ·exact⟨_,r⟩
  obtain⟨z,hz⟩:=tr
  obtain⟨o1,e1,e2⟩:=TB d z hz
  have:u=o1:=ai (q'.symm.trans e1)
  rw[this]
  exact x1.1 d o1 e2
 ·obtain⟨o1,e1,e2⟩:=TB b u e
  exact⟨o1,x1.1 b o1 e2,e2⟩
theorem raiseG {P:Program}{w:World}{K:W.Frag}{mg:Str -> Option Value}{base:Heap}{N:List Str}{qual:Str}{scope:Scope}{f:Addr}{cd:Value}{A:Around}{outer:List Env}{s:Shared}{H:Hp}{E:XK}{pins:List (Addr × Obj)}{σ:St}{H1:Hp}{s1:Shared}{e:Addr}{oe:Obj}{vs:Array Value}
    (I:Inv (cxOf (CX1 P w) P w K mg base N qual scope f cd A outer s H E) pins σ H1 s1) (he:H1 e=none) (ge:s1.heap.get? e=some oe) (dv:oe.data=.fields vs) (v1:vs[1]? = some .none) (new:s.heap.get? e=none) (q:E oe.cls oe.dict H1) :
    (cxOf (CX1 P w) P w K mg base N qual scope f cd A outer s H E).xe (.ref e) s1:=by
 show wpAny (model P w) (A.deeper (envOfC qual scope s.heap.objs.size f cd)) (leaving (envOfC qual scope s.heap.objs.size f cd) (.ref e)) (fun _ s''=>CX1 P w outer H s E (.ref e) s'') (fun e' s''=>CX1 P w outer H s E e' s'') s1
 have hin:∀env∈(envOfC qual scope s.heap.objs.size f cd::outer),∀b,env.frame=some b->b∈e::frs (envOfC qual scope s.heap.objs.size f cd::outer):=fun env he b hb=>aN _ (List.mem_filterMap.mpr ⟨env,he,hb⟩)
 refine leaveX0 (B:=W.hideAll s1.heap (e::frs (envOfC qual scope s.heap.objs.size f cd::outer))) (out:=outer) (L:=s.heap.objs.size) I.ok.frames (W.funFrames_hide I.stack hin) rfl ge (fun b o z=>W.of_hideAll _ z) (W.hideAll_none _ (.head _)) dv v1 fun h2 x1 x4=>?_
 have trk:∀b u,H1 b=some u->∃o,s1.heap.get? b=some o/\(W.hideAll s1.heap (e::frs (envOfC qual scope s.heap.objs.size f cd::outer))).get? b=some o:=fun b u eb=>by
  obtain⟨o,ho⟩:=ObjOk.obj (I.hok b u eb)
  refine⟨o,ho,W.hideAll_get _ ho fun z=>?_⟩
  rcases ax.mp z with z | z
  ·rw[z,he] at eb;cases eb
  ·have:=I.stkFree b z
   rw[eb] at this;cases this
 have old:∀b o,s.heap.get? b=some o->H b=none->b∉frs outer->(W.hideAll s1.heap (e::frs (envOfC qual scope s.heap.objs.size f cd::outer))).get? b=some o:=fun b o z n hb=>by
  have e1:s1.heap.get? b=some o:=I.base.keep b o z n hb (by intro y;cases y)
  refine W.hideAll_get _ e1 fun y=>?_
  rcases ax.mp y with y | y
  ·rw[y,new] at z;cases z
  rcases ax.mp (I.stkSub b y) with r | r
  ·have r:b=s.heap.objs.size:=r
   exact absurd (r ▸ ak z) (bq _)
  ·exact hb r
 have exi:∀b o,s.heap.get? b=some o->b∉frs outer->∃o',(W.hideAll s1.heap (e::frs (envOfC qual scope s.heap.objs.size f cd::outer))).get? b=some o':=fun b o z hb=>by
  obtain⟨o1,e1⟩:=I.base.there b o z (by intro y;cases y)
  refine⟨o1,W.hideAll_get _ e1 fun y=>?_⟩
  rcases ax.mp y with y | y
  ·rw[y,new] at z;cases z
  rcases ax.mp (I.stkSub b y) with r | r
  ·have r:b=s.heap.objs.size:=r
   exact absurd (r ▸ ak z) (bq _)
  ·exact hb r
 refine⟨e,oe.cls,oe.dict,_,H1,rfl,I.os,I.bare,?_,fun c o ec=>(I.hok c o ec).stay (fun d u hd q'=>?_) (fun _ z=>z) fun _ _ z=>z,x1,he,fun b u eb=>?_,old,exi,q⟩
 ·refine⟨fun b o z n hb _ => x1.1 b o (old b o z n hb), fun b o z n hb hx' => ?_, fun b o z n hx' => I.base.free b o z n hx', fun b o z hx' => ?_, I.base.tups, I.base.frzs, I.base.tbls⟩
  ·obtain⟨sl,e1⟩:=I.base.slot b o z n hb hx'
   obtain⟨_,o1,g1,g2⟩:=(I.ok.funs.mem hb)
   have:o1=o:=ai (g1.symm.trans z)
   subst this
   obtain⟨sl2,e2⟩:=x4 b _ e1 (by intro vs y;exact g2 vs y)
   exact⟨sl2,e2⟩
  ·by_cases hb:b∈frs outer
   ·obtain⟨_,o1,g1,_⟩:=x1.2.2.1.mem hb
    exact⟨_,g1⟩
   ·obtain⟨o',e1⟩:=exi b o z hb
    exact⟨o',x1.1 b o' e1⟩
 ·have tr:∃z,H1 d=some z:=by
     rcases hd with r | r
     ·exact⟨_,r ▸ ec⟩
     ·exact⟨_,r⟩
  obtain⟨z,hz⟩:=tr
  obtain⟨o1,e1,e2⟩:=trk d z hz
  have:u=o1:=ai (q'.symm.trans e1)
  rw[this]
  exact x1.1 d o1 e2
 ·obtain⟨o1,e1,e2⟩:=trk b u eb
  exact⟨o1,x1.1 b o1 e2,e2⟩
section
variable {M:Model}{A:Around}{E:Value->Shared->Prop}{nm q nm' q':Str}{C N D N':Addr}{bs bm bs' bm':List Value}{hdct hdct':Bool}{sn sn':List Str}{sub sub':List Value}{ab ab':Bool}{col col':Option Bool}{dd dd':Option Addr}{k0 k1 k2 k3 k5 j0 j1 j2 j3 j5:Option Value}{newId newId':String}
theorem matches_own {h:Heap}{g:Array GenState}{d:Drawn}{t:Nat}{os:OsState}{e:Addr}{oe:Obj}{Q:Bool -> Shared -> Prop}
    (hC:h.get? C=some (excClassObj nm q C N bs bm hdct sn sub ab col dd k0 k1 k2 k3 k5 newId)) (he:h.get? e=some oe) (hcls:oe.cls=.ref C)
    (hD:h.get? D=some (excClassObj nm' q' D N' bs' bm' hdct' sn' sub' ab' col' dd' j0 j1 j2 j3 j5 newId')) (hb:bm'.contains (.type "BaseException")=true)
    (hin:(Value.ref C::bm).contains (.ref D)=true) (hq:Q true ⟨h,g,d,t,os⟩):wpAny M A (excMatches (.ref e) (.ref D)) Q E ⟨h,g,d,t,os⟩:=by
 have hcB:(Value.ref D::bm').contains (.type "BaseException")=true:=by rw[List.contains_cons,hb,Bool.or_true]
 have f:=tc_notTuple
 unfold excMatches
 repeat first
  | (with_reducible refine wpAny_loadPart_at he ?_
     rw[hcls])
  | with_reducible refine wpAny_loadPart_at hD ?_
  | (with_reducible refine wpAny_isSubtype_exc hD ?_
     rw[hcB])
  | (with_reducible refine wpAny_isSubtype_exc hC ?_
     rw[hin])
  | wp_step
 exact hq
end
theorem inv_fly {X:Cx}{pins:List (Addr × Obj)}{σ:St}{H1 H':Hp}{s1 s':Shared}{B h5:Heap}{a:Addr}{cls fz:Value}{dd:Option Addr}(I:Inv X pins σ H1 s1) (hst:X.stack=X.env :: X.outer) (hfr:X.env.frame=some X.env.locals)
    (os:s'.os=s1.os) (bare:AllBare s'.gens) (un:Un (frs X.stack) [] H1 H' s1.heap s'.heap) (hok:HOk X.prog X.w H' s'.heap) (fl:XF B X.stack a cls dd fz h5) (sm:s'.heap.UpToSlots h5)
    (TB:∀b u,H' b=some u->∃o,s'.heap.get? b=some o/\B.get? b=some o) (KB:∀b o,s1.heap.get? b=some o->H1 b=none->b∉frs X.stack->B.get? b=some o) (AB:∀b o,s1.heap.get? b=some o->b∉frs X.stack->∃o',B.get? b=some o') :
    Inv X pins σ H' { s' with heap:=h5 }:=by
 obtain⟨hh,g,d,tk,os'⟩:=s'
 obtain rfl:os'=s1.os:=os
 have efr:frs X.stack=X.env.locals::X.fs:=by rw[hst];unfold frs;rw[List.filterMap_cons,hfr];rfl
 have nin:∀b,b≠X.env.locals->b∉X.fs->b∉frs X.stack:=fun b n1 n2 z=>by
  rw[efr] at z
  rcases ax.mp z with r | r
  ·exact n1 r
  ·exact n2 r
 have inn:∀b,b∈X.fs->b∈frs X.stack:=fun b hb=>by rw[efr];exact aN _ hb
 have nof:∀ {b:Addr} {o:Obj},b∈frs X.stack->s1.heap.get? b=some o->∀vs,o.data≠.fields vs:=fun hb e vs=>by
  obtain⟨_,o1,g1,g2⟩:=I.stack.mem hb
  have:=ai (g1.symm.trans e)
  exact this ▸ g2 vs
 have slot:∀b o,b∈frs X.stack->s1.heap.get? b=some o->H1 b=none->∃sl,h5.get? b=some { o with slots:=sl }:=fun b o hb e n=>by
  obtain⟨sl,e1⟩:=un.slot b o e n hb (by intro z;cases z)
  obtain⟨sl2,e2⟩:=sm b _ e1 (fun vs z=>nof hb e vs z)
  exact⟨sl2,e2⟩
 show Inv X pins σ H' { s1 with heap:=h5,gens:=g,drawn:=d,toks:=tk }
 refine Inv.step (s:=s1) (h':=h5) (g':=g) (d':=d) (t':=tk) (ch:=[]) I (fun b hb=>by cases hb) (fun b o n1 n2 _ e n=>fl.1 b o (KB b o e n (nin b n1 n2))) (fun b o _ hb _ e n=>slot b o (inn b hb) e n) (fun b o _ e n=>un.free b o e n (by intro z;cases z)) (fun b o _ e=>?_) un.tups un.frzs un.tbls (fun m hn=>?_) (fun c o ec=>(hok c o ec).stay (fun d u hd q'=>?_) (fun _ z=>z) fun _ _ z=>z) bare
 ·by_cases hb:b∈frs X.stack
  ·obtain⟨_,o1,g1,_⟩:=fl.2.2.1.mem hb
   exact⟨_,g1⟩
  ·obtain⟨o',e1⟩:=AB b o e hb
   exact⟨o',fl.1 b o' e1⟩
 ·obtain⟨o,es,ep,ho,hd,r⟩:=hn
  obtain⟨sl,e1⟩:=slot X.env.locals o (by rw[efr];simp) ho I.free
  exact⟨_,es,ep,e1,hd,r⟩
 ·have tr:∃z,H' d=some z:=by
     rcases hd with r | r
     ·exact⟨_,r ▸ ec⟩
     ·exact⟨_,r⟩
  obtain⟨z,hz⟩:=tr
  obtain⟨o1,e1,e2⟩:=TB d z hz
  have:u=o1:=ai (q'.symm.trans e1)
  rw[this]
  exact fl.1 d o1 e2
abbrev Cx.mark (X:Cx) (e:Value) (E:Value->Shared->Prop):Cx:={ X with A:=X.A.mark (some e),calm:=false,xe:=E }
section
variable {X:Cx}{pins:List (Addr × Obj)}{σ:St}{H:Hp}{s:Shared}{e:Value}{E:Value->Shared->Prop}
theorem Cx.Ok.mark (ok:X.Ok):(X.mark e E).Ok :=
 ⟨ok.mod,ok.kind,ok.glob,ok.blt,ok.above,ok.inj,ok.has,ok.cab,fun z=>(by cases z),ok.frames,ok.stk,ok.exf,ok.bs,ok.bsz,ok.noex,ok.exfs,ok.funs,ok.frf⟩
theorem Inv.mark (I:Inv X pins σ H s):Inv (X.mark e E) pins σ H s:=⟨I.ok.mark,I.os,I.bare,I.base,I.loc,I.cell,I.free,I.freeC,I.pin,I.hok,I.len⟩
theorem Inv.unmark (ok:X.Ok) (I:Inv (X.mark e E) pins σ H s):Inv X pins σ H s:=⟨ok,I.os,I.bare,I.base,I.loc,I.cell,I.free,I.freeC,I.pin,I.hok,I.len⟩
theorem unname {M:Model}{A:Around}{i:Nat}{n:Str}{pos:Pos}{Q:Unit -> Shared -> Prop}(I:Inv X pins σ H s) (hN:X.N.Nodup) (hi:X.N[i]? = some n) (hk:X.env.kindOf n=some .local)
    (h:∀s',Inv X pins (σ.set i none) H s'->Q () s'):wpAny M A (do bindName X.env n .none;unbindBehindTheSuite X.env n pos) Q E s:=by
 obtain⟨m,hn,hl⟩:=id I.loc
 have hcls:(X.env.scope.kind==.class||(X.env.scope.kind==.module&&X.env.locals != X.env.globals))=false:=by rw[I.ok.kind];rfl
 have hiσ:i<σ.length:=by rw[I.len];exact(af.mp hi).1
 have cne:=I.cne
 refine wpAny_nameGoes_keeps hk hn hcls fun h' v hn' hs=>?_
 obtain⟨oL,_,_,hoL,_⟩:=id hn
 have tracked:HOk X.prog X.w H h':=fun b ob e=>by
  refine(I.hok b ob e).stay (fun c w' hc q=>(hs.2 c ?_).trans q) (fun _ q=>q) fun _ _ q=>q
  rintro rfl
  rcases hc with z | hc
  ·have:=I.free;rw[z] at this;rw[this] at e;cases e
  ·rw[I.free] at hc;cases hc
 refine h _ ⟨I.ok,I.os,I.bare,⟨fun b o e n hb hx=>?_,fun b o e n hb hx=>?_,I.base.free,fun b o e hx=>?_,I.base.tups,I.base.frzs,I.base.tbls⟩,⟨_,hn',fun j y v' e1 e2 e3=>?_⟩,fun y c e=>?_,I.free,I.freeC,fun p hp=>?_,tracked,by simpa using I.len⟩
 ·exact(hs.2 b (aB (aS (ak e) I.ok.above))).trans (I.base.keep b o e n hb hx)
 ·obtain⟨sl,e1⟩:=I.base.slot b o e n hb hx
  exact⟨sl,(hs.2 b (aB (aS (ak e) I.ok.above))).trans e1⟩
 ·obtain⟨o',e1⟩:=I.base.there b o e hx
  exact⟨o',(hs.2 b (aB (aS (ak e) I.ok.above))).trans e1⟩
 ·by_cases hj:j=i
  ·subst hj
   rw[cz hiσ] at e2
   cases e2
  ·rw[cC (Ne.symm hj)] at e2
   obtain⟨u',r',q⟩:=hl j y v' e1 e2 e3
   refine⟨u',r',?_⟩
   rcases q with⟨k,e⟩ | ⟨k,c,e,z⟩
   ·refine .inl ⟨k,?_⟩
    have:y≠n:=fun e=>hj (nodup_ix hN e1 (e ▸ hi))
    simp[this,e]
   ·exact .inr ⟨k,c,e,z.sameBut hs (cne y c e)⟩
 ·obtain⟨w',z⟩:=I.cell y c e
  exact⟨w',z.sameBut hs (cne y c e)⟩
 ·obtain⟨e,n,ne,nf,d⟩:=I.pin p hp
  exact⟨(hs.2 p.1 ne).trans e,n,ne,nf,d⟩
theorem Inv.track {σ1:St}{H1:Hp}{s1:Shared}{a:Addr}{o:HO}(I1:Inv X pins σ1 H1 s1) (I:Inv X pins σ H s) (hn:s1.heap.get? a=none) (ha:H a=none) (new:ObjOk X.prog X.w (upd H a o) s.heap a o):Inv X pins σ (upd H a o) s := by
 have h0:∀ob,X.s₀.heap.get? a=some ob->a∈X.ex:=fun ob e=>by
  by_cases hx:a∈X.ex
  ·exact hx
  ·obtain⟨o',e'⟩:=I1.base.there a ob e hx
   rw[hn] at e';cases e'
 have ne:∀ {b:Addr} {u:HO},H b=some u->b≠a:=fun e z=>by rw[z,ha] at e;cases e
 have dif:∀ {b:Addr} {ob:Obj},s1.heap.get? b=some ob->b≠a:=fun e z=>by rw[z,hn] at e;cases e
 obtain⟨m1,hn1,_⟩:=id I1.loc
 obtain⟨oL,_,_,hoL,_⟩:=hn1
 refine⟨I.ok,I.os,I.bare,⟨I.base.keep,I.base.slot,fun b ob e n hx=>?_,I.base.there,fun b xs e=>?_,fun b x y e=>?_,fun b ps e=>?_⟩,I.loc,I.cell,?_,fun x c e=>?_,fun p hp=>?_,fun b u e=>?_,I.len⟩
 ·have:b≠a:=fun z=>hx (z ▸ h0 ob (z ▸ e))
  rw[upd_ne this];exact I.base.free b ob e n hx
 ·have z:=I.base.tups b xs e
  rw[upd_ne (ne z)];exact z
 ·have z:=I.base.frzs b x y e
  rw[upd_ne (ne z)];exact z
 ·obtain⟨more,z⟩:=I.base.tbls b ps e
  exact⟨more,by rw[upd_ne (ne z)];exact z⟩
 ·rw[upd_ne (dif hoL)];exact I.free
 ·obtain⟨v,oc,z,_⟩:=I1.cell x c e
  rw[upd_ne (dif z)];exact I.freeC x c e
 ·obtain⟨e1,n1,r⟩:=I.pin p hp
  obtain⟨e2,_⟩:=I1.pin p hp
  exact⟨e1,by rw[upd_ne (dif e2)];exact n1,r⟩
 ·by_cases hb:b=a
  ·subst hb;rw[upd_same] at e;cases e;exact new
  ·rw[upd_ne hb] at e
   exact(I.hok b u e).stay (fun _ _ _ z=>z) (fun c q=>by rw[upd_ne (ne q)];exact q) fun c xs q=>by rw[upd_ne (ne q)];exact q
end
def XAt (h:Heap) (C:Addr) (bm:List Value):Prop :=
 ∃nm q N bs hdct sn sub ab col dd k0 k1 k2 k3 k5 newId,h.get? C=some (excClassObj nm q C N bs bm hdct sn sub ab col dd k0 k1 k2 k3 k5 newId)
def xObj (a C:Addr) (dd:Option Addr):HO:=.ext fun h=>∃o,h.get? a=some o/\o.cls=.ref C/\o.dict=dd/\W.notCls o=true
section
open PySem.W PySem.Calls Builtin Builtin.ObjectAttr Builtin.Getset_descriptor
structure XFacts (K:Frag) (C:Addr):Prop where
 ga:findIn K (.ref C) "__getattribute__"=some (some (.builtin "BaseException.__getattribute__"))
 gb:findIn K (.ref C) "__getattr__"=some none
 ha:findIn K (.ref C) "__class__"=some (some (.builtin "object.__class__"))
 hn:specialIn K (.builtin "object.__class__") "__get__"=some (some (.builtin "getset_descriptor.__get__"))
 ht:takesIn K (.builtin "object.__class__")=some true
 hm:mroIn K C (.type "object")=some true
 hb:mroIn K C (.type "BaseException")=some true
 cl:(clsIn K C).isSome=true
variable {K:Frag}{x C:Addr}{h:Heap}{M:Model}
variable {prog:Program}{w:World}{A:Around}{E:Value->Shared->Prop}{s:Shared}
end
section
variable {P:Program}{w:World}{K:W.Frag}{mg:Str->Option Value}{base:Heap}
theorem Fun.okX {x qual:Str}{st:Stmt}{f:Addr}{fd:FuncData}{N ps:List Str}{k:Nat}{sp:Sp}(F:Fun K x qual st f fd) (S:FnScope N ps (defScope st)) (len:∀vs H Q E, sp vs H Q E -> vs.length=ps.length)
    (hbody:∀(cdv:Value) (A:Around) (outer:List Env) (s:Shared) (H:Hp) (vs:List V) (Q:VK) (E:XK),Room k (A.deeper (envOfC qual (defScope st) s.heap.objs.size f cdv))->sp vs H Q E ->
     ∃t,PSs (cxOf (CX1 P w) P w K mg base N qual (defScope st) f cdv A outer s H E) (defBody st) t/\t { nx:=fun _ H'=>Q .non H',rt:=Q } (start N vs) H):FnOk P w K mg base (CX1 P w) (k+1) f fd ps sp:=by
 obtain⟨oc,od,kV,doc,pm,an,cdv,ct,osl,rfl,lk,hcd⟩:=F.ex
 exact fn_of lk hcd S len fun A outer s H vs Q E hr hsp=>hbody cdv A outer s H vs Q E hr hsp
theorem FnOk.lift {k:Nat}{f:Addr}{fd:FuncData}{ps:List Str}{sp:Sp}(F:FnOk P w K mg base CX0 k f fd ps sp):FnOk P w K mg base (CX1 P w) k f fd ps sp :=
 ⟨F.len,fun A outer s H args us vs Q E hr he hb hv hs=>codeAny_mono (F.run A outer s H args us vs Q E hr he hb hv hs) fun r s' h=>by
  cases r with
  | ok fl=>cases fl <;> exact h
  | error e=>exact False.elim h⟩
structure CalX (P:Program) (w:World) (K:W.Frag) (mg:Str->Option Value) (base:Heap) (k:Nat) (x:Str) (ps:List Str) (sp:Sp):Prop where
 ex:∃(f:Addr) (fd:FuncData),FnOk P w K mg base (CX1 P w) k f fd ps sp/\mg x=some (.ref f)/\W.keepIn K (.ref f)=true/\Binds K fd ps []
theorem pe_calX {N:List Str}{qual:Str}{scope:Scope}{f:Addr}{cd:Value}{A:Around}{outer:List Env}{s:Shared}{H:Hp}{E:XK}{x:Str}{ps:List Str}{sp:Sp}{k:Nat}{p pos:Pos}{e:Expr}{es:List Expr}{t:TA}
    (c:CalX P w K mg base k x ps sp) (hr:Room k (cxOf (CX1 P w) P w K mg base N qual scope f cd A outer s H E).A) (hg:Gl (cxOf (CX1 P w) P w K mg base N qual scope f cd A outer s H E) x)
    (ha:PA (cxOf (CX1 P w) P w K mg base N qual scope f cd A outer s H E) (e::es) t)
    (hs:starEach (e::es) (cxOf (CX1 P w) P w K mg base N qual scope f cd A outer s H E).env=(false,eval e (cxOf (CX1 P w) P w K mg base N qual scope f cd A outer s H E).env)::starEach es (cxOf (CX1 P w) P w K mg base N qual scope f cd A outer s H E).env:=by rfl)
    (hpl:(backTo pos (starEach es (cxOf (CX1 P w) P w K mg base N qual scope f cd A outer s H E).env)).any (·.1)=false:=by rfl) (hdb:(x==("__debug__":Str))=false:=by decide) :
    PE (cxOf (CX1 P w) P w K mg base N qual scope f cd A outer s H E) (.Call (.Name x p) (e::es) [] pos) (tCall sp [] E t):=by
 obtain⟨g,fd,G,mf,kp,b⟩:=c.ex
 exact pe_call G hr hg mf kp b .nil pass1 ha (hdb:=hdb) (he:=hs) (hpl:=hpl)
variable {x:Str}{C N:Addr}{bmB bm bs:List Value}{newId:String}{nm q:Str}{hdct:Bool}{sn:List Str}{sub:List Value}{ab:Bool}{col:Option Bool}{dd:Option Addr}{k0 k1 k2 k3 k5:Option Value}{h:Heap}
theorem own_mk (X:K.In h) (bound:mg x=some (.ref C)) (lk:K.lookup C=some (excClassObj nm q C N bs bm hdct sn sub ab col dd k0 k1 k2 k3 k5 newId)) (ok:W.nsOkIn K N=true) (ni:W.nsIn K N "__init__"=some none)
    (tl:W.tailIn K bmB bm=true):OwnCls x C bmB newId mg h :=
 ⟨bound,bm,N,nm,q,bs,hdct,sn,sub,ab,col,dd,k0,k1,k2,k3,k5,_,X _ _ lk,.of_isNs (W.isNs_of_in X ok),W.nsMap_none_of_in X ok ni,W.tail_of_in X tl⟩
theorem xat_mk (X:K.In h) (lk:K.lookup C=some (excClassObj nm q C N bs bm hdct sn sub ab col dd k0 k1 k2 k3 k5 newId)):XAt h C bm :=
 ⟨nm,q,N,bs,hdct,sn,sub,ab,col,dd,k0,k1,k2,k3,k5,newId,X _ _ lk⟩
end
structure Errs (K:W.Frag) (mg:Str->Option Value) (base:Heap) (ec:Str->Addr) (l c:List Str):Prop where
 b:∀x∈l,mg x=some (.ref (ec x))
 f:∀x∈c,XFacts K (ec x)
 ord:("OrderError":Str)∈c
 kit:∀x∈c,x≠"OrderError"->∀y∈l,W.kitOne K (.ref (ec x)) (.ref (ec y))=some (y==x||y==("OrderError":Str))
 val:∀x∈c,W.kitOne K (.ref (ec x)) (.type "ValueError")=some true
 at_:∀x∈c,∃bm,XAt base (ec x) bm/\bm.contains (.type "BaseException")=true/\(Value.ref (ec x)::bm).contains (.ref (ec "OrderError"))=true
 nv:mg "ValueError"=none
 own:∀x∈c,x∉(["NoText","Ring","NoUnit"]:List Str)->OwnCls x (ec x) [.type "ValueError",.type "Exception",.type "BaseException",.type "object"] "ValueError.__new__" mg base
abbrev excO (C:Addr) (dd:Option Addr) (t:Addr):Obj:={ cls:=.ref C,dict:=dd,data:=.fields #[.ref t,.none,.none,.none,.bool false,.none] }
abbrev argO (us:List Value):Obj:={ cls:=.type "tuple",data:=.seq us.toArray }
def xNew (a C:Addr) (dd:Option Addr):HO:=.ext fun h=>∃t,h.get? a=some (excO C dd t)
section
variable {prog:Program}{w:World}{A:Around}{E:Value->Shared->Prop}{h:Heap}{g:Array GenState}{d:Drawn}{tk:Nat}{os:OsState}
variable {nm q:Str}{C N fI:Addr}{oI:Obj}{bs bm bmB bmN:List Value}{hdct:Bool}{sn:List Str}{sub:List Value}{ab:Bool}{col:Option Bool}{dd:Option Addr}{k0 k1 k2 k3 k5:Option Value}{B Bn newId nid initId inN:String}{mN:Str->Option Value}{us:List Value}
theorem tcall_init {Q:Fin->Shared->Prop}(Fn:ExcBaseFacts Bn newId inN bmN) (hBn:bmB.contains (.type Bn)=true) (F:ExcBaseFacts B nid initId bmB) (T:OwnTail h bmB bm) (hC:h.get? C=some (excClassObj nm q C N bs bm hdct sn sub ab col dd k0 k1 k2 k3 k5 newId)) (hn:h.Ns N mN)
    (hi:mN "__init__"=some (.ref fI)) (gf:h.get? fI=some oI) (cf:oI.cls=.type "function") (lu:us.length<=sizeLine)
    (k:∀h' e,Heap.MadeExcOf h h' e (.ref C) us->wpAny (model prog w) A (call (.ref fI) (.ref e::us)) (fun r s'=>r=.none/\Q (.done (.ret (.ref e))) s') E ⟨h',g,d,tk,os⟩) :
    wpAny (model prog w) A (Builtin.«type.__call__» ⟨.ref C::us,[]⟩) Q E ⟨h,g,d,tk,os⟩:=by
 repeat (first | with_reducible refine wpAny_madeBy_exc hC ?_ | with_reducible refine wpAny_loadPart_at hC ?_ | wp_step)
 refine codeAny_call_builtin_code (Code.quiet_builtin _ Fn.quiet) (wpAny_check_new_subU Fn hBn T hC (codeAny_exc_new_subU Fn hBn F T hC ?_ lu))
 show wpAny _ _ _ _ _ _
 have up:∀b o,h.get? b=some o->((h.push (argO us)).push (excO C none h.objs.size)).get? b=some o:=fun b o z=>ay _ (ay _ z)
 have ge:((h.push (argO us)).push (excO C none h.objs.size)).get? (h.objs.size+1)=some (excO C none h.objs.size):=by heap_get
 have gC:=up _ _ hC
 have me:(Value.ref C::bm).contains (.ref C)=true:=by simp
 have hn2:((h.push (argO us)).push (excO C none h.objs.size)).Ns N mN:=hn.keeps up
 unfold isInstance
 repeat (first | with_reducible refine wpAny_loadPart_at ge ?_ | (with_reducible refine wpAny_isSubtype_exc gC ?_;rw[me]) | wp_step)
 show wpAny _ _ (typeLookup (.ref C) "__init__") _ _ _
 refine wpAny_typeLookup_tail gC hn2 (T.keeps up) F.mroIs F.init.lookup ?_
 rw[hi]
 refine aZ (ad ?_)
 unfold bindSpecial
 refine ad (wpAny_typeOf (T:="function") ⟨oI,up _ _ gf,cf⟩ ?_)
 rw[if_pos (by decide)]
 refine ag (ad (bh (k _ (h.objs.size+1) ⟨up,cy (Nat.le_succ _),h.objs.size,ge,cy (ae _),ay _ (Heap.get?_push_at rfl rfl)⟩) (fun r s' z=>?_) fun _ _ x=>x))
 obtain⟨rfl,z⟩:=z
 wp_walk
 exact z
theorem call_init {Q:Value->Shared->Prop}(Fn:ExcBaseFacts Bn newId inN bmN) (hBn:bmB.contains (.type Bn)=true) (F:ExcBaseFacts B nid initId bmB) (T:OwnTail h bmB bm) (hC:h.get? C=some (excClassObj nm q C N bs bm hdct sn sub ab col dd k0 k1 k2 k3 k5 newId)) (hn:h.Ns N mN)
    (hi:mN "__init__"=some (.ref fI)) (gf:h.get? fI=some oI) (cf:oI.cls=.type "function") (lu:us.length<=sizeLine)
    (k:∀h' e,Heap.MadeExcOf h h' e (.ref C) us->wpAny (model prog w) (A.under (.builtin "type.__call__" ⟨.ref C::us,[]⟩)) (call (.ref fI) (.ref e::us)) (fun r s'=>r=.none/\Q (.ref e) s') E ⟨h',g,d,tk,os⟩) :
    wpAny (model prog w) A (call (.ref C) us) Q E ⟨h,g,d,tk,os⟩:=by
 have l1:=tc_lookup
 have l2:=tc_bind (.ref C)
 have ty:(⟨h,g,d,tk,os⟩:Shared).TypeIs (.ref C) "type":=⟨_,hC,rfl⟩
 refine wpAny_call (codeAny_of_tree ?_)
 show wpAny _ _ (callAny (.ref C) _) _ _ _
 repeat (any_goals (first | assumption | wp_step | with_reducible refine wpAny_loadPart_at hC ?_))
 refine⟨rfl,codeAny_call_builtin_at (Code.quiet_builtin _ (by decide +kernel)) entry_typeCall (wpAny_check_type_call_sub hC (tcall_init Fn hBn F T hC hn hi gf cf lu fun h' e hm=>?_))⟩
 exact k h' e hm
end
section
variable {M:Model}{A:Around}{E:Value->Shared->Prop}{env:Env}{s:Shared}{bm:List Value}{C:Addr}
theorem raiseStmtX {x:Sem Value}{Q:Flow->Shared->Prop}(hb:bm.contains (.type "BaseException")=true) (hh:A.handled=none)
    (h:wpAny M A x (fun v s1=>∃e t dq,v=.ref e/\XAt s1.heap C bm/\s1.heap.get? e=some (excO C dq t)/\E (.ref e) s1) E s):wpAny M A (raiseStmt env (some x) none) Q E s:=by
 have hc:(Value.ref C::bm).contains (.type "BaseException")=true:=by rw[List.contains_cons,hb,Bool.or_true]
 unfold raiseStmt
 refine ad (bh h (fun v s1 z=>?_) fun _ _ y=>y)
 obtain⟨e,t,dq,rfl,⟨nm,q,N,bs,hdct,sn,sub,ab,col,dd,k0,k1,k2,k3,k5,newId,gC⟩,ge,qE⟩:=z
 obtain⟨hp,g,dr,tk,os⟩:=s1
 repeat (first | (with_reducible refine wpAny_isSubtype_exc gC ?_;rw[hc]) | with_reducible refine wpAny_loadPart_at ge ?_ | with_reducible refine wpAny_loadPart_at gC ?_ | wp_step)
 exact wpAny_raiseNew_none hh qE
end
def bmV:List Value:=[.type "ValueError",.type "Exception",.type "BaseException",.type "object"]
def tailE (l:List Value):Bool:=match l with
 | .ref _::.ref _::r=>r==bmV
 | _=>false
theorem refuse_tail (self:Value) {l:List Value}(e:tailE l=true):refuseLoop self "__setattr__" l=pure ():=by
 unfold tailE at e
 split at e
 ·rw[refuseLoop_ref,refuseLoop_ref,beq_iff_eq.mp e]
  exact PySem.F.store_ValueError.passes self
 ·cases e
structure XSet (K:W.Frag) (C:Addr) (f:Str):Prop where
 sa:W.findIn K (.ref C) "__setattr__"=some (some (.builtin "object.__setattr__"))
 po:(W.clsIn K C).any (fun cd=>tailE cd.mro)=true
 na:W.findIn K (.ref C) f=some none
 hd:W.hasDictIn K C=true
 hm:W.mroIn K C (.type "object")=some true
section
open PySem.W Builtin Builtin.ObjectAttr
variable {prog:Program}{w:World}{A:Around}{E:Value->Shared->Prop}{s:Shared}{K:Frag}{x C t:Addr}{f:Str}{v:Value}
theorem xinst {h:Heap}(hx:h.get? x=some (excO C none t)):InstAt h x (excO C none t) C none:=⟨hx,rfl,rfl,True.intro⟩
theorem setX {Q:Unit->Shared->Prop}(X:K.In s.heap) (Z:XSet K C f) (hx:s.heap.get? x=some (excO C none t))
    (k:∀h' d,s.heap.objs.size<=d->h'.get? x=some (excO C (some d) t)->h'.Ns1 d (fun y=>if y=f then some v else none)->(∀b o,b≠x->s.heap.get? b=some o->h'.get? b=some o)->Q () { s with heap:=h',toks:=s.toks+2 }) :
    wpAny (model prog w) A (setAttr (.ref x) f v) Q E s:=by
 have I:=xinst hx
 obtain⟨cd,hc,ho⟩:=any_some Z.po
 obtain⟨cd',hc',hd'⟩:=any_some Z.hd
 cases ai (hc'.symm.trans hc)
 refine set_plain X I Z.sa ?_
 have G:=PySem.F.store_object
 have io:Looks (model prog w) s.heap (isInstance (.ref x) (.type "object")) true:=I.type.andThen (looks_mroIn X Z.hm)
 have mr:Looks (model prog w) s.heap (mroOf (.ref C)) cd.mro:=(looks_clsIn X hc).andThen .now
 refine codeAny_call_builtin G.slot.plain G.entry (@check_slot (model prog w) _ _ { s with toks:=s.toks+1 } "object.__setattr__" "object" "__setattr__" (.ref x) [.str f s.toks,v] [] _ G.kind G.split io (G.args (.ref x) (.str f s.toks) v) ?_)
 rw[osa_eq,refuse_eq]
 refine ad (ad (Looks.here (s:={ s with toks:=s.toks+1 }) I.type (ad (Looks.here (s:={ s with toks:=s.toks+1 }) mr ?_))))
 rw[refuse_tail _ ho]
 refine ag (ad (Looks.here (s:={ s with toks:=s.toks+1 }) I.type (ad (Looks.here (s:={ s with toks:=s.toks+1 }) (looks_findIn X Z.na) (ad (ag ?_))))))
 have nx:x≠s.heap.objs.size:=aB (ak hx)
 refine ad (ag (ad (ad (wpAny_loadPart hx (ad (Looks.here (s:={ s with toks:=s.toks+1 }) (looks_clsIn X hc) ?_))))))
 rw[hd']
 show wpAny _ _ (alloc { cls:=Value.type "dict",data:=Data.dict #[] } >>= _) _ _ _
 have x1:=ay (h:=s.heap) { cls:=.type "dict",data:=.dict #[] } hx
 refine ad (wpAny_alloc' (ad (wpAny_update' x1 (ag ?_))))
 generalize eg:(s.heap.push { cls:=.type "dict",data:=.dict #[] }).update x (fun o=>{ cls:=o.cls,dict:=some s.heap.objs.size,data:=o.data,slots:=o.slots })=g1
 have d1:g1.get? s.heap.objs.size=some { cls:=.type "dict",data:=.dict #[] }:=by
  rw[<- eg];exact(Heap.get?_update_ne _ _ _ _ (Ne.symm nx)).trans (Heap.get?_push_at rfl rfl)
 have e1:g1.get? x=some (excO C (some s.heap.objs.size) t):=by rw[<- eg];exact bU _ x1 rfl
 have o1:∀b o,b≠x->s.heap.get? b=some o->g1.get? b=some o:=fun b o nb z=>by
  rw[<- eg];exact(Heap.get?_update_ne _ _ _ _ nb).trans (ay _ z)
 have n1:g1.Ns s.heap.objs.size (fun _=>none):=⟨_,#[],_,d1,rfl,(fun e he=>absurd he (by simp)),fun _=>rfl⟩
 show wpAny _ _ (storeInDict s.heap.objs.size (.str f s.toks) f v) _ _ _
 unfold storeInDict newKeyGuard
 refine ad (ag (ad (wpAny_nsSet1 (Heap.Ns1.of_empty n1) fun h' n2 sb=>?_)))
 obtain⟨oD,esD,epD,gD,dD,cD⟩:=n2.count (Within.cons f v Within.nil)
 refine ad (wpAny_lookBehind gD (by rw[dD];exact pastItsLine_dict (aW cD (by rw[be,List.length_nil,sizeLine_eq];omega))) ?_)
 refine ag ?_
 exact k h' s.heap.objs.size (ae _) ((sb.2 x nx).trans e1) n2 fun b o nb z=>(sb.2 b (aB (ak z))).trans (o1 b o nb z)
end
section
variable {X:Cx}{pins:List (Addr × Obj)}{σ:St}{H:Hp}{s:Shared}{A:Around}{E:Value->Shared->Prop}{a C:Addr}{f:Str}
theorem xnew_at {dd:Option Addr}(I:Inv X pins σ H s) (h:H a=some (xNew a C dd)):∃t,s.heap.get? a=some (excO C dd t):=(show ObjOk X.prog X.w H s.heap a (xNew a C dd) from I.hok a _ h).1
theorem xnew_ok {P:Program}{w:World}{dd:Option Addr}{h:Heap}{t:Addr}(e:h.get? a=some (excO C dd t)):ObjOk P w H h a (xNew a C dd) :=
 ⟨⟨t,e⟩,⟨_,e⟩,fun _ _ ⟨u,q⟩ z=>⟨u,z _ q⟩⟩
theorem setX_ok {y:V}{u:Value}{Q:Unit -> Shared -> Prop}(I:Inv X pins σ H s) (e:H a=some (xNew a C none)) (Z:XSet X.K C f) (ry:RelV y u)
    (k:∀d s',H d=none->d≠a->Inv X pins σ (upd (upd H d (.xd [(f,y)])) a (xNew a C (some d))) s'->Q () s'):wpAny (model X.prog X.w) A (setAttr (.ref a) f u) Q E s:=by
 obtain⟨t,ge⟩:=xnew_at I e
 refine setX I.kIn Z ge fun h' d sd g1 g2 g3=>?_
 have nd:H d=none:=I.hok.fresh sd
 have da:d≠a:=fun z=>by rw[z,e] at nd;cases nd
 have gd:s.heap.get? d=none:=cy sd
 refine k d _ nd da ?_
 have ne:∀ {b:Addr} {v:HO},H b=some v->b≠d:=fun z1 z2=>by rw[z2,nd] at z1;cases z1
 have na:∀ {b:Addr},H b=none->b≠a:=fun z1 z2=>by rw[z2,e] at z1;cases z1
 have same:∀b,b≠a->b≠d->upd (upd H d (.xd [(f,y)])) a (xNew a C (some d)) b=H b:=fun b z1 z2=>by rw[upd_ne z1,upd_ne z2]
 have keepK:∀(b:Addr) (v:HO),H b=some v->v≠xNew a C none->upd (upd H d (.xd [(f,y)])) a (xNew a C (some d)) b=some v:=fun b v z1 z2=>by
  rw[same b (fun z=>by rw[z,e] at z1;exact z2 (ai z1).symm) (ne z1)];exact z1
 refine Inv.step (g':=s.gens) (d':=s.drawn) (t':=s.toks+2) (ch:=[]) I (fun b hb=>by cases hb) (fun b o _ _ _ z n=>g3 b o (na n) z) (fun b o _ _ _ z n=>⟨o.slots,g3 b o (na n) z⟩) (fun b o _ z n=>?_) (fun b o _ z=>?_)
  (fun b xs z=>keepK b _ z (by intro q;cases q)) (fun b o v z=>keepK b _ z (by intro q;cases q)) (fun b ps z=>⟨#[],by rw[Array.append_empty];exact keepK b _ z (by intro q;cases q)⟩) (fun m hn=>?_) (fun b v z=>?_) I.bare
 ·rw[same b (na n) fun q=>by rw[q,gd] at z;cases z];exact n
 ·by_cases hb:b=a
  ·exact⟨_,hb ▸ g1⟩
  ·exact⟨o,g3 b o hb z⟩
 ·obtain⟨o,es,ep,ho,r⟩:=hn
  exact⟨o,es,ep,g3 _ o (na I.free) ho,r⟩
 ·by_cases hb:b=a
  ·subst hb
   rw[upd_same] at z;cases z
   exact xnew_ok g1
  ·by_cases hd:b=d
   ·subst hd
    rw[upd_ne hb,upd_same] at z;cases z
    refine⟨_,g2,fun y'=>?_⟩
    show RelO (List.lookup y' [(f,y)]) (if y'=f then some u else none)
    by_cases q:y'=f
    ·subst q
     simp only[List.lookup,beq_self_eq_true,if_pos]
     exact ry
    ·have:(y'==f)=false:=beq_eq_false_iff_ne.mpr q
     simp only[List.lookup,this,if_neg q]
     exact True.intro
   ·rw[same b hb hd] at z
    refine(I.hok b v z).stay (fun c w hc q=>g3 c w ?_ q) (fun c q=>keepK c _ q (by intro q;cases q)) fun c xs q=>keepK c _ q (by intro q;cases q)
    rintro rfl
    rcases hc with r | r
    ·exact hb r.symm
    ·rw[e] at r;cases r
def sFldX (K:W.Frag) (ta tv:TE) (f:Str):TS:=fun D σ H=>tv σ H fun y H1=>ta σ H1 fun x H2=>∃a C,x=.ref a/\H2 a=some (xNew a C none)/\XSet K C f/\∀d,H2 d=none->d≠a->D.nx σ (upd (upd H2 d (.xd [(f,y)])) a (xNew a C (some d)))
theorem ps_fldX {o value:Expr}{pos pos':Pos}{ta tv:TE}(ha:PE X o ta) (hv:PE X value tv) (hs:swapsWith value (some (.Attribute o f pos')) pos.line X.env=pure false):PS X (.Assign [.Attribute o f pos'] value pos) (sFldX X.K ta tv f):=by
 intro pins s σ H D I h
 refine plainObj_wpAny_Assign_Attribute (thn (hv pins s σ H _ I h) fun u s1 ⟨y,H1,I1,ry,q⟩=>thn (ha pins s1 σ H1 _ I1 q) fun ov s2 ⟨x,H2,I2,rx,a,C,ex,ea,Z,q2⟩=>?_) hs
 subst ex
 obtain rfl:ov=Value.ref a:=rx
 exact setX_ok I2 ea Z ry fun d s3 hd hda I3=>⟨σ,_,I3,q2 d hd hda⟩
end
theorem ns_some {K:W.Frag}{h:Heap}{N:Addr}{mN:Str -> Option Value}{n:Str}{v:Value}(X:K.In h) (G:h.Ns N mN) (e:W.nsIn K N n=some (some v)):mN n=some v := by
 obtain⟨o,es,ep,go,de,_,fe⟩:=G
 unfold W.nsIn at e
 split at e
 ·rename_i q
  have z:=X _ _ q
  rw[go] at z
  cases z
  cases de
  split at e
  ·rename_i en he
   cases e
   rw[<- fe]
   unfold nsFind findBy
   rw[<- Array.find?_toList,he];rfl
  ·split at e <;> cases e
 ·cases e
structure OwnI (x:Str) (C fI:Addr) (mg:Str->Option Value) (h:Heap):Prop where
 bound:mg x=some (.ref C)
 obj:∃tl N nm q bs hdct sn sub ab col dd k0 k1 k2 k3 k5 mN oI,h.get? C=some (excClassObj nm q C N bs tl hdct sn sub ab col dd k0 k1 k2 k3 k5 "ValueError.__new__")/\h.Ns N mN/\mN "__init__"=some (.ref fI)/\OwnTail h bmV tl/\h.get? fI=some oI/\oI.cls=.type "function"
def del (H:Hp) (e:Addr):Hp:=fun b=>if b=e then none else H b
theorem del_same {H:Hp}{e:Addr}:del H e e=none:=by unfold del;rw[if_pos rfl]
theorem del_ne {H:Hp}{e b:Addr}(h:b≠e):del H e b=H b:=by unfold del;rw[if_neg h]
theorem Inv.del {X:Cx}{pins:List (Addr × Obj)}{σ:St}{H:Hp}{s:Shared}{e C:Addr}{dd:Option Addr}(I:Inv X pins σ H s) (he:H e=some (xNew e C dd)):Inv X pins σ (del H e) s := by
 have kp:∀(b:Addr) (v:HO),H b=some v->v≠xNew e C dd->L2.del H e b=some v:=fun b v z n=>by
  rw[del_ne fun q=>by rw[q,he] at z;exact n (ai z).symm];exact z
 have fr:∀b,H b=none->L2.del H e b=none:=fun b z=>by
  unfold L2.del;split
  ·rfl
  ·exact z
 refine⟨I.ok,I.os,I.bare,⟨I.base.keep,I.base.slot,fun b o z n hx=>fr b (I.base.free b o z n hx),I.base.there,fun b xs z=>kp b _ (I.base.tups b xs z) (by intro q;cases q),fun b o u z=>kp b _ (I.base.frzs b o u z) (by intro q;cases q),fun b ps z=>?_⟩,I.loc,I.cell,fr _ I.free,fun x c z=>fr _ (I.freeC x c z),fun p hp=>?_,fun b v z=>?_,I.len⟩
 ·obtain⟨more,q⟩:=I.base.tbls b ps z
  exact⟨more,kp b _ q (by intro q;cases q)⟩
 ·obtain⟨g1,g2,g3⟩:=I.pin p hp
  exact⟨g1,fr _ g2,g3⟩
 ·have hb:H b=some v:=by
     unfold L2.del at z;split at z
     ·cases z
     ·exact z
  exact(I.hok b v hb).stay (fun _ _ _ q=>q) (fun c q=>kp c _ q (by intro q;cases q)) fun c xs q=>kp c _ q (by intro q;cases q)
def tRaiseI (E:XK) (C:Addr) (sp:Sp) (ta:TA):TS:=fun _ σ H=>ta σ H fun vs H1=>vs.length<=sizeLine/\∀e,H1 e=none->sp (.ref e::vs) (upd H1 e (xNew e C none)) (fun v H2=>v=.non/\∃dd,H2 e=some (xNew e C dd)/\E (.ref C) dd (del H2 e)) E0
theorem ps_raiseI {P:Program}{w:World}{K:W.Frag}{mg:Str -> Option Value}{base:Heap}{N:List Str}{qual:Str}{scope:Scope}{f:Addr}{cd:Value}{A:Around}{outer:List Env}{s:Shared}{H:Hp}{E:XK}
    {x:Str} {C fI:Addr} {fd:FuncData} {ps:List Str} {sp:Sp} {k:Nat} {np cpos pos:Pos} {e₀:Expr} {rest:List Expr} {ta:TA} (O:OwnI x C fI mg base) (kp:W.keepIn K (.ref C)=true)
    (F:FnOk P w K mg base CX0 k fI fd ps sp) (hb:Binds K fd ps []) (hr:Room (k+1) (cxOf (CX1 P w) P w K mg base N qual scope f cd A outer s H E).A)
    (hg:Gl (cxOf (CX1 P w) P w K mg base N qual scope f cd A outer s H E) x) (ha:PA (cxOf (CX1 P w) P w K mg base N qual scope f cd A outer s H E) (e₀::rest) ta)
    (he:starEach (e₀::rest) (cxOf (CX1 P w) P w K mg base N qual scope f cd A outer s H E).env=(false,eval e₀ (cxOf (CX1 P w) P w K mg base N qual scope f cd A outer s H E).env)::starEach rest (cxOf (CX1 P w) P w K mg base N qual scope f cd A outer s H E).env:=by rfl)
    (hpl:(backTo cpos (starEach rest (cxOf (CX1 P w) P w K mg base N qual scope f cd A outer s H E).env)).any (·.1)=false:=by rfl) (hdb:(x==("__debug__":Str))=false:=by decide) :
    PS (cxOf (CX1 P w) P w K mg base N qual scope f cd A outer s H E) (.Raise (some (.Call (.Name x np) (e₀::rest) [] cpos)) none pos) (tRaiseI E C sp ta):=by
 intro pins s1 σ H1 D I h
 obtain⟨tl,Nn,nm,q,bs,hdct,sn,sub,ab,col,dd,k0,k1,k2,k3,k5,mN,oI,hC,hN,hi,T,gf,cf⟩:=O.obj
 rw[arm_exec_Raise]
 refine ad (wpAny_standAt (raiseStmtX (C:=C) (bm:=tl) (T.hasType PySem.F.excBase_ValueError.hasBase) (I.ok.hd rfl) ?_))
 show wpAny _ _ (do let v ← eval (.Call (.Name x np) (e₀::rest) [] cpos) _;standAt pos;pure v) _ _ _
 refine ad (thn (Q:=fun v s3=>∃e t dq,v=.ref e/\XAt s3.heap C tl/\s3.heap.get? e=some (excO C dq t)/\(cxOf (CX1 P w) P w K mg base N qual scope f cd A outer s H E).xe (.ref e) s3) ?_ fun v s3 z=>ad (wpAny_standAt (ag z)))
 refine bS (ld_glob I hg O.bound ?_ hdb)
 refine W.callWith_K (h₀:=base) I.ok.mod.kin kp (thn (ha cpos pins s1 σ H1 _ I h) fun us s2 ⟨vs,H2,I2,r,hl,q2⟩=>⟨I2.kIn,?_⟩) he hpl
 have bk:=I2.bk
 obtain⟨hh,g,d,tk,os⟩:=s2
 refine call_init PySem.F.excBase_ValueError (by decide) PySem.F.excBase_ValueError (T.keeps bk) (bk _ _ hC) (hN.keeps bk) hi (bk _ _ gf) cf (by rw[List.nil_append,<- r.length];exact hl) fun h' e hm=>?_
 rw[List.nil_append] at hm ⊢
 obtain⟨t,ge,_,_⟩:=hm.there
 have ne:H2 e=none:=by
  cases z:H2 e with
  | none=>rfl
  | some u =>
   obtain⟨o,ho⟩:=ObjOk.obj (I2.hok e u z)
   rw[hm.new] at ho;cases ho
 have n0:s.heap.get? e=none:=by
  cases z:s.heap.get? e with
  | none=>rfl
  | some o =>
   obtain⟨o',e'⟩:=I2.base.there e o z (by intro y;cases y)
   rw[hm.new] at e';cases e'
 have I3:Inv (cxOf (CX1 P w) P w K mg base N qual scope f cd A outer s H E) pins σ (upd H2 e (xNew e C none)) ⟨h',g,d,tk,os⟩ :=
  Inv.track I2 (I2.kept (t':=tk) hm.keeps) hm.new ne (xnew_ok ge)
 have hs:=q2 e ne
 have r2:Vals (V.ref e::vs) (Value.ref e::us):=.cons rfl r
 have hlen:(Value.ref e::us++[]).length=ps.length:=by rw[ba,<- r2.length];exact F.len _ _ _ _ hs
 refine wpAny_call (codeAny_mono (F.run _ _ _ _ ⟨Value.ref e::us,[]⟩ (Value.ref e::us++[]) (V.ref e::vs) _ _ (hr.make C us []) (I3.env0.make C us []) (hb _ (Value.ref e::us) I3.kIn hlen) (by rw[ba];exact r2) hs) fun r s' hq=>?_)
 cases r with
 | error ev=>exact False.elim hq
 | ok fl =>
  cases fl with
  | ret u =>
   obtain⟨v,H4,I4,rv,rfl,dq,e4,qE⟩:=I3.after hq
   obtain⟨t4,g4⟩:=xnew_at I4 e4
   refine⟨rv,e,t4,dq,rfl,⟨nm,q,Nn,bs,hdct,sn,sub,ab,col,dd,k0,k1,k2,k3,k5,_,I4.bk _ _ hC⟩,g4,?_⟩
   exact raiseG (I4.del e4) del_same g4 rfl rfl n0 qE
  | next=>exact False.elim hq
  | brk=>exact False.elim hq
  | cont=>exact False.elim hq
structure XGet (K:W.Frag) (C:Addr) (f:Str):Prop where
 na:W.findIn K (.ref C) f=some none
 hd:W.hasDictIn K C=true
section
open PySem.W PySem.Calls Builtin Builtin.ObjectAttr
variable {K:Frag}{x C:Addr}{h:Heap}{M:Model}{prog:Program}{w:World}{A:Around}{E:Value->Shared->Prop}{s:Shared}{ox od:Obj}{f:Str}{u:Value}
theorem xg_ga {tk:Tok}{R:Result->Shared->Prop}(Z:XFacts K C) (X:K.In s.heap) (I:InstAt s.heap x ox C (some od)) (hf:findObj K C (some od) f=some (.value u)) (h:R (.ok (.ret u)) s) :
    codeAny (model prog w) A (.call (.builtin "BaseException.__getattribute__") ⟨[.ref x,.str f tk],[]⟩) R s:=by
 have q1:=I.type (M:=model prog w)
 have q2:=looks_mroIn (M:=model prog w) X Z.hb
 have q3:=looks_find (M:=model prog w) X I hf
 have hk:builtinKind "BaseException.__getattribute__"=some .slot:=by decide +kernel
 have hs:splitId "BaseException.__getattribute__"=some ("BaseException","__getattribute__"):=by decide +kernel
 have ha:=PySem.F.args_bexc_ga (.ref x) (.str f tk)
 obtain⟨hh,g,dr,t,os⟩:=s
 refine codeAny_call_builtin PySem.F.attr_ValueError.ga.plain PySem.F.entry_bexc_ga ?_
 simp only[checkBuiltinCall,hk,hs]
 refine ad ?_
 unfold isInstance
 repeat lk
 exact h
theorem xg_get {b:Bool}{Q:Value->Shared->Prop}(Z:XFacts K C) (X:K.In s.heap) (I:InstAt s.heap x ox C (some od)) (hf:findObj K C (some od) f=some (.value u)) (hu:handedIn u=true) (h:Q u { s with toks:=s.toks+1 }) :
    wpAny (model prog w) A (getAttr (.ref x) f b) Q E s:=by
 have q1:=I.type (M:=model prog w)
 have q2:=looks_findIn (M:=model prog w) X Z.ga
 have q4:=looks_findIn (M:=model prog w) X Z.gb
 have f3:=PySem.F.attr_ValueError.ga.bind (.ref x)
 obtain⟨hh,g,dr,t,os⟩:=s
 simp only[getAttr,getAttrBy]
 refine ad (wpAny_mkText (aZ (ad (q1.at (ad (q2.at ?_))))))
 show wpAny _ _ (getAttrByItsOwn _ _ _ _ _ _) _ _ _
 refine ad ?_
 show wpAny _ _ (typeLookup (.ref C) "__getattr__") _ _ _
 refine q4.at (ad (wpAny_attempt (aZ ?_)))
 unfold callGetattribute
 rw[if_neg (by cases b <;> decide)]
 unfold boundAndCalled
 rw[f3]
 refine ad (ag ?_)
 show wpAny _ _ (call (.builtin "BaseException.__getattribute__") [.ref x,.str f t]) _ _ _
 refine wpAny_call (xg_ga Z X I hf ?_)
 show wpAny _ _ (handedOut u) _ _ _
 exact handed_on hu (by exact h)
end
section
variable {X:Cx}{e:Expr}{f:Str}{pos:Pos}{ta:TE}
def tFldX (K:W.Frag) (ta:TE) (f:Str):TE:=fun σ H Q=>ta σ H fun x H1=>∃a C d fs v,x=.ref a/\H1 a=some (xObj a C (some d))/\H1 d=some (.xd fs)/\fs.lookup f=some v/\XFacts K C/\XGet K C f/\Q v H1
theorem pe_fldX (he:PE X e ta) (hb:attributeBase e f X.env (eval e X.env)=eval e X.env):PE X (.Attribute e f pos) (tFldX X.K ta f):=by
 intro pins s σ H Q I h
 refine attr_of hb (thn (he pins s σ H _ I h) fun u s1 ⟨x,H1,I1,rx,a,C,d,fs,v,ex,ea,ed,l,Z,G,q⟩=>?_)
 subst ex
 obtain rfl:u=Value.ref a:=rx
 obtain⟨o,go,oc,dd,nc⟩:=(show ObjOk X.prog X.w H1 s1.heap a (xObj a C (some d)) from I1.hok a _ ea).1
 obtain⟨mA,ns,r⟩:=(show ObjOk X.prog X.w H1 s1.heap d (.xd fs) from I1.hok d _ ed)
 obtain⟨od,gd,lk⟩:=lookIn_ns ns
 obtain⟨u',hu,ru⟩:=RelO.some_of (v:=v) (o:=mA f) (by rw[<- l];exact r f)
 have J:W.InstAt s1.heap a o C (some od):=⟨go,oc,nc,by rw[dd];exact gd⟩
 exact xg_get Z I1.kIn J (W.findObj_own G.hd G.na rfl (by rw[lk,hu])) (handed_of ru) ⟨v,H1,I1.tok _,ru,q⟩
end
def ecOf (ps:List (Str × Addr)) (x:Str):Addr:=(ps.lookup x).getD 0
theorem ecOf_at:∀ {ps:List (Str × Addr)}, (ps.map (·.1)).Nodup -> ∀p ∈ ps, ecOf ps p.1=p.2
 | [],_,p,h=>by cases h
 | q::ps,nd,p,h=>by
  rw[aV,aP] at nd
  unfold ecOf
  rcases ax.mp h with rfl | h
  ·rw[bf];simp
  ·have ne:p.1≠q.1:=fun z=>nd.1 (z ▸ ap.mpr ⟨p,h,rfl⟩)
   have:(p.1==q.1)=false:=by simpa using ne
   rw[bf,this]
   exact ecOf_at nd.2 p h
theorem fa_nil {α:Type}{P:α->Prop}:∀x∈([]:List α),P x:=fun x h=>by cases h
theorem fa_cons {α:Type}{P:α->Prop}{a:α}{l:List α}(h:P a) (g:∀x∈l,P x):∀x∈a::l,P x:=fun x hx=>by
 rcases ax.mp hx with rfl | hx
 ·exact h
 ·exact g x hx
variable {K:W.Frag}{mg:Str->Option Value}{base:Heap}
theorem errs_mk {ps cs:List (Str × Addr)}(nd:(ps.map (·.1)).Nodup) (sub:∀p∈cs,p∈ps) (b:∀p∈ps,mg p.1=some (.ref p.2)) (f:∀p∈cs,XFacts K p.2) (ord:("OrderError":Str)∈cs.map (·.1))
    (kit:∀p∈cs,p.1≠"OrderError"->∀q∈ps,W.kitOne K (.ref p.2) (.ref q.2)=some (q.1==p.1||q.1==("OrderError":Str))) (val:∀p∈cs,W.kitOne K (.ref p.2) (.type "ValueError")=some true)
    (at_:∀p∈cs,∃bm,XAt base p.2 bm/\bm.contains (.type "BaseException")=true/\(Value.ref p.2::bm).contains (.ref (ecOf ps "OrderError"))=true) (nv:mg "ValueError"=none)
    (own:∀p∈cs,p.1∉(["NoText","Ring","NoUnit"]:List Str)->OwnCls p.1 p.2 [.type "ValueError",.type "Exception",.type "BaseException",.type "object"] "ValueError.__new__" mg base):Errs K mg base (ecOf ps) (ps.map (·.1)) (cs.map (·.1)):=by
 have e:=ecOf_at nd
 have q:∀ {x:Str},x∈ps.map (·.1)->∃p∈ps,p.1=x:=fun h=>by obtain⟨p,hp,rfl⟩:=ap.mp h;exact⟨p,hp,rfl⟩
 have r:∀ {x:Str},x∈cs.map (·.1)->∃p∈cs,p.1=x:=fun h=>by obtain⟨p,hp,rfl⟩:=ap.mp h;exact⟨p,hp,rfl⟩
 refine⟨fun x hx=>?_,fun x hx=>?_,ord,fun x hx hn y hy=>?_,fun x hx=>?_,fun x hx=>?_,nv,fun x hx hn=>?_⟩
 ·obtain⟨p,hp,rfl⟩:=q hx
  rw[e p hp];exact b p hp
 ·obtain⟨p,hp,rfl⟩:=r hx
  rw[e p (sub p hp)];exact f p hp
 ·obtain⟨p,hp,rfl⟩:=r hx
  obtain⟨p2,hp2,rfl⟩:=q hy
  rw[e p (sub p hp),e p2 hp2];exact kit p hp hn p2 hp2
 ·obtain⟨p,hp,rfl⟩:=r hx
  rw[e p (sub p hp)];exact val p hp
 ·obtain⟨p,hp,rfl⟩:=r hx
  rw[e p (sub p hp)];exact at_ p hp
 ·obtain⟨p,hp,rfl⟩:=r hx
  rw[e p (sub p hp)];exact own p hp hn
end L2
namespace MG
variable {es:List (Nat × Nat)}{n:Nat}{ks ls:List Nat}
def dueB (es:List (Nat × Nat)) (ks:List Nat) (v:Nat):Bool:=!decide (v∈ks)&&es.all fun e=>!decide (e.2=v)||decide (e.1∈ks)
end MG
namespace L2
open PySem PySem.Spec PyProof.Rows
def inCls (s:Stmt) (i:Nat):Stmt:=match s with
 | .ClassDef _ _ _ b _ _ _ _ _ _ _=>b.getD i (.Pass ⟨0,0,0,0⟩)
 | s=>s
section
variable {P:Program}{w:World}{K:W.Frag}{mg:Str->Option Value}{base:Heap}
variable {x:Str}{C N fI:Addr}{bm bs:List Value}{nm q:Str}{hdct:Bool}{sn:List Str}{sub:List Value}{ab:Bool}{col:Option Bool}{dd:Option Addr}{k0 k1 k2 k3 k5:Option Value}{h:Heap}
theorem ownI_mk {od:Option Addr}{dt:Data}{sl:Array (Option Value)}(X:K.In h) (bound:mg x=some (.ref C)) (lk:K.lookup C=some (excClassObj nm q C N bs bm hdct sn sub ab col dd k0 k1 k2 k3 k5 "ValueError.__new__")) (ok:W.nsOkIn K N=true)
    (ni:W.nsIn K N "__init__"=some (some (.ref fI))) (tl:W.tailIn K bmV bm=true) (lf:K.lookup fI=some ⟨.type "function",od,dt,sl⟩):OwnI x C fI mg h :=
 ⟨bound,bm,N,nm,q,bs,hdct,sn,sub,ab,col,dd,k0,k1,k2,k3,k5,_,_,X _ _ lk,.of_isNs (W.isNs_of_in X ok),ns_some X (.of_isNs (W.isNs_of_in X ok)) ni,W.tail_of_in X tl,X _ _ lf,rfl⟩
structure MkI (P:Program) (w:World) (K:W.Frag) (mg:Str->Option Value) (base:Heap) (k:Nat) (x:Str) (C:Addr) (ps:List Str) (sp:Sp):Prop where
 ex:∃(fI:Addr) (fd:FuncData),OwnI x C fI mg base/\W.keepIn K (.ref C)=true/\FnOk P w K mg base CX0 k fI fd ps sp/\Binds K fd ps []
theorem ps_raiseM {NN:List Str}{qual:Str}{scope:Scope}{f:Addr}{cd:Value}{A:Around}{outer:List Env}{s:Shared}{H:Hp}{E:XK}{ps:List Str}{sp:Sp}{k:Nat}{np cpos pos:Pos}{e₀:Expr}{rest:List Expr}{ta:TA}
    (m:MkI P w K mg base k x C ps sp) (hr:Room (k+1) (cxOf (CX1 P w) P w K mg base NN qual scope f cd A outer s H E).A)
    (hg:Gl (cxOf (CX1 P w) P w K mg base NN qual scope f cd A outer s H E) x) (ha:PA (cxOf (CX1 P w) P w K mg base NN qual scope f cd A outer s H E) (e₀::rest) ta)
    (he:starEach (e₀::rest) (cxOf (CX1 P w) P w K mg base NN qual scope f cd A outer s H E).env=(false,eval e₀ (cxOf (CX1 P w) P w K mg base NN qual scope f cd A outer s H E).env)::starEach rest (cxOf (CX1 P w) P w K mg base NN qual scope f cd A outer s H E).env:=by rfl)
    (hpl:(backTo cpos (starEach rest (cxOf (CX1 P w) P w K mg base NN qual scope f cd A outer s H E).env)).any (·.1)=false:=by rfl) (hdb:(x==("__debug__":Str))=false:=by decide) :
    PS (cxOf (CX1 P w) P w K mg base NN qual scope f cd A outer s H E) (.Raise (some (.Call (.Name x np) (e₀::rest) [] cpos)) none pos) (tRaiseI E C sp ta):=by
 obtain⟨fI,fd,O,kp,F,b⟩:=m.ex
 exact ps_raiseI O kp F b hr hg ha he hpl hdb
def spInitL (K:W.Frag) (fl:Str):Sp:=fun vs H Q _=>∃(e C l:Addr) (xs:List V),vs=[.ref e,.ref l]/\H e=some (xNew e C none)/\H l=some (.lst xs)/\XSet K C fl /\
 ∀r d,H r=none->H d=none->r≠d->Q .non (upd (upd (upd H r (.lst xs)) d (.xd [(fl,.ref r)])) e (xNew e C (some d)))
theorem initL_raise {E:XK}{C l e:Addr}{fl:Str}{xs:List V}{H1:Hp}(hl:H1 l=some (.lst xs)) (Z:XSet K C fl) (he:H1 e=none) (k:∀r d H',Same H1 H'->H1 r=none->H1 d=none->H' r=some (.lst xs)->H' d=some (.xd [(fl,.ref r)])->E (.ref C) (some d) H') :
    spInitL K fl [.ref e,.ref l] (upd H1 e (xNew e C none)) (fun v H2=>v=.non/\∃dd,H2 e=some (xNew e C dd)/\E (.ref C) dd (del H2 e)) E0:=by
 have hle:l≠e:=ne_of_none hl he
 refine⟨e,C,l,xs,rfl,upd_same,by rw[upd_ne hle];exact hl,Z,fun r d hr hd hrd=>⟨rfl,some d,upd_same,?_⟩⟩
 have hre:r≠e:=fun z=>by rw[z,upd_same] at hr;cases hr
 have hde:d≠e:=fun z=>by rw[z,upd_same] at hd;cases hd
 rw[upd_ne hre] at hr
 rw[upd_ne hde] at hd
 refine k r d _ (fun b o hb=>?_) hr hd ?_ ?_
 ·have n1:b≠e:=ne_of_none hb he
  rw[del_ne n1,upd_ne n1,upd_ne (ne_of_none hb hd),upd_ne (ne_of_none hb hr),upd_ne n1];exact hb
 ·rw[del_ne hre,upd_ne hre,upd_ne hrd,upd_same]
 ·rw[del_ne hde,upd_ne hde,upd_same]
end
def Cx.catch (X:Cx) (pins:List (Addr × Obj)) (σ:St) (E:XK):Cx:={ X with pn:=X.pn++pins,xe:=fun ev s'=>∃H1 s1,Inv X pins σ H1 s1/\CX1 X.prog X.w X.stack H1 s1 E ev s' }
section
variable {X:Cx}{pins pins':List (Addr × Obj)}{σ σ0:St}{H:Hp}{s:Shared}{E:XK}
theorem Cx.Ok.catch (ok:X.Ok):(X.catch pins σ0 E).Ok :=
 ⟨ok.mod,ok.kind,ok.glob,ok.blt,ok.above,ok.inj,ok.has,ok.cab,ok.hd,ok.frames,ok.stk,ok.exf,ok.bs,ok.bsz,ok.noex,ok.exfs,ok.funs,ok.frf⟩
theorem Inv.catch (I:Inv X pins σ H s):Inv (X.catch pins σ0 E) [] σ H s :=
 ⟨I.ok.catch,I.os,I.bare,I.base,I.loc,I.cell,I.free,I.freeC,fun p hp=>I.pin p (by rw[ba] at hp;exact hp),I.hok,I.len⟩
theorem Inv.ofCatch (ok:X.Ok) (I:Inv (X.catch pins σ0 E) pins' σ H s):Inv X pins σ H s :=
 ⟨ok,I.os,I.bare,I.base,I.loc,I.cell,I.free,I.freeC,fun p hp=>I.pin p (aU _ hp),I.hok,I.len⟩
theorem Inv.okC (I:Inv (X.catch pins σ0 E) pins' σ H s):X.Ok :=
 ⟨I.ok.mod,I.ok.kind,I.ok.glob,I.ok.blt,I.ok.above,I.ok.inj,I.ok.has,I.ok.cab,I.ok.hd,I.ok.frames,I.ok.stk,I.ok.exf,I.ok.bs,I.ok.bsz,I.ok.noex,I.ok.exfs,I.ok.funs,I.ok.frf⟩
def tCallT (σ0:St) (sp:Sp) (E:XK) (t:TA):TE:=fun σ H Q=>t σ H fun vs H1=>σ=σ0/\sp vs H1 Q E
theorem pe_calT {x:Str}{ps:List Str}{sp:Sp}{k:Nat}{p pos:Pos}{e:Expr}{es:List Expr}{t:TA}(c:CalX X.prog X.w X.K X.mg X.base k x ps sp) (hr:Room k X.A) (hg:Gl X x) (ha:PA (X.catch pins σ0 E) (e::es) t)
    (he:starEach (e::es) X.env=(false,eval e X.env)::starEach es X.env:=by rfl) (hpl:(backTo pos (starEach es X.env)).any (·.1)=false:=by rfl) (hdb:(x==("__debug__":Str))=false:=by decide) :
    PE (X.catch pins σ0 E) (.Call (.Name x p) (e::es) [] pos) (tCallT σ0 sp E t):=by
 intro pins' s σ H Q I h
 obtain⟨f,fd,F,mf,kp,b⟩:=c.ex
 refine bS (ld_glob (X:=X.catch pins σ0 E) I hg mf ?_ hdb)
 refine W.callWith_K (h₀:=X.base) I.ok.mod.kin kp (thn (ha pos pins' s σ H _ I h) fun us s1 ⟨vs,H1,I1,r,hσ,q⟩=>⟨I1.kIn,?_⟩) he hpl
 subst hσ
 have hl:(us++[]).length=ps.length:=by rw[ba,<- r.length];exact F.len _ _ _ _ q
 refine wpAny_call (codeAny_mono (F.run X.A X.stack s1 H1 ⟨us,[]⟩ (us++[]) vs Q E hr I1.env0 (b s1 us I1.kIn hl) (by rw[ba];exact r) q) fun r s' hq=>?_)
 cases r with
 | error ev=>exact⟨H1,s1,I1.ofCatch I.okC,hq⟩
 | ok fl =>
  cases fl with
  | ret u=>exact I1.after hq
  | next=>exact False.elim hq
  | brk=>exact False.elim hq
  | cont=>exact False.elim hq
def xHand (base:Heap) (Dc:Addr) (i:Nat) (th:TS) (D:Ends) (σ:St):XK:=fun cls dd H2=>∃C bm,cls=.ref C/\XAt base C bm/\(Value.ref C::bm).contains (.ref Dc)=true/\∀a,H2 a=none ->
    th { nx:=fun σ' H'=>D.nx (σ'.set i none) H',rt:=D.rt,bk:=fun σ' H'=>D.bk (σ'.set i none) H',ct:=fun σ' H'=>D.ct (σ'.set i none) H' } (σ.set i (some (.ref a))) (upd H2 a (xObj a C dd))
def tTryG (base:Heap) (tb:St->XK->TS) (Dc:Addr) (i:Nat) (th:TS):TS:=fun D σ H=>tb σ (xHand base Dc i th D σ) D σ H
theorem ps_tryG {Dc:Addr}{bmD:List Value}{Dn n:Str}{i:Nat}{q hpos tpos:Pos}{body:List Stmt}{tb:St -> XK -> TS}{b₀:Stmt}{suite:List Stmt}{th:TS}
    (hb:∀pins σ E,PSs (X.catch pins σ E) body (tb σ E)) (hst:X.stack=X.env::X.outer) (hfr:X.env.frame=some X.env.locals) (hgD:Gl X Dn) (hmD:X.mg Dn=some (.ref Dc)) (hD:XAt X.base Dc bmD) (hDb:bmD.contains (.type "BaseException")=true)
    (hN:X.N.Nodup) (hi:X.N[i]? = some n) (hl:X.env.scope.names.lookup n=some .local) (hs:∀a xe,PSs (X.mark (.ref a) xe) (b₀::suite) th) (hdD:(Dn==("__debug__":Str))=false:=by decide) :
    PS X (.Try body [.ExceptHandler (some (.Name Dn q)) (some n) (b₀::suite) hpos] [] [] tpos) (tTryG X.base tb Dc i th):=by
 intro pins s σ H D I h
 refine wpAny_Try_except (bh (hb pins σ _ [] s σ H D I.catch h) (fun fl s' hq=>?_) fun ev s' hq=>?_)
 ·have ok:=I.ok
  cases fl with
  | next =>
   obtain⟨σ',H',I',q'⟩:=hq
   exact wpAny_execs_nil ⟨σ',H',I'.ofCatch ok,q'⟩
  | brk =>
   obtain⟨σ',H',I',q'⟩:=hq
   exact⟨σ',H',I'.ofCatch ok,q'⟩
  | cont =>
   obtain⟨σ',H',I',q'⟩:=hq
   exact⟨σ',H',I'.ofCatch ok,q'⟩
  | ret u =>
   obtain⟨v,σ',H',I',r',q'⟩:=hq
   exact⟨v,σ',H',I'.ofCatch ok,r',q'⟩
 ·obtain⟨H1, s1, I1, a, cls, dq, B, H', rfl, os, bare, un, hok, fl, hna, TB, KB, AB, C, bm, rfl, hC, hin, hq2⟩ := hq
  have fl':XF B (X.env::X.outer) a (.ref C) dq .none s'.heap:=hst ▸ fl
  have ne1:s1.heap.get? a=none := by
   cases z:s1.heap.get? a with
   | none=>rfl
   | some ob =>
    by_cases hb:a∈frs X.stack
    ·obtain⟨_,o1,g1,g2⟩:=fl.2.2.1.mem hb
     obtain⟨oe,vs',he',hd'⟩:=fl.rec
     rw[g1] at he';cases he'
     exact absurd hd' (g2 vs')
    ·obtain⟨o',e'⟩:=AB a ob z hb
     have:=fl.2.1
     rw[e'] at this;cases this
  have hfrm:X.A.frames=some (X.env::X.outer):=hst ▸ I.ok.frames
  refine noteX hfrm hfr fl' fun h4 f4 sm4=>?_
  refine landX (s:={ s' with heap:=h4 }) f4 fun h5 f5 sm5=>?_
  have I5:Inv X pins σ H' { s' with heap:=h5 }:=inv_fly I1 hst hfr os bare un hok (hst ▸ f5) (sm4.trans sm5) TB KB AB
  refine wpAny_handleBy_cons (codeAny_handlers_test (ld_glob (X:=X.mark (.ref a) (fun _ _=>False)) I5.mark hgD hmD ?_ hdD)) (by intro z;cases z)
  obtain⟨oe,ge,gc,_⟩:=f5.there
  obtain⟨nm,qq,NN,bs,hdct,sn,sub,ab,col,dd,k0,k1,k2,k3,k5,newId,gC⟩:=hC
  obtain⟨nm',qq',NN',bs',hdct',sn',sub',ab',col',dd',j0,j1,j2,j3,j5,newId',gD⟩:=hD
  refine matches_own (I5.bk _ _ gC) ge gc (I5.bk _ _ gD) hDb hin (codeAny_handlers_suite_as (landX (s:={ s' with heap:=h5 }) f5 fun h6 f6 sm6=>?_))
  have I6:Inv X pins σ H' { s' with heap:=h6 }:=inv_fly I1 hst hfr os bare un hok (hst ▸ f6) ((sm4.trans sm5).trans sm6) TB KB AB
  obtain⟨o6,g6,c6,d6⟩:=f6.there
  have n6:W.notCls o6=true:=by
   obtain⟨o7,vs7,g7,k7⟩:=f6.rec
   have z7:=ai (g7.symm.trans g6)
   rw[<- z7]
   unfold W.notCls
   rw[k7]
  have I7:Inv X pins σ (upd H' a (xObj a C dq)) { s' with heap:=h6 }:=Inv.track I1 I6 ne1 hna ⟨⟨o6,g6,c6,d6,n6⟩,⟨o6,g6⟩,fun h1 h2 ⟨o,e1,e2⟩ z=>⟨o,z o e1,e2⟩⟩
  refine store_ok (v:=.ref a) I7 hN hi (.inl hl) rfl (fun s8 I8=>?_) (.inr hl)
  refine bh (hs a _ pins s8 _ _ _ I8.mark (hq2 a hna)) (fun fl s9 h9=>?_) fun ev s9 h9=>h9
  cases fl with
  | next =>
   obtain⟨σ',H9,I9,q9⟩:=h9
   exact unname (I9.unmark I.ok) hN hi hl fun s' I'=>⟨_,_,I',q9⟩
  | brk =>
   obtain⟨σ',H9,I9,q9⟩:=h9
   exact unname (I9.unmark I.ok) hN hi hl fun s' I'=>⟨_,_,I',q9⟩
  | cont =>
   obtain⟨σ',H9,I9,q9⟩:=h9
   exact unname (I9.unmark I.ok) hN hi hl fun s' I'=>⟨_,_,I',q9⟩
  | ret u =>
   obtain⟨v,σ',H9,I9,r9,q9⟩:=h9
   exact unname (I9.unmark I.ok) hN hi hl fun s' I'=>⟨v,_,_,I',r9,q9⟩
end
def leS (a b:Str):Prop:=¬ b.cps.toList<a.cps.toList
theorem leS.trans {a b c:Str}(h:leS a b) (g:leS b c):leS a c:=by
 unfold leS at *
 rw[List.not_lt] at *
 exact List.le_trans h g
theorem leS.anti {a b:Str}(h:leS a b) (g:leS b a):a=b:=by
 unfold leS at *
 rw[List.not_lt] at *
 have e:=List.le_antisymm h g
 cases a;cases b
 congr 1
 exact Array.toList_inj.mp e
theorem risingS_pw:∀(p:Str) (l:List Str),risingS p l=true->(p::l).Pairwise leS
 | p,[],_=>List.pairwise_singleton ..
 | p,x::r,h=>by
  have h:(!ltCps x.cps.toList p.cps.toList&&risingS x r)=true:=h
  rw[bd,ltCps_eq] at h
  have h1:leS p x:=by simpa [leS] using h.1
  have ih:=risingS_pw x r h.2
  refine List.pairwise_cons.mpr ⟨fun y hy=>?_,ih⟩
  rcases ax.mp hy with rfl | hy
  ·exact h1
  ·exact h1.trans (List.rel_of_pairwise_cons ih hy)
theorem sortedS_pw:∀ {l:List Str},sortedS l=true->l.Pairwise leS
 | [],_=>.nil
 | x::r,h=>risingS_pw x r h
theorem sortedS_uniq {as bs:List Str}(p:as.Perm bs) (ha:as.Pairwise leS) (hb:bs.Pairwise leS):as=bs :=
 List.Perm.eq_of_pairwise (le:=leS) (fun a b _ _ h1 h2=>h1.anti h2) ha hb p
theorem strsAre_of:∀ {ss:List Str}{its:List Value}, Vals (List.map V.str ss) its -> StrsAre its ss
 | [],[],_=>.nil
 | [],_::_,h=>by cases h
 | _::_,[],h=>by cases h
 | x::ss,u::its,h=>by
  cases h with
  | cons a b =>
   obtain⟨t,rfl⟩:=a
   exact .cons _ t (strsAre_of b)
theorem vals_strsA:∀ {its:List Value}{ss:List Str},StrsAre its ss->Vals (List.map V.str ss) its
 | _,_,.nil=>.nil
 | _,_,.cons x t h=>.cons ⟨t,rfl⟩ (vals_strsA h)
section
variable {X:Cx}{p pos:Pos}{e:Expr}{t:TA}
def hpC (h:Heap) (xs:Array Value):Heap:=(h.push { cls:=.type "list",data:=.seq ([]:List Value).toArray }).update h.objs.size (Obj.mapSeq (·++xs))
theorem hpC_old {h:Heap}{xs:Array Value}{b:Addr}{u:Obj}(e:h.get? b=some u):(hpC h xs).get? b=some u :=
 (bV _ _ (bJ (ak e))).trans (ay _ e)
theorem hpC_size {h:Heap}{xs:Array Value}:h.objs.size<=(hpC h xs).objs.size:=by
 unfold hpC
 rw[Heap.size_update,size_push']
 exact Nat.le_succ _
theorem coll_seq {prog:Program}{w:World}{A:Around}{E:Value->Shared->Prop}{s:Shared}{Q:List Value->Shared->Prop}{T:String}{a:Addr}{o:Obj}{xs:Array Value}{n:Nat}(hT:T="list"∨T="tuple") (ho:s.heap.get? a=some o) (hc:o.cls=.type T) (hd:o.data=.seq xs n) (hz:xs.size<=sizeLine)
    (k:Q xs.toList { s with heap:=hpC s.heap xs }):wpAny (model prog w) A (collect (.ref a)) Q E s:=by
 have at0:(s.heap.push { cls:=.type "list",data:=.seq ([]:List Value).toArray }).get? s.heap.objs.size=some { cls:=.type "list",data:=.seq #[] 0 }:=aF _ rfl
 have at2:=bU (Obj.mapSeq (·++xs)) at0 rfl
 have all:∀R:Result->Shared->Prop,R (.ok (.ret (.ref s.heap.objs.size))) { s with heap:=hpC s.heap xs }->codeAny (model prog w) A (.builtin "proto.collect" ⟨[.ref a],[]⟩) R s:=fun R hR=>by
  refine codeAny_builtin F.entry_proto_collect ?_
  rw[Around.under_plainId F.plain_proto_collect _]
  refine ad (m:=newList []) (wpAny_newObj_type (ag ⟨plainId_quiet F.plain_list_iadd _,codeAny_builtin F.entry_list_iadd ?_⟩))
  rw[Around.under_plainId F.plain_list_iadd _]
  exact wpAny_extend_seq (hsz:=hz) (A:=A) (R:=R) (s:={ s with heap:=s.heap.push { cls:=.type "list",data:=.seq ([]:List Value).toArray } }) _ a _ 0 hT at0 (ay _ ho) hc hd hR
 unfold collect
 refine ad (wpAny_runValue (all _ ?_))
 show wpAny _ A (load s.heap.objs.size >>= _) _ _ _
 refine ad (wpAny_load at2 (ag ?_))
 rw[show ((#[]:Array Value)++xs).toList=xs.toList by simp]
 exact k
theorem sort_texts {prog:Program}{w:World}{A:Around}{E:Value->Shared->Prop}{s:Shared}{T:String}{a:Addr}{o:Obj}{vs:List Value}{n:Nat}{ss:List Str}{Q:Value->Shared->Prop}(hT:T="list"∨T="tuple")
    (ho:s.heap.get? a=some o) (hc:o.cls=.type T) (hd:o.data=.seq vs.toArray n) (hS:StrsAre vs ss) (h64:vs.length<64)
    (k:∀h' x ss' out e,(∀b u,s.heap.get? b=some u->h'.get? b=some u)->s.heap.objs.size<=x->StrsAre out ss'->ss'.Perm ss->ss'.Pairwise leS->h'.get? x=some (seqObj "list" out.toArray e)->Q (.ref x) { s with heap:=h' }) :
    wpAny (model prog w) A (call (.builtin "sorted") [.ref a]) Q E s:=by
 refine Calls.call_function_entry kind_sorted plain_sorted entry_sorted (args_sorted1 _) ?_
 show wpAny _ _ (do
  checkCount "sorted" 1 1 1
  let l ← newList (← collect (.ref a))
  let _ ← holding [l] (call (.builtin "list.sort") [l] [])
  ret l) _ _ s
 refine ad (m:=checkCount "sorted" 1 1 1) (ag ?_)
 refine ad (coll_seq hT ho hc hd (by rw[aE];exact aT (small1000 (by omega))) ?_)
 obtain⟨h1,eh⟩:∃h1,h1=hpC s.heap vs.toArray:=⟨_,rfl⟩
 have k1:∀b u,s.heap.get? b=some u->h1.get? b=some u:=fun b u e=>eh ▸ hpC_old e
 have sz:s.heap.objs.size<=h1.objs.size:=eh ▸ hpC_size
 rw[<- eh]
 refine ad (wpAny_newList ?_)
 have at1:(h1.push (seqObj "list" vs.toArray 0)).get? h1.objs.size=some (seqObj "list" vs.toArray 0):=aF _ rfl
 refine ad (aZ (wpAny_call_entry slot_list_sort ⟨_,at1,rfl⟩ entry_list_sort (list_sort_treeK strKind_oneLt at1 hS.keysOf (fun x y r q=>keyKind_strs (q ▸ hS)) h64 fun st a1 a2=>⟨_,rfl,?_⟩) (args_list_sort _)))
 obtain⟨ss',g1,g2,g3⟩:=sorted_out_str hS a1 a2
 obtain⟨en,at2⟩:=sortedHeap_at (out:=(arrOf st).map (·.2)) at1
 have old:∀b u,s.heap.get? b=some u->(sortedHeap (h1.push (seqObj "list" vs.toArray 0)) h1.objs.size vs ((arrOf st).map (·.2))).get? b=some u:=fun b u hb=>by
  have q:=k1 b u hb
  have lt:=ak q
  rw[sortedHeap_old (aB lt) (by rw[size_push'];exact Nat.lt_succ_of_lt lt)]
  exact ay _ q
 exact ag ⟨_,rfl,k _ _ ss' _ en old sz g1 g2 (sortedS_pw g3) (by rw[Array.toArray_toList];exact at2)⟩
def rSortS (K:W.Frag):List V->Hp->VK->Prop:=fun xs H Q=>∃a ss,xs=[.ref a]/\(SqL K H a (List.map V.str ss)∨SqT K H a (List.map V.str ss))/\ss.length<64/\∀l ss',H l=none->ss'.Perm ss->ss'.Pairwise leS->Q (.ref l) (upd H l (.lst (List.map V.str ss')))
theorem call_sortS:CallR X (.builtin "sorted") (rSortS X.K) := by
 intro pins s σ H xs us Q I r h
 obtain⟨a,ss,rfl,hq,hl,q⟩:=h
 obtain⟨u,rfl,ru⟩:=vals1 r
 cases ru
 obtain⟨T,o,its,n,hT,ho,hc,hd,rv⟩:∃T o its n,(T="list"∨T="tuple")/\s.heap.get? a=some o/\o.cls=.type T/\o.data=.seq (List.toArray its) n/\Vals (List.map V.str ss) its:=by
  rcases hq with hq | hq
  ·obtain⟨its,rv,⟨o,n,e,c,_,d⟩,_⟩:=I.list hq
   exact⟨_,o,its,n,.inl rfl,e,c,d,rv⟩
  ·obtain⟨its,rv,⟨o,e,c,n,d⟩,_⟩:=I.tuple hq
   exact⟨_,o,its,n,.inr rfl,e,c,d,rv⟩
 have len:its.length=ss.length:=by have:=rv.length;rw[aa] at this;exact this.symm
 refine sort_texts hT ho hc hd (strsAre_of rv) (by omega) fun h' x ss' out en k1 sz g1 g2 g3 at2=>?_
 have hz:(List.map V.str ss').length<=sizeLine:=by rw[aa,g2.length_eq];exact aT (small1000 (by omega))
 exact⟨.ref x,_,I.laid (o:=.lst (List.map V.str ss')) (t':=s.toks) k1 sz ⟨hz,out,en,vals_strsA g1,by simpa [seqObj] using at2⟩,rfl,q _ _ (I.hok.fresh sz) g2 g3⟩
theorem b_sortS (K:W.Frag) (hm:X.mg "sorted"=none) (ha:PA X [e] t) (hg:Gl X "sorted":=by rfl) (he:starEach [e] X.env=(false,eval e X.env)::starEach [] X.env:=by rfl) (hpl:(backTo pos (starEach [] X.env)).any (·.1)=false:=by rfl) (hK:X.K=K:=by rfl) :
    PE X (.Call (.Name "sorted" p) [e] [] pos) (tCB (rSortS K) t):=hK ▸ pe_callB call_sortS hg hm (show bootBuiltins "sorted"=some (.builtin "sorted") by decide +kernel) ha (by decide) (by decide) he hpl
end
end L2
namespace L2
open PySem PySem.Spec PyProof.Rows PySem.W
def up1 (c:Nat):Nat:=if 97<=c/\c<=122 then c-32 else c
end L2
namespace L2
open PySem PySem.Spec PyProof.Rows
namespace SU
theorem typeCall (a:Value):checkTypeCall "set" ⟨[a],[]⟩=pure ():=by kernel_rfl
theorem newCall (a:Value):checkBuiltinCall "set.__new__" ⟨[.type "set",a],[]⟩=pure ():=by kernel_rfl
theorem entry_loop:entryFor table "set.update.loop"=some Builtin.«set.update.loop»:=entryFor_of_tree (by kernel_rfl)
theorem plain_loop:plainId "set.update.loop"=true:=by decide +kernel
section
variable {prog:Program}{w:World}{A:Around}{E:Value->Shared->Prop}{s:Shared}
theorem code_new (a:Value) {Q₁:Value->Shared->Prop}
    (h:∀led:Bool,Q₁ (.ref s.heap.objs.size) { s with heap:=s.heap.push { cls:=.type "set",dict:=none,data:=.set #[] 0 (.fresh 0 0 led) } }) :
    codeAny (model prog w) A (.call (.builtin "set.__new__") ⟨[.type "set",a],[]⟩) (wants Q₁ E) s:=by
 refine codeAny_call_builtin F.plain_set_new F.entry_set_new (wpAny_of_eq (newCall a) ?_)
 unfold Builtin.«set.__new__» Builtin.Frozenset.newClass
 have hsub:=sub_set_self
 obtain⟨hp,g,d,tk,os⟩:=s
 dsimp only
 wp_walk
 refine wpAny_askSetting (ag ?_)
 dsimp only
 simp only[newObj]
 refine ad (wpAny_alloc (ag ?_))
 exact ag (h _)
theorem check_init {M:Model}{self a:Value}{Q:Unit->Shared->Prop}(hT:s.TypeIs self "set") (hQ:Q () s):wpAny M A (checkBuiltinCall "set.__init__" ⟨[self,a],[]⟩) Q E s:=by
 simp only[checkBuiltinCall,kind_set_init,split_set_init,sig_set_init]
 refine ad (wpAny_isInstance hT sub_set_self ?_)
 simp only[Bool.not_true,ca,if_false]
 unfold Bind.checkArgs
 dsimp only
 refine ad (PyProof.Rows.printed_name (by decide) ?_)
 refine ad (PyProof.Rows.printed_star (self:=self) rfl hT fun short=>?_)
 rw[show (if (Manifest.Receiver.self==Manifest.Receiver.none)=true then [self,a].length else [self,a].length-1)=1 from rfl,List.map_nil]
 have e:Bind.check ⟨.positional,"set","*",.self,[⟨"iterable",.posOnly,false⟩]⟩ "set" short 1 []=pure ():=by
  simp[Bind.check,Bind.checkCount,Bind.isPositional]
  exact fun z=>absurd z (by decide)
 exact wpAny_of_eq e hQ
set_option maxHeartbeats 4000000 in
theorem call1 {a:Value}{Q:Value -> Shared -> Prop}(h:∀led:Bool, wpAny (model prog w) A.in1.in1 (Builtin.«set.__init__» ⟨[.ref s.heap.objs.size, a], []⟩)
        (fun fin s'=>match fin with | .done f=>wants (fun r s₂=>r=.none/\Q (.ref s.heap.objs.size) s₂) E (.ok f) s' | .again c'=>c'.quiet=true/\codeAny (model prog w) A.in1 c' (wants (fun r s₂=>r=.none/\Q (.ref s.heap.objs.size) s₂) E) s')
        (fun e s'=>wants (fun r s₂=>r=.none/\Q (.ref s.heap.objs.size) s₂) E (.error e) s') { s with heap:=s.heap.push { cls:=.type "set",dict:=none,data:=.set #[] 0 (.fresh 0 0 led) } }) :
    wpAny (model prog w) A (call (.type "set") [a]) Q E s:=by
 obtain⟨c,tl,hmro⟩:=F.called_set.mro
 have hmade:=F.called_set.made
 have hsub:=F.called_set.sub
 refine wpAny_call (codeAny_of_tree (show wpAny _ _ (callAny (.type "set") _) _ _ _ from ag ⟨Code.quiet_builtin _ (by decide +kernel),codeAny_builtin F.entry_type_call ?_⟩))
 rw[Around.under_plain (weight_type_call_type "set" [a] []) rfl]
 have h1:=F.called_set.notType
 have h2:=F.called_set.canCreate
 have hct:=typeCall a
 repeat (any_goals (first | assumption | wp_step))
 refine codeAny_mono (code_new (E:=E) a (Q₁:=fun obj s₁=>∃led:Bool,obj=.ref s.heap.objs.size/\s₁={ s with heap:=s.heap.push { cls:=.type "set",dict:=none,data:=.set #[] 0 (.fresh 0 0 led) } }) fun led=>⟨led,rfl,rfl⟩) fun r s₁ hr=>?_
 cases r with
 | error e=>exact hr
 | ok fl =>
  cases fl with
  | ret obj =>
   obtain⟨led,eo,es⟩:=hr
   subst eo es
   have hT:Shared.TypeIs { s with heap:=s.heap.push { cls:=.type "set",dict:=none,data:=.set #[] 0 (.fresh 0 0 led) } } (.ref s.heap.objs.size) "set":=⟨_,aF _ rfl,rfl⟩
   have hli:=F.called_set.init.lookup
   have hbi:=F.called_set.init.bind (.ref s.heap.objs.size)
   repeat (any_goals (first | assumption | wp_step))
   refine codeAny_mono (codeAny_call_builtin (R:=wants (fun r s₂=>r=.none/\Q (.ref s.heap.objs.size) s₂) E) F.called_set.init.plain F.entry_set_init (check_init hT (h led))) fun r2 s2 hr2=>?_
   cases r2 with
   | error e=>exact hr2
   | ok fl2 =>
    cases fl2 with
    | ret r =>
     obtain⟨er,hq⟩:=hr2
     subst er
     repeat (any_goals (first | assumption | wp_step))
    | _=>exact hr2.elim
  | _=>exact hr.elim
theorem cut_set {n:Nat}{a:Addr}{Q:String->Shared->Prop}(hT:s.TypeIs (.ref a) "set") (h:Q "set" s):wpAny (model prog w) A (typeNameOfCut n (.ref a)) Q E s:=by
 unfold typeNameOfCut shownTypeOf
 refine ad (ad (wpAny_typeOf hT ?_))
 simp only[show (Value.type "set"==Value.type "builtin_function_or_method")=false by decide,ca,if_false]
 refine ag ?_
 rw[show typeNameCut n (.type "set")=typeName (.type "set") from rfl]
 exact wpAny_of_eq (by kernel_rfl:typeName (.type "set")=pure "set") h
theorem any_list {b:Addr}{Q:Bool->Shared->Prop}(hT:s.TypeIs (.ref b) "list") (h:Q false s):wpAny (model prog w) A (Builtin.Frozenset.isAnySet (.ref b)) Q E s:=by
 unfold Builtin.Frozenset.isAnySet
 refine ad (wpAny_isInstance hT (by rw[isSubtype_type];kernel_rfl:isSubtype (.type "list") (.type "set")=pure false) ?_)
 exact wpAny_isInstance hT (by rw[isSubtype_type];kernel_rfl:isSubtype (.type "list") (.type "frozenset")=pure false) h
end
end SU
def setO (P:Program) (w:World) (a:Addr) (S:Str->Bool) (n:Nat):HO:=.ext fun h=>h.SetOf (strKind P w) a S n
theorem setO_ok {P:Program}{w:World}{H:Hp}{h:Heap}{a:Addr}{S:Str->Bool}{n:Nat}(x:h.SetOf (strKind P w) a S n):ObjOk P w H h a (setO P w a S n):=by
 refine⟨x,let ⟨o,_,_,_,ho,_⟩:=x;⟨o,ho⟩,fun h1 h2 y k=>?_⟩
 obtain⟨o,es,ep,t,ho,r⟩:=y
 exact⟨o,es,ep,t,k _ ho,r⟩
def SetI (P:Program) (w:World) (H:Hp) (l:Addr) (ys:List Str) (i:Nat) (H':Hp):Prop:=∃S n,H'=upd H l (setO P w l S n)/\(∀k,S k=true ↔ k∈ys.take i)/\n<=i/\(n=i ↔ (ys.take i).Nodup)
theorem set_loop {X:Cx}{pins:List (Addr × Obj)}{σ:St}{nm:Str}{tp:Pos}{J:It}{fp:List Addr}{it:Addr}{tn:Nat -> Heap -> Prop}(T:Turn X.prog X.w X.K (.Name nm tp) J fp it tn) (hc:X.calm=true) (d:Addr) (H0:Hp) (ys:List Str) (hy:ys.length <= 1000) (hd0:H0 d=none)
    (go:∀i H,i<ys.length->SetI X.prog X.w H0 d ys i H->J.go i H/\∀x H1,J.yld i H x H1->H1=H/\∃z,x=.str z/\ys[i]? = some z)
    (stop:∀H,SetI X.prog X.w H0 d ys ys.length H->J.stop ys.length H) {R:Result->Shared->Prop}:∀(k i:Nat) (s:Shared) (H:Hp),ys.length-i=k->i<=ys.length->Inv X pins σ H s->(∀b∈fp,FpOk X pins H b)->tn i s.heap->SetI X.prog X.w H0 d ys i H ->
     (∀H' s',Inv X pins σ H' s'->SetI X.prog X.w H0 d ys ys.length H'->R (.ok (.ret .none)) s')->codeAny (model X.prog X.w) X.A.in1 (.builtin "set.update.loop" ⟨[.ref d,.ref it],[]⟩) R s:=by
 intro k
 induction k with
 | zero =>
  intro i s H hk hi I hf ht hd hR
  have hin:i=ys.length:=by omega
  subst hin
  refine codeAny_builtin SU.entry_loop ?_
  rw[Around.under_plainId SU.plain_loop _]
  show wpAny _ X.A.in1.in1 (pyNext (.ref it) >>= _) _ _ s
  refine ad (bh (T.done { X with A:=X.A.in1.in1 } rfl rfl rfl hc _ pins s σ H _ (I.atA _ rfl rfl) hf ht (stop H hd)) (fun r s1 ⟨e,I1⟩=>?_) fun _ _ z=>z)
  subst e
  exact ag (hR H s1 (Inv.ofA I.ok I1) hd)
 | succ k ih =>
  intro i s H hk hi I hf ht hd hR
  have hlt:i<ys.length:=by omega
  obtain⟨hg,hyl⟩:=go i H hlt hd
  refine codeAny_builtin SU.entry_loop ?_
  rw[Around.under_plainId SU.plain_loop _]
  show wpAny _ X.A.in1.in1 (pyNext (.ref it) >>= _) _ _ s
  refine ad (bh (wpAny_flat (T.item { X with A:=X.A.in1.in1 } rfl rfl rfl hc i pins s σ H _ (I.atA _ rfl rfl) hf ht hg)) (fun r s1 ⟨u,e,x,H1,I1,rx,yl,t1,fn⟩=>?_) fun _ _ z=>z)
  subst e
  replace I1:=Inv.ofA I.ok I1
  obtain⟨eH,z,ex,hz⟩:=hyl x H1 yl
  subst ex eH
  obtain⟨tk,rfl⟩:=rx
  obtain⟨S,n,eH,hS,hn,hnd⟩:=hd
  have hok:=I1.hok d _ (by rw[eH];exact upd_same)
  have hset:s1.heap.SetOf (strKind X.prog X.w) d S n:=hok.1
  show wpAny _ _ (holding [Value.str z tk] (setAdd d (.str z tk)) >>= _) _ _ _
  refine ad (aZ ?_)
  unfold setAdd
  refine aZ (ad ((strKind X.prog X.w).pyHash (k:=z) (strKind_is _ _ _ _) ?_))
  refine wpAny_setAddHashed_of (s:={ s1 with toks:=s1.toks+1 }) (strKind_is _ _ _ _) rfl hset (Nat.lt_of_le_of_lt (by omega:n+1<=1001) (by decide)) fun h' hsb hset'=>?_
  have hmem:∀k,(S k||decide (k=z))=true ↔ k∈ys.take (i+1):=fun k=>by
   rw[Bool.or_eq_true,decide_eq_true_iff,hS k,au,hz,aq]
   exact⟨fun h=>h.imp id fun h=>by rw[h];simp,fun h=>h.imp id fun h=>by simpa using h⟩
  have hnod:(ys.take (i+1)).Nodup ↔ (ys.take i).Nodup/\z∉ys.take i:=by
   rw[au,hz,bn]
   exact⟨fun h=>⟨h.1,fun q=>h.2.2 z q z (by simp) rfl⟩,fun h=>⟨h.1,by simp,fun x hx y hy e=>h.2 (by
    have hy:y=z:=by simpa using hy
    rw[<- hy,<- e];exact hx)⟩⟩
  have I2:Inv X pins σ (upd H1 d (setO X.prog X.w d (fun k'=>S k'||decide (k'=z)) (if S z then n else n+1))) { s1 with heap:=h',toks:=s1.toks+1 }:=d_write (t':=s1.toks+1) I1 (by rw[eH,upd_same];exact True.intro) hsb (let ⟨o,_,_,_,ho,_⟩:=hset';⟨o,ho⟩) (setO_ok hset')
  have eu:upd H1 d (setO X.prog X.w d (fun k'=>S k'||decide (k'=z)) (if S z then n else n+1))=upd H0 d (setO X.prog X.w d (fun k'=>S k'||decide (k'=z)) (if S z then n else n+1)):=by rw[eH,upd_upd]
  have dn:∀b∈fp,b≠d:=fun b hb q=>by
   have:=fn b hb
   rw[q,eH,upd_same] at this
   cases this
  refine ag ⟨plainId_quiet SU.plain_loop _,ih (i+1) _ _ (by omega) hlt I2 (fun b hb=>?_) (T.keep _ _ _ t1 fun b hb o q=>(hsb.2 b (dn b hb)).trans q) ⟨_,_,eu,hmem,?_,?_⟩ hR⟩
  ·obtain⟨_,f1,f2,f3,f4,f5⟩:=hf b hb
   exact⟨by rw[upd_ne (dn b hb)];exact fn b hb,f1,f2,f3,f4,f5⟩
  ·split <;> omega
  ·rw[hnod,<- hnd]
   cases c:S z with
   | true =>
    have:=(hS z).mp c
    exact⟨fun h=>by have h:n=i+1:=h;omega,fun h=>absurd this h.2⟩
   | false =>
    have:z∉ys.take i:=fun q=>by rw[(hS z).mpr q] at c;cases c
    exact⟨fun h=>⟨by have h:n+1=i+1:=h;omega,this⟩,fun h=>by show n+1=i+1;omega⟩
theorem call_setL {X:Cx}(hc:X.calm=true) {pins:List (Addr × Obj)}{s:Shared}{σ:St}{H:Hp}{p:Addr}{ys:List Str}{Q:VK}(I:Inv X pins σ H s) (hq:SqL X.K H p (List.map V.str ys)) (hy:ys.length<=1000)
    (q:∀l S n,H l=none->n<=ys.length->(n=ys.length ↔ ys.Nodup)->Q (.ref l) (upd H l (setO X.prog X.w l S n))):wpAny (model X.prog X.w) X.A (call (.type "set") [.ref p]) (EP X pins σ Q) X.xe s:=by
 refine SU.call1 fun led=>?_
 have hl:H s.heap.objs.size=none:=I.hok.fresh (ae _)
 have hnew:(⟨s.heap.push { cls:=.type "set",dict:=none,data:=.set #[] 0 (.fresh 0 0 led) },s.gens,s.drawn,s.toks,s.os⟩:Shared).TypeIs (.ref s.heap.objs.size) "set":=⟨_,aF _ rfl,rfl⟩
 have hset:(s.heap.push { cls:=.type "set",dict:=none,data:=.set #[] 0 (.fresh 0 0 led) }).SetOf (strKind X.prog X.w) s.heap.objs.size (fun _=>false) 0:=by
  refine⟨_,#[],0,_,aF _ rfl,⟨rfl,rfl,rfl⟩,rfl,(fun x hx=>by cases hx),(fun k=>⟨(fun h=>by cases h),fun ⟨e,he,_⟩=>by cases he⟩),by decide,?_,rfl⟩
  cases led <;> rfl
 have I1:Inv X pins σ (upd H s.heap.objs.size (setO X.prog X.w s.heap.objs.size (fun _=>false) 0)) { s with heap:=s.heap.push { cls:=.type "set",dict:=none,data:=.set #[] 0 (.fresh 0 0 led) } } :=
  I.laid (a:=s.heap.objs.size) (t':=s.toks) (fun _ _ q=>ay _ q) (ae _) (setO_ok hset)
 unfold Builtin.«set.__init__»
 have hA:X.A.in1.in1.handled=none:=I.ok.hd hc
 refine ad (ag (ad (SU.cut_set hnew (ad (ag (ad (ag (ad ?_))))))))
 unfold setUsed
 refine ad (wpAny_setState_of (aF _ rfl) rfl (by cases led <;> rfl) (ag ?_))
 rw[if_neg (by cases led <;> decide)]
 show wpAny _ _ (Builtin.Frozenset.updateFrom "set.__init__" s.heap.objs.size (.ref p) >>= _) _ _ _
 refine ad ?_
 unfold Builtin.Frozenset.updateFrom
 obtain⟨its,rv,pl,hz⟩:=I1.list (hq.fresh hl)
 obtain⟨o,n,ho,hcl,hdn,hdt⟩:=id pl
 refine ad (SU.any_list ⟨o,ho,hcl⟩ ?_)
 rw[if_neg (by decide)]
 refine ad (wpAny_typeOf (T:="list") ⟨o,ho,hcl⟩ ?_)
 rw[if_neg (by decide)]
 refine ad (wpAny_pyIter_list pl.isList ?_)
 refine ad (wpAny_runValue ?_)
 refine set_loop (X:={ X with A:=X.A.in1 }) (pins:=pins) (σ:=σ) (nm:="x") (tp:=default) (turn_list p _) hc s.heap.objs.size H ys hy hl (fun i H' hi e=>?_) (fun H' e=>?_) _ 0 _ _ rfl (a0 _) ((I1.kept (t':=s.toks) fun b o e=>ay _ e).atA _ rfl rfl) (fun b hb=>?_) ⟨_,aF _ rfl,rfl,rfl⟩ ⟨_,0,rfl,(fun k=>⟨(fun h=>by cases h),(fun h=>by cases h)⟩),ae _,⟨fun _=>bw,fun _=>rfl⟩⟩ fun H' s' I' hd=>?_
 ·obtain⟨S,n,rfl,_⟩:=e
  have hq':=hq.fresh (o:=setO X.prog X.w s.heap.objs.size S n) hl
  have hx:(List.map V.str ys)[i]? = some (.str ys[i]):=by rw[aA,ar hi];rfl
  refine⟨⟨_,_,hq',hx⟩,fun x H1 ⟨e1,e2⟩=>⟨e1,ys[i],?_,ar hi⟩⟩
  have:=e2 _ hq'
  rw[hx] at this
  exact(ai this).symm
 ·obtain⟨S,n,rfl,_⟩:=e
  exact⟨_,hq.fresh hl,by rw[aa];exact ae _⟩
 ·have e:b=(s.heap.push { cls:=.type "set",dict:=none,data:=.set #[] 0 (.fresh 0 0 led) }).objs.size:=by simpa using hb
  subst e
  exact(I1.atA X.A.in1 rfl rfl).fpOk (ae _) (I1.hok.fresh (ae _))
 ·obtain⟨S,n,rfl,_,hn,hnd⟩:=hd
  rw[aw (ae _)] at hnd
  exact ag (ag ⟨rfl,.ref _,_,Inv.ofA I.ok I',rfl,q _ S n hl hn hnd⟩)
def rSetT (K:W.Frag):List V->Hp->VK->Prop:=fun vs H Q=>∃p ys,vs=[.ref p]/\SqL K H p (List.map V.str ys)/\ys.length<=1000/\∀(l:Addr) (P:Program) (w:World) (S:Str->Bool) (n:Nat),H l=none->n<=ys.length->(n=ys.length ↔ ys.Nodup)->Q (.ref l) (upd H l (setO P w l S n))
def rLenS:List V->Hp->VK->Prop:=fun vs H Q=>∃(a:Addr) (P:Program) (w:World) (S:Str->Bool) (n:Nat),vs=[.ref a]/\H a=some (setO P w a S n)/\Q (.int n) H
section
variable {X:Cx}{p pos:Pos}{e:Expr}{t:TA}
theorem b_setL (K:W.Frag) (hc:X.calm=true) (Z:X.mg "set"=none) (ha:PA X [e] t) (hg:Gl X "set":=by rfl) (he:starEach [e] X.env=(false,eval e X.env)::starEach [] X.env:=by rfl) (hpl:(backTo pos (starEach [] X.env)).any (·.1)=false:=by rfl) (hK:X.K=K:=by rfl) :
    PE X (.Call (.Name "set" p) [e] [] pos) (tCB (rSetT K) t):=by
 subst hK
 refine pe_callTy (r:=rSetT X.K) (fun pins s σ H xs us Q I r h=>?_) hg Z (show bootBuiltins "set"=some (.type "set") by decide +kernel) ha (by decide) (by decide) he hpl
 obtain⟨p,ys,rfl,hq,hy,q⟩:=h
 obtain⟨u,rfl,ru⟩:=vals1 r
 cases ru
 exact call_setL hc I hq hy fun l S n hl hn hnd=>q l _ _ S n hl hn hnd
theorem call_lenS:CallR X (.builtin "len") rLenS:=by
 intro pins s σ H xs us Q I r h
 obtain⟨a,P,w,S,n,rfl,ha,q⟩:=h
 obtain⟨u,rfl,ru⟩:=vals1 r
 cases ru
 have hok:=I.hok a _ ha
 have hset:s.heap.SetOf (strKind P w) a S n:=hok.1
 obtain⟨o,es,ep,tt,ho,hex,hd,_,_,hb,hf,hn⟩:=hset
 have hb':es.size<4096:=hb
 refine call_len_set ho hex hd hf (by omega) ?_
 subst hn
 exact⟨.int es.size,H,(I.tok _).tok _,⟨_,rfl⟩,q⟩
theorem b_lenS (B:Blt X.mg) (ha:PA X [e] t) (hg:Gl X "len":=by rfl) (he:starEach [e] X.env=(false,eval e X.env)::starEach [] X.env:=by rfl) (hpl:(backTo pos (starEach [] X.env)).any (·.1)=false:=by rfl):PE X (.Call (.Name "len" p) [e] [] pos) (tCB rLenS t) :=
 pe_callB call_lenS hg B.len PySem.boot_len ha (by decide) (by decide) he hpl
end
def ItDn (lo:Int) (n:Nat):It:=⟨fun i _=>i<n,fun i H x H'=>H'=H/\x=.int (lo-i),fun i _=>n<=i⟩
theorem turn_down {P:Program}{w:World}{K:W.Frag}{tg:Expr}(it:Addr) (lo:Int) (n:Nat):Turn P w K tg (ItDn lo n) [it] it (fun i h=>IsRangeIter h it (lo+(i:Nat) * (-1)) ((n:Int)-(i:Nat)) (-1)) where
 mem:=by simp
 obj:=fun i h st b hb=>by
  cases (show b=it by simpa using hb)
  exact⟨_,st,fun v z=>by cases (show Data.fields _=Data.cell v from z)⟩
 keep:=fun i h h' st k=>k it (by simp) _ st
 item:=by
  intro X hP hw hK hc i pins s σ H E I hf st hg
  subst hP hw hK
  obtain⟨f0,f1,f2,f3,f4,f5⟩:=hf it (by simp)
  refine(Walks.range (prog:=X.prog) (w:=X.w) (I.ok.hd hc) it lo (-1) n).item i s _ _ hg st fun v h' tk hv st' kk=>?_
  obtain⟨t,ev⟩:=hv
  subst ev
  have I1:Inv X pins σ H { s with heap:=h',toks:=tk }:=I.turned (fun b o hb e=>kk b o (by simpa using hb) e) f0 f1 f3 f4 f5
  exact⟨_,rfl,go_of (s:={ s with heap:=h',toks:=tk }) (n:="range_iterator") st' rfl rfl (by decide) ⟨.int (lo-i),H,I1,⟨t,by congr 1;omega⟩,⟨rfl,rfl⟩,st',fun b hb=>(hf b hb).1⟩⟩
 done:=by
  intro X hP hw hK hc i pins s σ H E I hf st hg
  subst hP hw hK
  obtain⟨f0,f1,f2,f3,f4,f5⟩:=hf it (by simp)
  exact wpAny_pyNext_range_end (I.ok.hd hc) st (by have:n<=i:=hg;omega) fun h' eb=>⟨rfl,I.turned (t':=s.toks) (fun b o hb e=>eb b o hb e) f0 f1 f3 f4 f5⟩
 self:=fun _ _ _ _ _ st h=>wpAny_pyIter_rangeiter st h
theorem size_down (a b:Int):Builtin.Range.rangeSize a b (-1)=((a-b).toNat:Int):=by
 unfold Builtin.Range.rangeSize
 rw[if_neg (by decide)]
 split
 ·rw[show -(-1:Int)=1 by decide,Int.ediv_one];omega
 ·omega
section
variable {X:Cx}{tg:Expr}
def iRngD (ta:TA):TI:=fun σ H R=>ta σ H fun vs H1=>∃i j:Int,vs=[.int i,.int j,.int (-1)]/\(-(2 ^ 30)<=i/\i<2 ^ 30/\-(2 ^ 30)<=j/\j<2 ^ 30)/\R (ItDn i (i-j).toNat) H1
theorem pi_rangeD {a b c:Expr}{ta:TA}{p pos:Pos}(hg:Gl X "range") (hm:X.mg "range"=none) (ha:PA X [a, b, c] ta) (hs:starEach [a, b, c] X.env=[(false, eval a X.env), (false, eval b X.env), (false, eval c X.env)] := by rfl) (hs2:starEach [b, c] X.env=[(false, eval b X.env), (false, eval c X.env)] := by rfl) :
    PI X tg (.Call (.Name "range" p) [a,b,c] [] pos) (iRngD ta):=by
 intro pins s σ H R I h
 refine Call_ (ld_blt I hg hm boot_range (PyProof.Rows.callWith_type1 (thn (ha pos pins s σ H _ I h) fun us s1 ⟨vs,H1,I1,r1,q1⟩=>?_) (by rw[hs,hs2]) (by rw[hs2];rfl)))
 obtain⟨i,j,e,⟨q1,q2,q3,q4⟩,q⟩:=q1
 subst e
 obtain⟨u1, u2, u3, rfl, r, r', r3⟩:∃u1 u2 u3, us=[u1, u2, u3] /\ RelV (.int i) u1 /\ RelV (.int j) u2 /\ RelV (.int (-1)) u3 := by
  cases r1 with
  | cons r rr =>
   cases rr with
   | cons r' rr =>
    cases rr with
    | cons r3 rr =>
     cases rr
     exact⟨_,_,_,rfl,r,r',r3⟩
 obtain⟨t,rfl⟩:=r
 obtain⟨t',rfl⟩:=r'
 obtain⟨t3,rfl⟩:=r3
 refine call_range_3 (by decide) ?_ (.inl (PyProof.noPylong_small (by omega)))
 have I2:Inv X pins σ H1 { s1 with heap:=s1.heap.push { cls:=.type "range",data:=.fields #[.int i t,.int j t',.int (-1) t3] },toks:=s1.toks }:=I1.kept fun b o e=>ay _ e
 refine wpAny_pyIter_range (IsRange.new ..) ?_ ?_
 ·unfold Builtin.Range.small
  rw[size_down]
  simp only[Builtin.Range.rangeFitsLong,bd,Bool.or_eq_true,decide_eq_true_eq,beq_iff_eq,show ¬ (-1:Int) > 0 by decide,if_false]
  first | omega | (split <;> omega)
 ·refine⟨_,[(s1.heap.push { cls:=.type "range",data:=.fields #[.int i t,.int j t',.int (-1) t3] }).objs.size],_,_,H1,rfl,I2.kept (t':=s1.toks) fun b o e=>ay _ e,turn_down _ i (i-j).toNat,?_,fun b hb=>?_,q⟩
  ·show IsRangeIter _ _ (i+((0:Nat):Int) * (-1)) ((((i-j).toNat:Nat):Int)-((0:Nat):Int)) (-1)
   rw[show i+((0:Nat):Int) * (-1)=i by omega,show (((i-j).toNat:Nat):Int)-((0:Nat):Int)=Builtin.Range.rangeSize i j (-1) by rw[size_down];omega]
   exact aF _ rfl
  ·cases (show b=(s1.heap.push { cls:=.type "range",data:=.fields #[.int i t,.int j t',.int (-1) t3] }).objs.size by simpa using hb)
   exact I2.fpOk (ae _) (I2.hok.fresh (ae _))
theorem for_down {lo:Int}{n:Nat}{g:TG}{tb:TS}{D:Ends}{σ:St}{H:Hp}(Pv:Nat -> St -> Hp -> Prop) (h0:Pv 0 σ H)
    (hs:∀i σ H,i<n->Pv i σ H->g (.int (lo-i)) σ H fun σ2 H2=>tb { D with nx:=Pv (i+1),ct:=Pv (i+1),bk:=D.nx } σ2 H2) (hd:∀σ H,Pv n σ H->D.nx σ H) :
    ∃W:Nat->Nat->St->Hp->Prop,(∃m,W 0 m σ H)/\∀i m σ H,W i m σ H ->
     ((ItDn lo n).stop i H/\D.nx σ H)∨((ItDn lo n).go i H/\∃N:St->Hp->Prop,(∀σ' H',N σ' H'->∃m',m'<m/\W (i+1) m' σ' H')/\∀x H',(ItDn lo n).yld i H x H'->g x σ H' fun σ2 H2=>tb { D with nx:=N,ct:=N,bk:=D.nx } σ2 H2):=by
 refine⟨fun i m σ H=>m=n-i/\i<=n/\Pv i σ H,⟨n,by simp,a0 _,h0⟩,?_⟩
 rintro i m σ H ⟨rfl,hi,p⟩
 by_cases hlt:i<n
 ·refine .inr ⟨hlt,Pv (i+1),fun σ' H' p'=>⟨n-(i+1),by omega,rfl,hlt,p'⟩,fun x H' y=>?_⟩
  obtain⟨e,y⟩:=y
  subst e y
  exact hs i σ _ hlt p
 ·cases (show i=n by omega)
  exact .inl ⟨ae _,hd σ H p⟩
end
end L2
namespace K33
open PySem L2
def top (i:Nat):Stmt:=PySem.Challenge.pw_orderkeep_k33_whole_ties_laid.main.body.getD i (.Pass ⟨0,0,0,0⟩)
abbrev sIsName:Stmt:=top 2
abbrev sIsWhole:Stmt:=top 3
abbrev sWebOf:Stmt:=top 11
abbrev sNexts:Stmt:=top 12
abbrev sPriors:Stmt:=top 13
abbrev sPlaces:Stmt:=top 14
abbrev sAreThings:Stmt:=top 15
abbrev sUNm:Stmt:=top 16
abbrev sUnlike:Stmt:=top 17
abbrev sWrong:Stmt:=top 18
abbrev sAmong:Stmt:=top 19
abbrev sBehinds:Stmt:=top 21
abbrev sAheads:Stmt:=top 22
abbrev sWay:Stmt:=top 23
abbrev sNearer:Stmt:=top 24
abbrev sNextsAll:Stmt:=top 25
abbrev sPriorsAll:Stmt:=top 26
abbrev sSteps:Stmt:=top 27
abbrev sRingBy:Stmt:=top 29
abbrev sStretch:Stmt:=top 31
abbrev sMovesOf:Stmt:=top 33
abbrev sLets:Stmt:=top 34
abbrev sMoved:Stmt:=top 35
abbrev sAreMoves:Stmt:=top 36
abbrev sIsMove:Stmt:=top 37
abbrev sPen:Stmt:=top 39
abbrev sDraw:Stmt:=top 40
abbrev sNames:Stmt:=top 41
abbrev sTurned:Stmt:=top 42
abbrev sWeb:Stmt:=top 43
abbrev sReached:Stmt:=top 44
abbrev sPair:Stmt:=top 45
abbrev sTold:Stmt:=top 46
abbrev sRingRight:Stmt:=top 47
abbrev sSorts:Stmt:=top 48
abbrev sMovesRight:Stmt:=top 49
abbrev sAllRight:Stmt:=top 50
abbrev sDrawn:Stmt:=top 51
abbrev sLaw:Stmt:=top 52
abbrev sRingInit:Stmt:=inCls (top 7) 0
section
variable {P:Program}{w:World}{K:W.Frag}{mg:Str->Option Value}{base:Heap}
def spNames (K:W.Frag):Sp:=fun vs H Q _=>∃(p a:Addr) (m:Nat),vs=[.ref p,.int (m:Int)]/\Pen K H p a/\m<=60 /\
 ∀l ss H',ss.length=m->ss.Nodup->(∀s∈ss,Nm s)->H' l=some (.lst (List.map V.str ss))->H l=none->l≠p->PenV H' p a->But p H H'->Q (.ref l) H'
def spPen (K:W.Frag):Sp:=fun vs H Q _=>∃(a:Addr) (ns:List Int),vs=[.ref a]/\SqL K H a (ns.map V.int)/\∀p H',Pen K H' p a->Q (.ref p) H'
theorem scPen:FnScope ["_law_script"] ["_law_script"] (defScope sPen):=⟨rfl,rfl,rfl,by decide +kernel,rfl,by decide +kernel,by decide +kernel⟩
theorem ok_pen {f:Addr}{fd:FuncData}(F:Fun K "_law_pen" "_law_pen" sPen f fd) (B:Blt mg):FnOk P w K mg base CX0 1 f fd ["_law_script"] (spPen K):=by
 refine F.ok scPen (fun vs H Q E h=>?_) (fun cdv A outer s H vs Q E hr h=>?_)
 ·obtain⟨a,ns,rfl,_⟩:=h
  rfl
 ·obtain⟨a,ns,rfl,hS,k⟩:=h
  have nd:=scPen.nd
  refine⟨_,(pss_one (ps_ret (pe_lst (pa_cons (pv 0) (pa_cons pe_int (pa_cons pe_int pa_nil)))))),?_⟩
  refine⟨_,rfl,(by show 3<=sizeLine;decide),fun p hp=>?_⟩
  exact k p _ (Pen.new (ns:=ns) hS hp ⟨0,0,upd_same,by decide,by decide⟩)
theorem scDraw:FnScope ["_law_pen_here","_law_most","_law_found","_law_place","_law_cell","_law_first","_law_second"] ["_law_pen_here","_law_most"] (defScope sDraw):=⟨rfl,rfl,rfl,by decide +kernel,rfl,by decide +kernel,by decide +kernel⟩
theorem ok_draw {f:Addr}{fd:FuncData}(F:Fun K "_law_draw" "_law_draw" sDraw f fd) (B:Blt mg):FnOk P w K mg base CX0 1 f fd ["_law_pen_here", "_law_most"] (spDraw K) := by
 refine F.ok scDraw (fun vs H Q E h=>?_) (fun cdv A outer s H vs Q E hr h=>?_)
 ·obtain⟨p,a,m,rfl,_⟩:=h
  rfl
 ·obtain⟨p, a, m, rfl, ⟨⟨ns, hS⟩, i, n, hp, hi, hn⟩, hm, hm2, k⟩ := h
  have ku:∀(H1:Hp) (o:HO),(∀b,b≠p->H1 b=H b)->∀b,b≠p->(upd H1 p o) b=H b:=fun H1 o q b n=>by rw[upd_ne n];exact q b n
  have nd:=scDraw.nd
  refine⟨_,(pss_cons (ps_if (pt_cmpR op_gt (pe_ix (ix_X K hr.units) (pv 0) pe_int (fun _ _=>rfl)) pe_int (nomark _)) (pss_cons (ps_set (i:=2) nd rfl (Or.inl rfl) (pe_op op_mod (pe_ix (ix_X K hr.units) (pv 0) pe_int (fun _ _=>rfl)) (pv 1)))
   (pss_cons (ps_asg (pe_op op_fdiv (pe_ix (ix_X K hr.units) (pv 0) pe_int (fun _ _=>rfl)) (pv 1)) (pg_sub (pv 0) pe_int (set_X hr.units)))
   (pss_one (ps_ret (pv 2))))) pss_nil)
   (pss_cons (ps_set (i:=3) nd rfl (Or.inl rfl) (pe_ix (ix_X K hr.units) (pv 0) pe_int (fun _ _=>rfl)))
   (pss_cons (ps_asg (pe_op op_addX (pv 3) pe_int) (pg_sub (pv 0) pe_int (set_X hr.units)))
   (pss_cons (ps_set (i:=4) nd rfl (Or.inl rfl) pe_int)
   (pss_cons (ps_if (pt_cmpR op_gt (b_len K B (pa_cons (pe_ix (ix_X K hr.units) (pv 0) pe_int (fun _ _=>rfl)) pa_nil)) pe_int (nomark _)) (pss_one (ps_set (i:=4) nd rfl (Or.inl rfl) (pe_ix (ix_X K hr.units) (pe_ix (ix_X K hr.units) (pv 0) pe_int (fun _ _=>rfl)) (pe_op op_mod (pv 3) (b_len K B (pa_cons (pe_ix (ix_X K hr.units) (pv 0) pe_int (fun _ _=>rfl)) pa_nil))) (fun _ _=>rfl)))) pss_nil)
   (pss_cons (ps_if (PW.pt (pw_and (pt_cmpR op_ltX (pv 3) (b_len K B (pa_cons (pe_ix (ix_X K hr.units) (pv 0) pe_int (fun _ _=>rfl)) pa_nil)) (nomark _)) (pw_and1 (pt_cmpR op_ge (b_abs B (pa_cons (pv 4) pa_nil)) (pe_op op_pow pe_int pe_int) (nomark _))))) (pss_cons (ps_asg (pe_op op_fdiv (b_abs B (pa_cons (pv 4) pa_nil)) (pv 1)) (pg_sub (pv 0) pe_int (set_X hr.units)))
   (pss_one (ps_ret (pe_op op_mod (b_abs B (pa_cons (pv 4) pa_nil)) (pv 1))))) pss_nil)
   (pss_cons (ps_set (i:=5) nd rfl (Or.inl rfl) (pe_op op_mod (pe_op op_mul (pe_op op_addX (pe_op op_addX (pe_op op_mod (pv 4) pe_int) (pe_op op_mul pe_int (pv 3))) pe_int) pe_int) pe_int))
   (pss_cons (ps_set (i:=6) nd rfl (Or.inl rfl) (pe_op op_mod (pe_op op_addX (pe_op op_addX (pe_op op_mul (pv 5) (pv 5)) (pe_op op_mul pe_int (pv 3))) pe_int) pe_int))
   (pss_one (ps_ret (pe_op op_mod (pe_op op_fdiv (pv 6) pe_int) (pv 1)))))))))))),?_⟩
  refine⟨_,rfl,.lst (.of hp) rfl ⟨_,_,rfl,rfl,_,rfl,?_⟩⟩
  refine ite2 (fun h=>?_) (fun h=>?_)
  ·refine⟨_,rfl,.lst (.of hp) rfl ⟨_,rfl,_,_,rfl,rfl,hm,?_⟩⟩
   refine⟨_,rfl,.lst (.of hp) rfl ⟨_,rfl,_,_,rfl,rfl,⟨hm,hm2⟩,?_⟩⟩
   refine⟨_,rfl,.lst (j:=2) hp rfl ?_⟩
   refine⟨_,rfl,?_⟩
   exact k _ _ (bM _ (by omega)) (cm _ hm) ⟨i,n / m,upd_same,hi,Int.ediv_nonneg hn (by omega)⟩ (ku H _ fun _ _=>rfl)
  ·refine⟨_, rfl, .lst (.of hp) rfl ?_⟩
   refine⟨_,rfl,.int ?_⟩
   refine⟨_,rfl,.lst (j:=1) hp rfl ?_⟩
   have hp1:(upd H p (.lst ([V.ref a,V.int i,V.int n].set 1 (V.int (i+1))))) p=some (.lst [.ref a,.int (i+1),.int n]):=upd_same
   have hS1:SqL K (upd H p (.lst ([V.ref a,V.int i,V.int n].set 1 (V.int (i+1))))) a (ns.map V.int):=hS _ But.upd
   have b1:∀b,b≠p->(upd H p (.lst ([V.ref a,V.int i,V.int n].set 1 (V.int (i+1))))) b=H b:=ku H _ fun _ _=>rfl
   generalize upd H p (.lst ([V.ref a,V.int i,V.int n].set 1 (V.int (i+1))))=H1 at hp1 hS1 b1 ⊢
   have fin:∀c:Int,0<=c->Q (.int (c % m)) H1:=fun c hc=>k _ _ (bM _ (by omega)) (cm _ hm) ⟨i+1,n,hp1,by omega,hn⟩ b1
   refine⟨_,rfl,.lst (.of hp1) rfl ⟨_,_,rfl,Or.inl ⟨_,hS1,rfl⟩,_,_,rfl,rfl,_,rfl,?_⟩⟩
   refine ite2 (fun h=>?a) (fun h=>?b)
   case' a =>
    have hl:(0:Int)<((ns.map V.int).length:Nat):=az h
    obtain⟨c,hc⟩:=at_int (ns:=ns) (j:=i % ((ns.map V.int).length:Nat)) (bM _ (by omega)) (cm _ hl)
    refine⟨_,rfl,.lst (.of hp1) rfl ⟨_,rfl,_,rfl,.lst (.of hp1) rfl ⟨_,_,rfl,Or.inl ⟨_,hS1,rfl⟩,_,_,rfl,rfl,hl,.lst hS1 hc ?_⟩⟩⟩
   all_goals
    refine⟨_,rfl,_,rfl,.lst (.of hp1) rfl ⟨_,_,rfl,Or.inl ⟨_,hS1,rfl⟩,.int ⟨_,rfl,?_⟩⟩⟩
    refine ite2 (fun h1=>?_) (fun h1=>?_)
    ·refine⟨_,rfl,_,rfl,_,_,rfl,rfl,⟨by decide,by decide,by decide⟩,_,_,rfl,rfl,_,rfl,?_⟩
     refine ite2 (fun h2=>?_) (fun h2=>?_)
     ·refine⟨_,rfl,_,rfl,_,rfl,_,_,rfl,rfl,⟨hm,hm2⟩,?_⟩
      refine⟨_,rfl,.lst (j:=2) hp1 rfl ?_⟩
      refine⟨_,rfl,_,rfl,_,rfl,_,_,rfl,rfl,hm,?_⟩
      refine k _ _ (bM _ (by omega)) (cm _ hm) ⟨i+1,_,upd_same,by omega,Int.ediv_nonneg (by split <;> omega) (by omega)⟩ (ku H1 _ b1)
     ·refine⟨_,rfl,_,_,rfl,rfl,(by show (0:Int)<_;decide),_,rfl,_,_,rfl,rfl,.inl ⟨by decide,by decide⟩,.int (.int ⟨_,_,rfl,rfl,.inr ⟨by decide,by decide⟩,_,_,rfl,rfl,(by show (0:Int)<_;decide),?_⟩)⟩
      refine⟨_,rfl,_,rfl,_,_,rfl,rfl,.inl (fst_small _),_,rfl,_,_,rfl,rfl,.inl ⟨by decide,by decide⟩,.int (.int ⟨_,_,rfl,rfl,(by show (0:Int)<_;decide),?_⟩)⟩
      refine⟨_,rfl,_,_,rfl,rfl,⟨by decide,by decide⟩,_,rfl,_,_,rfl,rfl,hm,?_⟩
      exact fin _ (Int.ediv_nonneg (bM _ (by decide)) (by decide))
    ·refine⟨_,rfl,_,_,rfl,rfl,(by show (0:Int)<_;decide),_,rfl,_,_,rfl,rfl,.inl ⟨by decide,by decide⟩,.int (.int ⟨_,_,rfl,rfl,.inr ⟨by decide,by decide⟩,_,_,rfl,rfl,(by show (0:Int)<_;decide),?_⟩)⟩
     refine⟨_,rfl,_,rfl,_,_,rfl,rfl,.inl (fst_small _),_,rfl,_,_,rfl,rfl,.inl ⟨by decide,by decide⟩,.int (.int ⟨_,_,rfl,rfl,(by show (0:Int)<_;decide),?_⟩)⟩
     refine⟨_,rfl,_,_,rfl,rfl,⟨by decide,by decide⟩,_,rfl,_,_,rfl,rfl,hm,?_⟩
     exact fin _ (Int.ediv_nonneg (bM _ (by decide)) (by decide))
abbrev letters:Str:="abcdefghijklmnopqrstuvwxyz"
theorem str_at {ss:List Str}{i:Nat}(h:i<ss.length):atI (List.map V.str ss) (i:Int)=some (.str (ss.getD i "")):=atI_nat (by simp[h,aD])
theorem getD_by {f:Nat->Str}{m i:Nat}(h:i<m):((List.range m).map f).getD i ""=f i:=by rw[aD,aA,List.getElem?_range h];rfl
theorem mid_injG {x y y':Str}{c d:Nat}(h:(x++⟨#[c]⟩++y:Str)=x++⟨#[d]⟩++y'):c=d:=by
 have h:(x.cps++#[c]++y.cps).toList=(x.cps++#[d]++y'.cps).toList:=congrArg (fun s:Str=>s.cps.toList) h
 simp only[Array.toList_append,List.append_assoc,List.append_cancel_left_eq] at h
 have h:c::y.cps.toList=d::y'.cps.toList:=by simpa using h
 exact(List.cons.inj h).1
theorem end2_inj {x:Str}{c d c' d':Nat}(h:(x++⟨#[c]⟩++⟨#[d]⟩:Str)=x++⟨#[c']⟩++⟨#[d']⟩):c=c'/\d=d':=by
 have h:(x.cps++#[c]++#[d]).toList=(x.cps++#[c']++#[d']).toList:=congrArg (fun s:Str=>s.cps.toList) h
 simp only[Array.toList_append,List.append_assoc,List.append_cancel_left_eq] at h
 simpa using h
theorem scNames:FnScope ["_law_pen_here","_law_many","_law_letters","_law_base","_law_at","_law_turn","_law_sort","_law_signs"] ["_law_pen_here","_law_many"] (defScope sNames):=⟨rfl,rfl,rfl,by decide +kernel,rfl,by decide +kernel,by decide +kernel⟩
theorem ok_names {f:Addr}{fd:FuncData}(F:Fun K "_law_names" "_law_names" sNames f fd) (B:Blt mg) (c_law_draw:Cal P w K mg base 1 "_law_draw" ["_law_pen_here", "_law_most"] (spDraw K)):FnOk P w K mg base CX0 2 f fd ["_law_pen_here", "_law_many"] (spNames K) := by
 refine F.ok scNames (fun vs H Q E h=>?_) (fun cdv A outer s H vs Q E hr h=>?_)
 ·obtain⟨p,a,m,rfl,_⟩:=h
  rfl
 ·obtain⟨p, a, m, rfl, hP, hm, k⟩ := h
  have nd:=scNames.nd
  have v0:=hP.2
  have lL:letters.length<=sizeLine:=by decide +kernel
  refine⟨_,(pss_cons (ps_set (i:=2) nd rfl (Or.inr rfl) pe_str)
   (pss_cons (ps_set (i:=3) nd rfl (Or.inr rfl) (m_join K pe_str (pa_cons (pe_comp (defScope sNames) ["_law_pen_here","_law_many","_law_letters","_law_base","_law_at","_law_turn","_law_sort","_law_signs"] ["_law_k"] [2,0] ["_law_k","_law_letters","_law_pen_here"] rfl (pi_range1 rfl B.range (pa_cons pe_int pa_nil)) (fun _ _ _ _ _=>(pg_name (i:=0) (show (["_law_k","_law_letters","_law_pen_here"]:List Str).Nodup by decide) rfl (Or.inl rfl))) (fun _ _ _ _ _=>pts_nil) (fun _ _ _ _ _=>(pe_ix (ix_X K hr.units) (pv 1) (pe_cal c_law_draw (hr.mono (by decide)) rfl (pa_cons (pv 2) (pa_cons pe_int pa_nil))) (fun _ _=>rfl)))) pa_nil)))
   (pss_cons (ps_set (i:=4) nd rfl (Or.inr rfl) (pe_cal c_law_draw (hr.mono (by decide)) rfl (pa_cons (pv 0) (pa_cons pe_int pa_nil))))
   (pss_cons (ps_set (i:=5) nd rfl (Or.inr rfl) (pe_cal c_law_draw (hr.mono (by decide)) rfl (pa_cons (pv 0) (pa_cons pe_int pa_nil))))
   (pss_cons (ps_set (i:=6) nd rfl (Or.inl rfl) (pe_cal c_law_draw (hr.mono (by decide)) rfl (pa_cons (pv 0) (pa_cons pe_int pa_nil))))
   (pss_cons (ps_if (PW.pt (pw_and (pt_cmpR (op_eqX hr.units) (pv 6) pe_int (nomark _)) (pw_and1 (pt_cmpR op_ltX (pv 1) pe_int (nomark _))))) (pss_one (ps_ret (pe_comp (defScope sNames) ["_law_pen_here","_law_many","_law_letters","_law_base","_law_at","_law_turn","_law_sort","_law_signs"] ["_law_k"] [3,5] ["_law_k","_law_base","_law_turn"] rfl (pi_range1 rfl B.range (pa_cons (pv 1) pa_nil)) (fun _ _ _ _ _=>(pg_name (i:=0) (show (["_law_k","_law_base","_law_turn"]:List Str).Nodup by decide) rfl (Or.inl rfl))) (fun _ _ _ _ _=>pts_nil) (fun _ _ _ _ _=>(pe_slice (sl_K K) (pv 1) po_none (po_some (pe_op op_addX (pe_op op_mod (pe_op op_addX (pv 2) (pe_op op_mul pe_int (pv 0))) pe_int) pe_int))))))) pss_nil)
   (pss_cons (ps_if (PW.pt (pw_and (pt_cmpR (op_eqX hr.units) (pv 6) pe_int (nomark _)) (pw_and1 (pt_cmpR op_ltX (pv 1) pe_int (nomark _))))) (pss_cons (ps_set (i:=7) nd rfl (Or.inr rfl) (pe_comp (defScope sNames) ["_law_pen_here","_law_many","_law_letters","_law_base","_law_at","_law_turn","_law_sort","_law_signs"] ["_law_k"] [2,5] ["_law_k","_law_letters","_law_turn"] rfl (pi_range1 rfl B.range (pa_cons (pv 1) pa_nil)) (fun _ _ _ _ _=>(pg_name (i:=0) (show (["_law_k","_law_letters","_law_turn"]:List Str).Nodup by decide) rfl (Or.inl rfl))) (fun _ _ _ _ _=>pts_nil) (fun _ _ _ _ _=>(pe_ix (ix_X K hr.units) (pv 1) (pe_op op_mod (pe_op op_addX (pv 2) (pe_op op_mul pe_int (pv 0))) pe_int) (fun _ _=>rfl)))))
   (pss_one (ps_ret (pe_comp (defScope sNames) ["_law_pen_here","_law_many","_law_letters","_law_base","_law_at","_law_turn","_law_sort","_law_signs"] ["_law_k"] [3,7,4] ["_law_k","_law_base","_law_signs","_law_at"] rfl (pi_range1 rfl B.range (pa_cons (pv 1) pa_nil)) (fun _ _ _ _ _=>(pg_name (i:=0) (show (["_law_k","_law_base","_law_signs","_law_at"]:List Str).Nodup by decide) rfl (Or.inl rfl))) (fun _ _ _ _ _=>pts_nil) (fun _ _ _ _ _=>(pe_op op_addX (pe_op op_addX (pe_slice (sl_K K) (pv 1) po_none (po_some (pv 3))) (pe_ix (ix_X K hr.units) (pv 2) (pv 0) (fun _ _=>rfl))) (pe_slice (sl_K K) (pv 1) (po_some (pe_op op_addX (pv 3) pe_int)) (po_some (pe_op op_addX (pe_op op_addX (pv 3) pe_int) (pe_op op_mod (pv 0) pe_int)))))))))) pss_nil)
   (pss_cons (ps_set (i:=7) nd rfl (Or.inr rfl) (pe_comp (defScope sNames) ["_law_pen_here","_law_many","_law_letters","_law_base","_law_at","_law_turn","_law_sort","_law_signs"] ["_law_k"] [2,5] ["_law_k","_law_letters","_law_turn"] rfl (pi_range1 rfl B.range (pa_cons (pv 1) pa_nil)) (fun _ _ _ _ _=>(pg_name (i:=0) (show (["_law_k","_law_letters","_law_turn"]:List Str).Nodup by decide) rfl (Or.inl rfl))) (fun _ _ _ _ _=>pts_nil) (fun _ _ _ _ _=>(pe_ix (ix_X K hr.units) (pv 1) (pe_op op_mod (pe_op op_addX (pv 2) (pe_op op_mul pe_int (pv 0))) pe_int) (fun _ _=>rfl)))))
   (pss_one (ps_ret (pe_comp (defScope sNames) ["_law_pen_here","_law_many","_law_letters","_law_base","_law_at","_law_turn","_law_sort","_law_signs"] ["_law_k"] [2,3,7,4] ["_law_k","_law_letters","_law_base","_law_signs","_law_at"] rfl (pi_range1 rfl B.range (pa_cons (pv 1) pa_nil)) (fun _ _ _ _ _=>(pg_name (i:=0) (show (["_law_k","_law_letters","_law_base","_law_signs","_law_at"]:List Str).Nodup by decide) rfl (Or.inl rfl))) (fun _ _ _ _ _=>pts_nil) (fun _ _ _ _ _=>(pe_op op_addX (pe_op op_addX (pe_slice (sl_K K) (pv 2) po_none (po_some (pv 4))) (pe_ix (ix_X K hr.units) (pv 3) (pv 0) (fun _ _=>rfl))) (pe_ix (ix_X K hr.units) (pv 1) (pe_op op_fdiv (pv 0) pe_int) (fun _ _=>rfl))))))))))))))),?_⟩
  refine⟨rfl,_,rfl,by decide,by decide,?_⟩
  refine comp_range (fun D i acc σ' H'=>∃o ys,σ'=[o,some (.str letters),some (.ref p)]/\acc=List.map V.str ys/\ys.length=i/\(∀y∈ys,y.length=1/\Lo y)/\PenV H' p a/\But p H H'/\H D=none/\p≠D) fun D hD=>⟨?_,?_,?_⟩
  ·have hDp:=v0.ne hD
   exact⟨none,[],rfl,rfl,rfl,(fun y hy=>by cases hy),v0.upd hDp,(But.refl p H).at hD,hD,hDp⟩
  ·rintro i acc σ' H' hi ⟨o, ys, rfl, rfl, hl, hys, v, b, hD0, hDp⟩ hacc
   refine gYes ?_
   refine⟨_,rfl,_,rfl,p,a,26,rfl,hP.but b v,by decide,by decide,fun r5 H5 h50 h51 v5 e5=>?_⟩
   refine .str lL (abc_at h50 h51) ⟨(e5 D (Ne.symm hDp)).trans hacc,?_,_,ys++[abc r5],rfl,by simp[abc],by simp[hl],?_,v5.upd hDp,(b.trans (But.of_eq e5)).at hD0,hD0,hDp⟩
   ·rw[aa,hl];exact small1000 (by simp at hi;omega)
   ·intro y hy
    rcases aq.mp hy with hy | hy
    ·exact hys y hy
    ·have:y=abc r5:=by simpa using hy
     subst this
     exact⟨rfl,abc_lo h50 h51⟩
  ·rintro acc σ' H5 ⟨o, ys, rfl, rfl, hl, hys, v5, b5, hD0, hDp⟩ hacc
   have hj:Lo (Txt.join "" ys):=Lo.join Lo.nil fun y hy=>(hys y hy).2
   have hz8:(Txt.join "" ys).length=8:=by rw[join_len fun y hy=>(hys y hy).1];simpa using hl
   have e0:("":Str).length=0:=by decide +kernel
   have hsum:=sum_le (n:=1) fun y hy=>Nat.le_of_eq (hys y hy).1
   refine⟨_,D,ys,rfl,rfl,hacc,by rw[e0];have:=hl;simp at this;omega,?_⟩
   generalize Txt.join "" ys=z at hj hz8 ⊢
   have hz:z.length<=sizeLine:=aT (small1000 (by omega))
   clear hacc hys hl hsum
   refine⟨_,rfl,p,a,6,rfl,hP.but b5 v5,by decide,by decide,fun r7 H7 h70 h71 v7 e7=>?_⟩
   have b7:=b5.trans (But.of_eq e7)
   refine⟨_,rfl,p,a,26,rfl,hP.but b7 v7,by decide,by decide,fun r8 H8 h80 h81 v8 e8=>?_⟩
   have b8:=b7.trans (But.of_eq e8)
   refine⟨_,rfl,p,a,3,rfl,hP.but b8 v8,by decide,by decide,fun r9 H9 h90 h91 v9 e9=>?_⟩
   have b9:=b8.trans (But.of_eq e9)
   obtain⟨at_,rfl⟩:=bg h70
   obtain⟨tn,rfl⟩:=bg h80
   clear e7 e8 e9 v5 v7 v8 b5 b7 b8
   have fin:∀(D:Addr) (ss:List Str) (H':Hp),H' D=some (.lst (List.map V.str ss))->ss.length=m->ss.Nodup->(∀s∈ss,Nm s)->H D=none->p≠D->PenV H' p a->But p H H'->Q (.ref D) H':=fun D ss H' h1 h2 h3 h4 h5 h6 h7 h8=>k D ss H' h2 h3 h4 h1 h5 (Ne.symm h6) h7 h8
   have sl8:8<=sizeLine:=by decide
   refine⟨_,rfl,.sc rfl ⟨_,rfl,?_⟩⟩
   apply once
   intro tail
   refine ite2 (fun hm0=>?a) (fun hm0=>tail)
   case' a =>
    refine⟨_,rfl,.int ⟨_,rfl,?_⟩⟩
    refine ite2 (fun h9=>?c) (fun h9=>tail)
    case c =>
     have h9:(m:Int)<9:=az h9
     refine⟨_,rfl,_,rfl,by omega,by omega,?_⟩
     refine comp_range (fun D i acc σ' H'=>∃o,σ'=[o,some (.str z),some (.int (tn:Int))]/\acc=List.map V.str ((List.range i).map fun k=>Txt.slice z none (some (((tn+3 * k) % 8+1:Nat):Int)))/\PenV H' p a/\But p H H'/\H D=none/\p≠D) fun D hD=>⟨?_,?_,?_⟩
     ·have hDp:=v9.ne hD
      have hD0:=b9.free (Ne.symm hDp) hD
      exact⟨none,rfl,rfl,v9.upd hDp,b9.at hD0,hD0,hDp⟩
     ·rintro i acc σ' H' hi ⟨o,rfl,rfl,v,b,hD0,hDp⟩ hacc
      refine gYes ?_
      refine⟨_,rfl,_,rfl,_,rfl,_,_,rfl,rfl,.inl ⟨by decide,by decide⟩,.int ⟨_,_,rfl,rfl,(by show (0:Int)<_;decide),.int ⟨_,rfl,.str hz ?_⟩⟩⟩
      rw[show ((tn:Int)+3 * (0+(i:Nat):Int)) % 8+1=(((tn+3 * i) % 8+1:Nat):Int) by omega]
      refine⟨hacc,?_,_,rfl,?_,v.upd hDp,b.at hD0,hD0,hDp⟩
      ·rw[aa,aa,bx];exact small1000 (by simp at hi;omega)
      ·rw[range_snoc,ah];rfl
     ·rintro acc σ' H' ⟨o,rfl,rfl,v,b,hD0,hDp⟩ hacc
      have hmm:((m:Int)-0).toNat=m:=by omega
      refine fin D _ H' hacc (by simp) (nodup_by _ _ fun i j hij hj e=>?_) (fun s hs=>?_) hD0 hDp v b
      ·have e:=congrArg Str.length e
       rw[slice_to (by omega),slice_to (by omega)] at e
       simp at hj
       omega
      ·obtain⟨i,hi,rfl⟩:=mem_by hs
       have hl:=slice_to (z:=z) (j:=(tn+3 * i) % 8+1) (by omega)
       exact(hj.slice _ _).nm (by rw[hl];omega) (by rw[hl];omega)
   all_goals
    refine⟨_,rfl,.sc rfl ⟨_,rfl,?_⟩⟩
    apply once
    intro tail
    refine ite2 (fun hm1=>?_) (fun hm1=>tail)
    refine⟨_,rfl,.int ⟨_,rfl,?_⟩⟩
    refine ite2 (fun h27=>?_) (fun h27=>tail)
    ·have h27:(m:Int)<27 := az h27
     refine⟨_,rfl,_,rfl,by omega,by omega,?_⟩
     refine comp_range (fun D i acc σ' H'=>∃o,σ'=[o,some (.str letters),some (.int (tn:Int))]/\acc=List.map V.str ((List.range i).map fun k=>abc (((tn+7 * k) % 26:Nat):Int))/\PenV H' p a/\But p H H'/\H D=none/\p≠D) fun D hD=>⟨?_,?_,?_⟩
     ·have hDp:=v9.ne hD
      have hD0:=b9.free (Ne.symm hDp) hD
      exact⟨none,rfl,rfl,v9.upd hDp,b9.at hD0,hD0,hDp⟩
     ·rintro i acc σ' H' hi ⟨o,rfl,rfl,v,b,hD0,hDp⟩ hacc
      refine gYes ?_
      refine⟨_,rfl,_,rfl,_,rfl,_,_,rfl,rfl,.inl ⟨by decide,by decide⟩,.int ⟨_,_,rfl,rfl,(by show (0:Int)<_;decide),?_⟩⟩
      refine .str lL (show atI _ (((tn:Int)+7 * (0+(i:Nat):Int)) % 26)=some (97+(((tn+7 * i) % 26:Nat):Int).toNat) from by
       rw[show ((tn:Int)+7 * (0+(i:Nat):Int)) % 26=(((tn+7 * i) % 26:Nat):Int) by omega]
       exact abc_at (by omega) (by omega)) ⟨hacc,?_,_,rfl,?_,v.upd hDp,b.at hD0,hD0,hDp⟩
      ·rw[aa,aa,bx];exact small1000 (by simp at hi;omega)
      ·rw[range_snoc,ah];rfl
     ·rintro acc σ' HA ⟨o, rfl, rfl, vA, bA, hDA, hpA⟩ hacc
      have hmm:((m:Int)-0).toNat=m:=by omega
      have hacc:HA D=some (.lst (List.map V.str ((List.range m).map fun k=>abc (((tn+7 * k) % 26:Nat):Int)))):=by first | exact hacc | (rw[hmm] at hacc;exact hacc)
      refine⟨_,rfl,_,rfl,by omega,by omega,?_⟩
      refine comp_range (fun D' i acc σ' H'=>∃o,σ'=[o,some (.str z),some (.ref D),some (.int (at_:Int))]/\acc=List.map V.str ((List.range i).map fun k=>Txt.slice z none (some (at_:Int))++abc (((tn+7 * k) % 26:Nat):Int)++Txt.slice z (some ((at_+1:Nat):Int)) (some ((at_+1+k % 2:Nat):Int)))/\Same HA H'/\HA D'=none) fun D' hD'=>⟨?_,?_,?_⟩
      ·exact⟨none,rfl,rfl,Same.new hD',hD'⟩
      ·rintro i acc σ' H' hi ⟨o,rfl,rfl,sm,hD0'⟩ hacc'
       have hi:i<m:=by simpa using hi
       have l1:=slice_toL z at_
       have l2:=slice_len z (at_+1) (at_+1+i % 2)
       refine gYes ?_
       refine⟨_,rfl,_,rfl,_,rfl,.str hz ⟨_,rfl,_,rfl,.lst (.of (sm _ _ hacc)) (show atI _ (0+(i:Nat):Int)=some (.str (abc (((tn+7 * i) % 26:Nat):Int))) from by
        rw[Int.zero_add,str_at (by simpa using hi),getD_by hi]) (.str (by rw[abc_len];omega) ?_)⟩⟩
       refine⟨_,rfl,_,rfl,.int ⟨_,rfl,_,rfl,.int ⟨_,rfl,_,_,rfl,rfl,(by show (0:Int)<_;decide),.int ⟨_,rfl,.str hz ?_⟩⟩⟩⟩
       rw[show (at_:Int)+1+(0+(i:Nat):Int) % 2=((at_+1+i % 2:Nat):Int) by omega,show (at_:Int)+1=((at_+1:Nat):Int) by omega]
       refine .str ?_ ⟨hacc',?_,_,rfl,?_,?_,hD0'⟩
       ·rw[len_app,abc_len];omega
       ·rw[aa,aa,bx];exact small1000 (by omega)
       ·rw[range_snoc,ah];rfl
       ·exact same_at sm hD0'
      ·rintro acc σ' H' ⟨o,rfl,rfl,sm,hD0'⟩ hacc'
       have hacc':H' D'=some (.lst (List.map V.str ((List.range m).map fun k=>Txt.slice z none (some (at_:Int))++abc (((tn+7 * k) % 26:Nat):Int)++Txt.slice z (some ((at_+1:Nat):Int)) (some ((at_+1+k % 2:Nat):Int))))):=by first | exact hacc' | (rw[hmm] at hacc';exact hacc')
       refine fin D' _ H' hacc' (by simp) (nodup_by _ _ fun i j hij hj e=>?_) (fun s hs=>?_) (bA.free (Ne.symm (vA.ne hD0')) hD0') (vA.ne hD0') (penSame sm vA) (bA.trans (But.of_same sm))
       ·have e:=mid_injG e
        omega
       ·obtain⟨i,hi,rfl⟩:=mem_by hs
        have l1:=slice_to (z:=z) (j:=at_) (by omega)
        have l2:=slice_len z (at_+1) (at_+1+i % 2)
        refine(((hj.slice _ _).app (abc_lo (by omega) (by omega))).app (hj.slice _ _)).nm ?_ ?_
        ·rw[len_app,len_app,abc_len];omega
        ·rw[len_app,len_app,abc_len];omega
    all_goals
     refine⟨_,rfl,_,rfl,by omega,by omega,?_⟩
     refine comp_range (fun D i acc σ' H'=>∃o,σ'=[o,some (.str letters),some (.int (tn:Int))]/\acc=List.map V.str ((List.range i).map fun k=>abc (((tn+5 * k) % 26:Nat):Int))/\PenV H' p a/\But p H H'/\H D=none/\p≠D) fun D hD=>⟨?_,?_,?_⟩
     ·have hDp:=v9.ne hD
      have hD0:=b9.free (Ne.symm hDp) hD
      exact⟨none,rfl,rfl,v9.upd hDp,b9.at hD0,hD0,hDp⟩
     ·rintro i acc σ' H' hi ⟨o,rfl,rfl,v,b,hD0,hDp⟩ hacc
      refine gYes ?_
      refine⟨_,rfl,_,rfl,_,rfl,_,_,rfl,rfl,.inl ⟨by decide,by decide⟩,.int ⟨_,_,rfl,rfl,(by show (0:Int)<_;decide),?_⟩⟩
      refine .str lL (show atI _ (((tn:Int)+5 * (0+(i:Nat):Int)) % 26)=some (97+(((tn+5 * i) % 26:Nat):Int).toNat) from by
       rw[show ((tn:Int)+5 * (0+(i:Nat):Int)) % 26=(((tn+5 * i) % 26:Nat):Int) by omega]
       exact abc_at (by omega) (by omega)) ⟨hacc,?_,_,rfl,?_,v.upd hDp,b.at hD0,hD0,hDp⟩
      ·rw[aa,aa,bx];exact small1000 (by simp at hi;omega)
      ·rw[range_snoc,ah];rfl
     ·rintro acc σ' HA ⟨o, rfl, rfl, vA, bA, hDA, hpA⟩ hacc
      have hmm:((m:Int)-0).toNat=m:=by omega
      have hacc:HA D=some (.lst (List.map V.str ((List.range m).map fun k=>abc (((tn+5 * k) % 26:Nat):Int)))):=by first | exact hacc | (rw[hmm] at hacc;exact hacc)
      have t1:=slice_toL z at_
      have g1:=hj.slice none (some (at_:Int))
      refine⟨_,rfl,_,rfl,by omega,by omega,?_⟩
      refine comp_range (fun D' i acc σ' H'=>∃o,σ'=[o,some (.str letters),some (.str z),some (.ref D),some (.int (at_:Int))]/\acc=List.map V.str ((List.range i).map fun k=>Txt.slice z none (some (at_:Int))++abc (((tn+5 * k) % 26:Nat):Int)++abc ((k / 26:Nat):Int))/\Same HA H'/\HA D'=none) fun D' hD'=>⟨?_,?_,?_⟩
      ·exact⟨none,rfl,rfl,Same.new hD',hD'⟩
      ·rintro i acc σ' H' hi ⟨o,rfl,rfl,sm,hD0'⟩ hacc'
       have hi:i<m:=by simpa using hi
       refine gYes ?_
       refine⟨_,rfl,_,rfl,_,rfl,.str hz ⟨_,rfl,_,rfl,.lst (.of (sm _ _ hacc)) (show atI _ (0+(i:Nat):Int)=some (.str (abc (((tn+5 * i) % 26:Nat):Int))) from by
        rw[Int.zero_add,str_at (by simpa using hi),getD_by hi]) (.str (by rw[abc_len];omega) ⟨_,rfl,_,rfl,_,_,rfl,rfl,⟨by decide,by decide⟩,.str lL (show atI _ ((0+(i:Nat):Int) / 26)=some (97+((i / 26:Nat):Int).toNat) from by
        rw[show (0+(i:Nat):Int) / 26=((i / 26:Nat):Int) by omega]
        exact abc_at (by omega) (by omega)) (.str ?_ ⟨hacc',?_,_,rfl,?_,?_,hD0'⟩)⟩)⟩⟩
       ·rw[len_app,abc_len];show _+1+1<=sizeLine;omega
       ·rw[aa,aa,bx];exact small1000 (by omega)
       ·rw[range_snoc,ah];rfl
       ·exact same_at sm hD0'
      ·rintro acc σ' H' ⟨o,rfl,rfl,sm,hD0'⟩ hacc'
       have hacc':H' D'=some (.lst (List.map V.str ((List.range m).map fun k=>Txt.slice z none (some (at_:Int))++abc (((tn+5 * k) % 26:Nat):Int)++abc ((k / 26:Nat):Int)))):=by first | exact hacc' | (rw[hmm] at hacc';exact hacc')
       refine fin D' _ H' hacc' (by simp) (nodup_by _ _ fun i j hij hj e=>?_) (fun s hs=>?_) (bA.free (Ne.symm (vA.ne hD0')) hD0') (vA.ne hD0') (penSame sm vA) (bA.trans (But.of_same sm))
       ·obtain⟨e1,e2⟩:=end2_inj e
        omega
       ·obtain⟨i,hi,rfl⟩:=mem_by hs
        refine((g1.app (abc_lo (by omega) (by omega))).app (abc_lo (by omega) (by omega))).nm ?_ ?_
        ·rw[len_app,len_app,abc_len];omega
        ·rw[len_app,len_app,abc_len,abc_len];omega
theorem Rep.pairBut {H H':Hp}{p:Addr}{ys:List V}(hp:H p=some (.lst ys)) (b:But p H H') {v:V}{e:Str × Str}(h:Rep H v (pairD e)):Rep H' v (pairD e):=by
 obtain⟨a,rfl,ha⟩:=pair_at h
 exact pair_rep (b a _ (ne_of ha hp (by intro z;cases z)) ha)
theorem RepAll.pairBut {H H':Hp}{p:Addr}{ys:List V}(hp:H p=some (.lst ys)) (b:But p H H'):∀ {es:List (Str × Str)}{xs:List V},RepAll H xs (es.map pairD)->RepAll H' xs (es.map pairD)
 | [],xs,h=>by rw[RepAll.nilI h];exact .nil
 | e::es,xs,h=>by
  obtain⟨y,ys',rfl,a,c⟩:=RepAll.consI h
  exact .cons (Rep.pairBut hp b a) (RepAll.pairBut hp b c)
theorem penAt {H:Hp}{p a:Addr}(v:PenV H p a):∃ys,H p=some (.lst ys):=let ⟨_,_,e,_⟩:=v;⟨_,e⟩
theorem scPlaces:FnScope ["things","places","place","thing"] ["things"] (defScope sPlaces):=⟨rfl,rfl,rfl,by decide +kernel,rfl,by decide +kernel,by decide +kernel⟩
theorem pair_get {H:Hp}{refs:List V}{ps:List (Str × Str)}(rp:RepAll H refs (ps.map pairD)) {j:Nat}{x:V}(hx:refs[j]? = some x):∃e ta,ps[j]? = some e/\x=.ref ta/\H ta=some (.tup [.str e.1,.str e.2]):=by
 obtain⟨d,hd,rd⟩:=rp.get hx
 rw[aA] at hd
 cases q:ps[j]? with
 | none=>rw[q] at hd;cases hd
 | some e =>
  rw[q] at hd
  have hd:pairD e=d:=ai hd
  rw[<- hd] at rd
  obtain⟨ta,h1,h2⟩:=pair_at rd
  exact⟨e,ta,rfl,h1,h2⟩
theorem str_get {ss:List Str}{i:Nat}{x:V}(h:(List.map V.str ss)[i]? = some x):∃s,ss[i]? = some s/\V.str s=x:=by
 rw[aA] at h
 cases q:ss[i]? with
 | none=>rw[q] at h;cases h
 | some e=>rw[q] at h;exact⟨e,rfl,ai h⟩
structure PlN (H H':Hp) (d:Addr) (xs:List Str) (i:Nat) (kvs:List (Key × V)):Prop where
 sm:Same H H'
 at_:H' d=some (.dK kvs)
 len:kvs.length<=i
 inn:∀s,(valV kvs (.inr s)).isSome=true ↔ s∈xs.take i
 ix:∀s v,valV kvs (.inr s)=some v->∃j:Nat,v=.int j/\xs[j]? = some s
 nd:(kvs.map (·.1)).Nodup
 ks:∀k∈kvs.map (·.1),∃s∈xs,k=Sum.inr s
theorem map_putK {kvs:List (Key × V)}{k:Key}{v:V}(h:(valV kvs k).isSome=true):(putK kvs k v).map (·.1)=kvs.map (·.1):=by
 unfold putK
 rw[if_pos (by rw[valV_any];exact h),aM]
 refine List.map_congr_left fun p _=>?_
 show (if p.1=k then (p.1,v) else p).1=p.1
 split <;> rfl
theorem PlN.step {H H':Hp}{d p:Addr}{xs:List Str}{i:Nat}{kvs:List (Key × V)}{t:Str}{o:HO}(h:PlN H H' d xs i kvs) (hd:H d=none) (hp:H' p=none) (ht:xs[i]? = some t) :
    PlN H (upd (upd H' p o) d (.dK (putK kvs (.inr t) (.int (i:Nat))))) d xs (i+1) (putK kvs (.inr t) (.int (i:Nat))):=by
 refine⟨?_,upd_same,?_,?_,?_,?_,?_⟩
 ·intro b o hb
  rw[upd_ne (ne_of_none hb hd)]
  exact Same.new hp _ _ (h.sm _ _ hb)
 ·have:=length_putK kvs (.inr t) (V.int (i:Nat))
  have:=h.len
  omega
 ·intro s
  rw[valV_put,au,ht,aq]
  by_cases q:s=t
  ·subst q
   simp
  ·rw[if_neg (fun z=>q (Sum.inr.inj z)),h.inn s]
   simp[q]
 ·intro s v e
  rw[valV_put] at e
  by_cases q:s=t
  ·subst q
   rw[if_pos rfl] at e
   exact⟨i,(ai e).symm,ht⟩
  ·rw[if_neg (fun z=>q (Sum.inr.inj z))] at e
   exact h.ix s v e
 ·cases q:valV kvs (.inr t) with
  | none=>exact nd_putK _ h.nd q
  | some v=>rw[map_putK (by rw[q];rfl)];exact h.nd
 ·intro k hk
  cases q:valV kvs (.inr t) with
  | none =>
   rw[putK_new _ q,ah] at hk
   rcases aq.mp hk with hk | hk
   ·exact h.ks k hk
   ·have:k=Sum.inr t:=by simpa using hk
    exact⟨t,aj ht,this⟩
  | some v=>rw[map_putK (by rw[q];rfl)] at hk;exact h.ks k hk
theorem ok_placesX {f:Addr}{fd:FuncData}(F:Fun K "places_of" "places_of" sPlaces f fd) (B:Blt mg):FnOk P w K mg base CX0 1 f fd ["things"] spPlacesX := by
 refine F.ok scPlaces (fun vs H Q E h=>?_) (fun cdv A outer s H vs Q E hr h=>?_)
 ·obtain⟨x,rfl,_⟩:=h
  rfl
 ·obtain⟨x, rfl, h⟩ := h
  have nd:=scPlaces.nd
  cases h with
  | @nm a xs _ ha hl k =>
   refine⟨_,(pss_cons (ps_set (i:=1) nd rfl (Or.inl rfl) pe_dnewK)
   (pss_cons (ps_for PassesOwn.never rfl (pi_enumX K rfl B.enumerate (pa_cons (pv 0) pa_nil)) (pg_tupK (n:=2) K rfl (pgs_cons (pg_name (i:=2) nd rfl (Or.inl rfl)) (pgs_cons (pg_name (i:=3) nd rfl (Or.inl rfl)) pgs_nil))) (pss_one (ps_asg (pv 2) (pg_sub (pv 1) (pv 3) (set_X hr.units)))))
   (pss_one (ps_ret (pv 1))))),?_⟩
   intro d hd
   have s0:=Same.new (o:=.dK []) hd
   have start:PlN H (upd H d (.dK [])) d xs 0 []:=⟨s0,upd_same,ae _,(fun s=>by simp[valV_nil]),(fun s v e=>by cases e),bw,(fun k hk=>by cases hk)⟩
   rcases ha with ha | ha
   ·refine⟨_,rfl,_,rfl,.lst (.of (s0 _ _ ha)) ?_⟩
    refine for_enum (xs:=List.map V.str xs) (fun i σ H'=>∃o1 o2 kvs,σ=[some (.ref a),some (.ref d),o1,o2]/\PlN H H' d xs i kvs) ?_ ?_ ?_ ?_
    ·exact⟨none,none,[],rfl,start⟩
    ·rintro i σ H' hi ⟨o1,o2,kvs,rfl,pl⟩
     exact .of (pl.sm _ _ ha)
    ·rintro i x σ H' p hx ⟨o1,o2,kvs,rfl,pl⟩ hp
     obtain⟨t,ht,rfl⟩:=str_get hx
     have hil:=(af.mp ht).1
     have hdp:d≠p:=ne_of_none pl.at_ hp
     have:=pl.len
     refine⟨p,_,rfl,.of upd_same,rfl,_,_,rfl,_,_,rfl,rfl,?_⟩
     exact⟨_,rfl,_,rfl,_,rfl,.dic (DPut.k (k:=.inr t) (by rw[upd_ne hdp];exact pl.at_) (small1000 (by omega))) ⟨_,_,_,rfl,pl.step hd hp ht⟩⟩
    ·rintro σ H' ⟨o1,o2,kvs,rfl,pl⟩
     have hin:=pl.inn
     rw[aa,aw (ae _)] at hin
     exact⟨_,rfl,k d kvs H' pl.sm hd pl.at_ hin pl.ix pl.nd pl.ks⟩
   ·refine⟨_,rfl,_,rfl,.tup (.of (s0 _ _ ha)) ?_⟩
    refine for_enumT (xs:=List.map V.str xs) (fun i σ H'=>∃o1 o2 kvs,σ=[some (.ref a),some (.ref d),o1,o2]/\PlN H H' d xs i kvs) ?_ ?_ ?_ ?_
    ·exact⟨none,none,[],rfl,start⟩
    ·rintro i σ H' hi ⟨o1,o2,kvs,rfl,pl⟩
     exact .of (pl.sm _ _ ha)
    ·rintro i x σ H' p hx ⟨o1,o2,kvs,rfl,pl⟩ hp
     obtain⟨t,ht,rfl⟩:=str_get hx
     have hil:=(af.mp ht).1
     have hdp:d≠p:=ne_of_none pl.at_ hp
     have:=pl.len
     refine⟨p,_,rfl,.of upd_same,rfl,_,_,rfl,_,_,rfl,rfl,?_⟩
     exact⟨_,rfl,_,rfl,_,rfl,.dic (DPut.k (k:=.inr t) (by rw[upd_ne hdp];exact pl.at_) (small1000 (by omega))) ⟨_,_,_,rfl,pl.step hd hp ht⟩⟩
    ·rintro σ H' ⟨o1,o2,kvs,rfl,pl⟩
     have hin:=pl.inn
     rw[aa,aw (ae _)] at hin
     exact⟨_,rfl,k d kvs H' pl.sm hd pl.at_ hin pl.ix pl.nd pl.ks⟩
  | @pr a refs ps _ ha rp hl k =>
   refine⟨_,(pss_cons (ps_set (i:=1) nd rfl (Or.inl rfl) pe_dnewT)
   (pss_cons (ps_for PassesOwn.never rfl (pi_enumX K rfl B.enumerate (pa_cons (pv 0) pa_nil)) (pg_tupK (n:=2) K rfl (pgs_cons (pg_name (i:=2) nd rfl (Or.inl rfl)) (pgs_cons (pg_name (i:=3) nd rfl (Or.inl rfl)) pgs_nil))) (pss_one (ps_asg (pv 2) (pg_sub (pv 1) (pv 3) (set_X hr.units)))))
   (pss_one (ps_ret (pv 1))))),?_⟩
   have rlen:=rp.len
   rw[aa] at rlen
   intro d hd
   have s0:=Same.new (o:=.dT []) hd
   have turn:∀(i:Nat) (e:Str × Str) (ta p:Addr) (H':Hp) (kvs:List (List Key × V)), Same H H' -> H' d=some (.dT kvs) -> kvs.length <= i -> i<ps.length -> (∀f:Str × Str, (valV kvs (pK f)).isSome=true ↔ f ∈ ps.take i) -> ps[i]? = some e -> H' p=none ->
       Same H (upd (upd H' p (.tup [.int (i:Nat),.ref ta])) d (.dT (putK kvs (pK e) (.int (i:Nat)))))/\(putK kvs (pK e) (V.int (i:Nat))).length<=i+1/\∀f:Str × Str,(valV (putK kvs (pK e) (V.int (i:Nat))) (pK f)).isSome=true ↔ f∈ps.take (i+1):=by
    intro i e ta p H' kvs sm hk hkl hi hin he hp
    refine⟨?_,?_,fun f=>?_⟩
    ·intro b o hb
     rw[upd_ne (ne_of_none hb hd)]
     exact Same.new hp _ _ (sm _ _ hb)
    ·have:=length_putK kvs (pK e) (V.int (i:Nat))
     omega
    ·rw[valV_put,au,he,aq]
     by_cases q:f=e
     ·subst q;simp
     ·rw[if_neg (fun z=>q (pK_inj z)),hin f]
      simp[q]
   rcases ha with ha | ha
   ·refine⟨_,rfl,_,rfl,.lst (.of (s0 _ _ ha)) ?_⟩
    refine for_enum (xs:=refs) (fun i σ H'=>∃o1 o2 kvs,σ=[some (.ref a),some (.ref d),o1,o2]/\Same H H'/\H' d=some (.dT kvs)/\kvs.length<=i/\∀f:Str × Str,(valV kvs (pK f)).isSome=true ↔ f∈ps.take i) ?_ ?_ ?_ ?_
    ·exact⟨none,none,[],rfl,s0,upd_same,ae _,fun s=>by simp[valV_nil]⟩
    ·rintro i σ H' hi ⟨o1,o2,kvs,rfl,sm,_⟩
     exact .of (sm _ _ ha)
    ·rintro i x σ H' p hx ⟨o1,o2,kvs,rfl,sm,hk,hkl,hin⟩ hp
     obtain⟨e,ta,he,rfl,hta⟩:=pair_get (rp.same sm) hx
     have hil:=(af.mp he).1
     have hdp:d≠p:=ne_of_none hk hp
     obtain⟨g1,g2,g3⟩:=turn i e ta p H' kvs sm hk hkl hil hin he hp
     refine⟨p,_,rfl,.of upd_same,rfl,_,_,rfl,_,_,rfl,rfl,?_⟩
     exact⟨_,rfl,_,rfl,_,rfl,.dic (DPut.t (k:=pK e) (by rw[upd_ne hdp];exact hk) (Same.new hp _ _ hta) (small1000 (by omega))) ⟨_,_,_,rfl,g1,upd_same,g2,g3⟩⟩
    ·rintro σ H' ⟨o1,o2,kvs,rfl,sm,hk,hkl,hin⟩
     rw[rlen,aw (ae _)] at hin
     exact⟨_,rfl,k d kvs H' sm hd hk hin⟩
   ·refine⟨_,rfl,_,rfl,.tup (.of (s0 _ _ ha)) ?_⟩
    refine for_enumT (xs:=refs) (fun i σ H'=>∃o1 o2 kvs,σ=[some (.ref a),some (.ref d),o1,o2]/\Same H H'/\H' d=some (.dT kvs)/\kvs.length<=i/\∀f:Str × Str,(valV kvs (pK f)).isSome=true ↔ f∈ps.take i) ?_ ?_ ?_ ?_
    ·exact⟨none,none,[],rfl,s0,upd_same,ae _,fun s=>by simp[valV_nil]⟩
    ·rintro i σ H' hi ⟨o1,o2,kvs,rfl,sm,_⟩
     exact .of (sm _ _ ha)
    ·rintro i x σ H' p hx ⟨o1,o2,kvs,rfl,sm,hk,hkl,hin⟩ hp
     obtain⟨e,ta,he,rfl,hta⟩:=pair_get (rp.same sm) hx
     have hil:=(af.mp he).1
     have hdp:d≠p:=ne_of_none hk hp
     obtain⟨g1,g2,g3⟩:=turn i e ta p H' kvs sm hk hkl hil hin he hp
     refine⟨p,_,rfl,.of upd_same,rfl,_,_,rfl,_,_,rfl,rfl,?_⟩
     exact⟨_,rfl,_,rfl,_,rfl,.dic (DPut.t (k:=pK e) (by rw[upd_ne hdp];exact hk) (Same.new hp _ _ hta) (small1000 (by omega))) ⟨_,_,_,rfl,g1,upd_same,g2,g3⟩⟩
    ·rintro σ H' ⟨o1,o2,kvs,rfl,sm,hk,hkl,hin⟩
     rw[rlen,aw (ae _)] at hin
     exact⟨_,rfl,k d kvs H' sm hd hk hin⟩
theorem placesX_of (vs:List V) (H:Hp) (Q:VK) (E:XK) (h:spPlaces vs H Q E):spPlacesX vs H Q E:=by
 obtain⟨a,xs,rfl,ha,hl,k⟩:=h
 exact⟨_,rfl,.nm (.inl ha) hl fun d kvs H' s h0 h1 h2 h3 _ _=>k d kvs H' s h0 h1 h2 h3⟩
theorem scIsName:FnScope ["thing"] ["thing"] (defScope sIsName):=⟨rfl,rfl,rfl,by decide +kernel,rfl,by decide +kernel,by decide +kernel⟩
theorem ok_isname {f:Addr}{fd:FuncData}{tk:Tok}(F:Fun K "is_name" "is_name" sIsName f fd) (B:Blt mg) (T:mg "MOST_SIGNS"=some (.int 8 tk)):FnOk P w K mg base CX0 1 f fd ["thing"] spIsName := by
 refine F.ok scIsName (fun vs H Q E h=>?_) (fun cdv A outer s H vs Q E hr h=>?_)
 ·obtain⟨x,rfl,_⟩:=h
  rfl
 ·obtain⟨x, rfl, hx, k⟩ := h
  have nd:=scIsName.nd
  obtain⟨t,ty,t1,_⟩:=ty_thg (K:=K) hx
  refine⟨_,(pss_cons (ps_if (pt_not (pt_val (b_isi K "str" B (pa_cons (pv 0) (pa_cons (g_str B) pa_nil))))) (pss_one (ps_ret pe_bl)) pss_nil)
   (pss_cons (ps_if (PW.pt (pw_or (pt_cmpR op_ltX (b_len K B (pa_cons (pv 0) pa_nil)) pe_int (nomark _)) (pw_or1 (pt_cmpR op_gt (b_len K B (pa_cons (pv 0) pa_nil)) (pe_glob (v:=.int 8) rfl T ⟨_,rfl⟩) (nomark _))))) (pss_one (ps_ret pe_bl)) pss_nil)
   (pss_one (ps_ret (b_all rfl B (pa_cons (pe_comp (defScope sIsName) ["thing"] ["sign"] [] ["sign"] rfl (pi_str (pv 0)) (fun _ _ _ _ _=>(pg_name (i:=0) (show (["sign"]:List Str).Nodup by decide) rfl (Or.inl rfl))) (fun _ _ _ _ _=>pts_nil) (fun _ _ _ _ _=>(pe_chain op_leX op_leX pe_str (pv 0) pe_str))) pa_nil)))))),?_⟩
  refine⟨_,rfl,x,t,_,rfl,ty,t1,_,rfl,?_⟩
  refine ite2 (fun hn=>?_) (fun hn=>?_)
  ·have e:isNm x=false:=by cases x <;> first | rfl | (simp[isS] at hn)
   have q:=k H (Same.refl H)
   rw[e] at q
   exact q
  ·obtain⟨z, rfl⟩:∃z, x=.str z := by cases x <;> first | exact⟨_, rfl⟩ | (simp[isS] at hn)
   have hzz:z.length<=sizeLine:=by
    cases hx with
    | str h=>exact h
   refine⟨_,rfl,_,_,rfl,⟨hzz,rfl⟩,.int ⟨_,rfl,?_⟩⟩
   refine ite2 (fun h1=>?_) (fun h1=>?_)
   ·refine iteT ?_
    have q:=k H (Same.refl H)
    have h1:(z.length:Int)<1:=az h1
    have e:isNm (.str z)=false:=by
     show (decide (1<=z.length)&&_)=false
     rw[aI (by omega)];rfl
    rw[e] at q
    exact q
   ·have h1:¬ (z.length:Int)<1 := of_decide_eq_false (by simpa using h1)
    refine⟨_,rfl,_,_,rfl,⟨hzz,rfl⟩,_,_,rfl,rfl,_,rfl,?_⟩
    refine ite2 (fun h2=>?_) (fun h2=>?_)
    ·have q:=k H (Same.refl H)
     have h2:(8:Int)<z.length:=az h2
     have e:isNm (.str z)=false:=by
      show (decide (1<=z.length)&&(decide (z.length<=8)&&_))=false
      rw[aI (show ¬ z.length<=8 by omega),Bool.false_and,Bool.and_false]
     rw[e] at q
     exact q
    ·have h2:¬ (8:Int)<z.length := of_decide_eq_false (by simpa using h2)
     have e:isNm (.str z)=z.cps.toList.all isLow:=by
      show (decide (1<=z.length)&&(decide (z.length<=8)&&_))=_
      rw[ao (show 1<=z.length by omega),ao (show z.length<=8 by omega),Bool.true_and,Bool.true_and]
     refine⟨_,rfl,z,rfl,?_⟩
     refine comp_str (fun D i acc σ' H'=>∃o,σ'=[o]/\acc=(z.cps.toList.take i).map (fun c=>V.bl (isLow c))/\Same H H'/\H D=none) fun D hD=>⟨⟨none,rfl,rfl,Same.new hD,hD⟩,?_,?_⟩
     ·rintro i acc σ' H' c hc ⟨o, rfl, rfl, sm, hD0⟩ hacc
      refine gYes ?_
      have sg:∀b:Bool,b=isLow c->(H' D=some (.lst ((z.cps.toList.take i).map (fun c=>V.bl (isLow c))))/\((z.cps.toList.take i).map (fun c=>V.bl (isLow c))).length<sizeLine /\
          (∃o,[some (V.str ⟨#[c]⟩)]=[o]/\(z.cps.toList.take i).map (fun c=>V.bl (isLow c))++[V.bl b]=(z.cps.toList.take (i+1)).map (fun c=>V.bl (isLow c))/\Same H (upd H' D (.lst ((z.cps.toList.take i).map (fun c=>V.bl (isLow c))++[V.bl b])))/\H D=none)):=fun b hb=>by
       refine⟨hacc,?_,_,rfl,?_,?_,hD0⟩
       ·rw[aa]
        refine small1000 ?_
        have:=List.length_take_le' i z.cps.toList
        have h2':z.length<=8:=by omega
        have hl:z.cps.toList.length=z.length:=by simp[Str.length]
        omega
       ·rw[au,hc,ah,hb];rfl
       ·intro b' o' e'
        rw[upd_ne (ne_of_none e' hD0)]
        exact sm b' o' e'
      refine⟨_,rfl,.str ⟨_,rfl,?_⟩⟩
      have e1:(!decide ((⟨#[c]⟩:Str).cps.toList<("a":Str).cps.toList))=decide (97<=c):=by
       show (!decide ([c]<[97]))=_
       rw[lt_one]
       by_cases hh:c<97
       ·rw[ao hh,aI (by omega)];rfl
       ·rw[aI hh,ao (by omega)];rfl
      have e2:(!decide (("z":Str).cps.toList<(⟨#[c]⟩:Str).cps.toList))=decide (c<=122):=by
       show (!decide ([122]<[c]))=_
       rw[lt_one]
       by_cases hh:122<c
       ·rw[ao hh,aI (by omega)];rfl
       ·rw[aI hh,ao (by omega)];rfl
      rw[e1]
      refine ite2 (fun h3=>?_) (fun h3=>?_)
      ·refine .str (sg _ ?_)
       rw[e2]
       unfold isLow
       rw[h3,Bool.true_and]
      ·refine sg false ?_
       unfold isLow
       have h3:decide (97<=c)=false:=by simpa using h3
       rw[h3,Bool.false_and]
     ·rintro acc σ' H' ⟨o,rfl,rfl,sm,hD0⟩ hacc
      rw[aw (ae _)] at hacc
      refine⟨D,z.cps.toList.map isLow,rfl,by rw[aM];exact hacc,?_⟩
      have q:=k H' sm
      rw[e] at q
      have e4:(z.cps.toList.map isLow).all id=z.cps.toList.all isLow:=by rw[List.all_map];rfl
      rw[e4]
      exact q
def spUnlike:Sp:=fun vs H Q _=>∃(a:Addr) (ss:List Str),vs=[.ref a]/\SqA H a (List.map V.str ss)/\ss.length<=1000/\∀H',Same H H'->Q (.bl (decide ss.Nodup)) H'
theorem scUnlike:FnScope ["things"] ["things"] (defScope sUnlike):=⟨rfl,rfl,rfl,by decide +kernel,rfl,by decide +kernel,by decide +kernel⟩
theorem ok_unlike {f:Addr}{fd:FuncData}(F:Fun K "are_unlike" "are_unlike" sUnlike f fd) (B:Blt mg) (cplaces_of:Cal P w K mg base 1 "places_of" ["things"] spPlacesX):FnOk P w K mg base CX0 2 f fd ["things"] spUnlike := by
 refine F.ok scUnlike (fun vs H Q E h=>?_) (fun cdv A outer s H vs Q E hr h=>?_)
 ·obtain⟨a,ss,rfl,_⟩:=h
  rfl
 ·obtain⟨a, ss, rfl, ha, hlen, k⟩ := h
  have nd:=scUnlike.nd
  refine⟨_,(pss_one (ps_ret (pe_cmpR (op_eqX hr.units) (b_lenD B (pa_cons (pe_cal cplaces_of (hr.mono (by decide)) rfl (pa_cons (pv 0) pa_nil)) pa_nil)) (b_len K B (pa_cons (pv 0) pa_nil)) (nomark _)))),?_⟩
  refine⟨_,rfl,_,rfl,?_⟩
  refine .nm ha hlen fun d kvs H1 s1 hd0 hd hin hat knd ks=>⟨d,kvs,rfl,hd,_,rfl,_,ss.length,rfl,?_,.sc rfl ?_⟩
  ·have:=(SqA.same ha s1).len (K:=K)
   rw[aa] at this
   exact this
  ·have e:=len_kvs knd ks hin
   have e2:decide (V.int (kvs.length:Nat)=V.int (ss.length:Nat))=decide ss.Nodup:=by
    rw[aO,decide_eq_true_iff,decide_eq_true_iff,<- e]
    exact⟨fun z=>Int.ofNat.inj (V.int.inj z),fun z=>by rw[z]⟩
   show Q (.bl (decide (V.int (kvs.length:Nat)=V.int (ss.length:Nat)))) H1
   rw[e2]
   exact k H1 s1
theorem nmS {s:Str}(h:Nm s):s.length<=sizeLine:=aT (small1000 (by have:=h.2.1;omega))
def spAmong:Sp:=fun vs H Q _=>∃(d ta:Addr) (kvs:List (Key × V)) (e:Str × Str),vs=[.ref d,.ref ta]/\H d=some (.dK kvs)/\H ta=some (.tup [.str e.1,.str e.2])/\Nm e.1/\Nm e.2/\(valV kvs (.inr e.1)).isSome=true/\(valV kvs (.inr e.2)).isSome=true/\∀H',Same H H'->Q (.bl true) H'
theorem scAmong:FnScope ["places","tie"] ["places","tie"] (defScope sAmong):=⟨rfl,rfl,rfl,by decide +kernel,rfl,by decide +kernel,by decide +kernel⟩
theorem ok_among {f:Addr}{fd:FuncData}(F:Fun K "is_tie_among" "is_tie_among" sAmong f fd) (B:Blt mg) (cis_name:Cal P w K mg base 1 "is_name" ["thing"] spIsName):FnOk P w K mg base CX0 2 f fd ["places", "tie"] spAmong := by
 refine F.ok scAmong (fun vs H Q E h=>?_) (fun cdv A outer s H vs Q E hr h=>?_)
 ·obtain⟨d,ta,kvs,e,rfl,_⟩:=h
  rfl
 ·obtain⟨d, ta, kvs, e, rfl, hd, hta, n1, n2, i1, i2, k⟩ := h
  have nd:=scAmong.nd
  obtain⟨t,ty,_,_,_,_,t5⟩:=ty_thg (K:=K) (Thg.tup hta)
  rw[isT_of hta] at t5
  refine⟨_,(pss_cons (ps_if (PW.pt (pw_or (pt_not (pt_val (b_isi K "tuple" B (pa_cons (pv 1) (pa_cons (g_tuple B) pa_nil))))) (pw_or1 (pt_cmpR (op_neX hr.units) (b_len K B (pa_cons (pv 1) pa_nil)) pe_int (nomark _))))) (pss_one (ps_ret pe_bl)) pss_nil)
   (pss_one (ps_ret (b_all rfl B (pa_cons (pe_comp (defScope sAmong) ["places","tie"] ["end"] [0] ["end","places"] rfl (pi_tupK K (pv 1)) (fun _ _ _ _ _=>(pg_name (i:=0) (show (["end","places"]:List Str).Nodup by decide) rfl (Or.inl rfl))) (fun _ _ _ _ _=>pts_nil) (fun _ _ _ _ _=>(pe_and (pe_cal cis_name (hr.mono (by decide)) rfl (pa_cons (pv 0) pa_nil)) (pe_one (pe_cmpR (op_inX K hr.units) (pv 0) (pv 1) (by with_unfolding_all rfl)))))) pa_nil))))),?_⟩
  refine⟨_,rfl,_,t,_,rfl,ty,t5,_,rfl,?_⟩
  refine ite2 (fun h=>absurd h (by decide)) (fun _=>?_)
  refine⟨_,rfl,_,_,rfl,Or.inr ⟨_,.of hta,rfl⟩,.sc rfl ⟨_,rfl,?_⟩⟩
  refine ite2 (fun h=>absurd h (by show ¬ (!decide (V.int 2=V.int 2))=true;decide)) (fun _=>?_)
  refine⟨_,rfl,ta,rfl,⟨_,.of hta⟩,?_⟩
  refine comp_tup [V.str e.1,V.str e.2] (fun D i acc σ' H'=>∃o,σ'=[o,some (.ref d)]/\acc=List.replicate i (V.bl true)/\Same H H'/\H D=none) fun D hD=>⟨?_,?_,?_,?_⟩
  ·exact⟨none,rfl,rfl,Same.new hD,hD⟩
  ·rintro i acc σ' H' _ ⟨o,rfl,_,sm,_⟩ _
   exact .of (sm _ _ hta)
  ·rintro i acc σ' H' x hx ⟨o,rfl,rfl,sm,hD0⟩ hacc
   have hil:=(af.mp hx).1
   have hil:i<2:=hil
   obtain⟨z,rfl,nz,iz⟩:∃z,x=.str z/\Nm z/\(valV kvs (.inr z)).isSome=true:=by
    match i,hil,hx with
    | 0,_,hx=>exact⟨e.1,(ai hx).symm,n1,i1⟩
    | 1,_,hx=>exact⟨e.2,(ai hx).symm,n2,i2⟩
   refine gYes ?_
   refine⟨_,rfl,_,rfl,.str (nmS nz),fun H2 s2=>⟨_,rfl,?_⟩⟩
   rw[isNm_iff.mpr nz]
   refine iteT ?_
   refine⟨_,rfl,_,rfl,.dic (DGet.k (k:=.inr z) (s2 _ _ (sm _ _ hd))) ?_⟩
   refine⟨s2 _ _ hacc,by rw[bK];exact small1000 (by omega),_,rfl,?_,same_at (sm.trans s2) hD0,hD0⟩
   show List.replicate i (V.bl true)++[V.bl (valV kvs (.inr z)).isSome]=_
   rw[iz,cb]
  ·rintro acc σ' H2 ⟨o,rfl,rfl,s2,hD0⟩ hacc
   refine⟨D,[true,true],rfl,hacc,?_⟩
   exact k H2 s2
def spUNm:Sp:=fun vs H Q _=>∃(a:Addr) (ss:List Str),vs=[.ref a]/\SqA H a (List.map V.str ss)/\ss.length<=60/\ss.Nodup/\(∀s∈ss,Nm s)/\∀H',Same H H'->Q (.bl true) H'
theorem scUNm:FnScope ["things"] ["things"] (defScope sUNm):=⟨rfl,rfl,rfl,by decide +kernel,rfl,by decide +kernel,by decide +kernel⟩
theorem ok_unm {f:Addr}{fd:FuncData}(F:Fun K "are_unlike_names" "are_unlike_names" sUNm f fd) (B:Blt mg) (cis_name:Cal P w K mg base 1 "is_name" ["thing"] spIsName) (care_unlike:Cal P w K mg base 2 "are_unlike" ["things"] spUnlike):FnOk P w K mg base CX0 3 f fd ["things"] spUNm := by
 refine F.ok scUNm (fun vs H Q E h=>?_) (fun cdv A outer s H vs Q E hr h=>?_)
 ·obtain⟨a,ss,rfl,_⟩:=h
  rfl
 ·obtain⟨a, ss, rfl, ha, hlen, snd, snm, k⟩ := h
  have nd:=scUNm.nd
  have hl60:¬ (60:Int)<((List.map V.str ss).length:Nat):=by rw[aa];omega
  rcases ha with ha | ha
  ·refine⟨_,(pss_cons (ps_if (pt_not (pt_val (b_isi2 K "list" "tuple" B (pa_cons (pv 0) (pa_cons (pe_tup (pa_cons (g_list B) (pa_cons (g_tuple B) pa_nil))) pa_nil))))) (pss_one (ps_ret pe_bl)) pss_nil)
   (pss_one (ps_ret (pe_and (b_all rfl B (pa_cons (pe_comp (defScope sUNm) ["things"] ["thing"] [] ["thing"] rfl (pi_listK K (pv 0)) (fun _ _ _ _ _=>(pg_name (i:=0) (show (["thing"]:List Str).Nodup by decide) rfl (Or.inl rfl))) (fun _ _ _ _ _=>pts_nil) (fun _ _ _ _ _=>(pe_cal cis_name (hr.mono (by decide)) rfl (pa_cons (pv 0) pa_nil)))) pa_nil)) (pe_one (pe_cal care_unlike (hr.mono (by decide)) rfl (pa_cons (pv 0) pa_nil))))))),?_⟩
   refine⟨_,rfl,(by show 2<=sizeLine;decide),fun tp htp=>?_⟩
   have s0:=Same.new (o:=.tup [V.ty "list",V.ty "tuple"]) htp
   have A0:SqA (upd H tp (.tup [V.ty "list",V.ty "tuple"])) a (List.map V.str ss):=(SqA.same (.inl ha) s0)
   obtain⟨t,ty,_,_,_,t4,t5⟩:=ty_thg (K:=K) A0.thg
   have kl:=kit_lt t4 t5
   rw[A0.lt] at kl
   refine⟨_,tp,t,_,rfl,upd_same,ty,kl,_,rfl,?_⟩
   refine ite2 (fun h=>absurd h (by decide)) (fun _=>?_)
   have ha0:=s0 _ _ ha
   generalize upd H tp (.tup [V.ty "list",V.ty "tuple"])=H0 at s0 ha0 ⊢
   refine⟨_,rfl,a,rfl,⟨_,.of ha0⟩,?_⟩
   refine comp_list (List.map V.str ss) (fun D i acc σ' H'=>∃o,σ'=[o]/\acc=List.replicate i (V.bl true)/\Same H0 H'/\H0 D=none) fun D hD=>⟨?_,?_,?_,?_⟩
   ·exact⟨none,rfl,rfl,Same.new hD,hD⟩
   ·rintro i acc σ' H' _ ⟨o,rfl,_,sm,_⟩ _
    exact .of (sm _ _ ha0)
   ·rintro i acc σ' H' x hx ⟨o,rfl,rfl,sm,hD0⟩ hacc
    obtain⟨z,hz,rfl⟩:=str_get hx
    have hil:=(af.mp hz).1
    have nz:=snm z (aj hz)
    refine gYes ?_
    refine⟨_,rfl,_,rfl,.str (nmS nz),fun H2 s2=>?_⟩
    rw[isNm_iff.mpr nz]
    exact⟨s2 _ _ hacc,by rw[bK];exact small1000 (by omega),_,rfl,by rw[cb],same_at (sm.trans s2) hD0,hD0⟩
   ·rintro acc σ' H2 ⟨o,rfl,rfl,s2,hD0⟩ hacc
    refine⟨D,List.replicate (List.map V.str ss).length true,rfl,by rw[List.map_replicate];exact hacc,_,rfl,?_⟩
    rw[show (List.replicate (List.map V.str ss).length true).all id=true from by simp]
    refine iteT ?_
    exact⟨_,rfl,a,ss,rfl,(SqA.same (SqA.same (.inl ha) s0) s2),by omega,fun H3 s3=>by rw[ao snd];exact k H3 ((s0.trans s2).trans s3)⟩
  ·refine⟨_,(pss_cons (ps_if (pt_not (pt_val (b_isi2 K "list" "tuple" B (pa_cons (pv 0) (pa_cons (pe_tup (pa_cons (g_list B) (pa_cons (g_tuple B) pa_nil))) pa_nil))))) (pss_one (ps_ret pe_bl)) pss_nil)
   (pss_one (ps_ret (pe_and (b_all rfl B (pa_cons (pe_comp (defScope sUNm) ["things"] ["thing"] [] ["thing"] rfl (pi_tupK K (pv 0)) (fun _ _ _ _ _=>(pg_name (i:=0) (show (["thing"]:List Str).Nodup by decide) rfl (Or.inl rfl))) (fun _ _ _ _ _=>pts_nil) (fun _ _ _ _ _=>(pe_cal cis_name (hr.mono (by decide)) rfl (pa_cons (pv 0) pa_nil)))) pa_nil)) (pe_one (pe_cal care_unlike (hr.mono (by decide)) rfl (pa_cons (pv 0) pa_nil))))))),?_⟩
   refine⟨_,rfl,(by show 2<=sizeLine;decide),fun tp htp=>?_⟩
   have s0:=Same.new (o:=.tup [V.ty "list",V.ty "tuple"]) htp
   have A0:SqA (upd H tp (.tup [V.ty "list",V.ty "tuple"])) a (List.map V.str ss):=(SqA.same (.inr ha) s0)
   obtain⟨t,ty,_,_,_,t4,t5⟩:=ty_thg (K:=K) A0.thg
   have kl:=kit_lt t4 t5
   rw[A0.lt] at kl
   refine⟨_,tp,t,_,rfl,upd_same,ty,kl,_,rfl,?_⟩
   refine ite2 (fun h=>absurd h (by decide)) (fun _=>?_)
   have ha0:=s0 _ _ ha
   generalize upd H tp (.tup [V.ty "list",V.ty "tuple"])=H0 at s0 ha0 ⊢
   refine⟨_,rfl,a,rfl,⟨_,.of ha0⟩,?_⟩
   refine comp_tup (List.map V.str ss) (fun D i acc σ' H'=>∃o,σ'=[o]/\acc=List.replicate i (V.bl true)/\Same H0 H'/\H0 D=none) fun D hD=>⟨?_,?_,?_,?_⟩
   ·exact⟨none,rfl,rfl,Same.new hD,hD⟩
   ·rintro i acc σ' H' _ ⟨o,rfl,_,sm,_⟩ _
    exact .of (sm _ _ ha0)
   ·rintro i acc σ' H' x hx ⟨o,rfl,rfl,sm,hD0⟩ hacc
    obtain⟨z,hz,rfl⟩:=str_get hx
    have hil:=(af.mp hz).1
    have nz:=snm z (aj hz)
    refine gYes ?_
    refine⟨_,rfl,_,rfl,.str (nmS nz),fun H2 s2=>?_⟩
    rw[isNm_iff.mpr nz]
    exact⟨s2 _ _ hacc,by rw[bK];exact small1000 (by omega),_,rfl,by rw[cb],same_at (sm.trans s2) hD0,hD0⟩
   ·rintro acc σ' H2 ⟨o,rfl,rfl,s2,hD0⟩ hacc
    refine⟨D,List.replicate (List.map V.str ss).length true,rfl,by rw[List.map_replicate];exact hacc,_,rfl,?_⟩
    rw[show (List.replicate (List.map V.str ss).length true).all id=true from by simp]
    refine iteT ?_
    exact⟨_,rfl,a,ss,rfl,(SqA.same (SqA.same (.inr ha) s0) s2),by omega,fun H3 s3=>by rw[ao snd];exact k H3 ((s0.trans s2).trans s3)⟩
def spAre:Sp:=fun vs H Q _=>∃(a:Addr) (ss:List Str),vs=[.ref a]/\SqA H a (List.map V.str ss)/\ss.length<=60/\ss.Nodup/\(∀s∈ss,Nm s)/\∀H',Same H H'->Q (.bl true) H'
theorem scAre:FnScope ["things"] ["things"] (defScope sAreThings):=⟨rfl,rfl,rfl,by decide +kernel,rfl,by decide +kernel,by decide +kernel⟩
theorem ok_are {f:Addr}{fd:FuncData}{tk:Tok}(F:Fun K "are_things" "are_things" sAreThings f fd) (B:Blt mg) (TT:mg "MOST_THINGS"=some (.int 60 tk)) (care_unlike_names:Cal P w K mg base 3 "are_unlike_names" ["things"] spUNm):FnOk P w K mg base CX0 4 f fd ["things"] spAre:=by
 refine F.ok scAre (fun vs H Q E h=>?_) (fun cdv A outer s H vs Q E hr h=>?_)
 ·obtain⟨a,ss,rfl,_⟩:=h
  rfl
 ·obtain⟨a,ss,rfl,ha,hlen,snd,snm,k⟩:=h
  have nd:=scAre.nd
  have hl60:(((List.map V.str ss).length:Nat):Int)<=60:=by rw[aa];omega
  refine⟨_,(pss_one (ps_ret (pe_and (pe_cal care_unlike_names (hr.mono (by decide)) rfl (pa_cons (pv 0) pa_nil)) (pe_one (pe_cmpR op_leX (b_len K B (pa_cons (pv 0) pa_nil)) (pe_glob (v:=.int 60) rfl TT ⟨_,rfl⟩) (nomark _)))))),?_⟩
  refine⟨_,rfl,a,ss,rfl,ha,hlen,snd,snm,fun H1 s1=>⟨_,rfl,iteT ?_⟩⟩
  refine⟨_,rfl,_,_,rfl,(SqA.same ha s1).len,.int ?_⟩
  have z:=k H1 s1
  rw[<- ao hl60] at z
  exact z
theorem not_take {α:Type}{l:List α}(h:l.Nodup) {i:Nat}{x:α}(e:l[i]? = some x):x∉l.take i:=by
 intro hx
 obtain⟨j,ej⟩:=List.mem_iff_getElem?.mp hx
 have hj:=(af.mp ej).1
 rw[av] at hj
 rw[bu (by omega)] at ej
 have hi:=(af.mp e).1
 rw[ar (by omega)] at ej
 rw[ar hi] at e
 have:j=i:=(List.getElem_inj h).mp ((ai ej).trans (ai e).symm)
 omega
def spWrong:Sp:=fun vs H Q _=>∃(a t:Addr) (ss:List Str) (ts:List (Str × Str)) (refs:List V),vs=[.ref a,.ref t]/\SqA H a (List.map V.str ss)/\ss.length<=60/\(∀s∈ss,Nm s)/\SqA H t refs/\RepAll H refs (ts.map pairD)/\ts.length<=400/\ts.Nodup/\(∀e∈ts,e.1∈ss/\e.2∈ss)/\∀H',Same H H'->Q .non H'
theorem scWrong:FnScope ["things","ties","places","seen","number","tie"] ["things","ties"] (defScope sWrong):=⟨rfl,rfl,rfl,by decide +kernel,rfl,by decide +kernel,by decide +kernel⟩
theorem ok_wrong {f:Addr}{fd:FuncData}{tk:Tok}(F:Fun K "first_wrong_tie" "first_wrong_tie" sWrong f fd) (B:Blt mg) (TT:mg "MOST_TIES"=some (.int 400 tk)) (cplaces_of:Cal P w K mg base 1 "places_of" ["things"] spPlacesX) (cis_tie_among:Cal P w K mg base 2 "is_tie_among" ["places", "tie"] spAmong):FnOk P w K mg base CX0 3 f fd ["things", "ties"] spWrong := by
 refine F.ok scWrong (fun vs H Q E h=>?_) (fun cdv A outer s H vs Q E hr h=>?_)
 ·obtain⟨a,t,ss,ts,refs,rfl,_⟩:=h
  rfl
 ·obtain⟨a, t, ss, ts, refs, rfl, hA, hlen, snm, hT, rp, few, tnd, inn, k⟩ := h
  have nd:=scWrong.nd
  have rlen:=rp.len
  rw[aa] at rlen
  refine⟨_,(pss_cons (ps_set (i:=2) nd rfl (Or.inl rfl) (pe_cal cplaces_of (hr.mono (by decide)) rfl (pa_cons (pv 0) pa_nil)))
   (pss_cons (ps_set (i:=3) nd rfl (Or.inl rfl) pe_dnewT)
   (pss_cons (ps_for PassesOwn.never rfl (pi_enumX K rfl B.enumerate (pa_cons (pv 1) pa_nil)) (pg_tupK (n:=2) K rfl (pgs_cons (pg_name (i:=4) nd rfl (Or.inl rfl)) (pgs_cons (pg_name (i:=5) nd rfl (Or.inl rfl)) pgs_nil))) (pss_cons (ps_if (PW.pt (pw_or (pt_cmpR (op_eqX hr.units) (pv 4) (pe_glob (v:=.int 400) rfl TT ⟨_,rfl⟩) (nomark _)) (pw_or (pt_not (pt_val (pe_cal cis_tie_among (hr.mono (by decide)) rfl (pa_cons (pv 2) (pa_cons (pv 5) pa_nil))))) (pw_or1 (pt_cmpR (op_inX K hr.units) (pv 5) (pv 3) (by with_unfolding_all rfl)))))) (pss_one (ps_ret (pv 4))) pss_nil)
   (pss_one (ps_asg pe_bl (pg_sub (pv 3) (pv 5) (set_X hr.units))))))
   (pss_one (ps_ret pe_non))))),?_⟩
  refine⟨_,rfl,_,rfl,.nm hA (by omega) fun d kvs H1 s1 hd0 hd hin hat _ _=>?_⟩
  intro dt hdt
  have s2:=s1.trans (Same.new (o:=.dT []) hdt)
  rcases hT with ht | ht
  ·refine⟨_, rfl, _, rfl, .lst (.of (s2 _ _ ht)) ?_⟩
   refine for_enum (xs:=refs) (fun i σ H'=>∃(o4 o5:Option V) (kt:List (List Key × V)),σ=[some (.ref a),some (.ref t),some (.ref d),some (.ref dt),o4,o5]/\Same H1 H'/\H' dt=some (.dT kt)/\kt.length<=i/\∀f:Str × Str,(valV kt (pK f)).isSome=true ↔ f∈ts.take i) ?_ ?_ ?_ ?_
   ·exact⟨none,none,[],rfl,Same.new hdt,upd_same,ae _,fun f=>by simp[valV_nil]⟩
   ·rintro i σ H' hi ⟨o4,o5,kt,rfl,sm,_⟩
    exact .of (sm _ _ (s1 _ _ ht))
   ·rintro i x σ H' p hx ⟨o4, o5, kt, rfl, sm, hkt, hkl, hkin⟩ hp
    obtain⟨e,ta,he,rfl,hta⟩:=pair_get ((rp.same s1).same sm) hx
    have hil:=(af.mp he).1
    have hin':=inn e (aj he)
    have sp:=Same.new (o:=.tup [V.int (i:Nat),V.ref ta]) hp
    have hdtp:dt≠p:=ne_of_none hkt hp
    refine⟨p,_,rfl,.of upd_same,rfl,_,_,rfl,_,_,rfl,rfl,?_⟩
    have sm2:=sm.trans sp
    have hkt2:=sp _ _ hkt
    have hta2:=sp _ _ hta
    generalize upd H' p (.tup [V.int (i:Nat),V.ref ta])=H3 at sm2 hkt2 hta2 ⊢
    refine⟨_,rfl,.sc rfl ⟨_,rfl,?_⟩⟩
    refine ite2 (fun h=>absurd (az h) (fun z=>by have z:(i:Int)=400:=V.int.inj z;omega)) (fun _=>?_)
    refine⟨_,rfl,_,rfl,d,ta,kvs,e,rfl,sm2 _ _ hd,hta2,snm _ hin'.1,snm _ hin'.2,(hin _).mpr hin'.1,(hin _).mpr hin'.2,fun H4 s4=>⟨_,rfl,?_⟩⟩
    refine ite2 (fun h=>absurd h (by decide)) (fun _=>?_)
    have hkt4:=s4 _ _ hkt2
    have hta4:=s4 _ _ hta2
    refine⟨_,rfl,_,rfl,.dic (DGet.t (k:=pK e) hkt4 hta4) ⟨_,rfl,?_⟩⟩
    refine ite2 (fun h=>absurd ((hkin e).mp h) (not_take tnd he)) (fun _=>?_)
    refine⟨_,rfl,_,rfl,.dic (DPut.t (k:=pK e) hkt4 hta4 (small1000 (by omega))) ⟨_,_,_,rfl,?_,upd_same,?_,fun f=>?_⟩⟩
    ·intro b o hb
     rw[upd_ne (ne_of_none hb hdt)]
     exact s4 _ _ (sm2 _ _ hb)
    ·have:=length_putK kt (pK e) (V.bl true)
     omega
    ·rw[valV_put,au,he,aq]
     by_cases q:f=e
     ·subst q;simp
     ·rw[if_neg (fun z=>q (pK_inj z)),hkin f]
      simp[q]
   ·rintro σ H' ⟨o4,o5,kt,rfl,sm,_⟩
    exact k H' (s1.trans sm)
  ·refine⟨_, rfl, _, rfl, .tup (.of (s2 _ _ ht)) ?_⟩
   refine for_enumT (xs:=refs) (fun i σ H'=>∃(o4 o5:Option V) (kt:List (List Key × V)),σ=[some (.ref a),some (.ref t),some (.ref d),some (.ref dt),o4,o5]/\Same H1 H'/\H' dt=some (.dT kt)/\kt.length<=i/\∀f:Str × Str,(valV kt (pK f)).isSome=true ↔ f∈ts.take i) ?_ ?_ ?_ ?_
   ·exact⟨none,none,[],rfl,Same.new hdt,upd_same,ae _,fun f=>by simp[valV_nil]⟩
   ·rintro i σ H' hi ⟨o4,o5,kt,rfl,sm,_⟩
    exact .of (sm _ _ (s1 _ _ ht))
   ·rintro i x σ H' p hx ⟨o4, o5, kt, rfl, sm, hkt, hkl, hkin⟩ hp
    obtain⟨e,ta,he,rfl,hta⟩:=pair_get ((rp.same s1).same sm) hx
    have hil:=(af.mp he).1
    have hin':=inn e (aj he)
    have sp:=Same.new (o:=.tup [V.int (i:Nat),V.ref ta]) hp
    have hdtp:dt≠p:=ne_of_none hkt hp
    refine⟨p,_,rfl,.of upd_same,rfl,_,_,rfl,_,_,rfl,rfl,?_⟩
    have sm2:=sm.trans sp
    have hkt2:=sp _ _ hkt
    have hta2:=sp _ _ hta
    generalize upd H' p (.tup [V.int (i:Nat),V.ref ta])=H3 at sm2 hkt2 hta2 ⊢
    refine⟨_,rfl,.sc rfl ⟨_,rfl,?_⟩⟩
    refine ite2 (fun h=>absurd (az h) (fun z=>by have z:(i:Int)=400:=V.int.inj z;omega)) (fun _=>?_)
    refine⟨_,rfl,_,rfl,d,ta,kvs,e,rfl,sm2 _ _ hd,hta2,snm _ hin'.1,snm _ hin'.2,(hin _).mpr hin'.1,(hin _).mpr hin'.2,fun H4 s4=>⟨_,rfl,?_⟩⟩
    refine ite2 (fun h=>absurd h (by decide)) (fun _=>?_)
    have hkt4:=s4 _ _ hkt2
    have hta4:=s4 _ _ hta2
    refine⟨_,rfl,_,rfl,.dic (DGet.t (k:=pK e) hkt4 hta4) ⟨_,rfl,?_⟩⟩
    refine ite2 (fun h=>absurd ((hkin e).mp h) (not_take tnd he)) (fun _=>?_)
    refine⟨_,rfl,_,rfl,.dic (DPut.t (k:=pK e) hkt4 hta4 (small1000 (by omega))) ⟨_,_,_,rfl,?_,upd_same,?_,fun f=>?_⟩⟩
    ·intro b o hb
     rw[upd_ne (ne_of_none hb hdt)]
     exact s4 _ _ (sm2 _ _ hb)
    ·have:=length_putK kt (pK e) (V.bl true)
     omega
    ·rw[valV_put,au,he,aq]
     by_cases q:f=e
     ·subst q;simp
     ·rw[if_neg (fun z=>q (pK_inj z)),hkin f]
      simp[q]
   ·rintro σ H' ⟨o4,o5,kt,rfl,sm,_⟩
    exact k H' (s1.trans sm)
def spWebOf:Sp:=fun vs H Q _=>∃(a t:Addr) (ss:List Str) (ts:List (Str × Str)) (refs:List V),vs=[.ref a,.ref t]/\SqA H a (List.map V.str ss)/\ss.length<=60/\ss.Nodup/\(∀s∈ss,Nm s)/\SqA H t refs/\RepAll H refs (ts.map pairD)/\ts.length<=400/\ts.Nodup/\(∀e∈ts,e.1∈ss/\e.2∈ss)/\∀q H',Same H H'->Rep H' (.ref q) (webD ss ts)->Q (.ref q) H'
theorem scWebOf:FnScope ["things","ties","wrong"] ["things","ties"] (defScope sWebOf):=⟨rfl,rfl,rfl,by decide +kernel,rfl,by decide +kernel,by decide +kernel⟩
theorem ok_web_of {f:Addr}{fd:FuncData}(F:Fun K "web_of" "web_of" sWebOf f fd) (B:Blt mg) (care_things:Cal P w K mg base 4 "are_things" ["things"] spAre) (cfirst_wrong_tie:Cal P w K mg base 3 "first_wrong_tie" ["things", "ties"] spWrong):FnOk P w K mg base CX0 5 f fd ["things", "ties"] spWebOf := by
 refine F.ok scWebOf (fun vs H Q E h=>?_) (fun cdv A outer s H vs Q E hr h=>?_)
 ·obtain⟨a,t,ss,ts,refs,rfl,_⟩:=h
  rfl
 ·obtain⟨a, t, ss, ts, refs, rfl, hA, hlen, snd, snm, hT, rp, few, tnd, inn, k⟩ := h
  have nd:=scWebOf.nd
  have rlen:=rp.len
  rw[aa] at rlen
  have tupThings:∀H3:Hp,Same H H3->∀R:VK,(∀q1 H',Same H3 H'->H' q1=some (.tup (List.map V.str ss))->R (.ref q1) H')->TupR K H3 (.ref a) R:=fun H3 s3 R f=>by
   rcases hA with ha | ha
   ·exact .lst (.of (s3 _ _ ha)) fun l hl=>f l _ (Same.new hl) upd_same
   ·exact .tup (.of (s3 _ _ ha)) (f a H3 (Same.refl H3) (s3 _ _ ha))
  rcases hT with ht | ht
  ·refine⟨_, (pss_cons (ps_if (pt_not (pt_val (pe_cal care_things (hr.mono (by decide)) rfl (pa_cons (pv 0) pa_nil)))) (pss_one ps_never) pss_nil)
   (pss_cons (ps_if (pt_not (pt_val (b_isi2 K "list" "tuple" B (pa_cons (pv 1) (pa_cons (pe_tup (pa_cons (g_list B) (pa_cons (g_tuple B) pa_nil))) pa_nil))))) (pss_one ps_never) pss_nil)
   (pss_cons (ps_set (i:=2) nd rfl (Or.inl rfl) (pe_cal cfirst_wrong_tie (hr.mono (by decide)) rfl (pa_cons (pv 0) (pa_cons (pv 1) pa_nil))))
   (pss_cons (ps_if (pt_cmpR op_isNotX (pv 2) pe_non (nomark _)) (pss_one ps_never) pss_nil)
   (pss_one (ps_ret (pe_tup (pa_cons (b_tupX K B (pa_cons (pv 0) pa_nil)) (pa_cons (b_tuple K B (pa_cons (pe_comp (defScope sWebOf) ["things","ties","wrong"] ["tie"] [] ["tie"] rfl (pi_listK K (pv 1)) (fun _ _ _ _ _=>(pg_name (i:=0) (show (["tie"]:List Str).Nodup by decide) rfl (Or.inl rfl))) (fun _ _ _ _ _=>pts_nil) (fun _ _ _ _ _=>(pe_tup (pa_cons (pe_ix (ix_X K hr.units) (pv 0) pe_int (fun _ _=>rfl)) (pa_cons (pe_ix (ix_X K hr.units) (pv 0) pe_int (fun _ _=>rfl)) pa_nil))))) pa_nil)) pa_nil))))))))),?_⟩
   refine⟨_,rfl,a,ss,rfl,hA,hlen,snd,snm,fun H1 s1=>⟨_,rfl,?_⟩⟩
   refine ite2 (fun h=>absurd h (by decide)) (fun _=>?_)
   refine⟨_,rfl,(by show 2<=sizeLine;decide),fun tp htp=>?_⟩
   have s2:=s1.trans (Same.new (o:=.tup [V.ty "list",V.ty "tuple"]) htp)
   have A2:SqA (upd H1 tp (.tup [V.ty "list",V.ty "tuple"])) t refs:=SqA.same (.inl ht) s2
   obtain⟨tt,ty,_,_,_,t4,t5⟩:=ty_thg (K:=K) A2.thg
   have kl:=kit_lt t4 t5
   rw[A2.lt] at kl
   refine⟨_,tp,tt,_,rfl,upd_same,ty,kl,_,rfl,?_⟩
   refine ite2 (fun h=>absurd h (by decide)) (fun _=>?_)
   generalize upd H1 tp (.tup [V.ty "list",V.ty "tuple"])=H2 at s2 A2 ⊢
   refine⟨_,rfl,_,rfl,a,t,ss,ts,refs,rfl,hA.same s2,hlen,snm,A2,rp.same s2,few,tnd,inn,fun H3 s3=>?_⟩
   refine⟨_,rfl,.non ⟨_,rfl,?_⟩⟩
   refine ite2 (fun h=>absurd h (by decide)) (fun _=>?_)
   have s3:=s2.trans s3
   have ht3:=s3 _ _ ht
   refine⟨_,rfl,_,rfl,tupThings H3 s3 _ fun q1 H4 s4 hq1=>?_⟩
   have ht4:=s4 _ _ ht3
   have rp4:=(rp.same s3).same s4
   refine⟨_,rfl,t,rfl,⟨_,.of ht4⟩,?_⟩
   refine comp_list refs (fun D i acc σ' H'=>∃o,σ'=[o]/\RepAll H' acc ((ts.take i).map pairD)/\Same H4 H'/\H4 D=none) fun D hD=>⟨?_,?_,?_,?_⟩
   ·exact⟨none,rfl,.nil,Same.new hD,hD⟩
   ·rintro i acc σ' H' _ ⟨o,rfl,_,sm,_⟩ _
    exact .of (sm _ _ ht4)
   ·rintro i acc σ' H' x hx ⟨o,rfl,rpa,sm,hD0⟩ hacc
    obtain⟨e,ta,he,rfl,hta⟩:=pair_get (rp4.same sm) hx
    have hil:=(af.mp he).1
    have alen:=rpa.len
    simp only[aa,av] at alen
    refine gYes ?_
    refine⟨_,rfl,.tup (.of hta) rfl ⟨_,rfl,.tup (.of hta) rfl ⟨(by show 2<=sizeLine;decide),fun q hq=>?_⟩⟩⟩
    have sq:=Same.new (o:=.tup [V.str e.1,V.str e.2]) hq
    have hDq:D≠q:=ne_of_none hacc hq
    refine⟨sq _ _ hacc,small1000 (by omega),_,rfl,?_,?_,hD0⟩
    ·rw[au,he,ah]
     refine RepAll.append (RepAll.pairBut (p:=D) (sq _ _ hacc) But.upd (rpa.same sq)) (.cons (pair_rep ?_) .nil)
     rw[upd_ne (Ne.symm hDq)];exact upd_same
    ·intro b o hb
     rw[upd_ne (ne_of_none hb hD0)]
     exact sq _ _ (sm _ _ hb)
   ·rintro acc σ' H5 ⟨o,rfl,rpa,s5,hD0⟩ hacc
    rw[rlen,aw (ae _)] at rpa
    refine⟨D,_,rfl,.of hacc,fun l2 h2=>⟨(by show 2<=sizeLine;decide),fun q hq=>?_⟩⟩
    have s6:=Same.new (o:=.tup acc) h2
    have s7:=Same.new (o:=.tup [V.ref q1,V.ref l2]) hq
    exact k q _ ((s3.trans s4).trans (s5.trans (s6.trans s7))) (.tup upd_same (.cons (.tup ((s5.trans (s6.trans s7)) _ _ hq1) (RepAll.of_strs ss)) (.cons (.tup (s7 _ _ upd_same) (rpa.same (s6.trans s7))) .nil)))
  ·refine⟨_, (pss_cons (ps_if (pt_not (pt_val (pe_cal care_things (hr.mono (by decide)) rfl (pa_cons (pv 0) pa_nil)))) (pss_one ps_never) pss_nil)
   (pss_cons (ps_if (pt_not (pt_val (b_isi2 K "list" "tuple" B (pa_cons (pv 1) (pa_cons (pe_tup (pa_cons (g_list B) (pa_cons (g_tuple B) pa_nil))) pa_nil))))) (pss_one ps_never) pss_nil)
   (pss_cons (ps_set (i:=2) nd rfl (Or.inl rfl) (pe_cal cfirst_wrong_tie (hr.mono (by decide)) rfl (pa_cons (pv 0) (pa_cons (pv 1) pa_nil))))
   (pss_cons (ps_if (pt_cmpR op_isNotX (pv 2) pe_non (nomark _)) (pss_one ps_never) pss_nil)
   (pss_one (ps_ret (pe_tup (pa_cons (b_tupX K B (pa_cons (pv 0) pa_nil)) (pa_cons (b_tuple K B (pa_cons (pe_comp (defScope sWebOf) ["things","ties","wrong"] ["tie"] [] ["tie"] rfl (pi_tupK K (pv 1)) (fun _ _ _ _ _=>(pg_name (i:=0) (show (["tie"]:List Str).Nodup by decide) rfl (Or.inl rfl))) (fun _ _ _ _ _=>pts_nil) (fun _ _ _ _ _=>(pe_tup (pa_cons (pe_ix (ix_X K hr.units) (pv 0) pe_int (fun _ _=>rfl)) (pa_cons (pe_ix (ix_X K hr.units) (pv 0) pe_int (fun _ _=>rfl)) pa_nil))))) pa_nil)) pa_nil))))))))),?_⟩
   refine⟨_,rfl,a,ss,rfl,hA,hlen,snd,snm,fun H1 s1=>⟨_,rfl,?_⟩⟩
   refine ite2 (fun h=>absurd h (by decide)) (fun _=>?_)
   refine⟨_,rfl,(by show 2<=sizeLine;decide),fun tp htp=>?_⟩
   have s2:=s1.trans (Same.new (o:=.tup [V.ty "list",V.ty "tuple"]) htp)
   have A2:SqA (upd H1 tp (.tup [V.ty "list",V.ty "tuple"])) t refs:=SqA.same (.inr ht) s2
   obtain⟨tt,ty,_,_,_,t4,t5⟩:=ty_thg (K:=K) A2.thg
   have kl:=kit_lt t4 t5
   rw[A2.lt] at kl
   refine⟨_,tp,tt,_,rfl,upd_same,ty,kl,_,rfl,?_⟩
   refine ite2 (fun h=>absurd h (by decide)) (fun _=>?_)
   generalize upd H1 tp (.tup [V.ty "list",V.ty "tuple"])=H2 at s2 A2 ⊢
   refine⟨_,rfl,_,rfl,a,t,ss,ts,refs,rfl,hA.same s2,hlen,snm,A2,rp.same s2,few,tnd,inn,fun H3 s3=>?_⟩
   refine⟨_,rfl,.non ⟨_,rfl,?_⟩⟩
   refine ite2 (fun h=>absurd h (by decide)) (fun _=>?_)
   have s3:=s2.trans s3
   have ht3:=s3 _ _ ht
   refine⟨_,rfl,_,rfl,tupThings H3 s3 _ fun q1 H4 s4 hq1=>?_⟩
   have ht4:=s4 _ _ ht3
   have rp4:=(rp.same s3).same s4
   refine⟨_,rfl,t,rfl,⟨_,.of ht4⟩,?_⟩
   refine comp_tup refs (fun D i acc σ' H'=>∃o,σ'=[o]/\RepAll H' acc ((ts.take i).map pairD)/\Same H4 H'/\H4 D=none) fun D hD=>⟨?_,?_,?_,?_⟩
   ·exact⟨none,rfl,.nil,Same.new hD,hD⟩
   ·rintro i acc σ' H' _ ⟨o,rfl,_,sm,_⟩ _
    exact .of (sm _ _ ht4)
   ·rintro i acc σ' H' x hx ⟨o,rfl,rpa,sm,hD0⟩ hacc
    obtain⟨e,ta,he,rfl,hta⟩:=pair_get (rp4.same sm) hx
    have hil:=(af.mp he).1
    have alen:=rpa.len
    simp only[aa,av] at alen
    refine gYes ?_
    refine⟨_,rfl,.tup (.of hta) rfl ⟨_,rfl,.tup (.of hta) rfl ⟨(by show 2<=sizeLine;decide),fun q hq=>?_⟩⟩⟩
    have sq:=Same.new (o:=.tup [V.str e.1,V.str e.2]) hq
    have hDq:D≠q:=ne_of_none hacc hq
    refine⟨sq _ _ hacc,small1000 (by omega),_,rfl,?_,?_,hD0⟩
    ·rw[au,he,ah]
     refine RepAll.append (RepAll.pairBut (p:=D) (sq _ _ hacc) But.upd (rpa.same sq)) (.cons (pair_rep ?_) .nil)
     rw[upd_ne (Ne.symm hDq)];exact upd_same
    ·intro b o hb
     rw[upd_ne (ne_of_none hb hD0)]
     exact sq _ _ (sm _ _ hb)
   ·rintro acc σ' H5 ⟨o,rfl,rpa,s5,hD0⟩ hacc
    rw[rlen,aw (ae _)] at rpa
    refine⟨D,_,rfl,.of hacc,fun l2 h2=>⟨(by show 2<=sizeLine;decide),fun q hq=>?_⟩⟩
    have s6:=Same.new (o:=.tup acc) h2
    have s7:=Same.new (o:=.tup [V.ref q1,V.ref l2]) hq
    exact k q _ ((s3.trans s4).trans (s5.trans (s6.trans s7))) (.tup upd_same (.cons (.tup ((s5.trans (s6.trans s7)) _ _ hq1) (RepAll.of_strs ss)) (.cons (.tup (s7 _ _ upd_same) (rpa.same (s6.trans s7))) .nil)))
theorem mem_endsfalse {ts:List (Str × Str)}{s t:Str}:t ∈ (ts.filter fun e => decide (e.1=s)).map (fun e => e.2) ↔ (s, t) ∈ (if false then flipE ts else ts) := by
 rw[ap]
 constructor
 ·rintro⟨⟨x,y⟩,h,rfl⟩
  have h:=am.mp h
  have h2:=az h.2
  subst h2
  first
   | exact h.1
   | exact mem_flip.mpr h.1
 ·intro h
  first
   | exact⟨(s,t),am.mpr ⟨h,ao rfl⟩,rfl⟩
   | exact⟨(t,s),am.mpr ⟨mem_flip.mp h,ao rfl⟩,rfl⟩
theorem scNexts:FnScope ["web","one","found"] ["web","one"] (defScope sNexts):=⟨rfl,rfl,rfl,by decide +kernel,rfl,by decide +kernel,by decide +kernel⟩
theorem ok_nexts {f:Addr}{fd:FuncData}(F:Fun K "nexts" "nexts" sNexts f fd) (B:Blt mg) (cplaces_of:Cal P w K mg base 1 "places_of" ["things"] spPlaces):FnOk P w K mg base CX0 2 f fd ["web", "one"] (spNexts false) := by
 refine F.ok scNexts (fun vs H Q E h=>?_) (fun cdv A outer s H vs Q E hr h=>?_)
 ·obtain⟨q,ss,ts,s,rfl,_⟩:=h
  rfl
 ·obtain⟨q, ss, ts, s, rfl, W, k⟩ := h
  have nd:=scNexts.nd
  refine⟨_,(pss_cons (ps_set (i:=2) nd rfl (Or.inr rfl) (pe_cal cplaces_of (hr.mono (by decide)) rfl (pa_cons (pe_comp (defScope sNexts) ["web","one","found"] ["tie"] [1] ["tie","one"] rfl (pi_tupK K (pe_ix (ix_X K hr.units) (pv 0) pe_int (fun _ _=>rfl))) (fun _ _ _ _ _=>(pg_name (i:=0) (show (["tie","one"]:List Str).Nodup by decide) rfl (Or.inl rfl))) (fun _ _ _ _ _=>(pts_one (pt_cmpR (op_eqX hr.units) (pe_ix (ix_X K hr.units) (pv 0) pe_int (fun _ _=>rfl)) (pv 1) (nomark _)))) (fun _ _ _ _ _=>(pe_ix (ix_X K hr.units) (pv 0) pe_int (fun _ _=>rfl)))) pa_nil)))
   (pss_one (ps_ret (pe_comp (defScope sNexts) ["web","one","found"] ["thing"] [2] ["thing","found"] rfl (pi_tupK K (pe_ix (ix_X K hr.units) (pv 0) pe_int (fun _ _=>rfl))) (fun _ _ _ _ _=>(pg_name (i:=0) (show (["thing","found"]:List Str).Nodup by decide) rfl (Or.inl rfl))) (fun _ _ _ _ _=>(pts_one (pt_cmpR (op_inX K hr.units) (pv 0) (pv 1) (by with_unfolding_all rfl)))) (fun _ _ _ _ _=>(pv 0)))))),?_⟩
  obtain⟨q,a,b,xs,rfl,hq,ha,hb,rp⟩:=web_at W.rep
  have rlen:=rp.len
  rw[aa] at rlen
  refine⟨_,rfl,.tup (.of hq) rfl ⟨_,rfl,⟨_,.of hb⟩,?_⟩⟩
  refine comp_tup xs (fun D i acc σ' H'=>∃o,σ'=[o,some (.str s)]/\acc=((ts.take i).filter fun e=>decide (e.1=s)).map (fun e=>V.str e.2)/\Same H H'/\H D=none) fun D hD=>⟨?_,?_,?_,?_⟩
  ·exact⟨none,rfl,rfl,Same.new hD,hD⟩
  ·rintro i acc σ' H' _ ⟨o,rfl,_,sm,_⟩ _
   exact .of (sm _ _ hb)
  ·rintro i acc σ' H' x hx ⟨o, rfl, hacc0, sm, hD0⟩ hacc
   obtain⟨d,hd,rd⟩:=(rp.same sm).get hx
   rw[aA] at hd
   obtain⟨e,he,rfl⟩:∃e,ts[i]? = some e/\pairD e=d:=by
    cases q:ts[i]? with
    | none=>rw[q] at hd;cases hd
    | some e=>rw[q] at hd;exact⟨e,rfl,ai hd⟩
   obtain⟨ta,rfl,hta⟩:=pair_at rd
   have hil:=(af.mp he).1
   refine⟨_,rfl,.tup (.of hta) rfl ⟨_,rfl,.sc rfl ⟨_,rfl,?_⟩⟩⟩
   refine ite2 (fun h1=>?_) (fun h1=>?_)
   ·have h1:e.1=s:=V.str.inj (az h1)
    refine⟨_,rfl,.tup (.of hta) rfl ⟨hacc,?_,_,rfl,?_,?_,hD0⟩⟩
    ·rw[hacc0,aa]
     have h2:=aK (fun e:Str × Str=>decide (e.1=s)) (ts.take i)
     rw[av] at h2
     have:=W.few
     exact small1000 (by omega)
    ·rw[au,he,hacc0,aY,ah]
     simp[h1]
    ·intro c o hc
     rw[upd_ne (ne_of_none hc hD0)]
     exact sm _ _ hc
   ·have h1:¬ e.1=s:=fun z=>h1 (ao (congrArg V.str z))
    refine⟨hacc,_,rfl,?_,sm,hD0⟩
    rw[au,he,hacc0,aY,ah]
    simp[h1]
  ·rintro acc σ' H1 ⟨o, rfl, hacc0, s1, hD0⟩ hacc
   rw[rlen,aw (ae _)] at hacc0
   have ea:acc=List.map V.str ((ts.filter fun e=>decide (e.1=s)).map (fun e=>e.2)):=by rw[hacc0,aM];rfl
   refine⟨D,_,rfl,by rw[<- ea];exact hacc,?_,?_⟩
   ·rw[aa]
    have h2:=aK (fun e:Str × Str=>decide (e.1=s)) ts
    have:=W.few
    omega
   ·intro d kvs H2 s2 hd2 hk hin hat
    have s12:=s1.trans s2
    refine⟨_,rfl,.tup (.of (s12 _ _ hq)) rfl ⟨_,rfl,⟨_,.of (s12 _ _ ha)⟩,?_⟩⟩
    refine comp_tup (List.map V.str ss) (fun D i acc σ' H'=>∃o,σ'=[o,some (.ref d)]/\acc=List.map V.str ((ss.take i).filter fun t=>(valV kvs (.inr t)).isSome)/\Same H2 H'/\H2 D=none) fun D' hD'=>⟨?_,?_,?_,?_⟩
    ·exact⟨none,rfl,rfl,Same.new hD',hD'⟩
    ·rintro i acc σ' H' _ ⟨o,rfl,_,sm,_⟩ _
     exact .of (sm _ _ (s12 _ _ ha))
    ·rintro i acc σ' H' x hx ⟨o, rfl, hacc0, sm, hD0⟩ hacc
     rw[aA] at hx
     obtain⟨t,ht,rfl⟩:∃t,ss[i]? = some t/\V.str t=x:=by
      cases q:ss[i]? with
      | none=>rw[q] at hx;cases hx
      | some e=>rw[q] at hx;exact⟨e,rfl,ai hx⟩
     have hil:=(af.mp ht).1
     refine⟨_,rfl,_,rfl,.dic (DGet.k (k:=.inr t) (sm _ _ hk)) ⟨_,rfl,?_⟩⟩
     refine ite2 (fun h1=>?_) (fun h1=>?_)
     ·refine⟨_,rfl,hacc,?_,_,rfl,?_,?_,hD0⟩
      ·rw[hacc0,aa]
       have h2:=aK (fun t:Str=>(valV kvs (.inr t)).isSome) (ss.take i)
       rw[av] at h2
       have:=W.len
       exact small1000 (by omega)
      ·have h1:(valV kvs (.inr t)).isSome=true:=h1
       rw[au,ht,hacc0,aY,ah]
       simp[h1]
      ·intro c o hc
       rw[upd_ne (ne_of_none hc hD0)]
       exact sm _ _ hc
     ·have h1:¬ (valV kvs (.inr t)).isSome=true:=h1
      refine⟨hacc,_,rfl,?_,sm,hD0⟩
      rw[au,ht,hacc0,aY,ah]
      simp[h1]
    ·rintro acc σ' H' ⟨o, rfl, hacc0, sm, hD0⟩ hacc
     rw[aa,aw (ae _)] at hacc0
     refine k _ _ (s12.trans sm) ?_ ?_
     ·cases e:H D' with
      | none=>rfl
      | some o=>rw[s12 _ _ e] at hD0;cases hD0
     ·rw[hacc,hacc0]
      have:(ss.filter fun t=>(valV kvs (.inr t)).isSome)=nxtL ss (if false then flipE ts else ts) s:=by
       unfold nxtL
       refine cv fun t _=>?_
       rw[aO,hin t,mem_endsfalse,decide_eq_true_iff]
      rw[this]
theorem mem_endstrue {ts:List (Str × Str)}{s t:Str}:t ∈ (ts.filter fun e => decide (e.2=s)).map (fun e => e.1) ↔ (s, t) ∈ (if true then flipE ts else ts) := by
 rw[ap]
 constructor
 ·rintro⟨⟨x,y⟩,h,rfl⟩
  have h:=am.mp h
  have h2:=az h.2
  subst h2
  first
   | exact h.1
   | exact mem_flip.mpr h.1
 ·intro h
  first
   | exact⟨(s,t),am.mpr ⟨h,ao rfl⟩,rfl⟩
   | exact⟨(t,s),am.mpr ⟨mem_flip.mp h,ao rfl⟩,rfl⟩
theorem scPriors:FnScope ["web","one","found"] ["web","one"] (defScope sPriors):=⟨rfl,rfl,rfl,by decide +kernel,rfl,by decide +kernel,by decide +kernel⟩
theorem ok_priors {f:Addr}{fd:FuncData}(F:Fun K "priors" "priors" sPriors f fd) (B:Blt mg) (cplaces_of:Cal P w K mg base 1 "places_of" ["things"] spPlaces):FnOk P w K mg base CX0 2 f fd ["web", "one"] (spNexts true) := by
 refine F.ok scPriors (fun vs H Q E h=>?_) (fun cdv A outer s H vs Q E hr h=>?_)
 ·obtain⟨q,ss,ts,s,rfl,_⟩:=h
  rfl
 ·obtain⟨q, ss, ts, s, rfl, W, k⟩ := h
  have nd:=scPriors.nd
  refine⟨_,(pss_cons (ps_set (i:=2) nd rfl (Or.inr rfl) (pe_cal cplaces_of (hr.mono (by decide)) rfl (pa_cons (pe_comp (defScope sPriors) ["web","one","found"] ["tie"] [1] ["tie","one"] rfl (pi_tupK K (pe_ix (ix_X K hr.units) (pv 0) pe_int (fun _ _=>rfl))) (fun _ _ _ _ _=>(pg_name (i:=0) (show (["tie","one"]:List Str).Nodup by decide) rfl (Or.inl rfl))) (fun _ _ _ _ _=>(pts_one (pt_cmpR (op_eqX hr.units) (pe_ix (ix_X K hr.units) (pv 0) pe_int (fun _ _=>rfl)) (pv 1) (nomark _)))) (fun _ _ _ _ _=>(pe_ix (ix_X K hr.units) (pv 0) pe_int (fun _ _=>rfl)))) pa_nil)))
   (pss_one (ps_ret (pe_comp (defScope sPriors) ["web","one","found"] ["thing"] [2] ["thing","found"] rfl (pi_tupK K (pe_ix (ix_X K hr.units) (pv 0) pe_int (fun _ _=>rfl))) (fun _ _ _ _ _=>(pg_name (i:=0) (show (["thing","found"]:List Str).Nodup by decide) rfl (Or.inl rfl))) (fun _ _ _ _ _=>(pts_one (pt_cmpR (op_inX K hr.units) (pv 0) (pv 1) (by with_unfolding_all rfl)))) (fun _ _ _ _ _=>(pv 0)))))),?_⟩
  obtain⟨q,a,b,xs,rfl,hq,ha,hb,rp⟩:=web_at W.rep
  have rlen:=rp.len
  rw[aa] at rlen
  refine⟨_,rfl,.tup (.of hq) rfl ⟨_,rfl,⟨_,.of hb⟩,?_⟩⟩
  refine comp_tup xs (fun D i acc σ' H'=>∃o,σ'=[o,some (.str s)]/\acc=((ts.take i).filter fun e=>decide (e.2=s)).map (fun e=>V.str e.1)/\Same H H'/\H D=none) fun D hD=>⟨?_,?_,?_,?_⟩
  ·exact⟨none,rfl,rfl,Same.new hD,hD⟩
  ·rintro i acc σ' H' _ ⟨o,rfl,_,sm,_⟩ _
   exact .of (sm _ _ hb)
  ·rintro i acc σ' H' x hx ⟨o, rfl, hacc0, sm, hD0⟩ hacc
   obtain⟨d,hd,rd⟩:=(rp.same sm).get hx
   rw[aA] at hd
   obtain⟨e,he,rfl⟩:∃e,ts[i]? = some e/\pairD e=d:=by
    cases q:ts[i]? with
    | none=>rw[q] at hd;cases hd
    | some e=>rw[q] at hd;exact⟨e,rfl,ai hd⟩
   obtain⟨ta,rfl,hta⟩:=pair_at rd
   have hil:=(af.mp he).1
   refine⟨_,rfl,.tup (.of hta) rfl ⟨_,rfl,.sc rfl ⟨_,rfl,?_⟩⟩⟩
   refine ite2 (fun h1=>?_) (fun h1=>?_)
   ·have h1:e.2=s:=V.str.inj (az h1)
    refine⟨_,rfl,.tup (.of hta) rfl ⟨hacc,?_,_,rfl,?_,?_,hD0⟩⟩
    ·rw[hacc0,aa]
     have h2:=aK (fun e:Str × Str=>decide (e.2=s)) (ts.take i)
     rw[av] at h2
     have:=W.few
     exact small1000 (by omega)
    ·rw[au,he,hacc0,aY,ah]
     simp[h1]
    ·intro c o hc
     rw[upd_ne (ne_of_none hc hD0)]
     exact sm _ _ hc
   ·have h1:¬ e.2=s:=fun z=>h1 (ao (congrArg V.str z))
    refine⟨hacc,_,rfl,?_,sm,hD0⟩
    rw[au,he,hacc0,aY,ah]
    simp[h1]
  ·rintro acc σ' H1 ⟨o, rfl, hacc0, s1, hD0⟩ hacc
   rw[rlen,aw (ae _)] at hacc0
   have ea:acc=List.map V.str ((ts.filter fun e=>decide (e.2=s)).map (fun e=>e.1)):=by rw[hacc0,aM];rfl
   refine⟨D,_,rfl,by rw[<- ea];exact hacc,?_,?_⟩
   ·rw[aa]
    have h2:=aK (fun e:Str × Str=>decide (e.2=s)) ts
    have:=W.few
    omega
   ·intro d kvs H2 s2 hd2 hk hin hat
    have s12:=s1.trans s2
    refine⟨_,rfl,.tup (.of (s12 _ _ hq)) rfl ⟨_,rfl,⟨_,.of (s12 _ _ ha)⟩,?_⟩⟩
    refine comp_tup (List.map V.str ss) (fun D i acc σ' H'=>∃o,σ'=[o,some (.ref d)]/\acc=List.map V.str ((ss.take i).filter fun t=>(valV kvs (.inr t)).isSome)/\Same H2 H'/\H2 D=none) fun D' hD'=>⟨?_,?_,?_,?_⟩
    ·exact⟨none,rfl,rfl,Same.new hD',hD'⟩
    ·rintro i acc σ' H' _ ⟨o,rfl,_,sm,_⟩ _
     exact .of (sm _ _ (s12 _ _ ha))
    ·rintro i acc σ' H' x hx ⟨o, rfl, hacc0, sm, hD0⟩ hacc
     rw[aA] at hx
     obtain⟨t,ht,rfl⟩:∃t,ss[i]? = some t/\V.str t=x:=by
      cases q:ss[i]? with
      | none=>rw[q] at hx;cases hx
      | some e=>rw[q] at hx;exact⟨e,rfl,ai hx⟩
     have hil:=(af.mp ht).1
     refine⟨_,rfl,_,rfl,.dic (DGet.k (k:=.inr t) (sm _ _ hk)) ⟨_,rfl,?_⟩⟩
     refine ite2 (fun h1=>?_) (fun h1=>?_)
     ·refine⟨_,rfl,hacc,?_,_,rfl,?_,?_,hD0⟩
      ·rw[hacc0,aa]
       have h2:=aK (fun t:Str=>(valV kvs (.inr t)).isSome) (ss.take i)
       rw[av] at h2
       have:=W.len
       exact small1000 (by omega)
      ·have h1:(valV kvs (.inr t)).isSome=true:=h1
       rw[au,ht,hacc0,aY,ah]
       simp[h1]
      ·intro c o hc
       rw[upd_ne (ne_of_none hc hD0)]
       exact sm _ _ hc
     ·have h1:¬ (valV kvs (.inr t)).isSome=true:=h1
      refine⟨hacc,_,rfl,?_,sm,hD0⟩
      rw[au,ht,hacc0,aY,ah]
      simp[h1]
    ·rintro acc σ' H' ⟨o, rfl, hacc0, sm, hD0⟩ hacc
     rw[aa,aw (ae _)] at hacc0
     refine k _ _ (s12.trans sm) ?_ ?_
     ·cases e:H D' with
      | none=>rfl
      | some o=>rw[s12 _ _ e] at hD0;cases hD0
     ·rw[hacc,hacc0]
      have:(ss.filter fun t=>(valV kvs (.inr t)).isSome)=nxtL ss (if true then flipE ts else ts) s:=by
       unfold nxtL
       refine cv fun t _=>?_
       rw[aO,hin t,mem_endstrue,decide_eq_true_iff]
      rw[this]
theorem scNextsAll:FnScope ["web","table","thing"] ["web"] (defScope sNextsAll):=⟨rfl,rfl,rfl,by decide +kernel,rfl,by decide +kernel,by decide +kernel⟩
theorem ok_nexts_of_all {f:Addr}{fd:FuncData}(F:Fun K "nexts_of_all" "nexts_of_all" sNextsAll f fd) (B:Blt mg) (cnexts:Cal P w K mg base 2 "nexts" ["web", "one"] (spNexts false)):FnOk P w K mg base CX0 3 f fd ["web"] (spNextsAll false) := by
 refine F.ok scNextsAll (fun vs H Q E h=>?_) (fun cdv A outer s H vs Q E hr h=>?_)
 ·obtain⟨q,ss,ts,rfl,_⟩:=h
  rfl
 ·obtain⟨q, ss, ts, rfl, W, k⟩ := h
  have nd:=scNextsAll.nd
  refine⟨_,(pss_cons (ps_set (i:=1) nd rfl (Or.inl rfl) pe_dnewK)
   (pss_cons (ps_for PassesOwn.never rfl (pi_tupK K (pe_ix (ix_X K hr.units) (pv 0) pe_int (fun _ _=>rfl))) (pg_name (i:=2) nd rfl (Or.inl rfl)) (pss_one (ps_asg (pe_cal cnexts (hr.mono (by decide)) rfl (pa_cons (pv 0) (pa_cons (pv 2) pa_nil))) (pg_sub (pv 1) (pv 2) (set_X hr.units)))))
   (pss_one (ps_ret (pv 1))))),?_⟩
  intro d hd
  have W1:=W.same (Same.new (o:=.dK []) hd)
  obtain⟨q,a,b,xs,rfl,hq,ha,hb,rp⟩:=web_at W.rep
  have s0:=Same.new (o:=.dK []) hd
  refine⟨_,rfl,.tup (.of (s0 _ _ hq)) rfl ⟨_,rfl,⟨_,.of (s0 _ _ ha)⟩,?_⟩⟩
  refine for_tup (xs:=List.map V.str ss) (fun i σ H'=>∃o1 kvs,σ=[some (.ref q),some (.ref d),o1]/\Same H H'/\H' d=some (.dK kvs)/\kvs.length<=i/\∀s∈ss.take i,∃l,valV kvs (.inr s)=some (.ref l)/\H' l=some (.lst (List.map V.str (nxtL ss (if false then flipE ts else ts) s)))) ?_ ?_ ?_ ?_
  ·exact⟨none,[],rfl,s0,upd_same,ae _,fun s hs=>by simp at hs⟩
  ·rintro i σ H' hi ⟨o1,kvs,rfl,sm,_⟩
   exact .of (sm _ _ ha)
  ·rintro i x σ H' hx ⟨o1, kvs, rfl, sm, hk, hkl, hall⟩
   rw[aA] at hx
   obtain⟨t,ht,rfl⟩:∃t,ss[i]? = some t/\V.str t=x:=by
    cases q:ss[i]? with
    | none=>rw[q] at hx;cases hx
    | some e=>rw[q] at hx;exact⟨e,rfl,ai hx⟩
   have hil:=(af.mp ht).1
   refine⟨_,rfl,_,rfl,.ref q,ss,ts,t,rfl,W.same sm,fun l H2 s2 hl hl2=>?_⟩
   have hk2:=s2 _ _ hk
   have:=W.len
   refine⟨_,rfl,_,rfl,.dic (DPut.k (k:=.inr t) hk2 (small1000 (by omega))) ⟨_,_,rfl,?_,upd_same,?_,?_⟩⟩
   ·intro c o hc
    rw[upd_ne (ne_of_none hc hd)]
    exact s2 _ _ (sm _ _ hc)
   ·have:=length_putK kvs (.inr t) (V.ref l)
    omega
   ·intro s hs
    rw[au,ht,aq] at hs
    by_cases q:s=t
    ·subst q
     refine⟨l,by rw[valV_put,if_pos rfl],?_⟩
     rw[upd_ne (ne_of hl2 hk2 (by intro z;cases z))]
     exact hl2
    ·rcases hs with hs | hs
     ·obtain⟨l',e1,e2⟩:=hall s hs
      refine⟨l',by rw[valV_put,if_neg (fun z=>q (Sum.inr.inj z))];exact e1,?_⟩
      rw[upd_ne (ne_of (s2 _ _ e2) hk2 (by intro z;cases z))]
      exact s2 _ _ e2
     ·exact absurd (by simpa using hs) q
  ·rintro σ H' ⟨o1,kvs,rfl,sm,hk,_,hall⟩
   rw[aa,aw (ae _)] at hall
   exact⟨_,rfl,k d H' sm hd ⟨kvs,hk,hall⟩⟩
theorem scPriorsAll:FnScope ["web","table","thing"] ["web"] (defScope sPriorsAll):=⟨rfl,rfl,rfl,by decide +kernel,rfl,by decide +kernel,by decide +kernel⟩
theorem ok_priors_of_all {f:Addr}{fd:FuncData}(F:Fun K "priors_of_all" "priors_of_all" sPriorsAll f fd) (B:Blt mg) (cpriors:Cal P w K mg base 2 "priors" ["web", "one"] (spNexts true)):FnOk P w K mg base CX0 3 f fd ["web"] (spNextsAll true) := by
 refine F.ok scPriorsAll (fun vs H Q E h=>?_) (fun cdv A outer s H vs Q E hr h=>?_)
 ·obtain⟨q,ss,ts,rfl,_⟩:=h
  rfl
 ·obtain⟨q, ss, ts, rfl, W, k⟩ := h
  have nd:=scPriorsAll.nd
  refine⟨_,(pss_cons (ps_set (i:=1) nd rfl (Or.inl rfl) pe_dnewK)
   (pss_cons (ps_for PassesOwn.never rfl (pi_tupK K (pe_ix (ix_X K hr.units) (pv 0) pe_int (fun _ _=>rfl))) (pg_name (i:=2) nd rfl (Or.inl rfl)) (pss_one (ps_asg (pe_cal cpriors (hr.mono (by decide)) rfl (pa_cons (pv 0) (pa_cons (pv 2) pa_nil))) (pg_sub (pv 1) (pv 2) (set_X hr.units)))))
   (pss_one (ps_ret (pv 1))))),?_⟩
  intro d hd
  have W1:=W.same (Same.new (o:=.dK []) hd)
  obtain⟨q,a,b,xs,rfl,hq,ha,hb,rp⟩:=web_at W.rep
  have s0:=Same.new (o:=.dK []) hd
  refine⟨_,rfl,.tup (.of (s0 _ _ hq)) rfl ⟨_,rfl,⟨_,.of (s0 _ _ ha)⟩,?_⟩⟩
  refine for_tup (xs:=List.map V.str ss) (fun i σ H'=>∃o1 kvs,σ=[some (.ref q),some (.ref d),o1]/\Same H H'/\H' d=some (.dK kvs)/\kvs.length<=i/\∀s∈ss.take i,∃l,valV kvs (.inr s)=some (.ref l)/\H' l=some (.lst (List.map V.str (nxtL ss (if true then flipE ts else ts) s)))) ?_ ?_ ?_ ?_
  ·exact⟨none,[],rfl,s0,upd_same,ae _,fun s hs=>by simp at hs⟩
  ·rintro i σ H' hi ⟨o1,kvs,rfl,sm,_⟩
   exact .of (sm _ _ ha)
  ·rintro i x σ H' hx ⟨o1, kvs, rfl, sm, hk, hkl, hall⟩
   rw[aA] at hx
   obtain⟨t,ht,rfl⟩:∃t,ss[i]? = some t/\V.str t=x:=by
    cases q:ss[i]? with
    | none=>rw[q] at hx;cases hx
    | some e=>rw[q] at hx;exact⟨e,rfl,ai hx⟩
   have hil:=(af.mp ht).1
   refine⟨_,rfl,_,rfl,.ref q,ss,ts,t,rfl,W.same sm,fun l H2 s2 hl hl2=>?_⟩
   have hk2:=s2 _ _ hk
   have:=W.len
   refine⟨_,rfl,_,rfl,.dic (DPut.k (k:=.inr t) hk2 (small1000 (by omega))) ⟨_,_,rfl,?_,upd_same,?_,?_⟩⟩
   ·intro c o hc
    rw[upd_ne (ne_of_none hc hd)]
    exact s2 _ _ (sm _ _ hc)
   ·have:=length_putK kvs (.inr t) (V.ref l)
    omega
   ·intro s hs
    rw[au,ht,aq] at hs
    by_cases q:s=t
    ·subst q
     refine⟨l,by rw[valV_put,if_pos rfl],?_⟩
     rw[upd_ne (ne_of hl2 hk2 (by intro z;cases z))]
     exact hl2
    ·rcases hs with hs | hs
     ·obtain⟨l',e1,e2⟩:=hall s hs
      refine⟨l',by rw[valV_put,if_neg (fun z=>q (Sum.inr.inj z))];exact e1,?_⟩
      rw[upd_ne (ne_of (s2 _ _ e2) hk2 (by intro z;cases z))]
      exact s2 _ _ e2
     ·exact absurd (by simpa using hs) q
  ·rintro σ H' ⟨o1,kvs,rfl,sm,hk,_,hall⟩
   rw[aa,aw (ae _)] at hall
   exact⟨_,rfl,k d H' sm hd ⟨kvs,hk,hall⟩⟩
structure Stp (H H':Hp) (ss:List Str) (e:Addr) (look:Str->Option Nat) (kvs:List (Key × V)):Prop where
 sm:Same H H'
 at_:H' e=some (.dK kvs)
 lk:∀t,valV kvs (.inr t)=(look t).map fun k:Nat=>V.int (k:Int)
 nd:(kvs.map (·.1)).Nodup
 ks:∀k∈kvs.map (·.1),∃t∈ss,k=Sum.inr t
theorem Stp.len {H H':Hp}{ss:List Str}{e:Addr}{look:Str->Option Nat}{kvs:List (Key × V)}(h:Stp H H' ss e look kvs):kvs.length<=ss.length:=by
 have:=h.nd.length_le_of_subset (l₂:=ss.map (Sum.inr:Str->Key)) fun k hk=>by
  obtain⟨t,ht,rfl⟩:=h.ks k hk
  exact ap.mpr ⟨t,ht,rfl⟩
 simpa using this
theorem Stp.oth {H H':Hp}{ss:List Str}{e b:Addr}{look:Str->Option Nat}{kvs:List (Key × V)}{o:HO}(h:Stp H H' ss e look kvs) (hb:H b=none) (n:e≠b):Stp H (upd H' b o) ss e look kvs :=
 ⟨fun c o' hc=>by rw[upd_ne (ne_of_none hc hb)];exact h.sm _ _ hc,by rw[upd_ne n];exact h.at_,h.lk,h.nd,h.ks⟩
theorem Stp.put {H H':Hp}{ss:List Str}{e:Addr}{look:Str -> Option Nat}{kvs:List (Key × V)}(h:Stp H H' ss e look kvs) (he:H e=none) {t:Str}(ht:t ∈ ss) (hn:look t=none) (k:Nat) :
    Stp H (upd H' e (.dK (putK kvs (.inr t) (.int (k:Int))))) ss e (fun a=>if a=t then some k else look a) (putK kvs (.inr t) (.int (k:Int))):=by
 have hv:valV kvs (.inr t)=none:=by rw[h.lk,hn];rfl
 refine⟨fun c o' hc=>by rw[upd_ne (ne_of_none hc he)];exact h.sm _ _ hc,upd_same,fun u=>?_,nd_putK _ h.nd hv,fun q hq=>?_⟩
 ·rw[valV_put]
  by_cases q:u=t
  ·subst q;rw[if_pos rfl];simp
  ·rw[if_neg (fun z=>q (Sum.inr.inj z)),h.lk u];simp[q]
 ·rw[putK_new _ hv,ah] at hq
  rcases aq.mp hq with hq | hq
  ·exact h.ks q hq
  ·have:q=Sum.inr t:=by simpa using hq
   exact⟨t,ht,this⟩
def spStepsL:Sp:=fun vs H Q _=>∃d st s ss f,vs=[.ref d,.ref st]/\H st=some (.lst [V.str s])/\Tab H d ss f/\s∈ss/\ss.length<=60/\(∀t∈ss,∀u∈f t,u∈ss) /\
 ∀e kvs H',Same H H'->H e=none->H' e=some (.dK kvs)->(∀t v,valV kvs (.inr t)=some v ↔ ∃k:Nat,v=.int k/\MG.Dst (Ner ss f) s k t)->Q (.ref e) H'
theorem scSteps:FnScope ["table","starts","steps","start","edge","further","thing","near"] ["table","starts"] (defScope sSteps):=⟨rfl,rfl,rfl,by decide +kernel,rfl,by decide +kernel,by decide +kernel⟩
theorem ok_steps {f:Addr}{fd:FuncData}(F:Fun K "steps_from" "steps_from" sSteps f fd) (B:Blt mg):FnOk P w K mg base CX0 1 f fd ["table", "starts"] spStepsL := by
 refine F.ok scSteps (fun vs H Q E h=>?_) (fun cdv A outer s H vs Q E hr h=>?_)
 ·obtain⟨d,st,s,ss,f,rfl,_⟩:=h
  rfl
 ·obtain⟨d, st, s, ss, fn, rfl, hst, T, hs, hlen, hcl, k⟩ := h
  have nd:=scSteps.nd
  refine⟨_,(pss_cons (ps_set (i:=2) nd rfl (Or.inl rfl) pe_dnewK)
   (pss_cons (ps_for PassesOwn.never rfl (pi_listK K (pv 1)) (pg_name (i:=3) nd rfl (Or.inl rfl)) (pss_one (ps_asg pe_int (pg_sub (pv 2) (pv 3) (set_X hr.units)))))
   (pss_cons (ps_set (i:=4) nd rfl (Or.inl rfl) (b_list K rfl B (pa_cons (pv 1) pa_nil)))
   (pss_cons (ps_while PassesOwn.never (pt_cmpR op_gt (b_len K B (pa_cons (pv 4) pa_nil)) pe_int (nomark _)) (pss_cons (ps_set (i:=5) nd rfl (Or.inl rfl) (pe_lst pa_nil))
   (pss_cons (ps_for PassesOwn.never rfl (pi_listK K (pv 4)) (pg_name (i:=6) nd rfl (Or.inl rfl)) (pss_one (ps_for PassesOwn.never rfl (pi_listK K (pe_ix (ix_X K hr.units) (pv 0) (pv 6) (fun _ _=>rfl))) (pg_name (i:=7) nd rfl (Or.inl rfl)) (pss_one (ps_if (pt_cmpR (op_notInX K hr.units) (pv 7) (pv 2) (by with_unfolding_all rfl)) (pss_cons (ps_asg (pe_op op_addX (pe_ix (ix_X K hr.units) (pv 2) (pv 6) (fun _ _=>rfl)) pe_int) (pg_sub (pv 2) (pv 7) (set_X hr.units)))
   (pss_one (ps_expr (m_append K (pv 5) (pa_cons (pv 7) pa_nil))))) pss_nil)))))
   (pss_one (ps_set (i:=4) nd rfl (Or.inl rfl) (pv 5))))))
   (pss_one (ps_ret (pv 2))))))),?_⟩
  have hin:∀y,MG.Rch (Ner ss fn) s y->y∈ss:=fun y r=>MG.Rch.closed (S:=fun y=>y∈ss) hs (fun a b ha r=>hcl a ha b r.2) r
  intro e he
  have hste:st≠e:=ne_of_none hst he
  refine⟨_,rfl,st,rfl,⟨_,.of (by rw[upd_ne hste];exact hst)⟩,?_⟩
  refine for_list (xs:=[V.str s]) (fun i σ H'=>∃o3 o4 o5 o6 o7,σ=[some (.ref d),some (.ref st),some (.ref e),o3,o4,o5,o6,o7]/\H' st=some (.lst [V.str s])/\(i=0->H'=upd H e (.dK []))/\(i≠0->∃kvs,Stp H H' ss e (fun a=>if a=s then some 0 else none) kvs)) ?_ ?_ ?_ ?_
  ·exact⟨none,none,none,none,none,rfl,by rw[upd_ne hste];exact hst,fun _=>rfl,fun z=>absurd rfl z⟩
  ·rintro i σ H' hi ⟨o3,o4,o5,o6,o7,rfl,h1,_⟩
   exact .of h1
  ·rintro i x σ H' hx ⟨o3,o4,o5,o6,o7,rfl,h1,h2,_⟩
   have hi:i<1:=(af.mp hx).1
   have hi:i=0:=by omega
   subst hi
   have hx:V.str s=x:=ai hx
   subst hx
   have h2:=h2 rfl
   subst h2
   have h0:Stp H (upd (upd H e (.dK [])) e (.dK (putK [] (.inr s) (.int ((0:Nat):Int))))) ss e (fun a=>if a=s then some 0 else none) (putK [] (.inr s) (.int ((0:Nat):Int))) :=
    Stp.put (kvs:=[]) (look:=fun _=>none) ⟨Same.new he,upd_same,fun t=>rfl,bw,fun k hk=>by cases hk⟩ he hs rfl 0
   refine⟨_,rfl,_,rfl,.dic (DPut.k (k:=.inr s) upd_same (by show 0<sizeLine;decide)) ⟨_,_,_,_,_,rfl,by rw[upd_ne hste];exact h1,fun z=>absurd z (by omega),fun _=>⟨_,h0⟩⟩⟩
  rintro σ H1 ⟨o3,o4,o5,o6,o7,rfl,hst1,_,hS⟩
  obtain⟨kv0,h0⟩:=hS (by show 1≠0;omega)
  refine⟨_,rfl,_,rfl,.seq (.inl (.of hst1)) fun l0 hl0=>?_⟩
  have hl00:H l0=none:=by
   cases q:H l0 with
   | none=>rfl
   | some o=>rw[h0.sm _ _ q] at hl0;cases hl0
  have h1:=h0.oth (o:=.lst [V.str s]) hl00 (ne_of_none h0.at_ hl0)
  refine⟨fun m σ H'=>∃L le edge kvs look o3 o4 o5 o6,m+L=ss.length/\σ=[some (.ref d),some (.ref st),some (.ref e),o3,some (.ref le),o4,o5,o6]/\Stp H H' ss e look kvs/\H le=none/\H' le=some (.lst (List.map V.str edge))/\edge.length<=60/\MG.Lev (Ner ss fn) s L look edge,
   ⟨ss.length,0,l0,[s],_,_,o3,o5,o6,o7,by omega,rfl,h1,hl00,upd_same,by show 1<=60;decide,MG.Lev.start fun y=>rfl⟩,?_⟩
  rintro m σ H2 ⟨L,le,edge,kvs,look,o3,o4,o5,o6,hm,rfl,S,hle0,hle,hel,lev⟩
  refine⟨_,rfl,_,_,rfl,Or.inl ⟨_,.of hle,rfl⟩,_,_,rfl,rfl,_,rfl,?_⟩
  refine ite2 (fun hc=>?_) (fun hc=>?_)
  ·have hc:(0:Int)<((List.map V.str edge).length:Nat) := az hc
   rw[aa] at hc
   have hL:L<ss.length:=by
    cases edge with
    | nil=>simp at hc
    | cons y r=>exact MG.Dst.lt hin ((lev.edg y).mp (by simp))
   refine⟨fun σ' H'=>∃le edge kvs look o3 o4 o5 o6,σ'=[some (.ref d),some (.ref st),some (.ref e),o3,some (.ref le),o4,o5,o6]/\Stp H H' ss e look kvs/\H le=none/\H' le=some (.lst (List.map V.str edge))/\edge.length<=60/\MG.Lev (Ner ss fn) s (L+1) look edge,
    fun σ' H' ⟨le,edge,kvs,look,o3,o4,o5,o6,p⟩=>⟨m-1,by omega,L+1,le,edge,kvs,look,o3,o4,o5,o6,by omega,p⟩,?_⟩
   refine⟨(by show 0<=sizeLine;decide),fun lf hlf=>?_⟩
   have hlf0:H lf=none:=by
    cases q:H lf with
    | none=>rfl
    | some o=>rw[S.sm _ _ q] at hlf;cases hlf
   have nlf:le≠lf:=ne_of_none hle hlf
   have S1:=S.oth (o:=.lst []) hlf0 (ne_of_none S.at_ hlf)
   refine⟨_,rfl,le,rfl,⟨_,.of (by rw[upd_ne nlf];exact hle)⟩,?_⟩
   refine for_list (xs:=List.map V.str edge) (fun i σ H'=>∃kvs look fur o5 o6,σ=[some (.ref d),some (.ref st),some (.ref e),o3,some (.ref le),some (.ref lf),o5,o6]/\Stp H H' ss e look kvs/\H' le=some (.lst (List.map V.str edge))/\H' lf=some (.lst (List.map V.str fur))/\fur.Nodup/\(∀t∈fur,t∈ss)/\MG.Mid (Ner ss fn) s L look fur (fun z y=>z∈edge.take i/\Ner ss fn z y)) ?_ ?_ ?_ ?_
   ·exact⟨kvs,look,[],o5,o6,rfl,S1,by rw[upd_ne nlf];exact hle,upd_same,bw,(fun t ht=>by cases ht),lev.mid.wk fun a b h=>by simp at h⟩
   ·rintro i σ H' hi ⟨kvs,look,fur,o5,o6,rfl,S,hle,_⟩
    exact .of hle
   ·rintro i x σ H' hx ⟨kvs, look, fur, o5, o6, rfl, S, hle, hlf, hfn, hfs, mid⟩
    rw[aA] at hx
    obtain⟨z,hz,rfl⟩:∃z,edge[i]? = some z/\V.str z=x:=by
     cases q:edge[i]? with
     | none=>rw[q] at hx;cases hx
     | some e=>rw[q] at hx;exact⟨e,rfl,ai hx⟩
    have dz:=(lev.edg z).mp (aj hz)
    have hzs:=hin z dz.rch
    obtain⟨tkv,hd,ht⟩:=T
    obtain⟨l,el,hl⟩:=ht z hzs
    have hl':=S.sm _ _ hl
    refine⟨_,rfl,_,rfl,.dic (.inl ⟨tkv,.inr z,.inl (S.sm _ _ hd),rfl,el.symm⟩) ⟨l,rfl,⟨_,.of hl'⟩,?_⟩⟩
    refine for_list (xs:=List.map V.str (fn z)) (fun j σ H'=>∃kvs look fur o6,σ=[some (.ref d),some (.ref st),some (.ref e),o3,some (.ref le),some (.ref lf),some (.str z),o6]/\Stp H H' ss e look kvs/\H' le=some (.lst (List.map V.str edge))/\H' lf=some (.lst (List.map V.str fur))/\fur.Nodup/\(∀t∈fur,t∈ss)/\MG.Mid (Ner ss fn) s L look fur (fun a y=>(a∈edge.take i/\Ner ss fn a y)∨(a=z/\y∈(fn z).take j))) ?_ ?_ ?_ ?_
    ·exact⟨kvs,look,fur,o6,rfl,S,hle,hlf,hfn,hfs,mid.wk fun a b h=>by simpa using h⟩
    ·rintro j σ H' hj ⟨kvs,look,fur,o6,rfl,S,_⟩
     exact .of (S.sm _ _ hl)
    ·rintro j x σ H' hx ⟨kvs, look, fur, o6, rfl, S, hle, hlf, hfn, hfs, mid⟩
     rw[aA] at hx
     obtain⟨y,hy,rfl⟩:∃y,(fn z)[j]? = some y/\V.str y=x:=by
      cases q:(fn z)[j]? with
      | none=>rw[q] at hx;cases hx
      | some e=>rw[q] at hx;exact⟨e,rfl,ai hx⟩
     have hyf:=aj hy
     have hys:=hcl z hzs y hyf
     have hdone:∀a b,((a∈edge.take i/\Ner ss fn a b)∨(a=z/\b∈(fn z).take (j+1)))->((a∈edge.take i/\Ner ss fn a b)∨(a=z/\b∈(fn z).take j))∨(a=z/\b=y):=by
      intro a b h
      rcases h with h | ⟨h1,h2⟩
      ·exact .inl (.inl h)
      ·rw[au,hy,aq] at h2
       rcases h2 with h2 | h2
       ·exact .inl (.inr ⟨h1,h2⟩)
       ·exact .inr ⟨h1,by simpa using h2⟩
     refine⟨_,rfl,_,rfl,.dic (DGet.k (k:=.inr y) S.at_) ⟨_,rfl,?_⟩⟩
     rw[S.lk y]
     refine ite2 (fun hc=>?_) (fun hc=>?_)
     ·have hc:¬ (look y).isSome=true := by simpa using hc
      have hn:look y=none:=by simpa using hc
      have hzl:valV kvs (.inr z)=some (V.int (L:Int)):=by rw[S.lk,mid.cmp z L (ae _) dz];rfl
      refine⟨_,rfl,_,rfl,.dic (.inl ⟨kvs,.inr z,.inl S.at_,rfl,hzl.symm⟩) (.int ?_)⟩
      have hkl:=S.len
      refine⟨_,rfl,_,rfl,.dic (DPut.k (k:=.inr y) S.at_ (small1000 (by omega))) ?_⟩
      have S':=S.put he hys hn (L+1)
      have nle:le≠e:=ne_of hle S.at_ (by intro z;cases z)
      have nlf':lf≠e:=ne_of hlf S.at_ (by intro z;cases z)
      refine⟨_,rfl,.inl ⟨rfl,_,.of (by rw[upd_ne nlf'];exact hlf)⟩,?_⟩
      have hfl:fur.length<=ss.length:=hfn.length_le_of_subset hfs
      refine⟨_,rfl,lf,_,_,rfl,rfl,by rw[upd_ne nlf'];exact hlf,by rw[aa];exact small1000 (by omega),?_⟩
      refine⟨_,_,fur++[y],_,rfl,S'.oth hlf0 (Ne.symm nlf'),?_,?_,?_,?_,(mid.add (z:=z) (y:=y) dz ⟨hzs,hyf⟩ hn fun a=>rfl).wk hdone⟩
      ·rw[upd_ne nlf,upd_ne nle];exact hle
      ·rw[upd_same,ah];rfl
      ·rw[bn]
       refine⟨hfn,by simp,fun a ha b hb=>?_⟩
       have:b=y:=by simpa using hb
       subst this
       rintro rfl
       rw[(mid.fur a ha).2] at hn
       cases hn
      ·intro t ht
       rcases aq.mp ht with ht | ht
       ·exact hfs t ht
       ·have:t=y:=by simpa using ht
        rw[this];exact hys
     ·have hc:(look y).isSome=true:=by
         cases q:look y with
         | none=>rw[q] at hc;exact absurd rfl hc
         | some v=>rfl
      exact⟨kvs,look,fur,_,rfl,S,hle,hlf,hfn,hfs,(mid.skip (z:=z) hc).wk hdone⟩
    ·rintro σ H' ⟨kvs,look,fur,o6,rfl,S,hle,hlf,hfn,hfs,mid⟩
     rw[aa,aw (ae _)] at mid
     refine⟨kvs,look,fur,_,_,rfl,S,hle,hlf,hfn,hfs,mid.wk fun a b h=>?_⟩
     obtain⟨h1,h2⟩:=h
     rw[au,hz,aq] at h1
     rcases h1 with h1 | h1
     ·exact .inl ⟨h1,h2⟩
     ·have:a=z:=by simpa using h1
      subst this
      exact .inr ⟨rfl,h2.2⟩
   ·rintro σ H' ⟨kvs,look,fur,o5,o6,rfl,S,hle,hlf,hfn,hfs,mid⟩
    rw[aa,aw (ae _)] at mid
    have hfl:fur.length<=ss.length:=hfn.length_le_of_subset hfs
    exact⟨_,rfl,lf,fur,kvs,look,_,_,_,_,rfl,S,hlf0,hlf,by omega,mid.next lev.edg fun z y hz r=>⟨hz,r⟩⟩
  ·have he0:edge=[] := by
      cases edge with
      | nil=>rfl
      | cons y r=>exact absurd (ao (by simp)) hc
   subst he0
   have fin:=lev.done
   refine⟨_,rfl,k e kvs H2 S.sm he S.at_ fun t v=>?_⟩
   rw[S.lk t]
   constructor
   ·intro q
    cases q2:look t with
    | none=>rw[q2] at q;cases q
    | some n =>
     rw[q2] at q
     exact⟨n,(ai q).symm,(fin t n).mp q2⟩
   ·rintro⟨n,rfl,dn⟩
    rw[(fin t n).mpr dn];rfl
theorem ner_tiefalse {H:Hp}{q:V}{ss:List Str}{ts:List (Str × Str)}(W:Web H q ss ts) (a b:Str):Ner ss (nxtL ss (if false then flipE ts else ts)) a b ↔ Tie (if false then flipE ts else ts) a b := by
 have key:Tie (if false then flipE ts else ts) a b->a∈ss/\b∈ss:=fun h=>by
  first
   | exact(W.inn _ h)
   | (have:=W.inn _ (mem_flip.mp h);exact⟨this.2,this.1⟩)
 constructor
 ·rintro⟨h1,h2⟩
  have h3:=az (am.mp h2).2
  exact h3
 ·intro h
  exact⟨(key h).1,am.mpr ⟨(key h).2,ao h⟩⟩
theorem scBehinds:FnScope ["web","one","reached"] ["web","one"] (defScope sBehinds):=⟨rfl,rfl,rfl,by decide +kernel,rfl,by decide +kernel,by decide +kernel⟩
theorem ok_behinds {f:Addr}{fd:FuncData}(F:Fun K "behinds" "behinds" sBehinds f fd) (B:Blt mg) (csteps_from:Cal P w K mg base 1 "steps_from" ["table", "starts"] spStepsL) (cnexts_of_all:Cal P w K mg base 3 "nexts_of_all" ["web"] (spNextsAll false)):FnOk P w K mg base CX0 4 f fd ["web", "one"] (spBehinds false) := by
 refine F.ok scBehinds (fun vs H Q E h=>?_) (fun cdv A outer s H vs Q E hr h=>?_)
 ·obtain⟨q,ss,ts,s,rfl,_⟩:=h
  rfl
 ·obtain⟨q, ss, ts, s, rfl, W, hs, k⟩ := h
  have nd:=scBehinds.nd
  refine⟨_,(pss_cons (ps_set (i:=2) nd rfl (Or.inr rfl) (pe_cal csteps_from (hr.mono (by decide)) rfl (pa_cons (pe_cal cnexts_of_all (hr.mono (by decide)) rfl (pa_cons (pv 0) pa_nil)) (pa_cons (pe_lst (pa_cons (pv 1) pa_nil)) pa_nil))))
   (pss_one (ps_ret (pe_comp (defScope sBehinds) ["web","one","reached"] ["thing"] [2] ["thing","reached"] rfl (pi_tupK K (pe_ix (ix_X K hr.units) (pv 0) pe_int (fun _ _=>rfl))) (fun _ _ _ _ _=>(pg_name (i:=0) (show (["thing","reached"]:List Str).Nodup by decide) rfl (Or.inl rfl))) (fun _ _ _ _ _=>(pts_one (pt_cmpR (op_inX K hr.units) (pv 0) (pv 1) (by with_unfolding_all rfl)))) (fun _ _ _ _ _=>(pv 0)))))),?_⟩
  obtain⟨q,a,b,xs,rfl,hq,ha,hb,rp⟩:=web_at W.rep
  refine⟨_,rfl,.ref q,ss,ts,rfl,W,fun dt H0 s0 hdt T=>⟨_,rfl,(by show 1<=sizeLine;decide),fun ls hls=>⟨dt,ls,s,ss,_,rfl,upd_same,T.same (Same.new hls),hs,W.len,fun t _ u hu=>(am.mp hu).1,fun d kvs H2 s2 hd2 hk hst=>?_⟩⟩⟩
  have s1:=s0.trans (Same.new (o:=.lst [V.str s]) hls)
  have s12:=s1.trans s2
  refine⟨_,rfl,.tup (.of (s12 _ _ hq)) rfl ⟨_,rfl,⟨_,.of (s12 _ _ ha)⟩,?_⟩⟩
  refine comp_tup (List.map V.str ss) (fun D i acc σ' H'=>∃o,σ'=[o,some (.ref d)]/\acc=List.map V.str ((ss.take i).filter fun t=>(valV kvs (.inr t)).isSome)/\Same H2 H'/\H2 D=none) fun D' hD'=>⟨?_,?_,?_,?_⟩
  ·exact⟨none,rfl,rfl,Same.new hD',hD'⟩
  ·rintro i acc σ' H' _ ⟨o,rfl,_,sm,_⟩ _
   exact .of (sm _ _ (s12 _ _ ha))
  ·rintro i acc σ' H' x hx ⟨o, rfl, hacc0, sm, hD0⟩ hacc
   rw[aA] at hx
   obtain⟨t,ht,rfl⟩:∃t,ss[i]? = some t/\V.str t=x:=by
    cases q:ss[i]? with
    | none=>rw[q] at hx;cases hx
    | some e=>rw[q] at hx;exact⟨e,rfl,ai hx⟩
   have hil:=(af.mp ht).1
   refine⟨_,rfl,_,rfl,.dic (DGet.k (k:=.inr t) (sm _ _ hk)) ⟨_,rfl,?_⟩⟩
   refine ite2 (fun h1=>?_) (fun h1=>?_)
   ·refine⟨_,rfl,hacc,?_,_,rfl,?_,?_,hD0⟩
    ·rw[hacc0,aa]
     have h2:=aK (fun t:Str=>(valV kvs (.inr t)).isSome) (ss.take i)
     rw[av] at h2
     have:=W.len
     exact small1000 (by omega)
    ·have h1:(valV kvs (.inr t)).isSome=true:=h1
     rw[au,ht,hacc0,aY,ah]
     simp[h1]
    ·intro c o hc
     rw[upd_ne (ne_of_none hc hD0)]
     exact sm _ _ hc
   ·have h1:¬ (valV kvs (.inr t)).isSome=true:=h1
    refine⟨hacc,_,rfl,?_,sm,hD0⟩
    rw[au,ht,hacc0,aY,ah]
    simp[h1]
  ·rintro acc σ' H' ⟨o, rfl, hacc0, sm, hD0⟩ hacc
   rw[aa,aw (ae _)] at hacc0
   refine k _ _ (fun t=>(valV kvs (.inr t)).isSome) (s12.trans sm) ?_ (fun t=>?_) (by rw[hacc,hacc0])
   ·cases e:H D' with
    | none=>rfl
    | some o=>rw[s12 _ _ e] at hD0;cases hD0
   ·have e:Ner ss (nxtL ss (if false then flipE ts else ts))=Tie (if false then flipE ts else ts):=funext fun a=>funext fun b=>propext (ner_tiefalse W a b)
    rw[<- e]
    constructor
    ·intro h
     obtain⟨v,hv⟩:=bE.mp h
     obtain⟨n,_,dn⟩:=(hst t v).mp hv
     exact dn.rch
    ·intro h
     obtain⟨n,dn⟩:=h.dst
     rw[(hst t (V.int n)).mpr ⟨n,rfl,dn⟩];rfl
theorem ner_tietrue {H:Hp}{q:V}{ss:List Str}{ts:List (Str × Str)}(W:Web H q ss ts) (a b:Str):Ner ss (nxtL ss (if true then flipE ts else ts)) a b ↔ Tie (if true then flipE ts else ts) a b := by
 have key:Tie (if true then flipE ts else ts) a b->a∈ss/\b∈ss:=fun h=>by
  first
   | exact(W.inn _ h)
   | (have:=W.inn _ (mem_flip.mp h);exact⟨this.2,this.1⟩)
 constructor
 ·rintro⟨h1,h2⟩
  have h3:=az (am.mp h2).2
  exact h3
 ·intro h
  exact⟨(key h).1,am.mpr ⟨(key h).2,ao h⟩⟩
theorem scAheads:FnScope ["web","one","reaching"] ["web","one"] (defScope sAheads):=⟨rfl,rfl,rfl,by decide +kernel,rfl,by decide +kernel,by decide +kernel⟩
theorem ok_aheads {f:Addr}{fd:FuncData}(F:Fun K "aheads" "aheads" sAheads f fd) (B:Blt mg) (csteps_from:Cal P w K mg base 1 "steps_from" ["table", "starts"] spStepsL) (cpriors_of_all:Cal P w K mg base 3 "priors_of_all" ["web"] (spNextsAll true)):FnOk P w K mg base CX0 4 f fd ["web", "one"] (spBehinds true) := by
 refine F.ok scAheads (fun vs H Q E h=>?_) (fun cdv A outer s H vs Q E hr h=>?_)
 ·obtain⟨q,ss,ts,s,rfl,_⟩:=h
  rfl
 ·obtain⟨q, ss, ts, s, rfl, W, hs, k⟩ := h
  have nd:=scAheads.nd
  refine⟨_,(pss_cons (ps_set (i:=2) nd rfl (Or.inr rfl) (pe_cal csteps_from (hr.mono (by decide)) rfl (pa_cons (pe_cal cpriors_of_all (hr.mono (by decide)) rfl (pa_cons (pv 0) pa_nil)) (pa_cons (pe_lst (pa_cons (pv 1) pa_nil)) pa_nil))))
   (pss_one (ps_ret (pe_comp (defScope sAheads) ["web","one","reaching"] ["thing"] [2] ["thing","reaching"] rfl (pi_tupK K (pe_ix (ix_X K hr.units) (pv 0) pe_int (fun _ _=>rfl))) (fun _ _ _ _ _=>(pg_name (i:=0) (show (["thing","reaching"]:List Str).Nodup by decide) rfl (Or.inl rfl))) (fun _ _ _ _ _=>(pts_one (pt_cmpR (op_inX K hr.units) (pv 0) (pv 1) (by with_unfolding_all rfl)))) (fun _ _ _ _ _=>(pv 0)))))),?_⟩
  obtain⟨q,a,b,xs,rfl,hq,ha,hb,rp⟩:=web_at W.rep
  refine⟨_,rfl,.ref q,ss,ts,rfl,W,fun dt H0 s0 hdt T=>⟨_,rfl,(by show 1<=sizeLine;decide),fun ls hls=>⟨dt,ls,s,ss,_,rfl,upd_same,T.same (Same.new hls),hs,W.len,fun t _ u hu=>(am.mp hu).1,fun d kvs H2 s2 hd2 hk hst=>?_⟩⟩⟩
  have s1:=s0.trans (Same.new (o:=.lst [V.str s]) hls)
  have s12:=s1.trans s2
  refine⟨_,rfl,.tup (.of (s12 _ _ hq)) rfl ⟨_,rfl,⟨_,.of (s12 _ _ ha)⟩,?_⟩⟩
  refine comp_tup (List.map V.str ss) (fun D i acc σ' H'=>∃o,σ'=[o,some (.ref d)]/\acc=List.map V.str ((ss.take i).filter fun t=>(valV kvs (.inr t)).isSome)/\Same H2 H'/\H2 D=none) fun D' hD'=>⟨?_,?_,?_,?_⟩
  ·exact⟨none,rfl,rfl,Same.new hD',hD'⟩
  ·rintro i acc σ' H' _ ⟨o,rfl,_,sm,_⟩ _
   exact .of (sm _ _ (s12 _ _ ha))
  ·rintro i acc σ' H' x hx ⟨o, rfl, hacc0, sm, hD0⟩ hacc
   rw[aA] at hx
   obtain⟨t,ht,rfl⟩:∃t,ss[i]? = some t/\V.str t=x:=by
    cases q:ss[i]? with
    | none=>rw[q] at hx;cases hx
    | some e=>rw[q] at hx;exact⟨e,rfl,ai hx⟩
   have hil:=(af.mp ht).1
   refine⟨_,rfl,_,rfl,.dic (DGet.k (k:=.inr t) (sm _ _ hk)) ⟨_,rfl,?_⟩⟩
   refine ite2 (fun h1=>?_) (fun h1=>?_)
   ·refine⟨_,rfl,hacc,?_,_,rfl,?_,?_,hD0⟩
    ·rw[hacc0,aa]
     have h2:=aK (fun t:Str=>(valV kvs (.inr t)).isSome) (ss.take i)
     rw[av] at h2
     have:=W.len
     exact small1000 (by omega)
    ·have h1:(valV kvs (.inr t)).isSome=true:=h1
     rw[au,ht,hacc0,aY,ah]
     simp[h1]
    ·intro c o hc
     rw[upd_ne (ne_of_none hc hD0)]
     exact sm _ _ hc
   ·have h1:¬ (valV kvs (.inr t)).isSome=true:=h1
    refine⟨hacc,_,rfl,?_,sm,hD0⟩
    rw[au,ht,hacc0,aY,ah]
    simp[h1]
  ·rintro acc σ' H' ⟨o, rfl, hacc0, sm, hD0⟩ hacc
   rw[aa,aw (ae _)] at hacc0
   refine k _ _ (fun t=>(valV kvs (.inr t)).isSome) (s12.trans sm) ?_ (fun t=>?_) (by rw[hacc,hacc0])
   ·cases e:H D' with
    | none=>rfl
    | some o=>rw[s12 _ _ e] at hD0;cases hD0
   ·have e:Ner ss (nxtL ss (if true then flipE ts else ts))=Tie (if true then flipE ts else ts):=funext fun a=>funext fun b=>propext (ner_tietrue W a b)
    rw[<- e]
    constructor
    ·intro h
     obtain⟨v,hv⟩:=bE.mp h
     obtain⟨n,_,dn⟩:=(hst t v).mp hv
     exact dn.rch
    ·intro h
     obtain⟨n,dn⟩:=h.dst
     rw[(hst t (V.int n)).mpr ⟨n,rfl,dn⟩];rfl
theorem eqv_pair (e f:Str × Str):PyData.eqv (pairD e) (pairD f)=decide (e=f):=by
 show (PyData.eqv (.str e.1) (.str f.1)&&(PyData.eqv (.str e.2) (.str f.2)&&true))=_
 rw[eqv_str,eqv_str,Bool.and_true,aO,bd,decide_eq_true_iff,decide_eq_true_iff,decide_eq_true_iff]
 exact⟨fun ⟨a,b⟩=>Prod.ext a b,fun h=>by rw[h];exact⟨rfl,rfl⟩⟩
theorem any_pair (ts:List (Str × Str)) (e:Str × Str):((ts.map pairD).any fun d=>PyData.eqv d (pairD e))=decide (e∈ts):=by
 rw[List.any_map,aO,bY,decide_eq_true_iff]
 constructor
 ·rintro⟨x,hx,h⟩
  have h:PyData.eqv (pairD x) (pairD e)=true:=h
  rw[eqv_pair] at h
  rw[<- az h];exact hx
 ·intro h
  refine⟨e,h,?_⟩
  show PyData.eqv (pairD e) (pairD e)=true
  rw[eqv_pair];exact ao rfl
theorem canLay_pairs:∀ts:List (Str × Str),(∀e∈ts,Nm e.1/\Nm e.2)->PyData.canLayAll0 (ts.map pairD)=true
 | [],_=>rfl
 | e::ts,h=>by
  show (PyData.canLay0 (pairD e)&&PyData.canLayAll0 (ts.map pairD))=true
  rw[canLay_pairs ts fun x hx=>h x (aN _ hx)]
  have:=h e (by simp)
  show ((PyData.canLay0 (.str e.1)&&(PyData.canLay0 (.str e.2)&&true))&&true)=true
  rw[canLay_nm this.1,canLay_nm this.2];rfl
theorem canLay_pr {a b:Str}(ha:Nm a) (hb:Nm b):(pairD (a,b)).canLay0=true:=by
 have h:=canLay_pairs [(a,b)] (fun e he=>by rw[aQ.mp he];exact⟨ha,hb⟩)
 have h:((pairD (a,b)).canLay0&&true)=true:=h
 rwa [Bool.and_true] at h
def spTurned (K:W.Frag):Sp:=fun vs H Q _=>∃(p a n:Addr) (xs:List Str),vs=[.ref p,.ref n]/\Pen K H p a/\H n=some (.lst (List.map V.str xs))/\n≠p/\xs.length<=60 /\
 ∀l ys H',ys.Perm xs->H' l=some (.lst (List.map V.str ys))->H l=none->l≠p->PenV H' p a->But p H H'->Q (.ref l) H'
theorem scTurned:FnScope ["_law_pen_here","_law_some","_law_found","_law_one"] ["_law_pen_here","_law_some"] (defScope sTurned):=⟨rfl,rfl,rfl,by decide +kernel,rfl,by decide +kernel,by decide +kernel⟩
theorem perm_insS (xs:List Str) (j:Nat) (i:Str):(xs.take j++i::xs.drop j).Perm (i::xs):=by
 have:=(cw (a:=i) (l₁:=xs.take j) (l₂:=xs.drop j))
 rwa [cx] at this
theorem str_get' {ss:List Str}{i:Nat}{x:V}(h:(List.map V.str ss)[i]? = some x):∃s,ss[i]? = some s/\V.str s=x:=by
 rw[aA] at h
 cases q:ss[i]? with
 | none=>rw[q] at h;cases h
 | some e=>rw[q] at h;exact⟨e,rfl,ai h⟩
theorem ok_turned {f:Addr}{fd:FuncData}(F:Fun K "_law_turned" "_law_turned" sTurned f fd) (B:Blt mg) (c_law_draw:Cal P w K mg base 1 "_law_draw" ["_law_pen_here", "_law_most"] (spDraw K)):FnOk P w K mg base CX0 2 f fd ["_law_pen_here", "_law_some"] (spTurned K) := by
 refine F.ok scTurned (fun vs H Q E h=>?_) (fun cdv A outer s H vs Q E hr h=>?_)
 ·obtain⟨p,a,n,xs,rfl,_⟩:=h
  rfl
 ·obtain⟨p, a, n, xs, rfl, hP, hn, hnp, hl60, k⟩ := h
  have nd:=scTurned.nd
  have v0:=hP.2
  refine⟨_,(pss_cons (ps_set (i:=2) nd rfl (Or.inl rfl) (pe_lst pa_nil))
   (pss_cons (ps_for PassesOwn.never rfl (pi_listK K (pv 1)) (pg_name (i:=3) nd rfl (Or.inl rfl)) (pss_one (ps_expr (m_insert K (pv 2) (pa_cons (pe_cal c_law_draw (hr.mono (by decide)) rfl (pa_cons (pv 0) (pa_cons (pe_op op_addX (b_len K B (pa_cons (pv 2) pa_nil)) pe_int) pa_nil))) (pa_cons (pv 3) pa_nil))))))
   (pss_one (ps_ret (pv 2))))),?_⟩
  refine⟨(by show 0<=sizeLine;decide),fun lf hlf=>?_⟩
  have hpf:=v0.ne hlf
  have hnf:n≠lf:=ne_of_none hn hlf
  refine⟨_,rfl,n,rfl,⟨_,.of (by rw[upd_ne hnf];exact hn)⟩,?_⟩
  refine for_list (xs:=List.map V.str xs) (fun i σ H'=>∃o3 ys,σ=[some (.ref p),some (.ref n),some (.ref lf),o3]/\H' lf=some (.lst (List.map V.str ys))/\H' n=some (.lst (List.map V.str xs))/\ys.Perm (xs.take i)/\PenV H' p a/\But p H H') ?_ ?_ ?_ ?_
  ·exact⟨none,[],rfl,upd_same,by rw[upd_ne hnf];exact hn,List.Perm.refl _,v0.upd hpf,(But.refl p H).at hlf⟩
  ·rintro i σ H' hi ⟨o3,ys,rfl,_,h1,_⟩
   exact .of h1
  ·rintro i x σ H1 hx ⟨o3,ys,rfl,hf1,hn1,hpm,v1,b1⟩
   obtain⟨z,hz,rfl⟩:=str_get' hx
   have hil:=(af.mp hz).1
   have hyl:=hpm.length_eq
   rw[av] at hyl
   refine⟨_,rfl,.inl ⟨rfl,_,.of hf1⟩,_,rfl,_,rfl,_,_,rfl,Or.inl ⟨_,.of hf1,rfl⟩,.int ⟨p,a,_,rfl,hP.but b1 v1,by omega,by rw[aa];omega,fun r H2 h0 h1 v2 e2=>?_⟩⟩
   obtain⟨j,rfl⟩:=bg h0
   rw[aa] at h1
   have hf2:H2 lf=some (.lst (List.map V.str ys)):=(e2 lf (Ne.symm hpf)).trans hf1
   have hn2:H2 n=some (.lst (List.map V.str xs)):=(e2 n hnp).trans hn1
   refine⟨_,rfl,lf,_,_,j,_,rfl,rfl,rfl,hf2,by rw[aa];omega,by rw[aa];exact small1000 (by omega),?_⟩
   refine⟨_,ys.take j++z::ys.drop j,rfl,?_,?_,?_,v2.upd hpf,(b1.trans (But.of_eq e2)).at hlf⟩
   ·rw[upd_same];simp[List.map_take,List.map_drop]
   ·rw[upd_ne hnf];exact hn2
   ·rw[au,hz]
    exact(perm_insS ys j z).trans ((List.Perm.cons z hpm).trans (List.perm_append_singleton z (xs.take i)).symm)
  ·rintro σ H1 ⟨o3,ys,rfl,hf1,hn1,hpm,v1,b1⟩
   rw[aa,aw (ae _)] at hpm
   exact⟨_,rfl,k lf ys H1 hpm hf1 hlf (Ne.symm hpf) v1 b1⟩
def Fwd (os:List Str) (ts:List (Str × Str)):Prop:=∀e∈ts,∃i j:Nat,i<j/\os[i]? = some e.1/\os[j]? = some e.2
structure WebO (H:Hp) (wq:V) (ss:List Str) (ts:List (Str × Str)) (lo:Addr) (os:List Str):Prop where
 web:Web H wq ss ts
 tnd:ts.Nodup
 ord:H lo=some (.lst (List.map V.str os))
 pm:os.Perm ss
def spLWeb (K:W.Frag):Sp:=fun vs H Q _=>∃(p a:Addr),vs=[.ref p]/\Pen K H p a /\
 ∀q wq lo ss ts os H',H' q=some (.tup [.ref wq,.ref lo])->WebO H' (.ref wq) ss ts lo os->Fwd os ts->ts.length<=120->lo≠p->PenV H' p a->But p H H'->Q (.ref q) H'
theorem scLWeb:FnScope ["_law_pen_here","_law_many","_law_names_here","_law_order","_law_ties","_law_k","_law_here","_law_there","_law_pair_here"] ["_law_pen_here"] (defScope sWeb):=⟨rfl,rfl,rfl,by decide +kernel,rfl,by decide +kernel,by decide +kernel⟩
theorem ok_lweb {f:Addr}{fd:FuncData}(F:Fun K "_law_web" "_law_web" sWeb f fd) (B:Blt mg) (c_law_draw:Cal P w K mg base 1 "_law_draw" ["_law_pen_here", "_law_most"] (spDraw K)) (c_law_names:Cal P w K mg base 2 "_law_names" ["_law_pen_here", "_law_many"] (spNames K)) (c_law_turned:Cal P w K mg base 2 "_law_turned" ["_law_pen_here", "_law_some"] (spTurned K)) (cweb_of:Cal P w K mg base 5 "web_of" ["things", "ties"] spWebOf):FnOk P w K mg base CX0 6 f fd ["_law_pen_here"] (spLWeb K) := by
 refine F.ok scLWeb (fun vs H Q E h=>?_) (fun cdv A outer s H vs Q E hr h=>?_)
 ·obtain⟨p,a,rfl,_⟩:=h
  rfl
 ·obtain⟨p, a, rfl, hP, k⟩ := h
  have nd:=scLWeb.nd
  refine⟨_,(pss_cons (ps_set (i:=1) nd rfl (Or.inl rfl) (pe_ix (ix_X K hr.units) (pe_lst (pa_cons (pe_op op_addX pe_int (pe_cal c_law_draw (hr.mono (by decide)) rfl (pa_cons (pv 0) (pa_cons pe_int pa_nil)))) (pa_cons (pe_op op_mod (pe_cal c_law_draw (hr.mono (by decide)) rfl (pa_cons (pv 0) (pa_cons pe_int pa_nil))) pe_int) pa_nil))) (b_int B (pa_cons (pe_cmpR (op_eqX hr.units) (pe_cal c_law_draw (hr.mono (by decide)) rfl (pa_cons (pv 0) (pa_cons pe_int pa_nil))) pe_int (nomark _)) pa_nil)) (fun _ _=>rfl)))
   (pss_cons (ps_set (i:=2) nd rfl (Or.inl rfl) (pe_cal c_law_names (hr.mono (by decide)) rfl (pa_cons (pv 0) (pa_cons (pv 1) pa_nil))))
   (pss_cons (ps_set (i:=3) nd rfl (Or.inl rfl) (pe_cal c_law_turned (hr.mono (by decide)) rfl (pa_cons (pv 0) (pa_cons (pv 2) pa_nil))))
   (pss_cons (ps_set (i:=4) nd rfl (Or.inl rfl) (pe_lst pa_nil))
   (pss_cons (ps_for PassesOwn.never rfl (pi_range1 rfl B.range (pa_cons (pe_cal c_law_draw (hr.mono (by decide)) rfl (pa_cons (pv 0) (pa_cons (pe_op op_addX (pe_op op_mul pe_int (pv 1)) pe_int) pa_nil))) pa_nil)) (pg_name (i:=5) nd rfl (Or.inl rfl)) (pss_cons (ps_set (i:=6) nd rfl (Or.inl rfl) (pe_cal c_law_draw (hr.mono (by decide)) rfl (pa_cons (pv 0) (pa_cons (pv 1) pa_nil))))
   (pss_cons (ps_set (i:=7) nd rfl (Or.inl rfl) (pe_cal c_law_draw (hr.mono (by decide)) rfl (pa_cons (pv 0) (pa_cons (pv 1) pa_nil))))
   (pss_cons (ps_if (pt_cmpR (op_eqX hr.units) (pe_cal c_law_draw (hr.mono (by decide)) rfl (pa_cons (pv 0) (pa_cons pe_int pa_nil))) pe_int (nomark _)) (pss_one (ps_set (i:=7) nd rfl (Or.inl rfl) (b_min rfl B (pa_cons (pe_op op_sub (pv 1) pe_int) (pa_cons (pe_op op_addX (pe_op op_addX (pv 6) pe_int) (pe_cal c_law_draw (hr.mono (by decide)) rfl (pa_cons (pv 0) (pa_cons pe_int pa_nil)))) pa_nil))))) pss_nil)
   (pss_cons (ps_set (i:=8) nd rfl (Or.inl rfl) (pe_tup (pa_cons (pe_ix (ix_X K hr.units) (pv 3) (b_min rfl B (pa_cons (pv 6) (pa_cons (pv 7) pa_nil))) (fun _ _=>rfl)) (pa_cons (pe_ix (ix_X K hr.units) (pv 3) (b_max rfl B (pa_cons (pv 6) (pa_cons (pv 7) pa_nil))) (fun _ _=>rfl)) pa_nil))))
   (pss_one (ps_if (PW.pt (pw_and (pt_cmpR (op_neX hr.units) (pv 6) (pv 7) (nomark _)) (pw_and1 (pt_cmpR (op_notInX K hr.units) (pv 8) (pv 4) (by with_unfolding_all rfl))))) (pss_one (ps_expr (m_insert K (pv 4) (pa_cons (pe_cal c_law_draw (hr.mono (by decide)) rfl (pa_cons (pv 0) (pa_cons (pe_op op_addX (b_len K B (pa_cons (pv 4) pa_nil)) pe_int) pa_nil))) (pa_cons (pv 8) pa_nil))))) pss_nil)))))))
   (pss_one (ps_ret (pe_tup (pa_cons (pe_cal cweb_of (hr.mono (by decide)) rfl (pa_cons (pe_cal c_law_turned (hr.mono (by decide)) rfl (pa_cons (pv 0) (pa_cons (pv 2) pa_nil))) (pa_cons (pv 4) pa_nil))) (pa_cons (pv 3) pa_nil)))))))))),?_⟩
  refine⟨_,rfl,p,a,12,rfl,hP,by decide,by decide,fun r1 H1 h10 h11 v1 e1=>.int ?_⟩
  have b1:=But.of_eq e1
  refine⟨_,rfl,p,a,63,rfl,hP.but b1 v1,by decide,by decide,fun r2 H2 h20 h21 v2 e2=>⟨_,_,rfl,rfl,(by show (0:Int)<61;decide),?_⟩⟩
  have b2:=b1.trans (But.of_eq e2)
  refine⟨(by show 2<=sizeLine;decide),fun l1 hl1=>?_⟩
  have hp1:=v2.ne hl1
  have b2':=b2.at (o:=.lst [V.int (1+r1),V.int (r2 % 61)]) (b2.free (Ne.symm hp1) hl1)
  refine⟨_,rfl,p,a,8,rfl,hP.but b2' (v2.upd hp1),by decide,by decide,fun r3 H3 h30 h31 v3 e3=>.sc rfl ?_⟩
  have hl13:H3 l1=some (.lst [V.int (1+r1),V.int (r2 % 61)]):=(e3 l1 (Ne.symm hp1)).trans upd_same
  have b3:=b2'.trans (But.of_eq e3)
  obtain⟨m,em,hm⟩:∃m:Nat,atI [V.int (1+r1),V.int (r2 % 61)] (if decide (V.int r3=V.int 0)=true then 1 else 0)=some (.int (m:Int))/\m<=60:=by
   by_cases q:decide (V.int r3=V.int 0)=true
   ·rw[if_pos q];exact⟨(r2 % 61).toNat,by show some (V.int (r2 % 61))=_;rw[Int.toNat_of_nonneg (by omega)],by omega⟩
   ·rw[if_neg q];exact⟨(1+r1).toNat,by show some (V.int (1+r1))=_;rw[Int.toNat_of_nonneg (by omega)],by omega⟩
  refine⟨_,rfl,.bl (.lst (.of hl13) em ?_)⟩
  refine⟨_,rfl,_,rfl,p,a,m,rfl,hP.but b3 v3,hm,fun ln ss H4 hl4 snd snm hln4 hln0 hnp4 v4 b4=>?_⟩
  have b4:=b3.trans b4
  refine⟨_,rfl,_,rfl,p,a,ln,ss,rfl,hP.but b4 v4,hln4,hnp4,by omega,fun lo os H5 hpm hlo5 hlo0 hlop v5 b5=>?_⟩
  have hln5:=b5 ln _ hnp4 hln4
  have b5:=b4.trans b5
  have osl:os.length=m:=hpm.length_eq.trans hl4
  refine⟨(by show 0<=sizeLine;decide),fun lf hlf=>?_⟩
  have hpf:=v5.ne hlf
  have nof:lo≠lf:=ne_of_none hlo5 hlf
  have nnf:ln≠lf:=ne_of_none hln5 hlf
  have hf0:=b5.free (Ne.symm hpf) hlf
  have b5':=b5.at (o:=.lst []) hf0
  have v5':=v5.upd (o:=.lst []) hpf
  have hf5:upd H5 lf (.lst []) lf=some (.lst []):=upd_same
  have hlo5':upd H5 lf (.lst []) lo=some (.lst (List.map V.str os)):=by rw[upd_ne nof];exact hlo5
  have hln5':upd H5 lf (.lst []) ln=some (.lst (List.map V.str ss)):=by rw[upd_ne nnf];exact hln5
  generalize upd H5 lf (.lst [])=H6 at b5' v5' hf5 hlo5' hln5' ⊢
  refine⟨_,rfl,_,rfl,_,_,rfl,rfl,.inl ⟨by decide,by decide⟩,.int ⟨p,a,_,rfl,hP.but b5' v5',by omega,by omega,fun r7 H7 h70 h71 v7 e7=>?_⟩⟩
  obtain⟨c,rfl⟩:=bg h70
  have b7:=b5'.trans (But.of_eq e7)
  have hf7:=(e7 lf (Ne.symm hpf)).trans hf5
  have hlo7:=(e7 lo hlop).trans hlo5'
  have hln7:=(e7 ln hnp4).trans hln5'
  refine⟨_,rfl,by omega,by omega,?_⟩
  refine for_range (fun i σ H'=>∃o5 o6 o7 o8 refs ts,σ=[some (.ref p),some (.int (m:Int)),some (.ref ln),some (.ref lo),some (.ref lf),o5,o6,o7,o8]/\H' ln=some (.lst (List.map V.str ss))/\H' lo=some (.lst (List.map V.str os))/\H' lf=some (.lst refs)/\RepAll H' refs (ts.map pairD)/\ts.Nodup/\Fwd os ts/\ts.length<=i/\PenV H' p a/\But p H H')
   ⟨none,none,none,none,[],[],rfl,hln7,hlo7,hf7,.nil,bw,(fun e he=>by cases he),ae _,v7,b7⟩ ?_ ?_
  ·rintro i σ H8 hi ⟨o5, o6, o7, o8, refs, ts, rfl, hln8, hlo8, hf8, rp8, tnd8, fw8, tl8, v8, b8⟩
   have hi:i<c:=by simpa using hi
   have hm0:0<m:=by
    by_cases q:m=0
    ·subst q;omega
    ·omega
   refine⟨_,rfl,_,rfl,p,a,_,rfl,hP.but b8 v8,by omega,by omega,fun r1 H9 h10 h11 v9 e9=>?_⟩
   have b9:=b8.trans (But.of_eq e9)
   refine⟨_,rfl,_,rfl,p,a,_,rfl,hP.but b9 v9,by omega,by omega,fun r2 HA h20 h21 vA eA=>?_⟩
   obtain⟨x,rfl⟩:=bg h10
   obtain⟨y0,rfl⟩:=bg h20
   have hx:x<m:=by omega
   have hy0:y0<m:=by omega
   clear h10 h11 h20 h21
   have bA:=b9.trans (But.of_eq eA)
   refine⟨_,rfl,p,a,2,rfl,hP.but bA vA,by decide,by decide,fun r3 HB _ _ vB eB=>.sc rfl ⟨_,rfl,?_⟩⟩
   have bB:=bA.trans (But.of_eq eB)
   obtain⟨_,hpv⟩:=penAt v8
   have bb:=((But.of_eq e9).trans (But.of_eq eA)).trans (But.of_eq eB)
   apply once2 (C:=fun y HC=>y<m/\PenV HC p a/\But p H HC/\But p H8 HC)
   ·intro tail
    refine ite2 (fun _=>?a) (fun _=>?b)
    case a =>
     refine⟨_,rfl,_,_,rfl,rfl,_,rfl,.int ⟨_,rfl,p,a,3,rfl,hP.but bB vB,by decide,by decide,fun r4 HC h40 h41 vC eC=>.int ⟨_,_,rfl,?_⟩⟩⟩
     obtain⟨y,ey,hy⟩:∃y:Nat,(if (x:Int)+1+r4<(m:Int)-1 then (x:Int)+1+r4 else (m:Int)-1)=(y:Int)/\y<m:=by
      split
      ·exact⟨((x:Int)+1+r4).toNat,by omega,by omega⟩
      ·exact⟨((m:Int)-1).toNat,by omega,by omega⟩
     dsimp only
     rw[ey]
     exact tail y HC ⟨hy,vC,bB.trans (But.of_eq eC),bb.trans (But.of_eq eC)⟩
    case b=>exact tail y0 HB ⟨hy0,vB,bB,bb⟩
   ·intro y HC hC
    obtain⟨hy,vC,bC,bbC⟩:=hC
    have hln9:=bbC ln _ hnp4 hln8
    have hlo9:=bbC lo _ hlop hlo8
    have hf9:=bbC lf _ (Ne.symm hpf) hf8
    have rp9:=RepAll.pairBut hpv bbC rp8
    have em:(if (y:Int)<(x:Int) then (y:Int) else (x:Int))=((min x y:Nat):Int):=by split <;> omega
    have eM:(if (y:Int) > (x:Int) then (y:Int) else (x:Int))=((max x y:Nat):Int):=by split <;> omega
    have hmn:min x y<os.length:=by omega
    have hMx:max x y<os.length:=by omega
    refine⟨_,rfl,_,rfl,_,rfl,_,_,rfl,?_⟩
    try dsimp only
    rw[em]
    refine .lst (.of hlo9) (str_at hmn) ⟨_,rfl,_,rfl,_,rfl,_,_,rfl,?_⟩
    try dsimp only
    rw[eM]
    refine .lst (.of hlo9) (str_at hMx) ⟨(by show 2<=sizeLine;decide),fun tq htq=>?_⟩
    have gm:os[min x y]? = some (os.getD (min x y) ""):=by rw[aD,ar hmn];rfl
    have gM:os[max x y]? = some (os.getD (max x y) ""):=by rw[aD,ar hMx];rfl
    generalize os.getD (min x y) ""=n1 at gm ⊢
    generalize os.getD (max x y) ""=n2 at gM ⊢
    have sq:=Same.new (o:=.tup [V.str n1,V.str n2]) htq
    have hpq:=vC.ne htq
    have hlnD:=sq _ _ hln9
    have hloD:=sq _ _ hlo9
    have hfD:=sq _ _ hf9
    have rpD:=rp9.same sq
    have vD:=vC.upd (o:=.tup [V.str n1,V.str n2]) hpq
    have bD:=bC.at (o:=.tup [V.str n1,V.str n2]) (bC.free (Ne.symm hpq) htq)
    have hfq:lf≠tq:=ne_of_none hf9 htq
    have onm:∀s∈os,Nm s:=fun s hs=>snm s (hpm.mem_iff.mp hs)
    have tnm:∀e∈ts,Nm e.1/\Nm e.2:=fun e he=>by
     obtain⟨x,y,_,hx,hy⟩:=fw8 e he
     exact⟨onm _ (aj hx),onm _ (aj hy)⟩
    have nn:Nm n1/\Nm n2:=⟨onm _ (aj gm),onm _ (aj gM)⟩
    have rl:=rpD.len
    rw[aa] at rl
    refine⟨_,rfl,_,rfl,.sc rfl ⟨_,rfl,ite2 (fun hne=>?_) (fun _=>iteF ⟨_,_,_,_,refs,ts,rfl,hlnD,hloD,hfD,rpD,tnd8,fw8,by omega,vD,bD⟩)⟩⟩
    have hne:(!decide (V.int (x:Int)=V.int (y:Int)))=true:=hne
    have hxy:x≠y:=fun z=>by rw[z] at hne;simp at hne
    refine⟨_,rfl,_,rfl,.tr hfD rpD (pair_rep (s:=n1) (t:=n2) upd_same) (canLay_pairs ts tnm) (canLay_pr nn.1 nn.2) (by show 1<=16;decide) ⟨_,rfl,?_⟩⟩
    rw[any_pair]
    refine ite2 (fun hnin=>?_) (fun _=>⟨_,_,_,_,refs,ts,rfl,hlnD,hloD,hfD,rpD,tnd8,fw8,by omega,vD,bD⟩)
    have hnin:(n1,n2)∉ts:=by simpa using hnin
    refine⟨_,rfl,.inl ⟨rfl,_,.of hfD⟩,_,rfl,_,rfl,_,_,rfl,Or.inl ⟨_,.of hfD,rfl⟩,.int ⟨p,a,_,rfl,hP.but bD vD,by omega,by omega,fun r5 HE h50 h51 vE eE=>?_⟩⟩
    obtain⟨j,rfl⟩:=bg h50
    have hfE:=(eE lf (Ne.symm hpf)).trans hfD
    have hlnE:=(eE ln hnp4).trans hlnD
    have hloE:=(eE lo hlop).trans hloD
    obtain⟨_,hpD⟩:=penAt vD
    have rpE:=RepAll.pairBut hpD (But.of_eq eE) rpD
    have htE:HE tq=some (.tup [V.str n1,V.str n2]):=(eE tq (Ne.symm hpq)).trans upd_same
    refine⟨_,rfl,lf,_,_,j,_,rfl,rfl,rfl,hfE,by omega,by exact small1000 (by omega),?_⟩
    refine⟨_,_,_,_,refs.take j++(V.ref tq)::refs.drop j,ts.take j++(n1,n2)::ts.drop j,rfl,?_,?_,upd_same,?_,?_,?_,?_,vE.upd hpf,(bD.trans (But.of_eq eE)).at hf0⟩
    ·rw[upd_ne nnf];exact hlnE
    ·rw[upd_ne nof];exact hloE
    ·rw[ah,aV,List.map_take,List.map_drop]
     have rpF:=RepAll.pairBut (p:=lf) hfE (But.upd (o:=.lst (refs.take j++V.ref tq::refs.drop j))) rpE
     refine RepAll.append (rpF.take j) (.cons (pair_rep (s:=n1) (t:=n2) ?_) (rpF.drop j))
     rw[upd_ne (Ne.symm hfq)];exact htE
    ·exact(cw.trans (by rw[cx])).nodup_iff.mpr (aP.mpr ⟨hnin,tnd8⟩)
    ·intro e he
     have he:e∈(n1,n2)::ts:=by
      have:=(cw (a:=(n1,n2)) (l₁:=ts.take j) (l₂:=ts.drop j)).mem_iff.mp he
      rwa [cx] at this
     rcases ax.mp he with rfl | g
     ·exact⟨min x y,max x y,by omega,gm,gM⟩
     ·exact fw8 e g
    ·have:=(cw (a:=(n1,n2)) (l₁:=ts.take j) (l₂:=ts.drop j)).length_eq
     rw[cx,be] at this
     omega
  ·rintro σ H8 ⟨o5,o6,o7,o8,refs,ts,rfl,hln8,hlo8,hf8,rp8,tnd8,fw8,tl8,v8,b8⟩
   have tl8:ts.length<=c:=by simpa using tl8
   obtain⟨_,hp8⟩:=penAt v8
   refine⟨_,rfl,_,rfl,p,a,ln,ss,rfl,hP.but b8 v8,hln8,hnp4,by omega,fun l9 ys H9 hpm9 hl9 hl90 hl9p v9 b9=>?_⟩
   have hlo9:=b9 lo _ hlop hlo8
   have hf9:=b9 lf _ (Ne.symm hpf) hf8
   have rp9:=RepAll.pairBut hp8 b9 rp8
   have b9:=b8.trans b9
   have inn:∀e∈ts,e.1∈ys/\e.2∈ys:=fun e he=>by
    obtain⟨x,y,_,hx,hy⟩:=fw8 e he
    exact⟨hpm9.mem_iff.mpr (hpm.mem_iff.mp (aj hx)),hpm9.mem_iff.mpr (hpm.mem_iff.mp (aj hy))⟩
   have ynd:ys.Nodup:=hpm9.nodup_iff.mpr snd
   have ynm:∀s∈ys,Nm s:=fun s hs=>snm s (hpm9.mem_iff.mp hs)
   have yl:ys.length<=60:=by rw[hpm9.length_eq,hl4];exact hm
   refine⟨_,rfl,l9,lf,ys,ts,refs,rfl,.inl hl9,yl,ynd,ynm,.inl hf9,rp9,by omega,tnd8,inn,fun wq HA sA rwA=>?_⟩
   refine⟨_,rfl,(by show 2<=sizeLine;decide),fun q hq=>?_⟩
   have sq:=Same.new (o:=.tup [V.ref wq,V.ref lo]) hq
   have vA:PenV HA p a:=penSame sA v9
   have hpq:=vA.ne hq
   have bA:=b9.trans (But.of_same sA)
   exact k q wq lo ys ts os _ upd_same ⟨⟨rwA.same sq,ynd,ynm,yl,by omega,inn⟩,tnd8,sq _ _ (sA _ _ hlo9),hpm.trans hpm9.symm⟩ fw8 (by omega) hlop (vA.upd hpq) (bA.at (bA.free (Ne.symm hpq) hq))
theorem in_strs (z:Str) (ws:List Str):inV (V.str z) (List.map V.str ws)=decide (z∈ws):=by
 unfold inV
 rw[List.any_map,aO,bY,decide_eq_true_iff]
 constructor
 ·rintro⟨y,hy,h⟩
  have h:(y==z)=true:=h
  rw[beq_iff_eq] at h
  rw[<- h];exact hy
 ·intro h
  exact⟨z,h,by show (z==z)=true;simp⟩
theorem flat_strs (ws:List Str):(List.map V.str ws).all flatV=true:=by
 rw[bi]
 intro v hv
 obtain⟨u,_,rfl⟩:=ap.mp hv
 rfl
theorem scReached:FnScope ["_law_web_here","_law_one","_law_found","_law_at","_law_first","_law_other"] ["_law_web_here","_law_one"] (defScope sReached):=⟨rfl,rfl,rfl,by decide +kernel,rfl,by decide +kernel,by decide +kernel⟩
def spReach:Sp:=fun vs H Q _=>∃(wq a b:Addr) (refs:List V) (ss:List Str) (ts:List (Str × Str)) (one:Str),vs=[.ref wq,.str one]/\H wq=some (.tup [.ref a,.ref b])/\H b=some (.tup refs)/\RepAll H refs (ts.map pairD)/\(∀e∈ts,e.1∈ss/\e.2∈ss)/\one∈ss/\ss.length<=60 /\
 ∀l (seen:List Str) H',Same H H'->H l=none->H' l=some (.lst (List.map V.str seen))->(∀t,t∈seen ↔ MG.Rch (Tie ts) one t)->seen.length<=60->Q (.ref l) H'
theorem ok_reach {f:Addr}{fd:FuncData}(F:Fun K "_law_reached" "_law_reached" sReached f fd) (B:Blt mg):FnOk P w K mg base CX0 1 f fd ["_law_web_here", "_law_one"] spReach := by
 refine F.ok scReached (fun vs H Q E h=>?_) (fun cdv A outer s H vs Q E hr h=>?_)
 ·obtain⟨wq,a,b,refs,ss,ts,one,rfl,_⟩:=h
  rfl
 ·obtain⟨wq, wa, b, refs, ss, ts, one, rfl, hwq, hb, rp, hev, hone, hn, k⟩ := h
  have nd:=scReached.nd
  refine⟨_,(pss_cons (ps_set (i:=2) nd rfl (Or.inl rfl) (pe_lst (pa_cons (pv 1) pa_nil)))
   (pss_cons (ps_set (i:=3) nd rfl (Or.inl rfl) pe_int)
   (pss_cons (ps_while PassesOwn.never (pt_cmpR op_ltX (pv 3) (b_len K B (pa_cons (pv 2) pa_nil)) (nomark _)) (pss_cons (ps_for PassesOwn.never rfl (pi_tupK K (pe_ix (ix_X K hr.units) (pv 0) pe_int (fun _ _=>rfl))) (pg_tupK (n:=2) K rfl (pgs_cons (pg_name (i:=4) nd rfl (Or.inl rfl)) (pgs_cons (pg_name (i:=5) nd rfl (Or.inl rfl)) pgs_nil))) (pss_one (ps_if (PW.pt (pw_and (pt_cmpR (op_eqX hr.units) (pv 4) (pe_ix (ix_X K hr.units) (pv 2) (pv 3) (fun _ _=>rfl)) (nomark _)) (pw_and1 (pt_cmpR (op_notInX K hr.units) (pv 5) (pv 2) (by with_unfolding_all rfl))))) (pss_one (ps_expr (m_append K (pv 2) (pa_cons (pv 5) pa_nil)))) pss_nil)))
   (pss_one (ps_set (i:=3) nd rfl (Or.inl rfl) (pe_op op_addX (pv 3) pe_int)))))
   (pss_one (ps_ret (pv 2)))))),?_⟩
  have rlen:=rp.len
  rw[aa] at rlen
  refine⟨_,rfl,(by show 1<=sizeLine;decide),fun l0 hl0=>?_⟩
  have inn:∀y,MG.Rch (Tie ts) one y->y∈ss:=fun y r=>MG.Rch.closed (S:=fun y=>y∈ss) hone (fun a b _ r=>(hev _ r).2) r
  refine⟨fun m σ H'=>∃(at_:Nat) (seen:List Str) (o4 o5:Option V),m+at_=ss.length/\σ=[some (.ref wq),some (.str one),some (.ref l0),some (.int ((at_:Nat):Int)),o4,o5]/\Same H H'/\H' l0=some (.lst (List.map V.str seen))/\seen.Nodup/\(∀x∈seen,MG.Rch (Tie ts) one x)/\one∈seen/\at_<=seen.length/\∀i x,i<at_->seen[i]? = some x->∀y,(x,y)∈ts->y∈seen,
   ⟨ss.length,0,[one],none,none,by omega,rfl,Same.new hl0,upd_same,by simp,(fun x hx=>(show x=one by simpa using hx) ▸ MG.Rch.refl),by simp,by omega,fun i x hi=>by omega⟩,?_⟩
  rintro m σ H1 ⟨at_,seen,o4,o5,hm,rfl,sm,hs,hnd,hrc,hmem,hat,hclo⟩
  have hsn:seen.length<=ss.length:=hnd.length_le_of_subset fun x hx=>inn x (hrc x hx)
  have hln:(List.map V.str seen).length=seen.length:=aa ..
  refine⟨_,rfl,_,rfl,_,_,rfl,Or.inl ⟨_,.of hs,rfl⟩,.int ⟨_,rfl,?_⟩⟩
  refine ite2 (fun hc=>?_) (fun hc=>?_)
  ·have hc:(at_:Int)<((List.map V.str seen).length:Nat) := az hc
   have hlt:at_<seen.length:=by omega
   obtain⟨z,hz⟩:∃z,seen[at_]? = some z:=⟨_,ar hlt⟩
   have rz:=hrc z (aj hz)
   refine⟨fun σ' H'=>∃(seen:List Str) (o4 o5:Option V),σ'=[some (.ref wq),some (.str one),some (.ref l0),some (.int ((at_+1:Nat):Int)),o4,o5]/\Same H H'/\H' l0=some (.lst (List.map V.str seen))/\seen.Nodup/\(∀x∈seen,MG.Rch (Tie ts) one x)/\one∈seen/\at_+1<=seen.length/\∀i x,i<at_+1->seen[i]? = some x->∀y,(x,y)∈ts->y∈seen,
    fun σ' H' ⟨seen,o4,o5,p⟩=>⟨m-1,by omega,at_+1,seen,o4,o5,by omega,p⟩,?_⟩
   refine⟨_,rfl,.tup (.of (sm _ _ hwq)) rfl ⟨_,rfl,⟨_,.of (sm _ _ hb)⟩,?_⟩⟩
   refine for_tup (xs:=refs) (fun j σ H'=>∃(seen:List Str) (o4 o5:Option V),σ=[some (.ref wq),some (.str one),some (.ref l0),some (.int ((at_:Nat):Int)),o4,o5]/\Same H H'/\H' l0=some (.lst (List.map V.str seen))/\seen.Nodup/\(∀x∈seen,MG.Rch (Tie ts) one x)/\one∈seen/\at_<seen.length/\seen[at_]? = some z/\(∀i x,i<at_->seen[i]? = some x->∀y,(x,y)∈ts->y∈seen)/\∀f∈ts.take j,f.1=z->f.2∈seen) ?_ ?_ ?_ ?_
   ·exact⟨seen,o4,o5,rfl,sm,hs,hnd,hrc,hmem,hlt,hz,hclo,fun e he=>by simp at he⟩
   ·rintro j σ H' hj ⟨seen,o4,o5,rfl,sm,_⟩
    exact .of (sm _ _ hb)
   ·rintro j x σ H' hx ⟨seen, o4, o5, rfl, sm, hs, hnd, hrc, hmem, hlt, hz, hclo, hdn⟩
    obtain⟨d,hd,rd⟩:=(rp.same sm).get hx
    rw[aA] at hd
    obtain⟨e,he,rfl⟩:∃e,ts[j]? = some e/\pairD e=d:=by
     cases q:ts[j]? with
     | none=>rw[q] at hd;cases hd
     | some e=>rw[q] at hd;exact⟨e,rfl,ai hd⟩
    obtain⟨ta,rfl,hta⟩:=pair_at rd
    have hem:=aj he
    have hsn:seen.length<=ss.length:=hnd.length_le_of_subset fun x hx=>inn x (hrc x hx)
    have skip:(e.1=z->e.2∈seen)->∀f∈ts.take (j+1),f.1=z->f.2∈seen:=fun h f hf q=>by
     rw[au,he,aq] at hf
     rcases hf with hf | hf
     ·exact hdn f hf q
     ·have:f=e:=by simpa using hf
      subst this;exact h q
    have zat:atI (List.map V.str seen) (at_:Int)=some (.str z):=atI_nat (by rw[aA,hz];rfl)
    refine⟨ta,_,rfl,.of hta,rfl,_,_,rfl,_,_,rfl,rfl,?_⟩
    refine⟨_,rfl,_,rfl,_,rfl,.lst (.of hs) zat (.sc rfl ⟨_,rfl,?_⟩)⟩
    refine ite2 (fun h1=>?_) (fun h1=>?_)
    ·have h1:e.1=z := V.str.inj (az h1)
     refine⟨_,rfl,_,rfl,.seq (.inl (.of hs)) rfl (flat_strs _) ⟨_,rfl,?_⟩⟩
     rw[in_strs]
     refine ite2 (fun h2=>?_) (fun h2=>?_)
     ·have h2:e.2 ∉ seen := by simpa using h2
      refine⟨_,rfl,.inl ⟨rfl,_,.of hs⟩,?_⟩
      refine⟨_,rfl,l0,_,_,rfl,rfl,hs,by rw[aa];exact small1000 (by omega),?_⟩
      refine⟨seen++[e.2],_,_,rfl,?_,?_,?_,?_,?_,?_,?_,?_,?_⟩
      ·intro c o hc
       rw[upd_ne (ne_of_none hc hl0)]
       exact sm _ _ hc
      ·rw[upd_same];simp
      ·rw[bn]
       refine⟨hnd,by simp,fun a ha b hb=>?_⟩
       have:b=e.2:=by simpa using hb
       subst this
       rintro rfl
       exact h2 ha
      ·intro x hx
       rcases aq.mp hx with hx | hx
       ·exact hrc x hx
       ·have:x=e.2:=by simpa using hx
        subst this
        exact MG.Rch.step rz (by rw[<- h1];exact hem)
      ·exact aU _ hmem
      ·simp;omega
      ·rw[bc hlt];exact hz
      ·intro i x hi hx y hy
       rw[bc (by omega)] at hx
       exact aU _ (hclo i x hi hx y hy)
      ·intro f hf q
       rw[au,he,aq] at hf
       rcases hf with hf | hf
       ·exact aU _ (hdn f hf q)
       ·have:f=e:=by simpa using hf
        subst this;simp
     ·have h2:e.2∈seen:=by simpa using h2
      exact⟨seen,_,_,rfl,sm,hs,hnd,hrc,hmem,hlt,hz,hclo,skip fun _=>h2⟩
    ·have h1:e.1≠z:=fun q=>h1 (ao (by rw[q]))
     exact iteF ⟨seen,_,_,rfl,sm,hs,hnd,hrc,hmem,hlt,hz,hclo,skip fun q=>absurd q h1⟩
   ·rintro σ H' ⟨seen,o4,o5,rfl,sm,hs,hnd,hrc,hmem,hlt,hz,hclo,hdn⟩
    rw[rlen,aw (ae _)] at hdn
    refine⟨_,rfl,.int ⟨seen,o4,o5,rfl,sm,hs,hnd,hrc,hmem,hlt,fun i x hi hx y hy=>?_⟩⟩
    by_cases q:i<at_
    ·exact hclo i x q hx y hy
    ·have:i=at_:=by omega
     subst this
     rw[hz] at hx
     cases hx
     exact hdn _ hy rfl
  ·have hc:¬ (at_:Int)<((List.map V.str seen).length:Nat):=fun q=>hc (ao q)
   refine⟨_,rfl,k l0 seen H1 sm hl0 hs (fun t=>⟨hrc t,fun r=>?_⟩) (by omega)⟩
   refine MG.Rch.closed (S:=fun y=>y∈seen) hmem (fun a b ha r=>?_) r
   obtain⟨j,hj,ej⟩:=List.mem_iff_getElem.mp ha
   exact hclo j a (by omega) (by rw[ar hj,ej]) b r
theorem web_but {H H':Hp}{p:Addr}{ys:List V}(hp:H p=some (.lst ys)) (b:But p H H') {v:V}{ss:List Str}{ts:List (Str × Str)}(W:Web H v ss ts):Web H' v ss ts:=by
 obtain⟨q,a,c,xs,rfl,hq,ha,hc,rp⟩:=web_at W.rep
 have ne:∀ {x:Addr} {o:HO},H x=some o->(∀zs,o≠.lst zs)->x≠p:=fun e n=>ne_of e hp (n _)
 exact⟨.tup (b _ _ (ne hq fun _ z=>by cases z) hq) (.cons (.tup (b _ _ (ne ha fun _ z=>by cases z) ha) (RepAll.of_strs ss)) (.cons (.tup (b _ _ (ne hc fun _ z=>by cases z) hc) (RepAll.pairBut hp b rp)) .nil)),W.nd,W.nm,W.len,W.few,W.inn⟩
theorem WebO.same {H H':Hp}{wq:V}{ss:List Str}{ts:List (Str × Str)}{lo:Addr}{os:List Str}(h:WebO H wq ss ts lo os) (s:Same H H'):WebO H' wq ss ts lo os:=⟨h.web.same s,h.tnd,s _ _ h.ord,h.pm⟩
theorem WebO.but {H H':Hp}{p a:Addr}{wq:V}{ss:List Str}{ts:List (Str × Str)}{lo:Addr}{os:List Str}(h:WebO H wq ss ts lo os) (v:PenV H p a) (b:But p H H') (n:lo≠p):WebO H' wq ss ts lo os:=by
 obtain⟨_,hp⟩:=penAt v
 exact⟨web_but hp b h.web,h.tnd,b _ _ n h.ord,h.pm⟩
theorem depth_pairs:∀ts:List (Str × Str),PyData.depthAll (ts.map pairD)<=1
 | []=>by decide
 | e::es=>by
  show max (PyData.depth (pairD e)) (PyData.depthAll (es.map pairD))<=1
  have h1:PyData.depth (pairD e)=1:=rfl
  have h2:=depth_pairs es
  omega
theorem pairs_shp {ts:List (Str × Str)}(h:∀e∈ts,Nm e.1/\Nm e.2):shp (.tuple (ts.map pairD)):=by
 show (PyData.canLayAll0 (ts.map pairD)&&decide (PyData.depthAll (ts.map pairD)+1<=64))=true
 have:=depth_pairs ts
 rw[canLay_pairs ts h,ao (by omega)];rfl
theorem eqv_nilT (ts:List (Str × Str)):PyData.eqv (.tuple (ts.map pairD)) (.tuple [])=decide (ts=[]):=by
 cases ts with
 | nil=>rfl
 | cons e r=>rfl
def spPair (K:W.Frag):Sp:=fun vs H Q _=>∃(p a wq lo:Addr) (ss:List Str) (ts:List (Str × Str)) (os:List Str),vs=[.ref p,.ref wq,.ref lo]/\Pen K H p a/\WebO H (.ref wq) ss ts lo os/\0<os.length/\lo≠p /\
 ∀q x y H',H' q=some (.tup [.str x,.str y])->x∈ss->y∈ss->PenV H' p a->But p H H'->Q (.ref q) H'
theorem scPair:FnScope ["_law_pen_here","_law_web_here","_law_order","_law_here","_law_there","_law_sort"] ["_law_pen_here","_law_web_here","_law_order"] (defScope sPair):=⟨rfl,rfl,rfl,by decide +kernel,rfl,by decide +kernel,by decide +kernel⟩
theorem ok_pair {f:Addr}{fd:FuncData}(F:Fun K "_law_pair" "_law_pair" sPair f fd) (B:Blt mg) (c_law_draw:Cal P w K mg base 1 "_law_draw" ["_law_pen_here", "_law_most"] (spDraw K)):FnOk P w K mg base CX0 2 f fd ["_law_pen_here", "_law_web_here", "_law_order"] (spPair K) := by
 refine F.ok scPair (fun vs H Q E h=>?_) (fun cdv A outer s H vs Q E hr h=>?_)
 ·obtain⟨p,a,wq,lo,ss,ts,os,rfl,_⟩:=h
  rfl
 ·obtain⟨p,a,wq,lo,ss,ts,os,rfl,hP,W,h0,nlo,k⟩:=h
  have nd:=scPair.nd
  have v0:=hP.2
  have osl:=W.pm.length_eq
  have h60:=W.web.len
  refine⟨_,(pss_cons (ps_set (i:=3) nd rfl (Or.inl rfl) (pe_cal c_law_draw (hr.mono (by decide)) rfl (pa_cons (pv 0) (pa_cons (b_len K B (pa_cons (pv 2) pa_nil)) pa_nil))))
   (pss_cons (ps_set (i:=4) nd rfl (Or.inl rfl) (pe_cal c_law_draw (hr.mono (by decide)) rfl (pa_cons (pv 0) (pa_cons (b_len K B (pa_cons (pv 2) pa_nil)) pa_nil))))
   (pss_cons (ps_set (i:=5) nd rfl (Or.inl rfl) (pe_cal c_law_draw (hr.mono (by decide)) rfl (pa_cons (pv 0) (pa_cons pe_int pa_nil))))
   (pss_cons (ps_if (PW.pt (pw_and (pt_cmpR (op_eqX hr.units) (pv 5) pe_int (nomark _)) (pw_and1 (pt_cmpR (op_neX hr.units) (pe_ix (ix_X K hr.units) (pv 1) pe_int (fun _ _=>rfl)) (pe_tup pa_nil) (nomark _))))) (pss_one (ps_ret (pe_ix (ix_X K hr.units) (pe_ix (ix_X K hr.units) (pv 1) pe_int (fun _ _=>rfl)) (pe_cal c_law_draw (hr.mono (by decide)) rfl (pa_cons (pv 0) (pa_cons (b_len K B (pa_cons (pe_ix (ix_X K hr.units) (pv 1) pe_int (fun _ _=>rfl)) pa_nil)) pa_nil))) (fun _ _=>rfl)))) pss_nil)
   (pss_cons (ps_if (PW.pt (pw_and (pt_cmpR op_ltX (pv 5) pe_int (nomark _)) (pw_and1 (pt_cmpR op_ltX (pv 3) (pv 4) (nomark _))))) (pss_one (ps_par (i:=3) (j:=4) rfl nd rfl rfl (by decide) rfl rfl (pa_cons (pv 4) (pa_cons (pv 3) pa_nil)) rfl)) pss_nil)
   (pss_one (ps_ret (pe_tup (pa_cons (pe_ix (ix_X K hr.units) (pv 2) (pv 3) (fun _ _=>rfl)) (pa_cons (pe_ix (ix_X K hr.units) (pv 2) (pv 4) (fun _ _=>rfl)) pa_nil)))))))))),?_⟩
  refine⟨_,rfl,_,rfl,_,_,rfl,Or.inl ⟨_,.of W.ord,rfl⟩,p,a,_,rfl,hP,by rw[aa];omega,by rw[aa];omega,fun r1 H1 h10 h11 v1 e1=>?_⟩
  have b1:=But.of_eq e1
  have W1:=W.but v0 b1 nlo
  refine⟨_,rfl,_,rfl,_,_,rfl,Or.inl ⟨_,.of W1.ord,rfl⟩,p,a,_,rfl,hP.but b1 v1,by rw[aa];omega,by rw[aa];omega,fun r2 H2 h20 h21 v2 e2=>?_⟩
  rw[aa] at h11 h21
  have b2:=b1.trans (But.of_eq e2)
  obtain⟨x,rfl⟩:=bg h10
  obtain⟨y,rfl⟩:=bg h20
  have hx:x<os.length:=by omega
  have hy:y<os.length:=by omega
  refine⟨_,rfl,p,a,8,rfl,hP.but b2 v2,by decide,by decide,fun r3 H3 h30 h31 v3 e3=>?_⟩
  have b3:=b2.trans (But.of_eq e3)
  have W3:=W.but v0 b3 nlo
  have fin:∀(H':Hp) (i j:Nat),i<os.length->j<os.length->WebO H' (.ref wq) ss ts lo os->PenV H' p a->But p H H'->∀q,H' q=none->Q (.ref q) (upd H' q (.tup [V.str (os.getD i ""),V.str (os.getD j "")])):=fun H' i j hi hj W' v' b' q hq=>by
   have g:∀i,i<os.length->os.getD i ""∈ss:=fun i hi=>W.pm.mem_iff.mp (by rw[aD,ar hi];exact ck hi)
   have hpq:=v'.ne hq
   exact k q _ _ _ upd_same (g i hi) (g j hj) (v'.upd hpq) (b'.at (b'.free (Ne.symm hpq) hq))
  have tnm:∀e∈ts,Nm e.1/\Nm e.2:=fun e he=>⟨W.web.nm _ (W.web.inn e he).1,W.web.nm _ (W.web.inn e he).2⟩
  refine⟨_,rfl,.sc rfl ⟨_,rfl,?_⟩⟩
  refine ite2 (fun hs=>?_) (fun hs=>iteF ?_)
  obtain⟨wq',wa,wb,xs,e,hq,ha,hb,rp⟩:=web_at W3.web.rep
  cases e
  have rl:=rp.len
  rw[aa] at rl
  refine⟨_,rfl,.tup (.of hq) rfl ⟨(by show 0<=sizeLine;decide),fun tn htn=>?_⟩⟩
  have sn:=Same.new (o:=.tup []) htn
  have hpn:=v3.ne htn
  have b4:=b3.at (o:=.tup []) (b3.free (Ne.symm hpn) htn)
  have v4:=v3.upd (o:=.tup []) hpn
  have W4:=W3.same sn
  have hq4:=sn _ _ hq
  have hb4:=sn _ _ hb
  have rp4:=rp.same sn
  refine .tr (.tup hb4 rp4) (.tup upd_same .nil) (pairs_shp tnm) (by rfl) ⟨_,rfl,?_⟩
  rw[eqv_nilT]
  refine ite2 (fun hne=>?_) (fun hne=>?_)
  ·have hne:ts≠[]:=by simpa using hne
   have hl0:0<xs.length:=by rw[rl];exact List.length_pos_iff.mpr hne
   have few:=W.web.few
   refine⟨_,rfl,.tup (.of hq4) rfl ⟨_,rfl,_,rfl,.tup (.of hq4) rfl ⟨_,_,rfl,SqA.len (K:=K) (.inr hb4),p,a,_,rfl,hP.but b4 v4,by omega,by omega,fun r5 H5 h50 h51 v5 e5=>?_⟩⟩⟩
   obtain⟨j,rfl⟩:=bg h50
   obtain⟨_,hp4⟩:=penAt v4
   have nb:wb≠p:=ne_of hb4 hp4 (by intro z;cases z)
   have hb5:=(e5 wb nb).trans hb4
   have rp5:=RepAll.pairBut hp4 (But.of_eq e5) rp4
   have hj:j<xs.length:=by omega
   obtain⟨e,ta,he,hx5,hta⟩:=pair_get rp5 (ar hj)
   have hin:=W.web.inn e (aj he)
   refine .tup (.of hb5) (atI_nat (ar hj)) ?_
   rw[hx5]
   exact k ta e.1 e.2 H5 hta hin.1 hin.2 v5 (b4.trans (But.of_eq e5))
  rotate_left
  obtain⟨W4,v4,b4⟩:WebO H3 (.ref wq) ss ts lo os/\PenV H3 p a/\But p H H3:=⟨W3,v3,b3⟩
  all_goals
   refine⟨_,rfl,.int ⟨_,rfl,ite2 (fun h6=>?_) (fun _=>iteF ⟨_,rfl,_,rfl,.lst (.of W4.ord) (str_at hx) ⟨_,rfl,_,rfl,.lst (.of W4.ord) (str_at hy) ⟨by show 2<=sizeLine;decide,fun q hq=>fin _ x y hx hy W4 v4 b4 q hq⟩⟩⟩)⟩⟩
   refine⟨_,rfl,_,rfl,.int ⟨_,rfl,ite2 (fun h6=>?_) (fun _=>⟨_,rfl,_,rfl,.lst (.of W4.ord) (str_at hx) ⟨_,rfl,_,rfl,.lst (.of W4.ord) (str_at hy) ⟨by show 2<=sizeLine;decide,fun q hq=>fin _ x y hx hy W4 v4 b4 q hq⟩⟩⟩)⟩⟩
   exact⟨_,rfl,_,rfl,_,_,rfl,_,rfl,_,rfl,.lst (.of W4.ord) (str_at hy) ⟨_,rfl,_,rfl,.lst (.of W4.ord) (str_at hx) ⟨by show 2<=sizeLine;decide,fun q hq=>fin _ y x hy hx W4 v4 b4 q hq⟩⟩⟩
open Classical in
def rB (ts:List (Str × Str)) (a b:Str):Bool:=decide (MG.Rch (Tie ts) a b)
open Classical in
theorem rB_iff {ts:List (Str × Str)}{a b:Str}:rB ts a b=true ↔ MG.Rch (Tie ts) a b:=by unfold rB;exact decide_eq_true_iff
def dueB (os:List Str) (ts:List (Str × Str)) (one other:Str):List Str:=if os.idxOf one<os.idxOf other then [] else ((os.take (os.idxOf one+1)).drop (os.idxOf other)).filter fun t=>rB (flipE ts) one t
def dueF (os:List Str) (ts:List (Str × Str)) (one other:Str):List Str:=if os.idxOf one<os.idxOf other then [] else ((os.take (os.idxOf one+1)).drop (os.idxOf other)).filter fun t=>rB ts other t
def isRing (os:List Str) (ts:List (Str × Str)) (one other:Str):Prop:=¬ os.idxOf one<os.idxOf other/\MG.Rch (Tie ts) other one
theorem idx_of {os:List Str}(nd:os.Nodup) {j:Nat}{s:Str}(h:os[j]? = some s):j=os.idxOf s:=by
 have hj:=(af.mp h).1
 have hm:=aj h
 have hi:=aR hm
 have e:os[os.idxOf s]? = some s:=by rw[ar hi,List.getElem_idxOf]
 exact(bH hj nd).mp (h.trans e.symm)
theorem get_idx {os:List Str}{s:Str}(hm:s∈os):os[os.idxOf s]? = some s:=by
 have hi:=aR hm
 rw[ar hi,List.getElem_idxOf]
theorem cutV_mid (xs:List V) (i j:Nat) (h:j<=xs.length):cutV xs (some (i:Int)) (some (j:Int))=(xs.take j).drop i:=by
 unfold cutV
 rw[HT.sIx_nat,HT.sIx_nat,Nat.min_eq_left h,List.drop_take]
 by_cases hi:i<=xs.length
 ·rw[Nat.min_eq_left hi]
 ·rw[Nat.min_eq_right (by omega),List.drop_of_length_le (ae _),List.drop_of_length_le (by omega)];simp
theorem gYes2 {x:V}{q:Addr}{u v:V}{σ:St}{H:Hp}{A B:St->Hp->Prop}(hx:x=.ref q) (hq:SqT K H q [u,v]) (h:A ((σ.set 0 (some u)).set 1 (some v)) H) :
    gTup K 2 (gCons (gName 0) (gCons (gName 1) gNil)) x σ H fun σ2 H3=>tYes σ2 H3 fun b H4=>if b=true then A σ2 H4 else B σ2 H4:=by
 subst hx
 refine⟨q,_,rfl,hq,rfl,_,_,rfl,_,_,rfl,rfl,?_⟩
 show (if true=true then A ((σ.set 0 (some u)).set 1 (some v)) H else B ((σ.set 0 (some u)).set 1 (some v)) H)
 rw[if_pos rfl]
 exact h
theorem filt_step {α:Type}(l:List α) (g:α->Bool) (i:Nat) (x:α) (h:l[i]? = some x):(l.take (i+1)).filter g=(l.take i).filter g++(if g x=true then [x] else []):=by
 rw[au,h,aY]
 by_cases q:g x=true
 ·simp[q]
 ·simp[q]
theorem index_at {os:List Str}(nd:os.Nodup) {s:Str}(hm:s∈os):∃z,(List.map V.str os)[os.idxOf s]? = some z/\eqV z (.str s)=true/\∀(m:Nat) z',m<os.idxOf s->(List.map V.str os)[m]? = some z'->eqV z' (.str s)=false:=by
 refine⟨.str s,by rw[aA,get_idx hm];rfl,?_,fun m z' hlt hz=>?_⟩
 ·show (s==s)=true;simp
 ·obtain⟨u,hu,rfl⟩:=str_get' hz
  show (u==s)=false
  rw[beq_eq_false_iff_ne]
  rintro rfl
  have:=idx_of nd hu
  omega
theorem pl_at {kvs:List (Key × V)}{os:List Str}(nd:os.Nodup) (h1:∀s,(valV kvs (.inr s)).isSome=true ↔ s∈os) (h2:∀s v,valV kvs (.inr s)=some v->∃j:Nat,v=.int j/\os[j]? = some s) {s:Str}(hm:s∈os):valV kvs (.inr s)=some (.int ((os.idxOf s:Nat):Int)):=by
 cases e:valV kvs (.inr s) with
 | none=>have:=(h1 s).mpr hm;rw[e] at this;cases this
 | some v =>
  obtain⟨j,rfl,hj⟩:=h2 s v e
  rw[idx_of nd hj]
def spStretch:Sp:=fun vs H Q _=>∃(wq lo:Addr) (ss:List Str) (ts:List (Str × Str)) (os:List Str) (one other:Str),vs=[.ref wq,.ref lo,.str one,.str other]/\WebO H (.ref wq) ss ts lo os/\one∈ss/\other∈ss/\¬ isRing os ts one other /\
 ∀q a b H',Same H H'->H' q=some (.tup [.ref a,.ref b])->H' a=some (.lst (List.map V.str (dueB os ts one other)))->H' b=some (.lst (List.map V.str (dueF os ts one other)))->H a=none->H b=none->a≠b->Q (.ref q) H'
theorem scStretch:FnScope ["web","order","one","other","places","reached","reaching","between","back","forward"] ["web","order","one","other"] (defScope sStretch):=⟨rfl,rfl,rfl,by decide +kernel,rfl,by decide +kernel,by decide +kernel⟩
theorem ok_stretch {f:Addr}{fd:FuncData}(F:Fun K "stretch" "stretch" sStretch f fd) (B:Blt mg) (cplaces_of:Cal P w K mg base 1 "places_of" ["things"] spPlaces) (cbehinds:Cal P w K mg base 4 "behinds" ["web", "one"] (spBehinds false)) (caheads:Cal P w K mg base 4 "aheads" ["web", "one"] (spBehinds true)):FnOk P w K mg base CX0 5 f fd ["web", "order", "one", "other"] spStretch := by
 refine F.ok scStretch (fun vs H Q E h=>?_) (fun cdv A outer s H vs Q E hr h=>?_)
 ·obtain⟨wq,lo,ss,ts,os,one,other,rfl,_⟩:=h
  rfl
 ·obtain⟨wq, lo, ss, ts, os, one, other, rfl, W, h1, h2, nr, k⟩ := h
  have nd:=scStretch.nd
  have osl:=W.pm.length_eq
  have h60:=W.web.len
  have ond:os.Nodup:=W.pm.nodup_iff.mpr W.web.nd
  have m1:one∈os:=W.pm.mem_iff.mpr h1
  have m2:other∈os:=W.pm.mem_iff.mpr h2
  have i1:=aR m1
  have i2:=aR m2
  refine⟨_,(pss_cons (ps_set (i:=4) nd rfl (Or.inl rfl) (pe_cal cplaces_of (hr.mono (by decide)) rfl (pa_cons (pv 1) pa_nil)))
   (pss_cons (ps_if (pt_cmpR op_ltX (pe_ix (ix_X K hr.units) (pv 4) (pv 2) (fun _ _=>rfl)) (pe_ix (ix_X K hr.units) (pv 4) (pv 3) (fun _ _=>rfl)) (nomark _)) (pss_one (ps_ret (pe_tup (pa_cons (pe_lst pa_nil) (pa_cons (pe_lst pa_nil) pa_nil))))) pss_nil)
   (pss_cons (ps_set (i:=5) nd rfl (Or.inr rfl) (pe_cal cplaces_of (hr.mono (by decide)) rfl (pa_cons (pe_cal cbehinds (hr.mono (by decide)) rfl (pa_cons (pv 0) (pa_cons (pv 3) pa_nil))) pa_nil)))
   (pss_cons (ps_if (pt_cmpR (op_inX K hr.units) (pv 2) (pv 5) (by with_unfolding_all rfl)) (pss_one ps_never) pss_nil)
   (pss_cons (ps_set (i:=6) nd rfl (Or.inr rfl) (pe_cal cplaces_of (hr.mono (by decide)) rfl (pa_cons (pe_cal caheads (hr.mono (by decide)) rfl (pa_cons (pv 0) (pa_cons (pv 2) pa_nil))) pa_nil)))
   (pss_cons (ps_set (i:=7) nd rfl (Or.inl rfl) (pe_slice (sl_K K) (pv 1) (po_some (pe_ix (ix_X K hr.units) (pv 4) (pv 3) (fun _ _=>rfl))) (po_some (pe_op op_addX (pe_ix (ix_X K hr.units) (pv 4) (pv 2) (fun _ _=>rfl)) pe_int))))
   (pss_cons (ps_setC (i:=8) nd rfl rfl (by rfl) (defScope sStretch) ["web","order","one","other","places","reached","reaching","between","back","forward"] ["thing"] [6] ["thing","reaching"] rfl (pi_listK K (pv 7)) (fun _ _ _ _ _=>(pg_name (i:=0) (show (["thing","reaching"]:List Str).Nodup by decide) rfl (Or.inl rfl))) (fun _ _ _ _ _=>(pts_one (pt_cmpR (op_inX K hr.units) (pv 0) (pv 1) (by with_unfolding_all rfl)))) (fun _ _ _ _ _=>(pv 0)))
   (pss_cons (ps_setC (i:=9) nd rfl rfl (by rfl) (defScope sStretch) ["web","order","one","other","places","reached","reaching","between","back","forward"] ["thing"] [5] ["thing","reached"] rfl (pi_listK K (pv 7)) (fun _ _ _ _ _=>(pg_name (i:=0) (show (["thing","reached"]:List Str).Nodup by decide) rfl (Or.inl rfl))) (fun _ _ _ _ _=>(pts_one (pt_cmpR (op_inX K hr.units) (pv 0) (pv 1) (by with_unfolding_all rfl)))) (fun _ _ _ _ _=>(pv 0)))
   (pss_one (ps_ret (pe_tup (pa_cons (pv 8) (pa_cons (pv 9) pa_nil))))))))))))),?_⟩
  refine⟨_,rfl,lo,os,rfl,W.ord,by omega,fun d kvs H1 s1 hd0 hd hin hix=>?_⟩
  have g1:=pl_at ond hin hix m1
  have g2:=pl_at ond hin hix m2
  refine⟨_,rfl,_,rfl,.dic (.inl ⟨_,.inr one,.inl hd,rfl,g1.symm⟩) ⟨_,rfl,_,rfl,.dic (.inl ⟨_,.inr other,.inl hd,rfl,g2.symm⟩) (.int ⟨_,rfl,?_⟩)⟩⟩
  refine ite2 (fun hlt=>?_) (fun hge=>?_)
  ·have hlt:((os.idxOf one:Nat):Int)<((os.idxOf other:Nat):Int):=az hlt
   have hlt:os.idxOf one<os.idxOf other:=by omega
   refine⟨(by show 0<=sizeLine;decide),fun la hla=>⟨(by show 0<=sizeLine;decide),fun lb hlb=>⟨(by show 2<=sizeLine;decide),fun q hq=>?_⟩⟩⟩
   have s2:=Same.new (o:=.lst []) hla
   have s3:=Same.new (o:=.lst []) hlb
   have s4:=Same.new (o:=.tup [V.ref la,V.ref lb]) hq
   have ea:upd H1 la (.lst []) la=some (.lst []):=upd_same
   refine k q la lb _ (s1.trans (s2.trans (s3.trans s4))) upd_same ?_ ?_ (same_free s1 hla) (same_free (s1.trans s2) hlb) (ne_of_none ea hlb)
   ·unfold dueB;rw[if_pos hlt];exact(s3.trans s4) _ _ ea
   ·unfold dueF;rw[if_pos hlt];exact s4 _ _ upd_same
  ·have hge:¬ os.idxOf one<os.idxOf other := fun z => hge (ao (by show ((os.idxOf one:Nat):Int)<((os.idxOf other:Nat):Int); omega))
   have nrch:¬ MG.Rch (Tie ts) other one:=fun z=>nr ⟨hge,z⟩
   refine⟨_,rfl,_,rfl,.ref wq,ss,ts,other,rfl,W.web.same s1,h2,fun l2 H2 gr s2 hl20 hgr hl2=>?_⟩
   have fl:=aK gr ss
   refine⟨l2,ss.filter gr,rfl,hl2,by omega,fun dr kr H3 s3 hdr0 hdr rin rix=>?_⟩
   refine⟨_,rfl,_,rfl,.dic (DGet.k (k:=.inr one) hdr) ⟨_,rfl,?_⟩⟩
   have no1:(valV kr (.inr one)).isSome=false:=by
    rw[Bool.eq_false_iff]
    intro z
    exact nrch ((hgr one).mp (am.mp ((rin one).mp z)).2)
   rw[no1]
   refine iteF ?_
   have s13:=(s1.trans s2).trans s3
   refine⟨_,rfl,_,rfl,.ref wq,ss,ts,one,rfl,W.web.same s13,h1,fun l4 H4 gb s4 hl40 hgb hl4=>?_⟩
   have fl2:=aK gb ss
   refine⟨l4,ss.filter gb,rfl,hl4,by omega,fun db kb H5 s5 hdb0 hdb bin bix=>?_⟩
   have s15:=(s13.trans s4).trans s5
   have hd5:=((s2.trans s3).trans (s4.trans s5)) _ _ hd
   have W5:=W.same s15
   refine⟨_,rfl,_,rfl,_,rfl,.dic (.inl ⟨_,.inr other,.inl hd5,rfl,g2.symm⟩) ⟨_,rfl,_,rfl,_,rfl,.dic (.inl ⟨_,.inr one,.inl hd5,rfl,g1.symm⟩) (.int ⟨_,rfl,.lst (.of W5.ord) fun ls hls=>?_⟩)⟩⟩
   obtain⟨bt,hbt⟩:∃bt,bt=(os.take (os.idxOf one+1)).drop (os.idxOf other):=⟨_,rfl⟩
   have ecut:cutV (List.map V.str os) (some ((os.idxOf other:Nat):Int)) (some (((os.idxOf one:Nat):Int)+1))=List.map V.str bt:=by
    rw[show ((os.idxOf one:Nat):Int)+1=((os.idxOf one+1:Nat):Int) by omega,cutV_mid _ _ _ (by rw[aa];omega),hbt,List.map_drop,List.map_take]
   rw[ecut]
   have s6:=Same.new (o:=.lst (List.map V.str bt)) hls
   have hls6:upd H5 ls (.lst (List.map V.str bt)) ls=some (.lst (List.map V.str bt)):=upd_same
   generalize upd H5 ls (.lst (List.map V.str bt))=H6 at s6 hls6 ⊢
   have btl:bt.length<=60:=by rw[hbt,bv,av];omega
   have bts:∀z∈bt,z∈ss:=fun z hz=>W.pm.mem_iff.mp (bO (bQ (by rw[<- hbt];exact hz)))
   have hdb6:=s6 _ _ hdb
   have hdr6:=((s4.trans s5).trans s6) _ _ hdr
   refine⟨_,rfl,ls,rfl,⟨_,.of hls6⟩,?_⟩
   refine comp_list (List.map V.str bt) (fun D i acc σ' H'=>∃o,σ'=[o,some (.ref db)]/\acc=List.map V.str ((bt.take i).filter fun z=>(valV kb (.inr z)).isSome)/\Same H6 H'/\H6 D=none) fun A1 hA1=>⟨?_,?_,?_,?_⟩
   ·exact⟨none,rfl,rfl,Same.new hA1,hA1⟩
   ·rintro i acc σ' H' _ ⟨o,rfl,_,sm,_⟩ _
    exact .of (sm _ _ hls6)
   ·rintro i acc σ' H' x hx ⟨o,rfl,rfl,sm,hD0⟩ hacc
    obtain⟨z,hz,rfl⟩:=str_get' hx
    have hil:=(af.mp hz).1
    have fl:=aK (fun z=>(valV kb (.inr z)).isSome) (bt.take i)
    rw[av] at fl
    refine⟨_,rfl,_,rfl,.dic (DGet.k (k:=.inr z) (sm _ _ hdb6)) ⟨_,rfl,?_⟩⟩
    refine ite2 (fun h=>?_) (fun h=>?_)
    ·have h:(valV kb (.inr z)).isSome=true:=h
     exact⟨_,rfl,hacc,by rw[aa];exact small1000 (by omega),_,rfl,by rw[filt_step _ _ _ _ hz,if_pos h,ah];rfl,same_at sm hD0,hD0⟩
    ·have h:¬ (valV kb (.inr z)).isSome=true:=h
     exact⟨hacc,_,rfl,by rw[filt_step _ _ _ _ hz,if_neg h,ba],sm,hD0⟩
   rintro acc σ' H7 ⟨o,rfl,rfl,sH7,hA10⟩ haccA1
   rw[aa,aw (ae _)] at haccA1
   have hls7:=sH7 _ _ hls6
   have hdr7:=sH7 _ _ hdr6
   refine⟨_,rfl,ls,rfl,⟨_,.of hls7⟩,?_⟩
   refine comp_list (List.map V.str bt) (fun D i acc σ' H'=>∃o,σ'=[o,some (.ref dr)]/\acc=List.map V.str ((bt.take i).filter fun z=>(valV kr (.inr z)).isSome)/\Same H7 H'/\H7 D=none) fun A2 hA2=>⟨?_,?_,?_,?_⟩
   ·exact⟨none,rfl,rfl,Same.new hA2,hA2⟩
   ·rintro i acc σ' H' _ ⟨o,rfl,_,sm,_⟩ _
    exact .of (sm _ _ hls7)
   ·rintro i acc σ' H' x hx ⟨o,rfl,rfl,sm,hD0⟩ hacc
    obtain⟨z,hz,rfl⟩:=str_get' hx
    have hil:=(af.mp hz).1
    have fl:=aK (fun z=>(valV kr (.inr z)).isSome) (bt.take i)
    rw[av] at fl
    refine⟨_,rfl,_,rfl,.dic (DGet.k (k:=.inr z) (sm _ _ hdr7)) ⟨_,rfl,?_⟩⟩
    refine ite2 (fun h=>?_) (fun h=>?_)
    ·have h:(valV kr (.inr z)).isSome=true:=h
     exact⟨_,rfl,hacc,by rw[aa];exact small1000 (by omega),_,rfl,by rw[filt_step _ _ _ _ hz,if_pos h,ah];rfl,same_at sm hD0,hD0⟩
    ·have h:¬ (valV kr (.inr z)).isSome=true:=h
     exact⟨hacc,_,rfl,by rw[filt_step _ _ _ _ hz,if_neg h,ba],sm,hD0⟩
   rintro acc σ' H8 ⟨o,rfl,rfl,sH8,hA20⟩ haccA2
   rw[aa,aw (ae _)] at haccA2
   refine⟨_,rfl,_,rfl,(by show 2<=sizeLine;decide),fun q hqn=>?_⟩
   have s9:=Same.new (o:=.tup [V.ref A1,V.ref A2]) hqn
   have s16:=s15.trans s6
   refine k q A1 A2 _ ((s16.trans sH7).trans (sH8.trans s9)) upd_same ?_ ?_ (same_free s16 hA10) (same_free (s16.trans sH7) hA20) (ne_of_none haccA1 hA20)
   ·have e:dueB os ts one other=bt.filter fun z=>(valV kb (.inr z)).isSome:=by
       unfold dueB
       rw[if_neg hge,<- hbt]
       refine cv fun z hz=>?_
       rw[aO,rB_iff,bin,am,hgb]
       exact⟨fun h=>⟨bts z hz,h⟩,fun h=>h.2⟩
    rw[e]
    exact(sH8.trans s9) _ _ haccA1
   ·have e:dueF os ts one other=bt.filter fun z=>(valV kr (.inr z)).isSome:=by
       unfold dueF
       rw[if_neg hge,<- hbt]
       refine cv fun z hz=>?_
       rw[aO,rB_iff,rin,am,hgr]
       exact⟨fun h=>⟨bts z hz,h⟩,fun h=>h.2⟩
    rw[e]
    exact s9 _ _ haccA2
def natV (xs:List Nat):List V:=xs.map fun x:Nat=>V.int (x:Int)
theorem setAll_snoc (r:List Str) (ps:List (Nat × Str)) (p:Nat × Str):setAll r (ps++[p])=(setAll r ps).set p.1 p.2:=by
 unfold setAll;rw[List.foldl_append];rfl
theorem ixN_at {n j:Nat}(h:j<n):ixN n (j:Int)=some j:=by
 unfold ixN
 rw[if_pos (by omega),if_pos (by omega),bT]
theorem rch_trans {ts:List (Str × Str)}{a b c:Str}(h:MG.Rch (Tie ts) a b) (g:MG.Rch (Tie ts) b c):MG.Rch (Tie ts) a c:=MG.Rch.closed (S:=fun z=>MG.Rch (Tie ts) a z) h (fun y z hy r=>hy.step r) g
theorem rch_flip {ts:List (Str × Str)}{a b:Str}(h:MG.Rch (Tie (flipE ts)) a b):MG.Rch (Tie ts) b a:=MG.Rch.closed (S:=fun z=>MG.Rch (Tie ts) z a) MG.Rch.refl (fun y z hy r=>rch_trans (MG.Rch.refl.step (mem_flip.mp r)) hy) h
theorem dueB_sub {os:List Str}{ts:List (Str × Str)}{one other:Str}:∀x∈dueB os ts one other,x∈os:=fun x hx=>by
 unfold dueB at hx
 split at hx
 ·cases hx
 ·exact bO (bQ (am.mp hx).1)
theorem dueF_sub {os:List Str}{ts:List (Str × Str)}{one other:Str}:∀x∈dueF os ts one other,x∈os:=fun x hx=>by
 unfold dueF at hx
 split at hx
 ·cases hx
 ·exact bO (bQ (am.mp hx).1)
theorem due_nd {os:List Str}{ts:List (Str × Str)}{one other:Str}(ond:os.Nodup) (nr:¬ isRing os ts one other):(dueB os ts one other++dueF os ts one other).Nodup:=by
 unfold dueB dueF
 split
 ·exact bw
 ·rename_i hge
  have bnd:((os.take (os.idxOf one+1)).drop (os.idxOf other)).Nodup:=(ond.sublist (bF _ _)).sublist (bP _ _)
  rw[bn]
  refine⟨bnd.sublist bp,bnd.sublist bp,fun x hx y hy=>?_⟩
  rintro rfl
  have h1:=rB_iff.mp (am.mp hx).2
  have h2:=rB_iff.mp (am.mp hy).2
  exact nr ⟨hge,rch_trans h2 (rch_flip h1)⟩
theorem due_all {os:List Str}{ts:List (Str × Str)}{one other:Str}:∀x∈dueB os ts one other++dueF os ts one other,x∈os:=fun x hx=>by
 rcases aq.mp hx with h | h
 ·exact dueB_sub x h
 ·exact dueF_sub x h
def mvD (m:Str × Nat × Nat):PyData:=.tuple [.str m.1,.int (m.2.1:Nat),.int (m.2.2:Nat)]
theorem mv_rep {H:Hp}{a:Addr}{s:Str}{k n:Nat}(h:H a=some (.tup [.str s,.int (k:Int),.int (n:Int)])):Rep H (.ref a) (mvD (s,k,n)):=.tup h (.cons (.str _) (.cons (.int _) (.cons (.int _) .nil)))
theorem mv_at {H:Hp}{v:V}{m:Str × Nat × Nat}(h:Rep H v (mvD m)):∃a,v=.ref a/\H a=some (.tup [.str m.1,.int (m.2.1:Nat),.int (m.2.2:Nat)]):=by
 cases h with
 | tup e r =>
  obtain⟨y1,r1,rfl,a1,r⟩:=RepAll.consI r
  obtain⟨y2,r2,rfl,a2,r⟩:=RepAll.consI r
  obtain⟨y3,r3,rfl,a3,r⟩:=RepAll.consI r
  rw[RepAll.nilI r] at e
  cases a1
  cases a2
  cases a3
  exact⟨_,rfl,e⟩
theorem mvBut {H H':Hp}{p:Addr}{ys:List V}(hp:H p=some (.lst ys)) (b:But p H H'):∀ {es:List (Str × Nat × Nat)}{xs:List V},RepAll H xs (es.map mvD)->RepAll H' xs (es.map mvD)
 | [],xs,h=>by rw[RepAll.nilI h];exact .nil
 | e::es,xs,h=>by
  obtain⟨y,ys',rfl,a,c⟩:=RepAll.consI h
  obtain⟨q,rfl,hq⟩:=mv_at a
  exact .cons (mv_rep (b q _ (ne_of hq hp (by intro z;cases z)) hq)) (mvBut hp b c)
def spMovesOf:Sp:=fun vs H Q _=>∃(wq lo:Addr) (ss:List Str) (ts:List (Str × Str)) (os:List Str) (one other:Str),vs=[.ref wq,.ref lo,.str one,.str other]/\WebO H (.ref wq) ss ts lo os/\one∈ss/\other∈ss/\¬ isRing os ts one other /\
 ∀l refs H',Same H H'->H l=none->H' l=some (.lst refs)->RepAll H' refs ((mvs os (dueB os ts one other++dueF os ts one other)).map mvD)->Q (.ref l) H'
theorem scMovesOf:FnScope ["web","order","one","other","sorts","row","places","olds","news"] ["web","order","one","other"] (defScope sMovesOf):=⟨rfl,rfl,rfl,by decide +kernel,rfl,by decide +kernel,by decide +kernel⟩
theorem ok_moves_of {f:Addr}{fd:FuncData}(F:Fun K "moves_of" "moves_of" sMovesOf f fd) (B:Blt mg) (Z:mg "sorted"=none) (Zz:mg "zip"=none) (cstretch:Cal P w K mg base 5 "stretch" ["web", "order", "one", "other"] spStretch) (cplaces_of:Cal P w K mg base 1 "places_of" ["things"] spPlaces):FnOk P w K mg base CX0 6 f fd ["web", "order", "one", "other"] spMovesOf := by
 refine F.ok scMovesOf (fun vs H Q E h=>?_) (fun cdv A outer s H vs Q E hr h=>?_)
 ·obtain⟨wq,lo,ss,ts,os,one,other,rfl,_⟩:=h
  rfl
 ·obtain⟨wq,lo,ss,ts,os,one,other,rfl,W,h1,h2,nr,k⟩:=h
  have nd:=scMovesOf.nd
  have osl:=W.pm.length_eq
  have h60:=W.web.len
  have ond:os.Nodup:=W.pm.nodup_iff.mpr W.web.nd
  have and_:=due_nd ond nr
  have sub:=due_all (os:=os) (ts:=ts) (one:=one) (other:=other)
  have al:(dueB os ts one other++dueF os ts one other).length<=os.length:=and_.length_le_of_subset sub
  have al2:=al
  rw[aG] at al2
  refine⟨_,(pss_cons (ps_set (i:=4) nd rfl (Or.inl rfl) (pe_cal cstretch (hr.mono (by decide)) rfl (pa_cons (pv 0) (pa_cons (pv 1) (pa_cons (pv 2) (pa_cons (pv 3) pa_nil))))))
   (pss_cons (ps_set (i:=5) nd rfl (Or.inl rfl) (pe_op op_addX (pe_ix (ix_X K hr.units) (pv 4) pe_int (fun _ _=>rfl)) (pe_ix (ix_X K hr.units) (pv 4) pe_int (fun _ _=>rfl))))
   (pss_cons (ps_set (i:=6) nd rfl (Or.inr rfl) (pe_cal cplaces_of (hr.mono (by decide)) rfl (pa_cons (pv 1) pa_nil)))
   (pss_cons (ps_set (i:=7) nd rfl (Or.inl rfl) (b_sorted K Z (pa_cons (pe_comp (defScope sMovesOf) ["web","order","one","other","sorts","row","places","olds","news"] ["thing"] [6] ["thing","places"] rfl (pi_listK K (pv 5)) (fun _ _ _ _ _=>(pg_name (i:=0) (show (["thing","places"]:List Str).Nodup by decide) rfl (Or.inl rfl))) (fun _ _ _ _ _=>pts_nil) (fun _ _ _ _ _=>(pe_ix (ix_X K hr.units) (pv 1) (pv 0) (fun _ _=>rfl)))) pa_nil)))
   (pss_cons (ps_set (i:=8) nd rfl (Or.inr rfl) (pe_dzipL K rfl hr.units B Zz (pa_cons (pv 5) (pa_cons (pv 7) pa_nil))))
   (pss_one (ps_ret (pe_comp (defScope sMovesOf) ["web","order","one","other","sorts","row","places","olds","news"] ["old"] [1,8] ["old","order","news"] rfl (pi_listK K (pv 7)) (fun _ _ _ _ _=>(pg_name (i:=0) (show (["old","order","news"]:List Str).Nodup by decide) rfl (Or.inl rfl))) (fun _ _ _ _ _=>pts_nil) (fun _ _ _ _ _=>(pe_tup (pa_cons (pe_ix (ix_X K hr.units) (pv 1) (pv 0) (fun _ _=>rfl)) (pa_cons (pv 0) (pa_cons (pe_ix (ix_X K hr.units) (pv 2) (pe_ix (ix_X K hr.units) (pv 1) (pv 0) (fun _ _=>rfl)) (fun _ _=>rfl)) pa_nil))))))))))))),?_⟩
  refine⟨_,rfl,_,rfl,_,rfl,_,rfl,wq,lo,ss,ts,os,one,other,rfl,W,h1,h2,nr,fun q a b H1 s1 hq ha hb fa fb nab=>?_⟩
  refine⟨_,rfl,.tup (.of hq) rfl ⟨_,rfl,.tup (.of hq) rfl (.lst ha hb (by rw[aa,aa];exact aT (small1000 (by omega))) fun lr hlr=>?_)⟩⟩
  rw[<- ah]
  have s2:=Same.new (o:=.lst (List.map V.str (dueB os ts one other++dueF os ts one other))) hlr
  have hlr2:upd H1 lr (.lst (List.map V.str (dueB os ts one other++dueF os ts one other))) lr=some (.lst (List.map V.str (dueB os ts one other++dueF os ts one other))):=upd_same
  generalize upd H1 lr (.lst (List.map V.str (dueB os ts one other++dueF os ts one other)))=H2 at s2 hlr2 ⊢
  generalize dueB os ts one other++dueF os ts one other=C at and_ sub al hlr2 k ⊢
  have s12:=s1.trans s2
  refine⟨_,rfl,lo,os,rfl,s12 _ _ W.ord,by omega,fun d kvs H3 s3 hd0 hd hin hix=>?_⟩
  have hlr3:=s3 _ _ hlr2
  refine⟨_,rfl,lr,rfl,⟨_,.of hlr3⟩,?_⟩
  refine comp_list (List.map V.str C) (fun D i acc σ' H'=>∃o,σ'=[o,some (.ref d)]/\acc=List.map V.int ((C.take i).map fun x=>((os.idxOf x:Nat):Int))/\Same H3 H'/\H3 D=none) fun D hD=>⟨?_,?_,?_,?_⟩
  ·exact⟨none,rfl,rfl,Same.new hD,hD⟩
  ·rintro i acc σ' H' _ ⟨o,rfl,_,sm,_⟩ _
   exact .of (sm _ _ hlr3)
  ·rintro i acc σ' H' x hx ⟨o,rfl,rfl,sm,hD0⟩ hacc
   obtain⟨z,hz,rfl⟩:=str_get' hx
   have hil:=(af.mp hz).1
   refine gYes ?_
   refine⟨_,rfl,_,rfl,.dic (.inl ⟨_,.inr z,.inl (sm _ _ hd),rfl,(pl_at ond hin hix (sub z (aj hz))).symm⟩) ?_⟩
   exact⟨hacc,by rw[aa,aa,av];exact small1000 (by omega),_,rfl,by rw[au,hz,ah,ah];rfl,same_at sm hD0,hD0⟩
  rintro acc σ' H4 ⟨o,rfl,rfl,s4,hD0⟩ hacc
  rw[aa,aw (ae _)] at hacc
  refine⟨D,_,rfl,.of hacc,by rw[aa];omega,fun lo' ns' hlo' hp ho=>?_⟩
  rw[olds_eq ond and_ sub hp ho]
  have en:List.map V.int ((plc os C).map fun k:Nat=>(k:Int))=natV (plc os C):=by unfold natV;rw[aM];rfl
  rw[en]
  have s5:=Same.new (o:=.lst (natV (plc os C))) hlo'
  have hlo5:upd H4 lo' (.lst (natV (plc os C))) lo'=some (.lst (natV (plc os C))):=upd_same
  generalize upd H4 lo' (.lst (natV (plc os C)))=H5 at s5 hlo5 ⊢
  have pl:=plc_len ond and_ sub
  have nl:(natV (plc os C)).length=C.length:=by unfold natV;rw[aa,pl]
  have hlr5:=(s4.trans s5) _ _ hlr3
  refine⟨_,rfl,_,rfl,lr,lo',C,natV (plc os C),rfl,.of hlr5,.of hlo5,nl.symm,by omega,fun dn H6 hdn0 s6 hdn=>?_⟩
  rw[mkK_zip C _ and_] at hdn
  have hlo6:=s6 _ _ hlo5
  have s16:=(s12.trans s3).trans ((s4.trans s5).trans s6)
  have ho6:=s16 _ _ W.ord
  refine⟨_,rfl,lo',rfl,⟨_,.of hlo6⟩,?_⟩
  have plN:∀ {i:Nat} {x:V},(natV (plc os C))[i]? = some x->∃k,(plc os C)[i]? = some k/\V.int ((k:Nat):Int)=x:=fun {i x} h=>by
   unfold natV at h
   rw[aA] at h
   cases z:(plc os C)[i]? with
   | none=>rw[z] at h;cases h
   | some e=>rw[z] at h;exact⟨e,rfl,ai h⟩
  refine comp_list (natV (plc os C)) (fun D i acc σ' H'=>∃o,σ'=[o,some (.ref lo),some (.ref dn)]/\RepAll H' acc (((mvs os C).take i).map mvD)/\Same H6 H'/\H6 D=none) fun D' hD'=>⟨?_,?_,?_,?_⟩
  ·exact⟨none,rfl,.nil,Same.new hD',hD'⟩
  ·rintro i acc σ' H' _ ⟨o,rfl,_,sm,_⟩ _
   exact .of (sm _ _ hlo6)
  ·rintro i acc σ' H' x hx ⟨o,rfl,rpa,sm,hD0'⟩ hacc'
   obtain⟨kk,hk,rfl⟩:=plN hx
   have hil:=(af.mp hk).1
   have hkm:=aj hk
   have hkl:=plc_lt hkm
   obtain⟨n1,n2⟩:=newP_at ond and_ sub hkm
   have hko:atI (List.map V.str os) (kk:Int)=some (.str (os.getD kk "")):=str_at hkl
   have hnv:valV (zipK C (natV (plc os C))) (.inr (os.getD kk ""))=some (.int ((newP os C kk:Nat):Int)):=valV_zip and_ n2 (by unfold natV;rw[aA,n1];rfl)
   have hm:(mvs os C)[i]? = some (os.getD kk "",kk,newP os C kk):=by unfold mvs;rw[aA,hk];rfl
   have alen:=rpa.len
   rw[aa,av] at alen
   refine gYes ?_
   refine⟨_,rfl,_,rfl,.lst (.of (sm _ _ ho6)) hko ⟨_,rfl,_,rfl,_,rfl,_,rfl,.lst (.of (sm _ _ ho6)) hko (.dic (.inl ⟨_,.inr (os.getD kk ""),.inl (sm _ _ hdn),rfl,hnv.symm⟩) ⟨(by show 3<=sizeLine;decide),fun tq htq=>?_⟩)⟩⟩
   have sq:=Same.new (o:=.tup [V.str (os.getD kk ""),V.int (kk:Int),V.int ((newP os C kk:Nat):Int)]) htq
   have hDq:D'≠tq:=ne_of_none hacc' htq
   refine⟨sq _ _ hacc',small1000 (by omega),_,rfl,?_,?_,hD0'⟩
   ·rw[au,hm,ah]
    refine RepAll.append (mvBut (p:=D') (sq _ _ hacc') But.upd (rpa.same sq)) (.cons (mv_rep ?_) .nil)
    rw[upd_ne (Ne.symm hDq)];exact upd_same
   ·intro c o' hc
    rw[upd_ne (ne_of_none hc hD0')]
    exact sq _ _ (sm _ _ hc)
  rintro acc σ' H7 ⟨o,rfl,rpa,s7,hD0'⟩ hacc'
  have ml:(natV (plc os C)).length=(mvs os C).length:=by unfold natV mvs;rw[aa,aa]
  rw[ml,aw (ae _)] at rpa
  exact k D' acc H7 (s16.trans s7) (same_free s16 hD0') hacc' rpa
def spMoved:Sp:=fun vs H Q _=>∃(lo l:Addr) (refs:List V) (os:List Str) (ms:List (Str × Nat × Nat)),vs=[.ref lo,.ref l]/\H lo=some (.lst (List.map V.str os))/\H l=some (.lst refs)/\RepAll H refs (ms.map mvD)/\(∀m∈ms,m.2.2<os.length) /\
 ∀ln H',Same H H'->H ln=none->H' ln=some (.lst (List.map V.str (setAll os (ms.map fun m=>(m.2.2,m.1)))))->Q (.ref ln) H'
theorem scMoved:FnScope ["order","moves","row","move"] ["order","moves"] (defScope sMoved):=⟨rfl,rfl,rfl,by decide +kernel,rfl,by decide +kernel,by decide +kernel⟩
theorem mv_get {H:Hp}{refs:List V}{ms:List (Str × Nat × Nat)}(rp:RepAll H refs (ms.map mvD)) {j:Nat}{x:V}(hx:refs[j]? = some x):∃m ta,ms[j]? = some m/\x=.ref ta/\H ta=some (.tup [.str m.1,.int (m.2.1:Nat),.int (m.2.2:Nat)]):=by
 obtain⟨d,hd,rd⟩:=rp.get hx
 rw[aA] at hd
 cases q:ms[j]? with
 | none=>rw[q] at hd;cases hd
 | some e =>
  rw[q] at hd
  have hd:mvD e=d:=ai hd
  rw[<- hd] at rd
  obtain⟨ta,h1,h2⟩:=mv_at rd
  exact⟨e,ta,rfl,h1,h2⟩
theorem ok_moved {f:Addr}{fd:FuncData}(F:Fun K "moved" "moved" sMoved f fd) (B:Blt mg):FnOk P w K mg base CX0 1 f fd ["order", "moves"] spMoved := by
 refine F.ok scMoved (fun vs H Q E h=>?_) (fun cdv A outer s H vs Q E hr h=>?_)
 ·obtain⟨lo,l,refs,os,ms,rfl,_⟩:=h
  rfl
 ·obtain⟨lo,l,refs,os,ms,rfl,ho,hl,rp,hlt,k⟩:=h
  have nd:=scMoved.nd
  have rl:=rp.len
  rw[aa] at rl
  refine⟨_,(pss_cons (ps_set (i:=2) nd rfl (Or.inl rfl) (b_list K rfl B (pa_cons (pv 0) pa_nil)))
   (pss_cons (ps_for PassesOwn.never rfl (pi_listK K (pv 1)) (pg_name (i:=3) nd rfl (Or.inl rfl)) (pss_one (ps_asg (pe_ix (ix_X K hr.units) (pv 3) pe_int (fun _ _=>rfl)) (pg_sub (pv 2) (pe_ix (ix_X K hr.units) (pv 3) pe_int (fun _ _=>rfl)) (set_X hr.units)))))
   (pss_one (ps_ret (pv 2))))),?_⟩
  refine⟨_,rfl,_,rfl,.seq (.inl (.of ho)) fun lf hlf=>?_⟩
  have nlf:l≠lf:=ne_of_none hl hlf
  refine⟨_,rfl,l,rfl,⟨_,.of (by rw[upd_ne nlf];exact hl)⟩,?_⟩
  refine for_list (xs:=refs) (fun i σ H'=>∃o3,σ=[some (.ref lo),some (.ref l),some (.ref lf),o3]/\H' lf=some (.lst (List.map V.str (setAll os ((ms.take i).map fun m=>(m.2.2,m.1)))))/\Same H H') ?_ ?_ ?_ ?_
  ·exact⟨none,rfl,upd_same,Same.new hlf⟩
  ·rintro i σ H' hi ⟨o3,rfl,_,sm⟩
   exact .of (sm _ _ hl)
  ·rintro i x σ H1 hx ⟨o3,rfl,hf1,s1⟩
   obtain⟨m,ta,hm,rfl,hta⟩:=mv_get (rp.same s1) hx
   refine⟨_,rfl,.tup (.of hta) rfl ⟨_,rfl,_,rfl,.tup (.of hta) rfl (.lst (j:=m.2.2) hf1 (by rw[aa,setAll_len];exact ixN_at (hlt m (aj hm))) ?_)⟩⟩
   refine⟨_,rfl,?_,same_at s1 hlf⟩
   rw[upd_same,au,hm,ah]
   show _=some (HO.lst (List.map V.str (setAll os ((ms.take i).map (fun m=>(m.2.2,m.1))++[(m.2.2,m.1)]))))
   rw[setAll_snoc,List.map_set]
  ·rintro σ H1 ⟨o3,rfl,hf1,s1⟩
   rw[rl,aw (ae _)] at hf1
   exact⟨_,rfl,k lf H1 s1 hlf hf1⟩
def nmP (ss:List Str) (e:Nat × Nat):Str × Str:=(ss.getD e.1 "",ss.getD e.2 "")
theorem mem_getD {ss:List Str}{i:Nat}(h:i<ss.length):ss.getD i ""∈ss:=by
 rw[aD,ar h]
 exact ck h
def numE (es:List (Nat × Nat)) (a b:Nat):Prop:=(a,b)∈es
theorem getD_inj {ss:List Str}(nd:ss.Nodup) (nm:∀s∈ss,Nm s) {a b:Nat}(ha:a<ss.length) (h:ss.getD a ""=ss.getD b ""):a=b:=by
 by_cases hb:b<ss.length
 ·rw[aD,aD,ar ha,ar hb] at h
  exact(List.getElem_inj nd).mp h
 ·have e:ss.getD b ""="":=by rw[aD,cq (by omega)];rfl
  have h2:=(nm _ (mem_getD ha)).1
  rw[h,e] at h2
  exact absurd h2 (by decide)
theorem rch_names {ss:List Str}{es:List (Nat × Nat)}(nd:ss.Nodup) (nm:∀s ∈ ss, Nm s) (val:∀e ∈ es, e.1<ss.length /\ e.2<ss.length) {one i:Nat}(h1:one<ss.length) (hi:i<ss.length) :
    MG.Rch (Tie (es.map (nmP ss))) (ss.getD one "") (ss.getD i "") ↔ MG.Rch (numE es) one i:=by
 constructor
 ·intro r
  obtain⟨y,ey,ry⟩:=MG.Rch.back (R:=numE es) (x:=one) (fun a:Nat=>ss.getD a "") (fun a c h=>by
   obtain⟨e,he,q⟩:=ap.mp h
   have q1:ss.getD e.1 ""=ss.getD a "":=(Prod.mk.inj q).1
   have q2:ss.getD e.2 ""=c:=(Prod.mk.inj q).2
   have:=getD_inj nd nm (val e he).1 q1
   exact⟨e.2,q2.symm,by unfold numE;rw[<- this];exact he⟩) r
  have:=getD_inj nd nm hi ey
  rw[this];exact ry
 ·intro r
  exact MG.Rch.map (fun a:Nat=>ss.getD a "") (fun a b h=>ap.mpr ⟨(a,b),h,rfl⟩) r
def swapE (es:List (Nat × Nat)):List (Nat × Nat):=es.map fun e=>(e.2,e.1)
theorem flip_nm (ss:List Str) (es:List (Nat × Nat)):flipE (es.map (nmP ss))=(swapE es).map (nmP ss):=by
 unfold flipE swapE
 rw[aM,aM];rfl
theorem swap_val {ss:List Str}{es:List (Nat × Nat)}(val:∀e∈es,e.1<ss.length/\e.2<ss.length):∀e∈swapE es,e.1<ss.length/\e.2<ss.length:=fun e he=>by
 obtain⟨f,hf,rfl⟩:=ap.mp he
 exact⟨(val f hf).2,(val f hf).1⟩
def nmA (ss:List Str) (i:Nat):Str:=ss.getD i ""
theorem ss_eq (ss:List Str):ss=(List.range ss.length).map (nmA ss):=by
 apply List.ext_getElem?
 intro i
 rw[aA]
 by_cases hi:i<ss.length
 ·rw[ar hi,List.getElem?_range hi]
  simp[nmA,hi]
 ·rw[cq (by omega),cq (by simpa using hi)]
  rfl
theorem mem_nmP {ss:List Str}{es:List (Nat × Nat)}(nd:ss.Nodup) (nm:∀s∈ss,Nm s) (val:∀e∈es,e.1<ss.length/\e.2<ss.length) {a b:Nat}:(nmA ss a,nmA ss b)∈es.map (nmP ss) ↔ (a,b)∈es:=by
 rw[ap]
 constructor
 ·rintro⟨e,he,q⟩
  have q1:=getD_inj nd nm (val e he).1 (Prod.mk.inj q).1
  have q2:=getD_inj nd nm (val e he).2 (Prod.mk.inj q).2
  rw[<- q1,<- q2];exact he
 ·intro h;exact⟨(a,b),h,rfl⟩
def nxn (n:Nat) (es:List (Nat × Nat)) (a:Nat):List Nat:=(List.range n).filter fun b=>decide ((a,b)∈es)
theorem nxt_num {ss:List Str}{es:List (Nat × Nat)}(nd:ss.Nodup) (nm:∀s∈ss,Nm s) (val:∀e∈es,e.1<ss.length/\e.2<ss.length) (a:Nat):nxtL ss (es.map (nmP ss)) (nmA ss a)=(nxn ss.length es a).map (nmA ss):=by
 unfold nxtL nxn
 have e2:∀g:Str->Bool,ss.filter g=((List.range ss.length).map (nmA ss)).filter g:=fun g=>by rw[<- ss_eq ss]
 rw[e2,List.filter_map]
 congr 1
 refine cv fun i hi=>?_
 show decide ((nmA ss a,nmA ss i)∈es.map (nmP ss))=decide ((a,i)∈es)
 rw[aO,decide_eq_true_iff,decide_eq_true_iff,mem_nmP nd nm val]
theorem head_least {n b:Nat}{q:Nat->Bool}{r:List Nat}(h:(List.range n).filter q=b::r):b<n/\q b=true/\∀c,c<n->q c=true->b<=c:=by
 have hb:b∈(List.range n).filter q:=by rw[h];simp
 obtain⟨h1,h2⟩:=am.mp hb
 refine⟨bo.mp h1,h2,fun c hc hq=>?_⟩
 have hm:c∈(List.range n).filter q:=am.mpr ⟨bo.mpr hc,hq⟩
 have hp:=(cE (n:=n)).filter q
 rw[h] at hm hp
 rcases ax.mp hm with rfl | hm
 ·exact ae _
 ·exact aT ((List.pairwise_cons.mp hp).1 c hm)
theorem walk_names {ss:List Str}{es:List (Nat × Nat)}(nd:ss.Nodup) (nm:∀s ∈ ss, Nm s) (val:∀e ∈ es, e.1<ss.length /\ e.2<ss.length) {one i k:Nat}(hi:i<ss.length) :
    MG.Walk (Tie (es.map (nmP ss))) k (nmA ss one) (nmA ss i) ↔ MG.Walk (MG.Arr es) k one i:=by
 constructor
 ·intro r
  obtain⟨y,ey,ry⟩:=MG.Walk.back (R:=MG.Arr es) (x:=one) (nmA ss) (fun a c h=>by
   obtain⟨e,he,q⟩:=ap.mp h
   have q1:ss.getD e.1 ""=ss.getD a "":=(Prod.mk.inj q).1
   have q2:ss.getD e.2 ""=c:=(Prod.mk.inj q).2
   have:=getD_inj nd nm (val e he).1 q1
   exact⟨e.2,q2.symm,by unfold MG.Arr;rw[<- this];exact he⟩) r
  have:=getD_inj nd nm hi ey
  rw[this];exact ry
 ·intro r
  exact MG.Walk.map (nmA ss) (fun a b h=>ap.mpr ⟨(a,b),h,rfl⟩) r
theorem dst_names {ss:List Str}{es:List (Nat × Nat)}(nd:ss.Nodup) (nm:∀s∈ss,Nm s) (val:∀e∈es,e.1<ss.length/\e.2<ss.length) {goal i k:Nat}(hi:i<ss.length) :
    MG.Dst (Tie (flipE (es.map (nmP ss)))) (nmA ss goal) k (nmA ss i) ↔ MG.To es goal k i:=by
 rw[flip_nm]
 have w:∀k,MG.Walk (Tie ((swapE es).map (nmP ss))) k (nmA ss goal) (nmA ss i) ↔ MG.Walk (MG.Arr (swapE es)) k goal i:=fun k=>walk_names nd nm (swap_val val) hi
 constructor
 ·rintro⟨h1,h2⟩
  exact⟨(w k).mp h1,fun m hm q=>h2 m hm ((w m).mpr q)⟩
 ·rintro⟨h1,h2⟩
  exact⟨(w k).mpr h1,fun m hm q=>h2 m hm ((w m).mp q)⟩
theorem ner_flip {H:Hp}{q:V}{ss:List Str}{ts:List (Str × Str)}(W:Web H q ss ts):Ner ss (nxtL ss (if true then flipE ts else ts))=Tie (flipE ts):=by
 funext a b
 refine propext ⟨fun h=>?_,fun h=>?_⟩
 ·have h3:=az (am.mp h.2).2
  exact h3
 ·have g:=W.inn _ (mem_flip.mp h)
  exact⟨g.2,am.mpr ⟨g.1,ao h⟩⟩
def LeftN (kvs:List (Key × V)) (ss:List Str) (es:List (Nat × Nat)) (goal:Nat):Prop:=∀i v,i<ss.length->(valV kvs (.inr (nmA ss i))=some v ↔ ∃k:Nat,v=.int (k:Int)/\MG.To es goal k i)
def ValE (ss:List Str) (es:List (Nat × Nat)):Prop:=∀e∈es,e.1<ss.length/\e.2<ss.length
def spNearer:Sp:=fun vs H Q _=>∃(q:V) (ss:List Str) (es:List (Nat × Nat)) (dl:Addr) (kvs:List (Key × V)) (goal j a:Nat),vs=[q,.str (nmA ss a),.ref dl]/\Web H q ss (es.map (nmP ss))/\ValE ss es/\H dl=some (.dK kvs)/\LeftN kvs ss es goal/\a<ss.length/\MG.To es goal (j+1) a /\
 ∀b H',MG.Lst es goal j a b->Same H H'->Q (.str (nmA ss b)) H'
theorem scNearer:FnScope ["web","thing","left","nearer"] ["web","thing","left"] (defScope sNearer):=⟨rfl,rfl,rfl,by decide +kernel,rfl,by decide +kernel,by decide +kernel⟩
theorem ok_nearer {f:Addr}{fd:FuncData}(F:Fun K "first_nearer" "first_nearer" sNearer f fd) (B:Blt mg) (cnexts:Cal P w K mg base 2 "nexts" ["web", "one"] (spNexts false)):FnOk P w K mg base CX0 3 f fd ["web", "thing", "left"] spNearer := by
 refine F.ok scNearer (fun vs H Q E h=>?_) (fun cdv A outer s H vs Q E hr h=>?_)
 ·obtain⟨q,ss,es,dl,kvs,goal,j,a,rfl,_⟩:=h
  rfl
 ·obtain⟨q, ss, es, dl, kvs, goal, j, a, rfl, W, val, hdl, left, ha, toa, k⟩ := h
  have nd:=scNearer.nd
  refine⟨_,(pss_cons (ps_setC (i:=3) nd rfl rfl (by rfl) (defScope sNearer) ["web","thing","left","nearer"] ["near"] [2,1] ["near","left","thing"] rfl (pi_listK K (pe_cal cnexts (hr.mono (by decide)) rfl (pa_cons (pv 0) (pa_cons (pv 1) pa_nil)))) (fun _ _ _ _ _=>(pg_name (i:=0) (show (["near","left","thing"]:List Str).Nodup by decide) rfl (Or.inl rfl))) (fun _ _ _ _ _=>(pts_one (PW.pt (pw_and (pt_cmpR (op_inX K hr.units) (pv 0) (pv 1) (by with_unfolding_all rfl)) (pw_and1 (pt_cmpR op_ltX (pe_ix (ix_X K hr.units) (pv 1) (pv 0) (fun _ _=>rfl)) (pe_ix (ix_X K hr.units) (pv 1) (pv 2) (fun _ _=>rfl)) (nomark _))))))) (fun _ _ _ _ _=>(pv 0)))
   (pss_one (ps_ret (pe_ix (ix_X K hr.units) (pv 3) pe_int (fun _ _=>rfl))))),?_⟩
  refine⟨_,rfl,_,rfl,q,ss,_,_,rfl,W,fun l1 H1 s1 hl1 hc1=>⟨l1,rfl,⟨_,.of hc1⟩,?_⟩⟩
  have hc1:H1 l1=some (.lst (List.map V.str ((nxn ss.length es a).map (nmA ss)))):=by rw[<- nxt_num W.nd W.nm val a];exact hc1
  have hfl:(nxn ss.length es a).length<=ss.length:=by
   have:=aK (fun b=>decide ((a,b)∈es)) (List.range ss.length)
   rw[bx] at this
   exact this
  have hlen:=W.len
  refine comp_list (List.map V.str ((nxn ss.length es a).map (nmA ss))) (fun D i acc σ' H'=>∃o,σ'=[o,some (.ref dl),some (.str (nmA ss a))]/\acc=List.map V.str ((((nxn ss.length es a).take i).filter fun b=>decide (valV kvs (.inr (nmA ss b))=some (.int (j:Int)))).map (nmA ss))/\Same H1 H'/\H1 D=none) fun D hD=>⟨?_,?_,?_,?_⟩
  ·exact⟨none,rfl,rfl,Same.new hD,hD⟩
  ·rintro i acc σ' H' _ ⟨o,rfl,_,sm,_⟩ _
   exact .of (sm _ _ hc1)
  ·rintro i acc σ' H' x hx ⟨o, rfl, rfl, sm, hD0⟩ hacc
   rw[aM,aA] at hx
   obtain⟨b,hb,rfl⟩:∃b,(nxn ss.length es a)[i]? = some b/\V.str (nmA ss b)=x:=by
    cases q:(nxn ss.length es a)[i]? with
    | none=>rw[q] at hx;cases hx
    | some e=>rw[q] at hx;exact⟨e,rfl,ai hx⟩
   have hil:=(af.mp hb).1
   obtain⟨hb1,hb2⟩:=am.mp (aj hb)
   have hbn:=bo.mp hb1
   have hbe:=az hb2
   have hd':=sm _ _ (s1 _ _ hdl)
   have hno:¬ valV kvs (.inr (nmA ss b))=some (.int (j:Int))->(((nxn ss.length es a).take (i+1)).filter fun b=>decide (valV kvs (.inr (nmA ss b))=some (.int (j:Int))))=(((nxn ss.length es a).take i).filter fun b=>decide (valV kvs (.inr (nmA ss b))=some (.int (j:Int)))):=fun q=>by
    rw[au,hb,aY]
    simp[q]
   refine⟨_,rfl,_,rfl,.dic (DGet.k (k:=.inr (nmA ss b)) hd') ⟨_,rfl,?_⟩⟩
   refine ite2 (fun h1=>?_) (fun h1=>?_)
   ·obtain⟨v, hv⟩ := bE.mp h1
    obtain⟨k1,rfl,tob⟩:=(left b v hbn).mp hv
    have hav:valV kvs (.inr (nmA ss a))=some (.int ((j+1:Nat):Int)):=(left a _ ha).mpr ⟨j+1,rfl,toa⟩
    have hge:=MG.To.step hbe tob toa
    refine⟨_,rfl,_,rfl,.dic (.inl ⟨kvs,.inr (nmA ss b),.inl hd',rfl,hv.symm⟩) ⟨_,rfl,_,rfl,.dic (.inl ⟨kvs,.inr (nmA ss a),.inl hd',rfl,hav.symm⟩) (.int ⟨_,rfl,?_⟩)⟩⟩
    refine ite2 (fun h2=>?_) (fun h2=>?_)
    ·have h2:(k1:Int)<((j+1:Nat):Int):=az h2
     have:k1=j:=by omega
     subst this
     refine⟨_,rfl,hacc,?_,_,rfl,?_,same_at sm hD0,hD0⟩
     ·rw[aa,aa]
      have h2:=aK (fun b=>decide (valV kvs (.inr (nmA ss b))=some (.int (k1:Int)))) ((nxn ss.length es a).take i)
      rw[av] at h2
      exact small1000 (by omega)
     ·rw[au,hb,aY,ah,ah]
      simp[hv]
    ·have h2:¬ (k1:Int)<((j+1:Nat):Int):=fun q=>h2 (ao q)
     refine⟨hacc,_,rfl,?_,sm,hD0⟩
     rw[hno fun q=>?_]
     rw[hv] at q
     have:=V.int.inj (ai q)
     omega
   ·have h1:¬ (valV kvs (.inr (nmA ss b))).isSome=true:=h1
    refine iteF ⟨hacc,_,rfl,?_,sm,hD0⟩
    rw[hno fun q=>?_]
    rw[q] at h1
    exact h1 rfl
  ·rintro acc σ' H2 ⟨o, rfl, rfl, s2, hD0⟩ hacc
   rw[aa,aa,aw (ae _)] at hacc
   have hf:((nxn ss.length es a).filter fun b=>decide (valV kvs (.inr (nmA ss b))=some (.int (j:Int))))=(List.range ss.length).filter fun b=>decide (valV kvs (.inr (nmA ss b))=some (.int (j:Int)))&&decide ((a,b)∈es):=by
    unfold nxn
    rw[List.filter_filter]
   rw[hf] at hacc
   have hq:∀b,b<ss.length->((decide (valV kvs (.inr (nmA ss b))=some (.int (j:Int)))&&decide ((a,b)∈es))=true ↔ (a,b)∈es/\MG.To es goal j b):=fun b hb=>by
    rw[bd,decide_eq_true_iff,decide_eq_true_iff,left b _ hb]
    constructor
    ·rintro⟨⟨k,h1,h2⟩,h3⟩
     have:(j:Int)=k:=V.int.inj h1
     have:j=k:=by omega
     subst this
     exact⟨h3,h2⟩
    ·rintro⟨h1,h2⟩
     exact⟨⟨j,rfl,h2⟩,h1⟩
   cases hl:(List.range ss.length).filter fun b=>decide (valV kvs (.inr (nmA ss b))=some (.int (j:Int)))&&decide ((a,b)∈es) with
   | nil =>
    obtain⟨c,hc1',hc2⟩:=MG.To.pred toa
    have hcn:=(val _ hc1').2
    have:c∈(List.range ss.length).filter fun b=>decide (valV kvs (.inr (nmA ss b))=some (.int (j:Int)))&&decide ((a,b)∈es):=am.mpr ⟨bo.mpr hcn,(hq c hcn).mpr ⟨hc1',hc2⟩⟩
    rw[hl] at this
    cases this
   | cons b r =>
    obtain⟨g1,g2,g3⟩:=head_least hl
    rw[hl] at hacc
    have g2:=(hq b g1).mp g2
    refine⟨_,rfl,.lst (.of hacc) (atI_nat (j:=0) rfl) (k b H2 ⟨g2.1,g2.2,fun c h1 h2=>g3 c (val _ h1).2 ((hq c (val _ h1).2).mpr ⟨h1,h2⟩)⟩ (s1.trans s2))⟩
def spWay:Sp:=fun vs H Q _=>∃(q:V) (ss:List Str) (es:List (Nat × Nat)) (goal one:Nat),vs=[q,.str (nmA ss one),.str (nmA ss goal)]/\Web H q ss (es.map (nmP ss))/\ValE ss es/\one<ss.length/\goal<ss.length /\
 ((∀k,¬ MG.To es goal k one)->∀H',Same H H'->Q .non H')/\∀l k ws H',MG.To es goal k one->MG.Wy es goal k one ws->Same H H'->H l=none->H' l=some (.lst (List.map V.str (ws.map (nmA ss))))->Q (.ref l) H'
theorem nm_last (ss:List Str) (us:List Nat) (a:Nat):atI (List.map V.str ((us++[a]).map (nmA ss))) (-1)=some (.str (nmA ss a)):=by
 rw[ah,ah]
 exact atI_last _ _
theorem scWay:FnScope ["web","one","other","left","told"] ["web","one","other"] (defScope sWay):=⟨rfl,rfl,rfl,by decide +kernel,rfl,by decide +kernel,by decide +kernel⟩
theorem ok_way {f:Addr}{fd:FuncData}(F:Fun K "way" "way" sWay f fd) (B:Blt mg) (csteps_from:Cal P w K mg base 1 "steps_from" ["table", "starts"] spStepsL) (cpriors_of_all:Cal P w K mg base 3 "priors_of_all" ["web"] (spNextsAll true)) (cfirst_nearer:Cal P w K mg base 3 "first_nearer" ["web", "thing", "left"] spNearer):FnOk P w K mg base CX0 4 f fd ["web", "one", "other"] spWay := by
 refine F.ok scWay (fun vs H Q E h=>?_) (fun cdv A outer s H vs Q E hr h=>?_)
 ·obtain⟨q,ss,es,goal,one,rfl,_⟩:=h
  rfl
 ·obtain⟨q, ss, es, goal, one, rfl, W, val, hone, hg, k0, k⟩ := h
  have nd:=scWay.nd
  refine⟨_,(pss_cons (ps_set (i:=3) nd rfl (Or.inl rfl) (pe_cal csteps_from (hr.mono (by decide)) rfl (pa_cons (pe_cal cpriors_of_all (hr.mono (by decide)) rfl (pa_cons (pv 0) pa_nil)) (pa_cons (pe_lst (pa_cons (pv 2) pa_nil)) pa_nil))))
   (pss_cons (ps_if (pt_cmpR (op_notInX K hr.units) (pv 1) (pv 3) (by with_unfolding_all rfl)) (pss_one (ps_ret pe_non)) pss_nil)
   (pss_cons (ps_set (i:=4) nd rfl (Or.inl rfl) (pe_lst (pa_cons (pv 1) pa_nil)))
   (pss_cons (ps_while PassesOwn.never (pt_cmpR (op_neX hr.units) (pe_ix (ix_X K hr.units) (pv 4) (pe_un un_neg pe_int) (fun _ _=>rfl)) (pv 2) (nomark _)) (pss_one (ps_expr (m_append K (pv 4) (pa_cons (pe_cal cfirst_nearer (hr.mono (by decide)) rfl (pa_cons (pv 0) (pa_cons (pe_ix (ix_X K hr.units) (pv 4) (pe_un un_neg pe_int) (fun _ _=>rfl)) (pa_cons (pv 3) pa_nil)))) pa_nil)))))
   (pss_one (ps_ret (pv 4))))))),?_⟩
  refine⟨_,rfl,q,ss,_,rfl,W,fun dt H0 s0 hdt T=>⟨_,rfl,(by show 1<=sizeLine;decide),fun ls hls=>⟨dt,ls,nmA ss goal,ss,_,rfl,upd_same,T.same (Same.new hls),mem_getD hg,W.len,fun t _ u hu=>(am.mp hu).1,fun dl kvs H2 s2 hdl hk hst=>?_⟩⟩⟩
  have s1:=s0.trans (Same.new (o:=.lst [V.str (nmA ss goal)]) hls)
  rw[ner_flip W] at hst
  have left:LeftN kvs ss es goal:=fun i v hi=>by
   rw[hst]
   constructor
   ·rintro⟨k,e,d⟩
    exact⟨k,e,(dst_names W.nd W.nm val hi).mp d⟩
   ·rintro⟨k,e,d⟩
    exact⟨k,e,(dst_names W.nd W.nm val hi).mpr d⟩
  have s12:=s1.trans s2
  refine⟨_,rfl,_,rfl,.dic (DGet.k (k:=.inr (nmA ss one)) hk) ⟨_,rfl,?_⟩⟩
  refine ite2 (fun h1=>?_) (fun h1=>?_)
  ·have h1:(!(valV kvs (.inr (nmA ss one))).isSome)=true:=h1
   refine k0 (fun k tk=>?_) H2 s12
   rw[(left one _ hone).mpr ⟨k,rfl,tk⟩] at h1
   cases h1
  ·have h1:¬ (!(valV kvs (.inr (nmA ss one))).isSome)=true := h1
   obtain⟨k1,to1⟩:∃k1,MG.To es goal k1 one:=by
    cases q:valV kvs (.inr (nmA ss one)) with
    | none=>rw[q] at h1;exact(h1 rfl).elim
    | some v =>
     obtain⟨k1,_,t⟩:=(left one v hone).mp q
     exact⟨k1,t⟩
   refine⟨_,rfl,(by show 1<=sizeLine;decide),fun l hl=>?_⟩
   have hl0:=same_free s12 hl
   refine⟨fun m σ H'=>∃us a,σ=[some q,some (.str (nmA ss one)),some (.str (nmA ss goal)),some (.ref dl),some (.ref l)]/\Same H2 H'/\H' l=some (.lst (List.map V.str ((us++[a]).map (nmA ss))))/\MG.Pre es goal k1 one m a (us++[a]),⟨k1,[],one,rfl,Same.new hl,upd_same,MG.Pre.start to1⟩,?_⟩
   rintro m σ H3 ⟨us,a,rfl,s3,e3,pre⟩
   have toa:=pre.1
   have ha:=MG.To.inn val hg toa
   refine⟨_,rfl,_,rfl,.lst (.of e3) (nm_last ss us a) ⟨_,rfl,.sc rfl ⟨_,rfl,?_⟩⟩⟩
   refine ite2 (fun h2=>?_) (fun h2=>?_)
   ·have h2:(!decide (V.str (nmA ss a)=V.str (nmA ss goal)))=true:=h2
    have hne:a≠goal:=fun q=>by subst q;simp at h2
    obtain⟨j,rfl⟩:∃j,m=j+1:=by
     cases m with
     | zero=>exact absurd (MG.To.zero toa) hne
     | succ j=>exact⟨j,rfl⟩
    refine⟨fun σ' H'=>∃us a,σ'=[some q,some (.str (nmA ss one)),some (.str (nmA ss goal)),some (.ref dl),some (.ref l)]/\Same H2 H'/\H' l=some (.lst (List.map V.str ((us++[a]).map (nmA ss))))/\MG.Pre es goal k1 one j a (us++[a]),fun σ' H' p=>⟨j,by omega,p⟩,?_⟩
    refine⟨_,rfl,.inl ⟨rfl,_,.of e3⟩,?_⟩
    refine⟨_,rfl,_,rfl,_,rfl,.lst (.of e3) (nm_last ss us a) ⟨_,rfl,q,ss,es,dl,kvs,goal,j,a,rfl,(W.same s12).same s3,val,s3 _ _ hk,left,ha,toa,fun b H4 lst s4=>?_⟩⟩
    have pre':=pre.add lst
    have hlen:=pre'.2.2.2
    have hk1:=MG.To.lt val hg to1
    have h60:=W.len
    have e4:=s4 _ _ e3
    refine⟨l,_,_,rfl,rfl,e4,?_,?_⟩
    ·rw[aa,aa]
     rw[aG] at hlen
     exact small1000 (by omega)
    ·refine⟨us++[a],b,rfl,same_at (s3.trans s4) hl,?_,pre'⟩
     rw[upd_same,ah (l₁:=us++[a]),ah (l₁:=(us++[a]).map (nmA ss))];rfl
   ·have h2:¬ (!decide (V.str (nmA ss a)=V.str (nmA ss goal)))=true:=h2
    have he:nmA ss a=nmA ss goal:=by
     refine Classical.byContradiction fun q=>h2 ?_
     have:¬ V.str (nmA ss a)=V.str (nmA ss goal):=fun z=>q (V.str.inj z)
     simp[this]
    have he:=getD_inj W.nd W.nm ha he
    subst he
    have hm:m=0:=MG.Dst.uniq toa MG.To.here
    subst hm
    exact⟨_,rfl,k l k1 _ H3 to1 pre.done (s12.trans s3) hl0 e3⟩
theorem Wy_small {ss:List Str}{es:List (Nat × Nat)}{goal k one:Nat}{ws:List Nat}(val:ValE ss es) (hg:goal<ss.length) (t:MG.To es goal k one) (wy:MG.Wy es goal k one ws):ws.length<=ss.length/\∀x∈ws,x<ss.length:=by
 have h1:=wy.len
 have h2:=MG.To.lt val hg t
 exact⟨by omega,MG.Wy.inn val hg wy⟩
theorem cut_last (xs:List V):cutV xs none (some (-1))=xs.dropLast:=by
 unfold cutV
 have h1:HT.sIx xs.length 0 none=0:=rfl
 have h2:HT.sIx xs.length xs.length (some (-1))=xs.length-1:=by
  show (if (-1:Int)<0 then ((-1:Int)+(xs.length:Int)).toNat else min (-1:Int).toNat xs.length)=xs.length-1
  rw[if_pos (by decide)]
  omega
 rw[h1,h2,List.drop_zero,Nat.sub_zero,List.dropLast_eq_take]
theorem str_dropLast (ss:List Str) (ws:List Nat):(List.map V.str (ws.map (nmA ss))).dropLast=List.map V.str (ws.dropLast.map (nmA ss)):=by
 rw[List.dropLast_eq_take,List.dropLast_eq_take,aa,aa,List.map_take,List.map_take]
def spRingBy:Sp:=fun vs H Q _=>∃(q:V) (ss:List Str) (es:List (Nat × Nat)) (one other:Nat),vs=[q,.str (nmA ss one),.str (nmA ss other)]/\Web H q ss (es.map (nmP ss))/\ValE ss es/\one<ss.length/\other<ss.length /\
 ((∀k,¬ MG.To es one k other)->∀H',Same H H'->Q .non H')/\∀l k ws H',MG.To es one k other->MG.Wy es one k other ws->Same H H'->H l=none->H' l=some (.lst (List.map V.str ((one::ws.dropLast).map (nmA ss))))->Q (.ref l) H'
theorem scRingBy:FnScope ["web","one","other","back"] ["web","one","other"] (defScope sRingBy):=⟨rfl,rfl,rfl,by decide +kernel,rfl,by decide +kernel,by decide +kernel⟩
theorem ok_ring_by {f:Addr}{fd:FuncData}(F:Fun K "ring_by" "ring_by" sRingBy f fd) (B:Blt mg) (cway:Cal P w K mg base 4 "way" ["web", "one", "other"] spWay):FnOk P w K mg base CX0 5 f fd ["web", "one", "other"] spRingBy := by
 refine F.ok scRingBy (fun vs H Q E h=>?_) (fun cdv A outer s H vs Q E hr h=>?_)
 ·obtain⟨q,ss,es,one,other,rfl,_⟩:=h
  rfl
 ·obtain⟨q, ss, es, one, other, rfl, W, val, hone, hoth, k0, k⟩ := h
  have nd:=scRingBy.nd
  refine⟨_,(pss_cons (ps_set (i:=3) nd rfl (Or.inl rfl) (pe_cal cway (hr.mono (by decide)) rfl (pa_cons (pv 0) (pa_cons (pv 2) (pa_cons (pv 1) pa_nil)))))
   (pss_cons (ps_if (pt_cmpR op_isX (pv 3) pe_non (nomark _)) (pss_one (ps_ret pe_non)) pss_nil)
   (pss_one (ps_ret (pe_op op_addX (pe_lst (pa_cons (pv 1) pa_nil)) (pe_slice (sl_K K) (pv 3) po_none (po_some (pe_un un_neg pe_int)))))))),?_⟩
  refine⟨_,rfl,_,rfl,_,rfl,q,ss,es,one,other,rfl,W,val,hoth,hone,fun hno H1 s1=>?_,fun l1 k1 ws H1 to1 wy s1 hl1 hc1=>?_⟩
  ·refine⟨_,rfl,.non ⟨_,rfl,?_⟩⟩
   refine ite2 (fun _=>?_) (fun h=>(h (ao (rfl:V.non=V.non))).elim)
   exact k0 hno H1 s1
  ·obtain⟨hwl, hwn⟩ := Wy_small val hone to1 wy
   have h60:=W.len
   refine⟨_,rfl,.non ⟨_,rfl,?_⟩⟩
   refine ite2 (fun h=>?_) (fun _=>?_)
   ·have h:V.ref l1=V.non:=az h
    cases h
   ·refine⟨_,rfl,(by show 1<=sizeLine;decide),fun l2 hl2=>?_⟩
    have s2:=Same.new (o:=.lst [V.str (nmA ss one)]) hl2
    refine⟨_,rfl,_,rfl,_,rfl,.lst (.of (s2 _ _ hc1)) fun l3 hl3=>?_⟩
    rw[cut_last,str_dropLast]
    have s3:=Same.new (o:=.lst (List.map V.str (ws.dropLast.map (nmA ss)))) hl3
    refine .lst (s3 _ _ upd_same) upd_same ?_ fun l hl=>?_
    ·rw[aa,aa,List.length_dropLast]
     show 1+(ws.length-1)<=sizeLine
     exact aT (small1000 (by omega))
    ·exact k l k1 ws _ to1 wy (s1.trans (s2.trans (s3.trans (Same.new hl)))) (same_free (s1.trans (s2.trans s3)) hl) upd_same
theorem nil_ {σ:St}{H:Hp}{k:List V->Hp->Prop}(h:k [] H):tNil σ H k:=h
def numV (c:List Str) (ps:List (Str × Str)):List (Nat × Nat):=ps.map fun e=>(c.idxOf e.1,c.idxOf e.2)
theorem numV_back {c:List Str}{ps:List (Str × Str)}(h:∀e∈ps,e.1∈c/\e.2∈c):(numV c ps).map (nmP c)=ps:=by
 unfold numV
 rw[aM]
 conv=>rhs;rw[<- List.map_id ps]
 refine List.map_congr_left fun e he=>?_
 show (c.getD (c.idxOf e.1) "",c.getD (c.idxOf e.2) "")=e
 rw[getDIdx (h e he).1,getDIdx (h e he).2]
theorem numV_val {c:List Str}{ps:List (Str × Str)}(h:∀e∈ps,e.1∈c/\e.2∈c):ValE c (numV c ps):=fun e he=>by
 obtain⟨f,hf,rfl⟩:=ap.mp he
 exact⟨aR (h f hf).1,aR (h f hf).2⟩
theorem mem_numV {c:List Str}{ps:List (Str × Str)}(nd:c.Nodup) (h:∀e∈ps,e.1∈c/\e.2∈c) {a b:Nat}(ha:a<c.length) (hb:b<c.length):(a,b)∈numV c ps ↔ (nmA c a,nmA c b)∈ps:=by
 have ia:c.idxOf (nmA c a)=a:=idxAt nd (by unfold nmA;rw[aD,ar ha];rfl)
 have ib:c.idxOf (nmA c b)=b:=idxAt nd (by unfold nmA;rw[aD,ar hb];rfl)
 constructor
 ·intro q
  obtain⟨e,he,z⟩:=ap.mp q
  obtain⟨z1,z2⟩:=Prod.mk.inj z
  have e1:nmA c a=e.1:=by rw[<- z1];exact getDIdx (h e he).1
  have e2:nmA c b=e.2:=by rw[<- z2];exact getDIdx (h e he).2
  rw[e1,e2];exact he
 ·intro q
  exact ap.mpr ⟨_,q,by rw[ia,ib]⟩
abbrev excL:List Str:=["OrderError","NoWeb","Ring"]
abbrev excC:List Str:=["OrderError","Ring"]
theorem scInit:FnScope ["self","ring"] ["self","ring"] (defScope sRingInit):=⟨rfl,rfl,rfl,by decide +kernel,rfl,by decide +kernel,by decide +kernel⟩
theorem ok_init {f:Addr}{fd:FuncData}(F:Fun K "__init__" "Ring.__init__" sRingInit f fd) (B:Blt mg):FnOk P w K mg base CX0 1 f fd ["self","ring"] (spInitL K "ring"):=by
 refine F.ok scInit (fun vs H Q E h=>?_) (fun cdv A outer s H vs Q E hr h=>?_)
 ·obtain⟨e,C,l,xs,rfl,_⟩:=h
  rfl
 ·obtain⟨e,C,l,xs,rfl,he,hl,Z,k⟩:=h
  have nd:=scInit.nd
  refine⟨_,(pss_one (ps_fldX (pv 0) (b_list K rfl B (pa_cons (pv 1) pa_nil)) rfl)),?_⟩
  refine⟨_,rfl,_,rfl,.seq (.inl (.of hl)) fun r hr1=>?_⟩
  refine⟨_,rfl,e,C,rfl,by rw[upd_ne (ne_of_none he hr1)];exact he,Z,fun d hd hde=>?_⟩
  have hrd:r≠d:=fun z=>by rw[<- z,upd_same] at hd;cases hd
  rw[upd_ne (Ne.symm hrd)] at hd
  exact k r d hr1 hd hrd
theorem ring_iff {ss:List Str}{ts:List (Str × Str)}(nd:ss.Nodup) (nm:∀s∈ss,Nm s) (inn:∀e∈ts,e.1∈ss/\e.2∈ss) {one other:Str}(h1:one∈ss) (h2:other∈ss) :
    (∃k,MG.To (numV ss ts) (ss.idxOf one) k (ss.idxOf other)) ↔ MG.Rch (Tie ts) other one:=by
 have i1:=aR h1
 have i2:=aR h2
 have a:=rch_names nd nm (numV_val inn) i2 i1
 rw[numV_back inn,getDIdx h1,getDIdx h2] at a
 rw[a]
 exact MG.rch_to.symm
def spStrX (C:Addr):Sp:=fun vs H _ E=>∃(wq lo:Addr) (ss:List Str) (ts:List (Str × Str)) (os:List Str) (one other:Str),vs=[.ref wq,.ref lo,.str one,.str other]/\WebO H (.ref wq) ss ts lo os/\one∈ss/\other∈ss/\isRing os ts one other /\
 ∀k ws r d H',MG.To (numV ss ts) (ss.idxOf one) k (ss.idxOf other)->MG.Wy (numV ss ts) (ss.idxOf one) k (ss.idxOf other) ws->Same H H'->H r=none->H d=none->H' r=some (.lst (List.map V.str ((ss.idxOf one::ws.dropLast).map (nmA ss))))->H' d=some (.xd [("ring",.ref r)])->E (.ref C) (some d) H'
theorem ok_strX {f:Addr}{fd:FuncData}{C:Addr}(F:Fun K "stretch" "stretch" sStretch f fd) (B:Blt mg) (mRing:MkI P w K mg base 1 "Ring" C ["self", "ring"] (spInitL K "ring")) (Z:XSet K C "ring") (cplaces_of:Cal P w K mg base 1 "places_of" ["things"] spPlaces) (cbehinds:Cal P w K mg base 4 "behinds" ["web", "one"] (spBehinds false)) (cring_by:Cal P w K mg base 5 "ring_by" ["web", "one", "other"] spRingBy):FnOk P w K mg base (CX1 P w) 6 f fd ["web", "order", "one", "other"] (spStrX C) := by
 refine F.okX scStretch (fun vs H Q E h=>?_) (fun cdv A outer s H vs Q E hr h=>?_)
 ·obtain⟨wq,lo,ss,ts,os,one,other,rfl,_⟩:=h
  rfl
 ·obtain⟨wq,lo,ss,ts,os,one,other,rfl,W,h1,h2,⟨hge,hrch⟩,k⟩:=h
  have nd:=scStretch.nd
  have osl:=W.pm.length_eq
  have h60:=W.web.len
  have ond:os.Nodup:=W.pm.nodup_iff.mpr W.web.nd
  have m1:one∈os:=W.pm.mem_iff.mpr h1
  have m2:other∈os:=W.pm.mem_iff.mpr h2
  refine⟨_,(pss_cons (ps_set (i:=4) nd rfl (Or.inl rfl) (pe_cal cplaces_of (hr.mono (by decide)) rfl (pa_cons (pv 1) pa_nil)))
   (pss_cons (ps_if (pt_cmpR op_ltX (pe_ix (ix_X K hr.units) (pv 4) (pv 2) (fun _ _=>rfl)) (pe_ix (ix_X K hr.units) (pv 4) (pv 3) (fun _ _=>rfl)) (nomark _)) (pss_one (ps_ret (pe_tup (pa_cons (pe_lst pa_nil) (pa_cons (pe_lst pa_nil) pa_nil))))) pss_nil)
   (pss_cons (ps_set (i:=5) nd rfl (Or.inr rfl) (pe_cal cplaces_of (hr.mono (by decide)) rfl (pa_cons (pe_cal cbehinds (hr.mono (by decide)) rfl (pa_cons (pv 0) (pa_cons (pv 3) pa_nil))) pa_nil)))
   (pss_cons (ps_if (pt_cmpR (op_inX K hr.units) (pv 2) (pv 5) (by with_unfolding_all rfl)) (pss_one (ps_raiseM mRing (hr.mono (by decide)) rfl (pa_cons (pe_cal cring_by (hr.mono (by decide)) rfl (pa_cons (pv 0) (pa_cons (pv 2) (pa_cons (pv 3) pa_nil)))) pa_nil))) pss_nil)
   pss_never)))),?_⟩
  refine⟨_,rfl,lo,os,rfl,W.ord,by omega,fun d kvs H1 s1 hd0 hd hin hix=>?_⟩
  have g1:=pl_at ond hin hix m1
  have g2:=pl_at ond hin hix m2
  refine⟨_,rfl,_,rfl,.dic (.inl ⟨_,.inr one,.inl hd,rfl,g1.symm⟩) ⟨_,rfl,_,rfl,.dic (.inl ⟨_,.inr other,.inl hd,rfl,g2.symm⟩) (.int ⟨_,rfl,?_⟩)⟩⟩
  refine ite2 (fun hlt=>?_) (fun _=>?_)
  ·have hlt:((os.idxOf one:Nat):Int)<((os.idxOf other:Nat):Int):=az hlt
   exact absurd (by omega) hge
  ·refine⟨_,rfl,_,rfl,.ref wq,ss,ts,other,rfl,W.web.same s1,h2,fun l2 H2 gr s2 hl20 hgr hl2=>?_⟩
   have fl:=aK gr ss
   refine⟨l2,ss.filter gr,rfl,hl2,by omega,fun dr kr H3 s3 hdr0 hdr rin rix=>?_⟩
   refine⟨_,rfl,_,rfl,.dic (DGet.k (k:=.inr one) hdr) ⟨_,rfl,?_⟩⟩
   have yes1:(valV kr (.inr one)).isSome=true:=(rin one).mpr (am.mpr ⟨h1,(hgr one).mpr hrch⟩)
   rw[yes1]
   have s13:=(s1.trans s2).trans s3
   have val:=numV_val (c:=ss) (ps:=ts) W.web.inn
   have W3:Web H3 (.ref wq) ss ((numV ss ts).map (nmP ss)):=by rw[numV_back W.web.inn];exact W.web.same s13
   have e1:nmA ss (ss.idxOf one)=one:=getDIdx h1
   have e2:nmA ss (ss.idxOf other)=other:=getDIdx h2
   obtain⟨k1,to1⟩:=(ring_iff W.web.nd W.web.nm W.web.inn h1 h2).mpr hrch
   refine ite2 (fun _=>?_) (fun h=>absurd rfl h)
   refine⟨_,rfl,_,rfl,_,rfl,.ref wq,ss,numV ss ts,ss.idxOf one,ss.idxOf other,by rw[e1,e2];rfl,W3,val,aR h1,aR h2,fun hno=>absurd to1 (hno k1),fun l4 k4 ws H4 to4 wy4 s4 hl40 hl4=>?_⟩
   refine⟨(by show 1<=sizeLine;decide),fun e1 he1=>?_⟩
   have s14:=s13.trans s4
   exact initL_raise hl4 Z he1 fun r d H5 s5 hr5 hd5 h3 h4=>k k4 ws r d H5 to4 wy4 (s14.trans s5) (same_free s14 hr5) (same_free s14 hd5) h3 h4
theorem ok_movX {f:Addr}{fd:FuncData}{C:Addr}(F:Fun K "moves_of" "moves_of" sMovesOf f fd) (B:Blt mg) (xstretch:CalX P w K mg base 6 "stretch" ["web", "order", "one", "other"] (spStrX C)):FnOk P w K mg base (CX1 P w) 7 f fd ["web", "order", "one", "other"] (spStrX C) := by
 refine F.okX scMovesOf (fun vs H Q E h=>?_) (fun cdv A outer s H vs Q E hr h=>?_)
 ·obtain⟨wq,lo,ss,ts,os,one,other,rfl,_⟩:=h
  rfl
 ·obtain⟨wq,lo,ss,ts,os,one,other,rfl,h⟩:=h
  have nd:=scMovesOf.nd
  refine⟨_,(pss_cons (ps_set (i:=4) nd rfl (Or.inl rfl) (pe_calX xstretch (hr.mono (by decide)) rfl (pa_cons (pv 0) (pa_cons (pv 1) (pa_cons (pv 2) (pa_cons (pv 3) pa_nil))))))
   pss_never),?_⟩
  exact⟨_,rfl,_,rfl,_,rfl,_,rfl,wq,lo,ss,ts,os,one,other,rfl,h⟩
def spPlG:Sp:=fun vs H Q _=>∃(a:Addr) (ks:List Nat),vs=[.ref a]/\H a=some (.lst (natV ks))/\ks.length<=1000/\∀d kvs H',Same H H'->H d=none->H' d=some (.dK kvs)->(kvs.length=ks.length ↔ ks.Nodup)->Q (.ref d) H'
theorem nat_get' {xs:List Nat}{i:Nat}{x:V}(h:(natV xs)[i]? = some x):∃j,xs[i]? = some j/\V.int ((j:Nat):Int)=x:=by
 unfold natV at h
 rw[aA] at h
 cases q:xs[i]? with
 | none=>rw[q] at h;cases h
 | some e=>rw[q] at h;exact⟨e,rfl,ai h⟩
theorem keys_put {kvs:List (Key × V)}{k:Key}{v:V}(nd:(kvs.map (·.1)).Nodup):((putK kvs k v).map (·.1)).Nodup/\∀j,j∈(putK kvs k v).map (·.1) ↔ j∈kvs.map (·.1)∨j=k:=by
 refine⟨?_,fun j=>?_⟩
 ·cases q:valV kvs k with
  | none=>exact nd_putK _ nd q
  | some v=>rw[map_putK (by rw[q];rfl)];exact nd
 ·rw[<- valV_mem,<- valV_mem,valV_put]
  by_cases q:j=k
  ·rw[if_pos q];simp[q]
  ·rw[if_neg q];simp[q]
theorem lenG {kvs:List (Key × V)}{ks:List Nat}(nd:(kvs.map (·.1)).Nodup) (mem:∀k:Key,k∈kvs.map (·.1) ↔ ∃t∈ks,k=Sum.inl ((t:Nat):Int)):kvs.length=ks.length ↔ ks.Nodup:=by
 have e1:(kvs.map (·.1)).length=kvs.length:=aa ..
 have e2:(ks.map fun t:Nat=>(Sum.inl (t:Int):Key)).length=ks.length:=aa ..
 have sub:∀k∈kvs.map (·.1),k∈ks.map fun t:Nat=>(Sum.inl (t:Int):Key):=fun k hk=>by
  obtain⟨t,ht,rfl⟩:=(mem k).mp hk
  exact ap.mpr ⟨t,ht,rfl⟩
 have sup:∀k∈(ks.map fun t:Nat=>(Sum.inl (t:Int):Key)),k∈kvs.map (·.1):=fun k hk=>by
  obtain⟨t,ht,rfl⟩:=ap.mp hk
  exact(mem _).mpr ⟨t,ht,rfl⟩
 constructor
 ·intro h
  have p:=perm_of nd sub (by rw[e1,e2,h];exact ae _)
  have q:=p.nodup_iff.mp nd
  unfold List.Nodup at q
  rw[cn] at q
  exact q.imp fun h z=>h (by rw[z])
 ·intro h
  have q:(ks.map fun t:Nat=>(Sum.inl (t:Int):Key)).Nodup:=map_nd h fun x _ y _ e=>by have:=Sum.inl.inj e;omega
  have a:=nd.length_le_of_subset sub
  have b:=q.length_le_of_subset sup
  omega
theorem ok_plG {f:Addr}{fd:FuncData}(F:Fun K "places_of" "places_of" sPlaces f fd) (B:Blt mg):FnOk P w K mg base CX0 1 f fd ["things"] spPlG := by
 refine F.ok scPlaces (fun vs H Q E h=>?_) (fun cdv A outer s H vs Q E hr h=>?_)
 ·obtain⟨a,ks,rfl,_⟩:=h
  rfl
 ·obtain⟨a, ks, rfl, ha, hl, k⟩ := h
  have nd:=scPlaces.nd
  refine⟨_,(pss_cons (ps_set (i:=1) nd rfl (Or.inl rfl) pe_dnewK)
   (pss_cons (ps_for PassesOwn.never rfl (pi_enumX K rfl B.enumerate (pa_cons (pv 0) pa_nil)) (pg_tupK (n:=2) K rfl (pgs_cons (pg_name (i:=2) nd rfl (Or.inl rfl)) (pgs_cons (pg_name (i:=3) nd rfl (Or.inl rfl)) pgs_nil))) (pss_one (ps_asg (pv 2) (pg_sub (pv 1) (pv 3) (set_X hr.units)))))
   (pss_one (ps_ret (pv 1))))),?_⟩
  intro d hd
  have s0:=Same.new (o:=.dK []) hd
  refine⟨_,rfl,_,rfl,.lst (.of (s0 _ _ ha)) ?_⟩
  refine for_enum (xs:=natV ks) (fun i σ H'=>∃o1 o2 kvs,σ=[some (.ref a),some (.ref d),o1,o2]/\H' d=some (.dK kvs)/\(kvs.map (·.1)).Nodup/\(∀k:Key,k∈kvs.map (·.1) ↔ ∃t∈ks.take i,k=Sum.inl ((t:Nat):Int))/\kvs.length<=i/\Same H H') ?_ ?_ ?_ ?_
  ·exact⟨none,none,[],rfl,upd_same,bw,fun k=>by simp,ae _,s0⟩
  ·rintro i σ H' hi ⟨o1,o2,kvs,rfl,_,_,_,_,sm⟩
   exact .of (sm _ _ ha)
  ·rintro i x σ H' p hx ⟨o1, o2, kvs, rfl, hk, knd, kmem, kl, sm⟩ hp
   obtain⟨t,ht,rfl⟩:=nat_get' hx
   have hil:=(af.mp ht).1
   have hdp:d≠p:=ne_of_none hk hp
   have kp:=keys_put (k:=(Sum.inl ((t:Nat):Int):Key)) (v:=V.int (i:Nat)) knd
   refine⟨p,_,rfl,.of upd_same,rfl,_,_,rfl,_,_,rfl,rfl,?_⟩
   refine⟨_,rfl,_,rfl,_,rfl,.dic (DPut.k (k:=.inl ((t:Nat):Int)) (by rw[upd_ne hdp];exact hk) (small1000 (by omega))) ⟨_,_,_,rfl,upd_same,kp.1,fun j=>?_,?_,?_⟩⟩
   ·rw[kp.2 j, kmem j, au, ht]
    constructor
    ·rintro (⟨u,hu,rfl⟩ | rfl)
     ·exact⟨u,aU _ hu,rfl⟩
     ·exact⟨t,by simp,rfl⟩
    ·rintro⟨u,hu,rfl⟩
     rcases aq.mp hu with hu | hu
     ·exact .inl ⟨u,hu,rfl⟩
     ·have hu:u=t:=by simpa using hu
      rw[hu];exact .inr rfl
   ·have:=length_putK kvs (Sum.inl ((t:Nat):Int):Key) (V.int (i:Nat))
    omega
   ·intro c o hc
    have h1:=sm c o hc
    rw[upd_ne (ne_of_none hc hd),upd_ne (ne_of_none h1 hp)]
    exact h1
  ·rintro σ H' ⟨o1,o2,kvs,rfl,hk,knd,kmem,kl,sm⟩
   have nl:(natV ks).length=ks.length:=aa ..
   rw[nl] at kmem
   rw[aw (ae _)] at kmem
   exact⟨_,rfl,k d kvs H' sm hd hk (lenG knd kmem)⟩
def spUnlG:Sp:=fun vs H Q _=>∃(a:Addr) (ks:List Nat),vs=[.ref a]/\H a=some (.lst (natV ks))/\ks.length<=1000/\∀H',Same H H'->Q (.bl (decide ks.Nodup)) H'
theorem ok_unlG {f:Addr}{fd:FuncData}(F:Fun K "are_unlike" "are_unlike" sUnlike f fd) (B:Blt mg) (cplaces_of:Cal P w K mg base 1 "places_of" ["things"] spPlG):FnOk P w K mg base CX0 2 f fd ["things"] spUnlG := by
 refine F.ok scUnlike (fun vs H Q E h=>?_) (fun cdv A outer s H vs Q E hr h=>?_)
 ·obtain⟨a,ks,rfl,_⟩:=h
  rfl
 ·obtain⟨a,ks,rfl,ha,hl,k⟩:=h
  have nd:=scUnlike.nd
  have nl:(natV ks).length=ks.length:=aa ..
  refine⟨_,(pss_one (ps_ret (pe_cmpR (op_eqX hr.units) (b_lenD B (pa_cons (pe_cal cplaces_of (hr.mono (by decide)) rfl (pa_cons (pv 0) pa_nil)) pa_nil)) (b_len K B (pa_cons (pv 0) pa_nil)) (nomark _)))),?_⟩
  refine⟨_,rfl,a,ks,rfl,ha,hl,fun d kvs H1 s1 hd0 hd hlen=>⟨d,kvs,rfl,hd,_,rfl,_,_,rfl,SqA.len (K:=K) (.inl (s1 _ _ ha)),.sc rfl ?_⟩⟩
  have e:decide (V.int (kvs.length:Nat)=V.int ((natV ks).length:Nat))=decide ks.Nodup:=by
   rw[aO,decide_eq_true_iff,decide_eq_true_iff,<- hlen,nl]
   exact⟨fun z=>Int.ofNat.inj (V.int.inj z),fun z=>by rw[z]⟩
  show Q (.bl (decide (V.int (kvs.length:Nat)=V.int ((natV ks).length:Nat)))) H1
  rw[e]
  exact k H1 s1
def spWhole:Sp:=fun vs H Q _=>∃z,vs=[V.int z]/\Q (.bl true) H
theorem scWhole:FnScope ["thing"] ["thing"] (defScope sIsWhole):=⟨rfl,rfl,rfl,by decide +kernel,rfl,by decide +kernel,by decide +kernel⟩
theorem ok_whole {f:Addr}{fd:FuncData}(F:Fun K "is_whole" "is_whole" sIsWhole f fd) (B:Blt mg):FnOk P w K mg base CX0 1 f fd ["thing"] spWhole:=by
 refine F.ok scWhole (fun vs H Q E h=>?_) (fun cdv A outer s H vs Q E hr h=>?_)
 ·obtain⟨x,rfl,_⟩:=h
  rfl
 ·obtain⟨x,rfl,k⟩:=h
  have nd:=scWhole.nd
  obtain⟨t,ty,_,t2,t3,_⟩:=ty_thg (K:=K) (H:=H) (x:=.int x) (.int x)
  refine⟨_,(pss_one (ps_ret (pe_and (b_isi K "int" B (pa_cons (pv 0) (pa_cons (g_int B) pa_nil))) (pe_one (pe_not (b_isi K "bool" B (pa_cons (pv 0) (pa_cons (g_bool B) pa_nil)))))))),?_⟩
  refine⟨_,rfl,_,t,_,rfl,ty,t2,_,rfl,?_⟩
  refine ite2 (fun h=>?_) (fun h=>absurd rfl h)
  exact⟨_,rfl,_,t,_,rfl,ty,t3,_,rfl,k⟩
def spIsMove:Sp:=fun vs H Q _=>∃(d ta:Addr) (kvs:List (Key × V)) (m:Str × Nat × Nat),vs=[.ref d,.ref ta]/\H d=some (.dK kvs)/\H ta=some (.tup [.str m.1,.int (m.2.1:Nat),.int (m.2.2:Nat)])/\Nm m.1/\valV kvs (.inr m.1)=some (.int (m.2.1:Nat))/\∀H',Same H H'->Q (.bl true) H'
theorem scIsMove:FnScope ["places","move"] ["places","move"] (defScope sIsMove):=⟨rfl,rfl,rfl,by decide +kernel,rfl,by decide +kernel,by decide +kernel⟩
theorem ok_is_move {f:Addr}{fd:FuncData}(F:Fun K "is_move" "is_move" sIsMove f fd) (B:Blt mg) (cis_name:Cal P w K mg base 1 "is_name" ["thing"] spIsName) (cis_whole:Cal P w K mg base 1 "is_whole" ["thing"] spWhole):FnOk P w K mg base CX0 2 f fd ["places", "move"] spIsMove := by
 refine F.ok scIsMove (fun vs H Q E h=>?_) (fun cdv A outer s H vs Q E hr h=>?_)
 ·obtain⟨d,ta,kvs,m,rfl,_⟩:=h
  rfl
 ·obtain⟨d,ta,kvs,m,rfl,hd,hta,nm,hv,k⟩:=h
  have nd:=scIsMove.nd
  obtain⟨tt,ty,_,_,_,_,t5⟩:=ty_thg (K:=K) (Thg.tup hta)
  rw[isT_of hta] at t5
  refine⟨_,(pss_cons (ps_if (PW.pt (pw_or (pt_not (pt_val (b_isi K "tuple" B (pa_cons (pv 1) (pa_cons (g_tuple B) pa_nil))))) (pw_or1 (pt_cmpR (op_neX hr.units) (b_len K B (pa_cons (pv 1) pa_nil)) pe_int (nomark _))))) (pss_one (ps_ret pe_bl)) pss_nil)
   (pss_cons (ps_if (PW.pt (pw_or (pt_not (pt_val (pe_cal cis_name (hr.mono (by decide)) rfl (pa_cons (pe_ix (ix_X K hr.units) (pv 1) pe_int (fun _ _=>rfl)) pa_nil)))) (pw_or (pt_not (pt_val (pe_cal cis_whole (hr.mono (by decide)) rfl (pa_cons (pe_ix (ix_X K hr.units) (pv 1) pe_int (fun _ _=>rfl)) pa_nil)))) (pw_or1 (pt_not (pt_val (pe_cal cis_whole (hr.mono (by decide)) rfl (pa_cons (pe_ix (ix_X K hr.units) (pv 1) pe_int (fun _ _=>rfl)) pa_nil)))))))) (pss_one (ps_ret pe_bl)) pss_nil)
   (pss_one (ps_ret (pe_and (pe_cmpR (op_inX K hr.units) (pe_ix (ix_X K hr.units) (pv 1) pe_int (fun _ _=>rfl)) (pv 0) (by with_unfolding_all rfl)) (pe_one (pe_cmpR (op_eqX hr.units) (pe_ix (ix_X K hr.units) (pv 0) (pe_ix (ix_X K hr.units) (pv 1) pe_int (fun _ _=>rfl)) (fun _ _=>rfl)) (pe_ix (ix_X K hr.units) (pv 1) pe_int (fun _ _=>rfl)) (nomark _)))))))),?_⟩
  refine⟨_,rfl,_,tt,_,rfl,ty,t5,_,rfl,ite2 (fun h=>absurd h (by decide)) (fun _=>?_)⟩
  refine⟨_,rfl,_,_,rfl,SqA.len (K:=K) (.inr hta),.sc rfl ⟨_,rfl,ite2 (fun h=>absurd h (by show ¬ (!decide (V.int 3=V.int 3))=true;decide)) (fun _=>?_)⟩⟩
  refine⟨_,rfl,.tup (.of hta) rfl ⟨_,rfl,.str (nmS nm),fun H1 s1=>?_⟩⟩
  rw[isNm_iff.mpr nm]
  have hta1:=s1 _ _ hta
  refine⟨_,rfl,ite2 (fun h=>absurd h (by decide)) (fun _=>?_)⟩
  refine⟨_,rfl,.tup (.of hta1) rfl ⟨_,rfl,⟨_,rfl,ite2 (fun h=>absurd h (by decide)) (fun _=>?_)⟩⟩⟩
  refine⟨_,rfl,.tup (.of hta1) rfl ⟨_,rfl,⟨_,rfl,ite2 (fun h=>absurd h (by decide)) (fun _=>?_)⟩⟩⟩
  have hd1:=s1 _ _ hd
  refine⟨_,rfl,.tup (.of hta1) rfl ⟨_,rfl,.dic (DGet.k (k:=.inr m.1) hd1) ⟨_,rfl,ite2 (fun _=>?_) (fun h=>absurd (by show (valV kvs (.inr m.1)).isSome=true;rw[hv];rfl) h)⟩⟩⟩
  refine⟨_,rfl,_,rfl,.tup (.of hta1) rfl (.dic (.inl ⟨_,.inr m.1,.inl hd1,rfl,hv.symm⟩) ⟨_,rfl,.tup (.of hta1) rfl (.sc rfl ?_)⟩)⟩
  have e:decide (V.int (m.2.1:Nat)=V.int (m.2.1:Nat))=true:=ao rfl
  show Q (.bl (decide (V.int (m.2.1:Nat)=V.int (m.2.1:Nat)))) H1
  rw[e]
  exact k H1 s1
structure Mvs (os:List Str) (ms:List (Str × Nat × Nat)):Prop where
 at_:∀m∈ms,os[m.2.1]? = some m.1
 nd:(ms.map fun m=>m.2.1).Nodup
 pm:(ms.map fun m=>m.2.2).Perm (ms.map fun m=>m.2.1)
theorem Mvs.lt {os:List Str}{ms:List (Str × Nat × Nat)}(h:Mvs os ms):∀m∈ms,m.2.2<os.length:=fun m hm=>by
 have h1:m.2.2∈ms.map fun m=>m.2.1:=h.pm.mem_iff.mp (ap.mpr ⟨m,hm,rfl⟩)
 obtain⟨n,hn,e⟩:=ap.mp h1
 rw[<- e]
 exact(af.mp (h.at_ n hn)).1
theorem shp_ints (zs:List Int):shp (intsD zs) := by
 have a:∀zs:List Int, PyData.canLayAll0 (zs.map PyData.int)=true /\ PyData.depthAll (zs.map PyData.int)=0 := by
  intro zs
  induction zs with
  | nil=>exact⟨rfl,rfl⟩
  | cons x xs ih =>
   refine⟨?_,?_⟩
   ·show (PyData.canLay0 (.int x)&&PyData.canLayAll0 (xs.map PyData.int))=true
    rw[ih.1];rfl
   ·show max (PyData.depth (.int x)) (PyData.depthAll (xs.map PyData.int))=0
    rw[ih.2];rfl
 show (PyData.canLayAll0 (zs.map PyData.int)&&decide (PyData.depthAll (zs.map PyData.int)+1<=64))=true
 rw[(a zs).1,(a zs).2];rfl
theorem sorted_same {as bs:List Int}(hp:as.Perm bs) (ha:as.Pairwise (·<=·)) (hb:bs.Pairwise (·<=·)):as=bs :=
 List.Perm.eq_of_pairwise (le:=(·<=·)) (fun a b _ _ h1 h2=>Int.le_antisymm h1 h2) ha hb hp
theorem eqv_int (a b:Int):PyData.eqv (.int a) (.int b)=decide (a=b):=by
 show (a==b)=decide (a=b)
 rw[aO,beq_iff_eq,decide_eq_true_iff]
theorem eqv_intsD:∀as bs:List Int,PyData.eqv (intsD as) (intsD bs)=decide (as=bs)
 | [],[]=>rfl
 | [],_::_=>rfl
 | _::_,[]=>rfl
 | a::as,b::bs=>by
  show (PyData.eqv (.int a) (.int b)&&PyData.eqv (intsD as) (intsD bs))=_
  rw[eqv_int,eqv_intsD as bs,aO,bd,decide_eq_true_iff,decide_eq_true_iff,decide_eq_true_iff]
  exact⟨fun ⟨h,g⟩=>by rw[h,g],fun h=>by cases h;exact⟨rfl,rfl⟩⟩
def Frg (os:List Str) (ms:List (Str × Nat × Nat)):Prop:=∀m∈ms,os[m.2.1]? = some m.1/\m.2.2<os.length
open Classical in
def okB (ms:List (Str × Nat × Nat)):Bool:=decide ((ms.map fun m=>m.2.1).Nodup/\(ms.map fun m=>m.2.2).Perm (ms.map fun m=>m.2.1))
def spAreG:Sp:=fun vs H Q _=>∃(lo l:Addr) (refs:List V) (os:List Str) (ms:List (Str × Nat × Nat)),vs=[.ref lo,.ref l]/\H lo=some (.lst (List.map V.str os))/\os.Nodup/\os.length<=60/\(∀s∈os,Nm s)/\H l=some (.lst refs)/\RepAll H refs (ms.map mvD)/\ms.length<=60/\Frg os ms/\∀H',Same H H'->Q (.bl (okB ms)) H'
theorem scAreMoves:FnScope ["order","told","places","olds"] ["order","told"] (defScope sAreMoves):=⟨rfl,rfl,rfl,by decide +kernel,rfl,by decide +kernel,by decide +kernel⟩
theorem ok_areG {f:Addr}{fd:FuncData}(F:Fun K "are_moves" "are_moves" sAreMoves f fd) (B:Blt mg) (Z:mg "sorted"=none) (cplaces_of:Cal P w K mg base 1 "places_of" ["things"] spPlaces) (cis_move:Cal P w K mg base 2 "is_move" ["places", "move"] spIsMove) (care_unlike:Cal P w K mg base 2 "are_unlike" ["things"] spUnlG):FnOk P w K mg base CX0 3 f fd ["order", "told"] spAreG := by
 refine F.ok scAreMoves (fun vs H Q E h=>?_) (fun cdv A outer s H vs Q E hr h=>?_)
 ·obtain⟨lo,l,refs,os,ms,rfl,_⟩:=h
  rfl
 ·obtain⟨lo,l,refs,os,ms,rfl,ho,ond,h60,onm,hl,rp,ml,M,k⟩:=h
  have nd:=scAreMoves.nd
  have rl:=rp.len
  rw[aa] at rl
  refine⟨_,(pss_cons (ps_set (i:=2) nd rfl (Or.inr rfl) (pe_cal cplaces_of (hr.mono (by decide)) rfl (pa_cons (pv 0) pa_nil)))
   (pss_cons (ps_if (PW.pt (pw_or (pt_not (pt_val (b_isi K "list" B (pa_cons (pv 1) (pa_cons (g_list B) pa_nil))))) (pw_or1 (pt_not (pt_val (b_all rfl B (pa_cons (pe_comp (defScope sAreMoves) ["order","told","places","olds"] ["move"] [2] ["move","places"] rfl (pi_listK K (pv 1)) (fun _ _ _ _ _=>(pg_name (i:=0) (show (["move","places"]:List Str).Nodup by decide) rfl (Or.inl rfl))) (fun _ _ _ _ _=>pts_nil) (fun _ _ _ _ _=>(pe_cal cis_move (hr.mono (by decide)) rfl (pa_cons (pv 1) (pa_cons (pv 0) pa_nil))))) pa_nil))))))) (pss_one (ps_ret pe_bl)) pss_nil)
   (pss_cons (ps_setC (i:=3) nd rfl rfl (by rfl) (defScope sAreMoves) ["order","told","places","olds"] ["move"] [] ["move"] rfl (pi_listK K (pv 1)) (fun _ _ _ _ _=>(pg_name (i:=0) (show (["move"]:List Str).Nodup by decide) rfl (Or.inl rfl))) (fun _ _ _ _ _=>pts_nil) (fun _ _ _ _ _=>(pe_ix (ix_X K hr.units) (pv 0) pe_int (fun _ _=>rfl))))
   (pss_one (ps_ret (pe_and (pe_cal care_unlike (hr.mono (by decide)) rfl (pa_cons (pv 3) pa_nil)) (pe_one (pe_cmpR (op_eqX hr.units) (b_sorted K Z (pa_cons (pe_comp (defScope sAreMoves) ["order","told","places","olds"] ["move"] [] ["move"] rfl (pi_listK K (pv 1)) (fun _ _ _ _ _=>(pg_name (i:=0) (show (["move"]:List Str).Nodup by decide) rfl (Or.inl rfl))) (fun _ _ _ _ _=>pts_nil) (fun _ _ _ _ _=>(pe_ix (ix_X K hr.units) (pv 0) pe_int (fun _ _=>rfl)))) pa_nil)) (b_sorted K Z (pa_cons (pv 3) pa_nil)) (nomark _))))))))),?_⟩
  refine⟨_,rfl,lo,os,rfl,ho,by omega,fun d kvs H1 s1 hd0 hd hin hix=>?_⟩
  have hl1:=s1 _ _ hl
  obtain⟨tt,ty,_,_,_,t4,_⟩:=ty_thg (K:=K) (Thg.lst hl1)
  rw[isL_of hl1] at t4
  refine⟨_,rfl,_,tt,_,rfl,ty,t4,_,rfl,ite2 (fun h=>absurd h (by decide)) (fun _=>?_)⟩
  refine⟨_,rfl,l,rfl,⟨_,.of hl1⟩,?_⟩
  refine comp_list refs (fun D i acc σ' H'=>∃o,σ'=[o,some (.ref d)]/\acc=List.map V.bl (List.replicate i true)/\Same H1 H'/\H1 D=none) fun D hD=>⟨?_,?_,?_,?_⟩
  ·exact⟨none,rfl,rfl,Same.new hD,hD⟩
  ·rintro i acc σ' H' _ ⟨o,rfl,_,sm,_⟩ _
   exact .of (sm _ _ hl1)
  ·rintro i acc σ' H' x hx ⟨o,rfl,rfl,sm,hD0⟩ hacc
   have hil:=(af.mp hx).1
   obtain⟨m,ta,hm,rfl,hta⟩:=mv_get ((rp.same s1).same sm) hx
   have hmm:=aj hm
   have hat:=(M m hmm).1
   have hmo:=aj hat
   have hv:valV kvs (.inr m.1)=some (.int (m.2.1:Nat)):=by rw[pl_at ond hin hix hmo,<- idx_of ond hat]
   refine gYes ?_
   refine⟨_,rfl,_,rfl,d,ta,kvs,m,rfl,sm _ _ hd,hta,onm _ hmo,hv,fun H2 s2=>?_⟩
   exact⟨s2 _ _ hacc,by rw[aa,bK];exact small1000 (by omega),_,rfl,by rw[cb,ah];rfl,same_at (sm.trans s2) hD0,hD0⟩
  rintro acc σ' H2 ⟨o,rfl,rfl,s2,hD0⟩ hacc
  refine⟨D,_,rfl,hacc,?_⟩
  have e:(List.replicate refs.length true).all id=true:=by rw[bi];intro x hx;exact(List.mem_replicate.mp hx).2
  rw[e]
  refine⟨_,rfl,ite2 (fun h=>absurd h (by decide)) (fun _=>?_)⟩
  have s12:=s1.trans s2
  have hl2:=s12 _ _ hl
  have rp2:=rp.same s12
  refine⟨_,rfl,l,rfl,⟨_,.of hl2⟩,?_⟩
  refine comp_list refs (fun D i acc σ' H'=>∃o,σ'=[o]/\acc=natV ((ms.take i).map fun m=>m.2.1)/\Same H2 H'/\H2 D=none) fun Do hDo=>⟨?_,?_,?_,?_⟩
  ·exact⟨none,rfl,rfl,Same.new hDo,hDo⟩
  ·rintro i acc σ' H' _ ⟨o,rfl,_,sm,_⟩ _
   exact .of (sm _ _ hl2)
  ·rintro i acc σ' H' x hx ⟨o,rfl,rfl,sm,hD0⟩ hacc
   have hil:=(af.mp hx).1
   obtain⟨m,ta,hm,rfl,hta⟩:=mv_get (rp2.same sm) hx
   refine gYes ?_
   refine⟨_,rfl,.tup (.of hta) rfl ?_⟩
   exact⟨hacc,by unfold natV;rw[aa,aa,av];exact small1000 (by omega),_,rfl,by rw[au,hm,ah];unfold natV;rw[ah];rfl,same_at sm hD0,hD0⟩
  rintro acc σ' H3 ⟨o,rfl,rfl,s3,hDo0⟩ hacco
  rw[rl,aw (ae _)] at hacco
  refine⟨_,rfl,Do,_,rfl,hacco,by rw[aa];omega,fun H4 s4=>⟨_,rfl,ite2 (fun ond1=>?_) (fun hno=>?_)⟩⟩
  rotate_left
  ·have e:okB ms=false:=by unfold okB;exact aI fun z=>hno (ao z.1)
   rw[e] at k
   exact k _ ((s12.trans s3).trans s4)
  have ond1:=az ond1
  have s14:=(s12.trans s3).trans s4
  have hl4:=s14 _ _ hl
  have rp4:=rp.same s14
  refine⟨_,rfl,l,rfl,⟨_,.of hl4⟩,?_⟩
  refine comp_list refs (fun D i acc σ' H'=>∃o,σ'=[o]/\acc=natV ((ms.take i).map fun m=>m.2.2)/\Same H4 H'/\H4 D=none) fun Dn hDn=>⟨?_,?_,?_,?_⟩
  ·exact⟨none,rfl,rfl,Same.new hDn,hDn⟩
  ·rintro i acc σ' H' _ ⟨o,rfl,_,sm,_⟩ _
   exact .of (sm _ _ hl4)
  ·rintro i acc σ' H' x hx ⟨o,rfl,rfl,sm,hD0⟩ hacc
   have hil:=(af.mp hx).1
   obtain⟨m,ta,hm,rfl,hta⟩:=mv_get (rp4.same sm) hx
   refine gYes ?_
   refine⟨_,rfl,.tup (.of hta) rfl ?_⟩
   exact⟨hacc,by unfold natV;rw[aa,aa,av];exact small1000 (by omega),_,rfl,by rw[au,hm,ah];unfold natV;rw[ah];rfl,same_at sm hD0,hD0⟩
  rintro acc σ' H5 ⟨o,rfl,rfl,s5,hDn0⟩ haccn
  rw[rl,aw (ae _)] at haccn
  have toI:∀xs:List Nat,natV xs=List.map V.int (xs.map fun x:Nat=>(x:Int)):=fun xs=>by unfold natV;rw[aM];rfl
  refine⟨Dn,(ms.map fun m=>m.2.2).map fun x:Nat=>(x:Int),rfl,.of (by rw[<- toI];exact haccn),by rw[aa,aa];omega,fun l6 n6 hl6 p6 o6=>?_⟩
  have s6:=Same.new (o:=.lst (List.map V.int n6)) hl6
  have hacco6:=((s4.trans s5).trans s6) _ _ hacco
  refine⟨_,rfl,Do,(ms.map fun m=>m.2.1).map fun x:Nat=>(x:Int),rfl,.of (by rw[<- toI];exact hacco6),by rw[aa,aa];omega,fun l7 n7 hl7 p7 o7=>?_⟩
  have s7:=Same.new (o:=.lst (List.map V.int n7)) hl7
  refine .tr (.lst (s7 _ _ upd_same) (repAll_int n6)) (.lst upd_same (repAll_int n7)) (shp_ints n6) (shp_ints n7) ?_
  have e:decide (n6=n7)=okB ms := by
   unfold okB
   rw[aO,decide_eq_true_iff,decide_eq_true_iff]
   constructor
   ·rintro rfl
    refine⟨ond1,?_⟩
    have pp:=p6.symm.trans p7
    have inj:∀ {as bs:List Nat},(as.map fun x:Nat=>(x:Int)).Perm (bs.map fun x:Nat=>(x:Int))->as.Perm bs:=fun {as bs} h=>by
     have h2:=h.map Int.toNat
     rw[aM,aM] at h2
     have z:∀l:List Nat,l.map (Int.toNat ∘ fun x:Nat=>(x:Int))=l:=fun l=>by
      conv=>rhs;rw[<- List.map_id l]
      exact List.map_congr_left fun x _=>bT x
     rwa [z,z] at h2
    exact inj pp
   ·intro z
    exact sorted_same (p6.trans ((z.2.map _).trans p7.symm)) o6 o7
  show Q (.bl (PyData.eqv (intsD n6) (intsD n7))) _
  rw[eqv_intsD,e]
  exact k _ (((s14.trans s5).trans s6).trans s7)
theorem nd_inj {α β:Type}{f:α -> β}:∀ {l:List α}, (l.map f).Nodup -> ∀ {x y:α}, x ∈ l -> y ∈ l -> f x=f y -> x=y
 | [],_,_,_,h,_,_=>by cases h
 | a::l,nd,x,y,hx,hy,e=>by
  have nd:(f a::l.map f).Nodup:=nd
  obtain⟨n1,n2⟩:=aP.mp nd
  rcases ax.mp hx with h1 | h1 <;> rcases ax.mp hy with h2 | h2
  ·rw[h1,h2]
  ·rw[h1] at e
   exact absurd (e ▸ ap.mpr ⟨y,h2,rfl⟩) n1
  ·rw[h2] at e
   exact absurd (e ▸ ap.mpr ⟨x,h1,rfl⟩) n1
  ·exact nd_inj n2 h1 h2 e
section
variable {os:List Str}{ms:List (Str × Nat × Nat)}
theorem Mvs.knd (M:Mvs os ms):((ms.map fun m=>(m.2.2,m.1)).map (·.1)).Nodup:=by
 rw[aM]
 exact M.pm.nodup_iff.mpr M.nd
theorem Mvs.new (M:Mvs os ms) {m:Str × Nat × Nat}(hm:m∈ms):(setAll os (ms.map fun m=>(m.2.2,m.1)))[m.2.2]? = some m.1 :=
 setAll_in _ _ _ _ M.knd (ap.mpr ⟨m,hm,rfl⟩) (M.lt m hm)
theorem Mvs.out (M:Mvs os ms) {k:Nat}(hk:k∉ms.map fun m=>m.2.1):(setAll os (ms.map fun m=>(m.2.2,m.1)))[k]? = os[k]? :=
 setAll_out _ _ _ fun z=>hk (M.pm.mem_iff.mp (by rw[aM] at z;exact z))
theorem Mvs.at (M:Mvs os ms) (k:Nat):(∃m∈ms,m.2.2=k/\(setAll os (ms.map fun m=>(m.2.2,m.1)))[k]? = some m.1)∨(k∉(ms.map fun m=>m.2.1)/\(setAll os (ms.map fun m=>(m.2.2,m.1)))[k]? = os[k]?):=by
 by_cases h:k∈ms.map fun m=>m.2.1
 ·obtain⟨m,hm,e⟩:=ap.mp (M.pm.mem_iff.mpr h)
  exact .inl ⟨m,hm,e,e ▸ M.new hm⟩
 ·exact .inr ⟨h,M.out h⟩
theorem Mvs.perm (M:Mvs os ms) (ond:os.Nodup):(setAll os (ms.map fun m => (m.2.2, m.1))).Perm os := by
 have same:∀ {i j:Nat} {x:Str},os[i]? = some x->os[j]? = some x->i=j:=fun h1 h2=>(bH (af.mp h1).1 ond).mp (h1.trans h2.symm)
 refine perm_of ?_ (fun x hx=>?_) (by rw[setAll_len];exact ae _)
 ·unfold List.Nodup
  rw[bj]
  intro i j hi hj hij e
  have e:(setAll os (ms.map fun m=>(m.2.2,m.1)))[i]? = (setAll os (ms.map fun m=>(m.2.2,m.1)))[j]?:=by rw[ar hi,ar hj,e]
  rw[setAll_len] at hj
  rcases M.at i with⟨m,hm,e1,g1⟩ | ⟨n1,g1⟩ <;> rcases M.at j with⟨m',hm',e2,g2⟩ | ⟨n2,g2⟩ <;> rw[g1,g2] at e
  ·have e:m.1=m'.1:=ai e
   have a:=M.at_ m hm
   rw[e] at a
   have:=nd_inj M.nd hm hm' (same a (M.at_ m' hm'))
   rw[this] at e1
   omega
  ·have:=same (M.at_ m hm) e.symm
   exact n2 (this ▸ ap.mpr ⟨m,hm,rfl⟩)
  ·have:=same (M.at_ m' hm') e
   exact n1 (this ▸ ap.mpr ⟨m',hm',rfl⟩)
  ·obtain⟨x,hx⟩:∃x,os[j]? = some x:=⟨_,ar hj⟩
   have:=same (e.trans hx) hx
   omega
 ·obtain⟨k,hk⟩:=aH hx
  rcases M.at k with⟨m,hm,e1,g1⟩ | ⟨n1,g1⟩
  ·rw[g1] at hk
   rw[<- ai hk]
   exact aj (M.at_ m hm)
  ·rw[g1] at hk
   exact aj hk
theorem Mvs.stay (M:Mvs os ms) (ond:os.Nodup) {x:Str}(hx:x∈os) (hn:x∉ms.map (·.1)):(setAll os (ms.map fun m=>(m.2.2,m.1))).idxOf x=os.idxOf x:=by
 have h:=atIdx hx
 refine idxAt ((M.perm ond).nodup_iff.mpr ond) ?_
 rw[M.out fun z=>?_]
 ·exact h
 ·obtain⟨m,hm,e⟩:=ap.mp z
  have e:m.2.1=os.idxOf x:=e
  have a:=M.at_ m hm
  rw[e,h] at a
  exact hn (ap.mpr ⟨m,hm,(ai a).symm⟩)
theorem okB_iff:okB ms=true ↔ ((ms.map fun m=>m.2.1).Nodup/\(ms.map fun m=>m.2.2).Perm (ms.map fun m=>m.2.1)):=by unfold okB;exact decide_eq_true_iff
theorem Frg.mvs (h:Frg os ms) (hB:okB ms=true):Mvs os ms:=⟨fun m hm=>(h m hm).1,(okB_iff.mp hB).1,(okB_iff.mp hB).2⟩
end
def touchB (mv:List Str) (e:Str × Str):Bool:=decide (e.1∈mv)||decide (e.2∈mv)
def letB (gs mv:List Str) (ts:List (Str × Str)) (one other:Str):Bool:=((ts.filter (touchB mv))++[(one,other)]).all fun e=>decide (gs.idxOf e.1<gs.idxOf e.2)
def letA (os:List Str) (ms:List (Str × Nat × Nat)) (ts:List (Str × Str)) (one other:Str):Bool:=okB ms&&letB (setAll os (ms.map fun m=>(m.2.2,m.1))) (ms.map (·.1)) ts one other
theorem letA_fwd {os:List Str}{ms:List (Str × Nat × Nat)}{ts:List (Str × Str)}{one other:Str}(F:Frg os ms) (ond:os.Nodup) (fw:Fwd os ts) (h:letA os ms ts one other=true):∀e ∈ ts ++ [(one, other)], (setAll os (ms.map fun m => (m.2.2, m.1))).idxOf e.1<(setAll os (ms.map fun m => (m.2.2, m.1))).idxOf e.2 := by
 unfold letA at h
 rw[bd] at h
 have M:=F.mvs h.1
 have all:=bi.mp h.2
 intro e he
 by_cases q:touchB (ms.map (·.1)) e=true
 ·refine az (all e ?_)
  rcases aq.mp he with he | he
  ·exact aU _ (am.mpr ⟨he,q⟩)
  ·exact aJ _ he
 ·rcases aq.mp he with he | he
  ·obtain⟨i,j,hij,h1,h2⟩:=fw e he
   unfold touchB at q
   rw[Bool.or_eq_true,decide_eq_true_iff,decide_eq_true_iff] at q
   rw[M.stay ond (aj h1) fun z=>q (.inl z),M.stay ond (aj h2) fun z=>q (.inr z),idxAt ond h1,idxAt ond h2]
   exact hij
  ·exact az (all e (aJ _ he))
def spLetG:Sp:=fun vs H Q _=>∃(wq lo l:Addr) (refs:List V) (ss:List Str) (ts:List (Str × Str)) (os:List Str) (one other:Str) (ms:List (Str × Nat × Nat)),vs=[.ref wq,.ref lo,.str one,.str other,.ref l]/\WebO H (.ref wq) ss ts lo os/\one∈ss/\other∈ss/\H l=some (.lst refs)/\RepAll H refs (ms.map mvD)/\ms.length<=60/\Frg os ms /\
 ∀H',Same H H'->Q (.bl (letA os ms ts one other)) H'
theorem scLets:FnScope ["web","order","one","other","told","moving","places","ties"] ["web","order","one","other","told"] (defScope sLets):=⟨rfl,rfl,rfl,by decide +kernel,rfl,by decide +kernel,by decide +kernel⟩
theorem ok_letG {f:Addr}{fd:FuncData}(F:Fun K "lets_moves" "lets_moves" sLets f fd) (B:Blt mg) (care_moves:Cal P w K mg base 3 "are_moves" ["order", "told"] spAreG) (cplaces_of:Cal P w K mg base 1 "places_of" ["things"] spPlaces) (cmoved:Cal P w K mg base 1 "moved" ["order", "moves"] spMoved):FnOk P w K mg base CX0 4 f fd ["web", "order", "one", "other", "told"] spLetG := by
 refine F.ok scLets (fun vs H Q E h=>?_) (fun cdv A outer s H vs Q E hr h=>?_)
 ·obtain⟨wq,lo,l,refs,ss,ts,os,one,other,ms,rfl,_⟩:=h
  rfl
 ·obtain⟨wq, lo, l, refs, ss, ts, os, one, other, ms, rfl, W, h1, h2, hl, rp, ml, FG, k⟩ := h
  have nd:=scLets.nd
  have osl:=W.pm.length_eq
  have h60:=W.web.len
  have few:=W.web.few
  have ond:os.Nodup:=W.pm.nodup_iff.mpr W.web.nd
  have onm:∀s∈os,Nm s:=fun s hs=>W.web.nm s (W.pm.mem_iff.mp hs)
  have rl:=rp.len
  rw[aa] at rl
  refine⟨_,(pss_cons (ps_if (pt_not (pt_val (pe_cal care_moves (hr.mono (by decide)) rfl (pa_cons (pv 1) (pa_cons (pv 4) pa_nil))))) (pss_one (ps_ret pe_bl)) pss_nil)
   (pss_cons (ps_set (i:=5) nd rfl (Or.inr rfl) (pe_cal cplaces_of (hr.mono (by decide)) rfl (pa_cons (pe_comp (defScope sLets) ["web","order","one","other","told","moving","places","ties"] ["move"] [] ["move"] rfl (pi_listK K (pv 4)) (fun _ _ _ _ _=>(pg_name (i:=0) (show (["move"]:List Str).Nodup by decide) rfl (Or.inl rfl))) (fun _ _ _ _ _=>pts_nil) (fun _ _ _ _ _=>(pe_ix (ix_X K hr.units) (pv 0) pe_int (fun _ _=>rfl)))) pa_nil)))
   (pss_cons (ps_set (i:=6) nd rfl (Or.inr rfl) (pe_cal cplaces_of (hr.mono (by decide)) rfl (pa_cons (pe_cal cmoved (hr.mono (by decide)) rfl (pa_cons (pv 1) (pa_cons (pv 4) pa_nil))) pa_nil)))
   (pss_cons (ps_set (i:=7) nd rfl (Or.inl rfl) (pe_op op_addX (pe_comp (defScope sLets) ["web","order","one","other","told","moving","places","ties"] ["tie"] [5] ["tie","moving"] rfl (pi_tupK K (pe_ix (ix_X K hr.units) (pv 0) pe_int (fun _ _=>rfl))) (fun _ _ _ _ _=>(pg_name (i:=0) (show (["tie","moving"]:List Str).Nodup by decide) rfl (Or.inl rfl))) (fun _ _ _ _ _=>(pts_one (PW.pt (pw_or (pt_cmpR (op_inX K hr.units) (pe_ix (ix_X K hr.units) (pv 0) pe_int (fun _ _=>rfl)) (pv 1) (by with_unfolding_all rfl)) (pw_or1 (pt_cmpR (op_inX K hr.units) (pe_ix (ix_X K hr.units) (pv 0) pe_int (fun _ _=>rfl)) (pv 1) (by with_unfolding_all rfl))))))) (fun _ _ _ _ _=>(pv 0))) (pe_lst (pa_cons (pe_tup (pa_cons (pv 2) (pa_cons (pv 3) pa_nil))) pa_nil))))
   (pss_one (ps_ret (b_all rfl B (pa_cons (pe_comp (defScope sLets) ["web","order","one","other","told","moving","places","ties"] ["tie"] [6] ["tie","places"] rfl (pi_listK K (pv 7)) (fun _ _ _ _ _=>(pg_name (i:=0) (show (["tie","places"]:List Str).Nodup by decide) rfl (Or.inl rfl))) (fun _ _ _ _ _=>pts_nil) (fun _ _ _ _ _=>(pe_cmpR op_ltX (pe_ix (ix_X K hr.units) (pv 1) (pe_ix (ix_X K hr.units) (pv 0) pe_int (fun _ _=>rfl)) (fun _ _=>rfl)) (pe_ix (ix_X K hr.units) (pv 1) (pe_ix (ix_X K hr.units) (pv 0) pe_int (fun _ _=>rfl)) (fun _ _=>rfl)) (nomark _)))) pa_nil)))))))),?_⟩
  refine⟨_,rfl,_,rfl,lo,l,refs,os,ms,rfl,W.ord,ond,by omega,onm,hl,rp,ml,FG,fun H1 s1=>⟨_,rfl,ite2 (fun h=>?_) (fun h=>?_)⟩⟩
  ·have e:letA os ms ts one other=false:=by
      unfold letA
      rw[show okB ms=false by simpa using h];rfl
   rw[e] at k
   exact k _ s1
  have hB:okB ms=true:=by simpa using h
  have M:=FG.mvs hB
  obtain⟨gs,hgs⟩:∃gs,setAll os (ms.map fun m=>(m.2.2,m.1))=gs:=⟨_,rfl⟩
  have gpm:gs.Perm os:=hgs ▸ M.perm ond
  have eL:letA os ms ts one other=letB gs (ms.map (·.1)) ts one other:=by unfold letA;rw[hB,hgs];rfl
  rw[eL] at k
  have gnd:gs.Nodup:=gpm.nodup_iff.mpr ond
  have gl:=gpm.length_eq
  have gin:∀s,s∈ss->s∈gs:=fun s hs=>gpm.mem_iff.mpr (W.pm.mem_iff.mpr hs)
  have hl1:=s1 _ _ hl
  have rp1:=rp.same s1
  refine⟨_,rfl,l,rfl,⟨_,.of hl1⟩,?_⟩
  refine comp_list refs (fun D i acc σ' H'=>∃o,σ'=[o]/\acc=List.map V.str ((ms.take i).map (·.1))/\Same H1 H'/\H1 D=none) fun D hD=>⟨?_,?_,?_,?_⟩
  ·exact⟨none,rfl,rfl,Same.new hD,hD⟩
  ·rintro i acc σ' H' _ ⟨o,rfl,_,sm,_⟩ _
   exact .of (sm _ _ hl1)
  ·rintro i acc σ' H' x hx ⟨o,rfl,rfl,sm,hD0⟩ hacc
   have hil:=(af.mp hx).1
   obtain⟨m,ta,hm,rfl,hta⟩:=mv_get (rp1.same sm) hx
   refine gYes ?_
   refine⟨_,rfl,.tup (.of hta) rfl ?_⟩
   exact⟨hacc,by rw[aa,aa,av];exact small1000 (by omega),_,rfl,by rw[au,hm,ah,ah];rfl,same_at sm hD0,hD0⟩
  rintro acc σ' H2 ⟨o,rfl,rfl,s2,hD0⟩ hacc
  rw[rl,aw (ae _)] at hacc
  refine⟨D,ms.map (·.1),rfl,hacc,by rw[aa];omega,fun dm km H3 s3 hdm0 hdm min_ mix=>?_⟩
  have s13:=(s1.trans s2).trans s3
  refine⟨_,rfl,_,rfl,lo,l,refs,os,ms,rfl,s13 _ _ W.ord,s13 _ _ hl,rp.same s13,M.lt,fun lg H4 s4 hlg0 hlg=>?_⟩
  rw[hgs] at hlg
  refine⟨lg,gs,rfl,hlg,by omega,fun dp kp H5 s5 hdp0 hdp pin pix=>?_⟩
  have s45:=s4.trans s5
  have s15:=s13.trans s45
  have hdm5:=s45 _ _ hdm
  have W5:=W.same s15
  obtain⟨wq',wa,wb,xs,e,hwq,hwa,hwb,wrp⟩:=web_at W5.web.rep
  cases e
  have xl:=wrp.len
  rw[aa] at xl
  refine⟨_,rfl,.tup (.of hwq) rfl ⟨_,rfl,⟨_,.of hwb⟩,?_⟩⟩
  refine comp_tup xs (fun D i acc σ' H'=>∃o,σ'=[o,some (.ref dm)]/\RepAll H' acc (((ts.take i).filter (touchB (ms.map (·.1)))).map pairD)/\Same H5 H'/\H5 D=none) fun Dt hDt=>⟨?_,?_,?_,?_⟩
  ·exact⟨none,rfl,.nil,Same.new hDt,hDt⟩
  ·rintro i acc σ' H' _ ⟨o,rfl,_,sm,_⟩ _
   exact .of (sm _ _ hwb)
  ·rintro i acc σ' H' x hx ⟨o, rfl, rpa, sm, hD0⟩ hacc
   obtain⟨e,ta,he,rfl,hta⟩:=pair_get (wrp.same sm) hx
   have hil:=(af.mp he).1
   have alen:=rpa.len
   rw[aa] at alen
   have fl:=aK (touchB (ms.map (·.1))) (ts.take i)
   rw[av] at fl
   have b1:(valV km (.inr e.1)).isSome=decide (e.1∈ms.map (·.1)):=by rw[aO,min_,decide_eq_true_iff]
   have b2:(valV km (.inr e.2)).isSome=decide (e.2∈ms.map (·.1)):=by rw[aO,min_,decide_eq_true_iff]
   have yes:touchB (ms.map (·.1)) e=true->RepAll H' (acc++[V.ref ta]) (((ts.take (i+1)).filter (touchB (ms.map (·.1)))).map pairD):=fun h=>by
    rw[filt_step _ _ _ _ he,if_pos h,ah]
    exact RepAll.append rpa (.cons (pair_rep hta) .nil)
   have app:touchB (ms.map (·.1)) e=true->H' Dt=some (.lst acc)/\acc.length<sizeLine/\∃o,([some (V.ref ta),some (V.ref dm)]:St)=[o,some (.ref dm)]/\RepAll (upd H' Dt (.lst (acc++[V.ref ta]))) (acc++[V.ref ta]) (((ts.take (i+1)).filter (touchB (ms.map (·.1)))).map pairD)/\Same H5 (upd H' Dt (.lst (acc++[V.ref ta])))/\H5 Dt=none:=fun h =>
    ⟨hacc,small1000 (by omega),_,rfl,RepAll.pairBut (p:=Dt) hacc But.upd (yes h),same_at sm hD0,hD0⟩
   refine⟨_,rfl,.tup (.of hta) rfl ⟨_,rfl,.dic (DGet.k (k:=.inr e.1) (sm _ _ hdm5)) ⟨_,rfl,?_⟩⟩⟩
   refine ite2 (fun h=>?_) (fun h=>?_)
   ·have h:(valV km (.inr e.1)).isSome=true:=h
    rw[b1] at h
    exact⟨_,rfl,app (by unfold touchB;rw[h];rfl)⟩
   ·have h:¬ (valV km (.inr e.1)).isSome=true:=h
    rw[b1] at h
    refine⟨_,rfl,.tup (.of hta) rfl ⟨_,rfl,.dic (DGet.k (k:=.inr e.2) (sm _ _ hdm5)) ⟨_,rfl,?_⟩⟩⟩
    refine ite2 (fun h2=>?_) (fun h2=>?_)
    ·have h2:(valV km (.inr e.2)).isSome=true:=h2
     rw[b2] at h2
     exact⟨_,rfl,app (by unfold touchB;rw[h2,Bool.or_true])⟩
    ·have h2:¬ (valV km (.inr e.2)).isSome=true:=h2
     rw[b2] at h2
     have hno:¬ touchB (ms.map (·.1)) e=true:=by unfold touchB;rw[Bool.or_eq_true];rintro (z | z);exact h z;exact h2 z
     exact⟨hacc,_,rfl,by rw[filt_step _ _ _ _ he,if_neg hno,ba];exact rpa,sm,hD0⟩
  rintro acc σ' H6 ⟨o,rfl,rpt,s6,hDt0⟩ hacct
  rw[xl,aw (ae _)] at rpt
  refine⟨_,rfl,_,rfl,(by show 2<=sizeLine;decide),fun tq htq=>⟨(by show 1<=sizeLine;decide),fun l7 hl7=>?_⟩⟩
  have s7:=Same.new (o:=.tup [V.str one,V.str other]) htq
  have s8:=Same.new (o:=.lst [V.ref tq]) hl7
  have e7:upd H6 tq (.tup [V.str one,V.str other]) tq=some (.tup [V.str one,V.str other]):=upd_same
  have e8:upd (upd H6 tq (.tup [V.str one,V.str other])) l7 (.lst [V.ref tq]) l7=some (.lst [V.ref tq]):=upd_same
  have e78:=s8 _ _ e7
  have s78:=s7.trans s8
  generalize upd (upd H6 tq (.tup [V.str one,V.str other])) l7 (.lst [V.ref tq])=H8 at s8 e8 e78 s78 ⊢
  have tl:(ts.filter (touchB (ms.map (·.1)))).length<=401:=aW (aK _ _) few
  have al:=rpt.len
  rw[aa] at al
  refine .lst (s78 _ _ hacct) e8 (by show acc.length+1<=sizeLine;exact aT (small1000 (by omega))) fun l9 hl9=>?_
  have s9:=Same.new (o:=.lst (acc++[V.ref tq])) hl9
  have hl99:upd H8 l9 (.lst (acc++[V.ref tq])) l9=some (.lst (acc++[V.ref tq])):=upd_same
  generalize upd H8 l9 (.lst (acc++[V.ref tq]))=H9 at s9 hl99 ⊢
  have rp9:RepAll H9 (acc++[V.ref tq]) (((ts.filter (touchB (ms.map (·.1))))++[(one,other)]).map pairD):=by
   rw[ah]
   exact RepAll.append (rpt.same (s78.trans s9)) (.cons (pair_rep (s9 _ _ e78)) .nil)
  obtain⟨es,hes⟩:∃es,es=(ts.filter (touchB (ms.map (·.1))))++[(one,other)]:=⟨_,rfl⟩
  rw[<- hes] at rp9
  have ein:∀e∈es,e.1∈gs/\e.2∈gs:=fun e he=>by
   rw[hes] at he
   rcases aq.mp he with g | g
   ·have:=W.web.inn e (am.mp g).1
    exact⟨gin _ this.1,gin _ this.2⟩
   ·rw[aQ.mp g];exact⟨gin _ h1,gin _ h2⟩
  have el:es.length<=402:=by rw[hes,aG];show _+1<=402;omega
  have rl9:=rp9.len
  rw[aa] at rl9
  have s59:=s6.trans (s78.trans s9)
  have hdp9:=s59 _ _ hdp
  generalize acc++[V.ref tq]=ys at hl99 rp9 rl9 ⊢
  refine⟨_,rfl,l9,rfl,⟨_,.of hl99⟩,?_⟩
  refine comp_list ys (fun D i acc σ' H'=>∃o,σ'=[o,some (.ref dp)]/\acc=List.map V.bl ((es.take i).map fun e=>decide (gs.idxOf e.1<gs.idxOf e.2))/\Same H9 H'/\H9 D=none) fun Df hDf=>⟨?_,?_,?_,?_⟩
  ·exact⟨none,rfl,rfl,Same.new hDf,hDf⟩
  ·rintro i acc σ' H' _ ⟨o,rfl,_,sm,_⟩ _
   exact .of (sm _ _ hl99)
  ·rintro i acc σ' H' x hx ⟨o,rfl,rfl,sm,hD0⟩ hacc
   obtain⟨e,ta,he,rfl,hta⟩:=pair_get (rp9.same sm) hx
   have hil:=(af.mp he).1
   obtain⟨g1,g2⟩:=ein e (aj he)
   refine gYes ?_
   refine⟨_,rfl,_,rfl,.tup (.of hta) rfl (.dic (.inl ⟨_,.inr e.1,.inl (sm _ _ hdp9),rfl,(pl_at gnd pin pix g1).symm⟩) ⟨_,rfl,_,rfl,.tup (.of hta) rfl (.dic (.inl ⟨_,.inr e.2,.inl (sm _ _ hdp9),rfl,(pl_at gnd pin pix g2).symm⟩) (.int ?_))⟩)⟩
   refine⟨hacc,by rw[aa,aa,av];exact small1000 (by omega),_,rfl,?_,same_at sm hD0,hD0⟩
   rw[au,he,ah,ah]
   have ed:decide (((gs.idxOf e.1:Nat):Int)<((gs.idxOf e.2:Nat):Int))=decide (gs.idxOf e.1<gs.idxOf e.2):=by rw[aO,decide_eq_true_iff,decide_eq_true_iff];omega
   show _++[V.bl (decide (((gs.idxOf e.1:Nat):Int)<((gs.idxOf e.2:Nat):Int)))]=_
   rw[ed];rfl
  rintro acc σ' HA ⟨o,rfl,rfl,sA,hDf0⟩ haccA
  rw[rl9,aw (ae _)] at haccA
  refine⟨Df,_,rfl,haccA,?_⟩
  have eb:(es.map fun e=>decide (gs.idxOf e.1<gs.idxOf e.2)).all id=letB gs (ms.map (·.1)) ts one other:=by
   unfold letB
   rw[<- hes,List.all_map];rfl
  rw[eb]
  exact k HA ((s15.trans s59).trans sA)
theorem mem_mid {os:List Str}{l h:Nat}{x:Str}:x∈(os.take (h+1)).drop l ↔ ∃i,l<=i/\i<=h/\os[i]? = some x:=by
 constructor
 ·intro hx
  obtain⟨i,hi⟩:=aH hx
  rw[bI] at hi
  have hl:=(af.mp hi).1
  rw[av] at hl
  rw[bu (by omega)] at hi
  exact⟨l+i,by omega,by omega,hi⟩
 ·rintro⟨i,h1,h2,e⟩
  refine aj (i:=i-l) ?_
  rw[bI,show l+(i-l)=i by omega,bu (by omega)]
  exact e
theorem idx_up {os:List Str}(ond:os.Nodup):os.Pairwise fun x y=>os.idxOf x<os.idxOf y:=by
 rw[bj]
 intro i j hi hj hij
 rw[idxAt ond (ar hi),idxAt ond (ar hj)]
 exact hij
theorem mvs_ok {os A:List Str}(ond:os.Nodup) (and_:A.Nodup) (sub:∀x∈A,x∈os):Frg os (mvs os A)/\okB (mvs os A)=true/\((mvs os A).map (·.1)).Nodup:=by
 have e1:((mvs os A).map fun m=>m.2.1)=plc os A:=by
  unfold mvs
  rw[aM]
  conv=>rhs;rw[<- List.map_id (plc os A)]
  rfl
 have e2:((mvs os A).map fun m=>m.2.2)=(plc os A).map (newP os A):=by unfold mvs;rw[aM];rfl
 have lt:∀k∈plc os A,newP os A k∈plc os A:=fun k hk=>aj (newP_at ond and_ sub hk).1
 refine⟨fun m hm=>?_,okB_iff.mpr ⟨e1 ▸ plc_nd os A,?_⟩,?_⟩
 ·obtain⟨k,hk,rfl⟩:=ap.mp hm
  refine⟨?_,plc_lt (lt k hk)⟩
  show os[k]? = some (os.getD k "")
  rw[aD,ar (plc_lt hk)];rfl
 ·rw[e1,e2]
  have kn:=mv_keys ond and_ sub
  rw[aM] at kn
  have kn:((plc os A).map (newP os A)).Nodup:=by rw[<- e2];exact kn
  refine perm_of kn (fun x hx=>?_) (by rw[aa];exact ae _)
  obtain⟨k,hk,rfl⟩:=ap.mp hx
  exact lt k hk
 ·have e3:(mvs os A).map (·.1)=(plc os A).map fun k=>os.getD k "":=by unfold mvs;rw[aM];rfl
  rw[e3,plc_map]
  exact List.Nodup.sublist bp ond
theorem told_let {os:List Str}{ts:List (Str × Str)}{one other:Str}(ond:os.Nodup) (fw:Fwd os ts) (m1:one ∈ os) (m2:other ∈ os) (nr:¬ isRing os ts one other):letA os (mvs os (dueB os ts one other ++ dueF os ts one other)) ts one other=true := by
 have cnd:=due_nd ond nr
 have sub:=due_all (os:=os) (ts:=ts) (one:=one) (other:=other)
 unfold letA
 rw[(mvs_ok ond cnd sub).2.1,moved_eq ond cnd sub,Bool.true_and]
 unfold letB
 rw[bi]
 by_cases hlt:os.idxOf one<os.idxOf other
 ·have eA:dueB os ts one other=[]:=if_pos hlt
  have eB:dueF os ts one other=[]:=if_pos hlt
  rw[eA,eB]
  have eL:laidL os ([]++[])=os:=by
   unfold laidL
   simp[setAll]
  rw[eL]
  intro e he
  refine ao ?_
  rcases aq.mp he with he | he
  ·obtain⟨i,j,hij,h1,h2⟩:=fw e (am.mp he).1
   rw[idxAt ond h1,idxAt ond h2]
   exact hij
  ·rw[aQ.mp he]
   exact hlt
 ·have nrch:¬ MG.Rch (Tie ts) other one := fun z => nr ⟨hlt, z⟩
  have dA:dueB os ts one other=((os.take (os.idxOf one+1)).drop (os.idxOf other)).filter fun t=>rB (flipE ts) one t:=if_neg hlt
  have dB:dueF os ts one other=((os.take (os.idxOf one+1)).drop (os.idxOf other)).filter fun t=>rB ts other t:=if_neg hlt
  have memA:∀x,x∈dueB os ts one other ↔ (∃i,os.idxOf other<=i/\i<=os.idxOf one/\os[i]? = some x)/\MG.Rch (Tie (flipE ts)) one x:=fun x=>by rw[dA,am,mem_mid,rB_iff]
  have memB:∀x,x∈dueF os ts one other ↔ (∃i,os.idxOf other<=i/\i<=os.idxOf one/\os[i]? = some x)/\MG.Rch (Tie ts) other x:=fun x=>by rw[dB,am,mem_mid,rB_iff]
  have oA:(dueB os ts one other).Pairwise fun x y=>os.idxOf x<os.idxOf y:=by
   rw[dA]
   exact(idx_up ond).sublist (bp.trans ((bP _ _).trans (bF _ _)))
  have oB:(dueF os ts one other).Pairwise fun x y=>os.idxOf x<os.idxOf y:=by
   rw[dB]
   exact(idx_up ond).sublist (bp.trans ((bP _ _).trans (bF _ _)))
  have hin:∀x∈dueB os ts one other++dueF os ts one other,os.idxOf other<=os.idxOf x/\os.idxOf x<=os.idxOf one:=fun x hx=>by
   rcases aq.mp hx with hx | hx
   ·obtain⟨⟨i,h1,h2,e⟩,_⟩:=(memA x).mp hx
    rw[idxAt ond e];exact⟨h1,h2⟩
   ·obtain⟨⟨i,h1,h2,e⟩,_⟩:=(memB x).mp hx
    rw[idxAt ond e];exact⟨h1,h2⟩
  intro e he
  refine ao ?_
  rcases aq.mp he with he | he
  ·have het:=(am.mp he).1
   obtain⟨i,j,hij,h1,h2⟩:=fw e het
   have x1:=aj h1
   have x2:=aj h2
   have hxy:os.idxOf e.1<os.idxOf e.2:=by rw[idxAt ond h1,idxAt ond h2];exact hij
   have tie:Tie ts e.1 e.2:=het
   refine laid_keeps ond cnd sub oA oB hin x1 x2 hxy (fun hy hx=>?_) (fun hx hy=>?_) (fun ⟨hx,hy⟩=>?_)
   ·obtain⟨⟨i',_,g2,ge⟩,r⟩:=(memA e.2).mp hy
    rw[<- idxAt ond ge] at g2
    exact(memA e.1).mpr ⟨⟨_,hx,by omega,atIdx x1⟩,r.step (mem_flip.mpr tie)⟩
   ·obtain⟨⟨i',g1,_,ge⟩,r⟩:=(memB e.1).mp hx
    rw[<- idxAt ond ge] at g1
    exact(memB e.2).mpr ⟨⟨_,by omega,hy,atIdx x2⟩,r.step tie⟩
   ·have r1:=((memB e.1).mp hx).2
    have r2:=rch_flip ((memA e.2).mp hy).2
    exact nrch (rch_trans (r1.step tie) r2)
  ·rw[aQ.mp he]
   have hA:one∈dueB os ts one other:=(memA one).mpr ⟨⟨_,by omega,ae _,atIdx m1⟩,MG.Rch.refl⟩
   have hB:other∈dueF os ts one other:=(memB other).mpr ⟨⟨_,ae _,by omega,atIdx m2⟩,MG.Rch.refl⟩
   obtain⟨i,hi⟩:=aH hA
   obtain⟨j,hj⟩:=aH hB
   have il:=(af.mp hi).1
   exact laid_lt (i:=i) (j:=(dueB os ts one other).length+j) (by rw[bc il];exact hi) (by rw[br (by omega),ci];exact hj) (by omega) ond cnd sub
def spMvB (C:Addr):Sp:=fun vs H Q E=>∃(wq lo:Addr) (ss:List Str) (ts:List (Str × Str)) (os:List Str) (one other:Str),vs=[.ref wq,.ref lo,.str one,.str other]/\WebO H (.ref wq) ss ts lo os/\one∈ss/\other∈ss /\
 (¬ isRing os ts one other->∀l refs H',Same H H'->H l=none->H' l=some (.lst refs)->RepAll H' refs ((mvs os (dueB os ts one other++dueF os ts one other)).map mvD)->Q (.ref l) H')/\(isRing os ts one other->∀d H',Same H H'->E (.ref C) (some d) H')
theorem ok_mvB {f:Addr}{fd:FuncData}{C:Addr}(F:FnOk P w K mg base CX0 6 f fd ["web","order","one","other"] spMovesOf) (G:FnOk P w K mg base (CX1 P w) 7 f fd ["web","order","one","other"] (spStrX C)):FnOk P w K mg base (CX1 P w) 7 f fd ["web","order","one","other"] (spMvB C) :=
 ⟨fun vs H Q E ⟨wq,lo,ss,ts,os,one,other,e,_⟩=>by rw[e];rfl,fun A outer s H args us vs Q E hr he hb hv ⟨wq,lo,ss,ts,os,one,other,e,W,m1,m2,kn,kr⟩=>by
  by_cases q:isRing os ts one other
  ·exact G.run A outer s H args us vs Q E hr he hb hv ⟨wq,lo,ss,ts,os,one,other,e,W,m1,m2,q,fun _ _ _ d H' _ _ s1 _ _ _ _=>kr q d H' s1⟩
  ·exact F.lift.run A outer s H args us vs Q E (hr.mono (by decide)) he hb hv ⟨wq,lo,ss,ts,os,one,other,e,W,m1,m2,q,kn q⟩⟩
theorem eqv_nilN (ls:List Str):PyData.eqv (namesD ls) (.list [])=decide (ls=[]):=by
 cases ls with
 | nil=>rfl
 | cons e r=>rfl
theorem perm_out {ls:List Str}(nd:ls.Nodup) {t:Str}(ht:t∈ls):(t::ls.filter fun x=>!decide (V.str x=V.str t)).Perm ls:=by
 have e:∀x,(!decide (V.str x=V.str t))=true ↔ x≠t:=fun x=>by
  rw[Bool.not_eq_true',decide_eq_false_iff_not]
  exact⟨fun h z=>h (by rw[z]),fun h z=>h (V.str.inj z)⟩
 refine(perm_of (m:=ls) ?_ (fun x hx=>?_) ?_)
 ·refine aP.mpr ⟨fun z=>?_,nd.sublist bp⟩
  exact(e t).mp (am.mp z).2 rfl
 ·rcases ax.mp hx with rfl | g
  ·exact ht
  ·exact(am.mp g).1
 ·refine nd.length_le_of_subset fun x hx=>?_
  by_cases q:x=t
  ·rw[q];simp
  ·exact aN _ (am.mpr ⟨hx,(e x).mpr q⟩)
theorem least_ex (f:Str -> Nat):∀ {ls:List Str}, ls ≠ [] -> ∃x ∈ ls, ∀y ∈ ls, f x <= f y
 | [],h=>absurd rfl h
 | [a],_=>⟨a,by simp,fun y hy=>by rw[aQ.mp hy];exact ae _⟩
 | a::b::ls,_=>by
  obtain⟨x,hx,hm⟩:=least_ex f (ls:=b::ls) (by simp)
  by_cases q:f a<=f x
  ·refine⟨a,by simp,fun y hy=>?_⟩
   rcases ax.mp hy with rfl | hy
   ·exact ae _
   ·exact aW q (hm y hy)
  ·refine⟨x,aN _ hx,fun y hy=>?_⟩
   rcases ax.mp hy with rfl | hy
   ·omega
   ·exact hm y hy
def FwP (fs:List Str) (ts:List (Str × Str)):Prop:=∀e∈ts,e.2∈fs->∃i j:Nat,i<j/\fs[i]? = some e.1/\fs[j]? = some e.2
theorem FwP.nil {ts:List (Str × Str)}:FwP [] ts:=fun _ _ h=>by cases h
theorem FwP.snoc {fs:List Str}{ts:List (Str × Str)}{t:Str}(h:FwP fs ts) (g:∀e∈ts,e.2=t->e.1∈fs):FwP (fs++[t]) ts:=fun e he hm=>by
 rcases aq.mp hm with hm | hm
 ·obtain⟨i,j,hij,h1,h2⟩:=h e he hm
  exact⟨i,j,hij,by rw[bc (af.mp h1).1];exact h1,by rw[bc (af.mp h2).1];exact h2⟩
 ·have e2:e.2=t:=aQ.mp hm
  obtain⟨i,h1⟩:=aH (g e he e2)
  have hl:=(af.mp h1).1
  exact⟨i,fs.length,hl,by rw[bc hl];exact h1,by rw[br (ae _),Nat.sub_self,e2];rfl⟩
def spDrawn (K:W.Frag):Sp:=fun vs H Q _=>∃(p a wq:Addr) (ss:List Str) (ts:List (Str × Str)) (os:List Str),vs=[.ref p,.ref wq]/\Pen K H p a/\Web H (.ref wq) ss ts/\os.Nodup/\Fwd os ts /\
 ∀l gs H',gs.Perm ss->Fwd gs ts->H' l=some (.lst (List.map V.str gs))->H l=none->l≠p->PenV H' p a->But p H H'->Q (.ref l) H'
theorem scDrawn:FnScope ["_law_pen_here","_law_web_here","_law_found","_law_left","_law_held","_law_ready","_law_thing"] ["_law_pen_here","_law_web_here"] (defScope sDrawn):=⟨rfl,rfl,rfl,by decide +kernel,rfl,by decide +kernel,by decide +kernel⟩
theorem ok_drawn {f:Addr}{fd:FuncData}(F:Fun K "_law_drawn" "_law_drawn" sDrawn f fd) (B:Blt mg) (c_law_draw:Cal P w K mg base 1 "_law_draw" ["_law_pen_here", "_law_most"] (spDraw K)):FnOk P w K mg base CX0 2 f fd ["_law_pen_here", "_law_web_here"] (spDrawn K) := by
 refine F.ok scDrawn (fun vs H Q E h=>?_) (fun cdv A outer s H vs Q E hr h=>?_)
 ·obtain⟨p,a,wq,ss,ts,os,rfl,_⟩:=h
  rfl
 ·obtain⟨p, a, wq, ss, ts, os, rfl, hP, W, ond, fw, k1⟩ := h
  have nd:=scDrawn.nd
  have v0:=hP.2
  have h60:=W.len
  have few:=W.few
  refine⟨_,(pss_cons (ps_set (i:=2) nd rfl (Or.inl rfl) (pe_lst pa_nil))
   (pss_cons (ps_set (i:=3) nd rfl (Or.inr rfl) (b_list K rfl B (pa_cons (pe_ix (ix_X K hr.units) (pv 1) pe_int (fun _ _=>rfl)) pa_nil)))
   (pss_cons (ps_while PassesOwn.never (pt_cmpR (op_neX hr.units) (pv 3) (pe_lst pa_nil) (nomark _)) (pss_cons (ps_set (i:=4) nd rfl (Or.inr rfl) (pe_comp (defScope sDrawn) ["_law_pen_here","_law_web_here","_law_found","_law_left","_law_held","_law_ready","_law_thing"] ["_law_one","_law_other"] [3] ["_law_one","_law_other","_law_left"] rfl (pi_tupK K (pe_ix (ix_X K hr.units) (pv 1) pe_int (fun _ _=>rfl))) (fun _ _ _ _ _=>(pg_tupK (n:=2) K rfl (pgs_cons (pg_name (i:=0) (show (["_law_one","_law_other","_law_left"]:List Str).Nodup by decide) rfl (Or.inl rfl)) (pgs_cons (pg_name (i:=1) (show (["_law_one","_law_other","_law_left"]:List Str).Nodup by decide) rfl (Or.inl rfl)) pgs_nil)))) (fun _ _ _ _ _=>(pts_one (pt_cmpR (op_inX K hr.units) (pv 0) (pv 2) (by with_unfolding_all rfl)))) (fun _ _ _ _ _=>(pv 1))))
   (pss_cons (ps_setC (i:=5) nd rfl rfl (by rfl) (defScope sDrawn) ["_law_pen_here","_law_web_here","_law_found","_law_left","_law_held","_law_ready","_law_thing"] ["_law_thing"] [4] ["_law_thing","_law_held"] rfl (pi_listK K (pv 3)) (fun _ _ _ _ _=>(pg_name (i:=0) (show (["_law_thing","_law_held"]:List Str).Nodup by decide) rfl (Or.inl rfl))) (fun _ _ _ _ _=>(pts_one (pt_cmpR (op_notInX K hr.units) (pv 0) (pv 1) (by with_unfolding_all rfl)))) (fun _ _ _ _ _=>(pv 0)))
   (pss_cons (ps_set (i:=6) nd rfl (Or.inr rfl) (pe_ix (ix_X K hr.units) (pv 5) (pe_cal c_law_draw (hr.mono (by decide)) rfl (pa_cons (pv 0) (pa_cons (b_len K B (pa_cons (pv 5) pa_nil)) pa_nil))) (fun _ _=>rfl)))
   (pss_cons (ps_expr (m_append K (pv 2) (pa_cons (pv 6) pa_nil)))
   (pss_one (ps_set (i:=3) nd rfl (Or.inr rfl) (pe_comp (defScope sDrawn) ["_law_pen_here","_law_web_here","_law_found","_law_left","_law_held","_law_ready","_law_thing"] ["_law_one"] [6] ["_law_one","_law_thing"] rfl (pi_listK K (pv 3)) (fun _ _ _ _ _=>(pg_name (i:=0) (show (["_law_one","_law_thing"]:List Str).Nodup by decide) rfl (Or.inl rfl))) (fun _ _ _ _ _=>(pts_one (pt_cmpR (op_neX hr.units) (pv 0) (pv 1) (nomark _)))) (fun _ _ _ _ _=>(pv 0))))))))))
   (pss_one (ps_ret (pv 2)))))),?_⟩
  refine⟨(by show 0<=sizeLine;decide),fun lf hlf=>?_⟩
  have hpf:=v0.ne hlf
  have s1:=Same.new (o:=.lst []) hlf
  obtain⟨wq',wa,wb,xs,e,hwq,hwa,hwb,wrp⟩:=web_at (W.same s1).rep
  cases e
  refine⟨_,rfl,.tup (.of hwq) rfl ⟨_,rfl,.seq (.inr (.of hwa)) fun ll hll=>?_⟩⟩
  have v1:=v0.upd (o:=.lst []) hpf
  have hpl:=v1.ne hll
  have nlf:lf≠ll:=ne_of_none (show upd H lf (.lst []) lf=some (.lst []) from upd_same) hll
  have b1:=(But.refl p H).at (o:=.lst []) hlf
  have b2:=b1.at (o:=.lst (List.map V.str ss)) (b1.free (Ne.symm hpl) hll)
  have v2:=v1.upd (o:=.lst (List.map V.str ss)) hpl
  have hf2:upd (upd H lf (.lst [])) ll (.lst (List.map V.str ss)) lf=some (.lst (List.map V.str [])):=by rw[upd_ne nlf];exact upd_same
  have hl2:upd (upd H lf (.lst [])) ll (.lst (List.map V.str ss)) ll=some (.lst (List.map V.str ss)):=upd_same
  generalize upd (upd H lf (.lst [])) ll (.lst (List.map V.str ss))=H2 at b2 v2 hf2 hl2 ⊢
  refine⟨fun m σ H'=>∃(l3:Addr) (o4 o5 o6:Option V) (fs ls:List Str),m=ls.length/\σ=[some (.ref p),some (.ref wq),some (.ref lf),some (.ref l3),o4,o5,o6]/\H' lf=some (.lst (List.map V.str fs))/\H' l3=some (.lst (List.map V.str ls))/\lf≠l3/\l3≠p/\(fs++ls).Perm ss/\FwP fs ts/\PenV H' p a/\But p H H',
   ⟨_,ll,none,none,none,[],ss,rfl,rfl,hf2,hl2,nlf,Ne.symm hpl,List.Perm.refl _,.nil,v2,b2⟩,?_⟩
  rintro m σ H3 ⟨l3,o4,o5,o6,fs,ls,hm,rfl,hf3,hl3,n3,n3p,hpm,fwp,v3,b3⟩
  have fnd:(fs++ls).Nodup:=hpm.nodup_iff.mpr W.nd
  have lnd:ls.Nodup:=(bn.mp fnd).2.1
  have pl:=hpm.length_eq
  rw[aG] at pl
  have lnm:∀s∈ls,Nm s:=fun s hs=>W.nm s (hpm.mem_iff.mp (aJ _ hs))
  obtain⟨_,hp0⟩:=penAt v0
  have W3:=web_but hp0 b3 W
  refine⟨_,rfl,(by show 0<=sizeLine;decide),fun ln hln=>?_⟩
  have s4:=Same.new (o:=.lst []) hln
  refine .tr (names_rep (s4 _ _ hl3)) (.lst upd_same .nil) (shp_names lnm) (by rfl) ⟨_,rfl,?_⟩
  have hf4:=s4 _ _ hf3
  have hl4:=s4 _ _ hl3
  have W4:=W3.same s4
  have v4:PenV _ p a:=penSame s4 v3
  have b4:=b3.trans (But.of_same (p:=p) s4)
  generalize upd H3 ln (.lst [])=H4 at s4 hf4 hl4 W4 v4 b4 ⊢
  rw[eqv_nilN]
  refine ite2 (fun hne=>?_) (fun hnil=>?_)
  ·have hne:ls ≠ [] := by simpa using hne
   refine⟨fun σ' H'=>∃(m':Nat) (l3:Addr) (o4 o5 o6:Option V) (fs ls:List Str),m'<m/\m'=ls.length/\σ'=[some (.ref p),some (.ref wq),some (.ref lf),some (.ref l3),o4,o5,o6]/\H' lf=some (.lst (List.map V.str fs))/\H' l3=some (.lst (List.map V.str ls))/\lf≠l3/\l3≠p/\(fs++ls).Perm ss/\FwP fs ts/\PenV H' p a/\But p H H',
    fun σ' H' ⟨m',l3,o4,o5,o6,fs,ls,hlt,g⟩=>⟨m',hlt,l3,o4,o5,o6,fs,ls,g⟩,?_⟩
   obtain⟨wq',wa',wb',xs',e,hwq',hwa',hwb',wrp'⟩:=web_at W4.rep
   cases e
   have xl:=wrp'.len
   rw[aa] at xl
   refine⟨_,rfl,.tup (.of hwq') rfl ⟨_,rfl,⟨_,.of hwb'⟩,?_⟩⟩
   refine comp_tup xs' (fun D i acc σ' H'=>∃o1 o2 hs,σ'=[o1,o2,some (.ref l3)]/\acc=List.map V.str hs/\hs.length<=i/\(∀h∈hs,∃x∈ls,(x,h)∈ts)/\(∀e∈ts.take i,e.1∈ls->e.2∈hs)/\Same H4 H'/\H4 D=none) fun D hD=>⟨?_,?_,?_,?_⟩
   ·exact⟨none,none,[],rfl,rfl,ae _,(fun _ h=>by cases h),(fun _ h=>by cases h),Same.new hD,hD⟩
   ·rintro i acc σ' H' _ ⟨o1,o2,hs,rfl,_,_,_,_,sm,_⟩ _
    exact .of (sm _ _ hwb')
   ·rintro i acc σ' H' x hx ⟨o1, o2, hs, rfl, rfl, hsl, hh, hh2, sm, hD0⟩ hacc
    obtain⟨e,ta,he,rfl,hta⟩:=pair_get (wrp'.same sm) hx
    have hil:=(af.mp he).1
    have tk1:ts.take (i+1)=ts.take i++[e]:=by rw[au,he];rfl
    refine⟨ta,_,rfl,.of hta,rfl,_,_,rfl,_,_,rfl,rfl,?_⟩
    refine⟨_,rfl,_,rfl,.seq (.inl (.of (sm _ _ hl4))) rfl (flat_strs _) ⟨_,rfl,?_⟩⟩
    rw[in_strs]
    refine ite2 (fun hin=>?_) (fun hout=>?_)
    ·have hin:e.1∈ls:=az hin
     refine⟨_,rfl,hacc,by rw[aa];exact small1000 (by omega),_,_,hs++[e.2],rfl,by rw[ah];rfl,by rw[aG];show hs.length+1<=i+1;omega,(fun h hm=>?_),(fun d hd h1=>?_),same_at sm hD0,hD0⟩
     rcases aq.mp hm with hm | hm
     ·exact hh h hm
     ·rw[aQ.mp hm];exact⟨e.1,hin,aj he⟩
     ·rw[tk1] at hd
      rcases aq.mp hd with hd | hd
      ·exact aU _ (hh2 d hd h1)
      ·rw[aQ.mp hd];exact aJ _ (aQ.mpr rfl)
    ·have hout:e.1∉ls:=fun z=>hout (ao z)
     refine⟨hacc,_,_,hs,rfl,rfl,by omega,hh,(fun d hd h1=>?_),sm,hD0⟩
     rw[tk1] at hd
     rcases aq.mp hd with hd | hd
     ·exact hh2 d hd h1
     ·rw[aQ.mp hd] at h1;exact absurd h1 hout
   rintro acc σ' H5 ⟨o1,o2,hs,rfl,rfl,hsl,hh,hh2,s5,hD0⟩ hacc
   rw[xl,aw (ae _)] at hh2
   have hl5:=s5 _ _ hl4
   refine⟨_,rfl,l3,rfl,⟨_,.of hl5⟩,?_⟩
   refine comp_list (List.map V.str ls) (fun D' i acc σ' H'=>∃o,σ'=[o,some (.ref D)]/\acc=List.map V.str ((ls.take i).filter fun z=>!decide (z∈hs))/\Same H5 H'/\H5 D'=none) fun D' hD'=>⟨?_,?_,?_,?_⟩
   ·exact⟨none,rfl,rfl,Same.new hD',hD'⟩
   ·rintro i acc σ' H' _ ⟨o,rfl,_,sm,_⟩ _
    exact .of (sm _ _ hl5)
   ·rintro i acc σ' H' x hx ⟨o,rfl,rfl,sm,hD0'⟩ hacc'
    obtain⟨z,hz,rfl⟩:=str_get' hx
    have hil:=(af.mp hz).1
    have fl:=aK (fun z=>!decide (z∈hs)) (ls.take i)
    rw[av] at fl
    refine⟨_,rfl,_,rfl,.seq (.inl (.of (sm _ _ hacc))) rfl (flat_strs _) ⟨_,rfl,?_⟩⟩
    rw[in_strs]
    refine ite2 (fun h=>?_) (fun h=>?_)
    ·have h:(!decide (z∈hs))=true:=h
     exact⟨_,rfl,hacc',by rw[aa];exact small1000 (by omega),_,rfl,by rw[filt_step _ _ _ _ hz,if_pos h,ah];rfl,same_at sm hD0',hD0'⟩
    ·have h:¬ (!decide (z∈hs))=true:=h
     exact⟨hacc',_,rfl,by rw[filt_step _ _ _ _ hz,if_neg h,ba],sm,hD0'⟩
   rintro acc σ' H6 ⟨o,rfl,rfl,s6,hD0'⟩ hacc6
   rw[aa,aw (ae _)] at hacc6
   obtain⟨rs,hrs⟩:∃rs,rs=ls.filter fun z=>!decide (z∈hs):=⟨_,rfl⟩
   rw[<- hrs] at hacc6
   have rsub:∀x∈rs,x∈ls:=fun x hx=>by rw[hrs] at hx;exact(am.mp hx).1
   have rnh:∀x∈rs,x∉hs:=fun x hx=>by rw[hrs] at hx;have:=(am.mp hx).2;simpa using this
   have rsl:rs.length<=ls.length:=by rw[hrs];exact aK _ _
   have hrn:rs ≠ [] := fun z => by
    obtain⟨x,hx,hm⟩:=least_ex (fun s=>os.idxOf s) hne
    have hxr:x∈rs:=by
     rw[hrs]
     refine am.mpr ⟨hx,?_⟩
     have:x∉hs:=fun hxs=>by
      obtain⟨y,hy,hyx⟩:=hh x hxs
      obtain⟨i,j,hij,h1,h2⟩:=fw _ hyx
      have:=hm y hy
      have e1:=idxAt ond h1
      have e2:=idxAt ond h2
      dsimp only at e1 e2 this
      omega
     rw[aI this];rfl
    rw[z] at hxr
    cases hxr
   clear hrs
   have hacc7:=hacc6
   have s47:=s5.trans s6
   have hf7:=s47 _ _ hf4
   have hl7:=s47 _ _ hl4
   have v7:PenV _ p a:=penSame s47 v4
   have b7:=b4.trans (But.of_same (p:=p) s47)
   have nD:D'≠lf:=Ne.symm (ne_of_none ((s5) _ _ hf4) hD0')
   have nDp:D'≠p:=by
    obtain⟨_,hp5⟩:=penAt (penSame s5 v4)
    exact Ne.symm (ne_of_none hp5 hD0')
   have hr0:0<rs.length:=List.length_pos_iff.mpr hrn
   refine⟨_,rfl,_,rfl,_,rfl,_,_,rfl,Or.inl ⟨_,.of hacc7,rfl⟩,p,a,_,rfl,hP.but b7 v7,by rw[aa];omega,by rw[aa];omega,fun r H8 h80 h81 v8 e8=>?_⟩
   rw[aa] at h81
   obtain⟨j,rfl⟩:=bg h80
   have hj:j<rs.length:=by omega
   have b8:=b7.trans (But.of_eq e8)
   have hf8:=(e8 lf (Ne.symm hpf)).trans hf7
   have hl8:=(e8 l3 n3p).trans hl7
   have hacc8:=(e8 D' nDp).trans hacc7
   have htr:rs.getD j ""∈rs:=by rw[aD,ar hj];exact ck hj
   have htm:=rsub _ htr
   have htn:=rnh _ htr
   refine .lst (.of hacc8) (str_at hj) ?_
   clear htr
   generalize rs.getD j ""=t at htm htn ⊢
   refine⟨_,rfl,.inl ⟨rfl,_,.of hf8⟩,_,rfl,lf,_,_,rfl,rfl,hf8,(by rw[aa];exact small1000 (by omega)),?_⟩
   have hl9:upd H8 lf (.lst (List.map V.str fs++[V.str t])) l3=some (.lst (List.map V.str ls)):=by rw[upd_ne (Ne.symm n3)];exact hl8
   have hf9:upd H8 lf (.lst (List.map V.str fs++[V.str t])) lf=some (.lst (List.map V.str (fs++[t]))):=by rw[upd_same,ah];rfl
   have v9:=v8.upd (o:=.lst (List.map V.str fs++[V.str t])) hpf
   have b9:=b8.at (o:=.lst (List.map V.str fs++[V.str t])) hlf
   generalize upd H8 lf (.lst (List.map V.str fs++[V.str t]))=H9 at hl9 hf9 v9 b9 ⊢
   refine⟨_,rfl,l3,rfl,⟨_,.of hl9⟩,?_⟩
   refine comp_list (List.map V.str ls) (fun D2 i acc σ' H'=>∃o,σ'=[o,some (.str t)]/\acc=List.map V.str ((ls.take i).filter fun z=>!decide (V.str z=V.str t))/\Same H9 H'/\H9 D2=none) fun D2 hD2=>⟨?_,?_,?_,?_⟩
   ·exact⟨none,rfl,rfl,Same.new hD2,hD2⟩
   ·rintro i acc σ' H' _ ⟨o,rfl,_,sm,_⟩ _
    exact .of (sm _ _ hl9)
   ·rintro i acc σ' H' x hx ⟨o,rfl,rfl,sm,hD0'⟩ hacc'
    obtain⟨z,hz,rfl⟩:=str_get' hx
    have hil:=(af.mp hz).1
    have fl:=aK (fun z=>!decide (V.str z=V.str t)) (ls.take i)
    rw[av] at fl
    refine⟨_,rfl,_,rfl,.sc rfl ⟨_,rfl,?_⟩⟩
    refine ite2 (fun h=>?_) (fun h=>?_)
    ·have h:(!decide (V.str z=V.str t))=true:=h
     exact⟨_,rfl,hacc',by rw[aa];exact small1000 (by omega),_,rfl,by rw[filt_step _ _ _ _ hz,if_pos h,ah];rfl,same_at sm hD0',hD0'⟩
    ·have h:¬ (!decide (V.str z=V.str t))=true:=h
     exact⟨hacc',_,rfl,by rw[filt_step _ _ _ _ hz,if_neg h,ba],sm,hD0'⟩
   rintro acc σ' HA ⟨o,rfl,rfl,sA,hD20⟩ haccA
   rw[aa,aw (ae _)] at haccA
   have po:=perm_out lnd htm
   have pol:=po.length_eq
   rw[be] at pol
   obtain⟨_,hp9⟩:=penAt v9
   refine⟨_,D2,_,_,_,fs++[t],_,(by omega),rfl,rfl,sA _ _ hf9,haccA,ne_of_none hf9 hD20,Ne.symm (ne_of_none hp9 hD20),?_,fwp.snoc (fun e he e2=>?_),penSame sA v9,b9.trans (But.of_same sA)⟩
   ·rw[List.append_assoc]
    exact(List.Perm.append_left fs po).trans hpm
   ·rcases aq.mp (hpm.mem_iff.mpr (W.inn e he).1) with g | g
    ·exact g
    ·exact absurd (e2 ▸ hh2 e he g) htn
  ·have hnil:ls=[]:=by simpa using hnil
   subst hnil
   rw[ba] at hpm
   exact⟨_,rfl,k1 lf fs H4 hpm (fun e he=>fwp e he (hpm.mem_iff.mpr (W.inn e he).2)) hf4 hlf (Ne.symm hpf) v4 b4⟩
theorem perm_map {α β:Type}{f:α -> β}{ys zs:List β}(h:ys.Perm zs):∀ {xs:List α}, zs=xs.map f -> ∃xs':List α, xs'.Perm xs /\ ys=xs'.map f := by
 induction h with
 | nil=>intro xs e;exact⟨[],by rw[List.map_eq_nil_iff.mp e.symm],rfl⟩
 | cons x _ ih =>
  intro xs e
  cases xs with
  | nil=>cases e
  | cons a xs =>
   obtain⟨e1,e2⟩:=List.cons.inj e
   obtain⟨xs',p,q⟩:=ih e2
   exact⟨a::xs',p.cons a,by rw[e1,q];rfl⟩
 | swap x y l =>
  intro xs e
  match xs,e with
  | [],e=>cases e
  | [_],e=>cases e
  | a::b::xs,e =>
   obtain⟨e1,e2⟩:=List.cons.inj e
   obtain⟨e2,e3⟩:=List.cons.inj e2
   exact⟨b::a::xs,List.Perm.swap ..,by rw[e1,e2,e3];rfl⟩
 | trans _ _ ih1 ih2 =>
  intro xs e
  obtain⟨xs1,p1,q1⟩:=ih2 e
  obtain⟨xs2,p2,q2⟩:=ih1 q1
  exact⟨xs2,p2.trans p1,q2⟩
theorem perm_rep {α:Type}{f:α -> PyData}{H:Hp}{xs ys:List V}(h:ys.Perm xs):∀ {ms:List α}, RepAll H xs (ms.map f) -> ∃ms':List α, ms'.Perm ms /\ RepAll H ys (ms'.map f) := by
 have key:∀ {xs:List V} {ms:List α}, RepAll H xs (ms.map f) -> ∃zs:List (V × α), xs=zs.map (·.1) /\ ms=zs.map (·.2) /\ ∀z ∈ zs, Rep H z.1 (f z.2) := by
  intro xs
  induction xs with
  | nil =>
   intro ms r
   cases ms with
   | nil=>exact⟨[],rfl,rfl,fun _ h=>by cases h⟩
   | cons m ms=>cases r
  | cons x xs ih =>
   intro ms r
   cases ms with
   | nil=>cases r
   | cons m ms =>
    cases r with
    | cons a b =>
     obtain⟨zs,e1,e2,hz⟩:=ih b
     refine⟨(x,m)::zs,by rw[e1];rfl,by rw[e2];rfl,fun z h=>?_⟩
     rcases ax.mp h with rfl | h
     ·exact a
     ·exact hz z h
 have back:∀zs:List (V × α),(∀z∈zs,Rep H z.1 (f z.2))->RepAll H (zs.map (·.1)) ((zs.map (·.2)).map f):=by
  intro zs
  induction zs with
  | nil=>intro _;exact .nil
  | cons z zs ih=>intro h;exact .cons (h z (by simp)) (ih fun y hy=>h y (aN _ hy))
 intro ms r
 obtain⟨zs,e1,e2,hz⟩:=key r
 obtain⟨zs',p,q⟩:=perm_map h e1
 refine⟨zs'.map (·.2),by rw[e2];exact p.map _,?_⟩
 rw[q]
 exact back zs' fun z hz'=>hz z (p.mem_iff.mp hz')
def spTurnV (K:W.Frag):Sp:=fun vs H Q _=>∃(p a n:Addr) (xs:List V),vs=[.ref p,.ref n]/\Pen K H p a/\H n=some (.lst xs)/\n≠p/\xs.length<=60 /\
 ∀l ys H',ys.Perm xs->H' l=some (.lst ys)->H l=none->l≠p->PenV H' p a->But p H H'->Q (.ref l) H'
theorem perm_insV (xs:List V) (j:Nat) (i:V):(xs.take j++i::xs.drop j).Perm (i::xs):=by
 have:=(cw (a:=i) (l₁:=xs.take j) (l₂:=xs.drop j))
 rwa [cx] at this
theorem ok_turnV {f:Addr}{fd:FuncData}(F:Fun K "_law_turned" "_law_turned" sTurned f fd) (B:Blt mg) (c_law_draw:Cal P w K mg base 1 "_law_draw" ["_law_pen_here", "_law_most"] (spDraw K)):FnOk P w K mg base CX0 2 f fd ["_law_pen_here", "_law_some"] (spTurnV K) := by
 refine F.ok scTurned (fun vs H Q E h=>?_) (fun cdv A outer s H vs Q E hr h=>?_)
 ·obtain⟨p,a,n,xs,rfl,_⟩:=h
  rfl
 ·obtain⟨p, a, n, xs, rfl, hP, hn, hnp, hl60, k⟩ := h
  have nd:=scTurned.nd
  have v0:=hP.2
  refine⟨_,(pss_cons (ps_set (i:=2) nd rfl (Or.inl rfl) (pe_lst pa_nil))
   (pss_cons (ps_for PassesOwn.never rfl (pi_listK K (pv 1)) (pg_name (i:=3) nd rfl (Or.inl rfl)) (pss_one (ps_expr (m_insert K (pv 2) (pa_cons (pe_cal c_law_draw (hr.mono (by decide)) rfl (pa_cons (pv 0) (pa_cons (pe_op op_addX (b_len K B (pa_cons (pv 2) pa_nil)) pe_int) pa_nil))) (pa_cons (pv 3) pa_nil))))))
   (pss_one (ps_ret (pv 2))))),?_⟩
  refine⟨(by show 0<=sizeLine;decide),fun lf hlf=>?_⟩
  have hpf:=v0.ne hlf
  have hnf:n≠lf:=ne_of_none hn hlf
  refine⟨_,rfl,n,rfl,⟨_,.of (by rw[upd_ne hnf];exact hn)⟩,?_⟩
  refine for_list (xs:=xs) (fun i σ H'=>∃o3 ys,σ=[some (.ref p),some (.ref n),some (.ref lf),o3]/\H' lf=some (.lst (ys))/\H' n=some (.lst (xs))/\ys.Perm (xs.take i)/\PenV H' p a/\But p H H') ?_ ?_ ?_ ?_
  ·exact⟨none,[],rfl,upd_same,by rw[upd_ne hnf];exact hn,List.Perm.refl _,v0.upd hpf,(But.refl p H).at hlf⟩
  ·rintro i σ H' hi ⟨o3,ys,rfl,_,h1,_⟩
   exact .of h1
  ·rintro i x σ H1 hx ⟨o3,ys,rfl,hf1,hn1,hpm,v1,b1⟩
   obtain⟨z,hz⟩:∃z,z=x:=⟨_,rfl⟩
   subst hz
   have hz:=hx
   have hil:=(af.mp hz).1
   have hyl:=hpm.length_eq
   rw[av] at hyl
   refine⟨_,rfl,.inl ⟨rfl,_,.of hf1⟩,_,rfl,_,rfl,_,_,rfl,Or.inl ⟨_,.of hf1,rfl⟩,.int ⟨p,a,_,rfl,hP.but b1 v1,by omega,by omega,fun r H2 h0 h1 v2 e2=>?_⟩⟩
   obtain⟨j,rfl⟩:=bg h0
   have hf2:H2 lf=some (.lst (ys)):=(e2 lf (Ne.symm hpf)).trans hf1
   have hn2:H2 n=some (.lst (xs)):=(e2 n hnp).trans hn1
   refine⟨_,rfl,lf,_,_,j,_,rfl,rfl,rfl,hf2,by omega,by exact small1000 (by omega),?_⟩
   refine⟨_,ys.take j++z::ys.drop j,rfl,?_,?_,?_,v2.upd hpf,(b1.trans (But.of_eq e2)).at hlf⟩
   ·rw[upd_same]
   ·rw[upd_ne hnf];exact hn2
   ·rw[au,hz]
    exact(perm_insV ys j z).trans ((List.Perm.cons z hpm).trans (List.perm_append_singleton z (xs.take i)).symm)
  ·rintro σ H1 ⟨o3,ys,rfl,hf1,hn1,hpm,v1,b1⟩
   rw[aw (ae _)] at hpm
   exact⟨_,rfl,k lf ys H1 hpm hf1 hlf (Ne.symm hpf) v1 b1⟩
theorem rch_last {α:Type}{R:α -> α -> Prop}{s t:α}:MG.Rch R s t ↔ t=s ∨ ∃z, MG.Rch R s z /\ R z t := by
 constructor
 ·rintro⟨n,h⟩
  cases n with
  | zero=>exact .inl h.symm
  | succ n =>
   obtain⟨z,h1,h2⟩:=h
   exact .inr ⟨z,⟨n,h1⟩,h2⟩
 ·rintro (rfl | ⟨z,⟨n,h⟩,r⟩)
  ·exact⟨0,rfl⟩
  ·exact⟨n+1,z,h,r⟩
def seg (os:List Str) (a b:Nat):List Str:=(os.take b).drop a
theorem seg_front {os:List Str}{q b:Nat}(hq:q<b) (hb:b<=os.length):seg os q b=os.getD q ""::seg os (q+1) b:=by
 unfold seg
 have hl:q<(os.take b).length:=by rw[av];omega
 rw[List.drop_eq_getElem_cons hl,List.getElem_take,aD,ar (by omega)];rfl
theorem seg_snoc {os:List Str}{a b:Nat}(ha:a<=b) (hb:b<os.length):seg os a (b+1)=seg os a b++[os.getD b ""]:=by
 unfold seg
 rw[au,ar hb,List.drop_append_of_le_length (by rw[av];omega),aD,ar hb];rfl
theorem mem_seg {os:List Str}(nd:os.Nodup) {a b:Nat}{x:Str}(hb:b<=os.length):x∈seg os a b ↔ x∈os/\a<=os.idxOf x/\os.idxOf x<b:=by
 unfold seg
 constructor
 ·intro h
  obtain⟨j,hj⟩:=List.mem_iff_getElem?.mp h
  rw[bI] at hj
  have hlt:=(af.mp hj).1
  rw[av] at hlt
  rw[bu (by omega)] at hj
  have:=idx_of nd hj
  exact⟨aj hj,by omega,by omega⟩
 ·rintro⟨hm,h1,h2⟩
  refine List.mem_iff_getElem?.mpr ⟨os.idxOf x-a,?_⟩
  rw[bI,bu (by omega),show a+(os.idxOf x-a)=os.idxOf x by omega]
  exact get_idx hm
theorem fwd_idx {os:List Str}{ts:List (Str × Str)}(nd:os.Nodup) (fw:Fwd os ts) {e:Str × Str}(he:e∈ts):os.idxOf e.1<os.idxOf e.2:=by
 obtain⟨i,j,hij,h1,h2⟩:=fw e he
 rw[<- idx_of nd h1,<- idx_of nd h2];exact hij
theorem mem_flip {ts:List (Str × Str)}{a b:Str}:Tie (flipE ts) a b ↔ (b,a)∈ts:=by
 show (a,b)∈flipE ts ↔ _
 unfold flipE
 rw[ap]
 constructor
 ·rintro⟨e,he,ee⟩
  have h1:e.2=a:=congrArg Prod.fst ee
  have h2:e.1=b:=congrArg Prod.snd ee
  rw[<- h1,<- h2];exact he
 ·intro h
  exact⟨(b,a),h,rfl⟩
theorem rch_up {os:List Str}{ts:List (Str × Str)}(nd:os.Nodup) (fw:Fwd os ts) {a b:Str}(h:MG.Rch (Tie ts) a b):os.idxOf a<=os.idxOf b:=by
 obtain⟨n,h⟩:=h
 induction n generalizing b with
 | zero=>rw[show a=b from h];exact ae _
 | succ n ih =>
  obtain⟨z,h1,h2⟩:=h
  have h3:=fwd_idx nd fw (e:=(z,b)) h2
  have h4:=ih h1
  have h3:os.idxOf z<os.idxOf b:=h3
  omega
theorem rch_dn {os:List Str}{ts:List (Str × Str)}(nd:os.Nodup) (fw:Fwd os ts) {a b:Str}(h:MG.Rch (Tie (flipE ts)) a b):os.idxOf b<=os.idxOf a:=by
 obtain⟨n,h⟩:=h
 induction n generalizing b with
 | zero=>rw[show a=b from h];exact ae _
 | succ n ih =>
  obtain⟨z,h1,h2⟩:=h
  have h3:=fwd_idx nd fw (e:=(b,z)) (mem_flip.mp h2)
  have h4:=ih h1
  have h3:os.idxOf b<os.idxOf z:=h3
  omega
theorem idx_getD {os:List Str}(nd:os.Nodup) {q:Nat}(h:q<os.length):os.idxOf (os.getD q "")=q:=by
 refine(idx_of nd ?_).symm
 rw[aD,ar h];rfl
theorem dn_step {os:List Str}{ts:List (Str × Str)}(nd:os.Nodup) (fw:Fwd os ts) {one:Str}(h1:one ∈ os) {q:Nat}(hq:q<os.idxOf one) :
    (∃e∈ts,e.1=os.getD q ""/\e.2∈(seg os (q+1) (os.idxOf one+1)).filter fun t=>rB (flipE ts) one t) ↔ rB (flipE ts) one (os.getD q "")=true:=by
 have hi:=aR h1
 have hqi:=idx_getD nd (show q<os.length by omega)
 rw[rB_iff,rch_last]
 constructor
 ·rintro⟨e,he,e1,e2⟩
  obtain⟨_,g⟩:=am.mp e2
  refine .inr ⟨e.2,rB_iff.mp g,mem_flip.mpr ?_⟩
  rw[<- e1];exact he
 ·rintro (e | ⟨z,hz,r⟩)
  ·rw[e] at hqi;omega
  ·have r:=mem_flip.mp r
   have h3:os.idxOf (os.getD q "")<os.idxOf z:=fwd_idx nd fw r
   have h4:=rch_dn nd fw hz
   refine⟨_,r,rfl,am.mpr ⟨(mem_seg nd (by omega)).mpr ⟨?_,by show _<=os.idxOf z;omega,by show os.idxOf z<_;omega⟩,rB_iff.mpr hz⟩⟩
   obtain⟨_,j,_,_,h5⟩:=fw _ r
   exact aj h5
theorem up_step {os:List Str}{ts:List (Str × Str)}(nd:os.Nodup) (fw:Fwd os ts) {other:Str}{q:Nat}(hl:os.idxOf other<q) (hq:q<os.length) :
    (∃e∈ts,e.2=os.getD q ""/\e.1∈(seg os (os.idxOf other) q).filter fun t=>rB ts other t) ↔ rB ts other (os.getD q "")=true:=by
 have hqi:=idx_getD nd hq
 rw[rB_iff,rch_last]
 constructor
 ·rintro⟨e,he,e1,e2⟩
  obtain⟨_,g⟩:=am.mp e2
  refine .inr ⟨e.1,rB_iff.mp g,?_⟩
  rw[<- e1];exact he
 ·rintro (e | ⟨z,hz,r⟩)
  ·rw[e] at hqi;omega
  ·have h3:os.idxOf z<os.idxOf (os.getD q ""):=fwd_idx nd fw r
   have h4:=rch_up nd fw hz
   refine⟨_,r,rfl,am.mpr ⟨(mem_seg nd (by omega)).mpr ⟨?_,h4,by show os.idxOf z<_;omega⟩,rB_iff.mpr hz⟩⟩
   obtain⟨i,_,_,h5,_⟩:=fw _ r
   exact aj h5
theorem eqY_nil {neg:Bool}{H:Hp}{a b:Addr}{acc:List V}{Q:VK}(ha:H a=some (.lst acc)) (hb:H b=some (.lst [])) (k:Q (.bl (if neg then !decide (acc.length=0) else decide (acc.length=0))) H):EqR neg H (.ref a) (.ref b) Q∨rLens neg (.ref a) (.ref b) H Q:=by
 cases acc with
 | nil =>
  refine .inl (.tr (.lst ha .nil) (.lst hb .nil) (by rfl) (by rfl) ?_)
  exact k
 | cons x xs =>
  refine .inr ⟨a,b,x::xs,[],rfl,rfl,ha,hb,by simp,?_⟩
  have e:decide ((x::xs).length=0)=false:=aI (by simp)
  rw[e] at k
  cases neg
  ·exact k
  ·exact k
def spSorts:Sp:=fun vs H Q _=>∃(wq lo pq:Addr) (ss:List Str) (ts:List (Str × Str)) (os:List Str) (one other:Str),vs=[.ref wq,.ref lo,.ref pq]/\H pq=some (.tup [.str one,.str other])/\WebO H (.ref wq) ss ts lo os/\Fwd os ts/\one∈ss/\other∈ss/\os.idxOf other<os.idxOf one/\ts.length<=200 /\
 ∀q a b H',Same H H'->H' q=some (.tup [.ref a,.ref b])->H' a=some (.lst (List.map V.str (dueB os ts one other)))->H' b=some (.lst (List.map V.str (dueF os ts one other)))->Q (.ref q) H'
theorem scSorts:FnScope ["_law_web_here","_law_order","_law_pair_here","_law_high","_law_low","_law_downs","_law_ups","_law_place"] ["_law_web_here","_law_order","_law_pair_here"] (defScope sSorts):=⟨rfl,rfl,rfl,by decide +kernel,rfl,by decide +kernel,by decide +kernel⟩
theorem ok_sorts {f:Addr}{fd:FuncData}(F:Fun K "_law_sorts" "_law_sorts" sSorts f fd) (B:Blt mg):FnOk P w K mg base CX0 1 f fd ["_law_web_here", "_law_order", "_law_pair_here"] spSorts := by
 refine F.ok scSorts (fun vs H Q E h=>?_) (fun cdv A outer s H vs Q E hr h=>?_)
 ·obtain⟨wq,lo,pq,ss,ts,os,one,other,rfl,_⟩:=h
  rfl
 ·obtain⟨wq,lo,pq,ss,ts,os,one,other,rfl,hpq,W,fw,h1,h2,hlt,few,k⟩:=h
  have nd:=scSorts.nd
  have osl:=W.pm.length_eq
  have h60:=W.web.len
  have ond:os.Nodup:=W.pm.nodup_iff.mpr W.web.nd
  have m1:one∈os:=W.pm.mem_iff.mpr h1
  have m2:other∈os:=W.pm.mem_iff.mpr h2
  have i1:=aR m1
  have i2:=aR m2
  have g1:os.getD (os.idxOf one) ""=one:=by rw[aD,get_idx m1];rfl
  have g2:os.getD (os.idxOf other) ""=other:=by rw[aD,get_idx m2];rfl
  have atp:∀q,q<os.length->atI (List.map V.str os) ((q:Nat):Int)=some (.str (os.getD q "")):=fun q h=>str_at h
  obtain⟨z1,a1,a2,a3⟩:=index_at ond m1
  obtain⟨z2,c1,c2,c3⟩:=index_at ond m2
  refine⟨_,(pss_cons (ps_set (i:=3) nd rfl (Or.inl rfl) (m_index K (pv 1) (pa_cons (pe_ix (ix_X K hr.units) (pv 2) pe_int (fun _ _=>rfl)) pa_nil)))
   (pss_cons (ps_set (i:=4) nd rfl (Or.inl rfl) (m_index K (pv 1) (pa_cons (pe_ix (ix_X K hr.units) (pv 2) pe_int (fun _ _=>rfl)) pa_nil)))
   (pss_cons (ps_set (i:=5) nd rfl (Or.inr rfl) (pe_lst (pa_cons (pe_ix (ix_X K hr.units) (pv 2) pe_int (fun _ _=>rfl)) pa_nil)))
   (pss_cons (ps_set (i:=6) nd rfl (Or.inr rfl) (pe_lst (pa_cons (pe_ix (ix_X K hr.units) (pv 2) pe_int (fun _ _=>rfl)) pa_nil)))
   (pss_cons (ps_for PassesOwn.never rfl (pi_rangeD rfl B.range (pa_cons (pe_op op_sub (pv 3) pe_int) (pa_cons (pe_op op_sub (pv 4) pe_int) (pa_cons (pe_un un_neg pe_int) pa_nil)))) (pg_name (i:=7) nd rfl (Or.inr rfl)) (pss_one (ps_if (pt_cmpR (op_neY hr.units) (pe_comp (defScope sSorts) ["_law_web_here","_law_order","_law_pair_here","_law_high","_law_low","_law_downs","_law_ups","_law_place"] ["_law_one","_law_other"] [5,1,7] ["_law_one","_law_other","_law_downs","_law_order","_law_place"] rfl (pi_tupK K (pe_ix (ix_X K hr.units) (pv 0) pe_int (fun _ _=>rfl))) (fun _ _ _ _ _=>(pg_tupK (n:=2) K rfl (pgs_cons (pg_name (i:=0) (show (["_law_one","_law_other","_law_downs","_law_order","_law_place"]:List Str).Nodup by decide) rfl (Or.inl rfl)) (pgs_cons (pg_name (i:=1) (show (["_law_one","_law_other","_law_downs","_law_order","_law_place"]:List Str).Nodup by decide) rfl (Or.inl rfl)) pgs_nil)))) (fun _ _ _ _ _=>(pts_one (PW.pt (pw_and (pt_cmpR (op_eqX hr.units) (pv 0) (pe_ix (ix_X K hr.units) (pv 3) (pv 4) (fun _ _=>rfl)) (nomark _)) (pw_and1 (pt_cmpR (op_inX K hr.units) (pv 1) (pv 2) (by with_unfolding_all rfl))))))) (fun _ _ _ _ _=>(pv 1))) (pe_lst pa_nil) (nomark _)) (pss_one (ps_expr (m_insert K (pv 5) (pa_cons pe_int (pa_cons (pe_ix (ix_X K hr.units) (pv 1) (pv 7) (fun _ _=>rfl)) pa_nil))))) pss_nil)))
   (pss_cons (ps_for PassesOwn.never rfl (pi_range2 rfl B.range (pa_cons (pe_op op_addX (pv 4) pe_int) (pa_cons (pe_op op_addX (pv 3) pe_int) pa_nil))) (pg_name (i:=7) nd rfl (Or.inr rfl)) (pss_one (ps_if (pt_cmpR (op_neY hr.units) (pe_comp (defScope sSorts) ["_law_web_here","_law_order","_law_pair_here","_law_high","_law_low","_law_downs","_law_ups","_law_place"] ["_law_one","_law_other"] [6,1,7] ["_law_one","_law_other","_law_ups","_law_order","_law_place"] rfl (pi_tupK K (pe_ix (ix_X K hr.units) (pv 0) pe_int (fun _ _=>rfl))) (fun _ _ _ _ _=>(pg_tupK (n:=2) K rfl (pgs_cons (pg_name (i:=0) (show (["_law_one","_law_other","_law_ups","_law_order","_law_place"]:List Str).Nodup by decide) rfl (Or.inl rfl)) (pgs_cons (pg_name (i:=1) (show (["_law_one","_law_other","_law_ups","_law_order","_law_place"]:List Str).Nodup by decide) rfl (Or.inl rfl)) pgs_nil)))) (fun _ _ _ _ _=>(pts_one (PW.pt (pw_and (pt_cmpR (op_eqX hr.units) (pv 1) (pe_ix (ix_X K hr.units) (pv 3) (pv 4) (fun _ _=>rfl)) (nomark _)) (pw_and1 (pt_cmpR (op_inX K hr.units) (pv 0) (pv 2) (by with_unfolding_all rfl))))))) (fun _ _ _ _ _=>(pv 0))) (pe_lst pa_nil) (nomark _)) (pss_one (ps_expr (m_append K (pv 6) (pa_cons (pe_ix (ix_X K hr.units) (pv 1) (pv 7) (fun _ _=>rfl)) pa_nil)))) pss_nil)))
   (pss_one (ps_ret (pe_tup (pa_cons (pv 5) (pa_cons (pv 6) pa_nil))))))))))),?_⟩
  refine⟨_,rfl,.inl ⟨rfl,_,.of W.ord⟩,_,rfl,.tup (.of hpq) rfl (nil_ ⟨lo,_,_,_,z1,rfl,rfl,W.ord,rfl,flat_strs _,a1,a2,a3,?_⟩)⟩
  refine⟨_,rfl,.inl ⟨rfl,_,.of W.ord⟩,_,rfl,.tup (.of hpq) rfl (nil_ ⟨lo,_,_,_,z2,rfl,rfl,W.ord,rfl,flat_strs _,c1,c2,c3,?_⟩)⟩
  generalize ehi:os.idxOf one=hi at *
  generalize elo:os.idxOf other=low at *
  refine⟨_,rfl,.tup (.of hpq) rfl (nil_ ⟨(by show 1<=sizeLine;decide),fun ld hld=>?_⟩)⟩
  have s1:=Same.new (o:=.lst [.str one]) hld
  have e1:upd H ld (.lst [.str one]) ld=some (.lst [.str one]):=upd_same
  generalize upd H ld (.lst [.str one])=H1 at s1 e1 ⊢
  refine⟨_,rfl,.tup (.of (s1 _ _ hpq)) rfl (nil_ ⟨(by show 1<=sizeLine;decide),fun lu hlu=>?_⟩)⟩
  have s2:=s1.trans (Same.new (o:=.lst [.str other]) hlu)
  have e2:upd H1 lu (.lst [.str other]) lu=some (.lst [.str other]):=upd_same
  have ndu:ld≠lu:=ne_of_none e1 hlu
  have d2:upd H1 lu (.lst [.str other]) ld=some (.lst [.str one]):=by rw[upd_ne ndu];exact e1
  have hu0:H lu=none:=same_free s1 hlu
  generalize upd H1 lu (.lst [.str other])=H2 at s2 e2 d2 ⊢
  have W2:=W.web.same s2
  obtain⟨wq',wa,wb,xs,e0,hq,ha,hb,rp⟩:=web_at (W.web.rep)
  cases e0
  have rlen:=rp.len
  rw[aa] at rlen
  have rone:rB (flipE ts) one one=true:=rB_iff.mpr ⟨0,rfl⟩
  have roth:rB ts other other=true:=rB_iff.mpr ⟨0,rfl⟩
  have nld:∀ {H':Hp},Same H H'->H' lo=some (.lst (List.map V.str os)):=fun s=>s _ _ W.ord
  refine⟨_,rfl,_,_,rfl,rfl,_,rfl,_,_,rfl,rfl,_,rfl,nil_ ⟨_,_,rfl,⟨by omega,by omega,by omega,by omega⟩,?_⟩⟩
  rw[show ((((hi:Nat):Int)-1)-(((low:Nat):Int)-1)).toNat=hi-low by omega]
  refine for_down (fun j σ H'=>∃o7,σ=[some (.ref wq),some (.ref lo),some (.ref pq),some (.int (hi:Int)),some (.int (low:Int)),some (.ref ld),some (.ref lu),o7]/\Same H H'/\H' ld=some (.lst (List.map V.str ((seg os (hi-j) (hi+1)).filter fun t=>rB (flipE ts) one t)))/\H' lu=some (.lst [.str other])) ?_ ?_ ?_
  ·refine⟨none,rfl,s2,?_,e2⟩
   rw[Nat.sub_zero,seg_front (by omega) (by omega),g1,show seg os (hi+1) (hi+1)=[] by unfold seg;rw[List.drop_eq_nil_iff,av];omega,ce,if_pos rone]
   exact d2
  ·rintro j σ H3 hj ⟨o7, rfl, s3, d3, u3⟩
   obtain⟨q,eq⟩:∃q,q=hi-1-j:=⟨_,rfl⟩
   have eqi:((hi:Nat):Int)-1-(j:Nat)=((q:Nat):Int):=by omega
   rw[eqi]
   have hq1:q<hi:=by omega
   have eseg:hi-j=q+1:=by omega
   rw[eseg] at d3
   obtain⟨D0,eD0⟩:∃D0,D0=(seg os (q+1) (hi+1)).filter fun t=>rB (flipE ts) one t:=⟨_,rfl⟩
   rw[<- eD0] at d3
   refine⟨_,rfl,.tup (.of (s3 _ _ hq)) rfl ⟨wb,rfl,⟨_,.of (s3 _ _ hb)⟩,?_⟩⟩
   refine comp_tup xs (fun C i acc σ' H'=>∃o0 o1,σ'=[o0,o1,some (.ref ld),some (.ref lo),some (.int (q:Int))]/\acc.length<=i/\(acc.length=0 ↔ ¬ ∃e∈ts.take i,e.1=os.getD q ""/\e.2∈D0)/\Same H3 H'/\H3 C=none) fun C hC=>⟨?_,?_,?_,?_⟩
   ·exact⟨none,none,rfl,ae _,⟨(fun _ ⟨e,he,_⟩=>by cases he),fun _=>rfl⟩,Same.new hC,hC⟩
   ·rintro i acc σ' H' _ ⟨o0,o1,rfl,_,_,sm,_⟩ _
    exact .of (sm _ _ (s3 _ _ hb))
   ·rintro i acc σ' H' x hx ⟨o0, o1, rfl, hal, hiff, sm, hC0⟩ hacc
    obtain⟨e,ta,he,rfl,hta⟩:=pair_get ((rp.same s3).same sm) hx
    have hil:=(af.mp he).1
    have tk1:ts.take (i+1)=ts.take i++[e]:=by rw[au,he];rfl
    refine⟨ta,_,rfl,.of hta,rfl,_,_,rfl,_,_,rfl,rfl,?_⟩
    refine⟨_,rfl,_,rfl,_,rfl,.lst (.of (sm _ _ (nld s3))) (atp q (by omega)) (.sc rfl ⟨_,rfl,ite2 (fun h3=>?_) (fun h3=>?_)⟩)⟩
    ·have h3:e.1=os.getD q "" := V.str.inj (az h3)
     refine⟨_,rfl,_,rfl,.seq (.inl (.of (sm _ _ d3))) rfl (flat_strs _) ⟨_,rfl,?_⟩⟩
     rw[in_strs]
     refine ite2 (fun h4=>?_) (fun h4=>?_)
     ·have h4:e.2∈D0:=az h4
      refine⟨_,rfl,hacc,small1000 (by omega),_,_,rfl,by rw[aG];show acc.length+1<=_;omega,⟨fun z=>?_,fun z=>?_⟩,same_at sm hC0,hC0⟩
      ·rw[aG] at z
       have z:acc.length+1=0:=z
       omega
      ·exact absurd ⟨e,by rw[tk1];simp,h3,h4⟩ z
     ·have h4:e.2∉D0:=fun z=>h4 (ao z)
      refine⟨hacc,_,_,rfl,by omega,?_,sm,hC0⟩
      rw[hiff,tk1]
      refine not_congr ⟨fun ⟨e',a,b⟩=>⟨e',aq.mpr (.inl a),b⟩,fun ⟨e',a,b,c⟩=>?_⟩
      rcases aq.mp a with a | a
      ·exact⟨e',a,b,c⟩
      ·rw[aQ.mp a] at c;exact absurd c h4
    ·have h3:¬ e.1=os.getD q "":=fun z=>h3 (ao (by rw[z]))
     refine iteF ⟨hacc,_,_,rfl,by omega,?_,sm,hC0⟩
     rw[hiff,tk1]
     refine not_congr ⟨fun ⟨e',a,b⟩=>⟨e',aq.mpr (.inl a),b⟩,fun ⟨e',a,b,c⟩=>?_⟩
     rcases aq.mp a with a | a
     ·exact⟨e',a,b,c⟩
     ·rw[aQ.mp a] at b;exact absurd b h3
   rintro acc σ' H4 ⟨o0,o1,rfl,hal,hiff,s4,hC0⟩ hacc
   rw[rlen,aw (ae _),eD0] at hiff
   have stp:=dn_step ond fw m1 (q:=q) (by rw[ehi];exact hq1)
   rw[ehi] at stp
   rw[stp] at hiff
   refine⟨(by show 0<=sizeLine;decide),fun le hle=>?_⟩
   have se:=Same.new (o:=.lst []) hle
   have ee:upd H4 le (.lst []) le=some (.lst []):=upd_same
   have cc:=se _ _ hacc
   have d5:=se _ _ (s4 _ _ d3)
   have u5:=se _ _ (s4 _ _ u3)
   have s5:=(s3.trans s4).trans se
   generalize upd H4 le (.lst [])=H5 at se ee cc d5 u5 s5 ⊢
   have hd0:H ld=none:=hld
   refine eqY_nil cc ee ⟨_,rfl,ite2 (fun h=>?_) (fun h=>?_)⟩
   ·have hB:rB (flipE ts) one (os.getD q "")=true:=by
       cases c:rB (flipE ts) one (os.getD q "") with
       | true=>rfl
       | false=>rw[hiff.mpr (by rw[c];exact fun z=>by cases z)] at h;exact absurd h (by decide)
    have dl:D0.length<=60:=by rw[eD0];have:=aK (fun t=>rB (flipE ts) one t) (seg os (q+1) (hi+1));unfold seg at this ⊢;rw[bv,av] at this;omega
    refine⟨_,rfl,.inl ⟨rfl,_,.of d5⟩,_,rfl,_,rfl,.lst (.of (nld s5)) (atp q (by omega)) (nil_ ⟨ld,_,_,0,_,rfl,rfl,rfl,d5,a0 _,by rw[aa];exact small1000 (by omega),?_⟩)⟩
    refine⟨_,rfl,same_at s5 hd0,?_,by rw[upd_ne (Ne.symm ndu)];exact u5⟩
    rw[upd_same,show hi-(j+1)=q by omega,seg_front (by omega) (by omega),ce,if_pos hB,<- eD0];rfl
   ·have hB:rB (flipE ts) one (os.getD q "")=false := by
       cases c:rB (flipE ts) one (os.getD q "") with
       | false=>rfl
       | true=>exact absurd (by
           have:¬ acc.length=0:=fun z=>hiff.mp z c
           rw[aI this];rfl) h
    refine⟨_,rfl,s5,?_,u5⟩
    rw[show hi-(j+1)=q by omega,seg_front (by omega) (by omega),ce,if_neg (by rw[hB];decide),<- eD0]
    exact d5
  ·rintro σ H3 ⟨o7, rfl, s3, d3, u3⟩
   rw[show hi-(hi-low)=low by omega] at d3
   refine⟨_,rfl,.int ⟨_,rfl,.int (nil_ ⟨_,_,rfl,⟨by omega,by omega,by omega,by omega⟩,?_⟩)⟩⟩
   rw[show ((((hi:Nat):Int)+1)-(((low:Nat):Int)+1)).toNat=hi-low by omega]
   refine for_range (fun j σ H'=>∃o7,σ=[some (.ref wq),some (.ref lo),some (.ref pq),some (.int (hi:Int)),some (.int (low:Int)),some (.ref ld),some (.ref lu),o7]/\Same H H'/\H' ld=some (.lst (List.map V.str ((seg os low (hi+1)).filter fun t=>rB (flipE ts) one t)))/\H' lu=some (.lst (List.map V.str ((seg os low (low+1+j)).filter fun t=>rB ts other t)))) ?_ ?_ ?_
   ·refine⟨_,rfl,s3,d3,?_⟩
    rw[show low+1+0=low+1 by omega,seg_front (by omega) (by omega),g2,show seg os (low+1) (low+1)=[] by unfold seg;rw[List.drop_eq_nil_iff,av];omega,ce,if_pos roth]
    exact u3
   ·clear s3 d3 u3 o7
    rintro j σ H3 hj ⟨o7,rfl,s3,d3,u3⟩
    obtain⟨q,eq⟩:∃q,q=low+1+j:=⟨_,rfl⟩
    have eqi:((low:Nat):Int)+1+(j:Nat)=((q:Nat):Int):=by omega
    rw[eqi]
    rw[<- eq] at u3
    obtain⟨D0,eD0⟩:∃D0,D0=(seg os low q).filter fun t=>rB ts other t:=⟨_,rfl⟩
    rw[<- eD0] at u3
    refine⟨_,rfl,.tup (.of (s3 _ _ hq)) rfl ⟨wb,rfl,⟨_,.of (s3 _ _ hb)⟩,?_⟩⟩
    refine comp_tup xs (fun C i acc σ' H'=>∃o0 o1,σ'=[o0,o1,some (.ref lu),some (.ref lo),some (.int (q:Int))]/\acc.length<=i/\(acc.length=0 ↔ ¬ ∃e∈ts.take i,e.2=os.getD q ""/\e.1∈D0)/\Same H3 H'/\H3 C=none) fun C hC=>⟨?_,?_,?_,?_⟩
    ·exact⟨none,none,rfl,ae _,⟨(fun _ ⟨e,he,_⟩=>by cases he),fun _=>rfl⟩,Same.new hC,hC⟩
    ·rintro i acc σ' H' _ ⟨o0,o1,rfl,_,_,sm,_⟩ _
     exact .of (sm _ _ (s3 _ _ hb))
    ·rintro i acc σ' H' x hx ⟨o0, o1, rfl, hal, hiff, sm, hC0⟩ hacc
     obtain⟨e,ta,he,rfl,hta⟩:=pair_get ((rp.same s3).same sm) hx
     have hil:=(af.mp he).1
     have tk1:ts.take (i+1)=ts.take i++[e]:=by rw[au,he];rfl
     refine⟨ta,_,rfl,.of hta,rfl,_,_,rfl,_,_,rfl,rfl,?_⟩
     refine⟨_,rfl,_,rfl,_,rfl,.lst (.of (sm _ _ (nld s3))) (atp q (by omega)) (.sc rfl ⟨_,rfl,ite2 (fun h3=>?_) (fun h3=>?_)⟩)⟩
     ·have h3:e.2=os.getD q "" := V.str.inj (az h3)
      refine⟨_,rfl,_,rfl,.seq (.inl (.of (sm _ _ u3))) rfl (flat_strs _) ⟨_,rfl,?_⟩⟩
      rw[in_strs]
      refine ite2 (fun h4=>?_) (fun h4=>?_)
      ·have h4:e.1∈D0:=az h4
       refine⟨_,rfl,hacc,small1000 (by omega),_,_,rfl,by rw[aG];show acc.length+1<=_;omega,⟨fun z=>?_,fun z=>?_⟩,same_at sm hC0,hC0⟩
       ·rw[aG] at z
        have z:acc.length+1=0:=z
        omega
       ·exact absurd ⟨e,by rw[tk1];simp,h3,h4⟩ z
      ·have h4:e.1∉D0:=fun z=>h4 (ao z)
       refine⟨hacc,_,_,rfl,by omega,?_,sm,hC0⟩
       rw[hiff,tk1]
       refine not_congr ⟨fun ⟨e',a,b⟩=>⟨e',aq.mpr (.inl a),b⟩,fun ⟨e',a,b,c⟩=>?_⟩
       rcases aq.mp a with a | a
       ·exact⟨e',a,b,c⟩
       ·rw[aQ.mp a] at c;exact absurd c h4
     ·have h3:¬ e.2=os.getD q "":=fun z=>h3 (ao (by rw[z]))
      refine iteF ⟨hacc,_,_,rfl,by omega,?_,sm,hC0⟩
      rw[hiff,tk1]
      refine not_congr ⟨fun ⟨e',a,b⟩=>⟨e',aq.mpr (.inl a),b⟩,fun ⟨e',a,b,c⟩=>?_⟩
      rcases aq.mp a with a | a
      ·exact⟨e',a,b,c⟩
      ·rw[aQ.mp a] at b;exact absurd b h3
    rintro acc σ' H4 ⟨o0,o1,rfl,hal,hiff,s4,hC0⟩ hacc
    rw[rlen,aw (ae _),eD0] at hiff
    have stp:=up_step ond fw (other:=other) (q:=q) (by rw[elo];omega) (by omega)
    rw[elo] at stp
    rw[stp] at hiff
    refine⟨(by show 0<=sizeLine;decide),fun le hle=>?_⟩
    have se:=Same.new (o:=.lst []) hle
    have ee:upd H4 le (.lst []) le=some (.lst []):=upd_same
    have cc:=se _ _ hacc
    have d5:=se _ _ (s4 _ _ d3)
    have u5:=se _ _ (s4 _ _ u3)
    have s5:=(s3.trans s4).trans se
    generalize upd H4 le (.lst [])=H5 at se ee cc d5 u5 s5 ⊢
    refine eqY_nil cc ee ⟨_,rfl,ite2 (fun h=>?_) (fun h=>?_)⟩
    ·have hB:rB ts other (os.getD q "")=true:=by
        cases c:rB ts other (os.getD q "") with
        | true=>rfl
        | false=>rw[hiff.mpr (by rw[c];exact fun z=>by cases z)] at h;exact absurd h (by decide)
     have dl:D0.length<=60:=by rw[eD0];have:=aK (fun t=>rB ts other t) (seg os low q);unfold seg at this ⊢;rw[bv,av] at this;omega
     refine⟨_,rfl,.inl ⟨rfl,_,.of u5⟩,_,rfl,_,rfl,.lst (.of (nld s5)) (atp q (by omega)) (nil_ ⟨lu,_,_,rfl,rfl,u5,by rw[aa];exact small1000 (by omega),?_⟩)⟩
     refine⟨_,rfl,same_at s5 hu0,by rw[upd_ne ndu];exact d5,?_⟩
     rw[upd_same,show low+1+(j+1)=q+1 by omega,seg_snoc (by omega) (by omega),aY,ah,<- eD0,ce,if_pos hB];rfl
    ·have hB:rB ts other (os.getD q "")=false := by
        cases c:rB ts other (os.getD q "") with
        | false=>rfl
        | true=>exact absurd (by
            have:¬ acc.length=0:=fun z=>hiff.mp z c
            rw[aI this];rfl) h
     refine⟨_,rfl,s5,d5,?_⟩
     rw[show low+1+(j+1)=q+1 by omega,seg_snoc (by omega) (by omega),aY,<- eD0,ce,if_neg (by rw[hB];decide),List.filter_nil,ba]
     exact u5
   ·clear s3 d3 u3 o7
    rintro σ H3 ⟨o7,rfl,s3,d3,u3⟩
    rw[show low+1+(hi-low)=hi+1 by omega] at u3
    refine⟨_,rfl,_,rfl,nil_ ⟨(by show 2<=sizeLine;decide),fun q hq'=>?_⟩⟩
    have sq:=Same.new (o:=.tup [.ref ld,.ref lu]) hq'
    refine k q ld lu _ (s3.trans sq) upd_same ?_ ?_
    ·unfold dueB
     rw[ehi,elo,if_neg (by omega)]
     exact sq _ _ d3
    ·unfold dueF
     rw[ehi,elo,if_neg (by omega)]
     exact sq _ _ u3
theorem pe_fldK {X:Cx}(K:W.Frag) {e:Expr}{ta:TE}{f:Str}{pos:Pos}(he:PE X e ta) (hb:attributeBase e f X.env (eval e X.env)=eval e X.env) (hK:X.K=K:=by rfl):PE X (.Attribute e f pos) (tFldX K ta f):=by
 subst hK
 exact pe_fldX he hb
def RingN (ss:List Str) (ts:List (Str × Str)) (one other:Str) (ws:List Nat):Prop:=∃k,MG.To (numV ss ts) (ss.idxOf one) k (ss.idxOf other)/\MG.Wy (numV ss ts) (ss.idxOf one) k (ss.idxOf other) ws
def ringL (ss:List Str) (one:Str) (ws:List Nat):List Str:=(ss.idxOf one::ws.dropLast).map (nmA ss)
def spStrB (C:Addr):Sp:=fun vs H Q E=>∃(wq lo:Addr) (ss:List Str) (ts:List (Str × Str)) (os:List Str) (one other:Str),vs=[.ref wq,.ref lo,.str one,.str other]/\WebO H (.ref wq) ss ts lo os/\one∈ss/\other∈ss /\
 (¬ isRing os ts one other->∀q a b H',Same H H'->H' q=some (.tup [.ref a,.ref b])->H' a=some (.lst (List.map V.str (dueB os ts one other)))->H' b=some (.lst (List.map V.str (dueF os ts one other)))->Q (.ref q) H') /\
 (isRing os ts one other->∀ws r d H',RingN ss ts one other ws->Same H H'->H r=none->H d=none->H' r=some (.lst (List.map V.str (ringL ss one ws)))->H' d=some (.xd [("ring",.ref r)])->E (.ref C) (some d) H')
theorem ok_strB {f:Addr}{fd:FuncData}{C:Addr}(F:FnOk P w K mg base CX0 5 f fd ["web","order","one","other"] spStretch) (G:FnOk P w K mg base (CX1 P w) 6 f fd ["web","order","one","other"] (spStrX C)):FnOk P w K mg base (CX1 P w) 6 f fd ["web","order","one","other"] (spStrB C) :=
 ⟨fun vs H Q E ⟨wq,lo,ss,ts,os,one,other,e,_⟩=>by rw[e];rfl,fun A outer s H args us vs Q E hr he hb hv ⟨wq,lo,ss,ts,os,one,other,e,W,m1,m2,kn,kr⟩=>by
  by_cases q:isRing os ts one other
  ·exact G.run A outer s H args us vs Q E hr he hb hv ⟨wq,lo,ss,ts,os,one,other,e,W,m1,m2,q,fun k ws r d H' to1 wy s1 hr0 hd0 h3 h4=>kr q ws r d H' ⟨k,to1,wy⟩ s1 hr0 hd0 h3 h4⟩
  ·exact F.lift.run A outer s H args us vs Q E (hr.mono (by decide)) he hb hv ⟨wq,lo,ss,ts,os,one,other,e,W,m1,m2,q,fun q' a b H' s1 h1 h2 h3 _ _ _=>kn q q' a b H' s1 h1 h2 h3⟩⟩
def spTold:Sp:=fun vs H Q _=>∃(wq lo pq:Addr) (ss:List Str) (ts:List (Str × Str)) (os:List Str) (one other:Str),vs=[.ref wq,.ref lo,.ref pq]/\WebO H (.ref wq) ss ts lo os/\H pq=some (.tup [.str one,.str other])/\one∈ss/\other∈ss /\
 (isRing os ts one other->∀ws q r H',RingN ss ts one other ws->Same H H'->H' q=some (.tup [.ref r,.non])->H' r=some (.lst (List.map V.str (ringL ss one ws)))->Q (.ref q) H') /\
 (¬ isRing os ts one other->∀q st a b l refs H',Same H H'->H' q=some (.tup [.ref st,.ref l])->H' st=some (.tup [.ref a,.ref b])->H' a=some (.lst (List.map V.str (dueB os ts one other)))->H' b=some (.lst (List.map V.str (dueF os ts one other)))->H' l=some (.lst refs)->RepAll H' refs ((mvs os (dueB os ts one other++dueF os ts one other)).map mvD)->Q (.ref q) H')
theorem scTold:FnScope ["_law_web_here","_law_order","_law_pair_here","_law_found","error"] ["_law_web_here","_law_order","_law_pair_here"] (defScope sTold):=⟨rfl,rfl,rfl,by decide +kernel,rfl,by decide +kernel,by decide +kernel⟩
theorem ok_told {f:Addr}{fd:FuncData}{ec:Str -> Addr}(F:Fun K "_law_told" "_law_told" sTold f fd) (B:Blt mg) (Er:Errs K mg base ec excL excC) (G:XGet K (ec "Ring") "ring") (xstretch:CalX P w K mg base 6 "stretch" ["web", "order", "one", "other"] (spStrB (ec "Ring"))) (xmoves_of:CalX P w K mg base 7 "moves_of" ["web", "order", "one", "other"] (spMvB (ec "Ring"))):FnOk P w K mg base CX0 8 f fd ["_law_web_here", "_law_order", "_law_pair_here"] spTold := by
 refine F.ok scTold (fun vs H Q E h=>?_) (fun cdv A outer s H vs Q E hr h=>?_)
 ·obtain⟨wq,lo,pq,ss,ts,os,one,other,rfl,_⟩:=h
  rfl
 ·obtain⟨wq,lo,pq,ss,ts,os,one,other,rfl,W,hpq,h1,h2,k0,k⟩:=h
  have nd:=scTold.nd
  obtain⟨bmD,xD,hDb,_⟩:=Er.at_ "OrderError" (by decide)
  obtain⟨bmN,xN,_,hin⟩:=Er.at_ "Ring" (by decide)
  refine⟨_,(pss_cons (ps_set (i:=3) nd rfl (Or.inl rfl) pe_non)
   (pss_cons (ps_tryG (i:=4) (fun _ _ _=>(pss_one (ps_set (i:=3) nd rfl (Or.inl rfl) (pe_tup (pa_cons (pe_calT xstretch (hr.mono (by decide)) rfl (pa_cons (pv 0) (pa_cons (pv 1) (pa_cons (pe_ix (ix_X K hr.units) (pv 2) pe_int (fun _ _=>rfl)) (pa_cons (pe_ix (ix_X K hr.units) (pv 2) pe_int (fun _ _=>rfl)) pa_nil))))) (pa_cons (pe_calT xmoves_of (hr.mono (by decide)) rfl (pa_cons (pv 0) (pa_cons (pv 1) (pa_cons (pe_ix (ix_X K hr.units) (pv 2) pe_int (fun _ _=>rfl)) (pa_cons (pe_ix (ix_X K hr.units) (pv 2) pe_int (fun _ _=>rfl)) pa_nil))))) pa_nil)))))) rfl rfl rfl (Er.b "OrderError" (by decide)) xD hDb nd rfl rfl (fun _ _=>(pss_one (ps_set (i:=3) nd rfl (Or.inl rfl) (pe_tup (pa_cons (pe_fldK K (pv 4) rfl) (pa_cons pe_non pa_nil)))))))
   (pss_one (ps_ret (pv 3))))),?_⟩
  refine⟨_,rfl,_,rfl,_,rfl,.tup (.of hpq) rfl ⟨_,rfl,.tup (.of hpq) rfl ⟨rfl,wq,lo,ss,ts,os,one,other,rfl,W,h1,h2,fun nr st a b H1 s1 hst ha hb=>?_,fun ring ws r d H1 rn s1 hr0 hd0 hr1 hd1=>⟨ec "Ring",bmN,rfl,xN,hin,fun x hx=>?_⟩⟩⟩⟩
  ·have hpq1:=s1 _ _ hpq
   refine⟨_,rfl,_,rfl,_,rfl,.tup (.of hpq1) rfl ⟨_,rfl,.tup (.of hpq1) rfl ⟨rfl,wq,lo,ss,ts,os,one,other,rfl,W.same s1,h1,h2,fun _ l refs H2 s2 hl0 hl rp=>?_,fun ring=>absurd ring nr⟩⟩⟩
   refine nil_ ⟨(by show 2<=sizeLine;decide),fun q hq=>?_⟩
   have sq:=Same.new (o:=.tup [.ref st,.ref l]) hq
   have s2q:=s2.trans sq
   exact⟨_,rfl,k nr q st a b l refs _ (s1.trans s2q) upd_same (s2q _ _ hst) (s2q _ _ ha) (s2q _ _ hb) (sq _ _ hl) (rp.same sq)⟩
  ·have nda:d≠x:=ne_of_none hd1 hx
   have sx:=Same.new (o:=xObj x (ec "Ring") (some d)) hx
   refine⟨_,rfl,x,ec "Ring",d,_,.ref r,rfl,upd_same,by rw[upd_ne nda];exact hd1,rfl,Er.f "Ring" (by decide),G,?_⟩
   refine⟨(by show 2<=sizeLine;decide),fun q hq=>?_⟩
   have sq:=Same.new (o:=.tup [.ref r,.non]) hq
   exact⟨_,rfl,k0 ring ws q r _ rn ((s1.trans sx).trans sq) upd_same ((sx.trans sq) _ _ hr1)⟩
theorem wy_head {es:List (Nat × Nat)}{goal k a:Nat}{ws:List Nat}(h:MG.Wy es goal k a ws):∃r,ws=a::r:=by
 cases k with
 | zero=>exact⟨[],h.2⟩
 | succ k =>
  obtain⟨b,r,e,_⟩:=h
  exact⟨r,e⟩
theorem wy_chain {es:List (Nat × Nat)}{goal:Nat}:∀ {k a:Nat}{ws:List Nat}, MG.Wy es goal k a ws -> ∀i x y, ws[i]? = some x -> ws[i+1]? = some y -> (x, y) ∈ es
 | 0,a,ws,h,i,x,y,hx,hy=>by
  rw[h.2] at hy
  cases i <;> cases hy
 | k+1,a,ws,h,i,x,y,hx,hy=>by
  obtain⟨b,r,rfl,l,w⟩:=h
  cases i with
  | zero =>
   obtain⟨r',rfl⟩:=wy_head w
   cases hx
   cases hy
   exact l.1
  | succ i=>exact wy_chain w i x y hx hy
theorem ring_parts {es:List (Nat × Nat)}{goal k a:Nat}{ws:List Nat}(t:MG.To es goal k a) (h:MG.Wy es goal k a ws) :
    (goal::ws.dropLast).Nodup/\((goal::ws.dropLast)++(goal::ws.dropLast))[1]? = some a/\(goal::ws.dropLast).length=ws.length/\∀j,1<=j->j<ws.length->∃x y,(goal::ws.dropLast)[j]? = some x/\((goal::ws.dropLast)++(goal::ws.dropLast))[j+1]? = some y/\(x,y)∈es:=by
 obtain⟨nd,_⟩:=h.far t
 have sp:=h.split
 obtain⟨r,hr⟩:=wy_head h
 have hl0:0<ws.length:=by rw[hr];simp
 have hl:ws.length=ws.dropLast.length+1:=by rw[List.length_dropLast];omega
 have nxt:∀j, j<ws.length -> ((goal :: ws.dropLast) ++ (goal :: ws.dropLast))[j+1]? = ws[j]? := fun j hj => by
  rw[List.cons_append,List.getElem?_cons_succ]
  by_cases q:j<ws.dropLast.length
  ·rw[bc q]
   conv=>rhs;rw[sp]
   rw[bc q]
  ·have q:j=ws.dropLast.length:=by omega
   rw[q,br (ae _),Nat.sub_self]
   have e2:ws[ws.dropLast.length]? = some goal:=by
    have e3:(ws.dropLast++[goal])[ws.dropLast.length]? = some goal:=by rw[br (ae _),Nat.sub_self];rfl
    rw[<- sp] at e3;exact e3
   rw[e2];rfl
 refine⟨?_,?_,by rw[be];omega,fun j h1 h2=>?_⟩
 ·rw[sp] at nd
  rw[bn] at nd
  exact aP.mpr ⟨fun z=>nd.2.2 goal z goal (by simp) rfl,nd.1⟩
 ·rw[nxt 0 (by omega),hr];rfl
 ·obtain⟨j,rfl⟩:∃i,j=i+1:=⟨j-1,by omega⟩
  have hx:(goal::ws.dropLast)[j+1]? = ws[j]?:=by
   rw[List.getElem?_cons_succ]
   conv=>rhs;rw[sp]
   rw[bc (by omega)]
  refine⟨ws[j],ws[j+1],by rw[hx];exact ar (by omega),by rw[nxt (j+1) h2];exact ar h2,wy_chain h j _ _ (ar (by omega)) (ar h2)⟩
theorem comp_rangeL {k:Nat}{fr:List Nat}{g:TG}{tc:TT}{te:TE}{σ:St}{H1:Hp}{Q:VK}{lo:Int}{n:Nat}(Pv:Addr -> Nat -> List V -> St -> Hp -> Prop)
    (h:∀D,H1 D=none->Pv D 0 [] (inSt k fr σ) (upd H1 D (.lst [])) /\
     (∀i acc σ' H',i<n->Pv D i acc σ' H'->H' D=some (.lst acc)->g (.int (lo+(i:Nat))) σ' H' fun σ2 H3=>tc σ2 H3 fun b H4 =>
      if b=true then te σ2 H4 fun y H5=>H5 D=some (.lst acc)/\acc.length<sizeLine/\Pv D (i+1) (acc++[y]) σ2 (upd H5 D (.lst (acc++[y]))) else H4 D=some (.lst acc)/\Pv D (i+1) acc σ2 H4) /\
     ∀acc σ' H',Pv D n acc σ' H'->H' D=some (.lst acc)->Q (.ref D) H'):tCompW k fr g tc te (Itr lo n) σ H1 Q:=by
 have hl:((List.range n).map fun i:Nat=>V.int (lo+i)).length=n:=by rw[aa,bx]
 have hat:∀ {i:Nat},i<n->((List.range n).map fun i:Nat=>V.int (lo+i))[i]? = some (.int (lo+i)):=fun h=>by rw[aA,List.getElem?_range h];rfl
 refine comp_items ((List.range n).map fun i:Nat=>V.int (lo+i)) (fun _=>True) (fun i H _ hi=>by rw[hl] at hi;exact hi) (fun i H x H' _ hi y=>⟨y.1,?_⟩) (fun H _=>by show n<=_;rw[hl];exact ae _) Pv fun D hD=>?_
 ·rw[hl] at hi
  rw[y.2]
  exact hat hi
 ·obtain⟨a,b,c⟩:=h D hD
  refine⟨a,fun _ _ _ _ _ _ _=>trivial,fun i acc σ' H' x hx p hacc=>?_,by rw[hl];exact c⟩
  have hi:i<n:=by have:=(af.mp hx).1;rw[hl] at this;exact this
  rw[hat hi] at hx
  rw[<- ai hx]
  exact b i acc σ' H' hi p hacc
theorem nmA_idx {ss:List Str}{s:Str}(h:s∈ss):nmA ss (ss.idxOf s)=s:=by unfold nmA;rw[aD,get_idx h];rfl
theorem ring_facts {ss:List Str}{ts:List (Str × Str)}{one other:Str}{ws:List Nat}(nd:ss.Nodup) (inn:∀e ∈ ts, e.1 ∈ ss /\ e.2 ∈ ss) (h1:one ∈ ss) (h2:other ∈ ss) (rn:RingN ss ts one other ws) :
    (∃r,ringL ss one ws=one::r)/\(ringL ss one ws).Nodup/\(ringL ss one ws).length<=ss.length/\(∀s∈ringL ss one ws,s∈ss)/\(ringL ss one ws++ringL ss one ws)[1]? = some other /\
     ∀j,1<=j->j<(ringL ss one ws).length->∃x y,(ringL ss one ws)[j]? = some x/\(ringL ss one ws++ringL ss one ws)[j+1]? = some y/\(x,y)∈ts:=by
 obtain⟨k,t,wy⟩:=rn
 have i1:=aR h1
 have i2:=aR h2
 obtain⟨p1,p2,p3,p4⟩:=ring_parts t wy
 have lt:∀x∈ws,x<ss.length:=wy.inn (numV_val inn) i1
 have ltr:∀x∈ss.idxOf one::ws.dropLast,x<ss.length:=fun x hx=>by
  rcases ax.mp hx with rfl | g
  ·exact i1
  ·exact lt x (List.dropLast_subset _ g)
 have nm:∀i,i<ss.length->ss[i]? = some (nmA ss i):=fun i hi=>by unfold nmA;rw[aD,ar hi];rfl
 have hR:(ringL ss one ws).Nodup:=map_nd p1 fun x hx y hy e=>by
  have a:=nm x (ltr x hx)
  have b:=nm y (ltr y hy)
  rw[<- e] at b
  exact(bH (ltr x hx) nd).mp (a.trans b.symm)
 have hin:∀s∈ringL ss one ws,s∈ss:=fun s hs=>by
  obtain⟨x,hx,e⟩:=ap.mp hs
  rw[<- e]
  exact aj (nm x (ltr x hx))
 refine⟨⟨ws.dropLast.map (nmA ss),?_⟩,hR,hR.length_le_of_subset hin,hin,?_,fun j hj1 hj2=>?_⟩
 ·unfold ringL
  rw[aV,nmA_idx h1]
 ·unfold ringL
  rw[<- ah,aA,p2]
  show some (nmA ss (ss.idxOf other))=_
  rw[nmA_idx h2]
 ·unfold ringL at hj2 ⊢
  rw[aa,p3] at hj2
  obtain⟨x,y,e1,e2,e3⟩:=p4 j hj1 hj2
  refine⟨nmA ss x,nmA ss y,by rw[aA,e1];rfl,by rw[<- ah,aA,e2];rfl,?_⟩
  have hx:=ltr x (aj e1)
  have hy:y<ss.length:=by
   have:=aj e2
   rcases aq.mp this with g | g
   ·exact ltr y g
   ·exact ltr y g
  exact(mem_numV nd inn hx hy).mp e3
def spRingR:Sp:=fun vs H Q _=>∃(wq r pq:Addr) (ss:List Str) (ts:List (Str × Str)) (one other:Str) (ws:List Nat),vs=[.ref wq,.ref r,.ref pq]/\Web H (.ref wq) ss ts/\one∈ss/\other∈ss/\RingN ss ts one other ws/\H r=some (.lst (List.map V.str (ringL ss one ws)))/\H pq=some (.tup [.str one,.str other])/\∀H',Same H H'->Q (.bl true) H'
theorem scRingR:FnScope ["_law_web_here","_law_ring","_law_pair_here","_law_some"] ["_law_web_here","_law_ring","_law_pair_here"] (defScope sRingRight):=⟨rfl,rfl,rfl,by decide +kernel,rfl,by decide +kernel,by decide +kernel⟩
theorem ok_ringR {f:Addr}{fd:FuncData}(F:Fun K "_law_ring_right" "_law_ring_right" sRingRight f fd) (B:Blt mg) (Zset:mg "set"=none):FnOk P w K mg base CX0 1 f fd ["_law_web_here", "_law_ring", "_law_pair_here"] spRingR := by
 refine F.ok scRingR (fun vs H Q E h=>?_) (fun cdv A outer s H vs Q E hr h=>?_)
 ·obtain⟨wq,r,pq,ss,ts,one,other,ws,rfl,_⟩:=h
  rfl
 ·obtain⟨wq,r,pq,ss,ts,one,other,ws,rfl,W,h1,h2,rn,hr1,hpq,k⟩:=h
  have nd:=scRingR.nd
  have h60:=W.len
  obtain⟨⟨r0,q1⟩,q2,q3,q4,q5,q6⟩:=ring_facts W.nd W.inn h1 h2 rn
  obtain⟨R,eR⟩:∃R,R=ringL ss one ws:=⟨_,rfl⟩
  rw[<- eR] at hr1 q1 q2 q3 q4 q5 q6
  refine⟨_,(pss_cons (ps_if (PW.pt (pw_or (pt_cmpR (op_eqX hr.units) (pv 1) (pe_lst pa_nil) (nomark _)) (pw_or (pt_cmpR (op_neX hr.units) (b_len K B (pa_cons (pv 1) pa_nil)) (b_lenS B (pa_cons (b_setL K rfl Zset (pa_cons (pv 1) pa_nil)) pa_nil)) (nomark _)) (pw_or1 (pt_cmpR (op_neX hr.units) (pe_ix (ix_X K hr.units) (pv 1) pe_int (fun _ _=>rfl)) (pe_ix (ix_X K hr.units) (pv 2) pe_int (fun _ _=>rfl)) (nomark _)))))) (pss_one (ps_ret pe_bl)) pss_nil)
   (pss_cons (ps_if (pt_cmpR (op_neX hr.units) (pe_ix (ix_X K hr.units) (pe_op op_addX (pv 1) (pv 1)) pe_int (fun _ _=>rfl)) (pe_ix (ix_X K hr.units) (pv 2) pe_int (fun _ _=>rfl)) (nomark _)) (pss_one (ps_ret pe_bl)) pss_nil)
   (pss_cons (ps_setC (i:=3) nd rfl rfl (by rfl) (defScope sRingRight) ["_law_web_here","_law_ring","_law_pair_here","_law_some"] ["_law_k"] [1] ["_law_k","_law_ring"] rfl (pi_range2 rfl B.range (pa_cons pe_int (pa_cons (b_len K B (pa_cons (pv 1) pa_nil)) pa_nil))) (fun _ _ _ _ _=>(pg_name (i:=0) (show (["_law_k","_law_ring"]:List Str).Nodup by decide) rfl (Or.inl rfl))) (fun _ _ _ _ _=>pts_nil) (fun _ _ _ _ _=>(pe_tup (pa_cons (pe_ix (ix_X K hr.units) (pv 1) (pv 0) (fun _ _=>rfl)) (pa_cons (pe_ix (ix_X K hr.units) (pe_op op_addX (pv 1) (pv 1)) (pe_op op_addX (pv 0) pe_int) (fun _ _=>rfl)) pa_nil)))))
   (pss_one (ps_ret (b_all rfl B (pa_cons (pe_comp (defScope sRingRight) ["_law_web_here","_law_ring","_law_pair_here","_law_some"] ["_law_one"] [0] ["_law_one","_law_web_here"] rfl (pi_listK K (pv 3)) (fun _ _ _ _ _=>(pg_name (i:=0) (show (["_law_one","_law_web_here"]:List Str).Nodup by decide) rfl (Or.inl rfl))) (fun _ _ _ _ _=>pts_nil) (fun _ _ _ _ _=>(pe_cmpR (op_inDT hr.units) (pv 0) (pe_ix (ix_X K hr.units) (pv 1) pe_int (fun _ _=>rfl)) (by with_unfolding_all rfl)))) pa_nil))))))),?_⟩
  refine⟨_,rfl,(by show 0<=sizeLine;decide),fun ln hln=>?_⟩
  have s4:=Same.new (o:=.lst []) hln
  have rnm:∀s∈R,Nm s:=fun s hs=>W.nm s (q4 s hs)
  have hr4:=s4 _ _ hr1
  have hpq4:=s4 _ _ hpq
  have W4:=W.same s4
  refine .tr (names_rep hr4) (.lst upd_same .nil) (shp_names rnm) (by rfl) ⟨_,rfl,?_⟩
  rw[eqv_nilN,aI (by rw[q1];exact fun z=>by cases z)]
  generalize upd H ln (.lst [])=H4 at s4 hr4 hpq4 W4 ⊢
  refine iteF ?_
  refine⟨_,rfl,_,_,rfl,Or.inl ⟨_,.of hr4,rfl⟩,_,rfl,_,_,rfl,.of hr4,by omega,fun l P' w' S n hl hn hiff=>?_⟩
  have hn:n=R.length:=hiff.mpr q2
  have s5:=Same.new (o:=setO P' w' l S n) hl
  refine⟨l,P',w',S,n,rfl,upd_same,?_⟩
  have hr5:=s5 _ _ hr4
  have hpq5:=s5 _ _ hpq4
  have W5:=W4.same s5
  have s05:=s4.trans s5
  generalize upd H4 l (setO P' w' l S n)=H5 at s5 hr5 hpq5 W5 s05 ⊢
  refine .sc rfl ⟨_,rfl,ite2 (fun h=>?_) (fun _=>?_)⟩
  ·have h:(!decide (V.int ((List.map V.str R).length:Nat)=V.int (n:Int)))=true:=h
   rw[aa,hn,ao rfl] at h
   cases h
  have r0at:atI (List.map V.str R) ((0:Nat):Int)=some (.str one):=by rw[str_at (by rw[q1];simp),q1];rfl
  refine⟨_,rfl,.lst (.of hr5) r0at ⟨_,rfl,.tup (.of hpq5) rfl (.sc rfl ⟨_,rfl,ite2 (fun h=>?_) (fun _=>?_)⟩)⟩⟩
  ·have h:(!decide (V.str one=V.str one))=true:=h
   rw[ao rfl] at h
   cases h
  have atRR:∀j y,(R++R)[j]? = some y->atI (List.map V.str R++List.map V.str R) ((j:Nat):Int)=some (.str y):=fun j y e=>by
   have hj:=(af.mp e).1
   rw[<- ah,str_at hj,aD,e];rfl
  refine⟨_,rfl,_,rfl,.lst hr5 hr5 (by rw[aa];exact aT (small1000 (by omega))) fun l2 hl2=>?_⟩
  have s6:=Same.new (o:=.lst (List.map V.str R++List.map V.str R)) hl2
  have hr6:=s6 _ _ hr5
  have hpq6:=s6 _ _ hpq5
  have W6:=W5.same s6
  have s06:=s05.trans s6
  refine .lst (.of upd_same) (atRR 1 _ q5) ⟨_,rfl,.tup (.of hpq6) rfl (.sc rfl ⟨_,rfl,ite2 (fun h=>?_) (fun _=>?_)⟩)⟩
  ·have h:(!decide (V.str other=V.str other))=true:=h
   rw[ao rfl] at h
   cases h
  generalize upd H5 l2 (.lst (List.map V.str R++List.map V.str R))=H6 at s6 hr6 hpq6 W6 s06 ⊢
  have Rpos:0<R.length:=by rw[q1];simp
  obtain⟨m,em⟩:∃m,m+1=R.length:=⟨R.length-1,by omega⟩
  refine⟨_,rfl,_,_,rfl,Or.inl ⟨_,.of hr6,rfl⟩,nil_ ⟨_,_,rfl,⟨by decide,by decide,by rw[aa];omega,by rw[aa];omega⟩,?_⟩⟩
  rw[aa,<- em,show ((((m+1:Nat):Nat):Int)-1).toNat=m by omega]
  refine comp_rangeL (fun C i acc σ' H'=>∃(o:Option V) (es:List (Str × Str)),σ'=[o,some (.ref r)]/\RepAll H' acc (es.map pairD)/\es.length=i/\(∀e∈es,e∈ts)/\Same H6 H'/\H6 C=none) fun C hC=>⟨?_,?_,?_⟩
  ·exact⟨none,[],rfl,.nil,rfl,(fun _ z=>by cases z),Same.new hC,hC⟩
  ·rintro i acc σ' H' hi ⟨o,es,rfl,rp,el,inn,sm,hC0⟩ hacc
   obtain⟨x,y,ex,ey,exy⟩:=q6 (i+1) (by omega) (by omega)
   have ei:(1:Int)+((i:Nat):Int)=((i+1:Nat):Int):=by omega
   have ei2:(1:Int)+((i:Nat):Int)+1=((i+1+1:Nat):Int):=by omega
   have rx:atI (List.map V.str R) ((1:Int)+((i:Nat):Int))=some (.str x):=by rw[ei,str_at (by omega),aD,ex];rfl
   have ry:atI (List.map V.str R++List.map V.str R) ((1:Int)+((i:Nat):Int)+1)=some (.str y):=by rw[ei2];exact atRR _ _ ey
   refine gYes ?_
   have hrm:=sm _ _ hr6
   refine⟨_,rfl,_,rfl,.lst (.of hrm) rx ⟨_,rfl,_,rfl,.lst hrm hrm (by rw[aa];exact aT (small1000 (by omega))) fun l3 hl3=>⟨_,rfl,.int (.lst (.of upd_same) ry (nil_ ⟨(by show 2<=sizeLine;decide),fun tq htq=>?_⟩))⟩⟩⟩
   have s7:=Same.new (o:=.lst (List.map V.str R++List.map V.str R)) hl3
   have s8:=Same.new (o:=.tup [V.str x,V.str y]) htq
   have e8:upd (upd H' l3 (.lst (List.map V.str R++List.map V.str R))) tq (.tup [V.str x,V.str y]) tq=some (.tup [V.str x,V.str y]):=upd_same
   have s78:=s7.trans s8
   generalize upd (upd H' l3 (.lst (List.map V.str R++List.map V.str R))) tq (.tup [V.str x,V.str y])=H8 at s8 e8 s78 ⊢
   have h8:=s78 _ _ hacc
   have al:=rp.len
   rw[aa] at al
   refine⟨h8,small1000 (by omega),_,es++[(x,y)],rfl,?_,by rw[aG,el];rfl,fun e he=>?_,same_at (sm.trans s78) hC0,hC0⟩
   ·refine RepAll.pairBut (p:=C) h8 But.upd ?_
    rw[ah]
    exact RepAll.append (rp.same s78) (.cons (pair_rep e8) .nil)
   ·rcases aq.mp he with he | he
    ·exact inn e he
    ·rw[aQ.mp he];exact exy
  rintro acc σ' H7 ⟨o,es,rfl,rp,el,inn,s7,hC0⟩ hacc
  have W7:=W6.same s7
  obtain⟨wq',wa,wb,xs,e,hwq,hwa,hwb,wrp⟩:=web_at W7.rep
  cases e
  have tnm:∀e∈ts,Nm e.1/\Nm e.2:=fun e he=>⟨W.nm _ (W.inn e he).1,W.nm _ (W.inn e he).2⟩
  refine⟨_,rfl,_,rfl,⟨_,.of hacc⟩,?_⟩
  have al:=rp.len
  rw[aa] at al
  refine comp_list acc (fun D i ac σ' H'=>∃o,σ'=[o,some (.ref wq)]/\ac=List.map V.bl (List.replicate i true)/\Same H7 H'/\H7 D=none) fun D hD=>⟨?_,?_,?_,?_⟩
  ·exact⟨none,rfl,rfl,Same.new hD,hD⟩
  ·rintro i ac σ' H' _ ⟨o,rfl,_,sm,_⟩ _
   exact .of (sm _ _ hacc)
  ·rintro i ac σ' H' x hx ⟨o,rfl,rfl,sm,hD0⟩ hac
   have hil:=(af.mp hx).1
   obtain⟨e,ta,he,rfl,hta⟩:=pair_get (rp.same sm) hx
   refine gYes ?_
   refine⟨_,rfl,_,rfl,.tup (.of (sm _ _ hwq)) rfl ⟨wb,xs,_,_,rfl,sm _ _ hwb,wrp.same sm,pair_rep (s:=e.1) (t:=e.2) hta,canLay_pairs ts tnm,canLay_pr (tnm e (inn e (aj he))).1 (tnm e (inn e (aj he))).2,(by show 1<=16;decide),?_⟩⟩
   rw[any_pair,ao (show (e.1,e.2)∈ts from inn e (aj he))]
   refine⟨hac,by rw[aa,bK];exact small1000 (by omega),_,rfl,?_,same_at sm hD0,hD0⟩
   rw[cb,ah];rfl
  rintro ac σ' H8 ⟨o,rfl,rfl,s8,hD0⟩ hac
  refine nil_ ⟨D,_,rfl,hac,?_⟩
  rw[show (List.replicate acc.length true).all id=true from bi.mpr fun x hx=>(List.mem_replicate.mp hx).2]
  exact k H8 ((s06.trans s7).trans s8)
theorem plc_under {os C:List Str}{i k p:Nat}(hi:(plc os C)[i]? = some p) (hk:k ∈ plc os C) (h:k<p):k ∈ (plc os C).take i := by
 obtain⟨m,hm⟩:=aH hk
 obtain⟨h1,e1⟩:=af.mp hm
 obtain⟨h2,e2⟩:=af.mp hi
 have:m<i:=by
  refine bz fun z=>?_
  rcases cr z with z | z
  ·have:=bj.mp (plc_up os C) i m h2 h1 z
   omega
  ·subst z
   omega
 exact aj (by rw[bu this];exact hm)
theorem plc_over {os C:List Str}{i k p:Nat}(hi:(plc os C)[i]? = some p) (hk:k ∈ plc os C) (h:p<k):k ∈ (plc os C).drop (i+1) := by
 obtain⟨m,hm⟩:=aH hk
 obtain⟨h1,e1⟩:=af.mp hm
 obtain⟨h2,e2⟩:=af.mp hi
 have:i<m:=by
  refine bz fun z=>?_
  rcases cr z with z | z
  ·have:=bj.mp (plc_up os C) m i h1 h2 z
   omega
  ·subst z
   omega
 refine aj (i:=m-(i+1)) ?_
 rw[bI,show i+1+(m-(i+1))=m by omega]
 exact hm
section
variable {os A B:List Str}
theorem laid_dn (ond:os.Nodup) (cnd:(A ++ B).Nodup) (sub:∀x ∈ A ++ B, x ∈ os) (oA:A.Pairwise fun x y => os.idxOf x<os.idxOf y) {x y:Str}(hx:x ∈ A) (hy:y ∈ B) (hyx:os.idxOf y<os.idxOf x):(laidL os (A ++ B)).idxOf x<os.idxOf x := by
 obtain⟨i,hi⟩:=aH hx
 obtain⟨hil,ei⟩:=af.mp hi
 have a:=laid_new (A:=A) (B:=B) (by rw[bc hil];exact hi) ond cnd sub
 have pl:=(af.mp a).1
 refine bz fun hle=>?_
 have sA:∀u∈A.take i,u∈A:=fun u hu=>bO hu
 have nd3:=bn.mp cnd
 have key:((y::A.take i).map os.idxOf).length<=((plc os (A++B)).take i).length:=by
  have sS:∀u∈y::A.take i,u∈A++B:=fun u hu=>by
   rcases ax.mp hu with rfl | hu
   ·exact aJ _ hy
   ·exact aU _ (sA u hu)
  refine List.Nodup.length_le_of_subset (map_nd (aP.mpr ⟨fun z=>nd3.2.2 y (sA y z) y hy rfl,nd3.1.sublist (bF _ _)⟩) fun u hu v hv e=>idx_inj (sub u (sS u hu)) (sub v (sS v hv)) e) fun k hk=>?_
  obtain⟨u,hu,rfl⟩:=ap.mp hk
  refine plc_under a (plc_idx sub (sS u hu)) (aS ?_ hle)
  rcases ax.mp hu with rfl | hu
  ·exact hyx
  ·obtain⟨j,hj⟩:=aH hu
   have hjl:=(af.mp hj).1
   rw[av] at hjl
   rw[bu (by omega)] at hj
   obtain⟨g1,g2⟩:=af.mp hj
   have:=bj.mp oA j i g1 hil (by omega)
   rw[g2,ei] at this
   exact this
 rw[aa,be,av,av] at key
 omega
theorem laid_ups (ond:os.Nodup) (cnd:(A ++ B).Nodup) (sub:∀x ∈ A ++ B, x ∈ os) (oB:B.Pairwise fun x y => os.idxOf x<os.idxOf y) {x y:Str}(hx:x ∈ B) (hy:y ∈ A) (hyx:os.idxOf x<os.idxOf y):os.idxOf x<(laidL os (A ++ B)).idxOf x := by
 obtain⟨i,hi⟩:=aH hx
 obtain⟨hil,ei⟩:=af.mp hi
 have a:=laid_new (A:=A) (B:=B) (i:=A.length+i) (by rw[br (by omega),ci];exact hi) ond cnd sub
 have pl:=plc_len ond cnd sub
 rw[aG] at pl
 refine bz fun hle=>?_
 have sB:∀u∈B.drop (i+1),u∈B:=fun u hu=>bQ hu
 have nd3:=bn.mp cnd
 have key:((y::B.drop (i+1)).map os.idxOf).length<=((plc os (A++B)).drop (A.length+i+1)).length:=by
  have sS:∀u∈y::B.drop (i+1),u∈A++B:=fun u hu=>by
   rcases ax.mp hu with rfl | hu
   ·exact aU _ hy
   ·exact aJ _ (sB u hu)
  refine List.Nodup.length_le_of_subset (map_nd (aP.mpr ⟨fun z=>nd3.2.2 y hy y (sB y z) rfl,nd3.2.1.sublist (bP _ _)⟩) fun u hu v hv e=>idx_inj (sub u (sS u hu)) (sub v (sS v hv)) e) fun k hk=>?_
  obtain⟨u,hu,rfl⟩:=ap.mp hk
  refine plc_over a (plc_idx sub (sS u hu)) (Nat.lt_of_le_of_lt hle ?_)
  rcases ax.mp hu with rfl | hu
  ·exact hyx
  ·obtain⟨j,hj⟩:=aH hu
   rw[bI] at hj
   obtain⟨g1,g2⟩:=af.mp hj
   have:=bj.mp oB i (i+1+j) hil g1 (by omega)
   rw[g2,ei] at this
   exact this
 rw[aa,be,bv,bv] at key
 omega
theorem laid_rise (ond:os.Nodup) (cnd:(A++B).Nodup) (sub:∀x∈A++B,x∈os):(A++B).Pairwise fun x y=>(laidL os (A++B)).idxOf x<(laidL os (A++B)).idxOf y:=by
 rw[bj]
 intro i j hi hj hij
 exact laid_lt (ar hi) (ar hj) hij ond cnd sub
end
structure DueOk (os gs A B:List Str) (ts:List (Str × Str)) (one other:Str):Prop where
 pm:gs.Perm os
 nd:gs.Nodup
 up:(A++B).Pairwise fun x y=>gs.idxOf x<gs.idxOf y
 dn:∀x∈A,gs.idxOf x<os.idxOf x
 ups:∀x∈B,os.idxOf x<gs.idxOf x
 out:∀x∈os,x∉A++B->gs.idxOf x=os.idxOf x
 fw:∀e∈ts++[(one,other)],gs.idxOf e.1<gs.idxOf e.2
 one_:one∈A
 other_:other∈B
theorem due_ok {os:List Str}{ts:List (Str × Str)}{one other:Str}(ond:os.Nodup) (fw:Fwd os ts) (m1:one∈os) (m2:other∈os) (nr:¬ isRing os ts one other) (hlt:¬ os.idxOf one<os.idxOf other):DueOk os (laidL os (dueB os ts one other++dueF os ts one other)) (dueB os ts one other) (dueF os ts one other) ts one other:=by
 have cnd:=due_nd ond nr
 have sub:=due_all (os:=os) (ts:=ts) (one:=one) (other:=other)
 have dA:dueB os ts one other=((os.take (os.idxOf one+1)).drop (os.idxOf other)).filter fun t=>rB (flipE ts) one t:=if_neg hlt
 have dB:dueF os ts one other=((os.take (os.idxOf one+1)).drop (os.idxOf other)).filter fun t=>rB ts other t:=if_neg hlt
 have memA:∀x,x∈dueB os ts one other ↔ (∃i,os.idxOf other<=i/\i<=os.idxOf one/\os[i]? = some x)/\MG.Rch (Tie (flipE ts)) one x:=fun x=>by rw[dA,am,mem_mid,rB_iff]
 have memB:∀x,x∈dueF os ts one other ↔ (∃i,os.idxOf other<=i/\i<=os.idxOf one/\os[i]? = some x)/\MG.Rch (Tie ts) other x:=fun x=>by rw[dB,am,mem_mid,rB_iff]
 have oA:(dueB os ts one other).Pairwise fun x y=>os.idxOf x<os.idxOf y:=by
  rw[dA]
  exact(idx_up ond).sublist (bp.trans ((bP _ _).trans (bF _ _)))
 have oB:(dueF os ts one other).Pairwise fun x y=>os.idxOf x<os.idxOf y:=by
  rw[dB]
  exact(idx_up ond).sublist (bp.trans ((bP _ _).trans (bF _ _)))
 have hA:one∈dueB os ts one other:=(memA one).mpr ⟨⟨_,by omega,ae _,atIdx m1⟩,MG.Rch.refl⟩
 have hB:other∈dueF os ts one other:=(memB other).mpr ⟨⟨_,ae _,by omega,atIdx m2⟩,MG.Rch.refl⟩
 have nd3:=bn.mp cnd
 have gpm:=laid_perm ond cnd sub
 have mo:=mvs_ok ond cnd sub
 have all:=letA_fwd mo.1 ond fw (told_let ond fw m1 m2 nr)
 rw[moved_eq ond cnd sub] at all
 refine⟨gpm,gpm.nodup_iff.mpr ond,laid_rise ond cnd sub,fun x hx=>laid_dn ond cnd sub oA hx hB ?_,fun x hx=>laid_ups ond cnd sub oB hx hA ?_,fun x hx hn=>laid_out hx hn ond cnd sub,all,hA,hB⟩
 ·obtain⟨⟨i,h1,h2,e⟩,_⟩:=(memA x).mp hx
  have:os.idxOf x≠os.idxOf other:=fun z=>nd3.2.2 x hx other hB (idx_inj (sub x (aU _ hx)) m2 z)
  have:=idxAt ond e
  omega
 ·obtain⟨⟨i,h1,h2,e⟩,_⟩:=(memB x).mp hx
  have:os.idxOf x≠os.idxOf one:=fun z=>nd3.2.2 one hA x hx (idx_inj (sub x (aJ _ hx)) m1 z).symm
  have:=idxAt ond e
  omega
theorem bm_index {l:Addr}{os:List Str}{s:Str}{H:Hp}{Q:VK}(h:H l=some (.lst (List.map V.str os))) (nd:os.Nodup) (hm:s∈os) (k:Q (.int ((os.idxOf s:Nat):Int)) H):rIndex (.ref l) [.str s] H Q:=by
 obtain⟨z,a1,a2,a3⟩:=index_at nd hm
 exact⟨l,_,_,_,z,rfl,rfl,h,rfl,flat_strs _,a1,a2,a3,k⟩
theorem shp_tupN {ls:List (List Str)}(h:∀l∈ls,∀s∈l,Nm s):shp (.tuple (ls.map namesD)):=shp_nameLists (ls:=ls) h
theorem ints_rep {H:Hp}{a:Addr}{zs:List Int}(h:H a=some (.lst (zs.map V.int))):Rep H (.ref a) (intsD zs):=by
 refine .lst h ?_
 have g:∀zs:List Int,RepAll H (zs.map V.int) (zs.map PyData.int):=fun zs=>by
  induction zs with
  | nil=>exact .nil
  | cons z zs ih=>exact .cons (.int z) ih
 exact g zs
theorem ix_comp {fr:List Nat}{σ:St}{H:Hp}{Q:VK}{l g:Addr}{L G:List Str}(hin:inSt 1 fr σ=[none,some (.ref g)]) (hl:H l=some (.lst (List.map V.str L))) (hg:H g=some (.lst (List.map V.str G))) (nd:G.Nodup) (sub:∀x∈L,x∈G) (sm:L.length<=60)
    (k:∀D H',Same H H'->H' D=some (.lst (List.map V.int (L.map fun x=>((G.idxOf x:Nat):Int))))->Q (.ref D) H'):tCompW 1 fr (gName 0) tYes (tBM K "list" rIndex (tVar 1) (tCons (tVar 0) tNil)) (Itl K l) σ H Q:=by
 refine comp_list (List.map V.str L) (fun D i acc σ' H'=>∃o,σ'=[o,some (.ref g)]/\acc=List.map V.int ((L.take i).map fun x=>((G.idxOf x:Nat):Int))/\Same H H'/\H D=none) fun D hD=>⟨?_,?_,?_,?_⟩
 ·exact⟨none,hin,rfl,Same.new hD,hD⟩
 ·rintro i acc σ' H' _ ⟨o,rfl,_,sm',_⟩ _
  exact .of (sm' _ _ hl)
 ·rintro i acc σ' H' x hx ⟨o,rfl,rfl,sm',hD0⟩ hacc
  obtain⟨z,hz,rfl⟩:=str_get' hx
  refine gYes ?_
  refine⟨_,rfl,.inl ⟨rfl,_,.of (sm' _ _ hg)⟩,_,rfl,nil_ (bm_index (sm' _ _ hg) nd (sub z (aj hz)) ?_)⟩
  refine⟨hacc,by rw[aa,aa,av];exact small1000 (by omega),_,rfl,?_,same_at sm' hD0,hD0⟩
  rw[au,hz,ah,ah];rfl
 ·rintro acc σ' H' ⟨o,rfl,rfl,sm',hD0⟩ hacc
  rw[aa,aw (ae _)] at hacc
  exact k D H' sm' hacc
theorem by_comp {fr:List Nat}{σ:St}{H:Hp}{Q:VK}{l g o:Addr}{L G O:List Str}{t:Int}(ht:t=1∨t=-1) (hin:inSt 1 fr σ=[none,some (.int t),some (.ref g),some (.ref o)]) (hl:H l=some (.lst (List.map V.str L))) (hg:H g=some (.lst (List.map V.str G))) (ho:H o=some (.lst (List.map V.str O))) (nd:G.Nodup) (sub:∀x∈L,x∈G) (ndO:O.Nodup) (subO:∀x∈L,x∈O) (sm:L.length<=60)
    (k:∀D H',Same H H'->H' D=some (.lst (List.map V.int (L.map fun x=>t * (((G.idxOf x:Nat):Int)-((O.idxOf x:Nat):Int)))))->Q (.ref D) H') :
    tCompW 1 fr (gName 0) tYes (tOp (rI CMul fun i j=>V.int (i * j)) (tVar 1) (tOp (rI0 fun i j=>V.int (i-j)) (tBM K "list" rIndex (tVar 2) (tCons (tVar 0) tNil)) (tBM K "list" rIndex (tVar 3) (tCons (tVar 0) tNil)))) (Itl K l) σ H Q:=by
 refine comp_list (List.map V.str L) (fun D i acc σ' H'=>∃o0,σ'=[o0,some (.int t),some (.ref g),some (.ref o)]/\acc=List.map V.int ((L.take i).map fun x=>t * (((G.idxOf x:Nat):Int)-((O.idxOf x:Nat):Int)))/\Same H H'/\H D=none) fun D hD=>⟨?_,?_,?_,?_⟩
 ·exact⟨none,hin,rfl,Same.new hD,hD⟩
 ·rintro i acc σ' H' _ ⟨o0,rfl,_,sm',_⟩ _
  exact .of (sm' _ _ hl)
 ·rintro i acc σ' H' x hx ⟨o0,rfl,rfl,sm',hD0⟩ hacc
  obtain⟨z,hz,rfl⟩:=str_get' hx
  have hzm:=aj hz
  refine gYes ?_
  refine⟨_,rfl,_,rfl,.inl ⟨rfl,_,.of (sm' _ _ hg)⟩,_,rfl,nil_ (bm_index (sm' _ _ hg) nd (sub z hzm) ?_)⟩
  refine⟨_,rfl,.inl ⟨rfl,_,.of (sm' _ _ ho)⟩,_,rfl,nil_ (bm_index (sm' _ _ ho) ndO (subO z hzm) ?_)⟩
  refine⟨_,_,rfl,rfl,_,_,rfl,rfl,.inl (by rcases ht with rfl | rfl <;> decide),?_⟩
  refine⟨hacc,by rw[aa,aa,av];exact small1000 (by omega),_,rfl,?_,same_at sm' hD0,hD0⟩
  rw[au,hz,ah,ah];rfl
 ·rintro acc σ' H' ⟨o0,rfl,rfl,sm',hD0⟩ hacc
  rw[aa,aw (ae _)] at hacc
  exact k D H' sm' hacc
theorem sorted_self {zs ns:List Int}(h:zs.Pairwise (·<=·)) (p:ns.Perm zs) (g:ns.Pairwise (·<=·)):ns=zs:=List.Perm.eq_of_pairwise (le:=(·<=·)) (fun a b _ _ h1 h2=>Int.le_antisymm h1 h2) g h p
theorem rise_ints {gs L:List Str}(h:L.Pairwise fun x y=>gs.idxOf x<gs.idxOf y):(L.map fun x=>((gs.idxOf x:Nat):Int)).Pairwise (·<=·):=by
 rw[cn]
 exact h.imp fun {a b} z=>by omega
theorem mvs_names {os A:List Str}(ond:os.Nodup) (and_:A.Nodup) (sub:∀x∈A,x∈os):((mvs os A).map (·.1)).Perm A:=by
 have e3:(mvs os A).map (·.1)=(plc os A).map fun k=>os.getD k "":=by unfold mvs;rw[aM];rfl
 rw[e3,plc_map]
 exact((perm_of and_ (fun x hx=>am.mpr ⟨sub x hx,ao hx⟩) ((ond.sublist bp).length_le_of_subset fun x hx=>az (am.mp hx).2))).symm
theorem fw_comp {fr:List Nat}{σ:St}{H:Hp}{Q:VK}{tz g:Addr}{ys:List V}{es:List (Str × Str)}{G:List Str}(hin:inSt 2 fr σ=[none,none,some (.ref g)]) (htz:H tz=some (.tup ys)) (rp:RepAll H ys (es.map pairD)) (hg:H g=some (.lst (List.map V.str G))) (nd:G.Nodup) (sub:∀e∈es,e.1∈G/\e.2∈G) (fw:∀e∈es,G.idxOf e.1<G.idxOf e.2) (sm:es.length<=400)
    (k:∀D n H',Same H H'->H' D=some (.lst (List.map V.bl (List.replicate n true)))->Q (.ref D) H') :
    tCompW 2 fr (gTup K 2 (gCons (gName 0) (gCons (gName 1) gNil))) tYes (tOp (fun x y H Q=>CmR (fun i j=>decide (i<j)) (fun i j=>decide (i.cps.toList<j.cps.toList)) H x y Q) (tBM K "list" rIndex (tVar 2) (tCons (tVar 0) tNil)) (tBM K "list" rIndex (tVar 2) (tCons (tVar 1) tNil))) (Itt K tz) σ H Q:=by
 have yl:=rp.len
 rw[aa] at yl
 refine comp_tup ys (fun D i acc σ' H'=>∃o0 o1,σ'=[o0,o1,some (.ref g)]/\acc=List.map V.bl (List.replicate i true)/\Same H H'/\H D=none) fun D hD=>⟨?_,?_,?_,?_⟩
 ·exact⟨none,none,hin,rfl,Same.new hD,hD⟩
 ·rintro i acc σ' H' _ ⟨o0,o1,rfl,_,sm',_⟩ _
  exact .of (sm' _ _ htz)
 ·rintro i acc σ' H' x hx ⟨o0,o1,rfl,rfl,sm',hD0⟩ hacc
  have hil:=(af.mp hx).1
  obtain⟨e,ta,he,rfl,hta⟩:=pair_get (rp.same sm') hx
  have hem:=aj he
  refine gYes2 rfl (.of hta) ?_
  refine⟨_,rfl,.inl ⟨rfl,_,.of (sm' _ _ hg)⟩,_,rfl,nil_ (bm_index (sm' _ _ hg) nd (sub e hem).1 ?_)⟩
  refine⟨_,rfl,.inl ⟨rfl,_,.of (sm' _ _ hg)⟩,_,rfl,nil_ (bm_index (sm' _ _ hg) nd (sub e hem).2 (.int ?_))⟩
  have hb:decide (((G.idxOf e.1:Nat):Int)<((G.idxOf e.2:Nat):Int))=true:=ao (by have:=fw e hem;omega)
  rw[hb]
  refine⟨hacc,by rw[aa,bK];exact small1000 (by omega),_,_,rfl,?_,same_at sm' hD0,hD0⟩
  rw[cb,ah];rfl
 ·rintro acc σ' H' ⟨o0,o1,rfl,rfl,sm',hD0⟩ hacc
  exact k D _ H' sm' hacc
def spMovR:Sp:=fun vs H Q _=>∃(wq lo pq tq st a b l:Addr) (refs:List V) (ss:List Str) (ts:List (Str × Str)) (os:List Str) (one other:Str),vs=[.ref wq,.ref lo,.ref pq,.ref tq]/\WebO H (.ref wq) ss ts lo os/\Fwd os ts/\ts.length<=200/\H pq=some (.tup [.str one,.str other])/\one∈ss/\other∈ss/\¬ isRing os ts one other/\H tq=some (.tup [.ref st,.ref l])/\H st=some (.tup [.ref a,.ref b])/\H a=some (.lst (List.map V.str (dueB os ts one other)))/\H b=some (.lst (List.map V.str (dueF os ts one other)))/\H l=some (.lst refs)/\RepAll H refs ((mvs os (dueB os ts one other++dueF os ts one other)).map mvD)/\∀H',Same H H'->Q (.bl true) H'
theorem scMovR:FnScope ["_law_web_here","_law_order","_law_pair_here","_law_told_here","_law_back","_law_forward","_law_moves","_law_goal","_law_downs","_law_ups","_law_some","_law_by","_law_places","_law_by_how","_law_stays","_law_stood"] ["_law_web_here","_law_order","_law_pair_here","_law_told_here"] (defScope sMovesRight):=⟨rfl,rfl,rfl,by decide +kernel,rfl,by decide +kernel,by decide +kernel⟩
theorem ok_movR {f:Addr}{fd:FuncData}(F:Fun K "_law_moves_right" "_law_moves_right" sMovesRight f fd) (B:Blt mg) (Z:mg "sorted"=none) (cmoved:Cal P w K mg base 1 "moved" ["order", "moves"] spMoved) (c_law_sorts:Cal P w K mg base 1 "_law_sorts" ["_law_web_here", "_law_order", "_law_pair_here"] spSorts) (clets_moves:Cal P w K mg base 4 "lets_moves" ["web", "order", "one", "other", "told"] spLetG):FnOk P w K mg base CX0 5 f fd ["_law_web_here", "_law_order", "_law_pair_here", "_law_told_here"] spMovR := by
 refine F.ok scMovR (fun vs H Q E h=>?_) (fun cdv A outer s H vs Q E hr h=>?_)
 ·obtain⟨wq,lo,pq,tq,st,a,b,l,refs,ss,ts,os,one,other,rfl,_⟩:=h
  rfl
 ·obtain⟨wq, lo, pq, tq, st, a, b, l, refs, ss, ts, os, one, other, rfl, W, fw, few, hpq, h1, h2, nr, htq, hst, ha, hb, hl, rp, k⟩ := h
  have nd:=scMovR.nd
  have h60:=W.web.len
  have osl:=W.pm.length_eq
  have ond:os.Nodup:=W.pm.nodup_iff.mpr W.web.nd
  have onm:∀s∈os,Nm s:=fun s hs=>W.web.nm s (W.pm.mem_iff.mp hs)
  have m1:one∈os:=W.pm.mem_iff.mpr h1
  have m2:other∈os:=W.pm.mem_iff.mpr h2
  have cnd:=due_nd ond nr
  have sub:=due_all (os:=os) (ts:=ts) (one:=one) (other:=other)
  obtain⟨mo1,mo2,mo3⟩:=mvs_ok ond cnd sub
  have me:=moved_eq ond cnd sub
  refine⟨_,(pss_cons (ps_asg (pv 3) (pg_tupK (n:=2) K rfl (pgs_cons (pg_tupK (n:=2) K rfl (pgs_cons (pg_name (i:=4) nd rfl (Or.inl rfl)) (pgs_cons (pg_name (i:=5) nd rfl (Or.inl rfl)) pgs_nil))) (pgs_cons (pg_name (i:=6) nd rfl (Or.inl rfl)) pgs_nil))))
   (pss_cons (ps_set (i:=7) nd rfl (Or.inr rfl) (pe_cal cmoved (hr.mono (by decide)) rfl (pa_cons (pv 1) (pa_cons (pv 6) pa_nil))))
   (pss_cons (ps_if (pt_cmpR op_ltX (m_index K (pv 1) (pa_cons (pe_ix (ix_X K hr.units) (pv 2) pe_int (fun _ _=>rfl)) pa_nil)) (m_index K (pv 1) (pa_cons (pe_ix (ix_X K hr.units) (pv 2) pe_int (fun _ _=>rfl)) pa_nil)) (nomark _)) (pss_one (ps_ret (pe_cmpR (op_eqX hr.units) (pe_tup (pa_cons (pv 4) (pa_cons (pv 5) (pa_cons (pv 6) (pa_cons (pv 7) pa_nil))))) (pe_tup (pa_cons (pe_lst pa_nil) (pa_cons (pe_lst pa_nil) (pa_cons (pe_lst pa_nil) (pa_cons (pv 1) pa_nil))))) (nomark _)))) pss_nil)
   (pss_cons (ps_asg (pe_cal c_law_sorts (hr.mono (by decide)) rfl (pa_cons (pv 0) (pa_cons (pv 1) (pa_cons (pv 2) pa_nil)))) (pg_tupK (n:=2) K rfl (pgs_cons (pg_name (i:=8) nd rfl (Or.inr rfl)) (pgs_cons (pg_name (i:=9) nd rfl (Or.inr rfl)) pgs_nil))))
   (pss_cons (ps_if (PW.pt (pw_or (pt_cmpR (op_neX hr.units) (pe_comp (defScope sMovesRight) ["_law_web_here","_law_order","_law_pair_here","_law_told_here","_law_back","_law_forward","_law_moves","_law_goal","_law_downs","_law_ups","_law_some","_law_by","_law_places","_law_by_how","_law_stays","_law_stood"] ["_law_one"] [9] ["_law_one","_law_ups"] rfl (pi_listK K (pv 8)) (fun _ _ _ _ _=>(pg_name (i:=0) (show (["_law_one","_law_ups"]:List Str).Nodup by decide) rfl (Or.inl rfl))) (fun _ _ _ _ _=>(pts_one (pt_cmpR (op_inX K hr.units) (pv 0) (pv 1) (by with_unfolding_all rfl)))) (fun _ _ _ _ _=>(pv 0))) (pe_lst pa_nil) (nomark _)) (pw_or1 (pt_cmpR (op_neX hr.units) (pe_tup (pa_cons (pv 4) (pa_cons (pv 5) pa_nil))) (pe_tup (pa_cons (pv 8) (pa_cons (pv 9) pa_nil))) (nomark _))))) (pss_one (ps_ret pe_bl)) pss_nil)
   (pss_cons (ps_if (pt_cmpR (op_neX hr.units) (b_sortS K Z (pa_cons (pe_comp (defScope sMovesRight) ["_law_web_here","_law_order","_law_pair_here","_law_told_here","_law_back","_law_forward","_law_moves","_law_goal","_law_downs","_law_ups","_law_some","_law_by","_law_places","_law_by_how","_law_stays","_law_stood"] ["_law_move"] [] ["_law_move"] rfl (pi_listK K (pv 6)) (fun _ _ _ _ _=>(pg_name (i:=0) (show (["_law_move"]:List Str).Nodup by decide) rfl (Or.inl rfl))) (fun _ _ _ _ _=>pts_nil) (fun _ _ _ _ _=>(pe_ix (ix_X K hr.units) (pv 0) pe_int (fun _ _=>rfl)))) pa_nil)) (b_sortS K Z (pa_cons (pe_op op_addX (pv 8) (pv 9)) pa_nil)) (nomark _)) (pss_one (ps_ret pe_bl)) pss_nil)
   (pss_cons (ps_if (pt_not (pt_val (pe_cal clets_moves (hr.mono (by decide)) rfl (pa_cons (pv 0) (pa_cons (pv 1) (pa_cons (pe_ix (ix_X K hr.units) (pv 2) pe_int (fun _ _=>rfl)) (pa_cons (pe_ix (ix_X K hr.units) (pv 2) pe_int (fun _ _=>rfl)) (pa_cons (pv 6) pa_nil star_n) star_s) star_s) star_n) star_n)))) (pss_one (ps_ret pe_bl)) pss_nil)
   (pss_cons (ps_for PassesOwn.never rfl (pi_listK K (pe_lst (pa_cons (pe_tup (pa_cons (pv 8) (pa_cons (pe_un un_neg pe_int) pa_nil))) (pa_cons (pe_tup (pa_cons (pv 9) (pa_cons pe_int pa_nil))) pa_nil)))) (pg_tupK (n:=2) K rfl (pgs_cons (pg_name (i:=10) nd rfl (Or.inl rfl)) (pgs_cons (pg_name (i:=11) nd rfl (Or.inr rfl)) pgs_nil))) (pss_cons (ps_setC (i:=12) nd rfl rfl (by rfl) (defScope sMovesRight) ["_law_web_here","_law_order","_law_pair_here","_law_told_here","_law_back","_law_forward","_law_moves","_law_goal","_law_downs","_law_ups","_law_some","_law_by","_law_places","_law_by_how","_law_stays","_law_stood"] ["_law_thing"] [7] ["_law_thing","_law_goal"] rfl (pi_listK K (pv 10)) (fun _ _ _ _ _=>(pg_name (i:=0) (show (["_law_thing","_law_goal"]:List Str).Nodup by decide) rfl (Or.inl rfl))) (fun _ _ _ _ _=>pts_nil) (fun _ _ _ _ _=>(m_index K (pv 1) (pa_cons (pv 0) pa_nil))))
   (pss_cons (ps_setC (i:=13) nd rfl rfl (by rfl) (defScope sMovesRight) ["_law_web_here","_law_order","_law_pair_here","_law_told_here","_law_back","_law_forward","_law_moves","_law_goal","_law_downs","_law_ups","_law_some","_law_by","_law_places","_law_by_how","_law_stays","_law_stood"] ["_law_thing"] [11,7,1] ["_law_thing","_law_by","_law_goal","_law_order"] rfl (pi_listK K (pv 10)) (fun _ _ _ _ _=>(pg_name (i:=0) (show (["_law_thing","_law_by","_law_goal","_law_order"]:List Str).Nodup by decide) rfl (Or.inl rfl))) (fun _ _ _ _ _=>pts_nil) (fun _ _ _ _ _=>(pe_op op_mul (pv 1) (pe_op op_sub (m_index K (pv 2) (pa_cons (pv 0) pa_nil)) (m_index K (pv 3) (pa_cons (pv 0) pa_nil))))))
   (pss_one (ps_if (PW.pt (pw_or (pt_cmpR (op_neX hr.units) (pv 12) (b_sorted K Z (pa_cons (pv 12) pa_nil)) (nomark _)) (pw_or1 (pt_cmpR op_ltX (b_minL K rfl B (pa_cons (pv 13) pa_nil)) pe_int (nomark _))))) (pss_one (ps_ret pe_bl)) pss_nil)))))
   (pss_cons (ps_setC (i:=14) nd rfl rfl (by rfl) (defScope sMovesRight) ["_law_web_here","_law_order","_law_pair_here","_law_told_here","_law_back","_law_forward","_law_moves","_law_goal","_law_downs","_law_ups","_law_some","_law_by","_law_places","_law_by_how","_law_stays","_law_stood"] ["_law_thing"] [8,9] ["_law_thing","_law_downs","_law_ups"] rfl (pi_listK K (pv 1)) (fun _ _ _ _ _=>(pg_name (i:=0) (show (["_law_thing","_law_downs","_law_ups"]:List Str).Nodup by decide) rfl (Or.inl rfl))) (fun _ _ _ _ _=>(pts_one (pt_cmpR (op_notInX K hr.units) (pv 0) (pe_op op_addX (pv 1) (pv 2)) (by with_unfolding_all rfl)))) (fun _ _ _ _ _=>(pv 0)))
   (pss_cons (ps_setC (i:=15) nd rfl rfl (by rfl) (defScope sMovesRight) ["_law_web_here","_law_order","_law_pair_here","_law_told_here","_law_back","_law_forward","_law_moves","_law_goal","_law_downs","_law_ups","_law_some","_law_by","_law_places","_law_by_how","_law_stays","_law_stood"] ["_law_thing"] [1] ["_law_thing","_law_order"] rfl (pi_listK K (pv 14)) (fun _ _ _ _ _=>(pg_name (i:=0) (show (["_law_thing","_law_order"]:List Str).Nodup by decide) rfl (Or.inl rfl))) (fun _ _ _ _ _=>pts_nil) (fun _ _ _ _ _=>(m_index K (pv 1) (pa_cons (pv 0) pa_nil))))
   (pss_cons (ps_if (PW.pt (pw_or (pt_cmpR (op_neX hr.units) (b_len K B (pa_cons (pv 7) pa_nil)) (b_len K B (pa_cons (pv 1) pa_nil)) (nomark _)) (pw_or1 (pt_cmpR (op_neX hr.units) (pe_comp (defScope sMovesRight) ["_law_web_here","_law_order","_law_pair_here","_law_told_here","_law_back","_law_forward","_law_moves","_law_goal","_law_downs","_law_ups","_law_some","_law_by","_law_places","_law_by_how","_law_stays","_law_stood"] ["_law_thing"] [7] ["_law_thing","_law_goal"] rfl (pi_listK K (pv 14)) (fun _ _ _ _ _=>(pg_name (i:=0) (show (["_law_thing","_law_goal"]:List Str).Nodup by decide) rfl (Or.inl rfl))) (fun _ _ _ _ _=>pts_nil) (fun _ _ _ _ _=>(m_index K (pv 1) (pa_cons (pv 0) pa_nil)))) (pv 15) (nomark _))))) (pss_one (ps_ret pe_bl)) pss_nil)
   (pss_one (ps_ret (b_all rfl B (pa_cons (pe_comp (defScope sMovesRight) ["_law_web_here","_law_order","_law_pair_here","_law_told_here","_law_back","_law_forward","_law_moves","_law_goal","_law_downs","_law_ups","_law_some","_law_by","_law_places","_law_by_how","_law_stays","_law_stood"] ["_law_one","_law_other"] [7] ["_law_one","_law_other","_law_goal"] rfl (pi_tupK K (pe_op (op_catTA K) (pe_ix (ix_X K hr.units) (pv 0) pe_int (fun _ _=>rfl)) (pe_tup (pa_cons (pv 2) pa_nil)))) (fun _ _ _ _ _=>(pg_tupK (n:=2) K rfl (pgs_cons (pg_name (i:=0) (show (["_law_one","_law_other","_law_goal"]:List Str).Nodup by decide) rfl (Or.inl rfl)) (pgs_cons (pg_name (i:=1) (show (["_law_one","_law_other","_law_goal"]:List Str).Nodup by decide) rfl (Or.inl rfl)) pgs_nil)))) (fun _ _ _ _ _=>pts_nil) (fun _ _ _ _ _=>(pe_cmpR op_ltX (m_index K (pv 2) (pa_cons (pv 0) pa_nil)) (m_index K (pv 2) (pa_cons (pv 1) pa_nil)) (nomark _)))) pa_nil))))))))))))))),?_⟩
  refine⟨_,rfl,tq,_,rfl,.of htq,rfl,_,_,rfl,st,_,rfl,.of hst,rfl,_,_,rfl,_,_,rfl,rfl,_,_,rfl,rfl,?_⟩
  refine⟨_,rfl,_,rfl,nil_ ⟨lo,l,refs,os,_,rfl,W.ord,hl,rp,fun m hm=>(mo1 m hm).2,fun lg H1 s1 hlg0 hlg=>?_⟩⟩
  rw[me] at hlg
  have W1:=W.same s1
  have hpq1:=s1 _ _ hpq
  have ha1:=s1 _ _ ha
  have hb1:=s1 _ _ hb
  have hl1:=s1 _ _ hl
  have rp1:=rp.same s1
  have A60:(dueB os ts one other++dueF os ts one other).length<=os.length:=cnd.length_le_of_subset sub
  rw[aG] at A60
  refine⟨_,rfl,.inl ⟨rfl,_,.of W1.ord⟩,_,rfl,.tup (.of hpq1) rfl (nil_ (bm_index W1.ord ond m1 ?_))⟩
  refine⟨_,rfl,.inl ⟨rfl,_,.of W1.ord⟩,_,rfl,.tup (.of hpq1) rfl (nil_ (bm_index W1.ord ond m2 (.int ⟨_,rfl,ite2 (fun hlt=>?_) (fun hlt=>?_)⟩)))⟩
  ·have hlt:os.idxOf one<os.idxOf other:=by have:=az hlt;omega
   have eA:dueB os ts one other=[]:=if_pos hlt
   have eB:dueF os ts one other=[]:=if_pos hlt
   rw[eA] at ha1
   rw[eB] at hb1
   have eL:laidL os ([]++[])=os:=by
    unfold laidL
    simp[setAll]
   rw[eA,eB,eL] at hlg
   have eM:mvs os ([]++[])=[]:=by simp[mvs,plc]
   rw[eA,eB,eM] at rp1
   have er:refs=[]:=by cases rp1;rfl
   rw[er] at hl1
   refine⟨_,rfl,_,rfl,_,rfl,_,rfl,nil_ ⟨(by show 4<=sizeLine;decide),fun q1 hq1=>?_⟩⟩
   have t1:=Same.new (o:=.tup [.ref a,.ref b,.ref l,.ref lg]) hq1
   have e1:upd H1 q1 (.tup [.ref a,.ref b,.ref l,.ref lg]) q1=some (.tup [.ref a,.ref b,.ref l,.ref lg]):=upd_same
   generalize upd H1 q1 (.tup [.ref a,.ref b,.ref l,.ref lg])=H2 at t1 e1 ⊢
   refine⟨(by show 0<=sizeLine;decide),fun x1 hx1=>?_⟩
   have t2:=Same.new (o:=.lst []) hx1
   have g1:upd H2 x1 (.lst []) x1=some (.lst []):=upd_same
   generalize upd H2 x1 (.lst [])=H3 at t2 g1 ⊢
   refine⟨(by show 0<=sizeLine;decide),fun x2 hx2=>?_⟩
   have t3:=Same.new (o:=.lst []) hx2
   have g2:upd H3 x2 (.lst []) x2=some (.lst []):=upd_same
   generalize upd H3 x2 (.lst [])=H4 at t3 g2 ⊢
   refine⟨(by show 0<=sizeLine;decide),fun x3 hx3=>?_⟩
   have t4:=Same.new (o:=.lst []) hx3
   have g3:upd H4 x3 (.lst []) x3=some (.lst []):=upd_same
   generalize upd H4 x3 (.lst [])=H5 at t4 g3 ⊢
   refine⟨_,rfl,nil_ ⟨(by show 4<=sizeLine;decide),fun q2 hq2=>?_⟩⟩
   have t5:=Same.new (o:=.tup [.ref x1,.ref x2,.ref x3,.ref lo]) hq2
   have e5:upd H5 q2 (.tup [.ref x1,.ref x2,.ref x3,.ref lo]) q2=some (.tup [.ref x1,.ref x2,.ref x3,.ref lo]):=upd_same
   generalize upd H5 q2 (.tup [.ref x1,.ref x2,.ref x3,.ref lo])=H6 at t5 e5 ⊢
   have t25:=((t2.trans t3).trans t4).trans t5
   have t15:=t1.trans t25
   have r1:Rep H6 (.ref q1) (.tuple (([[],[],[],os]:List (List Str)).map namesD)):=.tup (t25 _ _ e1) (.cons (names_rep (t15 _ _ ha1)) (.cons (names_rep (t15 _ _ hb1)) (.cons (names_rep (t15 _ _ hl1)) (.cons (names_rep (t15 _ _ hlg)) .nil))))
   have r2:Rep H6 (.ref q2) (.tuple (([[],[],[],os]:List (List Str)).map namesD)):=.tup e5 (.cons (names_rep (((t3.trans t4).trans t5) _ _ g1)) (.cons (names_rep ((t4.trans t5) _ _ g2)) (.cons (names_rep (t5 _ _ g3)) (.cons (names_rep (t15 _ _ W1.ord)) .nil))))
   have sh:shp (.tuple (([[],[],[],os]:List (List Str)).map namesD)):=shp_tupN fun l hl s hs=>by
    simp only[ax,List.not_mem_nil,or_false] at hl
    rcases hl with rfl | rfl | rfl | rfl
    ·cases hs
    ·cases hs
    ·cases hs
    ·exact onm s hs
   refine .tr r1 r2 sh sh ?_
   show Q (.bl (PyData.eqv _ _)) H6
   rw[eqv_shp sh]
   exact k H6 (s1.trans t15)
  ·have hlt:¬ os.idxOf one<os.idxOf other:=fun z=>hlt (ao (by omega))
   have D:=due_ok ond fw m1 m2 nr hlt
   have mn:=mvs_names ond cnd sub
   have tl:=told_let ond fw m1 m2 nr
   have hne:os.idxOf other<os.idxOf one:=by
    have:os.idxOf other≠os.idxOf one:=fun z=>nr ⟨hlt,(idx_inj m2 m1 z) ▸ MG.Rch.refl⟩
    omega
   refine⟨_,rfl,_,rfl,_,rfl,nil_ ⟨wq,lo,pq,ss,ts,os,one,other,rfl,hpq1,W1,fw,h1,h2,hne,few,fun q2 ld lu H2 s2 hq2 hd2 hu2=>?_⟩⟩
   generalize dueB os ts one other=A at *
   generalize dueF os ts one other=C at *
   generalize laidL os (A++C)=gs at *
   clear me hlg0
   refine⟨q2,_,rfl,.of hq2,rfl,_,_,rfl,_,_,rfl,rfl,?_⟩
   have W2:=W1.same s2
   have s12:=s1.trans s2
   have hlg2:=s2 _ _ hlg
   have gin:∀x∈os,x∈gs:=fun x hx=>D.pm.mem_iff.mpr hx
   have gl:=D.pm.length_eq
   have nd3:=bn.mp cnd
   have subA:∀x∈A,x∈os:=fun x hx=>sub x (aU _ hx)
   have subC:∀x∈C,x∈os:=fun x hx=>sub x (aJ _ hx)
   refine⟨_,rfl,ld,rfl,⟨_,.of hd2⟩,?_⟩
   refine comp_list (List.map V.str A) (fun _ i acc σ' H'=>∃o,σ'=[o,some (.ref lu)]/\acc=[]/\Same H2 H') fun D1 hD1=>⟨?_,?_,?_,?_⟩
   ·exact⟨none,rfl,rfl,Same.new hD1⟩
   ·rintro i acc σ' H' _ ⟨o,rfl,_,sm⟩ _
    exact .of (sm _ _ hd2)
   ·rintro i acc σ' H' x hx ⟨o,rfl,rfl,sm⟩ hacc
    obtain⟨z,hz,rfl⟩:=str_get' hx
    refine⟨_,rfl,_,rfl,.seq (.inl (.of (sm _ _ hu2))) rfl (flat_strs _) ⟨_,rfl,?_⟩⟩
    rw[in_strs]
    refine ite2 (fun h=>?_) (fun h=>⟨hacc,_,rfl,rfl,sm⟩)
    have h:z∈C:=az h
    exact absurd rfl (nd3.2.2 z (aj hz) z h)
   rintro acc σ' H3 ⟨o,rfl,rfl,s3⟩ hacc
   refine⟨(by show 0<=sizeLine;decide),fun ln hln=>?_⟩
   have s4:=Same.new (o:=.lst []) hln
   refine .tr (names_rep (ss:=[]) (s4 _ _ hacc)) (.lst upd_same .nil) (by rfl) (by rfl) ⟨_,rfl,ite2 (fun h=>absurd h (by decide)) (fun _=>?_)⟩
   have s24:=s3.trans s4
   clear s3 hacc
   generalize upd H3 ln (.lst [])=H4 at s4 s24 ⊢
   refine⟨_,rfl,_,rfl,nil_ ⟨(by show 2<=sizeLine;decide),fun x1 hx1=>⟨_,rfl,_,rfl,nil_ ⟨(by show 2<=sizeLine;decide),fun x2 hx2=>?_⟩⟩⟩⟩
   have t1:=Same.new (o:=.tup [.ref a,.ref b]) hx1
   have e1:upd H4 x1 (.tup [.ref a,.ref b]) x1=some (.tup [.ref a,.ref b]):=upd_same
   have t2:=Same.new (o:=.tup [.ref ld,.ref lu]) hx2
   have e2:upd (upd H4 x1 (.tup [.ref a,.ref b])) x2 (.tup [.ref ld,.ref lu]) x2=some (.tup [.ref ld,.ref lu]):=upd_same
   have e1:=t2 _ _ e1
   have t12:=s24.trans (t1.trans t2)
   generalize upd (upd H4 x1 (.tup [.ref a,.ref b])) x2 (.tup [.ref ld,.ref lu])=H5 at t2 e2 e1 t12 ⊢
   clear t1 t2 s24 s4 hx2
   have t05:=s2.trans t12
   have hd5:=t12 _ _ hd2
   have hu5:=t12 _ _ hu2
   have sh:shp (.tuple (([A,C]:List (List Str)).map namesD)):=shp_tupN fun l hl s hs=>by
    simp only[ax,List.not_mem_nil,or_false] at hl
    rcases hl with rfl | rfl
    ·exact onm s (subA s hs)
    ·exact onm s (subC s hs)
   refine .tr (da:=.tuple (([A,C]:List (List Str)).map namesD)) (db:=.tuple (([A,C]:List (List Str)).map namesD)) (.tup e1 (.cons (names_rep (t05 _ _ ha1)) (.cons (names_rep (t05 _ _ hb1)) .nil))) (.tup e2 (.cons (names_rep hd5) (.cons (names_rep hu5) .nil))) sh sh ⟨_,rfl,?_⟩
   rw[eqv_shp sh]
   refine ite2 (fun h=>absurd h (by decide)) (fun _=>?_)
   have hl5:=t05 _ _ hl1
   have rp5:=rp1.same t05
   have rl:=rp5.len
   rw[aa] at rl
   have ml:=mn.length_eq
   rw[aa,aG] at ml
   refine⟨_,rfl,l,rfl,⟨_,.of hl5⟩,?_⟩
   refine comp_list refs (fun D i acc σ' H'=>∃o,σ'=[o]/\acc=List.map V.str (((mvs os (A++C)).take i).map (·.1))/\Same H5 H'/\H5 D=none) fun D1 hD1=>⟨?_,?_,?_,?_⟩
   ·exact⟨none,rfl,rfl,Same.new hD1,hD1⟩
   ·rintro i acc σ' H' _ ⟨o,rfl,_,sm,_⟩ _
    exact .of (sm _ _ hl5)
   ·rintro i acc σ' H' x hx ⟨o,rfl,rfl,sm,hD0⟩ hacc
    have hil:=(af.mp hx).1
    obtain⟨m,ta,hm,rfl,hta⟩:=mv_get (rp5.same sm) hx
    refine gYes ?_
    refine⟨_,rfl,.tup (.of hta) rfl ?_⟩
    exact⟨hacc,by rw[aa,aa,av];exact small1000 (by omega),_,rfl,by rw[au,hm,ah,ah];rfl,same_at sm hD0,hD0⟩
   rintro acc σ' H6 ⟨o,rfl,rfl,s6,hD0⟩ hacc
   rw[rl,aw (ae _)] at hacc
   refine nil_ ⟨D1,_,rfl,.inl (.of hacc),by rw[aa];omega,fun l1 n1 hl1' pm1 or1=>?_⟩
   have s7:=Same.new (o:=.lst (List.map V.str n1)) hl1'
   have e7:upd H6 l1 (.lst (List.map V.str n1)) l1=some (.lst (List.map V.str n1)):=upd_same
   have s57:=s6.trans s7
   generalize upd H6 l1 (.lst (List.map V.str n1))=H7 at s7 e7 s57 ⊢
   refine⟨_,rfl,_,rfl,.lst (s57 _ _ hd5) (s57 _ _ hu5) (by rw[aa,aa];exact aT (small1000 (by omega))) fun l2 hl2=>?_⟩
   have s8:=Same.new (o:=.lst (List.map V.str A++List.map V.str C)) hl2
   have e8:upd H7 l2 (.lst (List.map V.str A++List.map V.str C)) l2=some (.lst (List.map V.str (A++C))):=by rw[upd_same,ah]
   have s58:=s57.trans s8
   have e78:=s8 _ _ e7
   generalize upd H7 l2 (.lst (List.map V.str A++List.map V.str C))=H8 at s8 e8 s58 e78 ⊢
   refine nil_ ⟨l2,_,rfl,.inl (.of e8),by rw[aG];omega,fun l3 n3 hl3 pm3 or3=>?_⟩
   have en:n1=n3:=sortedS_uniq (pm1.trans (mn.trans pm3.symm)) or1 or3
   have s9:=Same.new (o:=.lst (List.map V.str n3)) hl3
   have n3m:∀s∈n3,Nm s:=fun s hs=>onm s (sub s (pm3.mem_iff.mp hs))
   rw[en] at e78
   refine .tr (names_rep (s9 _ _ e78)) (names_rep upd_same) (shp_names n3m) (shp_names n3m) ⟨_,rfl,?_⟩
   rw[eqv_shp (shp_names n3m)]
   refine ite2 (fun h=>absurd h (by decide)) (fun _=>?_)
   have s59:=s58.trans s9
   generalize upd H8 l3 (.lst (List.map V.str n3))=H9 at s9 s59 ⊢
   clear s9 s58 s57 s8 e8 e78 s7 e7 s6 hacc en pm1 pm3 or1 or3 n3m
   have t09:=t05.trans s59
   have W9:=W1.same t09
   have hpq9:=t09 _ _ hpq1
   refine⟨_,rfl,_,rfl,_,rfl,.tup (.of hpq9) rfl ⟨_,rfl,.tup (.of hpq9) rfl ⟨_,rfl,nil_ ⟨wq,lo,l,refs,ss,ts,os,one,other,_,rfl,W9,h1,h2,s59 _ _ hl5,rp5.same s59,by omega,mo1,fun HA sA=>?_⟩⟩⟩⟩
   rw[tl]
   refine⟨_,rfl,ite2 (fun h=>absurd h (by decide)) (fun _=>?_)⟩
   have t0A:=t09.trans sA
   have s5A:=s59.trans sA
   have hdA:=s5A _ _ hd5
   have huA:=s5A _ _ hu5
   have hgA:=(t0A) _ _ hlg
   have WA:=W1.same t0A
   have hpqA:=t0A _ _ hpq1
   clear W9 hpq9 t09 s59 sA s5A hd5 hu5 hl5 rp5 rp1 hl1 hl rp W2 hlg2 hd2 hu2 hq2 s2 s12 t12 t05 e1 e2 sh
   refine⟨_,rfl,_,rfl,nil_ ⟨(by show 2<=sizeLine;decide),fun t1 ht1=>⟨_,rfl,(by show 2<=sizeLine;decide),fun t2 ht2=>?_⟩⟩⟩
   have r1:=Same.new (o:=.tup [.ref ld,.int (-1)]) ht1
   have e1:upd HA t1 (.tup [.ref ld,.int (-1)]) t1=some (.tup [.ref ld,.int (-1)]):=upd_same
   have r2:=Same.new (o:=.tup [.ref lu,.int 1]) ht2
   have e2:upd (upd HA t1 (.tup [.ref ld,.int (-1)])) t2 (.tup [.ref lu,.int 1]) t2=some (.tup [.ref lu,.int 1]):=upd_same
   have e1:=r2 _ _ e1
   have r12:=r1.trans r2
   refine nil_ ⟨(by show 2<=sizeLine;decide),fun lf hlf=>?_⟩
   have r3:=Same.new (o:=.lst [.ref t1,.ref t2]) hlf
   have e3:upd (upd (upd HA t1 (.tup [.ref ld,.int (-1)])) t2 (.tup [.ref lu,.int 1])) lf (.lst [.ref t1,.ref t2]) lf=some (.lst [.ref t1,.ref t2]):=upd_same
   have e1:=r3 _ _ e1
   have e2:=r3 _ _ e2
   have rA:=r12.trans r3
   refine⟨lf,rfl,⟨_,.of e3⟩,?_⟩
   generalize upd (upd (upd HA t1 (.tup [.ref ld,.int (-1)])) t2 (.tup [.ref lu,.int 1])) lf (.lst [.ref t1,.ref t2])=HB at r3 e1 e2 e3 rA ⊢
   clear r1 r2 r3 r12 ht1 ht2 hlf
   have hdB:=rA _ _ hdA
   have huB:=rA _ _ huA
   have hgB:=rA _ _ hgA
   have WB:=WA.same rA
   have hpqB:=rA _ _ hpqA
   have t0B:=t0A.trans rA
   clear hdA huA hgA WA hpqA t0A rA
   have upA:A.Pairwise fun x y=>gs.idxOf x<gs.idxOf y:=(List.pairwise_append.mp D.up).1
   have upC:C.Pairwise fun x y=>gs.idxOf x<gs.idxOf y:=(List.pairwise_append.mp D.up).2.1
   refine for_list (xs:=[.ref t1,.ref t2]) (fun _ σ H'=>∃(o10 o11 o12 o13:Option V),σ=[some (.ref wq),some (.ref lo),some (.ref pq),some (.ref tq),some (.ref a),some (.ref b),some (.ref l),some (.ref lg),some (.ref ld),some (.ref lu),o10,o11,o12,o13,none,none]/\Same HB H') ⟨none,none,none,none,rfl,Same.refl _⟩ (fun i σ H' _ ⟨_,_,_,_,_,sm⟩=>.of (sm _ _ e3)) ?_ ?_
   ·rintro i x σ HC hx ⟨o10, o11, o12, o13, rfl, sC⟩
    obtain⟨tt,t,lL,L,rfl,htt,hL,ht,up,mn1,lpos,subL,l60⟩:∃(tt:Addr) (t:Int) (lL:Addr) (L:List Str),x=.ref tt/\HB tt=some (.tup [.ref lL,.int t])/\HB lL=some (.lst (List.map V.str L))/\(t=1∨t=-1)/\(L.Pairwise fun x y=>gs.idxOf x<gs.idxOf y)/\(∀z∈L,1<=t * (((gs.idxOf z:Nat):Int)-((os.idxOf z:Nat):Int)))/\0<L.length/\(∀z∈L,z∈os)/\L.length<=60:=by
     match i,hx with
     | 0,hx =>
      cases hx
      exact⟨t1,-1,ld,A,rfl,e1,hdB,.inr rfl,upA,fun z hz=>by have:=D.dn z hz;omega,List.length_pos_of_mem D.one_,subA,by omega⟩
     | 1,hx =>
      cases hx
      exact⟨t2,1,lu,C,rfl,e2,huB,.inl rfl,upC,fun z hz=>by have:=D.ups z hz;omega,List.length_pos_of_mem D.other_,subC,by omega⟩
    refine⟨tt,_,rfl,.of (sC _ _ htt),rfl,_,_,rfl,_,_,rfl,rfl,?_⟩
    refine⟨_,rfl,lL,rfl,⟨_,.of (sC _ _ hL)⟩,?_⟩
    refine ix_comp rfl (sC _ _ hL) (sC _ _ hgB) D.nd (fun z hz=>gin z (subL z hz)) l60 fun c1 HD sD hc1=>?_
    have sBD:=sC.trans sD
    refine⟨_,rfl,lL,rfl,⟨_,.of (sBD _ _ hL)⟩,?_⟩
    refine by_comp ht rfl (sBD _ _ hL) (sBD _ _ hgB) (sBD _ _ WB.ord) D.nd (fun z hz=>gin z (subL z hz)) ond subL l60 fun c2 HE sE hc2=>?_
    have hc1E:=sE _ _ hc1
    have sBE:=sBD.trans sE
    obtain⟨zs,ezs⟩:∃zs:List Int,zs=L.map fun x=>((gs.idxOf x:Nat):Int):=⟨_,rfl⟩
    have zup:zs.Pairwise (·<=·):=by rw[ezs];exact rise_ints up
    have zl:zs.length=L.length:=by rw[ezs,aa]
    rw[<- ezs] at hc1E
    refine⟨_,rfl,_,rfl,nil_ ⟨c1,zs,rfl,.of hc1E,by omega,fun ls ns hls pm or=>?_⟩⟩
    have sF:=Same.new (o:=.lst (List.map V.int ns)) hls
    have en:ns=zs:=sorted_self zup pm or
    refine .tr (ints_rep (sF _ _ hc1E)) (ints_rep upd_same) (shp_ints _) (shp_ints _) ⟨_,rfl,?_⟩
    rw[en,eqv_shp (shp_ints zs)]
    refine ite2 (fun h=>absurd h (by decide)) (fun _=>?_)
    rw[en] at sF
    have hc2F:=sF _ _ hc2
    have sBF:=sBE.trans sF
    generalize upd HE ls (.lst (List.map V.int zs))=HF at sF hc2F sBF ⊢
    refine⟨_,rfl,nil_ ⟨c2,_,rfl,.of hc2F,by rw[aa];exact lpos,fun M hM hmin=>.int ⟨_,rfl,ite2 (fun h=>?_) (fun _=>⟨_,_,_,_,rfl,sBF⟩)⟩⟩⟩
    obtain⟨z,hz,e⟩:=ap.mp hM
    have:=mn1 z hz
    have h:M<1:=az h
    omega
   ·rintro σ HC ⟨o10, o11, o12, o13, rfl, sC⟩
    have hdC:=sC _ _ hdB
    have huC:=sC _ _ huB
    have WC:=WB.same sC
    have hgC:=sC _ _ hgB
    have hpqC:=sC _ _ hpqB
    have t0C:=t0B.trans sC
    clear hdB huB WB hgB hpqB t0B sC e1 e2 e3
    refine⟨_,rfl,lo,rfl,⟨_,.of WC.ord⟩,?_⟩
    refine comp_list (List.map V.str os) (fun D i acc σ' H'=>∃o,σ'=[o,some (.ref ld),some (.ref lu)]/\acc=List.map V.str ((os.take i).filter fun z=>!decide (z∈A++C))/\Same HC H'/\HC D=none) fun D1 hD1=>⟨?_,?_,?_,?_⟩
    ·exact⟨none,rfl,rfl,Same.new hD1,hD1⟩
    ·rintro i acc σ' H' _ ⟨o,rfl,_,sm,_⟩ _
     exact .of (sm _ _ WC.ord)
    ·rintro i acc σ' H' x hx ⟨o,rfl,rfl,sm,hD0⟩ hacc
     obtain⟨z,hz,rfl⟩:=str_get' hx
     have hil:=(af.mp hz).1
     have fl:=aK (fun z=>!decide (z∈A++C)) (os.take i)
     rw[av] at fl
     refine⟨_,rfl,_,rfl,_,rfl,.lst (sm _ _ hdC) (sm _ _ huC) (by rw[aa,aa];exact aT (small1000 (by omega))) fun l2 hl2=>?_⟩
     have s8:=Same.new (o:=.lst (List.map V.str A++List.map V.str C)) hl2
     have e8:upd H' l2 (.lst (List.map V.str A++List.map V.str C)) l2=some (.lst (List.map V.str (A++C))):=by rw[upd_same,ah]
     have hacc8:=s8 _ _ hacc
     have sm8:=sm.trans s8
     generalize upd H' l2 (.lst (List.map V.str A++List.map V.str C))=H8 at s8 e8 hacc8 sm8 ⊢
     refine .seq (.inl (.of e8)) rfl (flat_strs _) ⟨_,rfl,?_⟩
     rw[in_strs]
     refine ite2 (fun h=>?_) (fun h=>?_)
     ·have h:(!decide (z∈A++C))=true:=h
      exact⟨_,rfl,hacc8,by rw[aa];exact small1000 (by omega),_,rfl,by rw[filt_step _ _ _ _ hz,if_pos h,ah];rfl,same_at sm8 hD0,hD0⟩
     ·have h:¬ (!decide (z∈A++C))=true:=h
      exact⟨hacc8,_,rfl,by rw[filt_step _ _ _ _ hz,if_neg h,ba],sm8,hD0⟩
    rintro acc σ' HD ⟨o,rfl,rfl,sD,hD0⟩ hacc
    rw[aa,aw (ae _)] at hacc
    obtain⟨S,eS⟩:∃S,S=os.filter fun z=>!decide (z∈A++C):=⟨_,rfl⟩
    have Sl:S.length<=os.length:=by rw[eS];exact aK _ _
    have Ssub:∀z∈S,z∈os/\z∉A++C:=fun z hz=>by
     rw[eS] at hz
     obtain⟨g1,g2⟩:=am.mp hz
     exact⟨g1,by simpa using g2⟩
    rw[<- eS] at hacc
    clear eS
    have WD:=WC.same sD
    refine⟨_,rfl,D1,rfl,⟨_,.of hacc⟩,?_⟩
    refine ix_comp rfl hacc WD.ord ond (fun z hz=>(Ssub z hz).1) (by omega) fun c1 HE sE hc1=>?_
    have sCE:=sD.trans sE
    have hgE:=sCE _ _ hgC
    have WE:=WD.same sE
    have haccE:=sE _ _ hacc
    refine⟨_,rfl,_,_,rfl,Or.inl ⟨_,.of hgE,rfl⟩,_,rfl,_,_,rfl,Or.inl ⟨_,.of WE.ord,rfl⟩,.sc rfl ⟨_,rfl,ite2 (fun h=>?_) (fun _=>?_)⟩⟩
    ·have h:(!decide (V.int ((List.map V.str gs).length:Nat)=V.int ((List.map V.str os).length:Nat)))=true:=h
     rw[aa,aa,gl,ao rfl] at h
     cases h
    refine⟨_,rfl,D1,rfl,⟨_,.of haccE⟩,?_⟩
    refine ix_comp rfl haccE hgE D.nd (fun z hz=>gin z (Ssub z hz).1) (by omega) fun c2 HF sF hc2=>?_
    have ez:(S.map fun x=>((gs.idxOf x:Nat):Int))=S.map fun x=>((os.idxOf x:Nat):Int):=List.map_congr_left fun x hx=>by rw[D.out x (Ssub x hx).1 (Ssub x hx).2]
    rw[ez] at hc2
    refine⟨_,rfl,.tr (ints_rep hc2) (ints_rep (sF _ _ hc1)) (shp_ints _) (shp_ints _) ⟨_,rfl,?_⟩⟩
    rw[eqv_shp (shp_ints _)]
    refine ite2 (fun h=>absurd h (by decide)) (fun _=>?_)
    have sCF:=sCE.trans sF
    have WF:=WC.same sCF
    have hgF:=sCF _ _ hgC
    have hpqF:=sCF _ _ hpqC
    have t0F:=t0C.trans sCF
    clear WE WD WC hgE haccE hacc hc1 hc2 sE sF sD sCE hdC huC
    obtain⟨wq',wa,wb,xs,e,hwq,hwa,hwb,wrp⟩:=web_at WF.web.rep
    cases e
    have xl:=wrp.len
    rw[aa] at xl
    have inn':∀e∈ts++[(one,other)],e.1∈gs/\e.2∈gs:=fun e he=>by
     rcases aq.mp he with g | g
     ·have:=W.web.inn e g
      exact⟨gin _ (W.pm.mem_iff.mpr this.1),gin _ (W.pm.mem_iff.mpr this.2)⟩
     ·rw[aQ.mp g];exact⟨gin _ m1,gin _ m2⟩
    have ll:(ts++[(one,other)]).length=ts.length+1:=by rw[aG];rfl
    have allT:∀n,(List.replicate n true).all id=true:=fun n=>bi.mpr fun x hx=>(List.mem_replicate.mp hx).2
    refine⟨_,rfl,.tup (.of hwq) rfl ⟨_,rfl,(by show 1<=sizeLine;decide),fun tp htp=>?_⟩⟩
    have sG:=Same.new (o:=.tup [V.ref pq]) htp
    have e1:upd HF tp (.tup [V.ref pq]) tp=some (.tup [V.ref pq]):=upd_same
    have hpqG:=sG _ _ hpqF
    have wrpG:=wrp.same sG
    have hwbG:=sG _ _ hwb
    have hgG:=sG _ _ hgF
    have t0G:=t0F.trans sG
    generalize upd HF tp (.tup [V.ref pq])=HG at sG e1 hpqG wrpG hwbG hgG t0G ⊢
    refine⟨wb,tp,xs,[V.ref pq],rfl,rfl,.of hwbG,.of e1,(by show xs.length+1<=sizeLine;exact aT (small1000 (by omega))),fun hx=>?_,fun _ h=>absurd h (by simp),fun hx _ tz htz=>?_⟩
    ·have ets:ts=[]:=List.length_eq_zero_iff.mp (by rw[<- xl,hx];rfl)
     refine⟨tp,rfl,⟨_,.of e1⟩,?_⟩
     refine fw_comp (es:=ts++[(one,other)]) rfl e1 (by rw[ets];exact .cons (pair_rep hpqG) .nil) hgG D.nd inn' D.fw (by omega) fun c n HH sH hc=>?_
     refine nil_ ⟨c,_,rfl,hc,?_⟩
     rw[allT n]
     exact k HH ((s1.trans t0G).trans sH)
    ·have sZ:=Same.new (o:=.tup (xs++[V.ref pq])) htz
     refine⟨tz,rfl,⟨_,.of upd_same⟩,?_⟩
     refine fw_comp (es:=ts++[(one,other)]) rfl upd_same (by rw[ah];exact RepAll.append (wrpG.same sZ) (.cons (pair_rep (sZ _ _ hpqG)) .nil)) (sZ _ _ hgG) D.nd inn' D.fw (by omega) fun c n HH sH hc=>?_
     refine nil_ ⟨c,_,rfl,hc,?_⟩
     rw[allT n]
     exact k HH (((s1.trans t0G).trans sZ).trans sH)
theorem fwd_of {gs:List Str}{ts:List (Str × Str)}(hm:∀e∈ts,e.1∈gs/\e.2∈gs) (h:∀e∈ts,gs.idxOf e.1<gs.idxOf e.2):Fwd gs ts:=fun e he=>⟨_,_,h e he,atIdx (hm e he).1,atIdx (hm e he).2⟩
theorem ring_rch {os:List Str}{ts:List (Str × Str)}{one other:Str}(ond:os.Nodup) (fw:Fwd os ts):isRing os ts one other ↔ MG.Rch (Tie ts) other one :=
 ⟨fun h=>h.2,fun h=>⟨fun z=>by have:=rch_up ond fw h;omega,h⟩⟩
def spAllR:Sp:=fun vs H Q _=>∃(wq lo lp:Addr) (prefs:List V) (ps:List (Str × Str)) (ss:List Str) (ts:List (Str × Str)) (os:List Str),vs=[.ref wq,.ref lo,.ref lp]/\WebO H (.ref wq) ss ts lo os/\Fwd os ts/\ts.length<=120/\H lp=some (.lst prefs)/\RepAll H prefs (ps.map pairD)/\ps.length<=60/\(∀e∈ps,e.1∈ss/\e.2∈ss)/\∀H',Same H H'->Q (.bl true) H'
theorem scAllR:FnScope ["_law_web_here","_law_order","_law_pairs","_law_pair_here","_law_told_here"] ["_law_web_here","_law_order","_law_pairs"] (defScope sAllRight):=⟨rfl,rfl,rfl,by decide +kernel,rfl,by decide +kernel,by decide +kernel⟩
theorem ok_allR {f:Addr}{fd:FuncData}(F:Fun K "_law_all_right" "_law_all_right" sAllRight f fd) (B:Blt mg) (c_law_told:Cal P w K mg base 8 "_law_told" ["_law_web_here", "_law_order", "_law_pair_here"] spTold) (c_law_reached:Cal P w K mg base 1 "_law_reached" ["_law_web_here", "_law_one"] spReach) (c_law_ring_right:Cal P w K mg base 1 "_law_ring_right" ["_law_web_here", "_law_ring", "_law_pair_here"] spRingR) (c_law_moves_right:Cal P w K mg base 5 "_law_moves_right" ["_law_web_here", "_law_order", "_law_pair_here", "_law_told_here"] spMovR) (cmoved:Cal P w K mg base 1 "moved" ["order", "moves"] spMoved) (cweb_of:Cal P w K mg base 5 "web_of" ["things", "ties"] spWebOf) :
    FnOk P w K mg base CX0 9 f fd ["_law_web_here","_law_order","_law_pairs"] spAllR:=by
 refine F.ok scAllR (fun vs H Q E h=>?_) (fun cdv A outer s H vs Q E hr h=>?_)
 ·obtain⟨wq,lo,lp,prefs,ps,ss,ts,os,rfl,_⟩:=h
  rfl
 ·obtain⟨wq0, lo0, lp, prefs, ps, ss, ts0, os0, rfl, W0, fw0, tl0, hlp, prp, p60, pin, k⟩ := h
  have nd:=scAllR.nd
  have prl:=prp.len
  rw[aa] at prl
  have h60:=W0.web.len
  refine⟨_,(pss_cons (ps_for PassesOwn.never rfl (pi_listK K (pv 2)) (pg_name (i:=3) nd rfl (Or.inl rfl)) (pss_cons (ps_set (i:=4) nd rfl (Or.inl rfl) (pe_cal c_law_told (hr.mono (by decide)) rfl (pa_cons (pv 0) (pa_cons (pv 1) (pa_cons (pv 3) pa_nil)))))
   (pss_cons (ps_if (pt_cmpR (op_neX hr.units) (pe_cmpR op_isX (pe_ix (ix_X K hr.units) (pv 4) pe_int (fun _ _=>rfl)) pe_non (nomark _)) (pe_cmpR (op_inX K hr.units) (pe_ix (ix_X K hr.units) (pv 3) pe_int (fun _ _=>rfl)) (pe_cal c_law_reached (hr.mono (by decide)) rfl (pa_cons (pv 0) (pa_cons (pe_ix (ix_X K hr.units) (pv 3) pe_int (fun _ _=>rfl)) pa_nil))) (by with_unfolding_all rfl)) (nomark _)) (pss_one (ps_ret pe_bl)) pss_nil)
   (pss_one (ps_if (pt_cmpR op_isX (pe_ix (ix_X K hr.units) (pv 4) pe_int (fun _ _=>rfl)) pe_non (nomark _)) (pss_one (ps_if (pt_not (pt_val (pe_cal c_law_ring_right (hr.mono (by decide)) rfl (pa_cons (pv 0) (pa_cons (pe_ix (ix_X K hr.units) (pv 4) pe_int (fun _ _=>rfl)) (pa_cons (pv 3) pa_nil)))))) (pss_one (ps_ret pe_bl)) pss_nil)) (pss_one (ps_if (pt_not (pt_val (pe_cal c_law_moves_right (hr.mono (by decide)) rfl (pa_cons (pv 0) (pa_cons (pv 1) (pa_cons (pv 3) (pa_cons (pv 4) pa_nil))))))) (pss_one (ps_ret pe_bl)) (pss_cons (ps_set (i:=1) nd rfl (Or.inl rfl) (pe_cal cmoved (hr.mono (by decide)) rfl (pa_cons (pv 1) (pa_cons (pe_ix (ix_X K hr.units) (pv 4) pe_int (fun _ _=>rfl)) pa_nil))))
   (pss_one (ps_if (pt_cmpR (op_notInDT hr.units) (pv 3) (pe_ix (ix_X K hr.units) (pv 0) pe_int (fun _ _=>rfl)) (by with_unfolding_all rfl)) (pss_one (ps_set (i:=0) nd rfl (Or.inl rfl) (pe_cal cweb_of (hr.mono (by decide)) rfl (pa_cons (b_list K rfl B (pa_cons (pe_ix (ix_X K hr.units) (pv 0) pe_int (fun _ _=>rfl)) pa_nil)) (pa_cons (pe_op (op_catTA K) (pe_ix (ix_X K hr.units) (pv 0) pe_int (fun _ _=>rfl)) (pe_tup (pa_cons (pv 3) pa_nil))) pa_nil))))) pss_nil))))))))))
   (pss_one (ps_ret pe_bl))),?_⟩
  refine⟨_,rfl,lp,rfl,⟨_,.of hlp⟩,?_⟩
  refine for_list (xs:=prefs) (fun i σ H'=>∃(wq lo:Addr) (ts:List (Str × Str)) (os:List Str) (o3 o4:Option V),σ=[some (.ref wq),some (.ref lo),some (.ref lp),o3,o4]/\WebO H' (.ref wq) ss ts lo os/\Fwd os ts/\ts.length<=120+i/\Same H H') ⟨wq0,lo0,ts0,os0,none,none,rfl,W0,fw0,by omega,Same.refl _⟩ (fun i σ H' _ ⟨_,_,_,_,_,_,_,_,_,_,sm⟩=>.of (sm _ _ hlp)) ?_ ?_
  ·rintro i x σ H1 hx ⟨wq, lo, ts, os, o3, o4, rfl, W, fw, tl, s1⟩
   obtain⟨⟨one,other⟩,pq,he,rfl,hpq⟩:=pair_get (prp.same s1) hx
   have hil:=(af.mp he).1
   obtain⟨h1,h2⟩:=pin _ (aj he)
   have hpq:H1 pq=some (.tup [.str one,.str other]):=hpq
   have ond:os.Nodup:=W.pm.nodup_iff.mpr W.web.nd
   have osl:=W.pm.length_eq
   have m1:one∈os:=W.pm.mem_iff.mpr h1
   have m2:other∈os:=W.pm.mem_iff.mpr h2
   refine⟨_,rfl,_,rfl,_,rfl,nil_ ⟨wq,lo,pq,ss,ts,os,one,other,rfl,W,hpq,h1,h2,fun ring ws q r H2 rn s2 hq hr2=>?_,fun nr q st a b l refs H2 s2 hq hst ha hb hl rp=>?_⟩⟩
   ·obtain⟨wq',wa,wb,xs,e,hwq,hwa,hwb,wrp⟩:=web_at (W.same s2).web.rep
    cases e
    have hpq2:=s2 _ _ hpq
    refine⟨_,rfl,.tup (.of hq) rfl (.non ?_)⟩
    refine⟨_,rfl,.tup (.of hpq2) rfl ⟨_,rfl,_,rfl,.tup (.of hpq2) rfl (nil_ ⟨wq,wa,wb,xs,ss,ts,other,rfl,hwq,hwb,wrp,W.web.inn,h2,h60,fun ls seen H3 s3 hls0 hls hiff h60'=>?_⟩)⟩⟩
    refine .seq (.inl (.of hls)) rfl (flat_strs _) ?_
    rw[in_strs,ao ((hiff one).mpr ring.2)]
    refine .sc rfl ⟨_,rfl,ite2 (fun h=>absurd h (by decide)) (fun _=>?_)⟩
    have hq3:=s3 _ _ hq
    have s23:=s2.trans s3
    refine⟨_,rfl,.tup (.of hq3) rfl (.non ⟨_,rfl,ite2 (fun _=>?_) (fun h=>absurd (by decide) h)⟩)⟩
    refine⟨_,rfl,_,rfl,.tup (.of hq3) rfl ⟨_,rfl,nil_ ⟨wq,r,pq,ss,ts,one,other,ws,rfl,(W.same s23).web,h1,h2,rn,s3 _ _ hr2,s23 _ _ hpq,fun H4 s4=>⟨_,rfl,ite2 (fun h=>absurd h (by decide)) (fun _=>?_)⟩⟩⟩⟩
    exact⟨wq,lo,ts,os,_,_,rfl,W.same (s23.trans s4),fw,by omega,s1.trans (s23.trans s4)⟩
   ·obtain⟨wq',wa,wb,xs,e,hwq,hwa,hwb,wrp⟩:=web_at (W.same s2).web.rep
    cases e
    have hpq2:=s2 _ _ hpq
    refine⟨_,rfl,.tup (.of hq) rfl (.non ?_)⟩
    refine⟨_,rfl,.tup (.of hpq2) rfl ⟨_,rfl,_,rfl,.tup (.of hpq2) rfl (nil_ ⟨wq,wa,wb,xs,ss,ts,other,rfl,hwq,hwb,wrp,W.web.inn,h2,h60,fun ls seen H3 s3 hls0 hls hiff h60'=>?_⟩)⟩⟩
    refine .seq (.inl (.of hls)) rfl (flat_strs _) ?_
    rw[in_strs,aI (fun z=>nr ((ring_rch ond fw).mpr ((hiff one).mp z)))]
    refine .sc rfl ⟨_,rfl,ite2 (fun h=>absurd h (by simp)) (fun _=>?_)⟩
    have hq3:=s3 _ _ hq
    have s23:=s2.trans s3
    refine⟨_,rfl,.tup (.of hq3) rfl (.non ⟨_,rfl,ite2 (fun h=>absurd h (by simp)) (fun _=>?_)⟩)⟩
    refine⟨_,rfl,_,rfl,_,rfl,_,rfl,nil_ ⟨wq,lo,pq,q,st,a,b,l,refs,ss,ts,os,one,other,rfl,W.same s23,fw,by omega,s23 _ _ hpq,h1,h2,nr,hq3,s3 _ _ hst,s3 _ _ ha,s3 _ _ hb,s3 _ _ hl,rp.same s3,fun H4 s4=>⟨_,rfl,ite2 (fun h=>absurd h (by decide)) (fun _=>?_)⟩⟩⟩
    have s34:=s3.trans s4
    have s24:=s2.trans s34
    have W4:=W.same s24
    have hq4:=s34 _ _ hq
    have hpq4:=s24 _ _ hpq
    obtain⟨a1,a2,a3⟩:=mvs_ok ond (due_nd ond nr) (due_all (os:=os) (ts:=ts) (one:=one) (other:=other))
    have all:=letA_fwd a1 ond fw (told_let ond fw m1 m2 nr)
    have gpm:=(a1.mvs a2).perm ond
    refine⟨_,rfl,_,rfl,.tup (.of hq4) rfl (nil_ ⟨lo,l,refs,os,_,rfl,W4.ord,s34 _ _ hl,rp.same s34,fun m hm=>(a1 m hm).2,fun lg H5 s5 hlg0 hlg=>?_⟩)⟩
    obtain⟨gs,egs⟩:∃gs,setAll os ((mvs os (dueB os ts one other++dueF os ts one other)).map fun m=>(m.2.2,m.1))=gs:=⟨_,rfl⟩
    rw[egs] at all gpm hlg
    have W5:=W4.same s5
    have hpq5:=s5 _ _ hpq4
    have s15:=s1.trans (s24.trans s5)
    clear W4 hpq4 hq4 s24 s34 s23 hq3 hls hls0 s3 s4 hwq hwa hwb wrp hl rp ha hb hst hq a1 a2 a3 s2 hpq2
    have gin:∀x∈ss,x∈gs:=fun x hx=>gpm.mem_iff.mpr (W.pm.mem_iff.mpr hx)
    have inn':∀e∈ts++[(one,other)],e.1∈ss/\e.2∈ss:=fun e he=>by
     rcases aq.mp he with g | g
     ·exact W.web.inn e g
     ·rw[aQ.mp g];exact⟨h1,h2⟩
    have fw':Fwd gs (ts++[(one,other)]):=fwd_of (fun e he=>⟨gin _ (inn' e he).1,gin _ (inn' e he).2⟩) all
    have fwg:Fwd gs ts:=fun e he=>fw' e (aU _ he)
    have tnm:∀e∈ts,Nm e.1/\Nm e.2:=fun e he=>⟨W.web.nm _ (W.web.inn e he).1,W.web.nm _ (W.web.inn e he).2⟩
    obtain⟨wq',wa,wb,xs,e,hwq,hwa,hwb,wrp⟩:=web_at W5.web.rep
    cases e
    have xl:=wrp.len
    rw[aa] at xl
    refine⟨_,rfl,_,rfl,.tup (.of hwq) rfl ⟨wb,xs,_,_,rfl,hwb,wrp,pair_rep (s:=one) (t:=other) hpq5,canLay_pairs ts tnm,canLay_pr (W.web.nm _ h1) (W.web.nm _ h2),(by show 1<=16;decide),_,rfl,?_⟩⟩
    rw[any_pair]
    refine ite2 (fun hnin=>?_) (fun _=>⟨wq,lg,ts,gs,_,_,rfl,⟨W5.web,W5.tnd,hlg,gpm.trans W.pm⟩,fwg,by omega,s15⟩)
    have hnin:(one,other)∉ts:=by simpa using hnin
    have nd':(ts++[(one,other)]).Nodup:=(List.perm_append_singleton (one,other) ts).nodup_iff.mpr (aP.mpr ⟨hnin,W.tnd⟩)
    have ll:(ts++[(one,other)]).length=ts.length+1:=by rw[aG];rfl
    refine⟨_,rfl,.tup (.of hwq) rfl ⟨_,rfl,.seq (.inr (.of hwa)) fun lt hlt=>?_⟩⟩
    have sA:=Same.new (o:=.lst (List.map V.str ss)) hlt
    have hltA:upd H5 lt (.lst (List.map V.str ss)) lt=some (.lst (List.map V.str ss)):=upd_same
    generalize upd H5 lt (.lst (List.map V.str ss))=HA at sA hltA ⊢
    refine⟨_,rfl,.tup (.of (sA _ _ hwq)) rfl ⟨_,rfl,(by show 1<=sizeLine;decide),fun tq htq=>?_⟩⟩
    have sB:=Same.new (o:=.tup [V.ref pq]) htq
    have htqB:upd HA tq (.tup [V.ref pq]) tq=some (.tup [V.ref pq]):=upd_same
    generalize upd HA tq (.tup [V.ref pq])=HB at sB htqB ⊢
    have s5B:=sA.trans sB
    have fin:∀(tt:Addr) (rfs:List V) (HC:Hp) (Qx:VK),Same HB HC->HC tt=some (.tup rfs)->RepAll HC rfs ((ts++[(one,other)]).map pairD)->(∀wn HD,Web HD (.ref wn) ss (ts++[(one,other)])->Same H5 HD->Qx (.ref wn) HD)->spWebOf [.ref lt,.ref tt] HC Qx E0:=fun tt rfs HC Qx sC htt rpC kx=>by
     refine⟨lt,tt,ss,ts++[(one,other)],rfs,rfl,.inl (sC _ _ (sB _ _ hltA)),h60,W.web.nd,W.web.nm,.inr htt,rpC,by omega,nd',inn',fun wn HD sD rD=>?_⟩
     exact kx wn HD ⟨rD,W.web.nd,W.web.nm,h60,by omega,inn'⟩ ((s5B.trans sC).trans sD)
    have hwbB:=s5B _ _ hwb
    have rpB:=wrp.same s5B
    have hpqB:=s5B _ _ hpq5
    refine⟨wb,tq,xs,[V.ref pq],rfl,rfl,.of hwbB,.of htqB,(by show xs.length+1<=sizeLine;exact aT (small1000 (by omega))),fun hx=>?_,fun _ h=>absurd h (by simp),fun hx _ tt htt=>?_⟩
    ·have ets:ts=[]:=List.length_eq_zero_iff.mp (by rw[<- xl,hx];rfl)
     refine nil_ (fin tq [V.ref pq] HB _ (Same.refl HB) htqB (by rw[ets];exact .cons (pair_rep hpqB) .nil) ?_)
     intro wn HD Wn sD
     exact⟨wn,lg,_,gs,_,_,rfl,⟨Wn,nd',sD _ _ hlg,gpm.trans W.pm⟩,fw',by omega,s15.trans sD⟩
    ·have sC:=Same.new (o:=.tup (xs++[V.ref pq])) htt
     refine nil_ (fin tt (xs++[V.ref pq]) _ _ sC upd_same ?_ ?_)
     ·rw[ah]
      exact RepAll.append (rpB.same sC) (.cons (pair_rep (sC _ _ hpqB)) .nil)
     ·intro wn HD Wn sD
      exact⟨wn,lg,_,gs,_,_,rfl,⟨Wn,nd',sD _ _ hlg,gpm.trans W.pm⟩,fw',by omega,s15.trans sD⟩
  ·rintro σ H' ⟨_,_,_,_,_,_,_,_,_,_,sm⟩
   exact k H' sm
def spLaw (K:W.Frag):Sp:=fun vs H Q _=>∃(a:Addr) (ns:List Int),vs=[.ref a]/\SqL K H a (ns.map V.int)/\∀H',Q (.bl true) H'
theorem scLaw:FnScope ["_law_script","_law_pen_here","_law_web_here","_law_order","_law_pairs"] ["_law_script"] (defScope sLaw):=⟨rfl,rfl,rfl,by decide +kernel,rfl,by decide +kernel,by decide +kernel⟩
theorem ok_law {f:Addr}{fd:FuncData}(F:Fun K "law" "law" sLaw f fd) (B:Blt mg) (c_law_pen:Cal P w K mg base 1 "_law_pen" ["_law_script"] (spPen K)) (c_law_draw:Cal P w K mg base 1 "_law_draw" ["_law_pen_here", "_law_most"] (spDraw K)) (c_law_web:Cal P w K mg base 6 "_law_web" ["_law_pen_here"] (spLWeb K)) (c_law_pair:Cal P w K mg base 2 "_law_pair" ["_law_pen_here", "_law_web_here", "_law_order"] (spPair K))
    (c_law_all_right:Cal P w K mg base 9 "_law_all_right" ["_law_web_here","_law_order","_law_pairs"] spAllR) (c_law_drawn:Cal P w K mg base 2 "_law_drawn" ["_law_pen_here","_law_web_here"] (spDrawn K)) (c_law_turned:Cal P w K mg base 2 "_law_turned" ["_law_pen_here","_law_some"] (spTurnV K)) :
    FnOk P w K mg base CX0 10 f fd ["_law_script"] (spLaw K):=by
 refine F.ok scLaw (fun vs H Q E h=>?_) (fun cdv A outer s H vs Q E hr h=>?_)
 ·obtain⟨a,ns,rfl,_⟩:=h
  rfl
 ·obtain⟨sc, ns, rfl, hS, k⟩ := h
  have nd:=scLaw.nd
  refine⟨_,(pss_cons (ps_set (i:=1) nd rfl (Or.inr rfl) (pe_cal c_law_pen (hr.mono (by decide)) rfl (pa_cons (pv 0) pa_nil)))
   (pss_cons (ps_asg (pe_cal c_law_web (hr.mono (by decide)) rfl (pa_cons (pv 1) pa_nil)) (pg_tupK (n:=2) K rfl (pgs_cons (pg_name (i:=2) nd rfl (Or.inr rfl)) (pgs_cons (pg_name (i:=3) nd rfl (Or.inr rfl)) pgs_nil))))
   (pss_cons (ps_setC (i:=4) nd rfl rfl (by rfl) (defScope sLaw) ["_law_script","_law_pen_here","_law_web_here","_law_order","_law_pairs"] ["_law_k"] [1,2,3] ["_law_k","_law_pen_here","_law_web_here","_law_order"] rfl (pi_range1 rfl B.range (pa_cons (b_min rfl B (pa_cons (b_len K B (pa_cons (pv 3) pa_nil)) (pa_cons (pe_op op_addX pe_int (pe_cal c_law_draw (hr.mono (by decide)) rfl (pa_cons (pv 1) (pa_cons pe_int pa_nil)))) pa_nil))) pa_nil)) (fun _ _ _ _ _=>(pg_name (i:=0) (show (["_law_k","_law_pen_here","_law_web_here","_law_order"]:List Str).Nodup by decide) rfl (Or.inl rfl))) (fun _ _ _ _ _=>pts_nil) (fun _ _ _ _ _=>(pe_cal c_law_pair (hr.mono (by decide)) rfl (pa_cons (pv 1) (pa_cons (pv 2) (pa_cons (pv 3) pa_nil))))))
   (pss_cons (ps_if (pt_not (pt_val (pe_cal c_law_all_right (hr.mono (by decide)) rfl (pa_cons (pv 2) (pa_cons (pv 3) (pa_cons (pv 4) pa_nil)))))) (pss_one (ps_ret pe_bl)) pss_nil)
   (pss_one (ps_ret (pe_cal c_law_all_right (hr.mono (by decide)) rfl (pa_cons (pv 2) (pa_cons (pe_cal c_law_drawn (hr.mono (by decide)) rfl (pa_cons (pv 1) (pa_cons (pv 2) pa_nil))) (pa_cons (pe_cal c_law_turned (hr.mono (by decide)) rfl (pa_cons (pv 1) (pa_cons (pv 4) pa_nil))) pa_nil)))))))))),?_⟩
  refine⟨_,rfl,sc,ns,rfl,hS,fun p H1 hP=>?_⟩
  refine⟨_,rfl,p,sc,rfl,hP,fun q wq lo ss ts os H2 hq W fw tl nlo v2 b2=>⟨q,_,rfl,.of hq,rfl,_,_,rfl,_,_,rfl,rfl,?_⟩⟩
  have h60:=W.web.len
  have osl:=W.pm.length_eq
  have ond:os.Nodup:=W.pm.nodup_iff.mpr W.web.nd
  refine⟨_,rfl,_,_,rfl,Or.inl ⟨_,.of W.ord,rfl⟩,_,rfl,p,sc,12,rfl,hP.but b2 v2,by decide,by decide,fun r3 H3 h30 h31 v3 e3=>.int ⟨_,_,rfl,?_⟩⟩
  refine⟨_,rfl,?_⟩
  have hlm:(List.map V.str os).length=os.length:=aa ..
  obtain⟨n0,hn0,hn1,hn2⟩:∃n0:Nat,(if 1+r3<(((List.map V.str os).length:Nat):Int) then 1+r3 else (((List.map V.str os).length:Nat):Int))=(n0:Int)/\n0<=12/\n0<=os.length:=by
   split
   ·exact⟨(1+r3).toNat,by omega,by omega,by omega⟩
   ·exact⟨os.length,by rw[hlm],by omega,by omega⟩
  rw[hn0]
  have b3:=b2.trans (But.of_eq e3)
  have W3:=W.but v2 (But.of_eq e3) nlo
  refine⟨by omega,by omega,?_⟩
  refine comp_range (fun D i acc σ' H'=>∃(o:Option V) (ps:List (Str × Str)),σ'=[o,some (.ref p),some (.ref wq),some (.ref lo)]/\RepAll H' acc (ps.map pairD)/\ps.length=i/\(∀e∈ps,e.1∈ss/\e.2∈ss)/\PenV H' p sc/\But p H3 H'/\H3 D=none/\p≠D) fun D hD=>⟨?_,?_,?_⟩
  ·exact⟨none,[],rfl,.nil,rfl,(fun _ h=>by cases h),v3.upd (v3.ne hD),(But.refl p H3).at hD,hD,v3.ne hD⟩
  ·rintro i acc σ' H' hi ⟨o,ps,rfl,rp,pl,inn,v,b,hD0,npD⟩ hacc
   have hi:i<n0:=by simpa using hi
   refine gYes ?_
   refine⟨_,rfl,_,rfl,_,rfl,nil_ ⟨p,sc,wq,lo,ss,ts,os,rfl,hP.but (b3.trans b) v,W3.but v3 b nlo,by omega,nlo,fun pq x y H5 hpq hx hy v5 b5=>?_⟩⟩
   have hacc5:=b5 D _ (Ne.symm npD) hacc
   have al:=rp.len
   rw[aa] at al
   obtain⟨_,hp0⟩:=penAt v
   refine⟨hacc5,small1000 (by omega),_,ps++[(x,y)],rfl,?_,by rw[aG,pl];rfl,fun e he=>?_,v5.upd npD,(b.trans b5).at hD0,hD0,npD⟩
   ·refine RepAll.pairBut (p:=D) hacc5 But.upd ?_
    rw[ah]
    exact RepAll.append (RepAll.pairBut hp0 b5 rp) (.cons (pair_rep hpq) .nil)
   ·rcases aq.mp he with he | he
    ·exact inn e he
    ·rw[aQ.mp he];exact⟨hx,hy⟩
  rintro acc σ' H4 ⟨o,ps,rfl,rp,pl,inn,v4,b4,hD0,npD⟩ hacc
  have al:=rp.len
  rw[aa] at al
  have W4:=W3.but v3 b4 nlo
  have pl:ps.length<=12:=by omega
  refine⟨_,rfl,_,rfl,_,rfl,nil_ ⟨wq,lo,D,acc,ps,ss,ts,os,rfl,W4,fw,tl,hacc,rp,by omega,inn,fun H5 s5=>⟨_,rfl,ite2 (fun h=>absurd h (by decide)) (fun _=>?_)⟩⟩⟩
  have W5:=W4.same s5
  have v5:=penSame s5 v4
  have b5:=(b3.trans b4).trans (But.of_same (p:=p) s5)
  have hacc5:=s5 _ _ hacc
  have rp5:=rp.same s5
  refine⟨_,rfl,_,rfl,_,rfl,nil_ ⟨p,sc,wq,ss,ts,os,rfl,hP.but b5 v5,W5.web,ond,fw,fun l gs H6 gpm gfw hl hl0 nlp v6 b6=>?_⟩⟩
  have hacc6:=b6 D _ (Ne.symm npD) hacc5
  obtain⟨_,hp5⟩:=penAt v5
  have rp6:=RepAll.pairBut hp5 b6 rp5
  have W6:WebO H6 (.ref wq) ss ts l gs:=⟨(W5.but v5 b6 nlo).web,W5.tnd,hl,gpm⟩
  have b6:=b5.trans b6
  refine⟨_,rfl,_,rfl,nil_ ⟨p,sc,D,acc,rfl,hP.but b6 v6,hacc6,Ne.symm npD,by omega,fun l2 ys H7 ypm hl2 hl20 nl2 v7 b7=>?_⟩⟩
  have W7:=W6.but v6 b7 nlp
  obtain⟨_,hp6⟩:=penAt v6
  obtain⟨ps',ppm,rp7⟩:=perm_rep (f:=pairD) ypm (RepAll.pairBut hp6 b7 rp6)
  have ppl:=ppm.length_eq
  exact nil_ ⟨wq,l,l2,ys,ps',ss,ts,gs,rfl,W7,gfw,tl,hl2,rp7,by omega,fun e he=>inn e (ppm.mem_iff.mp he),fun H8 _=>k H8⟩
theorem ar1 {us:List Value}(h:us.length=1):∃a,us=[a]:=List.length_eq_one_iff.mp h
theorem ar2 {us:List Value}(h:us.length=2):∃a1 a2,us=[a1,a2]:=by
 obtain⟨a1,t,rfl⟩:=cF h
 obtain⟨a2,rfl⟩:=ar1 (Nat.succ.inj h)
 exact⟨a1,a2,rfl⟩
theorem ar3 {us:List Value}(h:us.length=3):∃a1 a2 a3,us=[a1,a2,a3]:=by
 obtain⟨a1,t,rfl⟩:=cF h
 obtain⟨a2,a3,rfl⟩:=ar2 (Nat.succ.inj h)
 exact⟨a1,a2,a3,rfl⟩
theorem ar4 {us:List Value}(h:us.length=4):∃a1 a2 a3 a4,us=[a1,a2,a3,a4]:=by
 obtain⟨a1,t,rfl⟩:=cF h
 obtain⟨a2,a3,a4,rfl⟩:=ar3 (Nat.succ.inj h)
 exact⟨a1,a2,a3,a4,rfl⟩
theorem ar5 {us:List Value}(h:us.length=5):∃a1 a2 a3 a4 a5,us=[a1,a2,a3,a4,a5]:=by
 obtain⟨a1,t,rfl⟩:=cF h
 obtain⟨a2,a3,a4,a5,rfl⟩:=ar4 (Nat.succ.inj h)
 exact⟨a1,a2,a3,a4,a5,rfl⟩
theorem all_mk {l:W.OpenLaw}{w:World}{K:W.Frag}{h:Heap}{mg:Str->Option Value}{fa f1 f2 f3 f4 f5 f6 f7 f8 f9 f10 f11 f12 f13 f14 f15 f16 f17 f18 f19 f20 f21 f22 f23 f24 f25 f26 f27 f28 f29 f30 f31 f32 f33 f34 f35 f36 f37 f38 f39:Addr}(X:K.In h) (G:h.Ns mainGlobals mg) (hfa:mg "law"=some (.ref fa))
    {od1 an1 od2 an2 od3 an3 od4 an4 od5 an5 od6 an6 od7 an7 od8 an8 od9 an9 od10 an10 od11 an11 od12 an12 od13 an13 od14 an14 od15 an15 od16 an16 od17 an17 od18 an18 od19 an19 od20 an20 od21 an21 od22 an22 od23 an23 od24 an24 od25 an25 od26 an26 od27 an27 od28 an28 od29 an29 od30 an30 od31 an31 od32 an32 od33 an33 od34 an34 od35 an35 od36 an36 od37 an37 od38 an38 od39 an39:Option Addr} {sl1 sl2 sl3 sl4 sl5 sl6 sl7 sl8 sl9 sl10 sl11 sl12 sl13 sl14 sl15 sl16 sl17 sl18 sl19 sl20 sl21 sl22 sl23 sl24 sl25 sl26 sl27 sl28 sl29 sl30 sl31 sl32 sl33 sl34 sl35 sl36 sl37 sl38 sl39:Array (Option Value)} {oc1 kV1 dc1 pm1 cd1 ct1 oc2 kV2 dc2 pm2 cd2 ct2 oc3 kV3 dc3 pm3 cd3 ct3 oc4 kV4 dc4 pm4 cd4 ct4 oc5 kV5 dc5 pm5 cd5 ct5 oc6 kV6 dc6 pm6 cd6 ct6 oc7 kV7 dc7 pm7 cd7 ct7 oc8 kV8 dc8 pm8 cd8 ct8 oc9 kV9 dc9 pm9 cd9 ct9 oc10 kV10 dc10 pm10 cd10 ct10 oc11 kV11 dc11 pm11 cd11 ct11 oc12 kV12 dc12 pm12 cd12 ct12 oc13 kV13 dc13 pm13 cd13 ct13 oc14 kV14 dc14 pm14 cd14 ct14 oc15 kV15 dc15 pm15 cd15 ct15 oc16 kV16 dc16 pm16 cd16 ct16 oc17 kV17 dc17 pm17 cd17 ct17 oc18 kV18 dc18 pm18 cd18 ct18 oc19 kV19 dc19 pm19 cd19 ct19 oc20 kV20 dc20 pm20 cd20 ct20 oc21 kV21 dc21 pm21 cd21 ct21 oc22 kV22 dc22 pm22 cd22 ct22 oc23 kV23 dc23 pm23 cd23 ct23 oc24 kV24 dc24 pm24 cd24 ct24 oc25 kV25 dc25 pm25 cd25 ct25 oc26 kV26 dc26 pm26 cd26 ct26 oc27 kV27 dc27 pm27 cd27 ct27 oc28 kV28 dc28 pm28 cd28 ct28 oc29 kV29 dc29 pm29 cd29 ct29 oc30 kV30 dc30 pm30 cd30 ct30 oc31 kV31 dc31 pm31 cd31 ct31 oc32 kV32 dc32 pm32 cd32 ct32 oc33 kV33 dc33 pm33 cd33 ct33 oc34 kV34 dc34 pm34 cd34 ct34 oc35 kV35 dc35 pm35 cd35 ct35 oc36 kV36 dc36 pm36 cd36 ct36 oc37 kV37 dc37 pm37 cd37 ct37 oc38 kV38 dc38 pm38 cd38 ct38 oc39 kV39 dc39 pm39 cd39 ct39:Value}
    (a1:W.nsIn K mainGlobals "is_name"=some (some (.ref f1))) (l1:K.lookup f1=some ⟨oc1,od1,.func (W.fnOf "is_name" "is_name" (defArgs sIsName) (defBody sIsName) (defScope sIsName) .none kV1 dc1 pm1 an1 cd1 ct1),sl1⟩) (c1:W.codeIn K cd1 "is_name"=true) (k1:W.keepIn K (.ref f1)=true)
    (a2:W.nsIn K mainGlobals "is_whole"=some (some (.ref f2))) (l2:K.lookup f2=some ⟨oc2,od2,.func (W.fnOf "is_whole" "is_whole" (defArgs sIsWhole) (defBody sIsWhole) (defScope sIsWhole) .none kV2 dc2 pm2 an2 cd2 ct2),sl2⟩) (c2:W.codeIn K cd2 "is_whole"=true) (k2:W.keepIn K (.ref f2)=true)
    (a3:W.nsIn K mainGlobals "web_of"=some (some (.ref f3))) (l3:K.lookup f3=some ⟨oc3,od3,.func (W.fnOf "web_of" "web_of" (defArgs sWebOf) (defBody sWebOf) (defScope sWebOf) .none kV3 dc3 pm3 an3 cd3 ct3),sl3⟩) (c3:W.codeIn K cd3 "web_of"=true) (k3:W.keepIn K (.ref f3)=true)
    (a4:W.nsIn K mainGlobals "nexts"=some (some (.ref f4))) (l4:K.lookup f4=some ⟨oc4,od4,.func (W.fnOf "nexts" "nexts" (defArgs sNexts) (defBody sNexts) (defScope sNexts) .none kV4 dc4 pm4 an4 cd4 ct4),sl4⟩) (c4:W.codeIn K cd4 "nexts"=true) (k4:W.keepIn K (.ref f4)=true)
    (a5:W.nsIn K mainGlobals "priors"=some (some (.ref f5))) (l5:K.lookup f5=some ⟨oc5,od5,.func (W.fnOf "priors" "priors" (defArgs sPriors) (defBody sPriors) (defScope sPriors) .none kV5 dc5 pm5 an5 cd5 ct5),sl5⟩) (c5:W.codeIn K cd5 "priors"=true) (k5:W.keepIn K (.ref f5)=true)
    (a6:W.nsIn K mainGlobals "places_of"=some (some (.ref f6))) (l6:K.lookup f6=some ⟨oc6,od6,.func (W.fnOf "places_of" "places_of" (defArgs sPlaces) (defBody sPlaces) (defScope sPlaces) .none kV6 dc6 pm6 an6 cd6 ct6),sl6⟩) (c6:W.codeIn K cd6 "places_of"=true) (k6:W.keepIn K (.ref f6)=true)
    (a7:W.nsIn K mainGlobals "are_things"=some (some (.ref f7))) (l7:K.lookup f7=some ⟨oc7,od7,.func (W.fnOf "are_things" "are_things" (defArgs sAreThings) (defBody sAreThings) (defScope sAreThings) .none kV7 dc7 pm7 an7 cd7 ct7),sl7⟩) (c7:W.codeIn K cd7 "are_things"=true) (k7:W.keepIn K (.ref f7)=true)
    (a8:W.nsIn K mainGlobals "are_unlike_names"=some (some (.ref f8))) (l8:K.lookup f8=some ⟨oc8,od8,.func (W.fnOf "are_unlike_names" "are_unlike_names" (defArgs sUNm) (defBody sUNm) (defScope sUNm) .none kV8 dc8 pm8 an8 cd8 ct8),sl8⟩) (c8:W.codeIn K cd8 "are_unlike_names"=true) (k8:W.keepIn K (.ref f8)=true)
    (a9:W.nsIn K mainGlobals "are_unlike"=some (some (.ref f9))) (l9:K.lookup f9=some ⟨oc9,od9,.func (W.fnOf "are_unlike" "are_unlike" (defArgs sUnlike) (defBody sUnlike) (defScope sUnlike) .none kV9 dc9 pm9 an9 cd9 ct9),sl9⟩) (c9:W.codeIn K cd9 "are_unlike"=true) (k9:W.keepIn K (.ref f9)=true)
    (a10:W.nsIn K mainGlobals "first_wrong_tie"=some (some (.ref f10))) (l10:K.lookup f10=some ⟨oc10,od10,.func (W.fnOf "first_wrong_tie" "first_wrong_tie" (defArgs sWrong) (defBody sWrong) (defScope sWrong) .none kV10 dc10 pm10 an10 cd10 ct10),sl10⟩) (c10:W.codeIn K cd10 "first_wrong_tie"=true) (k10:W.keepIn K (.ref f10)=true)
    (a11:W.nsIn K mainGlobals "is_tie_among"=some (some (.ref f11))) (l11:K.lookup f11=some ⟨oc11,od11,.func (W.fnOf "is_tie_among" "is_tie_among" (defArgs sAmong) (defBody sAmong) (defScope sAmong) .none kV11 dc11 pm11 an11 cd11 ct11),sl11⟩) (c11:W.codeIn K cd11 "is_tie_among"=true) (k11:W.keepIn K (.ref f11)=true)
    (a12:W.nsIn K mainGlobals "behinds"=some (some (.ref f12))) (l12:K.lookup f12=some ⟨oc12,od12,.func (W.fnOf "behinds" "behinds" (defArgs sBehinds) (defBody sBehinds) (defScope sBehinds) .none kV12 dc12 pm12 an12 cd12 ct12),sl12⟩) (c12:W.codeIn K cd12 "behinds"=true) (k12:W.keepIn K (.ref f12)=true)
    (a13:W.nsIn K mainGlobals "aheads"=some (some (.ref f13))) (l13:K.lookup f13=some ⟨oc13,od13,.func (W.fnOf "aheads" "aheads" (defArgs sAheads) (defBody sAheads) (defScope sAheads) .none kV13 dc13 pm13 an13 cd13 ct13),sl13⟩) (c13:W.codeIn K cd13 "aheads"=true) (k13:W.keepIn K (.ref f13)=true)
    (a14:W.nsIn K mainGlobals "way"=some (some (.ref f14))) (l14:K.lookup f14=some ⟨oc14,od14,.func (W.fnOf "way" "way" (defArgs sWay) (defBody sWay) (defScope sWay) .none kV14 dc14 pm14 an14 cd14 ct14),sl14⟩) (c14:W.codeIn K cd14 "way"=true) (k14:W.keepIn K (.ref f14)=true)
    (a15:W.nsIn K mainGlobals "first_nearer"=some (some (.ref f15))) (l15:K.lookup f15=some ⟨oc15,od15,.func (W.fnOf "first_nearer" "first_nearer" (defArgs sNearer) (defBody sNearer) (defScope sNearer) .none kV15 dc15 pm15 an15 cd15 ct15),sl15⟩) (c15:W.codeIn K cd15 "first_nearer"=true) (k15:W.keepIn K (.ref f15)=true)
    (a16:W.nsIn K mainGlobals "nexts_of_all"=some (some (.ref f16))) (l16:K.lookup f16=some ⟨oc16,od16,.func (W.fnOf "nexts_of_all" "nexts_of_all" (defArgs sNextsAll) (defBody sNextsAll) (defScope sNextsAll) .none kV16 dc16 pm16 an16 cd16 ct16),sl16⟩) (c16:W.codeIn K cd16 "nexts_of_all"=true) (k16:W.keepIn K (.ref f16)=true)
    (a17:W.nsIn K mainGlobals "priors_of_all"=some (some (.ref f17))) (l17:K.lookup f17=some ⟨oc17,od17,.func (W.fnOf "priors_of_all" "priors_of_all" (defArgs sPriorsAll) (defBody sPriorsAll) (defScope sPriorsAll) .none kV17 dc17 pm17 an17 cd17 ct17),sl17⟩) (c17:W.codeIn K cd17 "priors_of_all"=true) (k17:W.keepIn K (.ref f17)=true)
    (a18:W.nsIn K mainGlobals "steps_from"=some (some (.ref f18))) (l18:K.lookup f18=some ⟨oc18,od18,.func (W.fnOf "steps_from" "steps_from" (defArgs sSteps) (defBody sSteps) (defScope sSteps) .none kV18 dc18 pm18 an18 cd18 ct18),sl18⟩) (c18:W.codeIn K cd18 "steps_from"=true) (k18:W.keepIn K (.ref f18)=true)
    (a19:W.nsIn K mainGlobals "ring_by"=some (some (.ref f19))) (l19:K.lookup f19=some ⟨oc19,od19,.func (W.fnOf "ring_by" "ring_by" (defArgs sRingBy) (defBody sRingBy) (defScope sRingBy) .none kV19 dc19 pm19 an19 cd19 ct19),sl19⟩) (c19:W.codeIn K cd19 "ring_by"=true) (k19:W.keepIn K (.ref f19)=true)
    (a20:W.nsIn K mainGlobals "stretch"=some (some (.ref f20))) (l20:K.lookup f20=some ⟨oc20,od20,.func (W.fnOf "stretch" "stretch" (defArgs sStretch) (defBody sStretch) (defScope sStretch) .none kV20 dc20 pm20 an20 cd20 ct20),sl20⟩) (c20:W.codeIn K cd20 "stretch"=true) (k20:W.keepIn K (.ref f20)=true)
    (a21:W.nsIn K mainGlobals "moves_of"=some (some (.ref f21))) (l21:K.lookup f21=some ⟨oc21,od21,.func (W.fnOf "moves_of" "moves_of" (defArgs sMovesOf) (defBody sMovesOf) (defScope sMovesOf) .none kV21 dc21 pm21 an21 cd21 ct21),sl21⟩) (c21:W.codeIn K cd21 "moves_of"=true) (k21:W.keepIn K (.ref f21)=true)
    (a22:W.nsIn K mainGlobals "lets_moves"=some (some (.ref f22))) (l22:K.lookup f22=some ⟨oc22,od22,.func (W.fnOf "lets_moves" "lets_moves" (defArgs sLets) (defBody sLets) (defScope sLets) .none kV22 dc22 pm22 an22 cd22 ct22),sl22⟩) (c22:W.codeIn K cd22 "lets_moves"=true) (k22:W.keepIn K (.ref f22)=true)
    (a23:W.nsIn K mainGlobals "moved"=some (some (.ref f23))) (l23:K.lookup f23=some ⟨oc23,od23,.func (W.fnOf "moved" "moved" (defArgs sMoved) (defBody sMoved) (defScope sMoved) .none kV23 dc23 pm23 an23 cd23 ct23),sl23⟩) (c23:W.codeIn K cd23 "moved"=true) (k23:W.keepIn K (.ref f23)=true)
    (a24:W.nsIn K mainGlobals "are_moves"=some (some (.ref f24))) (l24:K.lookup f24=some ⟨oc24,od24,.func (W.fnOf "are_moves" "are_moves" (defArgs sAreMoves) (defBody sAreMoves) (defScope sAreMoves) .none kV24 dc24 pm24 an24 cd24 ct24),sl24⟩) (c24:W.codeIn K cd24 "are_moves"=true) (k24:W.keepIn K (.ref f24)=true)
    (a25:W.nsIn K mainGlobals "is_move"=some (some (.ref f25))) (l25:K.lookup f25=some ⟨oc25,od25,.func (W.fnOf "is_move" "is_move" (defArgs sIsMove) (defBody sIsMove) (defScope sIsMove) .none kV25 dc25 pm25 an25 cd25 ct25),sl25⟩) (c25:W.codeIn K cd25 "is_move"=true) (k25:W.keepIn K (.ref f25)=true)
    (a26:W.nsIn K mainGlobals "_law_pen"=some (some (.ref f26))) (l26:K.lookup f26=some ⟨oc26,od26,.func (W.fnOf "_law_pen" "_law_pen" (defArgs sPen) (defBody sPen) (defScope sPen) .none kV26 dc26 pm26 an26 cd26 ct26),sl26⟩) (c26:W.codeIn K cd26 "_law_pen"=true) (k26:W.keepIn K (.ref f26)=true)
    (a27:W.nsIn K mainGlobals "_law_draw"=some (some (.ref f27))) (l27:K.lookup f27=some ⟨oc27,od27,.func (W.fnOf "_law_draw" "_law_draw" (defArgs sDraw) (defBody sDraw) (defScope sDraw) .none kV27 dc27 pm27 an27 cd27 ct27),sl27⟩) (c27:W.codeIn K cd27 "_law_draw"=true) (k27:W.keepIn K (.ref f27)=true)
    (a28:W.nsIn K mainGlobals "_law_names"=some (some (.ref f28))) (l28:K.lookup f28=some ⟨oc28,od28,.func (W.fnOf "_law_names" "_law_names" (defArgs sNames) (defBody sNames) (defScope sNames) .none kV28 dc28 pm28 an28 cd28 ct28),sl28⟩) (c28:W.codeIn K cd28 "_law_names"=true) (k28:W.keepIn K (.ref f28)=true)
    (a29:W.nsIn K mainGlobals "_law_turned"=some (some (.ref f29))) (l29:K.lookup f29=some ⟨oc29,od29,.func (W.fnOf "_law_turned" "_law_turned" (defArgs sTurned) (defBody sTurned) (defScope sTurned) .none kV29 dc29 pm29 an29 cd29 ct29),sl29⟩) (c29:W.codeIn K cd29 "_law_turned"=true) (k29:W.keepIn K (.ref f29)=true)
    (a30:W.nsIn K mainGlobals "_law_web"=some (some (.ref f30))) (l30:K.lookup f30=some ⟨oc30,od30,.func (W.fnOf "_law_web" "_law_web" (defArgs sWeb) (defBody sWeb) (defScope sWeb) .none kV30 dc30 pm30 an30 cd30 ct30),sl30⟩) (c30:W.codeIn K cd30 "_law_web"=true) (k30:W.keepIn K (.ref f30)=true)
    (a31:W.nsIn K mainGlobals "_law_reached"=some (some (.ref f31))) (l31:K.lookup f31=some ⟨oc31,od31,.func (W.fnOf "_law_reached" "_law_reached" (defArgs sReached) (defBody sReached) (defScope sReached) .none kV31 dc31 pm31 an31 cd31 ct31),sl31⟩) (c31:W.codeIn K cd31 "_law_reached"=true) (k31:W.keepIn K (.ref f31)=true)
    (a32:W.nsIn K mainGlobals "_law_pair"=some (some (.ref f32))) (l32:K.lookup f32=some ⟨oc32,od32,.func (W.fnOf "_law_pair" "_law_pair" (defArgs sPair) (defBody sPair) (defScope sPair) .none kV32 dc32 pm32 an32 cd32 ct32),sl32⟩) (c32:W.codeIn K cd32 "_law_pair"=true) (k32:W.keepIn K (.ref f32)=true)
    (a33:W.nsIn K mainGlobals "_law_told"=some (some (.ref f33))) (l33:K.lookup f33=some ⟨oc33,od33,.func (W.fnOf "_law_told" "_law_told" (defArgs sTold) (defBody sTold) (defScope sTold) .none kV33 dc33 pm33 an33 cd33 ct33),sl33⟩) (c33:W.codeIn K cd33 "_law_told"=true) (k33:W.keepIn K (.ref f33)=true)
    (a34:W.nsIn K mainGlobals "_law_ring_right"=some (some (.ref f34))) (l34:K.lookup f34=some ⟨oc34,od34,.func (W.fnOf "_law_ring_right" "_law_ring_right" (defArgs sRingRight) (defBody sRingRight) (defScope sRingRight) .none kV34 dc34 pm34 an34 cd34 ct34),sl34⟩) (c34:W.codeIn K cd34 "_law_ring_right"=true) (k34:W.keepIn K (.ref f34)=true)
    (a35:W.nsIn K mainGlobals "_law_sorts"=some (some (.ref f35))) (l35:K.lookup f35=some ⟨oc35,od35,.func (W.fnOf "_law_sorts" "_law_sorts" (defArgs sSorts) (defBody sSorts) (defScope sSorts) .none kV35 dc35 pm35 an35 cd35 ct35),sl35⟩) (c35:W.codeIn K cd35 "_law_sorts"=true) (k35:W.keepIn K (.ref f35)=true)
    (a36:W.nsIn K mainGlobals "_law_moves_right"=some (some (.ref f36))) (l36:K.lookup f36=some ⟨oc36,od36,.func (W.fnOf "_law_moves_right" "_law_moves_right" (defArgs sMovesRight) (defBody sMovesRight) (defScope sMovesRight) .none kV36 dc36 pm36 an36 cd36 ct36),sl36⟩) (c36:W.codeIn K cd36 "_law_moves_right"=true) (k36:W.keepIn K (.ref f36)=true)
    (a37:W.nsIn K mainGlobals "_law_all_right"=some (some (.ref f37))) (l37:K.lookup f37=some ⟨oc37,od37,.func (W.fnOf "_law_all_right" "_law_all_right" (defArgs sAllRight) (defBody sAllRight) (defScope sAllRight) .none kV37 dc37 pm37 an37 cd37 ct37),sl37⟩) (c37:W.codeIn K cd37 "_law_all_right"=true) (k37:W.keepIn K (.ref f37)=true)
    (a38:W.nsIn K mainGlobals "_law_drawn"=some (some (.ref f38))) (l38:K.lookup f38=some ⟨oc38,od38,.func (W.fnOf "_law_drawn" "_law_drawn" (defArgs sDrawn) (defBody sDrawn) (defScope sDrawn) .none kV38 dc38 pm38 an38 cd38 ct38),sl38⟩) (c38:W.codeIn K cd38 "_law_drawn"=true) (k38:W.keepIn K (.ref f38)=true)
    (a39:W.nsIn K mainGlobals "law"=some (some (.ref f39))) (l39:K.lookup f39=some ⟨oc39,od39,.func (W.fnOf "law" "law" (defArgs sLaw) (defBody sLaw) (defScope sLaw) .none kV39 dc39 pm39 an39 cd39 ct39),sl39⟩) (c39:W.codeIn K cd39 "law"=true) (k39:W.keepIn K (.ref f39)=true)
    (z1:W.nsIn K mainGlobals "len"=some none) (z2:W.nsIn K mainGlobals "range"=some none) (z3:W.nsIn K mainGlobals "abs"=some none) (z4:W.nsIn K mainGlobals "all"=some none) (z5:W.nsIn K mainGlobals "repr"=some none) (z6:W.nsIn K mainGlobals "isinstance"=some none) (z7:W.nsIn K mainGlobals "str"=some none) (z8:W.nsIn K mainGlobals "int"=some none) (z9:W.nsIn K mainGlobals "bool"=some none) (z10:W.nsIn K mainGlobals "enumerate"=some none) (z11:W.nsIn K mainGlobals "list"=some none) (z12:W.nsIn K mainGlobals "tuple"=some none) (z13:W.nsIn K mainGlobals "dict"=some none) (z14:W.nsIn K mainGlobals "min"=some none) (z15:W.nsIn K mainGlobals "max"=some none) (z16:W.nsIn K mainGlobals "sorted"=some none) (z17:W.nsIn K mainGlobals "zip"=some none) (z18:W.nsIn K mainGlobals "set"=some none)
    {tk1:Tok} (y1:W.nsIn K mainGlobals "MOST_SIGNS"=some (some (.int 8 tk1)))
    {tk2:Tok} (y2:W.nsIn K mainGlobals "MOST_THINGS"=some (some (.int 60 tk2)))
    {tk3:Tok} (y3:W.nsIn K mainGlobals "MOST_TIES"=some (some (.int 400 tk3)))
    {x1 x2 x3:Addr} (r1:W.nsIn K mainGlobals "OrderError"=some (some (.ref x1))) (r2:W.nsIn K mainGlobals "NoWeb"=some (some (.ref x2))) (r3:W.nsIn K mainGlobals "Ring"=some (some (.ref x3)))
    (en:W.specialIn K (.builtin "object.__class__") "__get__"=some (some (.builtin "getset_descriptor.__get__"))) (et:W.takesIn K (.builtin "object.__class__")=some true) (ev:W.nsIn K mainGlobals "ValueError"=some none)
    {N1:Addr} {bs1 bm1 su1:List Value} {nm1 q1:Str} {hd1 ab1:Bool} {sn1:List Str} {co1:Option Bool} {dd1:Option Addr} {ka1 kb1 kc1 kd1 ke1:Option Value}
    (o1:K.lookup x1=some (excClassObj nm1 q1 x1 N1 bs1 bm1 hd1 sn1 su1 ab1 co1 dd1 ka1 kb1 kc1 kd1 ke1 "ValueError.__new__"))
    (u1:W.nsOkIn K N1=true) (ni1:W.nsIn K N1 "__init__"=some none) (tl1:W.tailIn K [.type "ValueError",.type "Exception",.type "BaseException",.type "object"] bm1=true)
    (ga1:W.findIn K (.ref x1) "__getattribute__"=some (some (.builtin "BaseException.__getattribute__"))) (gb1:W.findIn K (.ref x1) "__getattr__"=some none) (ha1:W.findIn K (.ref x1) "__class__"=some (some (.builtin "object.__class__")))
    (hm1:W.mroIn K x1 (.type "object")=some true) (hb1:W.mroIn K x1 (.type "BaseException")=some true) (cl1:(W.clsIn K x1).isSome=true)
    (p1:bm1.contains (.type "BaseException")=true) (q_1:(Value.ref x1::bm1).contains (.ref x1)=true) (w1:W.kitOne K (.ref x1) (.type "ValueError")=some true)
    {N3:Addr} {bs3 bm3 su3:List Value} {nm3 q3:Str} {hd3 ab3:Bool} {sn3:List Str} {co3:Option Bool} {dd3:Option Addr} {ka3 kb3 kc3 kd3 ke3:Option Value}
    (o3:K.lookup x3=some (excClassObj nm3 q3 x3 N3 bs3 bm3 hd3 sn3 su3 ab3 co3 dd3 ka3 kb3 kc3 kd3 ke3 "ValueError.__new__"))
    {fi3:Addr} {iod3 ian3:Option Addr} {isl3:Array (Option Value)} {ikV3 idc3 ipm3 icd3 ict3:Value}
    (u3:W.nsOkIn K N3=true) (ni3:W.nsIn K N3 "__init__"=some (some (.ref fi3))) (tl3:W.tailIn K bmV bm3=true)
    (il3:K.lookup fi3=some ⟨.type "function",iod3,.func (W.fnOf "__init__" "Ring.__init__" (defArgs sRingInit) (defBody sRingInit) (defScope sRingInit) .none ikV3 idc3 ipm3 ian3 icd3 ict3),isl3⟩) (ic3:W.codeIn K icd3 "Ring.__init__"=true) (ik3:W.keepIn K (.ref fi3)=true) (kc3:W.keepIn K (.ref x3)=true)
    (sa3:W.findIn K (.ref x3) "__setattr__"=some (some (.builtin "object.__setattr__"))) (po3:(W.clsIn K x3).any (fun cd=>tailE cd.mro)=true) (na3:W.findIn K (.ref x3) "ring"=some none) (hd_3:W.hasDictIn K x3=true)
    (ga3:W.findIn K (.ref x3) "__getattribute__"=some (some (.builtin "BaseException.__getattribute__"))) (gb3:W.findIn K (.ref x3) "__getattr__"=some none) (ha3:W.findIn K (.ref x3) "__class__"=some (some (.builtin "object.__class__")))
    (hm3:W.mroIn K x3 (.type "object")=some true) (hb3:W.mroIn K x3 (.type "BaseException")=some true) (cl3:(W.clsIn K x3).isSome=true)
    (p3:bm3.contains (.type "BaseException")=true) (q_3:(Value.ref x3::bm3).contains (.ref x1)=true) (w3:W.kitOne K (.ref x3) (.type "ValueError")=some true)
    (g3_1:W.kitOne K (.ref x3) (.ref x1)=some true) (g3_2:W.kitOne K (.ref x3) (.ref x2)=some false) (g3_3:W.kitOne K (.ref x3) (.ref x3)=some true)
    : ∃fd:FuncData,(∀(s:Shared) (v:Value),BindsTo s fd ⟨[v],[]⟩ [("_law_script",v)])/\∀base:Heap,K.In base->base.Ns mainGlobals mg->FnOk l.prog w K mg base CX0 10 fa fd ["_law_script"] (spLaw K):=by
 have e:=hfa.symm.trans (W.mg_of X G a39)
 cases e
 have B:Blt mg:=⟨W.mg_none_of X G z1,W.mg_none_of X G z2,W.mg_none_of X G z3,W.mg_none_of X G z4,W.mg_none_of X G z5,W.mg_none_of X G z6,W.mg_none_of X G z7,W.mg_none_of X G z8,W.mg_none_of X G z9,W.mg_none_of X G z10,W.mg_none_of X G z11,W.mg_none_of X G z12,W.mg_none_of X G z13,W.mg_none_of X G z14,W.mg_none_of X G z15⟩
 have Zsorted:=W.mg_none_of X G z16
 have Zzip:=W.mg_none_of X G z17
 have Zset:=W.mg_none_of X G z18
 have TMOST_SIGNS:=W.mg_of X G y1
 have TMOST_THINGS:=W.mg_of X G y2
 have TMOST_TIES:=W.mg_of X G y3
 have F1:=fun_mk (st:=sIsName) l1 c1 k1
 have F2:=fun_mk (st:=sIsWhole) l2 c2 k2
 have F3:=fun_mk (st:=sWebOf) l3 c3 k3
 have F4:=fun_mk (st:=sNexts) l4 c4 k4
 have F5:=fun_mk (st:=sPriors) l5 c5 k5
 have F6:=fun_mk (st:=sPlaces) l6 c6 k6
 have F7:=fun_mk (st:=sAreThings) l7 c7 k7
 have F8:=fun_mk (st:=sUNm) l8 c8 k8
 have F9:=fun_mk (st:=sUnlike) l9 c9 k9
 have F10:=fun_mk (st:=sWrong) l10 c10 k10
 have F11:=fun_mk (st:=sAmong) l11 c11 k11
 have F12:=fun_mk (st:=sBehinds) l12 c12 k12
 have F13:=fun_mk (st:=sAheads) l13 c13 k13
 have F14:=fun_mk (st:=sWay) l14 c14 k14
 have F15:=fun_mk (st:=sNearer) l15 c15 k15
 have F16:=fun_mk (st:=sNextsAll) l16 c16 k16
 have F17:=fun_mk (st:=sPriorsAll) l17 c17 k17
 have F18:=fun_mk (st:=sSteps) l18 c18 k18
 have F19:=fun_mk (st:=sRingBy) l19 c19 k19
 have F20:=fun_mk (st:=sStretch) l20 c20 k20
 have F21:=fun_mk (st:=sMovesOf) l21 c21 k21
 have F22:=fun_mk (st:=sLets) l22 c22 k22
 have F23:=fun_mk (st:=sMoved) l23 c23 k23
 have F24:=fun_mk (st:=sAreMoves) l24 c24 k24
 have F25:=fun_mk (st:=sIsMove) l25 c25 k25
 have F26:=fun_mk (st:=sPen) l26 c26 k26
 have F27:=fun_mk (st:=sDraw) l27 c27 k27
 have F28:=fun_mk (st:=sNames) l28 c28 k28
 have F29:=fun_mk (st:=sTurned) l29 c29 k29
 have F30:=fun_mk (st:=sWeb) l30 c30 k30
 have F31:=fun_mk (st:=sReached) l31 c31 k31
 have F32:=fun_mk (st:=sPair) l32 c32 k32
 have F33:=fun_mk (st:=sTold) l33 c33 k33
 have F34:=fun_mk (st:=sRingRight) l34 c34 k34
 have F35:=fun_mk (st:=sSorts) l35 c35 k35
 have F36:=fun_mk (st:=sMovesRight) l36 c36 k36
 have F37:=fun_mk (st:=sAllRight) l37 c37 k37
 have F38:=fun_mk (st:=sDrawn) l38 c38 k38
 have F39:=fun_mk (st:=sLaw) l39 c39 k39
 have b1:=F1.binds (ps:=["thing"]) fun _ _ _ _ _ _ us hl=>by obtain⟨_,rfl⟩:=ar1 hl;rfl
 have b2:=F2.binds (ps:=["thing"]) fun _ _ _ _ _ _ us hl=>by obtain⟨_,rfl⟩:=ar1 hl;rfl
 have b3:=F3.binds (ps:=["things","ties"]) fun _ _ _ _ _ _ us hl=>by obtain⟨_,_,rfl⟩:=ar2 hl;rfl
 have b4:=F4.binds (ps:=["web","one"]) fun _ _ _ _ _ _ us hl=>by obtain⟨_,_,rfl⟩:=ar2 hl;rfl
 have b5:=F5.binds (ps:=["web","one"]) fun _ _ _ _ _ _ us hl=>by obtain⟨_,_,rfl⟩:=ar2 hl;rfl
 have b6:=F6.binds (ps:=["things"]) fun _ _ _ _ _ _ us hl=>by obtain⟨_,rfl⟩:=ar1 hl;rfl
 have b7:=F7.binds (ps:=["things"]) fun _ _ _ _ _ _ us hl=>by obtain⟨_,rfl⟩:=ar1 hl;rfl
 have b8:=F8.binds (ps:=["things"]) fun _ _ _ _ _ _ us hl=>by obtain⟨_,rfl⟩:=ar1 hl;rfl
 have b9:=F9.binds (ps:=["things"]) fun _ _ _ _ _ _ us hl=>by obtain⟨_,rfl⟩:=ar1 hl;rfl
 have b10:=F10.binds (ps:=["things","ties"]) fun _ _ _ _ _ _ us hl=>by obtain⟨_,_,rfl⟩:=ar2 hl;rfl
 have b11:=F11.binds (ps:=["places","tie"]) fun _ _ _ _ _ _ us hl=>by obtain⟨_,_,rfl⟩:=ar2 hl;rfl
 have b12:=F12.binds (ps:=["web","one"]) fun _ _ _ _ _ _ us hl=>by obtain⟨_,_,rfl⟩:=ar2 hl;rfl
 have b13:=F13.binds (ps:=["web","one"]) fun _ _ _ _ _ _ us hl=>by obtain⟨_,_,rfl⟩:=ar2 hl;rfl
 have b14:=F14.binds (ps:=["web","one","other"]) fun _ _ _ _ _ _ us hl=>by obtain⟨_,_,_,rfl⟩:=ar3 hl;rfl
 have b15:=F15.binds (ps:=["web","thing","left"]) fun _ _ _ _ _ _ us hl=>by obtain⟨_,_,_,rfl⟩:=ar3 hl;rfl
 have b16:=F16.binds (ps:=["web"]) fun _ _ _ _ _ _ us hl=>by obtain⟨_,rfl⟩:=ar1 hl;rfl
 have b17:=F17.binds (ps:=["web"]) fun _ _ _ _ _ _ us hl=>by obtain⟨_,rfl⟩:=ar1 hl;rfl
 have b18:=F18.binds (ps:=["table","starts"]) fun _ _ _ _ _ _ us hl=>by obtain⟨_,_,rfl⟩:=ar2 hl;rfl
 have b19:=F19.binds (ps:=["web","one","other"]) fun _ _ _ _ _ _ us hl=>by obtain⟨_,_,_,rfl⟩:=ar3 hl;rfl
 have b20:=F20.binds (ps:=["web","order","one","other"]) fun _ _ _ _ _ _ us hl=>by obtain⟨_,_,_,_,rfl⟩:=ar4 hl;rfl
 have b21:=F21.binds (ps:=["web","order","one","other"]) fun _ _ _ _ _ _ us hl=>by obtain⟨_,_,_,_,rfl⟩:=ar4 hl;rfl
 have b22:=F22.binds (ps:=["web","order","one","other","told"]) fun _ _ _ _ _ _ us hl=>by obtain⟨_,_,_,_,_,rfl⟩:=ar5 hl;rfl
 have b23:=F23.binds (ps:=["order","moves"]) fun _ _ _ _ _ _ us hl=>by obtain⟨_,_,rfl⟩:=ar2 hl;rfl
 have b24:=F24.binds (ps:=["order","told"]) fun _ _ _ _ _ _ us hl=>by obtain⟨_,_,rfl⟩:=ar2 hl;rfl
 have b25:=F25.binds (ps:=["places","move"]) fun _ _ _ _ _ _ us hl=>by obtain⟨_,_,rfl⟩:=ar2 hl;rfl
 have b26:=F26.binds (ps:=["_law_script"]) fun _ _ _ _ _ _ us hl=>by obtain⟨_,rfl⟩:=ar1 hl;rfl
 have b27:=F27.binds (ps:=["_law_pen_here","_law_most"]) fun _ _ _ _ _ _ us hl=>by obtain⟨_,_,rfl⟩:=ar2 hl;rfl
 have b28:=F28.binds (ps:=["_law_pen_here","_law_many"]) fun _ _ _ _ _ _ us hl=>by obtain⟨_,_,rfl⟩:=ar2 hl;rfl
 have b29:=F29.binds (ps:=["_law_pen_here","_law_some"]) fun _ _ _ _ _ _ us hl=>by obtain⟨_,_,rfl⟩:=ar2 hl;rfl
 have b30:=F30.binds (ps:=["_law_pen_here"]) fun _ _ _ _ _ _ us hl=>by obtain⟨_,rfl⟩:=ar1 hl;rfl
 have b31:=F31.binds (ps:=["_law_web_here","_law_one"]) fun _ _ _ _ _ _ us hl=>by obtain⟨_,_,rfl⟩:=ar2 hl;rfl
 have b32:=F32.binds (ps:=["_law_pen_here","_law_web_here","_law_order"]) fun _ _ _ _ _ _ us hl=>by obtain⟨_,_,_,rfl⟩:=ar3 hl;rfl
 have b33:=F33.binds (ps:=["_law_web_here","_law_order","_law_pair_here"]) fun _ _ _ _ _ _ us hl=>by obtain⟨_,_,_,rfl⟩:=ar3 hl;rfl
 have b34:=F34.binds (ps:=["_law_web_here","_law_ring","_law_pair_here"]) fun _ _ _ _ _ _ us hl=>by obtain⟨_,_,_,rfl⟩:=ar3 hl;rfl
 have b35:=F35.binds (ps:=["_law_web_here","_law_order","_law_pair_here"]) fun _ _ _ _ _ _ us hl=>by obtain⟨_,_,_,rfl⟩:=ar3 hl;rfl
 have b36:=F36.binds (ps:=["_law_web_here","_law_order","_law_pair_here","_law_told_here"]) fun _ _ _ _ _ _ us hl=>by obtain⟨_,_,_,_,rfl⟩:=ar4 hl;rfl
 have b37:=F37.binds (ps:=["_law_web_here","_law_order","_law_pairs"]) fun _ _ _ _ _ _ us hl=>by obtain⟨_,_,_,rfl⟩:=ar3 hl;rfl
 have b38:=F38.binds (ps:=["_law_pen_here","_law_web_here"]) fun _ _ _ _ _ _ us hl=>by obtain⟨_,_,rfl⟩:=ar2 hl;rfl
 refine⟨W.fnOf "law" "law" (defArgs sLaw) (defBody sLaw) (defScope sLaw) .none kV39 dc39 pm39 an39 cd39 ct39,fun s v=>.of_eq rfl,fun base XB GB=>?_⟩
 have eN:(["OrderError","NoWeb","Ring"]:List Str).Nodup:=by decide +kernel
 have eO:ecOf ([("OrderError",x1),("NoWeb",x2),("Ring",x3)]:List (Str × Addr)) "OrderError"=x1:=ecOf_at (ps:=[("OrderError",x1),("NoWeb",x2),("Ring",x3)]) eN ("OrderError",x1) (.head _)
 have Er:Errs K mg base (ecOf ([("OrderError",x1),("NoWeb",x2),("Ring",x3)]:List (Str × Addr))) excL excC:=errs_mk (ps:=[("OrderError",x1),("NoWeb",x2),("Ring",x3)]) (cs:=[("OrderError",x1),("Ring",x3)]) eN (fa_cons (.head _) (fa_cons (.tail _ (.tail _ (.head _))) fa_nil)) (fa_cons (W.mg_of X G r1) (fa_cons (W.mg_of X G r2) (fa_cons (W.mg_of X G r3) fa_nil))) (fa_cons ⟨ga1,gb1,ha1,en,et,hm1,hb1,cl1⟩ (fa_cons ⟨ga3,gb3,ha3,en,et,hm3,hb3,cl3⟩ fa_nil)) (show ("OrderError":Str)∈excC by decide +kernel) (fa_cons (fun h=>absurd rfl h) (fa_cons (fun _=>(fa_cons (g3_1.trans (congrArg some (show true=(("OrderError":Str)==("Ring":Str)||("OrderError":Str)==("OrderError":Str)) by decide +kernel))) (fa_cons (g3_2.trans (congrArg some (show false=(("NoWeb":Str)==("Ring":Str)||("NoWeb":Str)==("OrderError":Str)) by decide +kernel))) (fa_cons (g3_3.trans (congrArg some (show true=(("Ring":Str)==("Ring":Str)||("Ring":Str)==("OrderError":Str)) by decide +kernel))) fa_nil)))) fa_nil)) (fa_cons w1 (fa_cons w3 fa_nil)) (fa_cons ⟨bm1,xat_mk XB o1,p1,(by rw[eO];exact q_1)⟩ (fa_cons ⟨bm3,xat_mk XB o3,p3,(by rw[eO];exact q_3)⟩ fa_nil)) (W.mg_none_of X G ev) (fa_cons (fun _=>own_mk XB (W.mg_of X G r1) o1 u1 ni1 tl1) (fa_cons (fun h=>absurd (show ("Ring":Str)∈(["NoText","Ring","NoUnit"]:List Str) by decide) h) fa_nil))
 have FIRing:=fun_mk (st:=sRingInit) il3 ic3 ik3
 have bIRing:=FIRing.binds (ps:=["self","ring"]) fun _ _ _ _ _ _ us hl=>by obtain⟨_,_,rfl⟩:=ar2 hl;rfl
 have eeRing:ecOf ([("OrderError",x1),("NoWeb",x2),("Ring",x3)]:List (Str × Addr)) "Ring"=x3:=ecOf_at (ps:=[("OrderError",x1),("NoWeb",x2),("Ring",x3)]) eN ("Ring",x3) (.tail _ (.tail _ (.head _)))
 have ZRing:XSet K (ecOf ([("OrderError",x1),("NoWeb",x2),("Ring",x3)]:List (Str × Addr)) "Ring") "ring":=eeRing.symm ▸ ⟨sa3,po3,na3,hd_3,hm3⟩
 have GRing:XGet K (ecOf ([("OrderError",x1),("NoWeb",x2),("Ring",x3)]:List (Str × Addr)) "Ring") "ring":=⟨ZRing.na,ZRing.hd⟩
 have mRing:MkI l.prog w K mg base 1 "Ring" (ecOf ([("OrderError",x1),("NoWeb",x2),("Ring",x3)]:List (Str × Addr)) "Ring") ["self","ring"] (spInitL K "ring"):=eeRing.symm ▸ ⟨_,_,ownI_mk XB (W.mg_of X G r3) o3 u3 ni3 tl3 il3,kc3,ok_init FIRing B,bIRing⟩
 have c__law_pen:Cal l.prog w K mg base 1 "_law_pen" ["_law_script"] (spPen K):=⟨_,_,ok_pen F26 B,W.mg_of X G a26,k26,b26⟩
 have c__law_draw:Cal l.prog w K mg base 1 "_law_draw" ["_law_pen_here","_law_most"] (spDraw K):=⟨_,_,ok_draw F27 B,W.mg_of X G a27,k27,b27⟩
 have c__law_names:Cal l.prog w K mg base 2 "_law_names" ["_law_pen_here","_law_many"] (spNames K):=⟨_,_,ok_names F28 B c__law_draw,W.mg_of X G a28,k28,b28⟩
 have c_places_of:Cal l.prog w K mg base 1 "places_of" ["things"] spPlacesX:=⟨_,_,ok_placesX F6 B,W.mg_of X G a6,k6,b6⟩
 have c_is_name:Cal l.prog w K mg base 1 "is_name" ["thing"] spIsName:=⟨_,_,ok_isname F1 B TMOST_SIGNS,W.mg_of X G a1,k1,b1⟩
 have c_is_tie_among:Cal l.prog w K mg base 2 "is_tie_among" ["places","tie"] spAmong:=⟨_,_,ok_among F11 B c_is_name,W.mg_of X G a11,k11,b11⟩
 have c_are_unlike:Cal l.prog w K mg base 2 "are_unlike" ["things"] spUnlike:=⟨_,_,ok_unlike F9 B c_places_of,W.mg_of X G a9,k9,b9⟩
 have c_are_unlike_names:Cal l.prog w K mg base 3 "are_unlike_names" ["things"] spUNm:=⟨_,_,ok_unm F8 B c_is_name c_are_unlike,W.mg_of X G a8,k8,b8⟩
 have c_are_things:Cal l.prog w K mg base 4 "are_things" ["things"] spAre:=⟨_,_,ok_are F7 B TMOST_THINGS c_are_unlike_names,W.mg_of X G a7,k7,b7⟩
 have c_first_wrong_tie:Cal l.prog w K mg base 3 "first_wrong_tie" ["things","ties"] spWrong:=⟨_,_,ok_wrong F10 B TMOST_TIES c_places_of c_is_tie_among,W.mg_of X G a10,k10,b10⟩
 have c_web_of:Cal l.prog w K mg base 5 "web_of" ["things","ties"] spWebOf:=⟨_,_,ok_web_of F3 B c_are_things c_first_wrong_tie,W.mg_of X G a3,k3,b3⟩
 have c__law_turned:Cal l.prog w K mg base 2 "_law_turned" ["_law_pen_here","_law_some"] (spTurned K):=⟨_,_,ok_turned F29 B c__law_draw,W.mg_of X G a29,k29,b29⟩
 have c_places_ofN:Cal l.prog w K mg base 1 "places_of" ["things"] spPlaces:=⟨_,_,(ok_placesX F6 B).imp placesX_of,W.mg_of X G a6,k6,b6⟩
 have c_nexts:Cal l.prog w K mg base 2 "nexts" ["web","one"] (spNexts false):=⟨_,_,ok_nexts F4 B c_places_ofN,W.mg_of X G a4,k4,b4⟩
 have c_priors:Cal l.prog w K mg base 2 "priors" ["web","one"] (spNexts true):=⟨_,_,ok_priors F5 B c_places_ofN,W.mg_of X G a5,k5,b5⟩
 have c_nexts_of_all:Cal l.prog w K mg base 3 "nexts_of_all" ["web"] (spNextsAll false):=⟨_,_,ok_nexts_of_all F16 B c_nexts,W.mg_of X G a16,k16,b16⟩
 have c_priors_of_all:Cal l.prog w K mg base 3 "priors_of_all" ["web"] (spNextsAll true):=⟨_,_,ok_priors_of_all F17 B c_priors,W.mg_of X G a17,k17,b17⟩
 have c_steps_from:Cal l.prog w K mg base 1 "steps_from" ["table","starts"] spStepsL:=⟨_,_,ok_steps F18 B,W.mg_of X G a18,k18,b18⟩
 have c_behinds:Cal l.prog w K mg base 4 "behinds" ["web","one"] (spBehinds false):=⟨_,_,ok_behinds F12 B c_steps_from c_nexts_of_all,W.mg_of X G a12,k12,b12⟩
 have c_aheads:Cal l.prog w K mg base 4 "aheads" ["web","one"] (spBehinds true):=⟨_,_,ok_aheads F13 B c_steps_from c_priors_of_all,W.mg_of X G a13,k13,b13⟩
 have c_stretch:Cal l.prog w K mg base 5 "stretch" ["web","order","one","other"] spStretch:=⟨_,_,ok_stretch F20 B c_places_ofN c_behinds c_aheads,W.mg_of X G a20,k20,b20⟩
 have c__law_web:Cal l.prog w K mg base 6 "_law_web" ["_law_pen_here"] (spLWeb K):=⟨_,_,ok_lweb F30 B c__law_draw c__law_names c__law_turned c_web_of,W.mg_of X G a30,k30,b30⟩
 have c_moves_of:Cal l.prog w K mg base 6 "moves_of" ["web","order","one","other"] spMovesOf:=⟨_,_,ok_moves_of F21 B Zsorted Zzip c_stretch c_places_ofN,W.mg_of X G a21,k21,b21⟩
 have c_moved:Cal l.prog w K mg base 1 "moved" ["order","moves"] spMoved:=⟨_,_,ok_moved F23 B,W.mg_of X G a23,k23,b23⟩
 have c_first_nearer:Cal l.prog w K mg base 3 "first_nearer" ["web","thing","left"] spNearer:=⟨_,_,ok_nearer F15 B c_nexts,W.mg_of X G a15,k15,b15⟩
 have c_way:Cal l.prog w K mg base 4 "way" ["web","one","other"] spWay:=⟨_,_,ok_way F14 B c_steps_from c_priors_of_all c_first_nearer,W.mg_of X G a14,k14,b14⟩
 have c_ring_by:Cal l.prog w K mg base 5 "ring_by" ["web","one","other"] spRingBy:=⟨_,_,ok_ring_by F19 B c_way,W.mg_of X G a19,k19,b19⟩
 have c_stretchX:CalX l.prog w K mg base 6 "stretch" ["web","order","one","other"] (spStrX _):=⟨_,_,ok_strX F20 B mRing ZRing c_places_ofN c_behinds c_ring_by,W.mg_of X G a20,k20,b20⟩
 have c_moves_ofB:CalX l.prog w K mg base 7 "moves_of" ["web","order","one","other"] (spMvB _):=⟨_,_,ok_mvB (ok_moves_of F21 B Zsorted Zzip c_stretch c_places_ofN) (ok_movX F21 B c_stretchX),W.mg_of X G a21,k21,b21⟩
 have c_is_whole:Cal l.prog w K mg base 1 "is_whole" ["thing"] spWhole:=⟨_,_,ok_whole F2 B,W.mg_of X G a2,k2,b2⟩
 have c_places_ofI:Cal l.prog w K mg base 1 "places_of" ["things"] spPlG:=⟨_,_,ok_plG F6 B,W.mg_of X G a6,k6,b6⟩
 have c_are_unlikeI:Cal l.prog w K mg base 2 "are_unlike" ["things"] spUnlG:=⟨_,_,ok_unlG F9 B c_places_ofI,W.mg_of X G a9,k9,b9⟩
 have c_is_move:Cal l.prog w K mg base 2 "is_move" ["places","move"] spIsMove:=⟨_,_,ok_is_move F25 B c_is_name c_is_whole,W.mg_of X G a25,k25,b25⟩
 have c_are_moves:Cal l.prog w K mg base 3 "are_moves" ["order","told"] spAreG:=⟨_,_,ok_areG F24 B Zsorted c_places_ofN c_is_move c_are_unlikeI,W.mg_of X G a24,k24,b24⟩
 have c_lets_moves:Cal l.prog w K mg base 4 "lets_moves" ["web","order","one","other","told"] spLetG:=⟨_,_,ok_letG F22 B c_are_moves c_places_ofN c_moved,W.mg_of X G a22,k22,b22⟩
 have c__law_reached:Cal l.prog w K mg base 1 "_law_reached" ["_law_web_here","_law_one"] spReach:=⟨_,_,ok_reach F31 B,W.mg_of X G a31,k31,b31⟩
 have c_stretchB:CalX l.prog w K mg base 6 "stretch" ["web","order","one","other"] (spStrB _):=⟨_,_,ok_strB (ok_stretch F20 B c_places_ofN c_behinds c_aheads) (ok_strX F20 B mRing ZRing c_places_ofN c_behinds c_ring_by),W.mg_of X G a20,k20,b20⟩
 have c__law_pair:Cal l.prog w K mg base 2 "_law_pair" ["_law_pen_here","_law_web_here","_law_order"] (spPair K):=⟨_,_,ok_pair F32 B c__law_draw,W.mg_of X G a32,k32,b32⟩
 have c__law_drawn:Cal l.prog w K mg base 2 "_law_drawn" ["_law_pen_here","_law_web_here"] (spDrawn K):=⟨_,_,ok_drawn F38 B c__law_draw,W.mg_of X G a38,k38,b38⟩
 have c__law_turnedV:Cal l.prog w K mg base 2 "_law_turned" ["_law_pen_here","_law_some"] (spTurnV K):=⟨_,_,ok_turnV F29 B c__law_draw,W.mg_of X G a29,k29,b29⟩
 have c__law_sorts:Cal l.prog w K mg base 1 "_law_sorts" ["_law_web_here","_law_order","_law_pair_here"] spSorts:=⟨_,_,ok_sorts F35 B,W.mg_of X G a35,k35,b35⟩
 have c__law_told:Cal l.prog w K mg base 8 "_law_told" ["_law_web_here","_law_order","_law_pair_here"] spTold:=⟨_,_,ok_told F33 B Er GRing c_stretchB c_moves_ofB,W.mg_of X G a33,k33,b33⟩
 have c__law_ring_right:Cal l.prog w K mg base 1 "_law_ring_right" ["_law_web_here","_law_ring","_law_pair_here"] spRingR:=⟨_,_,ok_ringR F34 B Zset,W.mg_of X G a34,k34,b34⟩
 have c__law_moves_right:Cal l.prog w K mg base 5 "_law_moves_right" ["_law_web_here","_law_order","_law_pair_here","_law_told_here"] spMovR:=⟨_,_,ok_movR F36 B Zsorted c_moved c__law_sorts c_lets_moves,W.mg_of X G a36,k36,b36⟩
 have c__law_all_right:Cal l.prog w K mg base 9 "_law_all_right" ["_law_web_here","_law_order","_law_pairs"] spAllR:=⟨_,_,ok_allR F37 B c__law_told c__law_reached c__law_ring_right c__law_moves_right c_moved c_web_of,W.mg_of X G a37,k37,b37⟩
 exact ok_law F39 B c__law_pen c__law_draw c__law_web c__law_pair c__law_all_right c__law_drawn c__law_turnedV
theorem walk {l:W.OpenLaw}{q:Program}{loose:List Str}{XP:(Str -> Option Value) -> Heap -> Prop}{YP:World -> Heap -> Prop}{d:DefRec}{K:Params -> W.Frag}(hn:l.most=some 63) (hdf:d.params.defaults=[])
    (hY:∀(w:World) (h:Heap),YP w h->(K w.params).In h)
    (F:∀(w:World) (mg:Str->Option Value) (fa:Addr) (h:Heap),(K w.params).In h->h.Ns mainGlobals mg->mg d.name=some (.ref fa) ->
     ∃fd:FuncData,(∀(s:Shared) (u:Value),BindsTo s fd ⟨[u],[]⟩ [("_law_script",u)])/\∀base:Heap,(K w.params).In base->base.Ns mainGlobals mg->FnOk l.prog w (K w.params) mg base CX0 10 fa fd ["_law_script"] (spLaw (K w.params))) :
    W.WalkO q loose XP YP l.row.toRowW d [] (fun f vs=>PySem.call f vs) :=
 L2.walk_of (n:=63) (k:=10) (x:="_law_script") (CX:=fun _=>CX0) (sp:=fun w=>spLaw (K w.params)) hn (by decide) hdf ⟨rfl,by decide,by decide,rfl⟩ hY F (fun _ _ a ns hl _ hS=>⟨a,ns,rfl,hS,fun _=>rfl⟩) fun _ _ _ _ _ z=>z
end
end K33
open PySem PySem.W PyProof.Rows
set_option maxRecDepth 100000 in
set_option maxHeartbeats 0 in
theorem PySem.Challenge.cw_orderkeep_k33_whole_ties_laid_holds : PySem.Challenge.rw_orderkeep_k33_whole_ties_laid.Holds := by
 w_on;o_law;k_head;(case hw=>w_witness2)
 k_fill
 refine K33.walk (l:=PySem.Challenge.rw_orderkeep_k33_whole_ties_laid) rfl rfl (fun w h Y=>W.kIn_of Y) ?F
 case F =>
  intro w mg fa h KX G hmg
  refine' K33.all_mk KX G hmg ?a1 ?l1 ?c1 ?k1 ?a2 ?l2 ?c2 ?k2 ?a3 ?l3 ?c3 ?k3 ?a4 ?l4 ?c4 ?k4 ?a5 ?l5 ?c5 ?k5 ?a6 ?l6 ?c6 ?k6 ?a7 ?l7 ?c7 ?k7 ?a8 ?l8 ?c8 ?k8 ?a9 ?l9 ?c9 ?k9 ?a10 ?l10 ?c10 ?k10 ?a11 ?l11 ?c11 ?k11 ?a12 ?l12 ?c12 ?k12 ?a13 ?l13 ?c13 ?k13 ?a14 ?l14 ?c14 ?k14 ?a15 ?l15 ?c15 ?k15 ?a16 ?l16 ?c16 ?k16 ?a17 ?l17 ?c17 ?k17 ?a18 ?l18 ?c18 ?k18 ?a19 ?l19 ?c19 ?k19 ?a20 ?l20 ?c20 ?k20 ?a21 ?l21 ?c21 ?k21 ?a22 ?l22 ?c22 ?k22 ?a23 ?l23 ?c23 ?k23 ?a24 ?l24 ?c24 ?k24 ?a25 ?l25 ?c25 ?k25 ?a26 ?l26 ?c26 ?k26 ?a27 ?l27 ?c27 ?k27 ?a28 ?l28 ?c28 ?k28 ?a29 ?l29 ?c29 ?k29 ?a30 ?l30 ?c30 ?k30 ?a31 ?l31 ?c31 ?k31 ?a32 ?l32 ?c32 ?k32 ?a33 ?l33 ?c33 ?k33 ?a34 ?l34 ?c34 ?k34 ?a35 ?l35 ?c35 ?k35 ?a36 ?l36 ?c36 ?k36 ?a37 ?l37 ?c37 ?k37 ?a38 ?l38 ?c38 ?k38 ?a39 ?l39 ?c39 ?k39 ?z1 ?z2 ?z3 ?z4 ?z5 ?z6 ?z7 ?z8 ?z9 ?z10 ?z11 ?z12 ?z13 ?z14 ?z15 ?z16 ?z17 ?z18 ?y1 ?y2 ?y3 ?r1 ?r2 ?r3 ?en ?et ?ev ?o1 ?u1 ?ni1 ?tl1 ?ga1 ?gb1 ?ha1 ?hm1 ?hb1 ?cl1 ?p1 ?q_1 ?w1 ?o3 ?u3 ?ni3 ?tl3 ?il3 ?ic3 ?ik3 ?kc3 ?sa3 ?po3 ?na3 ?hd_3 ?ga3 ?gb3 ?ha3 ?hm3 ?hb3 ?cl3 ?p3 ?q_3 ?w3 ?g3_1 ?g3_2 ?g3_3
  (case a1=>k_is)
  (case l1=>k_is)
  (case c1=>k_is)
  (case k1=>k_is)
  (case a2=>k_is)
  (case l2=>k_is)
  (case c2=>k_is)
  (case k2=>k_is)
  (case a3=>k_is)
  (case l3=>k_is)
  (case c3=>k_is)
  (case k3=>k_is)
  (case a4=>k_is)
  (case l4=>k_is)
  (case c4=>k_is)
  (case k4=>k_is)
  (case a5=>k_is)
  (case l5=>k_is)
  (case c5=>k_is)
  (case k5=>k_is)
  (case a6=>k_is)
  (case l6=>k_is)
  (case c6=>k_is)
  (case k6=>k_is)
  (case a7=>k_is)
  (case l7=>k_is)
  (case c7=>k_is)
  (case k7=>k_is)
  (case a8=>k_is)
  (case l8=>k_is)
  (case c8=>k_is)
  (case k8=>k_is)
  (case a9=>k_is)
  (case l9=>k_is)
  (case c9=>k_is)
  (case k9=>k_is)
  (case a10=>k_is)
  (case l10=>k_is)
  (case c10=>k_is)
  (case k10=>k_is)
  (case a11=>k_is)
  (case l11=>k_is)
  (case c11=>k_is)
  (case k11=>k_is)
  (case a12=>k_is)
  (case l12=>k_is)
  (case c12=>k_is)
  (case k12=>k_is)
  (case a13=>k_is)
  (case l13=>k_is)
  (case c13=>k_is)
  (case k13=>k_is)
  (case a14=>k_is)
  (case l14=>k_is)
  (case c14=>k_is)
  (case k14=>k_is)
  (case a15=>k_is)
  (case l15=>k_is)
  (case c15=>k_is)
  (case k15=>k_is)
  (case a16=>k_is)
  (case l16=>k_is)
  (case c16=>k_is)
  (case k16=>k_is)
  (case a17=>k_is)
  (case l17=>k_is)
  (case c17=>k_is)
  (case k17=>k_is)
  (case a18=>k_is)
  (case l18=>k_is)
  (case c18=>k_is)
  (case k18=>k_is)
  (case a19=>k_is)
  (case l19=>k_is)
  (case c19=>k_is)
  (case k19=>k_is)
  (case a20=>k_is)
  (case l20=>k_is)
  (case c20=>k_is)
  (case k20=>k_is)
  (case a21=>k_is)
  (case l21=>k_is)
  (case c21=>k_is)
  (case k21=>k_is)
  (case a22=>k_is)
  (case l22=>k_is)
  (case c22=>k_is)
  (case k22=>k_is)
  (case a23=>k_is)
  (case l23=>k_is)
  (case c23=>k_is)
  (case k23=>k_is)
  (case a24=>k_is)
  (case l24=>k_is)
  (case c24=>k_is)
  (case k24=>k_is)
  (case a25=>k_is)
  (case l25=>k_is)
  (case c25=>k_is)
  (case k25=>k_is)
  (case a26=>k_is)
  (case l26=>k_is)
  (case c26=>k_is)
  (case k26=>k_is)
  (case a27=>k_is)
  (case l27=>k_is)
  (case c27=>k_is)
  (case k27=>k_is)
  (case a28=>k_is)
  (case l28=>k_is)
  (case c28=>k_is)
  (case k28=>k_is)
  (case a29=>k_is)
  (case l29=>k_is)
  (case c29=>k_is)
  (case k29=>k_is)
  (case a30=>k_is)
  (case l30=>k_is)
  (case c30=>k_is)
  (case k30=>k_is)
  (case a31=>k_is)
  (case l31=>k_is)
  (case c31=>k_is)
  (case k31=>k_is)
  (case a32=>k_is)
  (case l32=>k_is)
  (case c32=>k_is)
  (case k32=>k_is)
  (case a33=>k_is)
  (case l33=>k_is)
  (case c33=>k_is)
  (case k33=>k_is)
  (case a34=>k_is)
  (case l34=>k_is)
  (case c34=>k_is)
  (case k34=>k_is)
  (case a35=>k_is)
  (case l35=>k_is)
  (case c35=>k_is)
  (case k35=>k_is)
  (case a36=>k_is)
  (case l36=>k_is)
  (case c36=>k_is)
  (case k36=>k_is)
  (case a37=>k_is)
  (case l37=>k_is)
  (case c37=>k_is)
  (case k37=>k_is)
  (case a38=>k_is)
  (case l38=>k_is)
  (case c38=>k_is)
  (case k38=>k_is)
  (case a39=>k_is)
  (case l39=>k_is)
  (case c39=>k_is)
  (case k39=>k_is)
  (case z1=>k_is)
  (case z2=>k_is)
  (case z3=>k_is)
  (case z4=>k_is)
  (case z5=>k_is)
  (case z6=>k_is)
  (case z7=>k_is)
  (case z8=>k_is)
  (case z9=>k_is)
  (case z10=>k_is)
  (case z11=>k_is)
  (case z12=>k_is)
  (case z13=>k_is)
  (case z14=>k_is)
  (case z15=>k_is)
  (case z16=>k_is)
  (case z17=>k_is)
  (case z18=>k_is)
  (case y1=>k_is)
  (case y2=>k_is)
  (case y3=>k_is)
  (case r1=>k_is)
  (case r2=>k_is)
  (case r3=>k_is)
  (case en=>k_is)
  (case et=>k_is)
  (case ev=>k_is)
  (case o1=>k_is)
  (case u1=>kernel_rfl)
  (case ni1=>k_is)
  (case tl1=>kernel_rfl)
  (case ga1=>k_is)
  (case gb1=>k_is)
  (case ha1=>k_is)
  (case hm1=>k_is)
  (case hb1=>k_is)
  (case cl1=>exact rfl)
  (case p1=>exact rfl)
  (case q_1=>exact rfl)
  (case w1=>exact rfl)
  (case o3=>k_is)
  (case u3=>kernel_rfl)
  (case ni3=>k_is)
  (case tl3=>kernel_rfl)
  (case il3=>k_is)
  (case ic3=>k_is)
  (case ik3=>k_is)
  (case kc3=>first | k_is | exact rfl)
  (case sa3=>k_is)
  (case po3=>exact rfl)
  (case na3=>k_is)
  (case hd_3=>first | k_is | exact rfl)
  (case ga3=>k_is)
  (case gb3=>k_is)
  (case ha3=>k_is)
  (case hm3=>k_is)
  (case hb3=>k_is)
  (case cl3=>exact rfl)
  (case p3=>exact rfl)
  (case q_3=>exact rfl)
  (case w3=>exact rfl)
  (case g3_1=>exact rfl)
  (case g3_2=>exact rfl)
  (case g3_3=>exact rfl)
end
