import PyProof.Rows.All
import Wide.All
import OpenK.AllK
import Wide.FinOn
import Lean
import PyProof.EqAt
import PyProof.EqKinds
import PyProof.TupleCall
import PyProof.Rows.SumAny
import PyProof.StationsW
import PyProof.ExcClass3
import OpenK.KOwn
import KE.KTryDeep
import KE.KIsAll
import PyProof.ExcAttrAll.ValueError
import PyProof.ExcBaseAll.ValueError
import PyProof.InstStoreFacts
import PyProof.RulesTry
import PyProof.Rows.SortStr
import PyProof.TupleOfSeq
import KE.KxWritten
import PyProof.Conv_bool
import KE.KStrOpen
import PyProof.Rows.FStr
import PyProof.SetRoads
import PyProof.DictKinds
import PyProof.Rows.Range3
import PyProof.FactsAll.tuple_2
import PyProof.CollectIter
import PyProof.TupleOfGen
import KE.KSortTup
import PyProof.StrOps
import PyProof.StrLawsIn
import PyProof.AttrMissHeap
import KE.KDictOf
import PyProof.StrOps2
import PyProof.DictWalks
import KE.KDictList
import PyProof.Rows.ZipGen
import PySem.Challenge.RW_orderkeep_k77_whole_bent_texts_of_houses
namespace PySem.W.Fast
def tw5814964877976220258:=0
def tw3680416107732818466:=0
def tw14161346044022515549:=0
def tw17222522754112143232:=0
def tw17610588181450447608:=0
def tw12261265524636981521:=0
def tw2960411587111969540:=0
def tw7632093901650153210:=0
def tw763196209755707943:=0
def tw13482229800120422344:=0
def tw6467357618589157816:=0
def tw3956759381517839868:=0
def tw16170068437404960675:=0
def tw3605233164821319238:=0
def tw1468927254955978941:=0
def tw6665534238664755821:=0
def tw4297011624363750020:=0
def tw1989743913811084091:=0
def tw18263896712563299020:=0
def tw8260140868007411785:=0
def tw5377118219375057626:=0
def tw10039957814733524432:=0
def tw17696821100788358469:=0
def tw8782406057318291665:=0
def tw2583855505677188864:=0
def tw925193412270738067:=0
def tw17740111393201301315:=0
def tw4953871315398523801:=0
def tw18020704899524267932:=0
def tw366149376643289455:=0
def tw6472764515288003510:=0
def tw1368977033007429927:=0
def tw9428589607141096634:=0
def tw6366537495680877179:=0
def tw16878027723985255917:=0
def tw12585917901002209896:=0
def tw5316134794542511289:=0
def tw17888756165365110030:=0
def tw17493493554232027442:=0
def tw3725333826732612498:=0
def tw14542096763650426809:=0
def tw9101375356908213757:=0
def tw13738205619516226206:=0
def tw9422270801723623364:=0
def tw9576218115795104123:=0
def tw4955393874223670785:=0
def tw3923340734150461132:=0
def tw11610387966046724761:=0
def tw10084941276044354444:=0
def tw9632067604978437843:=0
def tw6153280443660811774:=0
def tw1082291268685016485:=0
def tw1913678146725209471:=0
def tw8143174090201552060:=0
def tw13463716313441462618:=0
def tw634737931661952927:=0
def tw9200200251151435026:=0
def tw15799409919468785911:=0
def tw7251547913326160675:=0
def tw11024212180171721359:=0
def tw18201145428359040243:=0
def tw17263655589683320368:=0
def tw16827972156703639978:=0
def tw9144282200503651996:=0
def tw2873610631481062203:=0
def tw4338405286830074184:=0
def tw13657554063308672449:=0
def tw9074397778170462130:=0
def tw13800545727231450897:=0
def tw13171933100829769598:=0
def tw10058687334588934218:=0
def tw1061320875419699731:=0
def tw799072670088391414:=0
def tw3350199522547181074:=0
def tw2189569708753746999:=0
def tw5509032255464354573:=0
def tw1253227638379134348:=0
def tw18386407891547255777:=0
def tw3732925379625034389:=0
def tw6525151197499742540:=0
def tw7976480368420392723:=0
def tw16062923450375703605:=0
def tw4614202128122510589:=0
def tw17397716673334477205:=0
def tw13920329653327533493:=0
def tw3066151024581975053:=0
def tw15756996750843258859:=0
def tw17048926310832611059:=0
def tw13643565506850422898:=0
def tw17863880881465067378:=0
def tw15602428216316089473:=0
def tw8656251629261386092:=0
def tw3949206673368139867:=0
def tw8237491721952692314:=0
def tw13816789980169145393:=0
def tw5676679691684083537:=0
def tw2233251805134564477:=0
def tw6646393925533986866:=0
def tw4030989995086851138:=0
def tw12998236008208736832:=0
def tw1775487906510707221:=0
def tw17871822994865624337:=0
def tw4677340828138973684:=0
def tw2637647094036111860:=0
def tw13097365862459389465:=0
def tw14875448322458990466:=0
def tw3767957180316158322:=0
def tw4857346919804248984:=0
def tw15536820429201036614:=0
def tw18302369142555114068:=0
def tw17524388216669669339:=0
def tw1040632653272144564:=0
def tw11989249343982068765:=0
def tw882406301915450046:=0
def tw104679536852248346:=0
def tw16566430424702548932:=0
def tw17970209983850355445:=0
def tw8102808172642770723:=0
def tw14949404839009107233:=0
def tw395586580354720133:=0
def tw13239141186028036206:=0
def tw1654230545968528236:=0
def tw9695052156585273719:=0
def tw18370018678128700140:=0
def tw1457615146656797935:=0
def tw1817709503910827992:=0
def tw1674429561121871394:=0
def tw4197809769550620068:=0
def tw14138428299109627351:=0
def tw11438190450905683659:=0
def tw10896866265845843549:=0
def tw8516827546450311468:=0
def tw12184741514340896172:=0
def tw9857730312861036820:=0
def tw9628523739149453925:=0
def tw9100102838217439498:=0
def tw12795469912748567483:=0
def tw13130957456755770435:=0
def tw12764459021900262394:=0
def tw9215418249575026214:=0
def tw8880894019415897729:=0
def tw2228774495204837846:=0
def tw7063686115067407362:=0
def tw465948127076895643:=0
def tw9325999685634560577:=0
def tw10776837643844297415:=0
def tw11286077178142244596:=0
def tw9160114438519834725:=0
def tw8106791921989870022:=0
def tw9330790380669626942:=0
def tw8959634115373862764:=0
def tw9589932924945013474:=0
def tw13937987659072717537:=0
def tw648330728239342988:=0
def tw10585330016705269287:=0
def tw6365160677317443385:=0
def tw10024339164018408242:=0
def tw11343963343278827516:=0
def tw415465937767561067:=0
def tw11876394993744669575:=0
def tw16054290988058086622:=0
def tw10605579752929548041:=0
def tw4631497832277813924:=0
def tw13664526769156472015:=0
def tw5945817758233537353:=0
def tw3991972963311925893:=0
def tw3091752631388415920:=0
def tw11982543201097911853:=0
def tw1732807372655292692:=0
def tw995631330976930723:=0
def tw4662787713982411592:=0
def tw2346622010014706387:=0
def tw5056107074043726551:=0
def tw14122518511284048550:=0
def tw16594926031954049641:=0
def tw1901193813585769098:=0
def tw13446772301911932533:=0
def tw3826051030376171408:=0
def tw4269118618450282034:=0
def tw8445743132600828933:=0
def tw17862111874308276503:=0
def tw5836016809088351576:=0
def tw6004398959636559608:=0
def tw6181774668042246763:=0
def tw9113900460963668061:=0
def tw12365539811722359753:=0
def tw5552195374779651863:=0
def tw14538235869388172716:=0
def tw12583067778743200429:=0
def tw12057837362711924601:=0
def tw5458444862181822029:=0
def tw12971615928886553411:=0
def tw18068045377153388606:=0
def tw9285645601766525509:=0
def tw6784226984627370793:=0
def tw17512865997760667667:=0
def tw11245814040724450218:=0
def tw15636447185135056004:=0
def tw6017096156662234785:=0
def tw13723319878423193444:=0
def tw12829062579804153043:=0
def tw12208344296083561368:=0
def tw258716096056979015:=0
def tw15997325427647362305:=0
def tw15383683580011584689:=0
def tw8282029405320544473:=0
def tw6544232104205585578:=0
def tw1515685468281612787:=0
def tw13142659013979228814:=0
def tw18287558584846203048:=0
def tw1927572631440831216:=0
def tw1405138908009408908:=0
def tw18136699278379002889:=0
def tw6195604142863242659:=0
def tw17340511699318369089:=0
def tw11909843000840133955:=0
def tw16189658303452281022:=0
def tw13790627042808635743:=0
def tw12794344036224114909:=0
def tw11625175090289746775:=0
def tw14817095628355019412:=0
def tw4331748078151453861:=0
def tw6778161525063684933:=0
def tw2864116093210647311:=0
def tw13588240509516052215:=0
def tw16645458164149820055:=0
def tw8907920149235288224:=0
def tw3503453325077600119:=0
def tw12528443080595080478:=0
def tw9706833502907112129:=0
def tw16643024498126719996:=0
def tw16881891930422950988:=0
def tw15108745827473826346:=0
def tw379999408093359756:=0
def tw15302688731318575938:=0
def tw14312496616514855028:=0
def tw1148300721854832205:=0
def tw893975014308301113:=0
def tw2810900389967766364:=0
def tw17903016415426362738:=0
def tw13459706278963415325:=0
def tw6522381920050314669:=0
def tw6493800055736630507:=0
def tw13155010328909082985:=0
def tw986761501368075537:=0
def tw8870793148122615265:=0
def tw2621131945331394481:=0
def tw4625031432285890324:=0
def tw12519011864624789837:=0
def tw4808604618530891480:=0
def tw18040262516027649366:=0
def tw1171287844302203230:=0
def tw436520472026539135:=0
def tw6489363967440706318:=0
def tw2041478064606457204:=0
def tw12631360613558651259:=0
def tw6480218917530996729:=0
def tw11423941043383513010:=0
def tw9429084412674753558:=0
def tw11390189187258728806:=0
def tw15155769194680993864:=0
def tw14868616171910969919:=0
def tw3753079543506917962:=0
def tw13444998820882015126:=0
def tw2318976818805756127:=0
def tw11553396443705586436:=0
def tw1529874849022611160:=0
def tw3602449947193962213:=0
def tw18304497728903665953:=0
def tw1114469865018375126:=0
def tw17114256248034703870:=0
def tw5817977800749866548:=0
def tw10716324513755002957:=0
def tw15148305601948050310:=0
def tw4146571133069440453:=0
def tw16188959063043980234:=0
def tw3868042459183867905:=0
def tw11518567889975568087:=0
def tw16386943895525277859:=0
def tw11000665987575233980:=0
def tw16386109834577752831:=0
def tw9217003337969639520:=0
def tw18058671152485240050:=0
def tw11410638155644024979:=0
def tw17902085998286426636:=0
def tw13162898417174589190:=0
def tw6253999978176093645:=0
def tw1324078908321340435:=0
def tw14721369351836113100:=0
def tw6487860624499032673:=0
def tw7346358187699245448:=0
def tw14734054293685537608:=0
def tw16714464474961766159:=0
def tw8619341181620057399:=0
def tw3886219344397871465:=0
def tw10465686159053048924:=0
def tw4998736912619512460:=0
def tw14795879137725170965:=0
def tw13514509321020465793:=0
def tw12248006838246942541:=0
def tw4783159688331756934:=0
def tw13847370887266753802:=0
def tw1677628111720441071:=0
def tw2499542115086785266:=0
def tw15394134380898850140:=0
def tw17872660316044524768:=0
def tw17744245439122517336:=0
def tw17672280180804181426:=0
def tw7899896351340101358:=0
def tw6408790759545724088:=0
def tw145439551743623213:=0
def tw15890862303619624326:=0
def tw481910712331350816:=0
def tw18202736239296069897:=0
def tw5548740963070370766:=0
def tw12394775067789478283:=0
def tw14049838413481268159:=0
def tw6644402675769767910:=0
def tw17482143025428724850:=0
def tw8886139268259051150:=0
def tw14850168395784982597:=0
def tw14637671913825253007:=0
def tw11069740475401842162:=0
def tw15453768393543477488:=0
def tw17129043621438835202:=0
def tw13834670883117828824:=0
def tw13924192868876579677:=0
def tw16540443299374150492:=0
def tw8535483970937317296:=0
def tw13252711682026525310:=0
def tw13405829525507343818:=0
def tw3584874804849053337:=0
def tw10268218111012708471:=0
def tw9551242616838423646:=0
def tw9492830779636126402:=0
def tw7232464693946515366:=0
def tw6364078945772788643:=0
def tw11124663649215282322:=0
def tw3501728313541312769:=0
def tw16470974513420398063:=0
def tw11671772976401806933:=0
def tw3026462856179944053:=0
def tw14472425312925963343:=0
def tw1112952586658100376:=0
def tw13838102063914570983:=0
def tw1116163784733615643:=0
def tw17764927906864676056:=0
def tw6064060848096680367:=0
def tw5568106626396238767:=0
def tw14828469123775232742:=0
def tw15867487705590959050:=0
def tw6762532573470988766:=0
def tw4003061872218111086:=0
def tw50142948703254382:=0
def tw15339971498361453420:=0
def tw13273011504127098584:=0
def tw13302271038663013121:=0
def tw9028304238999787099:=0
def tw10454761862107941188:=0
def tw2656691714126704482:=0
def tw4636348273843806636:=0
def tw604985404137322799:=0
def tw18426128477698619372:=0
def tw7431973973061664440:=0
def tw412201172900359280:=0
def tw11444712588679232474:=0
def tw13284844304671323230:=0
def tw12247447496281106744:=0
def tw9414266811446809053:=0
def tw14942806302044313777:=0
def tw12567552724074391865:=0
def tw9216120718649291277:=0
def tw16158614907569706391:=0
def tw9560790776754479675:=0
def tw13095115582069279260:=0
def tw7664369092005495781:=0
def tw3685353474216463029:=0
def tw14368434481282743011:=0
end PySem.W.Fast
section
open PySem PySem.Spec PyProof.Rows
abbrev Bz:=@wpAny_bind
abbrev BA:=@List.length_map
abbrev BB:=@Nat.le_refl
abbrev BC:=@wpAny_pure
abbrev BD:=@Option.some.inj
abbrev BE:=@List.mem_map
abbrev BF:=@List.getElem?_eq_some_iff
abbrev BG:=@List.mem_of_getElem?
abbrev BH:=@List.mem_cons
abbrev BI:=@decide_eq_true
abbrev BJ:=@List.length_append
abbrev BK:=@Heap.lt_size
abbrev BL:=@decide_eq_false
abbrev BM:=@List.getElem?_map
abbrev BN:=@List.length_cons
abbrev BO:=@List.map_append
abbrev BP:=@Nat.le_trans
abbrev BQ:=@List.mem_cons_of_mem
abbrev BR:=@List.mem_append
abbrev BS:=@List.take_of_length_le
abbrev BU:=@Heap.get?_push_of_some
abbrev BV:=@List.getElem?_eq_getElem
abbrev BW:=@List.take_add_one
abbrev BX:=@of_decide_eq_true
abbrev BY:=@List.size_toArray
abbrev BZ:=@List.map_cons
abbrev Ca:=@Nat.ne_of_lt
abbrev Cb:=@List.mem_singleton
abbrev Cc:=@Int.eq_ofNat_of_zero_le
abbrev Cd:=@List.nodup_cons
abbrev Ce:=@Heap.get?_push_size
abbrev Cf:=@Bool.false_ne_true
abbrev Cg:=@Nat.zero_le
abbrev Ch:=@List.length_take
abbrev Ci:=@Nat.le_of_lt
abbrev Cj:=@List.mem_filter
abbrev Ck:=@wpAny_field
abbrev Cm:=@List.append_nil
abbrev Cn:=@List.map_map
abbrev Co:=@Bool.and_eq_true
abbrev Cp:=@List.append_assoc
abbrev Cq:=@Nat.lt_of_lt_of_le
abbrev Cr:=@List.mem_cons_self
abbrev Cs:=@List.getD_eq_getElem?_getD
abbrev Ct:=@wpAny_holding
abbrev Cu:=@Bool.eq_iff_iff
abbrev Cv:=@List.filter_cons
abbrev Cw:=@List.mem_flatMap
abbrev Cy:=@List.mem_append_right
abbrev Cz:=@List.lookup_cons
abbrev CA:=@List.filter_append
abbrev CB:=@List.length_drop
abbrev CC:=@List.nodup_nil
abbrev CD:=@List.all_eq_true
abbrev CF:=@wpAny_mono
abbrev CG:=@List.getElem?_of_mem
abbrev CH:=@List.mem_append_left
abbrev CI:=@List.nodup_append
abbrev CJ:=@Nat.lt_irrefl
abbrev CK:=@List.getElem_mem
abbrev CL:=@List.take_append_drop
abbrev CM:=@List.not_mem_nil
abbrev CN:=@List.find?_cons
abbrev CO:=@List.length_range
abbrev CP:=@List.length_filter_le
abbrev CQ:=@Array.length_toList
abbrev CS:=@Nat.ne_of_gt
abbrev CT:=@Option.isSome_iff_exists
abbrev CU:=@List.length_set
abbrev CV:=@wpAny_seqItems
abbrev CW:=@List.drop_eq_getElem_cons
abbrev CY:=@List.map_take
abbrev CZ:=@List.map_congr_left
abbrev Da:=@List.mem_filterMap
abbrev Db:=@List.getElem?_append_left
abbrev Dd:=@Int.toNat_natCast
abbrev De:=@List.any_cons
abbrev Df:=@List.length_nil
abbrev Dg:=@List.any_eq_true
abbrev Dh:=@List.forIn_cons
abbrev Di:=@Int.emod_nonneg
abbrev Dj:=@wpAny_setField_rec
abbrev Dk:=@List.getElem?_inj
abbrev Dl:=@List.take_zero
abbrev Dm:=@List.filter_nil
abbrev Do:=@Nat.le_of_ble_eq_true
abbrev Dp:=@wpAny_pyIter_tuple
abbrev Dq:=@List.getElem?_append_right
abbrev Dr:=@Heap.get?_update_self
abbrev Dt:=@Bool.false_eq_true
abbrev Du:=@List.drop_of_length_le
abbrev Dv:=@List.getElem?_drop
abbrev Dw:=@List.map_drop
abbrev Dx:=@Bool.true_and
abbrev Dy:=@wpAny_Call_Name_kw
abbrev Dz:=@Heap.get?_update_other
abbrev DA:=@Int.emod_lt_of_pos
abbrev DC:=@Array.getElem?_eq_some_iff
abbrev DD:=@List.flatMap_append
abbrev DE:=@List.length_pos_iff
abbrev DF:=@Heap.get?_none_of_le
abbrev DG:=@List.getElem?_set_ne
abbrev DH:=@List.getElem?_take_of_lt
abbrev DI:=@List.sublist_flatten_of_mem
abbrev DJ:=@List.getElem?_cons_succ
abbrev DK:=@List.exists_cons_of_ne_nil
abbrev DL:=@List.pairwise_append
abbrev DM:=@List.eraseIdx_eq_take_drop_succ
abbrev DN:=@List.exists_cons_of_length_eq_add_one
end
noncomputable section
set_option autoImplicit true
set_option Elab.async false
set_option linter.all false
set_option maxRecDepth 100000
namespace L2
open PySem PySem.Spec PyProof.Rows
abbrev _root_.LS:=List Str
abbrev _root_.LW:=List Value
abbrev Key:=Sum Int Str
def jj:Key->Value->Bool
 | .inl k,v=>Value.isInt k v
 | .inr x,v=>Value.isStrOf x v
def keyH (w:World):Key->Int
 | .inl k=>hashInt k
 | .inr x=>hashStr w x
theorem cr:∀ {k:Key}{v:Value},jj k v=true->(∃i t,k=Sum.inl i/\v=Value.int i t)∨(∃x t,k=Sum.inr x/\v=Value.str x t)
 | .inl i,v,h=>by
  obtain⟨t,e⟩:=Value.isInt_shape (k:=i) (v:=v) h;exact .inl ⟨i,t,rfl,e⟩
 | .inr x,v,h=>by
  obtain⟨t,e⟩:=Value.isStrOf_shape (x:=x) (v:=v) h;exact .inr ⟨x,t,rfl,e⟩
theorem sv (i:Int) (t:Tok):jj (.inl i) (.int i t)=true:=by simp[jj,Value.isInt]
theorem sk (x:Str) (t:Tok):jj (.inr x) (.str x t)=true:=by simp[jj,Value.isStrOf]
theorem zt (a b:Int):decide ((Sum.inl a:Key)=Sum.inl b)=(a==b):=by
 by_cases e:a=b
 ·subst e;simp
 ·have h:¬ (Sum.inl a:Key)=Sum.inl b:=λq=>e (Sum.inl.inj q);rw[BL h];exact(beq_eq_false_iff_ne.mpr e).symm
theorem zY (a b:Str):decide ((Sum.inr a:Key)=Sum.inr b)=decide (a=b):=by
 by_cases e:a=b
 ·subst e;simp
 ·have h:¬ (Sum.inr a:Key)=Sum.inr b:=λq=>e (Sum.inr.inj q);rw[BL h,BL e]
theorem zJ (a:Int) (b:Str):decide ((Sum.inl a:Key)=Sum.inr b)=false:=BL (λq=>nomatch q)
theorem AN (a:Str) (b:Int):decide ((Sum.inr a:Key)=Sum.inl b)=false:=BL (λq=>nomatch q)
def bF (prog:Program) (w:World):PySem.KeyKind prog w Key where
 is:=jj
 hash:=keyH w
 inj:=λv a b ha hb=>by
  rcases cr ha with⟨i,t,rfl,rfl⟩ | ⟨x,t,rfl,rfl⟩
  ·rcases cr hb with⟨j,u,rfl,e⟩ | ⟨y,u,rfl,e⟩
   ·injection e with e1 _;rw[e1]
   ·exact nomatch e
  ·rcases cr hb with⟨j,u,rfl,e⟩ | ⟨y,u,rfl,e⟩
   ·exact nomatch e
   ·injection e with e1 _;rw[e1]
 byValue:=λk v h=>by rcases cr h with⟨i,t,rfl,rfl⟩ | ⟨x,t,rfl,rfl⟩ <;> rfl
 pyHash:=λhv h=>by
  rcases cr hv with⟨i,t,rfl,rfl⟩ | ⟨x,t,rfl,rfl⟩
  ·exact wpAny_pyHash_int h
  ·exact wpAny_pyHash_str h
 eqBool:=λhu hv h=>by
  rcases cr hu with⟨i,t,rfl,rfl⟩ | ⟨x,t,rfl,rfl⟩
  ·rcases cr hv with⟨j,u,rfl,rfl⟩ | ⟨y,u,rfl,rfl⟩
   ·rw[zt] at h;exact wpAny_eqBool_int h
   ·rw[zJ] at h;exact SeqAt.EqAt.int_str i t y u _ _ _ _ h
  ·rcases cr hv with⟨j,u,rfl,rfl⟩ | ⟨y,u,rfl,rfl⟩
   ·rw[AN] at h;exact SeqAt.EqAt.str_int x t j u _ _ _ _ h
   ·rw[zY] at h;exact wpAny_eqBool_str h
 «strs»:=λk x t v h=>by
  rcases cr h with⟨i,u,rfl,e⟩ | ⟨y,u,rfl,e⟩
  ·exact nomatch e
  ·injection e with e1 _;subst e1;cases v <;> rfl
theorem pC (prog:Program) (w:World) (i:Int) (t:Tok):(bF prog w).is (.inl i) (.int i t)=true:=sv i t
theorem gZ (prog:Program) (w:World) (x:Str) (t:Tok):(bF prog w).is (.inr x) (.str x t)=true:=sk x t
inductive V where
 | non | bl (b:Bool) | int (i:Int) | str (x:Str) | byt (b:Array UInt8) | flt (b:UInt64) | ref (a:Addr) | ty (n:String)
 deriving DecidableEq
abbrev _root_.LV:=List V
def RelV:V->Value->Prop
 | .non,u=>u=Value.none
 | .bl b,u=>u=Value.bool b
 | .int i,u=>∃t,u=Value.int i t
 | .str x,u=>∃t,u=Value.str x t
 | .byt b,u=>∃t,u=Value.bytes b t
 | .flt b,u=>∃t,u=Value.float b t
 | .ref a,u=>u=Value.ref a
 | .ty n,u=>u=Value.type n
abbrev Vals:LV->LW->Prop:=Paired RelV
theorem Vals.length (r:Vals xs us):xs.length=us.length:=Paired.length r
theorem Vals.get:∀ {xs:LV}{us:LW}{i:Nat}{x:V},Vals xs us->xs[i]? = some x->∃u,us[i]? = some u/\RelV x u
 | _,_,_,_,.nil,e=>by simp at e
 | _,_,0,_,.cons r _,e=>by simp at e;subst e;exact⟨_,rfl,r⟩
 | _,_,i+1,x,.cons _ t,e=>by
  obtain⟨u,h1,h2⟩:=Vals.get (i:=i) (x:=x) t (by simpa using e);exact⟨u,by simpa using h1,h2⟩
theorem Vals.set (r:RelV x u):∀ {xs:LV}{us:LW}(i:Nat),Vals xs us->Vals (xs.set i x) (us.set i u)
 | _,_,_,.nil=>.nil
 | _,_,0,.cons _ t=>.cons r t
 | _,_,i+1,.cons q t=>.cons q (Vals.set r i t)
theorem Vals.append:∀ {xs ys:LV}{us ws:LW},Vals xs us->Vals ys ws->Vals (xs++ys) (us++ws)
 | _,_,_,_,.nil,s=>s
 | _,_,_,_,.cons r t,s=>.cons r (Vals.append t s)
theorem Vals.take:∀ {xs:LV}{us:LW}(n:Nat),Vals xs us->Vals (xs.take n) (us.take n)
 | _,_,0,_=>.nil
 | _,_,_+1,.nil=>.nil
 | _,_,n+1,.cons r t=>.cons r (Vals.take n t)
theorem Vals.drop:∀ {xs:LV}{us:LW}(n:Nat),Vals xs us->Vals (xs.drop n) (us.drop n)
 | _,_,0,r=>r
 | _,_,_+1,.nil=>.nil
 | _,_,n+1,.cons _ t=>Vals.drop n t
def RelO:Option V->Option Value->Prop
 | some v,some u=>RelV v u
 | none,none=>True
 | _,_=>False
def KV:List (κ × V)->List (κ × Value)->Prop:=Paired λ(p:κ × V) (q:κ × Value)=>p.1=q.1/\RelV p.2 q.2
def kV:Key->V
 | .inl i=>.int i
 | .inr x=>.str x
inductive HO where
    | lst (xs:LV)
    | tup (xs:LV)
    | dK (kvs:List (Key × V)) | dT (kvs:List (List Key × V))
    | set (S:Int->Bool) (n:Nat)
    | ins (C dx:Addr) (fs:List (Str × V))
    | own (x:Addr)
    | xd (fs:List (Str × V))
    | met (f x:Addr)
    | rng (lo hi:Int)
    | frz (o:Obj) (u:HO)
    | tbl (ps:Array Value)
    | ext (φ:Heap->Prop)
abbrev Hp:=Addr->Option HO
def upd (H:Hp) (a:Addr) (o:HO):Hp:=λb=>if b=a then some o else H b
theorem af:upd H a o a=some o:=by unfold upd;rw[if_pos rfl]
theorem ah (h:b≠a):upd H a o b=H b:=by unfold upd;rw[if_neg h]
theorem qS:upd (upd H a o) a u=upd H a u:=by
 funext b;unfold upd;split <;> rfl
theorem bK {H:Hp}{a b:Addr}{o u:HO}(h:H a=some o) (h':H b=some u) (d:o≠u):a≠b:=by
 intro e;subst e;rw[h] at h';exact d (BD h')
theorem ao {H:Hp}{a b:Addr}{o:HO}(h:H a=some o) (h':H b=none):a≠b:=by
 intro e;subst e;rw[h] at h';cases h'
def TupN (h:Heap) (a:Addr) (items:Array Value):Prop:=∃o,h.get? a=some o/\o.cls=.type "tuple"/\∃n,o.data=.seq items n/\o.dict=none
theorem TupN.tup (x:TupN h a items):IsTup h a items:=let ⟨o,e,c,n,d,_⟩:=x;⟨o,e,c,n,d⟩
theorem TupN.new (h:Heap) (items:Array Value):TupN (h.push { cls:=.type "tuple",data:=.seq items }) h.objs.size items:=⟨_,Ce _ rfl,rfl,_,rfl,rfl⟩
section
variable (P:Program) (w:World)
def ObjOk (H:Hp) (h:Heap) (a:Addr):HO -> Prop
 | .lst xs=>xs.length<=sizeLine/\∃(its:LW) (n:Nat),Vals xs its/\h.get? a=some { cls:=.type "list",data:=.seq its.toArray n }
 | .tup xs=>xs.length<=sizeLine/\∃its:LW,Vals xs its/\TupN h a its.toArray
 | .dK kvs=>kvs.length<=sizeLine/\(a==sysModules)=false/\∃vs,KV kvs vs/\h.DictOf (bF P w) a vs
 | .dT kvs=>kvs.length<=sizeLine/\(a==sysModules)=false/\∃xs:List (List Key × Addr × Value),
     Paired (λ(p:List Key × V) (q:List Key × Addr × Value)=>p.1=q.1/\H q.2.1=some (.tup (p.1.map kV))/\RelV p.2 q.2.2) kvs xs /\
     ∃o es ep,h.get? a=some o/\o.ExactDict/\o.data=.dict es ep/\es.toList=xs.map (entryOfKey (tupleKind (bF P w)))/\(xs.map (·.1)).Nodup
 | .set S n=>h.SetOf (intKind P w) a S n
 | .ins C dx fs=>H dx=some (.own a)/\fs.length<=1000/\dx≠a/\h.get? a=some (W.instObj C dx) /\
     ∃mA,h.Ns1 dx mA/\(∀f,RelO (fs.lookup f) (mA f))/\PySem.Within mA (fs.map (·.1))
 | .own _=>∃o,h.get? a=some o
 | .xd fs=>∃mA,h.Ns1 a mA/\∀f,RelO (fs.lookup f) (mA f)
 | .rng lo hi=>∃t u v,h.get? a=some { cls:=.type "range",data:=.fields #[.int lo t,.int hi u,.int 1 v] }
 | .frz o u=>h.get? a=some o/\ObjOk H h a u
 | .tbl ps=>h.get? a=some { cls:=.none,data:=.fields ps }
 | .met f x=>h.get? a=some (W.methodObj (.ref f) (.ref x))
 | .ext φ=>φ h/\(∃o,h.get? a=some o)/\∀h1 h2:Heap,φ h1->(∀o,h1.get? a=some o->h2.get? a=some o)->φ h2
def HOk (H:Hp) (h:Heap):Prop:=∀a o,H a=some o->ObjOk P w H h a o
end
section
variable {P:Program}{w:World}{H H':Hp}{h h':Heap}{a:Addr}{o:HO}
theorem ObjOk.lt (x:ObjOk P w H h a o):a<h.objs.size:=by
 cases o with
 | lst xs=>obtain⟨_,_,_,_,e⟩:=x;exact BK e
 | tup xs=>obtain⟨_,_,_,p⟩:=x;exact p.tup.lt
 | dK kvs=>obtain⟨_,_,_,_,o,_,_,e,_⟩:=x;exact BK e
 | dT kvs=>obtain⟨_,_,_,_,o,_,_,e,_⟩:=x;exact BK e
 | set S n=>obtain⟨o,_,_,_,e,_⟩:=x;exact BK e
 | ins C dx fs=>obtain⟨_,_,_,e,_⟩:=x;exact BK e
 | own y=>obtain⟨_,e⟩:=x;exact BK e
 | xd fs=>obtain⟨_,⟨_,_,_,e,_⟩,_⟩:=x;exact BK e
 | rng lo hi=>obtain⟨_,_,_,e⟩:=x;exact BK e
 | frz ob u=>obtain⟨e,_⟩:=x;exact BK e
 | tbl ps=>exact BK (show h.get? a=some _ from x)
 | met f y=>exact BK (show h.get? a=some _ from x)
 | ext φ=>obtain⟨_,⟨_,e⟩,_⟩:=x;exact BK e
theorem Paired.mapP:∀ {l₁:List α}{l₂:List β},Paired F l₁ l₂->(∀a b,F a b->G a b)->Paired G l₁ l₂
 | _,_,.nil,_=>.nil
 | _,_,.cons r t,f=>.cons (f _ _ r) (Paired.mapP t f)
theorem ObjOk.stay (x:ObjOk P w H h a o) (k:∀b u,(b=a∨H b=some (.own a))->h.get? b=some u->h'.get? b=some u)
    (E:∀b,H b=some (.own a)->H' b=some (.own a)) (F:∀b xs,H b=some (.tup xs)->H' b=some (.tup xs)):ObjOk P w H' h' a o:=by
 induction o with
 | lst xs=>obtain⟨z,l,n,r,e⟩:=x;exact⟨z,l,n,r,k _ _ (.inl rfl) e⟩
 | tup xs=>obtain⟨z,l,r,g,e,c⟩:=x;exact⟨z,l,r,g,k _ _ (.inl rfl) e,c⟩
 | dK kvs=>obtain⟨z,y,B,r,g,i,j,e,c⟩:=x;exact⟨z,y,B,r,g,i,j,k _ _ (.inl rfl) e,c⟩
 | dT kvs =>
  obtain⟨z,y,xs,r,g,i,j,e,c⟩:=x;exact⟨z,y,xs,Paired.mapP r λp q z=>⟨z.1,F _ _ z.2.1,z.2.2⟩,g,i,j,k _ _ (.inl rfl) e,c⟩
 | set S n=>obtain⟨g,i,j,t,e,c⟩:=x;exact⟨g,i,j,t,k _ _ (.inl rfl) e,c⟩
 | ins C dx fs =>
  obtain⟨d,z,D,e,s,⟨m,i,j,G,c⟩,r⟩:=x;exact⟨E _ d,z,D,k _ _ (.inl rfl) e,s,⟨m,i,j,k _ _ (.inr d) G,c⟩,r⟩
 | own y=>obtain⟨g,e⟩:=x;exact⟨g,k _ _ (.inl rfl) e⟩
 | xd fs=>obtain⟨s,⟨m,i,j,e,c⟩,r⟩:=x;exact⟨s,⟨m,i,j,k _ _ (.inl rfl) e,c⟩,r⟩
 | rng lo hi=>obtain⟨t,u,v,e⟩:=x;exact⟨t,u,v,k _ _ (.inl rfl) e⟩
 | frz g u ih=>obtain⟨e,q⟩:=x;exact⟨k _ _ (.inl rfl) e,ih q⟩
 | tbl ps =>
  have e:h.get? a=some { cls:=.none,data:=.fields ps }:=x;show h'.get? a=some { cls:=.none,data:=.fields ps };exact k a _ (.inl rfl) e
 | met f y =>
  have e:h.get? a=some (W.methodObj (.ref f) (.ref y)):=x;show h'.get? a=some (W.methodObj (.ref f) (.ref y));exact k a _ (.inl rfl) e
 | ext φ=>obtain⟨p,⟨o,e⟩,A⟩:=x;exact⟨A _ _ p λo q=>k _ _ (.inl rfl) q,⟨o,k _ _ (.inl rfl) e⟩,A⟩
theorem HOk.lt (x:HOk P w H h) (e:H a=some o):a<h.objs.size:=(x a o e).lt
theorem HOk.fresh (x:HOk P w H h) (e:h.objs.size<=a):H a=none:=by
 cases q:H a with
 | none=>rfl
 | some u=>exact absurd (Cq (x.lt q) e) (CJ _)
theorem HOk.kept (x:HOk P w H h) (k:∀b u,h.get? b=some u->h'.get? b=some u):HOk P w H h':=λa o e =>
 (x a o e).stay (λb u _ q=>k b u q) (λ_ q=>q) λ_ _ q=>q
theorem HOk.laid (x:HOk P w H h) (k:∀b u,h.get? b=some u->h'.get? b=some u) (i:h.objs.size<=a) (d:ObjOk P w (upd H a o) h' a o):HOk P w (upd H a o) h':=λb u e=>by
 have f:=x.fresh i;by_cases g:b=a
 ·subst g;rw[af] at e;cases e;exact d
 ·rw[ah g] at e;exact(x b u e).stay (λc v _ q=>k c v q) (λc q=>by rw[ah (ao q f)];exact q) λc j q=>by rw[ah (ao q f)];exact q
end
def Rd (H:Hp) (a:Addr) (u:HO):Prop:=H a=some u∨∃o,H a=some (.frz o u)
theorem Rd.ok (r:Rd H a u) (x:HOk P w H h):ObjOk P w H h a u:=by
 rcases r with r | ⟨o,r⟩
 ·exact x a u r
 ·obtain⟨_,q⟩:=x a _ r;exact q
def Mut:Option HO->Prop
 | some (.lst _)=>True
 | some (.dK _)=>True
 | some (.dT _)=>True
 | some (.set _ _)=>True
 | some (.ins _ _ _)=>True
 | some (.ext _)=>True
 | _=>False
section
variable {P:Program}{w:World}{H:Hp}{h h':Heap}{x e:Addr}{o':HO}
theorem HOk.write (p:HOk P w H h) (j:Mut (H x)) (he:e=x ∨ H e=some (.own x)) (k:∀b u, b ≠ e -> h.get? b=some u -> h'.get? b=some u) (n:∃u, h'.get? e=some u)
    (m:ObjOk P w (upd H x o') h' x o'):HOk P w (upd H x o') h':=λb u q=>by
 have d:∀c y,H c=some (.own y)->c≠x:=λc y r z=>by subst z;rw[r] at j;exact j
 have f:∀c l,H c=some (.tup l)->c≠x:=λc l r z=>by subst z;rw[r] at j;exact j
 by_cases i:b=x
 ·subst i;rw[af] at q;cases q;exact m
 ·rw[ah i] at q;by_cases a:b=e
  ·have o:H b=some (.own x):=by
      rcases he with z | z
      ·exact absurd (a.trans z) i
      ·rw[a];exact z
   rw[q] at o;cases o;obtain⟨v,s⟩:=n;exact⟨v,by rw[a];exact s⟩
  ·refine(p b u q).stay (λc v g r=>k c v ?_ r) (λc r=>by rw[ah (d c b r)];exact r) λc l r=>by rw[ah (f c l r)];exact r
   rcases g with rfl | g
   ·exact a
   ·rintro rfl;rcases he with z | z
    ·exact d c b g z
    ·rw[g] at z;cases z;exact i rfl
end
structure Un (fs ex:List Addr) (H H':Hp) (h h':Heap):Prop where
 keep:∀b o,h.get? b=some o->H b=none->b∉fs->b∉ex->h'.get? b=some o
 slot:∀b o,h.get? b=some o->H b=none->b∈fs->b∉ex->∃sl,h'.get? b=some { o with slots:=sl }
 free:∀b o,h.get? b=some o->H b=none->b∉ex->H' b=none
 there:∀b o,h.get? b=some o->b∉ex->∃o',h'.get? b=some o'
 tups:∀b xs,H b=some (.tup xs)->H' b=some (.tup xs)
 frzs:∀b o u,H b=some (.frz o u)->H' b=some (.frz o u)
 tbls:∀b ps,H b=some (.tbl ps)->∃more,H' b=some (.tbl (ps++more))
section
variable {fs fs' ex ex':List Addr}{H H1 H2:Hp}{h h1 h2 h':Heap}{a x e:Addr}{o:HO}
theorem Un.any (u:Un fs ex H H1 h h1) (q:h.get? b=some z) (n:H b=none) (a:b∉ex):∃sl,h1.get? b=some { z with slots:=sl }:=by
 by_cases c:b∈fs
 ·exact u.slot b z q n c a
 ·exact⟨z.slots,u.keep b z q n c a⟩
theorem Un.kept (k:∀b u,h.get? b=some u->h'.get? b=some u):Un fs ex H H h h' :=
 ⟨λb a q _ _ _=>k b a q,λb a q _ _ _=>⟨a.slots,k b a q⟩,λ_ _ _ n _=>n,λb a q _=>⟨a,k b a q⟩,λ_ _ q=>q,λ_ _ _ q=>q,λ_ c q=>⟨#[],by rw[q];simp⟩⟩
theorem Un.refl:Un fs ex H H h h:=Un.kept λ_ _ q=>q
theorem Un.laid (k:∀b u,h.get? b=some u->h'.get? b=some u) (hp:h.objs.size<=a) (hn:H a=none):Un fs ex H (upd H a o) h h' where
 keep:=λb u q _ _ _=>k b u q
 slot:=λb u q _ _ _=>⟨u.slots,k b u q⟩
 free:=λb u q n _=>by rw[ah (Ca (Cq (BK q) hp))];exact n
 there:=λb u q _=>⟨u,k b u q⟩
 tups:=λb xs q=>by rw[ah (ao q hn)];exact q
 frzs:=λb u xs q=>by rw[ah (ao q hn)];exact q
 tbls:=λb ps q=>⟨#[],by rw[ah (ao q hn),q];simp⟩
theorem Un.write (c:Mut (H x)) (he:e=x∨H e=some (.own x)) (k:∀b u,b≠e->h.get? b=some u->h'.get? b=some u) (f:∃u,h'.get? e=some u):Un fs ex H (upd H x o) h h':=by
 have i:∀b,H b=none->b≠x:=λb n z=>by subst z;rw[n] at c;exact c
 have g:∀b,H b=none->b≠e:=λb n z=>by
  subst z;rcases he with r | r
  ·exact i b n r
  ·rw[n] at r;cases r
 have d:∀b u,H b=some u->¬ Mut (some u)->b≠x:=λb u q j z=>by subst z;rw[q] at c;exact j c
 refine⟨λb u q n _ _=>k b u (g b n) q,λb u q n _ _=>⟨u.slots,k b u (g b n) q⟩,λb u q n _=>by rw[ah (i b n)];exact n,λb u q _=>?_,
  λb l q=>by rw[ah (d b _ q λz=>z)];exact q,λb u l q=>by rw[ah (d b _ q λz=>z)];exact q,λb m q=>⟨#[],by rw[ah (d b _ q λz=>z),q];simp⟩⟩
 by_cases a:b=e
 ·subst a;exact f
 ·exact⟨u,k b u a q⟩
end
def trk (h:Heap) (H:Hp):List Addr:=(List.range h.objs.size).filter λa=>(H a).isSome
def iz (h:Heap) (H:Hp):Heap:=W.hideAll h (trk h H)
theorem tK (h:Heap) (H:Hp):(iz h H).objs.size=h.objs.size:=W.hideAll_size _ _
theorem vL (e:h.get? b=some o) (n:H b=none):(iz h H).get? b=some o :=
 W.hideAll_get _ e λa=>by
  have q:(H b).isSome=true:=(Cj.mp a).2;rw[n] at q;simp at q
theorem yT (e:(iz h H).get? b=some o):h.get? b=some o/\H b=none:=by
 have a:h.get? b=some o:=W.of_hideAll (trk h H) e;refine⟨a,?_⟩;cases q:H b with
 | none=>rfl
 | some x =>
  have c:b∈trk h H:=Cj.mpr ⟨List.mem_range.mpr (BK a),by simp[q]⟩;have z:(iz h H).get? b=none:=W.hideAll_none (trk h H) c;rw[z] at e;cases e
def ym (g h:Heap) (L:Addr):List (Addr × Obj):=(List.range h.objs.size).filterMap λa=>if a=L∨(g.get? a).isSome=true then none else (h.get? a).map λo=>(a,o)
def rest (g h:Heap) (L d:Addr):List (Addr × Obj):=(ym g h L).filter λp=>decide (p.1≠d)
structure Mod (K:W.Frag) (mg:Str->Option Value) (base:Heap):Prop where
 kin:K.In base
 glob:base.Ns mainGlobals mg
 blt:∃mb,base.Ns builtinsNs mb/\∀x:Str,x≠"__name__"->mb x=bootBuiltins x
 nolimit:base.NoLimit
structure Cx where
 prog:Program
 w:World
 K:W.Frag
 mg:Str->Option Value
 base:Heap
 A:Around
 N:LS
 s₀:Shared
 H₀:Hp
 env:Env
 outer:List Env
 stack:List Env
 ex:List Addr
 fn:Str->Bool
 calm:Bool
 pn:List (Addr × Obj)
 xe:Value->Shared->Prop
def frs (l:List Env):List Addr:=l.filterMap (·.frame)
abbrev Cx.fs (X:Cx):List Addr:=frs X.outer
def Vis (sc:Scope) (x:Str):Prop:=sc.names.lookup x=some .local∨sc.names.lookup x=some .cell∨sc.names.lookup x=some .free
def Loc (sc:Scope) (x:Str):Prop:=sc.names.lookup x=some .local∨sc.names.lookup x=some .cell
def Look (env:Env) (h:Heap) (m:Str->Option Value) (x:Str) (u:Value):Prop :=
 (env.kindOf x=some .local/\m x=some u)∨((env.kindOf x=some .cell∨env.kindOf x=some .free)/\∃c,env.cells.lookup x=some c/\h.IsCell c (some u))
structure Cx.Ok (X:Cx):Prop where
 mod:Mod X.K X.mg X.base
 kind:X.env.scope.kind=.function
 glob:X.env.globals=mainGlobals
 blt:X.env.builtins=builtinsNs
 above:X.s₀.heap.objs.size<=X.env.locals
 inj:∀x y c,X.env.cells.lookup x=some c->X.env.cells.lookup y=some c->x=y
 has:∀x,(X.env.kindOf x=some .cell∨X.env.kindOf x=some .free)->∃c,X.env.cells.lookup x=some c
 cab:∀x c,X.fn x=true->X.env.cells.lookup x=some c->X.s₀.heap.objs.size<=c
 hd:X.calm=true->X.A.handled=none
 frames:X.A.frames=some X.stack
 stk:X.stack=X.outer∨(X.stack=X.env::X.outer/\X.env.frame=some X.env.locals)
 exf:∀b∈X.ex,b≠X.env.locals/\∀x c,X.env.cells.lookup x=some c->c≠b
 bs:∀b o,X.base.get? b=some o->X.s₀.heap.get? b=some o/\X.H₀ b=none
 bsz:X.base.objs.size<=X.s₀.heap.objs.size
 noex:∀b o,X.base.get? b=some o->b∉X.ex
 exfs:∀b∈X.ex,b∉X.fs
 funs:X.s₀.heap.FunFrames X.base X.outer
 frf:∀b∈X.fs,X.H₀ b=none
structure Inv (X:Cx) (pins:List (Addr × Obj)) (σ:List (Option V)) (H:Hp) (s:Shared):Prop where
 ok:X.Ok
 os:s.os=X.s₀.os
 bare:AllBare s.gens
 base:Un X.fs X.ex X.H₀ H X.s₀.heap s.heap
 loc:∃m,s.heap.Ns X.env.locals m/\∀(i:Nat) (x:Str) (v:V),X.N[i]? = some x->σ[i]? = some (some v)->Vis X.env.scope x->∃u,RelV v u/\Look X.env s.heap m x u
 cell:∀x c,X.env.cells.lookup x=some c->∃v,s.heap.IsCell c v
 free:H X.env.locals=none
 freeC:∀x c,X.env.cells.lookup x=some c->H c=none
 pin:∀p∈X.pn++pins,s.heap.get? p.1=some p.2/\H p.1=none/\p.1≠X.env.locals/\p.1∉X.fs/\∀v,p.2.data≠.cell v
 hok:HOk X.prog X.w H s.heap
 len:σ.length=X.N.length
section
variable {X:Cx}{pins:List (Addr × Obj)}{σ:List (Option V)}{H H':Hp}{s:Shared}{h':Heap}
theorem Cx.Ok.nofr (a:X.Ok) (e:X.base.get? b=some o):b∉X.fs:=λc=>by
 have:=(a.funs.mem c).1;rw[e] at this;cases this
theorem Inv.bs (I:Inv X pins σ H s):∀b o,X.base.get? b=some o->s.heap.get? b=some o/\H b=none:=λb o e =>
 ⟨I.base.keep b o (I.ok.bs b o e).1 (I.ok.bs b o e).2 (I.ok.nofr e) (I.ok.noex b o e),I.base.free b o (I.ok.bs b o e).1 (I.ok.bs b o e).2 (I.ok.noex b o e)⟩
theorem Inv.bk (I:Inv X pins σ H s):∀b o,X.base.get? b=some o->s.heap.get? b=some o:=λb o e=>(I.bs b o e).1
theorem Inv.mod (I:Inv X pins σ H s):Mod X.K X.mg X.base:=I.ok.mod
theorem Inv.kIn (I:Inv X pins σ H s):X.K.In s.heap:=I.ok.mod.kin.keeps I.bk
theorem Inv.lt (I:Inv X pins σ H s):X.env.locals<s.heap.objs.size:=let ⟨_,a,_⟩:=I.loc;a.lt
theorem Inv.sz (I:Inv X pins σ H s):X.s₀.heap.objs.size<=s.heap.objs.size:=BP I.ok.above (Ci I.lt)
theorem Inv.nofs (I:Inv X pins σ H s) (h:s.heap.objs.size<=a):a∉X.fs:=λc=>by
 obtain⟨_,o,b,_⟩:=I.ok.funs.mem c;exact absurd (Cq (BK b) (BP I.sz h)) (CJ _)
theorem Inv.cne (I:Inv X pins σ H s):∀x c,X.env.cells.lookup x=some c->c≠X.env.locals:=λx c e z=>by
 obtain⟨v,o,d,hd⟩:=I.cell x c e;obtain⟨m,⟨h,f,g,a,b,_⟩,_⟩:=I.loc;rw[z,a] at d;cases d;rw[b] at hd;cases hd
theorem Inv.funs (I:Inv X pins σ H s):s.heap.FunFrames X.base X.outer := by
 have c:∀(l:List Env),(∀b∈frs l,b∈X.fs)->X.s₀.heap.FunFrames X.base l->s.heap.FunFrames X.base l:=by
  intro l
  induction l with
  | nil=>intro _ _;trivial
  | cons env r ih =>
   intro g j;obtain⟨m,⟨L,o,a,i,h,hd⟩,k⟩:=j;have f:L∈X.fs:=g L (by unfold frs;rw[List.filterMap_cons,a];exact Cr);obtain⟨n,e⟩:=I.base.slot L o h (I.ok.frf L f) f λz=>I.ok.exfs L z f;exact⟨m,⟨L,_,a,i,e,hd⟩,ih (λb d=>g b (by unfold frs;rw[List.filterMap_cons,a];exact BQ _ d)) k⟩
 exact c X.outer (λ_ d=>d) I.ok.funs
theorem Inv.stack (I:Inv X pins σ H s):s.heap.FunFrames X.base X.stack:=by
 rcases I.ok.stk with e | ⟨e,a⟩
 ·rw[e];exact I.funs
 ·rw[e];obtain⟨m,b,_⟩:=I.loc;refine .cons (by rw[I.ok.kind];decide) a b ?_ I.funs;exact DF (BP I.ok.bsz I.ok.above)
theorem Inv.stkSub (I:Inv X pins σ H s):∀b∈frs X.stack,b∈X.env.locals::X.fs:=λb a=>by
 rcases I.ok.stk with e | ⟨e,c⟩
 ·rw[e] at a;exact BQ _ a
 ·rw[e] at a;unfold frs at a;rw[List.filterMap_cons,c] at a;exact a
theorem Inv.stkFree (I:Inv X pins σ H s):∀b∈frs X.stack,H b=none:=λb a=>by
 rcases BH.mp (I.stkSub b a) with e | a
 ·rw[e];exact I.free
 ·obtain⟨_,o,c,_⟩:=I.ok.funs.mem a;exact I.base.free b o c (I.ok.frf b a) λz=>I.ok.exfs b z a
theorem Inv.step {g':Array GenState}{t':Nat}{d':Drawn}{ch:List Addr}(I:Inv X pins σ H s)
    (g:∀b∈ch,(b∈X.ex∨X.s₀.heap.objs.size<=b)/\b≠X.env.locals/\(∀x c,X.env.cells.lookup x=some c->c≠b)/\∀p∈X.pn++pins,p.1≠b)
    (t:∀b o,b≠X.env.locals->b∉X.fs->b∉ch->s.heap.get? b=some o->H b=none->h'.get? b=some o)
    (A:∀b o,b≠X.env.locals->b∈X.fs->b∉ch->s.heap.get? b=some o->H b=none->∃sl,h'.get? b=some { o with slots:=sl }) (f:∀b o,b∉ch->s.heap.get? b=some o->H b=none->H' b=none)
    (B:∀b o,b∉ch->s.heap.get? b=some o->∃o',h'.get? b=some o')
    (E:∀b xs,H b=some (.tup xs)->H' b=some (.tup xs)) (J:∀b o u,H b=some (.frz o u)->H' b=some (.frz o u)) (F:∀b ps,H b=some (.tbl ps)->∃G,H' b=some (.tbl (ps++G)))
    (ns:∀m,s.heap.Ns X.env.locals m->h'.Ns X.env.locals m) (M:HOk X.prog X.w H' h') (W:AllBare g') :
    Inv X pins σ H' { s with heap:=h',gens:=g',drawn:=d',toks:=t' }:=by
 have K:∀b o,X.s₀.heap.get? b=some o->b≠X.env.locals:=λb o e=>Ca (Cq (BK e) I.ok.above);have w:∀b o,X.s₀.heap.get? b=some o->b∉X.ex->b∉ch:=λb o e a C=>by
  rcases (g b C).1 with z | z
  ·exact a z
  ·exact absurd (Cq (BK e) z) (CJ _)
 have h:∀x c,X.env.cells.lookup x=some c->∀v,s.heap.IsCell c v->h'.IsCell c v:=λx c e v ⟨o,D,hd⟩=>by
  have j:c∉ch:=λz=>(g c z).2.2.1 x c e rfl;by_cases P:c∈X.fs
  ·obtain⟨sl,q⟩:=A c o (I.cne x c e) P j D (I.freeC x c e);exact⟨_,q,hd⟩
  ·exact⟨o,t c o (I.cne x c e) P j D (I.freeC x c e),hd⟩
 refine⟨I.ok,I.os,W,⟨λb o e n C a=>?_,λb o e n C a=>?_,λb o e n a=>?_,λb o e a=>?_,λb xs e=>E b xs (I.base.tups b xs e),λb o xs e=>J b o xs (I.base.frzs b o xs e),λb ps e=>?_⟩,?_,λx c e=>?_,?_,λx c e=>?_,λp Q=>?_,M,I.len⟩
 ·exact t b o (K b o e) C (w b o e a) (I.base.keep b o e n C a) (I.base.free b o e n a)
 ·obtain⟨sl,y⟩:=I.base.slot b o e n C a;obtain⟨N,L⟩:=A b _ (K b o e) C (w b o e a) y (I.base.free b o e n a);exact⟨N,L⟩
 ·obtain⟨o',y⟩:=I.base.there b o e a;exact f b o' (w b o e a) y (I.base.free b o e n a)
 ·obtain⟨o',y⟩:=I.base.there b o e a;exact B b o' (w b o e a) y
 ·obtain⟨T,y⟩:=I.base.tbls b ps e;obtain⟨V,L⟩:=F b _ y;exact⟨T++V,by rw[L,Array.append_assoc]⟩
 ·obtain⟨m,S,U⟩:=I.loc;refine⟨m,ns m S,λi x v y L Y=>?_⟩;obtain⟨u,r,l⟩:=U i x v y L Y;refine⟨u,r,?_⟩;rcases l with l | ⟨k,c,e,z⟩
  ·exact .inl l
  ·exact .inr ⟨k,c,e,h x c e _ z⟩
 ·obtain⟨v,z⟩:=I.cell x c e;exact⟨v,h x c e v z⟩
 ·obtain⟨m,⟨o,_,_,D,_⟩,_⟩:=I.loc;exact f _ o (λz=>(g _ z).2.1 rfl) D I.free
 ·obtain⟨v,o,D,hd⟩:=I.cell x c e;exact f c o (λz=>(g c z).2.2.1 x c e rfl) D (I.freeC x c e)
 ·obtain⟨e,n,R,O,d⟩:=I.pin p Q;have j:p.1∉ch:=λz=>(g p.1 z).2.2.2 p Q rfl;exact⟨t p.1 p.2 R O j e n,f p.1 p.2 j e n,R,O,d⟩
theorem Inv.un {t':Nat}(I:Inv X pins σ H s) (u:Un X.fs [] H H' s.heap h') (f:HOk X.prog X.w H' h'):Inv X pins σ H' { s with heap:=h',toks:=t' }:=by
 obtain⟨m,⟨o,l,q,h,r⟩,_⟩:=id I.loc;obtain⟨v,j⟩:=u.any h I.free (by simp);exact I.step (g':=s.gens) (d':=s.drawn) (ch:=[]) (λ_ z=>nomatch z) (λb o _ g _ e n=>u.keep b o e n g (by simp)) (λb o _ g _ e n=>u.slot b o e n g (by simp)) (λb o _ e n=>u.free b o e n (by simp)) (λb o _ e=>u.there b o e (by simp)) u.tups u.frzs u.tbls (λp k=>by
  obtain⟨t,c,d,a,i⟩:=k;rw[h] at a;cases a;exact⟨_,c,d,j,i⟩) f I.bare
theorem Inv.call {g':Array GenState}{t':Nat}{d':Drawn}{ch:List Addr}(I:Inv X pins σ H s) (u:Un (frs X.stack) ch H H' s.heap h') (j:HOk X.prog X.w H' h') (q:AllBare g')
    (d:∀b∈ch,(b∈X.ex∨X.s₀.heap.objs.size<=b)/\b≠X.env.locals/\(∀x c,X.env.cells.lookup x=some c->c≠b)/\∀p∈X.pn++pins,p.1≠b) :
    Inv X pins σ H' { s with heap:=h',gens:=g',drawn:=d',toks:=t' }:=by
 obtain⟨m,⟨o,w,A,k,r⟩,_⟩:=id I.loc;obtain⟨C,h⟩:=u.any k I.free λz=>(d _ z).2.1 rfl;exact I.step (ch:=ch) d (λb o h v a e n=>u.keep b o e n (λz=>(BH.mp (I.stkSub b z)).elim h v) a) (λb o _ _ a e n=>u.any e n a) (λb o a e n=>u.free b o e n a) (λb o a e=>u.there b o e a) u.tups u.frzs u.tbls (λy t=>by
  obtain⟨B,g,i,f,l⟩:=t;rw[k] at f;cases f;exact⟨_,g,i,h,l⟩) j q
theorem Inv.turned {t':Nat}(I:Inv X pins σ H s) (k:∀b o,b≠it->s.heap.get? b=some o->h'.get? b=some o) (g:H it=none) (f:it≠X.env.locals)
    (y:it∈X.ex∨X.s₀.heap.objs.size<=it) (j:∀x c,X.env.cells.lookup x=some c->c≠it) (h:∀p∈X.pn++pins,p.1≠it):Inv X pins σ H { s with heap:=h',toks:=t' }:=by
 have d:∀b u,H b=some u->b≠it:=λb u e z=>by rw[z,g] at e;cases e
 refine I.step (g':=s.gens) (d':=s.drawn) (ch:=[it]) (λb A=>?_) (λb o _ _ a e _=>k b o (λz=>a (by simp[z])) e) (λb o _ _ a e _=>⟨o.slots,k b o (λz=>a (by simp[z])) e⟩) (λ_ _ _ _ n=>n)
  (λb o a e=>⟨o,k b o (λz=>a (by simp[z])) e⟩) (λ_ _ e=>e) (λ_ _ _ e=>e) (λb B e=>⟨#[],by rw[e];simp⟩) (λm w=>?_) (λb u e=>?_) I.bare
 ·have e:b=it:=by simpa using A
  subst e;exact⟨y,f,j,h⟩
 ·obtain⟨o,i,l,t,r⟩:=w;exact⟨o,i,l,k _ o (Ne.symm f) t,r⟩
 ·refine(I.hok b u e).stay (λc v a q=>k c v ?_ q) (λ_ q=>q) λ_ _ q=>q;rcases a with z | z
  ·rw[z];exact d b u e
  ·exact d c _ z
theorem Inv.tok (I:Inv X pins σ H s) (t:Nat):Inv X pins σ H { s with toks:=t }:=I.un (h':=s.heap) (t':=t) Un.refl I.hok
theorem Inv.kept (I:Inv X pins σ H s) (k:∀b u,s.heap.get? b=some u->h'.get? b=some u):Inv X pins σ H { s with heap:=h',toks:=t' }:=I.un (Un.kept k) (I.hok.kept k)
theorem Inv.laid (I:Inv X pins σ H s) (k:∀b u,s.heap.get? b=some u->h'.get? b=some u) (c:s.heap.objs.size<=a) (d:ObjOk X.prog X.w (upd H a o) h' a o) :
    Inv X pins σ (upd H a o) { s with heap:=h',toks:=t' }:=I.un (Un.laid k c (I.hok.fresh c)) (I.hok.laid k c d)
theorem Inv.write (I:Inv X pins σ H s) (d:Mut (H x)) (he:e=x∨H e=some (.own x)) (k:∀b u,b≠e->s.heap.get? b=some u->h'.get? b=some u) (a:∃u,h'.get? e=some u)
    (c:ObjOk X.prog X.w (upd H x o) h' x o):Inv X pins σ (upd H x o) { s with heap:=h',toks:=t' }:=I.un (Un.write d he k a) (I.hok.write d he k a c)
theorem Inv.pins_of (I:Inv X pins σ H s) (h:∀p∈pins',s.heap.get? p.1=some p.2/\H p.1=none/\p.1≠X.env.locals/\p.1∉X.fs/\∀v,p.2.data≠.cell v):Inv X pins' σ H s :=
 ⟨I.ok,I.os,I.bare,I.base,I.loc,I.cell,I.free,I.freeC,λp a=>(BR.mp a).elim (λz=>I.pin p (CH _ z)) (h p),I.hok,I.len⟩
theorem jS {N:LS}(c:N.Nodup) {i j:Nat}{x:Str}(a:N[i]? = some x) (b:N[j]? = some x):i=j:=by
 obtain⟨g,e⟩:=BF.mp a;obtain⟨f,d⟩:=BF.mp b;exact(List.getElem_inj c).mp (e.trans d.symm)
theorem md {M:Model}{i:Nat}{x:Str}{Q:Unit -> Shared -> Prop}(I:Inv X pins σ H s) (hN:X.N.Nodup) (R:X.N[i]? = some x) (w:Loc X.env.scope x) (r:RelV v u)
    (h:∀s',Inv X pins (σ.set i (some v)) H s'->(∃a,Heap.SameBut a s.heap s'.heap/\(a=X.env.locals∨X.env.cells.lookup x=some a))->Q () s') (hf:X.fn x=true∨X.env.scope.names.lookup x=some .local:=by first | exact .inl rfl | exact .inr rfl | assumption):wpAny M A (storeName X.env x u) Q E s:=by
 obtain⟨m,hn,hl⟩:=id I.loc;have T:(X.env.scope.kind==.class||(X.env.scope.kind==.module&&X.env.locals != X.env.globals))=false:=by rw[I.ok.kind];rfl
 have F:i<σ.length:=by rw[I.len];exact(BF.mp R).1
 have K:=I.cne;have g:∀ {a:Addr} {N:Heap},(∃o,s.heap.get? a=some o/\H a=none)->Heap.SameBut a s.heap N->HOk X.prog X.w H N:=λ{a N} ha f b ob e=>by
  obtain⟨_,_,B⟩:=ha;refine(I.hok b ob e).stay (λc Y t q=>(f.2 c ?_).trans q) (λ_ q=>q) λ_ _ q=>q;rintro rfl;rcases t with rfl | t
  ·rw[B] at e;cases e
  ·rw[B] at t;cases t
 rcases w with D | D
 ·refine wpAny_storeName_local D hn (λN a1 f => ?_) T;obtain⟨oL,_,_,a0,_⟩:=id hn;refine h _ ⟨I.ok,I.os,I.bare,⟨λb o e n J w=>?_,λb o e n J w=>?_,I.base.free,λb o e w=>?_,I.base.tups,I.base.frzs,I.base.tbls⟩,⟨_,a1,λj y v' l C e3=>?_⟩,λy c e=>?_,I.free,I.freeC,λp hp=>?_,g ⟨oL,a0,I.free⟩ f,by simpa using I.len⟩ ⟨_,f,.inl rfl⟩
  ·exact(f.2 b (Ca (Cq (BK e) I.ok.above))).trans (I.base.keep b o e n J w)
  ·obtain⟨sl,l⟩:=I.base.slot b o e n J w;exact⟨sl,(f.2 b (Ca (Cq (BK e) I.ok.above))).trans l⟩
  ·obtain⟨o',l⟩:=I.base.there b o e w;exact⟨o',(f.2 b (Ca (Cq (BK e) I.ok.above))).trans l⟩
  ·by_cases G:j=i
   ·subst G;rw[R] at l;cases l;rw[List.getElem?_set_self F] at C;cases C;exact⟨u,r,.inl ⟨D,by simp⟩⟩
   ·rw[DG (Ne.symm G)] at C;obtain⟨u',Z,q⟩:=hl j y v' l C e3;refine⟨u',Z,?_⟩;rcases q with⟨k,e⟩ | ⟨k,c,e,z⟩
    ·refine .inl ⟨k,?_⟩;have:y≠x:=λe=>G (jS hN l (e ▸ R));simp[this,e]
    ·exact .inr ⟨k,c,e,z.sameBut f (K y c e)⟩
  ·obtain⟨Y,z⟩:=I.cell y c e;exact⟨Y,z.sameBut f (K y c e)⟩
  ·obtain⟨e,n,W,nf,d⟩:=I.pin p hp;exact⟨(f.2 p.1 W).trans e,n,W,nf,d⟩
 ·have L:X.fn x=true := by
     rcases hf with z | z
     ·exact z
     ·rw[z] at D;cases D
  obtain⟨c,t⟩:=I.ok.has x (.inl D);obtain⟨Y,z⟩:=I.cell x c t;refine wpAny_storeName_cell I.ok.kind D t z (λN U f=>?_);obtain⟨oc,P,S⟩:=id z;refine h { s with heap:=N } ⟨I.ok,I.os,I.bare,⟨λb o e n J w=>?_,λb o e n J w=>?_,I.base.free,λb o e w=>?_,I.base.tups,I.base.frzs,I.base.tbls⟩,⟨m,hn.sameBut f (Ne.symm (K x c t)),λj y v' l C e3=>?_⟩,λy V e=>?_,I.free,I.freeC,λp hp=>?_,g ⟨oc,P,I.freeC x c t⟩ f,by simpa using I.len⟩ ⟨c,f,.inr t⟩
  ·exact(f.2 b (Ca (Cq (BK e) (I.ok.cab x c L t)))).trans (I.base.keep b o e n J w)
  ·obtain⟨sl,l⟩:=I.base.slot b o e n J w;exact⟨sl,(f.2 b (Ca (Cq (BK e) (I.ok.cab x c L t)))).trans l⟩
  ·obtain⟨o',l⟩:=I.base.there b o e w;exact⟨o',(f.2 b (Ca (Cq (BK e) (I.ok.cab x c L t)))).trans l⟩
  ·by_cases G:j=i
   ·subst G;rw[R] at l;cases l;rw[List.getElem?_set_self F] at C;cases C;exact⟨u,r,.inr ⟨.inl D,c,t,U⟩⟩
   ·rw[DG (Ne.symm G)] at C;obtain⟨u',Z,q⟩:=hl j y v' l C e3;refine⟨u',Z,?_⟩;rcases q with q | ⟨k,V,e,z'⟩
    ·exact .inl q
    ·refine .inr ⟨k,V,e,z'.sameBut f ?_⟩;rintro rfl;exact G (jS hN l (I.ok.inj _ _ _ e t ▸ R))
  ·by_cases O:V=c
   ·subst O;exact⟨_,U⟩
   ·obtain⟨w2,z2⟩:=I.cell y V e;exact⟨w2,z2.sameBut f O⟩
  ·obtain⟨e,n,W,nf,d⟩:=I.pin p hp;refine⟨(f.2 p.1 ?_).trans e,n,W,nf,d⟩;intro q;rw[q,P] at e;have q':oc=p.2:=BD e;exact d Y (by rw[<- q'];exact S)
theorem gO (I:Inv X pins σ H s) (d:X.N.Nodup) (e:X.N[i]? = some x) (b:Loc X.env.scope x) (r:RelV v u)
    (h:∀s',Inv X pins (σ.set i (some v)) H s'->Q () s') (a:X.fn x=true∨X.env.scope.names.lookup x=some .local:=by first | exact .inl rfl | exact .inr rfl | assumption):wpAny M A (storeName X.env x u) Q E s :=
 md I d e b r (λs' c _=>h s' c) a
theorem Inv.call' (I:Inv X pins σ H s) (g:s'.os=s.os) (u:Un (frs X.stack) ch H H' s.heap s'.heap) (d:HOk X.prog X.w H' s'.heap) (f:AllBare s'.gens)
    (a:∀b∈ch,(b∈X.ex∨X.s₀.heap.objs.size<=b)/\b≠X.env.locals/\(∀x c,X.env.cells.lookup x=some c->c≠b)/\∀p∈X.pn++pins,p.1≠b):Inv X pins σ H' s':=by
 obtain⟨i,g',d',t',h⟩:=s';have e:h=s.os:=g;subst e;exact I.call (g':=g') (t':=t') (d':=d') u d f a
end
abbrev XK:=Value->Option Addr->Hp->Prop
abbrev St:=List (Option V)
abbrev VK:=V->Hp->Prop
abbrev TE:=St->Hp->VK->Prop
abbrev TT:=St->Hp->(Bool->Hp->Prop)->Prop
abbrev TA:=St->Hp->(LV->Hp->Prop)->Prop
structure Ends where
 nx:St->Hp->Prop
 rt:VK
 bk:St->Hp->Prop:=λ_ _=>False
 ct:St->Hp->Prop:=λ_ _=>False
abbrev TS:=Ends->St->Hp->Prop
def EP (X:Cx) (pins:List (Addr × Obj)) (σ:St) (Q:VK) (u:Value) (s':Shared):Prop:=∃v H',Inv X pins σ H' s'/\RelV v u/\Q v H'
def TP (X:Cx) (pins:List (Addr × Obj)) (σ:St) (Q:Bool->Hp->Prop) (b:Bool) (s':Shared):Prop:=∃H',Inv X pins σ H' s'/\Q b H'
def AP (X:Cx) (pins:List (Addr × Obj)) (σ:St) (Q:LV->Hp->Prop) (us:LW) (s':Shared):Prop:=∃vs H',Inv X pins σ H' s'/\Vals vs us/\Q vs H'
def SP (X:Cx) (pins:List (Addr × Obj)) (D:Ends) (f:Flow) (s':Shared):Prop :=
 match f with
 | .next=>∃σ' H',Inv X pins σ' H' s'/\D.nx σ' H'
 | .brk=>∃σ' H',Inv X pins σ' H' s'/\D.bk σ' H'
 | .cont=>∃σ' H',Inv X pins σ' H' s'/\D.ct σ' H'
 | .ret u=>∃v σ' H',Inv X pins σ' H' s'/\RelV v u/\D.rt v H'
def PE (X:Cx) (e:Expr) (t:TE):Prop :=
 ∀(pins:List (Addr × Obj)) (s:Shared) (σ:St) (H:Hp) (Q:VK),Inv X pins σ H s->t σ H Q->wpAny (model X.prog X.w) X.A (eval e X.env) (EP X pins σ Q) X.xe s
def PT (X:Cx) (e:Expr) (t:TT):Prop :=
 ∀(pins:List (Addr × Obj)) (s:Shared) (σ:St) (H:Hp) (Q:Bool->Hp->Prop),Inv X pins σ H s->t σ H Q->wpAny (model X.prog X.w) X.A (isTrue e X.env (eval e X.env)) (TP X pins σ Q) X.xe s
def PW (X:Cx) (e:Expr) (t:TT):Prop :=
 ∀(whole:Sem Value) (pins:List (Addr × Obj)) (s:Shared) (σ:St) (H:Hp) (Q:Bool->Hp->Prop),Inv X pins σ H s->t σ H Q->wpAny (model X.prog X.w) X.A (isTrue e X.env whole) (TP X pins σ Q) X.xe s
theorem PW.pt (h:PW X e t):PT X e t:=h _
def PA (X:Cx) (es:List Expr) (t:TA):Prop :=
 ∀(pos:Pos) (pins:List (Addr × Obj)) (s:Shared) (σ:St) (H:Hp) (Q:LV->Hp->Prop),Inv X pins σ H s->t σ H Q->wpAny (model X.prog X.w) X.A (spliced (backTo pos (starEach es X.env))) (AP X pins σ Q) X.xe s
def PS (X:Cx) (st:Stmt) (t:TS):Prop :=
 ∀(pins:List (Addr × Obj)) (s:Shared) (σ:St) (H:Hp) (D:Ends),Inv X pins σ H s->t D σ H->wpAny (model X.prog X.w) X.A (exec st X.env) (SP X pins D) X.xe s
def PSs (X:Cx) (st:List Stmt) (t:TS):Prop :=
 ∀(pins:List (Addr × Obj)) (s:Shared) (σ:St) (H:Hp) (D:Ends),Inv X pins σ H s->t D σ H->wpAny (model X.prog X.w) X.A (execs st X.env) (SP X pins D) X.xe s
theorem thn (h:wpAny M A t Q E s) (b:∀a s,Q a s->z a s):wpAny M A t z E s:=CF h b λ_ _ x=>x
section
variable {X:Cx}
def zV (i:Nat):TE:=λσ H Q=>∃v,σ[i]? = some (some v)/\Q v H
def tC (v:V):TE:=λ_ H Q=>Q v H
theorem AC (t:X.N[i]? = some x) (p:Vis X.env.scope x) (hd:(x==("__debug__":Str))=false:=by decide) (g:(x==("__classdict__":Str))=false:=by decide):PE X (.Name x pos) (zV i):=by
 intro f s n H Q I h;obtain⟨v,e,h⟩:=h;obtain⟨m,k,o⟩:=I.loc;obtain⟨u,r,l⟩:=o i x v t e p;have b:EP X f n Q u s:=⟨v,H,I,r,h⟩
 rcases l with⟨d,q⟩ | ⟨d,c,j,a⟩
 ·exact wpAny_Name (wpAny_loadName_local I.ok.kind d k q b) hd
 ·rcases d with d | d
  ·exact wpAny_Name (wpAny_loadName_cell I.ok.kind d j a b) hd
  ·exact wpAny_Name (wpAny_loadName_free I.ok.kind d j a b g) hd
theorem ac {i j pos}:PE X (.Constant (.int i) j pos) (tC (.int i)):=λ_ _ _ H _ I h=>wpAny_Constant_int ⟨.int i,H,I.tok _,⟨_,rfl⟩,h⟩
theorem bN {b j pos}:PE X (.Constant (.bool b) j pos) (tC (.bl b)):=λ_ _ _ H _ I h=>Constant_bool ⟨.bl b,H,I,rfl,h⟩
theorem dY {j pos}:PE X (.Constant .none j pos) (tC .non):=λ_ _ _ H _ I h=>Constant_none ⟨.non,H,I,rfl,h⟩
theorem aw {x j pos}:PE X (.Constant (.str x) j pos) (tC (.str x)):=λ_ _ _ H _ I h=>Calls.Constant_str ⟨.str x,H,I.tok _,⟨_,rfl⟩,h⟩
def Gl (X:Cx) (x:Str):Prop:=X.env.kindOf x=some .globalImplicit
theorem fS (I:Inv X pins σ H s) (a:Gl X x) (b:X.mg x=some u) (h:Q u s)
    (hd:(x==("__debug__":Str))=false:=by decide):wpAny (model X.prog X.w) X.A (eval (.Name x pos) X.env) Q E s :=
 Calls.Name_function_global I.ok.kind a (Calls.loadGlobal_global (by rw[I.ok.glob];exact I.mod.glob.keeps I.bk) b h) hd
theorem gy (I:Inv X pins σ H s) (b:Gl X x) (d:X.mg x=none) (f:bootBuiltins x=some u) (h:Q u s)
    (c:x≠"__name__":=by decide) (hd:(x==("__debug__":Str))=false:=by decide):wpAny (model X.prog X.w) X.A (eval (.Name x pos) X.env) Q E s:=by
 obtain⟨g,e,a⟩:=I.mod.blt;exact Calls.Name_function_global I.ok.kind b (Calls.loadGlobal_builtin (by rw[I.ok.glob];exact I.mod.glob.keeps I.bk) d (by rw[I.ok.blt];exact e.keeps I.bk) ((a x c).trans f) h) hd
theorem eS (a:Gl X x) (b:X.mg x=some u) (r:RelV v u) (hd:(x==("__debug__":Str))=false:=by decide):PE X (.Name x pos) (tC v) :=
 λ_ _ _ H _ I h=>fS I a b ⟨v,H,I,r,h⟩ hd
theorem hF (a:Gl X x) (c:X.mg x=none) (d:bootBuiltins x=some u) (r:RelV v u) (b:x≠"__name__":=by decide) (hd:(x==("__debug__":Str))=false:=by decide):PE X (.Name x pos) (tC v) :=
 λ_ _ _ H _ I h=>gy I a c d ⟨v,H,I,r,h⟩ b hd
variable {a b:Expr}{ta tb:TE}{pos:Pos}
def tB (t:TE):TT:=λσ H Q=>t σ H λx H1=>∃c,x=.bl c/\Q c H1
theorem bI (h:PE X e t) (he:∀z,isTrue e X.env z=(do let v ← z;standAt e.pos;holding [v] (truthy v)):=by intro _;rfl):PT X e (tB t):=by
 intro a s i H Q I c;refine isTrue_plain (thn (h a s i H _ I c) λv k ⟨x,j,g,b,f⟩=>?_) (he _);obtain⟨d,rfl,q⟩:=f;cases b;exact wpAny_truthy_bool ⟨j,g,q⟩
variable {tA tB':TT}{rest:List Expr}
def tAnd (t u:TT):TT:=λσ H Q=>t σ H λc H1=>if c=true then u σ H1 Q else Q false H1
def tOr (t u:TT):TT:=λσ H Q=>t σ H λc H1=>if c=true then Q true H1 else u σ H1 Q
def tNot (t:TT):TT:=λσ H Q=>t σ H λc H1=>Q (!c) H1
theorem cA (f:PT X a tA):PW X (.BoolOp .And [a] pos) tA:=by
 intro i b s d H Q I h;refine isTrue_and (thn (f b s d H Q I h) λc g e=>?_);cases c with
 | true=>exact isTrue_and_nil e
 | false=>exact e
theorem cT (f:PT X a tA):PW X (.BoolOp .Or [a] pos) tA:=by
 intro i b s d H Q I h;refine isTrue_or (thn (f b s d H Q I h) λc g e=>?_);cases c with
 | false=>exact isTrue_or_nil e
 | true=>exact e
theorem cR (k:PT X a tA) (m:PW X (.BoolOp .And (b::rest) pos) tB'):PW X (.BoolOp .And (a::b::rest) pos) (tAnd tA tB'):=by
 intro l d s g H Q I h;refine isTrue_and (thn (k d s g H _ I h) λc j ⟨i,f,e⟩=>?_);cases c with
 | true=>exact m l d j g i Q f e
 | false=>exact⟨i,f,e⟩
theorem dt (k:PT X a tA) (m:PW X (.BoolOp .Or (b::rest) pos) tB'):PW X (.BoolOp .Or (a::b::rest) pos) (tOr tA tB'):=by
 intro l d s g H Q I h;refine isTrue_or (thn (k d s g H _ I h) λc j ⟨i,f,e⟩=>?_);cases c with
 | true=>exact⟨i,f,e⟩
 | false=>exact m l d j g i Q f e
theorem bH (e:PT X a tA):PT X (.UnaryOp .Not a pos) (tNot tA):=by
 intro b s d H Q I h;exact isTrue_not (e b s d H (λc f=>Q (!c) f) I h)
def AY (ta tb:TE):TE:=λσ H Q=>ta σ H λx H1=>∃c,x=.bl c/\if c=true then tb σ H1 Q else Q (.bl false) H1
theorem dZ {z}(h:PE X a t):PE X (.BoolOp z [a] pos) t:=λb s d H Q I c=>BoolOp_one (h b s d H Q I c)
theorem dh (l:PE X a ta) (m:PE X (.BoolOp .And (b::rest) pos) tb):PE X (.BoolOp .And (a::b::rest) pos) (AY ta tb):=by
 intro d s g H Q I h;refine BoolOp_and (thn (l d s g H _ I h) λv k ⟨x,i,f,j,e⟩=>?_);obtain⟨c,rfl,e⟩:=e;cases j;refine wpAny_truthy_bool ?_;cases c with
 | true=>exact m d k g i Q f e
 | false=>exact⟨.bl false,i,f,rfl,e⟩
end
def SqL (K:W.Frag) (H:Hp) (a:Addr) (xs:LV):Prop :=
 Rd H a (.lst xs) ∨
  ∃(o:Obj) (its:Array Value) (n:Nat),K.lookup a=some o/\o.cls=.type "list"/\o.dict=none/\o.data=.seq its n/\its.size<=sizeLine/\Vals xs its.toList
def SqT (K:W.Frag) (H:Hp) (a:Addr) (xs:LV):Prop :=
 Rd H a (.tup xs) ∨
  ∃(o:Obj) (its:Array Value) (n:Nat),K.lookup a=some o/\o.cls=.type "tuple"/\o.data=.seq its n/\its.size<=sizeLine/\Vals xs its.toList
def absV:Value->Option V
 | .none=>some .non
 | .bool b=>some (.bl b)
 | .int i _=>some (.int i)
 | .str x _=>some (.str x)
 | .bytes b _=>some (.byt b)
 | .float b _=>some (.flt b)
 | .ref a=>some (.ref a)
 | .type n=>some (.ty n)
 | _=>none
theorem RelV.abs (r:RelV x u):absV u=some x:=by
 cases x with
 | non=>cases r;rfl
 | bl _=>cases r;rfl
 | int _=>obtain⟨t,rfl⟩:=r;rfl
 | str _=>obtain⟨t,rfl⟩:=r;rfl
 | byt _=>obtain⟨t,rfl⟩:=r;rfl
 | flt _=>obtain⟨t,rfl⟩:=r;rfl
 | ref _=>cases r;rfl
 | ty _=>cases r;rfl
theorem RelV.inj (r:RelV x u) (q:RelV y u):x=y:=BD (r.abs.symm.trans q.abs)
theorem Vals.inj:∀ {xs ys:LV}{us:LW},Vals xs us->Vals ys us->xs=ys
 | _,_,_,.nil,.nil=>rfl
 | _,_,_,.cons r t,.cons r' t'=>by rw[r.inj r',Vals.inj t t']
section
variable {X:Cx}{pins:List (Addr × Obj)}{σ:St}{H:Hp}{s:Shared}{a:Addr}{xs ys:LV}
theorem SqL.of {K:W.Frag}(h:H a=some (.lst xs)):SqL K H a xs:=.inl (.inl h)
theorem SqT.of {K:W.Frag}(h:H a=some (.tup xs)):SqT K H a xs:=.inl (.inl h)
theorem Inv.list (I:Inv X pins σ H s) (h:SqL X.K H a xs):∃G:LW,Vals xs G/\PlainL s.heap a G.toArray/\xs.length<=sizeLine:=by
 rcases h with h | ⟨o,G,n,c,b,hd,d,f,r⟩
 ·obtain⟨z,G,n,r,e⟩:=h.ok I.hok;exact⟨G,r,⟨_,n,e,rfl,rfl,rfl⟩,z⟩
 ·refine⟨G.toList,r,⟨o,n,I.kIn a o c,b,hd,by simpa using d⟩,?_⟩;have e:=r.length;simp only[CQ] at e;omega
theorem Inv.tuple (I:Inv X pins σ H s) (h:SqT X.K H a xs):∃G:LW,Vals xs G/\IsTup s.heap a G.toArray/\xs.length<=sizeLine:=by
 rcases h with h | ⟨o,G,n,c,b,d,f,r⟩
 ·obtain⟨z,G,r,p⟩:=h.ok I.hok;exact⟨G,r,p.tup,z⟩
 ·refine⟨G.toList,r,⟨o,I.kIn a o c,b,n,by simpa using d⟩,?_⟩;have e:=r.length;simp only[CQ] at e;omega
theorem Inv.list_inj (I:Inv X pins σ H s) (h:SqL X.K H a xs) (h':SqL X.K H a ys):xs=ys:=by
 obtain⟨c,r,⟨o,n,e,_,_,d⟩,_⟩:=I.list h;obtain⟨b,i,⟨l,k,f,_,_,g⟩,_⟩:=I.list h';rw[e] at f;cases f;rw[d] at g;injection g with j _;have:c=b:=by simpa using congrArg Array.toList j
 subst this;exact r.inj i
theorem Inv.tuple_inj (I:Inv X pins σ H s) (h:SqT X.K H a xs) (h':SqT X.K H a ys):xs=ys:=by
 obtain⟨c,r,⟨o,e,_,n,d⟩,_⟩:=I.tuple h;obtain⟨b,i,⟨l,f,_,k,g⟩,_⟩:=I.tuple h';rw[e] at f;cases f;rw[d] at g;injection g with j _;have:c=b:=by simpa using congrArg Array.toList j
 subst this;exact r.inj i
end
abbrev Cx.wish (X:Cx) (E:Value->Shared->Prop):Cx:={ X with xe:=E }
abbrev Cx.nox (X:Cx):Cx:=X.wish λ_ _=>False
theorem Cx.Ok.wish {X:Cx}(a:X.Ok) (E:Value->Shared->Prop):(X.wish E).Ok :=
 ⟨a.mod,a.kind,a.glob,a.blt,a.above,a.inj,a.has,a.cab,a.hd,a.frames,a.stk,a.exf,a.bs,a.bsz,a.noex,a.exfs,a.funs,a.frf⟩
theorem Cx.Ok.unwish {X:Cx}{E:Value->Shared->Prop}(a:(X.wish E).Ok):X.Ok :=
 ⟨a.mod,a.kind,a.glob,a.blt,a.above,a.inj,a.has,a.cab,a.hd,a.frames,a.stk,a.exf,a.bs,a.bsz,a.noex,a.exfs,a.funs,a.frf⟩
section
variable {X:Cx}{pins:List (Addr × Obj)}{σ:St}{H:Hp}{s:Shared}{E:Value->Shared->Prop}
theorem Inv.wish (I:Inv X pins σ H s) (E:Value->Shared->Prop):Inv (X.wish E) pins σ H s:=⟨I.ok.wish E,I.os,I.bare,I.base,I.loc,I.cell,I.free,I.freeC,I.pin,I.hok,I.len⟩
theorem Inv.unwish (I:Inv (X.wish E) pins σ H s):Inv X pins σ H s:=⟨I.ok.unwish,I.os,I.bare,I.base,I.loc,I.cell,I.free,I.freeC,I.pin,I.hok,I.len⟩
theorem SP.unwish (h:SP (X.wish E) pins D f s'):SP X pins D f s':=by
 cases f with
 | next=>obtain⟨a,b,I,q⟩:=h;exact⟨a,b,I.unwish,q⟩
 | brk=>obtain⟨a,b,I,q⟩:=h;exact⟨a,b,I.unwish,q⟩
 | cont=>obtain⟨a,b,I,q⟩:=h;exact⟨a,b,I.unwish,q⟩
 | ret u=>obtain⟨v,a,b,I,r,q⟩:=h;exact⟨v,a,b,I.unwish,r,q⟩
theorem PSs.nox {st:List Stmt}{t:TS}(h:PSs X.nox st t):PSs X st t:=λa s c H D I b =>
 CF (h a s c H D (I.wish _) b) (λ_ _ q=>q.unwish) λ_ _ z=>False.elim z
end
section
variable {X:Cx}{st:Stmt}{rest:List Stmt}{t u:TS}{e:Expr}{te:TE}{pos:Pos}
def xh:TS:=λD σ H=>D.nx σ H
def vY (t u:TS):TS:=λD σ H=>t { D with nx:=u D } σ H
theorem aF:PSs X [] xh:=λ_ _ a H _ I h=>wpAny_execs_nil ⟨a,H,I,h⟩
theorem aa (j:PS X st t) (c:PSs X rest u):PSs X (st::rest) (vY t u):=by
 intro a s i H D I h;refine wpAny_execs_cons (thn (j a s i H { D with nx:=u D } I h) λf d q=>?_);cases f with
 | next =>
  obtain⟨b,e,g,q⟩:=q;exact c a d b e D g q
 | ret v=>exact q
 | brk=>exact q
 | cont=>exact q
theorem ae (c:PS X st t):PSs X [st] t:=by
 intro a s b H D I h;refine wpAny_execs_cons (thn (c a s b H D I h) λf d q=>?_);cases f with
 | next=>exact wpAny_execs_nil q
 | ret v=>exact q
 | brk=>exact q
 | cont=>exact q
theorem Inv.quiet (I:Inv X pins σ H s):interactive X.env=false:=by simp[interactive,I.ok.kind]
def Bp (te:TE):TS:=λD σ H=>te σ H λ_ H1=>D.nx σ H1
theorem bh (he:PE X e te) (g:swapsWith e none pos.line X.env=pure false:=by rfl):PS X (.Expr e pos) (Bp te):=by
 intro a s b H D I h;exact wpAny_Expr_any (thn (he a s b H _ I h) λv j ⟨x,f,d,i,c⟩=>⟨b,f,d,c⟩) I.quiet g
def tRet (te:TE):TS:=λD σ H=>te σ H D.rt
theorem ai (he:PE X e te):PS X (.Return (some e) pos) (tRet te):=by
 intro a s b H D I h;exact wpAny_Return_some (thn (he a s b H _ I h) λv i ⟨x,g,f,c,d⟩=>⟨x,b,g,f,c,d⟩)
def tIfS (c:TT) (t u:TS):TS:=λD σ H=>c σ H λb H1=>if b=true then t D σ H1 else u D σ H1
theorem aJ (l:PT X c tc) (m:PSs X a t) (n:PSs X b u):PS X (.If c a b pos) (tIfS tc t u):=by
 intro e s f H D I h;refine wpAny_If (thn (l e s f H _ I h) λd i ⟨k,j,g⟩=>?_);cases d with
 | true=>exact m e i f k D j g
 | false=>exact n e i f k D j g
end
abbrev TG:=V->St->Hp->(St->Hp->Prop)->Prop
abbrev TGs:=LV->St->Hp->(St->Hp->Prop)->Prop
def PG (X:Cx) (target:Expr) (t:TG):Prop :=
 ∀(pins:List (Addr × Obj)) (s:Shared) (σ:St) (H:Hp) (v:V) (u:Value) (Q:St->Hp->Prop),Inv X pins σ H s->RelV v u->t v σ H Q ->
  wpAny (model X.prog X.w) X.A (assign target X.env u) (λ_ s'=>∃σ' H',Inv X pins σ' H' s'/\Q σ' H') X.xe s
def PGs (X:Cx) (ts:List Expr) (t:TGs):Prop :=
 ∀(pins:List (Addr × Obj)) (s:Shared) (σ:St) (H:Hp) (vs:LV) (us:LW) (Q:St->Hp->Prop),Inv X pins σ H s->Vals vs us->t vs σ H Q ->
  wpAny (model X.prog X.w) X.A (assignInOrder ((assignEach ts X.env).map (·.2)) us) (λ_ s'=>∃σ' H',Inv X pins σ' H' s'/\Q σ' H') X.xe s
abbrev Ar:=V->V->V->Hp->(Hp->Prop)->Prop
def wZ (X:Cx) (t:Ar):Prop :=
 ∀(pins:List (Addr × Obj)) (s:Shared) (σ:St) (H:Hp) (o i v:V) (ov iv u:Value) (Q:Hp->Prop),Inv X pins σ H s->RelV o ov->RelV i iv->RelV v u->t o i v H Q ->
  wpAny (model X.prog X.w) X.A (setItem ov iv u) (λ_ s'=>∃H',Inv X pins σ H' s'/\Q H') X.xe s
section
variable {X:Cx}{pos:Pos}
def cF (i:Nat):TG:=λv σ H Q=>Q (σ.set i (some v)) H
theorem az (e:X.N.Nodup) (f:X.N[i]? = some x) (c:Loc X.env.scope x) (b:X.fn x=true∨X.env.scope.names.lookup x=some .local:=by first | exact .inl rfl | exact .inr rfl | assumption):PG X (.Name x pos) (cF i):=by
 intro a s j H v u Q I r h;exact wpAny_assign_Name (gO I e f c r (λg d=>⟨_,H,d,h⟩) b)
def Aw:TGs:=λvs σ H Q=>vs=[]/\Q σ H
def rP (t:TG) (u:TGs):TGs:=λvs σ H Q=>∃v r,vs=v::r/\t v σ H λσ' H'=>u r σ' H' Q
theorem cm:PGs X [] Aw:=by
 intro a s b H d c Q I r h;obtain⟨e,h⟩:=h;subst e;cases r;exact assignInOrder_nil ⟨b,H,I,h⟩
theorem aM (i:PG X e t) (d:PGs X es u)
    (j:(assignEach (e::es) X.env).map (·.2)=assign e X.env::(assignEach es X.env).map (·.2):=by rfl):PGs X (e::es) (rP t u):=by
 intro a s c H o n Q I r h;obtain⟨v,p,l,h⟩:=h;subst l;cases r with
 | cons r rr =>
  rw[j];refine assignInOrder_cons (thn (i a s c H _ _ _ I r h) λ_ f ⟨b,m,g,k⟩=>?_);exact d a f b m _ _ Q g rr k
def vx (K:W.Frag) (n:Nat) (t:TGs):TG:=λv σ H Q=>∃a xs,v=.ref a/\SqT K H a xs/\xs.length=n/\t xs σ H Q
theorem AA (p:X.calm=true) (h:PGs X es t)
    (l:(assignEach es X.env).length=n:=by rfl) (d:(assignEach es X.env).findIdx? (·.1)=none:=by rfl):PG X (.Tuple es k pos) (vx X.K n t):=by
 intro c s i H v u Q I r f;obtain⟨a,A,B,x,m,f⟩:=f;subst B;cases r;obtain⟨j,g,w,C⟩:=I.tuple x;refine assign_Tuple_tuple (I.ok.hd p) w (by simp[l,<- m,g.length]) d λq y=>?_;have z:Inv X c i H { s with heap:=q }:=I.kept (t':=s.toks) λb o e=>y b o (Ca (BK e)) e;exact h c _ i H A _ Q z (by simpa using g) f
def gSub (to ti:TE) (t:Ar):TG:=λv σ H Q=>to σ H λo H1=>ti σ H1 λi H2=>t o i v H2 λH3=>Q σ H3
theorem ce (k:PE X o to) (g:PE X i J) (m:wZ X t)
    (f:∀v,assign (.Subscript o i pos) X.env v=(do
     let z ← holding [v] (eval o X.env)
     let G ← holding [v,z] (eval i X.env)
     standAt pos
     holding [v,z,G] (setItem z G v)
     release [v,z,G] []):=by intro _;rfl):PG X (.Subscript o i pos) (gSub to J t):=by
 intro a s b H v u Q I r h;rw[f];refine Bz (Ct (thn (k a s b H _ I h) λz e ⟨x,B,l,p,q⟩=>?_));refine Bz (Ct (thn (g a e b B _ l q) λG C ⟨y,d,A,w,j⟩=>?_));refine Bz (wpAny_standAt (Bz (Ct (thn (m a C b d x y v z G u _ A p w r j) λ_ E ⟨n,D,c⟩=>?_))));exact wpAny_release ⟨b,n,D,c⟩
def rJ (te:TE) (g:TG):TS:=λD σ H=>te σ H λx H1=>g x σ H1 D.nx
theorem bU (he:PE X e te) (f:PG X tg g) (k:swapsWithSole [tg] e pos.line X.env=pure false:=by rfl) (d:swappedStores [tg] e X.env=pure none:=by rfl)
    (j:(assignEach [tg] X.env).map (·.2)=[assign tg X.env]:=by rfl):PS X (.Assign [tg] e pos) (rJ te g):=by
 intro a s b H D I h;refine wpAny_Assign_stores (thn (he a s b H _ I h) λv c ⟨x,n,i,l,m⟩=>?_) k d;rw[j];exact thn (f a c b n x v _ i l m) λ_ o q=>q
theorem cv (m:X.N.Nodup) (c:X.N[i]? = some x) (d:Loc X.env.scope x) (he:PE X e te) (g:swapsWith e (some (.Name x z)) pos.line X.env=pure false:=by rfl) (l:X.fn x=true∨X.env.scope.names.lookup x=some .local:=by first | exact .inl rfl | exact .inr rfl | assumption) :
    PS X (.Assign [.Name x z] e pos) (rJ te (cF i)):=by
 intro a s b H D I h;refine wpAny_Assign_Name (thn (he a s b H _ I h) λv p ⟨y,o,f,j,k⟩=>?_) g;exact gO f m c d j (λq n=>⟨_,o,n,k⟩) l
def tPar (i j:Nat) (ta:TA):TS:=λD σ H=>ta σ H λvs H1=>∃v w,vs=[v,w]/\D.nx ((σ.set i (some v)).set j (some w)) H1
theorem Ao {G k2 z}(M:X.calm=true) (B:X.N.Nodup) (P:X.N[i]? = some x) (E:X.N[j]? = some y) (k:i ≠ j)
    (u:X.env.scope.names.lookup x=some .local) (r:X.env.scope.names.lookup y=some .local) (N:PA X [a,b] ta)
    (Q:swappedStores [.Tuple [.Name x px,.Name y O] G J] (.Tuple [a,b] k2 z) X.env=pure (some [x,y]))
    (S:swapsWithSole [.Tuple [.Name x px,.Name y O] G J] (.Tuple [a,b] k2 z) pos.line X.env=pure false:=by rfl) :
    PS X (.Assign [.Tuple [.Name x px,.Name y O] G J] (.Tuple [a,b] k2 z) pos) (tPar i j ta):=by
 intro c s t H D I h;rw[exec_Assign_arm];refine Bz (wpAny_standAt ?_);rw[S];refine Bz (BC ?_);rw[if_neg (by decide)];refine Bz (Tuple_ (thn (N _ c s t H _ I h) λF d ⟨Y,C,R,T,n⟩=>?_));obtain⟨v,w,V,n⟩:=n;subst V;obtain⟨f, g, rfl, K, m⟩:∃f g, F=[f, g] /\ RelV v f /\ RelV w g := by
  cases T with
  | cons p q =>
   cases q with
   | cons p' q' =>
    cases q';exact⟨_,_,rfl,p,p'⟩
 refine wpAny_newObj_type ?_ (by show 2<=sizeLine;decide);have U:Inv X c t C { d with heap:=d.heap.push { cls:=.type "tuple",data:=.seq [f,g].toArray } }:=R.kept (t':=d.toks) λb o e=>BU _ e;rw[Q];refine Bz (BC ?_);show wpAny (model X.prog X.w) X.A (do rule "assign.swapped-stores";let items ← unpackItems (.ref d.heap.objs.size) 2 none;assignInOrder [λv=>bindName X.env y v,λv=>bindName X.env x v] items.reverse;pure Flow.next) _ _ _;refine Bz (wpAny_rule (Bz (unpackItems_tuple (items:=#[f,g]) (I.ok.hd M) (IsTup.new d.heap _) λh' l=>?_)));have W:=U.kept (h':=h') (t':=d.toks) λb o e=>l b o (Ca (BK e)) e;show wpAny _ _ (assignInOrder [λv=>bindName X.env y v,λv=>bindName X.env x v] [g,f] >>= λ_=>pure Flow.next) _ _ _;refine Bz (assignInOrder_cons (wpAny_bindName (gO W B E (.inl r) m (λs2 L=>?_) (.inr r))));refine assignInOrder_cons (wpAny_bindName (gO L B P (.inl u) K (λZ A=>assignInOrder_nil (BC ?_)) (.inr u)));rw[List.set_comm _ _ (Ne.symm k)] at A;exact⟨_,C,A,n⟩
end
section
variable {X:Cx}{pos:Pos}
def Ad (c:TT) (tb:TS):TS:=λD σ H=>∃W:Nat->St->Hp->Prop,(∃m,W m σ H)/\∀m σ H,W m σ H ->
 c σ H λb H1=>if b=true then ∃N:St->Hp->Prop,(∀σ' H',N σ' H'->∃m',m'<m/\W m' σ' H')/\tb { D with nx:=N,ct:=N,bk:=D.nx } σ H1 else D.nx σ H1
theorem gB (t:PassesOwn (model X.prog X.w) X.A X.env X.xe) (A:PT X c tc) (L:PSs X z tb):PS X (.While c z [] pos) (Ad tc tb) := by
 intro a s y H D I h;obtain⟨W,⟨J,F⟩,i⟩:=h;refine wpAny_While (codeAny_whileLoop (λn B=>∃σ' H',Inv X a σ' H' B/\W n σ' H') ?_ J ⟨y,H,I,F⟩);rintro n C ⟨e,r,G,E⟩;refine wpAny_passesOwn t (thn (A a C e r _ G (i n e r E)) λb K ⟨x,w,k⟩=>?_);cases b with
 | true =>
  obtain⟨N,u,k⟩:=k;rw[if_pos rfl];refine wpAny_passesOwn t (thn (L a K e x _ w k) λf M j=>?_);cases f with
  | next =>
   obtain⟨d,g,q,p⟩:=j;obtain⟨l,o,m⟩:=u d g p;exact⟨l,o,d,g,q,m⟩
  | cont =>
   obtain⟨d,g,q,p⟩:=j;obtain⟨l,o,m⟩:=u d g p;exact⟨l,o,d,g,q,m⟩
  | brk=>exact j
  | ret v=>exact j
 | false =>
  rw[if_neg Cf];exact wpAny_execs_nil ⟨e,x,w,k⟩
end
structure It where
 go:Nat->Hp->Prop
 yld:Nat->Hp->V->Hp->Prop
 stop:Nat->Hp->Prop
def fD (X:Cx) (pins:List (Addr × Obj)) (H:Hp) (b:Addr):Prop :=
 H b=none/\b≠X.env.locals/\b∉X.fs/\(b∈X.ex∨X.s₀.heap.objs.size<=b)/\(∀x c,X.env.cells.lookup x=some c->c≠b)/\∀p∈X.pn++pins,p.1≠b
theorem Inv.fpOk (I:Inv X pins σ H s) (a:s.heap.objs.size<=b) (f:H' b=none):fD X pins H' b:=by
 refine⟨f,CS (Cq I.lt a),I.nofs a,.inr (BP I.sz a),λx c e z=>?_,λp d z=>?_⟩
 ·obtain⟨v,q⟩:=I.cell x c e;exact absurd (Cq q.lt (by rw[z];exact a)) (CJ _)
 ·exact absurd (Cq (BK (I.pin p d).1) (by rw[z];exact a)) (CJ _)
structure Turn (P:Program) (w:World) (K:W.Frag) (tg:Expr) (J:It) (fp:List Addr) (it:Addr) (tn:Nat -> Heap -> Prop):Prop where
 mem:it∈fp
 obj:∀i h,tn i h->∀b∈fp,∃o,h.get? b=some o/\∀v,o.data≠.cell v
 keep:∀i h h',tn i h->(∀b∈fp,∀o,h.get? b=some o->h'.get? b=some o)->tn i h'
 item:∀(X:Cx),X.prog=P->X.w=w->X.K=K->X.calm=true->∀(i:Nat) (pins:List (Addr × Obj)) (s:Shared) (σ:St) (H:Hp) (E:Value->Shared->Prop),Inv X pins σ H s->(∀b∈fp,fD X pins H b)->tn i s.heap->J.go i H ->
  wpAny (model P w) X.A (pyNext (.ref it)) (λr s1=>∃u,r=some u /\
   wpAny (model P w) X.A (letOwnedTupleGo tg (.ref it) u) (λ_ s2=>∃x H',Inv X pins σ H' s2/\RelV x u/\J.yld i H x H'/\tn (i+1) s2.heap/\∀b∈fp,H' b=none) E s1) E s
 done:∀(X:Cx),X.prog=P->X.w=w->X.K=K->X.calm=true->∀(i:Nat) (pins:List (Addr × Obj)) (s:Shared) (σ:St) (H:Hp) (E:Value->Shared->Prop),Inv X pins σ H s->(∀b∈fp,fD X pins H b)->tn i s.heap->J.stop i H ->
  wpAny (model P w) X.A (pyNext (.ref it)) (λr s1=>r=none/\Inv X pins σ H s1) E s
 self:∀(A:Around) (i:Nat) (s:Shared) (Q:Value->Shared->Prop) (E:Value->Shared->Prop),tn i s.heap->Q (.ref it) s->wpAny (model P w) A (pyIter (.ref it)) Q E s
abbrev TI:=St->Hp->(It->Hp->Prop)->Prop
def PIE (X:Cx) (pins:List (Addr × Obj)) (σ:St) (tg:Expr) (R:It->Hp->Prop) (itv:Value) (s2:Shared):Prop :=
 ∃(it:Addr) (fp:List Addr) (tn:Nat->Heap->Prop) (J:It) (H':Hp),itv=.ref it/\Inv X pins σ H' s2/\Turn X.prog X.w X.K tg J fp it tn/\tn 0 s2.heap/\(∀b∈fp,fD X pins H' b)/\R J H'
def PI (X:Cx) (tg iter:Expr) (wi:TI):Prop :=
 ∀(pins:List (Addr × Obj)) (s:Shared) (σ:St) (H:Hp) (R:It->Hp->Prop),Inv X pins σ H s->wi σ H R ->
  wpAny (model X.prog X.w) X.A (eval iter X.env) (λv s1=>wpAny (model X.prog X.w) X.A (pyIter v) (PIE X pins σ tg R) X.xe s1) X.xe s
theorem mV (c:s.heap.get? it=some o) (b:o.cls=.type n) (hd:o.data=.fields z)
    (d:["enumerate","zip","dict_itemiterator","dict_reverseitemiterator","odict_iterator","itertools.zip_longest","itertools.pairwise"].contains n=false) (a:Q () s):wpAny M A (letOwnedTupleGo tg (.ref it) u) Q E s:=by
 unfold letOwnedTupleGo;cases tg <;> first
  | exact BC a
  | (cases u <;> first
      | exact BC a
      | (refine Bz (wpAny_load c ?_)
         rw[b,hd];show wpAny M A (if (["enumerate","zip","dict_itemiterator","dict_reverseitemiterator","odict_iterator","itertools.zip_longest","itertools.pairwise"].contains n&&z[0]?==some (rawInt _))=true then _ else _) Q E s;rw[if_neg (by intro h;rw[d,Bool.false_and] at h;cases h)];exact BC a))
def Itl (K:W.Frag) (a:Addr):It :=
 ⟨λi H=>∃xs x,SqL K H a xs/\xs[i]? = some x,λi H x H'=>H'=H/\∀xs,SqL K H a xs->xs[i]? = some x,λi H=>∃xs,SqL K H a xs/\xs.length<=i⟩
def Itt (K:W.Frag) (a:Addr):It :=
 ⟨λi H=>∃xs x,SqT K H a xs/\xs[i]? = some x,λi H x H'=>H'=H/\∀xs,SqT K H a xs->xs[i]? = some x,λi H=>∃xs,SqT K H a xs/\xs.length<=i⟩
def Itr (lo:Int) (n:Nat):It:=⟨λi _=>i<n,λi H x H'=>H'=H/\x=.int (lo+i),λi _=>n<=i⟩
theorem mH {P:Program}{w:World}{K:W.Frag}{tg:Expr}(a it:Addr):Turn P w K tg (Itl K a) [it] it (λi h=>h.IsListIter it a i) where
 mem:=by simp
 obj:=λi h st b hb=>by
  have e:b=it:=by simpa using hb
  subst e;obtain⟨o,e,c,d⟩:=st;exact⟨o,e,λv z=>by rw[d] at z;cases z⟩
 keep:=λi h h' st k=>st.at λo e=>k it (by simp) o e
 item:=by
  intro X hP hw hK hc i pins s σ H E I hf st hg;subst hP hw hK;obtain⟨xs,x,hq,hx⟩:=hg;obtain⟨its,rv,p,hz⟩:=I.list hq;obtain⟨u,hu,ru⟩:=rv.get hx;obtain⟨f0,f1,f2,f3,f4,f5⟩:=hf it (by simp);refine wpAny_pyNext_list_item st p.isList (x:=u) (by simpa using hu) λh' st' sb=>?_;have I1:Inv X pins σ H { s with heap:=h' }:=I.turned (t':=s.toks) (λb o hb e=>(sb.2 b hb).trans e) f0 f1 f3 f4 f5;obtain⟨o,e,c,d⟩:=id st';exact⟨u,rfl,mV (s:={ s with heap:=h' }) e c d (by decide) ⟨x,H,I1,ru,⟨rfl,λys hy=>by rw[I.list_inj hy hq];exact hx⟩,st',λb hb=>(hf b hb).1⟩⟩
 done:=by
  intro X hP hw hK hc i pins s σ H E I hf st hg;subst hP hw hK;obtain⟨xs,hq,hx⟩:=hg;obtain⟨its,rv,p,hz⟩:=I.list hq;obtain⟨f0,f1,f2,f3,f4,f5⟩:=hf it (by simp);have hl:=rv.length;exact wpAny_pyNext_list_end (I.ok.hd hc) st p.isList (by simp;omega) λh' eb=>⟨rfl,I.turned (t':=s.toks) (λb o hb e=>eb b o hb e) f0 f1 f3 f4 f5⟩
 self:=λ_ _ _ _ _ st h=>wpAny_pyIter_listiter st h
theorem iG {P:Program}{w:World}{K:W.Frag}{tg:Expr}(a it:Addr):Turn P w K tg (Itt K a) [it] it (λi h=>h.IsTupleIter it a i) where
 mem:=by simp
 obj:=λi h st b hb=>by
  have e:b=it:=by simpa using hb
  subst e;obtain⟨o,e,c,d⟩:=st;exact⟨o,e,λv z=>by rw[d] at z;cases z⟩
 keep:=λi h h' st k=>st.at λo e=>k it (by simp) o e
 item:=by
  intro X hP hw hK hc i pins s σ H E I hf st hg;subst hP hw hK;obtain⟨xs,x,hq,hx⟩:=hg;obtain⟨its,rv,p,hz⟩:=I.tuple hq;obtain⟨u,hu,ru⟩:=rv.get hx;obtain⟨f0,f1,f2,f3,f4,f5⟩:=hf it (by simp);refine wpAny_pyNext_tuple_item st (show s.heap.IsTuple a its.toArray from p) (x:=u) (by simpa using hu) λh' st' sb=>?_;have I1:Inv X pins σ H { s with heap:=h' }:=I.turned (t':=s.toks) (λb o hb e=>(sb.2 b hb).trans e) f0 f1 f3 f4 f5;obtain⟨o,e,c,d⟩:=id st';exact⟨u,rfl,mV (s:={ s with heap:=h' }) e c d (by decide) ⟨x,H,I1,ru,⟨rfl,λys hy=>by rw[I.tuple_inj hy hq];exact hx⟩,st',λb hb=>(hf b hb).1⟩⟩
 done:=by
  intro X hP hw hK hc i pins s σ H E I hf st hg;subst hP hw hK;obtain⟨xs,hq,hx⟩:=hg;obtain⟨its,rv,p,hz⟩:=I.tuple hq;obtain⟨f0,f1,f2,f3,f4,f5⟩:=hf it (by simp);have hl:=rv.length;exact wpAny_pyNext_tuple_end (I.ok.hd hc) st (show s.heap.IsTuple a its.toArray from p) (by simp;omega) λh' eb=>⟨rfl,I.turned (t':=s.toks) (λb o hb e=>eb b o hb e) f0 f1 f3 f4 f5⟩
 self:=λ_ _ _ _ _ st h=>wpAny_pyIter_tupleiter st h
theorem rg {P:Program}{w:World}{K:W.Frag}{tg:Expr}(it:Addr) (lo:Int) (n:Nat):Turn P w K tg (Itr lo n) [it] it (λi h => IsRangeIter h it (lo+(i:Nat) * 1) ((n:Int)-(i:Nat)) 1) where
 mem:=by simp
 obj:=λi h st b hb=>by
  have e:b=it:=by simpa using hb
  subst e;exact⟨_,st,λv z=>by
   have z':Data.fields _=Data.cell v:=z;cases z'⟩
 keep:=λi h h' st k=>k it (by simp) _ st
 item:=by
  intro X hP hw hK hc i pins s σ H E I hf st hg;subst hP hw hK;obtain⟨f0,f1,f2,f3,f4,f5⟩:=hf it (by simp);have W:=Walks.range (prog:=X.prog) (w:=X.w) (I.ok.hd hc) it lo 1 n;refine W.item i s _ _ hg st λv h' tk hv st' kk=>?_;obtain⟨t,rfl⟩:=hv;have I1:Inv X pins σ H { s with heap:=h',toks:=tk }:=I.turned (λb o hb e=>kk b o (by simpa using hb) e) f0 f1 f3 f4 f5;refine⟨_,rfl,mV (s:={ s with heap:=h',toks:=tk }) (n:="range_iterator") st' rfl rfl (by decide) ⟨.int (lo+i),H,I1,⟨t,?_⟩,⟨rfl,rfl⟩,st',λb hb=>(hf b hb).1⟩⟩;rw[Int.mul_one]
 done:=by
  intro X hP hw hK hc i pins s σ H E I hf st hg;subst hP hw hK;obtain⟨f0,f1,f2,f3,f4,f5⟩:=hf it (by simp);exact wpAny_pyNext_range_end (I.ok.hd hc) st (by have:n<=i:=hg;omega) λh' eb=>⟨rfl,I.turned (t':=s.toks) (λb o hb e=>eb b o hb e) f0 f1 f3 f4 f5⟩
 self:=λ_ _ _ _ _ st h=>wpAny_pyIter_rangeiter st h
section
variable {X:Cx}{tg:Expr}
def xv (K:W.Frag) (tl:TE):TI:=λσ H R=>tl σ H λx H1=>∃a,x=.ref a/\(∃xs,SqL K H1 a xs)/\R (Itl K a) H1
def Ap (K:W.Frag) (tl:TE):TI:=λσ H R=>tl σ H λx H1=>∃a,x=.ref a/\(∃xs,SqT K H1 a xs)/\R (Itt K a) H1
theorem yI {l:Expr}{tl:TE}(j:PE X l tl):PI X tg l (xv X.K tl):=by
 intro c s i H R I h;refine thn (j c s i H _ I h) λv d ⟨x,r,f,m,n⟩=>?_;obtain⟨a,e,⟨y,k⟩,q⟩:=n;subst e;cases m;obtain⟨g,u,p,w⟩:=f.list k;refine wpAny_pyIter_list p.isList ?_;refine⟨d.heap.objs.size,[d.heap.objs.size],_,_,r,rfl,f.kept (t':=d.toks) λb o e=>BU _ e,mH a _,⟨_,Ce _ rfl,rfl,rfl⟩,λb t=>?_,q⟩;have e:b=d.heap.objs.size:=by simpa using t
 subst e;exact f.fpOk (BB _) (f.hok.fresh (BB _))
theorem zy {l:Expr}{tl:TE}(j:PE X l tl):PI X tg l (Ap X.K tl):=by
 intro c s i H R I h;refine thn (j c s i H _ I h) λv d ⟨x,r,f,m,n⟩=>?_;obtain⟨a,e,⟨y,k⟩,q⟩:=n;subst e;cases m;obtain⟨g,u,p,w⟩:=f.tuple k;refine Dp (show d.heap.IsTuple a g.toArray from p) ?_;refine⟨d.heap.objs.size,[d.heap.objs.size],_,_,r,rfl,f.kept (t':=d.toks) λb o e=>BU _ e,iG a _,⟨_,Ce _ rfl,rfl,rfl⟩,λb t=>?_,q⟩;have e:b=d.heap.objs.size:=by simpa using t
 subst e;exact f.fpOk (BB _) (f.hok.fresh (BB _))
theorem vG {R:It->Hp->Prop}{lo hi:Int}{tk:Nat}(I:Inv X pins σ H s) (g:-(2 ^ 62)<=lo) (c:lo<2 ^ 62) (h:-(2 ^ 62)<=hi) (i:hi<2 ^ 62)
    (q:R (Itr lo (hi-lo).toNat) H):wpAny (model X.prog X.w) X.A (pyIter (.ref s.heap.objs.size)) (PIE X pins σ tg R) E { s with heap:=s.heap.push { cls:=.type "range",data:=.fields #[.int lo t,.int hi u,.int 1 v] },toks:=tk }:=by
 refine wpAny_pyIter_range (IsRange.new ..) (small_one g c h i) ?_;have a:Inv X pins σ H { s with heap:=s.heap.push { cls:=.type "range",data:=.fields #[.int lo t,.int hi u,.int 1 v] },toks:=tk }:=I.kept λb o e=>BU _ e;refine⟨(s.heap.push { cls:=.type "range",data:=.fields #[.int lo t,.int hi u,.int 1 v] }).objs.size,[(s.heap.push { cls:=.type "range",data:=.fields #[.int lo t,.int hi u,.int 1 v] }).objs.size],_,_,H,rfl,
  a.kept (t':=tk) λb o e=>BU _ e,rg _ lo (hi-lo).toNat,?_,λb j=>?_,q⟩
 ·have d:lo+((0:Nat):Int) * 1=lo:=by simp
  have f:(((hi-lo).toNat:Nat):Int)-((0:Nat):Int)=Builtin.Range.rangeSize lo hi 1:=by rw[rangeSize_one];split <;> omega
  show IsRangeIter _ _ (lo+((0:Nat):Int) * 1) ((((hi-lo).toNat:Nat):Int)-((0:Nat):Int)) 1;rw[d,f];exact Ce _ rfl
 ·have e:b=(s.heap.push { cls:=.type "range",data:=.fields #[.int lo t,.int hi u,.int 1 v] }).objs.size:=by simpa using j
  subst e;exact a.fpOk (BB _) (a.hok.fresh (BB _))
def Bh (ta:TA):TI:=λσ H R=>ta σ H λvs H1=>∃j:Int,vs=[.int j]/\-(2 ^ 62)<=j/\j<2 ^ 62/\R (Itr 0 j.toNat) H1
theorem cP (i:Gl X "range") (k:X.mg "range"=none) (f:PA X [a] ta) (m:starEach [a] X.env=[(false,eval a X.env)]:=by rfl):PI X tg (.Call (.Name "range" p) [a] [] pos) (Bh ta):=by
 intro b s d H R I h;refine Call_ (gy I i k boot_range (PyProof.Rows.callWith_type1 (thn (f pos b s d H _ I h) λo u ⟨v,w,l,n,c⟩=>?_) m rfl));obtain⟨j,e,c,g,q⟩:=c;subst e;cases n with
 | cons r rr =>
  cases rr;obtain⟨t,rfl⟩:=r;exact call_range_1 (vG l (by omega) (by omega) c g (by simpa using q))
def tFor (wi:TI) (g:TG) (tb:TS):TS:=λD σ H=>wi σ H λJ H1=>∃W:Nat->Nat->St->Hp->Prop,(∃m,W 0 m σ H1)/\∀i m σ H,W i m σ H ->
 (J.stop i H/\D.nx σ H)∨(J.go i H/\∃N:St->Hp->Prop,(∀σ' H',N σ' H'->∃m',m'<m/\W (i+1) m' σ' H')/\∀x H',J.yld i H x H'->g x σ H' λσ2 H2=>tb { D with nx:=N,ct:=N,bk:=D.nx } σ2 H2)
def jd (fp:List Addr) (h:Heap):List (Addr × Obj):=fp.filterMap λb=>(h.get? b).map λo=>(b,o)
theorem gq (a:b∈z) (e:h.get? b=some o):(b,o)∈jd z h:=Da.mpr ⟨b,a,by rw[e];rfl⟩
theorem uQ (c:p∈jd z h):p.1∈z/\h.get? p.1=some p.2:=by
 obtain⟨b,d,e⟩:=Da.mp c;cases q:h.get? b with
 | none=>rw[q] at e;cases e
 | some o =>
  rw[q] at e;have a:(b,o)=p:=BD e;subst a;exact⟨d,q⟩
theorem Inv.pinned (I:Inv X pins σ H s) (h:∀b∈G,fD X pins H b) (i:∀b∈G,∃o,s.heap.get? b=some o/\∀v,o.data≠.cell v):Inv X (pins++jd G s.heap) σ H s :=
 I.pins_of λp g=>(BR.mp g).elim (λz=>I.pin p (Cy _ z)) λz=>by
  obtain⟨c,e⟩:=uQ z;obtain⟨j,k,f,_⟩:=h p.1 c;obtain⟨o,a,d⟩:=i p.1 c;rw[e] at a;cases a;exact⟨e,j,k,f,d⟩
theorem Inv.unpinned (I:Inv X (pins++z) σ H s):Inv X pins σ H s:=I.pins_of λp a=>I.pin p (Cy _ (CH _ a))
theorem aZ (A:PassesOwn (model X.prog X.w) X.A X.env X.xe) (Y:X.calm=true) (hi:PI X tg iter wi) (hg:PG X tg g) (t:PSs X G tb)
    (hs:∀x,foldedSetIterable iter X.env x=pure x:=by intro _;rfl):PS X (.For tg iter G [] pos) (tFor wi g tb):=by
 intro a s σ H D I h;refine wpAny_For (thn (hi a s σ H _ I h) λv s1 h1=>thn h1 λa0 s2 h2=>?_) hs;obtain⟨it,C,tn,J,H2,e,I2,T,S,Z,W,⟨m0,w0⟩,E⟩:=h2;subst e;have l:∀ {H':Hp},(∀b∈C,H' b=none)->∀b∈C,fD X a H' b:=λhn b t=>⟨hn b t,(Z b t).2⟩
 refine codeAny_forLoop_any (λn V=>∃i σ' H',Inv X a σ' H' V/\tn i V.heap/\(∀b∈C,H' b=none)/\W i n σ' H') ?_ m0 ⟨0,σ,H2,I2,S,λb t=>(Z b t).1,w0⟩;rintro n s3 ⟨i,k,M,I3,B,z,w3⟩;rcases E i n k M w3 with⟨F,qn⟩ | ⟨go,N,hN,K⟩
 ·refine wpAny_passesOwn A (thn (T.done X rfl rfl rfl Y i a s3 k M X.xe I3 (l z) B F) λr s4 ⟨R,I4⟩=>?_);subst R;exact wpAny_execs_nil ⟨k,M,I4,qn⟩
 ·refine wpAny_passesOwn A (thn (T.item X rfl rfl rfl Y i a s3 k M X.xe I3 (l z) B go) λr s4 ⟨u,R,h4⟩=>?_);subst R;refine wpAny_passesOwn A (thn h4 λ_ s5 ⟨x,H5,I5,r5,y5,y,P⟩=>?_);have U:=I5.pinned (l P) (T.obj _ _ y);refine wpAny_passesOwn A (thn (hg _ s5 k H5 x u _ U r5 (K x H5 y5)) λ_ s6 ⟨Q,H6,I6,q6⟩=>?_);refine wpAny_passesOwn A (thn (t _ s6 Q H6 _ I6 q6) λf O w=>?_);have p:∀ {c:St} {q:Hp},Inv X (a++jd C s5.heap) c q O->N c q->∃m,m<n/\∃i σ' H',Inv X a σ' H' O/\tn i O.heap/\(∀b∈C,H' b=none)/\W i m σ' H':=λ{c q} j L=>by
   obtain⟨m',hm,w7⟩:=hN c q L;refine⟨m',hm,i+1,c,q,j.unpinned,T.keep _ _ _ y λb t o e=>(j.pin (b,o) (Cy _ (Cy _ (gq t e)))).1,λb t=>?_,w7⟩;obtain⟨o,e,d⟩:=T.obj _ _ y b t;exact(j.pin (b,o) (Cy _ (Cy _ (gq t e)))).2.1
  cases f with
  | next=>obtain⟨c,q,j,L⟩:=w;exact p j L
  | cont=>obtain⟨c,q,j,L⟩:=w;exact p j L
  | brk=>obtain⟨c,q,j,w⟩:=w;exact⟨c,q,j.unpinned,w⟩
  | ret v=>obtain⟨x7,c,q,j,r7,w⟩:=w;exact⟨x7,c,q,j.unpinned,r7,w⟩
end
theorem pi {K:W.Frag}{a:Addr}{xs:LV}{g:TG}{tb:TS}{D:Ends}{σ:St}{H:Hp}(Pv:Nat -> St -> Hp -> Prop) (d:Pv 0 σ H) (j:∀i σ H, i <= xs.length -> Pv i σ H -> SqL K H a xs)
    (c:∀i x σ H,xs[i]? = some x->Pv i σ H->g x σ H λσ2 H2=>tb { D with nx:=Pv (i+1),ct:=Pv (i+1),bk:=D.nx } σ2 H2) (hd:∀σ H,Pv xs.length σ H->D.nx σ H) :
    ∃W:Nat->Nat->St->Hp->Prop,(∃m,W 0 m σ H)/\∀i m σ H,W i m σ H ->
     ((Itl K a).stop i H/\D.nx σ H)∨((Itl K a).go i H/\∃N:St->Hp->Prop,(∀σ' H',N σ' H'->∃z,z<m/\W (i+1) z σ' H')/\∀x H',(Itl K a).yld i H x H'->g x σ H' λσ2 H2=>tb { D with nx:=N,ct:=N,bk:=D.nx } σ2 H2):=by
 refine⟨λi m σ H=>m=xs.length-i/\i<=xs.length/\Pv i σ H,⟨xs.length,by simp,Cg _,d⟩,?_⟩;rintro i m σ H ⟨rfl,h,p⟩;have q:=j i σ H h p;by_cases b:i<xs.length
 ·refine .inr ⟨⟨xs,xs[i],q,by simp[b]⟩,Pv (i+1),λσ' H' f=>⟨xs.length-(i+1),by omega,rfl,b,f⟩,λx H' y=>?_⟩;obtain⟨e,y⟩:=y;subst e;exact c i x σ _ (y xs q) p
 ·have e:i=xs.length:=by omega
  subst e;exact .inl ⟨⟨xs,q,BB _⟩,hd σ H p⟩
theorem qg {K:W.Frag}{a:Addr}{xs:LV}{g:TG}{tb:TS}{D:Ends}{σ:St}{H:Hp}(Pv:Nat -> St -> Hp -> Prop) (d:Pv 0 σ H) (j:∀i σ H, i <= xs.length -> Pv i σ H -> SqT K H a xs)
    (c:∀i x σ H,xs[i]? = some x->Pv i σ H->g x σ H λσ2 H2=>tb { D with nx:=Pv (i+1),ct:=Pv (i+1),bk:=D.nx } σ2 H2) (hd:∀σ H,Pv xs.length σ H->D.nx σ H) :
    ∃W:Nat->Nat->St->Hp->Prop,(∃m,W 0 m σ H)/\∀i m σ H,W i m σ H ->
     ((Itt K a).stop i H/\D.nx σ H)∨((Itt K a).go i H/\∃N:St->Hp->Prop,(∀σ' H',N σ' H'->∃z,z<m/\W (i+1) z σ' H')/\∀x H',(Itt K a).yld i H x H'->g x σ H' λσ2 H2=>tb { D with nx:=N,ct:=N,bk:=D.nx } σ2 H2):=by
 refine⟨λi m σ H=>m=xs.length-i/\i<=xs.length/\Pv i σ H,⟨xs.length,by simp,Cg _,d⟩,?_⟩;rintro i m σ H ⟨rfl,h,p⟩;have q:=j i σ H h p;by_cases b:i<xs.length
 ·refine .inr ⟨⟨xs,xs[i],q,by simp[b]⟩,Pv (i+1),λσ' H' f=>⟨xs.length-(i+1),by omega,rfl,b,f⟩,λx H' y=>?_⟩;obtain⟨e,y⟩:=y;subst e;exact c i x σ _ (y xs q) p
 ·have e:i=xs.length:=by omega
  subst e;exact .inl ⟨⟨xs,q,BB _⟩,hd σ H p⟩
theorem uE {lo:Int}{n:Nat}{g:TG}{tb:TS}{D:Ends}{σ:St}{H:Hp}(Pv:Nat -> St -> Hp -> Prop) (b:Pv 0 σ H)
    (d:∀i σ H,i<n->Pv i σ H->g (.int (lo+i)) σ H λσ2 H2=>tb { D with nx:=Pv (i+1),ct:=Pv (i+1),bk:=D.nx } σ2 H2) (hd:∀σ H,Pv n σ H->D.nx σ H) :
    ∃W:Nat->Nat->St->Hp->Prop,(∃m,W 0 m σ H)/\∀i m σ H,W i m σ H ->
     ((Itr lo n).stop i H/\D.nx σ H)∨((Itr lo n).go i H/\∃N:St->Hp->Prop,(∀σ' H',N σ' H'->∃z,z<m/\W (i+1) z σ' H')/\∀x H',(Itr lo n).yld i H x H'->g x σ H' λσ2 H2=>tb { D with nx:=N,ct:=N,bk:=D.nx } σ2 H2):=by
 refine⟨λi m σ H=>m=n-i/\i<=n/\Pv i σ H,⟨n,by simp,Cg _,b⟩,?_⟩;rintro i m σ H ⟨rfl,f,p⟩;by_cases a:i<n
 ·refine .inr ⟨a,Pv (i+1),λσ' H' c=>⟨n-(i+1),by omega,rfl,a,c⟩,λx H' y=>?_⟩;obtain⟨e,y⟩:=y;subst e y;exact d i σ _ a p
 ·have e:i=n:=by omega
  subst e;exact .inl ⟨BB _,hd σ H p⟩
abbrev R2:=V->V->Hp->VK->Prop
def OpR (X:Cx) (f:Value->Value->Sem Value) (r:R2):Prop :=
 ∀(pins:List (Addr × Obj)) (s:Shared) (σ:St) (H:Hp) (x y:V) (v u:Value) (Q:VK),Inv X pins σ H s->RelV x v->RelV y u->r x y H Q ->
  wpAny (model X.prog X.w) X.A (f v u) (EP X pins σ Q) X.xe s
def UnR (X:Cx) (f:Value->Sem Value) (r:V->Hp->VK->Prop):Prop :=
 ∀(pins:List (Addr × Obj)) (s:Shared) (σ:St) (H:Hp) (x:V) (v:Value) (Q:VK),Inv X pins σ H s->RelV x v->r x H Q ->
  wpAny (model X.prog X.w) X.A (f v) (EP X pins σ Q) X.xe s
def dJ (X:Cx) (f:Value) (r:LV->Hp->VK->Prop):Prop :=
 ∀(pins:List (Addr × Obj)) (s:Shared) (σ:St) (H:Hp) (xs:LV) (us:LW) (Q:VK),Inv X pins σ H s->Vals xs us->r xs H Q ->
  wpAny (model X.prog X.w) X.A (call f us) (EP X pins σ Q) X.xe s
def tOp (r:R2) (ta tb:TE):TE:=λσ H Q=>ta σ H λx H1=>tb σ H1 λy H2=>r x y H2 Q
def tUn (r:V->Hp->VK->Prop) (ta:TE):TE:=λσ H Q=>ta σ H λx H1=>r x H1 Q
def rI (C:Int->Int->Prop) (g:Int->Int->V):R2:=λx y H Q=>∃i j,x=.int i/\y=.int j/\C i j/\Q (g i j) H
def rI0 (g:Int->Int->V):R2:=λx y H Q=>∃i j,x=.int i/\y=.int j/\Q (g i j) H
def rU (g:Int->V):V->Hp->VK->Prop:=λx H Q=>∃i,x=.int i/\Q (g i) H
section
variable {X:Cx}{a b c:Expr}{ta tb tc:TE}{pos:Pos}
theorem vM (l:PE X a ta) (n:PE X b tb) {R:V->V->Hp->Prop}(I:Inv X pins σ H s)
    (h:ta σ H λx H1=>tb σ H1 λy H2=>R x y H2) {f:Value->Value->Sem Value}
    (e:∀v u J x y H2,Inv X pins σ H2 J->RelV x v->RelV y u->R x y H2->wpAny (model X.prog X.w) X.A (f v u) Q X.xe J) :
    wpAny (model X.prog X.w) X.A (eval a X.env) (λv G=>wpAny (model X.prog X.w) X.A (eval b X.env) (λu z=>wpAny (model X.prog X.w) X.A (f v u) Q X.xe z) X.xe G) X.xe s:=by
 refine thn (l pins s σ H _ I h) λv g ⟨x,H1,j,c,d⟩=>?_;refine thn (n pins g σ H1 _ j d) λu J ⟨y,H2,k,i,m⟩=>?_;exact e v u J x y H2 k c i m
theorem aH {z:Operator}{r:R2}(i:OpR X (binaryOp z) r) (f:PE X a ta) (m:PE X b tb):PE X (.BinOp a z b pos) (tOp r ta tb):=by
 intro c s d H Q I h;exact wpAny_BinOp (vM f m I h λv u l x y k j e g q=>i c l d k x y v u Q j e g q)
theorem gn (f:UnR X (unaryOp z) r) (j:PE X a ta):PE X (.UnaryOp z a pos) (tUn r ta):=by
 intro b s c H Q I h;exact UnaryOp_ (thn (j b s c H _ I h) λv g ⟨x,k,i,d,e⟩=>f b g c k x v Q i d e)
theorem opI {f:Value->Value->Sem Value}{C:Int->Int->Prop}{g:Int->Int->Int}
    (a:∀(i j:Int) (t u:Tok) (s:Shared) (Q:Value->Shared->Prop) (E:Value->Shared->Prop),C i j->Q (.int (g i j) s.toks) { s with toks:=s.toks+1 }->wpAny (model X.prog X.w) X.A (f (.int i t) (.int j u)) Q E s) :
    OpR X f (rI C λi j=>.int (g i j)):=by
 intro b s l H x y v u Q I c d h;obtain⟨i,j,rfl,rfl,k,q⟩:=h;obtain⟨t,rfl⟩:=c;obtain⟨e,rfl⟩:=d;exact a i j t e s _ _ k ⟨.int (g i j),H,I.tok _,⟨_,rfl⟩,q⟩
theorem AI {f:Value->Value->Sem Value}{g:Int->Int->Int}
    (a:∀(i j:Int) (t u:Tok) (s:Shared) (Q:Value->Shared->Prop) (E:Value->Shared->Prop),Q (.int (g i j) s.toks) { s with toks:=s.toks+1 }->wpAny (model X.prog X.w) X.A (f (.int i t) (.int j u)) Q E s) :
    OpR X f (rI0 λi j=>.int (g i j)):=by
 intro b s k H x y v u Q I c d h;obtain⟨i,j,rfl,rfl,q⟩:=h;obtain⟨t,rfl⟩:=c;obtain⟨e,rfl⟩:=d;exact a i j t e s _ _ ⟨.int (g i j),H,I.tok _,⟨_,rfl⟩,q⟩
theorem rG {f:Value->Value->Sem Value}{g:Int->Int->Bool}
    (a:∀(i j:Int) (t u:Tok) (s:Shared) (Q:Value->Shared->Prop) (E:Value->Shared->Prop),Q (.bool (g i j)) s->wpAny (model X.prog X.w) X.A (f (.int i t) (.int j u)) Q E s) :
    OpR X f (rI0 λi j=>.bl (g i j)):=by
 intro b s k H x y v u Q I c d h;obtain⟨i,j,rfl,rfl,q⟩:=h;obtain⟨t,rfl⟩:=c;obtain⟨e,rfl⟩:=d;exact a i j t e s _ _ ⟨.bl (g i j),H,I,rfl,q⟩
def CDiv (i j:Int):Prop:=0<j/\j<1073741824
def CPow (i j:Int):Prop:=0<=j/\j<=1000000/\i.natAbs<2 ^ 64
def CMul (i j:Int):Prop:=(-(2 ^ 64)<i/\i<2 ^ 64)∨(-(2 ^ 64)<j/\j<2 ^ 64)
theorem CMul.ok (h:CMul i j):IntMulOk i j:=by
 rcases h with⟨b,a⟩ | ⟨b,a⟩
 ·exact .of_left (intBits_le_64 b a)
 ·exact .of_right (intBits_le_64 b a)
theorem zn:OpR X (binaryOp .Add) (rI0 λi j=>.int (i+j)):=AI λ_ _ _ _ _ _ _ q=>add_int q
theorem nM:OpR X (binaryOp .Sub) (rI0 λi j=>.int (i-j)):=AI λ_ _ _ _ _ _ _ q=>sub_int q
theorem gE:OpR X (binaryOp .Mult) (rI CMul λi j=>.int (i * j)):=opI λ_ _ _ _ _ _ _ a q=>mul_int q a.ok
theorem jf:OpR X (binaryOp .FloorDiv) (rI CDiv λi j=>.int (i / j)):=opI λi j _ _ _ _ _ a q=>by
 have c:(0:Int)<j:=a.1;have b:j<1073741824:=a.2;exact floordiv_int (by omega) (by rw[Int.fdiv_eq_ediv_of_nonneg i (by omega)];exact q) (.inl (PyProof.noPylong_small (by omega)))
theorem dC:OpR X (binaryOp .Mod) (rI (λ_ j=>0<j) λi j=>.int (i % j)):=opI λi j _ _ _ _ _ a q=>by
 have b:(0:Int)<j:=a;exact mod_int' (by omega) (by rw[Int.fmod_eq_emod_of_nonneg i (by omega)];exact q)
theorem Aa:OpR X (binaryOp .Pow) (rI CPow λi j=>.int (i ^ j.toNat)):=opI λ_ _ _ _ _ _ _ a q=>pow_int_small a.1 a.2.1 a.2.2 q
theorem unI {f:Value->Sem Value}{g:Int->Int}
    (a:∀(i:Int) (t:Tok) (s:Shared) (Q:Value->Shared->Prop) (E:Value->Shared->Prop),Q (.int (g i) s.toks) { s with toks:=s.toks+1 }->wpAny (model X.prog X.w) X.A (f (.int i t)) Q E s) :
    UnR X f (rU λi=>.int (g i)):=by
 intro b s d H x v Q I c h;obtain⟨i,rfl,q⟩:=h;obtain⟨t,rfl⟩:=c;exact a i t s _ _ ⟨.int (g i),H,I.tok _,⟨_,rfl⟩,q⟩
theorem fG:UnR X (unaryOp .USub) (rU λi=>.int (-i)):=unI λ_ _ _ _ _ q=>neg_int q
end
def wo:V->V->Bool
 | .non,.non=>true | .non,.int _=>true | .int _,.non=>true | .non,.bl _=>true | .bl _,.non=>true | .non,.str _=>true | .str _,.non=>true
 | .int _,.int _=>true | .bl _,.bl _=>true | .str _,.str _=>true | .byt _,.byt _=>true
 | .int _,.str _=>true | .str _,.int _=>true | .bl _,.str _=>true | .str _,.bl _=>true
 | _,_=>false
def rEq:R2:=λx y H Q=>wo x y=true/\Q (.bl (decide (x=y))) H
def rNe:R2:=λx y H Q=>wo x y=true/\Q (.bl (!decide (x=y))) H
theorem qB:decide (V.int i=V.int j)=(i==j):=by
 rw[Cu];simp
theorem sy:decide (V.bl i=V.bl j)=(i==j):=by
 rw[Cu];simp
theorem qu:decide (V.str i=V.str j)=(i==j):=by
 rw[Cu];simp
theorem qb:decide (V.byt i=V.byt j)=(i.toList==j.toList):=by
 rw[Cu];cases i;cases j;simp
section
variable {X:Cx}{a b c:Expr}{ta tb tc:TE}{pos:Pos}
theorem aU (I:Inv X pins σ H s) (q:Q (.bl k) H) (e:k=z):EP X pins σ Q (.bool z) s:=by
 subst e;exact⟨.bl k,H,I,rfl,q⟩
theorem Bm:OpR X (compareOp .Eq) rEq:=by
 intro e s f H x y v u Q I d a h;obtain⟨c,q⟩:=h;cases x with
 | non =>
  cases d;cases y with
  | non=>cases a;exact PySem.EqNone.eq_none_none (aU I q (by simp))
  | bl j=>cases a;exact PySem.EqNone.eq_none_bool (aU I q (by simp))
  | int j=>obtain⟨b,rfl⟩:=a;exact PySem.EqNone.eq_none_int (aU I q (by simp))
  | str j=>obtain⟨b,rfl⟩:=a;exact PySem.EqNone.eq_none_str (aU I q (by simp))
  | _=>exact absurd (show false=true from c) Cf
 | bl i =>
  cases d;cases y with
  | non=>cases a;exact PySem.EqNone.eq_bool_none (aU I q (by simp))
  | bl j=>cases a;exact eq_bool (aU I q sy)
  | str j=>obtain⟨b,rfl⟩:=a;exact PySem.EqMixed.eq_bool_str (aU I q (by simp))
  | _=>exact absurd (show false=true from c) Cf
 | int i =>
  obtain⟨t,rfl⟩:=d;cases y with
  | non=>cases a;exact PySem.EqNone.eq_int_none (aU I q (by simp))
  | int j=>obtain⟨b,rfl⟩:=a;exact eq_int (aU I q qB)
  | str j=>obtain⟨b,rfl⟩:=a;exact PySem.EqMixed.eq_int_str (aU I q (by simp))
  | _=>exact absurd (show false=true from c) Cf
 | str i =>
  obtain⟨t,rfl⟩:=d;cases y with
  | non=>cases a;exact PySem.EqNone.eq_str_none (aU I q (by simp))
  | bl j=>cases a;exact PySem.EqMixed.eq_str_bool (aU I q (by simp))
  | int j=>obtain⟨b,rfl⟩:=a;exact PySem.EqMixed.eq_str_int (aU I q (by simp))
  | str j=>obtain⟨b,rfl⟩:=a;exact eq_str (aU I q qu)
  | _=>exact absurd (show false=true from c) Cf
 | byt i =>
  obtain⟨t,rfl⟩:=d;cases y with
  | byt j=>obtain⟨b,rfl⟩:=a;exact W.eq_bytes (aU I q qb)
  | _=>exact absurd (show false=true from c) Cf
 | _=>cases y <;> exact absurd (show false=true from c) Cf
theorem AQ:OpR X (compareOp .NotEq) rNe:=by
 intro e s f H x y v u Q I d a h;obtain⟨c,q⟩:=h;cases x with
 | non =>
  cases d;cases y with
  | non=>cases a;exact PySem.EqNone.ne_none_none (aU I q (by simp))
  | bl j=>cases a;exact PySem.EqNone.ne_none_bool (aU I q (by simp))
  | int j=>obtain⟨b,rfl⟩:=a;exact PySem.EqNone.ne_none_int (aU I q (by simp))
  | str j=>obtain⟨b,rfl⟩:=a;exact PySem.EqNone.ne_none_str (aU I q (by simp))
  | _=>exact absurd (show false=true from c) Cf
 | bl i =>
  cases d;cases y with
  | non=>cases a;exact PySem.EqNone.ne_bool_none (aU I q (by simp))
  | bl j=>cases a;exact ne_bool (aU I q (congrArg not sy))
  | str j=>obtain⟨b,rfl⟩:=a;exact PySem.EqMixed.ne_bool_str (aU I q (by simp))
  | _=>exact absurd (show false=true from c) Cf
 | int i =>
  obtain⟨t,rfl⟩:=d;cases y with
  | non=>cases a;exact PySem.EqNone.ne_int_none (aU I q (by simp))
  | int j=>obtain⟨b,rfl⟩:=a;exact ne_int (aU I q (congrArg not qB))
  | str j=>obtain⟨b,rfl⟩:=a;exact PySem.EqMixed.ne_int_str (aU I q (by simp))
  | _=>exact absurd (show false=true from c) Cf
 | str i =>
  obtain⟨t,rfl⟩:=d;cases y with
  | non=>cases a;exact PySem.EqNone.ne_str_none (aU I q (by simp))
  | bl j=>cases a;exact PySem.EqMixed.ne_str_bool (aU I q (by simp))
  | int j=>obtain⟨b,rfl⟩:=a;exact PySem.EqMixed.ne_str_int (aU I q (by simp))
  | str j=>obtain⟨b,rfl⟩:=a;exact ne_str (aU I q (congrArg not qu))
  | _=>exact absurd (show false=true from c) Cf
 | byt i =>
  obtain⟨t,rfl⟩:=d;cases y with
  | byt j=>obtain⟨b,rfl⟩:=a;exact W.ne_bytes (aU I q (congrArg not qb))
  | _=>exact absurd (show false=true from c) Cf
 | _=>cases y <;> exact absurd (show false=true from c) Cf
theorem Bj:OpR X (compareOp .Lt) (rI0 λi j=>.bl (decide (i<j))):=rG λ_ _ _ _ _ _ _ q=>lt_int q
theorem Bi:OpR X (compareOp .LtE) (rI0 λi j=>.bl (decide (i<=j))):=rG λ_ _ _ _ _ _ _ q=>le_int q
theorem eZ:OpR X (compareOp .Gt) (rI0 λi j=>.bl (decide (j<i))):=rG λ_ _ _ _ _ _ _ q=>gt_int q
theorem xx:OpR X (compareOp .GtE) (rI0 λi j=>.bl (decide (j<=i))):=rG λ_ _ _ _ _ _ _ q=>ge_int q
theorem uw:OpR X (compareOp .Lt) (λx y H Q=>∃i j,x=.str i/\y=.str j/\Q (.bl (decide (i.cps.toList<j.cps.toList))) H):=by
 intro a s e H x y v u Q I b c h;obtain⟨i,j,rfl,rfl,q⟩:=h;obtain⟨t,rfl⟩:=b;obtain⟨d,rfl⟩:=c;exact lt_str (aU I q rfl)
theorem At:OpR X (compareOp .Is) (λx y H Q=>y=.non/\Q (.bl (decide (x=.non))) H):=by
 intro b s d H x y v u Q I a c h;obtain⟨rfl,q⟩:=h;cases c;refine is_none_gen (aU I q ?_);cases x <;> first
  | (cases a;rfl)
  | (obtain⟨t,rfl⟩:=a;rfl)
theorem xK:OpR X (compareOp .IsNot) (λx y H Q=>y=.non/\Q (.bl (!decide (x=.non))) H):=by
 intro b s d H x y v u Q I a c h;obtain⟨rfl,q⟩:=h;cases c;refine isnot_none_gen (aU I q ?_);cases x <;> first
  | (cases a;rfl)
  | (obtain⟨t,rfl⟩:=a;rfl)
theorem av (b:Expr) (h:z≠.In:=by decide) (a:z≠.NotIn:=by decide):behindInMarks z b=false:=by
 have c:(z==CmpOp.In)=false:=by cases z <;> first | rfl | exact absurd rfl h
 have d:(z==CmpOp.NotIn)=false:=by cases z <;> first | rfl | exact absurd rfl a
 cases b <;> simp[behindInMarks,c,d]
theorem bS {z:CmpOp}{r:R2}(i:OpR X (compareOp z) r) (f:PE X a ta) (n:PE X b tb) (j:behindInMarks z b=false):PE X (.Compare a [z] [b] pos) (tOp r ta tb):=by
 intro c s d H Q I h;exact wpAny_Compare1 (vM f n I h λv u m x y l k e g q=>i c m d l x y v u Q k e g q) j
def xy (t:TE):TT:=λσ H Q=>t σ H λx H'=>∃k,x=.bl k/\Q k H'
theorem aj (o:OpR X (compareOp G) r) (m:PE X a ta) (J:PE X b tb) (p:behindInMarks G b=false):PT X (.Compare a [G] [b] pos) (xy (tOp r ta tb)):=by
 intro d s f H Q I h;refine wpAny_isTrue_Compare1 (thn (m d s f H _ I h) λv j ⟨x,g,q,w,A⟩=>thn (J d j f g _ q A) λu E ⟨y,D,C,B,n⟩ =>
  thn (o d E f D x y v u _ C w B n) λc K ⟨z,t,F,l,k,e,i⟩=>?_) p
 subst e;cases l;exact wpAny_truthy_bool ⟨t,F,i⟩
def sN (r r':R2) (ta tb tc:TE):TE:=λσ H Q=>ta σ H λx H1=>tb σ H1 λy H2=>r x y H2 λz H3=>∃k,z=.bl k /\
 (if k=true then tc σ H3 λw' H4=>r' y w' H4 Q else Q (.bl false) H3)
theorem vy (M:OpR X (compareOp J) r) (i:OpR X (compareOp G) O) (D:PE X a ta) (Y:PE X b tb) (t:PE X c tc)
    (N:lastMarks [J,G] [b,c]=false:=by with_unfolding_all rfl):PE X (.Compare a [J,G] [b,c] pos) (sN r O ta tb tc):=by
 intro f s g H Q I h;refine Compare_chain (thn (D f s g H _ I h) λv B ⟨x,V,P,R,S⟩=>chain_link (thn (Y f B g V _ P S) λu W ⟨y,w,T,m,F⟩ =>
  thn (M f W g w x y v u _ T R m F) λd L ⟨z,l,n,C,k,e,j⟩=>?_)) N
 subst e;cases C;refine wpAny_truthy_bool ?_;cases k with
 | false=>exact ite_ff ⟨.bl false,l,n,rfl,j⟩
 | true=>exact ite_tt (chain_last (thn (t f L g l _ n j) λU A ⟨K,q,p,E,o⟩=>i f A g q y K u U Q p m E o))
theorem vS (R:OpR X (compareOp J) r) (i:OpR X (compareOp G) O) (F:PE X a ta) (hb:PE X b tb) (A:PE X c tc)
    (U:lastMarks [J,G] [b,c]=false:=by with_unfolding_all rfl):PT X (.Compare a [J,G] [b,c] pos) (xy (sN r O ta tb tc)):=by
 intro f s g H Q I h;refine isTrue_chain (thn (F f s g H _ I h) λv D ⟨x,H1,T,W,Y⟩=>test_link (thn (hb f D g H1 _ T Y) λu s2 ⟨y,B,I2,m,L⟩ =>
  thn (R f s2 g B x y v u _ I2 W m L) λd N ⟨z,l,n,E,k,e,j⟩=>?_)) U
 subst e;cases E;refine wpAny_truthy_bool ?_;cases k with
 | false =>
  obtain⟨k',P,q'⟩:=j;cases P;exact ite_ff ⟨l,n,q'⟩
 | true =>
  refine ite_tt (test_last (thn (A f N g l _ n j) λw' C ⟨M,q,p,K,o⟩=>thn (i f C g q y M u w' _ p m K o) λd' s5 ⟨z2,t,S,Z,k2,V,w⟩=>?_));subst V;cases Z;exact wpAny_truthy_bool ⟨t,S,w⟩
theorem hJ:(sizeLine:Nat)<2 ^ 63:=by rw[sizeLine_eq];decide
theorem rS:OpR X (binaryOp .Add) (λx y H Q=>∃i j,x=.str i/\y=.str j/\i.length+j.length<=sizeLine/\Q (.str (i++j)) H):=by
 intro a s g H x y v u Q I b c h;obtain⟨i,j,rfl,rfl,e,q⟩:=h;obtain⟨t,rfl⟩:=b;obtain⟨d,rfl⟩:=c;exact add_str (λd f=>⟨.str (i++j),H,I.tok _,⟨_,rfl⟩,q⟩) e
theorem cI (r:Vals [x] us):∃u,us=[u]/\RelV x u:=by
 cases r with
 | cons r1 r2=>cases r2;exact⟨_,rfl,r1⟩
theorem gT (r:Vals [x,y] us):∃u z,us=[u,z]/\RelV x u/\RelV y z:=by
 cases r with
 | cons r1 r2 =>
  cases r2 with
  | cons r3 r4=>cases r4;exact⟨_,_,rfl,r1,r3⟩
theorem vz:dJ X (.builtin "abs") (λxs H Q=>∃i,xs=[.int i]/\Q (.int (if i<0 then -i else i)) H):=by
 intro a s d H xs b Q I r h;obtain⟨i,rfl,q⟩:=h;obtain⟨u,rfl,t,rfl⟩:=cI r;exact call_abs_int λu c=>⟨.int (if i<0 then -i else i),H,I.tok _,⟨_,rfl⟩,q⟩
theorem uc (c:X.calm=true):dJ X (.builtin "min") (λxs H Q=>∃i j,xs=[.int i,.int j]/\Q (.int (if j<i then j else i)) H):=by
 intro b s l H xs d Q I r h;obtain⟨i,j,rfl,q⟩:=h;obtain⟨u,m,rfl,⟨t,rfl⟩,⟨e,rfl⟩⟩:=gT r;refine min_two_ints (I.ok.hd c) λf g k=>⟨_,H,I.kept k,?_,q⟩
 by_cases a:j<i
 ·rw[if_pos a,if_pos a];exact⟨_,rfl⟩
 ·rw[if_neg a,if_neg a];exact⟨_,rfl⟩
theorem lS:dJ X (.type "int") (λxs H Q=>(∃i,xs=[.int i]/\Q (.int i) H)∨∃k,xs=[.bl k]/\Q (.int (if k then 1 else 0)) H):=by
 intro a s d H xs c Q I r h;rcases h with⟨i,rfl,q⟩ | ⟨k,rfl,q⟩
 ·obtain⟨u,rfl,t,rfl⟩:=cI r;exact call_int_int ⟨.int i,H,I,⟨_,rfl⟩,q⟩
 ·obtain⟨u,rfl,b⟩:=cI r;cases b;exact call_int_bool ⟨.int (if k then 1 else 0),H,I.tok _,⟨_,rfl⟩,q⟩
def vf (K:W.Frag) (x:V) (H:Hp) (n:Nat):Prop :=
 match x with
 | .str y=>y.length<=sizeLine/\n=y.length
 | .byt y=>y.size<=sizeLine/\n=y.size
 | .ref p=>(∃xs,SqL K H p xs/\n=xs.length)∨∃xs,SqT K H p xs/\n=xs.length
 | _=>False
theorem vT:dJ X (.builtin "len") (λxs H Q => ∃x n, xs=[x] /\ vf X.K x H n /\ Q (.int n) H) := by
 intro j s o H xs m Q I r h;obtain⟨x,n,rfl,e,q⟩:=h;obtain⟨u,rfl,g⟩:=cI r;have v:=hJ;have w:sizeLine=16777216:=sizeLine_eq;cases x with
 | str y =>
  obtain⟨t,rfl⟩:=g;obtain⟨k,b⟩:y.length<=sizeLine/\n=y.length:=e;subst b;exact len_str (by omega) ⟨.int _,H,I.tok _,⟨_,rfl⟩,q⟩
 | byt y =>
  obtain⟨t,rfl⟩:=g;obtain⟨k,b⟩:y.size<=sizeLine/\n=y.size:=e;subst b;exact W.len_bytes (by omega) ⟨.int _,H,I.tok _,⟨_,rfl⟩,q⟩
 | ref p =>
  cases g;have b:(∃xs,SqL X.K H p xs/\n=xs.length)∨∃xs,SqT X.K H p xs/\n=xs.length:=e;rcases b with⟨xs,i,b⟩ | ⟨xs,i,b⟩
  ·subst b;obtain⟨d,c,f,l⟩:=I.list i;have a:=c.length;exact Calls.call_len_list f.isList (by simp only[BY];omega) ⟨.int xs.length,H,I.tok _,⟨_,by simp only[BY];rw[a]⟩,q⟩
  ·subst b;obtain⟨d,c,f,l⟩:=I.tuple i;have a:=c.length;exact len_tuple f (by simp only[BY];omega) ⟨.int xs.length,H,I.tok _,⟨_,by simp only[BY];rw[a]⟩,q⟩
 | _=>exact(show False from e).elim
end
structure ObjM (h:Heap) (x dx C:Addr) (mA:Str->Option Value):Prop where
 obj:h.get? x=some (W.instObj C dx)
 ns:h.Ns1 dx mA
 ne:dx≠x
theorem mq {h:Heap}{dx:Addr}{G:Str -> Option Value}(n:h.Ns1 dx G):∃od, h.get? dx=some od /\ ∀name, W.lookIn name od=some (G name) := by
 obtain⟨o,c,k,f,hd,j,_,i⟩:=n;refine⟨o,f,λname=>?_⟩;have e:=i name;unfold nsFind findBy at e;rw[<- Array.find?_toList] at e;unfold W.lookIn;rw[hd];dsimp only
 split
 ·rename_i y q
  rw[q] at e;exact congrArg some e
 ·rename_i q
  rw[q] at e;have a:c.toList.any (·.refKey)=false:=by
   rw[List.any_eq_false];intro y d;obtain⟨z,t,b⟩:=j y (Array.mem_toList_iff.mp d);simp[DictEntry.refKey,b]
  have g:¬ c.toList.any (·.refKey)=true:=by rw[a];exact Cf
  rw[if_neg g];exact congrArg some e
theorem ObjM.look (I:ObjM h x dx C z):∃od,W.InstAt h x (W.instObj C dx) C (some od)/\∀name,W.lookIn name od=some (z name) :=
 let ⟨od,a,b⟩:=mq I.ns
 ⟨od,⟨I.obj,rfl,rfl,a⟩,b⟩
theorem RelO.some_of (r:RelO (some v) o):∃u,o=some u/\RelV v u:=by
 cases o with
 | none=>exact(show False from r).elim
 | some u=>exact⟨u,rfl,r⟩
theorem tW (r:RelV v u):W.handedIn u=true:=by
 cases v with
 | non=>cases (show u=Value.none from r);rfl
 | bl b=>cases (show u=Value.bool b from r);rfl
 | int i=>obtain⟨t,e⟩:=(show ∃t,u=Value.int i t from r);cases e;rfl
 | str x=>obtain⟨t,e⟩:=(show ∃t,u=Value.str x t from r);cases e;rfl
 | byt b=>obtain⟨t,e⟩:=(show ∃t,u=Value.bytes b t from r);cases e;rfl
 | flt b=>obtain⟨t,e⟩:=(show ∃t,u=Value.float b t from r);cases e;rfl
 | ref a=>cases (show u=Value.ref a from r);rfl
 | ty n=>cases (show u=Value.type n from r);rfl
section
variable {P:Program}{w:World}{H H':Hp}{h h':Heap}{a C dx:Addr}{fs fs':List (Str × V)}
theorem pR (b:HOk P w H h) (e:H a=some (.ins C dx fs)):∃G,ObjM h a dx C G/\(∀f,RelO (fs.lookup f) (G f))/\PySem.Within G (fs.map (·.1))/\fs.length<=1000/\H dx=some (.own a):=by
 obtain⟨d,z,c,g,G,n,r,q⟩:=(show ObjOk P w H h a (.ins C dx fs) from b a _ e)
 exact⟨G,⟨g,n,c⟩,r,q,z,d⟩
end
structure Cls (K:W.Frag) (C:Addr):Prop where
 pg:W.plainGet K C Str.empty=true
 hd:W.hasDictIn K C=true
 po:W.plainOver K C=true
 sa:W.findIn K (.ref C) "__setattr__"=some (some (.builtin "object.__setattr__"))
theorem Cls.get {K:W.Frag}{C:Addr}(c:Cls K C) (f:Str):W.plainGet K C f=true:=c.pg
section
variable {X:Cx}{pins:List (Addr × Obj)}{σ:St}{H:Hp}{s:Shared}{a C dx:Addr}{fs:List (Str × V)}{f:Str}{v:V}{A:Around}{E:Value->Shared->Prop}
theorem xJ (a:attributeBase e f env (eval e env)=eval e env)
    (h:wpAny (model prog w) A (eval e env) (λo z=>wpAny (model prog w) A (getAttr o f true) Q E z) E s):wpAny (model prog w) A (eval (.Attribute e f pos) env) Q E s :=
 Attribute_any_ h (by rw[arm_eval_Attribute,a])
end
section
variable {X:Cx}{pins:List (Addr × Obj)}{σ:St}{H:Hp}{s:Shared}{A:Around}{E:Value->Shared->Prop}{Q:Value->Shared->Prop}{c:Value}{b:Bool}
inductive TyOf (K:W.Frag) (H:Hp):V -> Value -> Prop where
 | non:TyOf K H .non (.type "NoneType")
 | bl (x:Bool):TyOf K H (.bl x) (.type "bool")
 | int (i:Int):TyOf K H (.int i) (.type "int")
 | str (x:Str):TyOf K H (.str x) (.type "str")
 | flt (x:UInt64):TyOf K H (.flt x) (.type "float")
 | lst {a:Addr} {xs:LV} (e:H a=some (.lst xs)):TyOf K H (.ref a) (.type "list")
 | frz {a:Addr} {o:Obj} {xs:LV} (e:H a=some (.frz o (.lst xs))):TyOf K H (.ref a) (.type "list")
 | tup {a:Addr} {xs:LV} (e:H a=some (.tup xs)):TyOf K H (.ref a) (.type "tuple")
 | dK {a:Addr} {kvs:List (Key × V)} (e:H a=some (.dK kvs)):TyOf K H (.ref a) (.type "dict")
 | dT {a:Addr} {kvs:List (List Key × V)} (e:H a=some (.dT kvs)):TyOf K H (.ref a) (.type "dict")
 | ins {a C dx:Addr} {fs:List (Str × V)} (e:H a=some (.ins C dx fs)) (cl:Cls K C) (ha:W.findIn K (.ref C) "__class__"=some (some (.builtin "object.__class__")))
     (hn:W.specialIn K (.builtin "object.__class__") "__get__"=some (some (.builtin "getset_descriptor.__get__"))) (htk:W.takesIn K (.builtin "object.__class__")=some true)
     (hm:W.mroIn K C (.type "object")=some true):TyOf K H (.ref a) (.ref C)
theorem ui (I:Inv X pins σ H s) (d:RelV x u) (m:TyOf X.K H x t) (e:W.kitOne X.K t c=some b) (h:∀tk,Q (.bool b) { s with toks:=tk }) :
    wpAny (model X.prog X.w) A (call (.builtin "isinstance") [u,c]) Q E s:=by
 cases m with
 | non=>cases (show u=Value.none from d);exact W.kia_one W.kitx_none I.kIn True.intro e (λz=>nomatch z) h
 | bl y=>cases (show u=Value.bool y from d);exact W.kia_one W.kitx_bool I.kIn True.intro e (λz=>nomatch z) h
 | int i=>obtain⟨t,q⟩:=(show ∃t,u=Value.int i t from d);cases q;exact W.kia_one W.kitx_int I.kIn True.intro e (λz=>nomatch z) h
 | str y=>obtain⟨t,q⟩:=(show ∃t,u=Value.str y t from d);cases q;exact W.kia_one W.kitx_str I.kIn True.intro e (λz=>nomatch z) h
 | flt y=>obtain⟨t,q⟩:=(show ∃t,u=Value.float y t from d);cases q;exact W.kia_one W.kitx_float I.kIn True.intro e (λz=>nomatch z) h
 | @lst a g ea =>
  cases (show u=Value.ref a from d);obtain⟨_,_,n,_,f⟩:=(show ObjOk X.prog X.w H s.heap a (.lst g) from I.hok a _ ea)
  exact W.kia_one W.kitx_list I.kIn ⟨_,f,rfl⟩ e (λz=>nomatch z) h
 | @frz a ob g ea =>
  cases (show u=Value.ref a from d);obtain⟨_,_,_,n,_,f⟩:=(show ObjOk X.prog X.w H s.heap a (.frz ob (.lst g)) from I.hok a _ ea)
  exact W.kia_one W.kitx_list I.kIn ⟨_,f,rfl⟩ e (λz=>nomatch z) h
 | @tup a g ea =>
  cases (show u=Value.ref a from d);obtain⟨_,_,_,p⟩:=(show ObjOk X.prog X.w H s.heap a (.tup g) from I.hok a _ ea)
  obtain⟨o,f,j,_⟩:=p;exact W.kia_one W.kitx_tuple I.kIn ⟨o,f,j⟩ e (λz=>nomatch z) h
 | @dK a kvs ea =>
  cases (show u=Value.ref a from d);obtain⟨_,_,v,_,p⟩:=(show ObjOk X.prog X.w H s.heap a (.dK kvs) from I.hok a _ ea)
  obtain⟨o,l,k,f,j,_⟩:=p;exact W.kia_one W.kitx_dict I.kIn ⟨o,f,j.1⟩ e (λz=>nomatch z) h
 | @dT a kvs ea =>
  cases (show u=Value.ref a from d);obtain⟨_,_,g,_,o,l,k,f,j,_⟩:=(show ObjOk X.prog X.w H s.heap a (.dT kvs) from I.hok a _ ea)
  exact W.kia_one W.kitx_dict I.kIn ⟨o,f,j.1⟩ e (λz=>nomatch z) h
 | @ins a C dx fs ea cl ha hn htk hm =>
  cases (show u=Value.ref a from d);obtain⟨w,O,_⟩:=pR I.hok ea;obtain⟨r,J,_⟩:=O.look;exact W.kia_one (W.kitx_own (cl.get _) cl.hd ha hn htk hm) I.kIn J e (λz=>nomatch z) h
end
structure Room (k:Nat) (A:Around):Prop where
 hd:A.handled=none
 dp:A.depth+3 * k+5<recursionLimit
 un:A.units+16 * k+200<cLine
 gd:A.guards=some []
theorem Room.mono (r:Room k A) (h:j<=k):Room j A:=⟨r.hd,by have:=r.dp;omega,by have:=r.un;omega,r.gd⟩
theorem Room.deeper (r:Room (k+1) A) (env:Env):Room k (A.deeper env) :=
 ⟨r.hd,by have:=r.dp;show A.depth+1+3 * k+5<_;omega,by have:=r.un;show A.units+3+16 * k+200<_;omega,r.gd⟩
theorem rD {A:Around}{C:Addr}{us:LW}{z:List (Str × Value)}:(A.under (.builtin "type.__call__" ⟨.ref C::us,z⟩)).depth=A.depth+1:=by
 first | rfl | simp[Around.under,Code.weight,Code.isCreation,Code.isGuard,Code.isCaller,Code.frames,Code.isFrame,guardIds]
theorem rL {A:Around}{C:Addr}{us:LW}{z:List (Str × Value)}:(A.under (.builtin "type.__call__" ⟨.ref C::us,z⟩)).units=A.units+1:=by
 first | rfl | simp[Around.under,Code.cUnits,Code.frames,Code.isFrame]
theorem Room.make (r:Room (k+1) A) (C:Addr) (us:LW) (a:List (Str × Value)):Room k (A.under (.builtin "type.__call__" ⟨.ref C::us,a⟩)) :=
 ⟨r.hd,by have:=r.dp;rw[rD];omega,by have:=r.un;rw[rL];omega,by first | exact r.gd | (simp[Around.under,Code.isGuard,guardIds];exact r.gd)⟩
theorem Room.depth (r:Room k A):A.depth<recursionLimit:=by have:=r.dp;omega
theorem Room.units (r:Room k A):A.units+64<cLine:=by have:=r.un;omega
def io:TA:=λ_ H Q=>Q [] H
def dr (ta:TE) (tr:TA):TA:=λσ H Q=>ta σ H λx H1=>tr σ H1 λxs H2=>Q (x::xs) H2
section
variable {X:Cx}{e:Expr}{es:List Expr}{te:TE}{t:TA}{pos:Pos}
theorem bO:PA X [] io:=λ_ _ _ _ H Q I h=>Calls.spliced_nil ⟨[],H,I,.nil,h⟩
theorem au (g:PE X e te) (o:PA X es t) (l:starEach (e::es) X.env=(false,eval e X.env)::starEach es X.env:=by rfl):PA X (e::es) (dr te t):=by
 intro b a s c H Q I h;rw[l];show wpAny _ _ (spliced ((false,eval e X.env)::backTo b (starEach es X.env))) _ _ s;refine Calls.spliced_cons (thn (g a s c H _ I h) λu f ⟨x,d,j,m,n⟩=>?_);exact thn (o b a f c d _ j n) λv w ⟨k,r,q,p,i⟩=>⟨x::k,r,q,.cons m p,i⟩
def tTup (t:TA):TE:=λσ H Q=>t σ H λxs H1=>xs.length<=sizeLine/\∀p,H1 p=none->Q (.ref p) (upd H1 p (.tup xs))
def Ab (t:TA):TE:=λσ H Q=>t σ H λxs H1=>xs.length<=sizeLine/\∀p,H1 p=none->Q (.ref p) (upd H1 p (.lst xs))
theorem be {G}(h:PA X es t):PE X (.Tuple es G pos) (tTup t):=by
 intro a s i H Q I j;refine wpAny_Tuple_spliced (thn (h pos a s i H _ I j) λg c ⟨k,f,d,r,z,q⟩=>⟨by rw[<- r.length];exact z,?_⟩);have l:f c.heap.objs.size=none:=d.hok.fresh (BB _);refine⟨.ref c.heap.objs.size,upd f c.heap.objs.size (.tup k),d.laid (t':=c.toks) (λb u e=>BU _ e) (BB _) ?_,rfl,q _ l⟩;exact⟨z,g,r,⟨_,Ce _ rfl,rfl,_,rfl,rfl⟩⟩
theorem bt (h:PA X es t):PE X (.List es pos) (Ab t):=by
 intro a s i H Q I j;refine wpAny_List_spliced (thn (h pos a s i H _ I j) λg c ⟨k,f,d,r,z,q⟩=>⟨by rw[<- r.length];exact z,?_⟩);have l:f c.heap.objs.size=none:=d.hok.fresh (BB _);refine⟨.ref c.heap.objs.size,upd f c.heap.objs.size (.lst k),d.laid (t':=c.toks) (λb u e=>BU _ e) (BB _) ?_,rfl,q _ l⟩;exact⟨z,g,0,r,Ce _ rfl⟩
end
abbrev Sp:=LV->Hp->VK->XK->Prop
abbrev CXT:=List Env->Hp->Shared->XK->Value->Shared->Prop
structure Env0 (P:Program) (w:World) (K:W.Frag) (mg:Str->Option Value) (base:Heap) (A:Around) (outer:List Env) (s:Shared) (H:Hp):Prop where
 frames:A.frames=some outer
 mod:Mod K mg base
 bs:∀b o,base.get? b=some o->s.heap.get? b=some o/\H b=none
 bsz:base.objs.size<=s.heap.objs.size
 funs:s.heap.FunFrames base outer
 frf:∀b∈frs outer,H b=none
 hok:HOk P w H s.heap
 bare:AllBare s.gens
def CE (outer:List Env) (P:Program) (w:World) (H:Hp) (s:Shared) (Q:VK) (u:Value) (s':Shared):Prop :=
 ∃v H',s'.os=s.os/\AllBare s'.gens/\Un (frs outer) [] H H' s.heap s'.heap/\HOk P w H' s'.heap/\RelV v u/\Q v H'
def CR (CX:CXT) (outer:List Env) (P:Program) (w:World) (H:Hp) (s:Shared) (Q:VK) (E:XK) (r:Result) (s':Shared):Prop :=
 match r with
 | .ok (.ret u)=>CE outer P w H s Q u s'
 | .ok _=>False
 | .error e=>CX outer H s E e s'
structure FnOk (P:Program) (w:World) (K:W.Frag) (mg:Str->Option Value) (base:Heap) (CX:CXT) (k:Nat) (f:Addr) (fd:FuncData) (ps:LS) (sp:Sp):Prop where
 len:∀vs H Q E,sp vs H Q E->vs.length=ps.length
 run:∀(A:Around) (outer:List Env) (s:Shared) (H:Hp) (args:Args) (us:LW) (vs:LV) (Q:VK) (E:XK),Room k A->Env0 P w K mg base A outer s H->BindsTo s fd args (ps.zip us)->Vals vs us->sp vs H Q E ->
  codeAny (model P w) A (.call (.ref f) args) (CR CX outer P w H s Q E) s
theorem FnOk.imp {P:Program}{w:World}{K:W.Frag}{mg:Str->Option Value}{base:Heap}{CX:CXT}{k:Nat}{f:Addr}{fd:FuncData}{ps:LS}{sp G:Sp}(F:FnOk P w K mg base CX k f fd ps sp)
    (h:∀z H Q E,G z H Q E->sp z H Q E):FnOk P w K mg base CX k f fd ps G :=
 ⟨λz H Q E q=>F.len z H Q E (h _ _ _ _ q),λA a s H b d z Q E e c j g i=>F.run A a s H b d z Q E e c j g (h _ _ _ _ i)⟩
theorem Env0.make {P:Program}{w:World}{K:W.Frag}{mg:Str->Option Value}{base:Heap}{A:Around}{z:List Env}{s:Shared}{H:Hp}(e:Env0 P w K mg base A z s H) (C:Addr) (us:LW) (a:List (Str × Value)) :
    Env0 P w K mg base (A.under (.builtin "type.__call__" ⟨.ref C::us,a⟩)) z s H:=⟨by first | exact e.frames | (simpa [Around.under,Code.envs,Code.isFrame,pushEnvs] using e.frames),e.mod,e.bs,e.bsz,e.funs,e.frf,e.hok,e.bare⟩
section
variable {X:Cx}{pins:List (Addr × Obj)}{σ:St}{H:Hp}{s s':Shared}
theorem Inv.env0 (I:Inv X pins σ H s):Env0 X.prog X.w X.K X.mg X.base X.A X.stack s H :=
 ⟨I.ok.frames,I.ok.mod,I.bs,BP I.ok.bsz I.sz,I.stack,I.stkFree,I.hok,I.bare⟩
theorem Inv.after (I:Inv X pins σ H s) (h:CE X.stack X.prog X.w H s Q u s'):EP X pins σ Q u s':=by
 obtain⟨v,f,k,a,i,e,r,q⟩:=h;obtain⟨j,g,d,t,c⟩:=s';obtain rfl:c=s.os:=k;exact⟨v,f,I.call (h':=j) (g':=g) (d':=d) (t':=t) (ch:=[]) i e a (λb z=>absurd z (by simp)),r,q⟩
end
def mQ (sp:Sp) (dvs:LV) (E:XK) (t:TA):TE:=λσ H Q=>t σ H λvs H1=>sp (vs++dvs) H1 Q E
def Binds (K:W.Frag) (fd:FuncData) (ps:LS) (ds:LW):Prop :=
 ∀(s:Shared) (us:LW),K.In s.heap->(us++ds).length=ps.length->BindsTo s fd ⟨us,[]⟩ (ps.zip (us++ds))
theorem Binds.all {K:W.Frag}{fd:FuncData}{ps:LS}(h:∀us:LW,us.length=ps.length->bindArgs fd ⟨us,[]⟩=pure (ps.zip us)):Binds K fd ps []:=λs us _ a=>by
 rw[Cm] at a ⊢;exact .of_eq (h us a)
def kB (CX:CXT) (X:Cx) (E:XK):Prop:=∀(pins:List (Addr × Obj)) (σ:St) (H:Hp) (s:Shared) (e:Value) (s':Shared),Inv X pins σ H s->CX X.stack H s E e s'->X.xe e s'
section
variable {X:Cx}{CX:CXT}{k:Nat}{f C:Addr}{fd:FuncData}{ps:LS}{sp:Sp}{dvs:LV}{ds:LW}{E:XK}{x m:Str}{p pos apos:Pos}{e o:Expr}{es:List Expr}{ta:TE}{t:TA}
theorem AK (F:FnOk X.prog X.w X.K X.mg X.base CX k f fd ps sp) (d:Room k X.A) (j:Binds X.K fd ps ds) (hd:Vals dvs ds) (g:kB CX X E)
    (I:Inv X pins σ H s) (r:Vals z us) (h:sp (z++dvs) H Q E):wpAny (model X.prog X.w) X.A (call (.ref f) us) (EP X pins σ Q) X.xe s:=by
 have b:Vals (z++dvs) (us++ds):=r.append hd;have i:(us++ds).length=ps.length:=by rw[<- b.length];exact F.len _ _ _ _ h
 refine wpAny_call (codeAny_mono (F.run X.A X.stack s H ⟨us,[]⟩ (us++ds) (z++dvs) Q E d I.env0 (j s us I.kIn i) b h) λr c a=>?_);cases r with
 | error e=>exact g pins σ H s e c I a
 | ok fl =>
  cases fl with
  | ret u=>exact I.after a
  | next=>exact False.elim a
  | brk=>exact False.elim a
  | cont=>exact False.elim a
theorem qi (F:FnOk X.prog X.w X.K X.mg X.base CX k f fd ps sp) (m:Room k X.A) (g:Gl X x) (j:X.mg x=some (.ref f)) (l:W.keepIn X.K (.ref f)=true) (n:Binds X.K fd ps ds) (hd:Vals dvs ds) (i:kB CX X E)
    (d:PA X (e::es) t) (hdb:(x==("__debug__":Str))=false:=by decide) (he:starEach (e::es) X.env=(false,eval e X.env)::starEach es X.env:=by rfl) (hpl:(backTo pos (starEach es X.env)).any (·.1)=false:=by rfl) :
    PE X (.Call (.Name x p) (e::es) [] pos) (mQ sp dvs E t):=by
 intro a s c H Q I h;refine Dy (fS I g j ?_ hdb);refine W.callWith_K (h₀:=X.base) I.ok.mod.kin l (thn (d pos a s c H _ I h) λo u ⟨v,w,b,r,q⟩=>⟨b.kIn,?_⟩) he hpl;exact AK F m n hd i b r q
end
structure FnScope (N P:LS) (sc:Scope):Prop where
 kind:sc.kind=.function
 co:sc.isCoroutine=false
 gen:sc.isGenerator=false
 nd:N.Nodup
 pre:N.take P.length=P
 par:∀x∈P,sc.names.lookup x=some .local∨sc.names.lookup x=some .cell
 nofree:∀y∈sc.names,y.2≠.free
theorem lV {kindOf:Str -> Option NameKind}{x:Str}:∀ {binds:List (Str × Value)}{m:Str -> Option Value}, (∀v, (x, v) ∉ binds) -> bindL kindOf binds m x=m x
 | [],_,_=>rfl
 | (n,v)::r,m,h=>by
  unfold bindL;rw[lV λw hw=>h w (BQ _ hw)]
  split
  ·have:x≠n:=by rintro rfl;exact h v Cr
   simp[this]
  ·rfl
theorem lY {kindOf:Str -> Option NameKind}{x:Str}:∀ {binds:List (Str × Value)}{m:Str -> Option Value}, (∀v, (x, v) ∉ binds) -> bindC kindOf binds m x=m x
 | [],_,_=>rfl
 | (n,v)::r,m,h=>by
  unfold bindC;rw[lY λw hw=>h w (BQ _ hw)]
  split
  ·rfl
  ·have:x≠n:=by rintro rfl;exact h v Cr
   simp[this]
theorem mi {kindOf:Str->Option NameKind}{x:Str}:∀ {P:LS}{vs:LW}{i:Nat}{m:Str->Option Value},P.Nodup->P[i]? = some x->vs[i]? = some v->kindOf x=some .local ->
    bindL kindOf (P.zip vs) m x=some v
 | [],_,_,_,_,h,_,_=>by simp at h
 | _::_,[],_,_,_,_,h,_=>by simp at h
 | p::P,w::vs,0,m,nd,h1,h2,hk=>by
  simp at h1 h2;subst h1;subst h2;show bindL kindOf ((p,w)::P.zip vs) m p=_;unfold bindL;rw[lV λv hv=>(Cd.mp nd).1 (List.of_mem_zip hv).1,if_pos hk];simp
 | p::P,w::vs,i+1,m,nd,h1,h2,hk=>by
  show bindL kindOf ((p,w)::P.zip vs) m x=_;unfold bindL;exact mi (i:=i) (Cd.mp nd).2 (by simpa using h1) (by simpa using h2) hk
theorem mD {kindOf:Str->Option NameKind}{x:Str}:∀ {P:LS}{vs:LW}{i:Nat}{m:Str->Option Value},P.Nodup->P[i]? = some x->vs[i]? = some v->kindOf x≠some .local ->
    bindC kindOf (P.zip vs) m x=some v
 | [],_,_,_,_,h,_,_=>by simp at h
 | _::_,[],_,_,_,_,h,_=>by simp at h
 | p::P,w::vs,0,m,nd,h1,h2,hk=>by
  simp at h1 h2;subst h1;subst h2;show bindC kindOf ((p,w)::P.zip vs) m p=_;unfold bindC;rw[lY λv hv=>(Cd.mp nd).1 (List.of_mem_zip hv).1,if_neg hk];simp
 | p::P,w::vs,i+1,m,nd,h1,h2,hk=>by
  show bindC kindOf ((p,w)::P.zip vs) m x=_;unfold bindC;exact mD (i:=i) (Cd.mp nd).2 (by simpa using h1) (by simpa using h2) hk
def start (N:LS) (vs:LV):St:=vs.map some++List.replicate (N.length-vs.length) none
def aV (CX:CXT) (P:Program) (w:World) (K:W.Frag) (mg:Str->Option Value) (base:Heap) (N:LS) (qual:Str) (scope:Scope) (f:Addr) (cd:Value) (A:Around) (outer:List Env) (s:Shared) (H:Hp) (E:XK):Cx where
 prog:=P
 w:=w
 K:=K
 mg:=mg
 base:=base
 A:=A.deeper (envOfC qual scope s.heap.objs.size f cd)
 N:=N
 s₀:=s
 H₀:=H
 env:=envOfC qual scope s.heap.objs.size f cd
 outer:=outer
 stack:=envOfC qual scope s.heap.objs.size f cd::outer
 ex:=[]
 calm:=true
 fn:=λ_=>true
 pn:=[]
 xe:=λe s'=>wpAny (model P w) (A.deeper (envOfC qual scope s.heap.objs.size f cd)) (leaving (envOfC qual scope s.heap.objs.size f cd) e) (λ_ s''=>CX outer H s E e s'') (λe' s''=>CX outer H s E e' s'') s'
theorem nR {z:Scope}{n:Nat}{x:Str}(h:z.names.lookup x=some .cell):∃c,(cellsFrom n z.names []).lookup x=some c:=by
 have q:=W.cellsFrom_some z.names n [] (.inl h);exact CT.mp q
theorem uv {CX:CXT}{P:Program}{w:World}{K:W.Frag}{mg:Str -> Option Value}{base:Heap}{N ps:LS}{qual:Str}{scope:Scope}{f:Addr}{J:Value}{A:Around}{G:List Env}{s s1:Shared}{H:Hp}{E:XK}{us:LW}{I:LV}
    (S:FnScope N ps scope) (hd:A.handled=none) (g:Env0 P w K mg base A G s H) (Q:I.length=ps.length) (r:Vals I us)
    (x:InCallC s s.heap.objs.size (bindL (envOfC qual scope s.heap.objs.size f J).kindOf (ps.zip us) λ_=>none) (cellsFrom (s.heap.objs.size+1) scope.names []) (bindC (envOfC qual scope s.heap.objs.size f J).kindOf (ps.zip us) λ_=>none) s1) :
    Inv (aV CX P w K mg base N qual scope f J A G s H E) [] (start N I) H s1:=by
 have L:ps.length<=N.length:=by have:=congrArg List.length S.pre;rw[Ch] at this;omega
 obtain⟨B,R,rfl,D⟩:=x.done;have l:∀b:Addr,b∉(aV CX P w K mg base N qual scope f J A G s H E).ex:=λb z=>absurd (show b∈([]:List Addr) from z) (by simp);refine⟨⟨g.mod,S.kind,rfl,rfl,BB _,λy z c B d=>?_,λy j=>?_,λy c _ h=>?_,λ_=>hd,Around.frames_deeper g.frames,.inr ⟨rfl,rfl⟩,λb z=>absurd z (l b),g.bs,g.bsz,λb _ _=>l b,λb z=>absurd z (l b),g.funs,g.frf⟩,
  rfl,g.bare,Un.kept D,⟨_,x.toInCall.ns,λi y v B d O=>?_⟩,λy c h=>⟨_,x.cell y c h⟩,g.hok.fresh (BB _),λy c h=>?_,λp m=>absurd (show p∈([]:List (Addr × Obj)) from m) (by simp),g.hok.kept D,?_⟩
 ·exact name_of_addr x.apart (PySem.mem_of_lookup B) (PySem.mem_of_lookup d)
 ·have j:scope.names.lookup y=some .cell∨scope.names.lookup y=some .free:=j;rcases j with j | j
  ·exact nR j
  ·exact absurd rfl (S.nofree _ (PySem.mem_of_lookup j))
 ·exact Ci (x.above y c (PySem.mem_of_lookup h))
 ·have t:i<I.length := by
     unfold start at d;by_cases t:i<I.length
     ·exact t
     ·rw[Dq (by simpa using t)] at d;rw[List.getElem?_replicate] at d
      split at d <;> cases d
  have M:I[i]? = some v:=by
   unfold start at d;rw[Db (by simpa using t),BM] at d;cases e:I[i]? with
   | none=>rw[e] at d;cases d
   | some a=>rw[e] at d;cases d;rfl
  obtain⟨u,C,F⟩:=r.get M;have m:ps[i]? = some y:=by rw[<- S.pre,DH (by omega)];exact B
  have o:ps.Nodup:=by rw[<- S.pre];exact S.nd.sublist (List.take_sublist _ _)
  refine⟨u,F,?_⟩;rcases S.par y (BG m) with k | k
  ·exact .inl ⟨k,mi o m C k⟩
  ·obtain⟨c,e⟩:=nR (n:=s.heap.objs.size+1) k;refine .inr ⟨.inl k,c,e,?_⟩;have q:=x.cell y c e;rw[mD o m C (by show scope.names.lookup y≠_;rw[k];decide)] at q;exact q
 ·exact g.hok.fresh (Ci (x.above y c (PySem.mem_of_lookup h)))
 ·unfold start;show _=N.length;rw[BJ,BA,List.length_replicate];omega
theorem xg {CX:CXT}{P:Program}{w:World}{K:W.Frag}{mg:Str -> Option Value}{base:Heap}{k:Nat}{f:Addr}{name qual:Str}{O:Arguments}{U:List Stmt}{scope:Scope}{dV kV a0 pm G ct oc:Value}{an od:Option Addr}
    {a1:Array (Option Value)} {N ps:LS} {sp:Sp} (lk:K.lookup f=some ⟨oc,od,.func (W.fnOf name qual O U scope dV kV a0 pm an G ct),a1⟩) (B:W.codeIn K G qual=true) (S:FnScope N ps scope)
    (h:∀Y H Q E,sp Y H Q E->Y.length=ps.length)
    (d:∀(A:Around) (z:List Env) (s:Shared) (H:Hp) (Y:LV) (Q:VK) (E:XK),Room k (A.deeper (envOfC qual scope s.heap.objs.size f G))->sp Y H Q E ->
     ∃t,PSs (aV CX P w K mg base N qual scope f G A z s H E) U t/\t { nx:=λ_ H'=>Q .non H',rt:=Q } (start N Y) H) :
    FnOk P w K mg base CX (k+1) f (W.fnOf name qual O U scope dV kV a0 pm an G ct) ps sp:=by
 refine⟨h,λA z s H F T Y Q E D l hb r j=>?_⟩;have Z:=h _ _ _ _ j;have M:K.In s.heap:=l.mod.kin.keeps λb o e=>(l.bs b o e).1;have C:s.heap.NoLimit:=l.mod.nolimit.keeps λb o e=>(l.bs b o e).1;have c:∀y∈ps.zip T,scope.names.lookup y.1=some .local∨(scope.names.lookup y.1=some .cell/\((cellsFrom (s.heap.objs.size+1) scope.names []).lookup y.1).isSome=true):=λ⟨n,v⟩ R=>by
  rcases S.par n (List.of_mem_zip R).1 with q | q
  ·exact .inl q
  ·exact .inr ⟨q,W.cellsFrom_some _ _ _ (.inl q)⟩
 refine codeAny_call_function D.depth (M _ _ lk) rfl S.co S.gen rfl (W.codeRec_of M B) (hb _ _ _ _ ?_);refine wpAny_newFunctionEnv_cells S.kind c λa2 he L x=>?_;subst he;refine⟨C.keeps x.toInCall.keep,codeAny_func ?_⟩;obtain⟨t,ht,hq⟩:=d A z s H Y Q E (D.deeper _) j;have I:Inv (aV CX P w K mg base N qual scope f G A z s H E) [] (start N Y) H L:=uv S D.hd l Z r x;refine CF (ht [] L (start N Y) H _ I hq) (λX p g=>?_) λe p g=>g;have i:∀ {a:St} {H':Hp} {v:V} {u:Value},Inv (aV CX P w K mg base N qual scope f G A z s H E) [] a H' p->RelV v u->Q v H'->CE z P w H s Q u p :=
  λ{a H' v u} J m q=>⟨v,H',J.os,J.bare,J.base,J.hok,m,q⟩
 cases X with
 | ret u =>
  obtain⟨v,a,H',J,m,q⟩:=g;exact i J m q
 | next =>
  obtain⟨a,H',J,q⟩:=g;exact i (v:=V.non) (u:=Value.none) J rfl q
 | brk =>
  obtain⟨_,_,_,q⟩:=g;exact False.elim q
 | cont =>
  obtain⟨_,_,_,q⟩:=g;exact False.elim q
section
variable {X:Cx}{x:Str}{p pos:Pos}{e:Expr}{es:List Expr}{t:TA}{id T:String}{r:LV->Hp->VK->Prop}
def tCB (r:LV->Hp->VK->Prop) (t:TA):TE:=λσ H Q=>t σ H λvs H1=>r vs H1 Q
theorem dL (f:dJ X (.builtin id) r) (l:Gl X x) (m:X.mg x=none) (j:bootBuiltins x=some (.builtin id)) (i:PA X (e::es) t) (d:x≠"__name__":=by decide) (hdb:(x==("__debug__":Str))=false:=by decide)
    (he:starEach (e::es) X.env=(false,eval e X.env)::starEach es X.env:=by rfl) (hpl:(backTo pos (starEach es X.env)).any (·.1)=false:=by rfl):PE X (.Call (.Name x p) (e::es) [] pos) (tCB r t):=by
 intro a s b H Q I h;refine Dy (gy I l m j ?_ d hdb);exact PyProof.Rows.callWith_builtin1 (thn (i pos a s b H _ I h) λc g ⟨k,u,n,o,q⟩=>f a g b u k c Q n o q) he hpl
theorem fu (f:dJ X (.type T) r) (l:Gl X x) (m:X.mg x=none) (j:bootBuiltins x=some (.type T)) (i:PA X (e::es) t) (d:x≠"__name__":=by decide) (hdb:(x==("__debug__":Str))=false:=by decide)
    (he:starEach (e::es) X.env=(false,eval e X.env)::starEach es X.env:=by rfl) (hpl:(backTo pos (starEach es X.env)).any (·.1)=false:=by rfl):PE X (.Call (.Name x p) (e::es) [] pos) (tCB r t):=by
 intro a s b H Q I h;refine Dy (gy I l m j ?_ d hdb);exact PyProof.Rows.callWith_type1 (thn (i pos a s b H _ I h) λc g ⟨k,u,n,o,q⟩=>f a g b u k c Q n o q) he hpl
end
end L2
namespace HT
open PySem PyProof.Rows
section
open PySem.SeqAt
open PySem.AutoSeq1 (wpAny_loadPart')
open PySem.MeetsSeq PySem.MeetsSeq2 PySem.MeetsSeq3
end
section
variable {prog:Program}{w:World}{A:Around}{E:Value->Shared->Prop}{s:Shared}
theorem cat_tup (u:IsTup s.heap t vs.toArray) (x:IsTup s.heap b ws.toArray) (m:vs ≠ [])
    (v:ws=[]->Q (.ref t) s) (r:ws≠[]->Q (.ref s.heap.objs.size) { s with heap:=s.heap.push { cls:=.type "tuple",data:=.seq (vs++ws).toArray } })
    (hsz:vs.length+ws.length<=sizeLine):wpAny (model prog w) A (binaryOp .Add (.ref t) (.ref b)) Q E s:=by
 obtain⟨⟨cls,o,data,p⟩,i,l,n,hd⟩:=id u;obtain⟨⟨k,d,j,g⟩,a,c,q,f⟩:=id x;simp only at l hd c f;subst l hd c f;have e:vs.toArray++ws.toArray=(vs++ws).toArray:=by simp
 by_cases h:ws=[]
 ·exact concat_meets ⟨_,i,rfl⟩ ⟨_,a,rfl⟩ noFill_tuple_add seq_tuple_add PySem.F.slot_tuple_add PySem.F.entry_tuple_add (PySem.F.args_tuple_add_2 _ _)
     (tuple_addW1 t b vs.toArray ws.toArray n q o d p g (by simpa using m) (by simp[h])) ⟨i,a,v h⟩
 ·refine concat_meets ⟨_,i,rfl⟩ ⟨_,a,rfl⟩ noFill_tuple_add seq_tuple_add PySem.F.slot_tuple_add PySem.F.entry_tuple_add (PySem.F.args_tuple_add_2 _ _)
     (tuple_addW2 t b vs.toArray ws.toArray n q o d p g (by simpa using m) (by simpa using h) (by rw[BY,BY];exact hsz)) ⟨i,a,?_⟩
  rw[e];exact r h
def sIx (n d:Nat):Option Int->Nat
 | none=>d
 | some v=>if v<0 then (v+(n:Int)).toNat else min v.toNat n
theorem sIx_none (n d:Nat):sIx n d none=d:=rfl
theorem sIx_nat (n d k:Nat):sIx n d (some (k:Int))=min k n:=by
 show (if (k:Int)<0 then ((k:Int)+(n:Int)).toNat else min (k:Int).toNat n)=min k n;rw[if_neg (by omega),Dd]
theorem zH (n d:Nat) (hd:d<=n) (o:Option Int):sIx n d o<=n:=by
 cases o with
 | none=>exact hd
 | some v =>
  show (if v<0 then (v+(n:Int)).toNat else min v.toNat n)<=n;by_cases a:v<0
  ·rw[if_pos a];omega
  ·rw[if_neg a];exact Nat.min_le_right _ _
theorem pQ (v:Int) (n d:Nat):(if v<0 then max (v+(n:Int)) 0 else min v (n:Int))=((sIx n d (some v):Nat):Int):=by
 show (if v<0 then max (v+(n:Int)) 0 else min v (n:Int))=(((if v<0 then (v+(n:Int)).toNat else min v.toNat n):Nat):Int)
 by_cases a:v<0
 ·simp only[if_pos a];omega
 ·simp only[if_neg a];omega
theorem ro (b a:Option Int) (n:Nat):Builtin.Slice.sliceAdjust b a 1 (n:Int)=(((sIx n 0 b:Nat):Int),((sIx n n a:Nat):Int)):=by
 have c:¬ ((1:Int)<0):=by omega
 unfold Builtin.Slice.sliceAdjust;simp only[c,if_false];refine Prod.ext ?_ ?_
 ·cases b with
  | none=>rfl
  | some v=>exact pQ v n 0
 ·cases a with
  | none=>rfl
  | some v=>exact pQ v n n
theorem rO (i j:Nat):Builtin.Slice.slicePlaces (i:Int) (j:Int) 1=j-i:=by
 unfold Builtin.Slice.slicePlaces;have a:(1:Int) > 0:=by omega
 simp only[a,if_true,Int.ediv_one]
 split <;> omega
theorem jV (p:IsPart v o) (h:Q o s):wpAny (model prog w) A (Builtin.Slice.slicePartIndex v) Q E s:=by
 cases p with
 | none=>exact slicePart_none h
 | int i t=>exact slicePart_int h
theorem gz {lo hi:Option Int}{n:Nat}{Q:Int × Int × Nat->Shared->Prop}(f:s.heap.IsSliceOf I z G .none) (c:IsPart z lo) (e:IsPart G hi)
    (h:Q (((sIx n 0 lo:Nat):Int),1,sIx n n hi-sIx n 0 lo) s):wpAny (model prog w) A (Builtin.Slice.sliceApplied (.ref I) (pure (n:Int))) Q E s:=by
 obtain⟨g,a,d,b⟩:=id f;unfold Builtin.Slice.sliceApplied Builtin.Slice.sliceFields;refine Bz (Bz (Ck a b (x:=z) rfl (Bz (Ck a b (x:=G) rfl (Bz (Ck a b (x:=.none) rfl (BC ?_)))))));refine Bz (slicePart_none ?_);show wpAny _ _ (if ((1:Int)==0)=true then _ else _) _ _ s;rw[if_neg (by decide)];refine Bz (jV c (Bz (jV e (Bz (BC ?_)))));show wpAny _ _ (match Builtin.Slice.sliceAdjust lo hi 1 (n:Int) with | (lo,hi)=>pure (lo,(1:Int),Builtin.Slice.slicePlaces lo hi 1)) _ _ s;rw[ro lo hi n];show wpAny _ _ (pure (((sIx n 0 lo:Nat):Int),(1:Int),Builtin.Slice.slicePlaces ((sIx n 0 lo:Nat):Int) ((sIx n n hi:Nat):Int) 1)) _ _ s;rw[rO];exact BC h
theorem vN (xs:Array Value) (i k:Nat):((List.range k).filterMap λ(m:Nat)=>xs[((i:Int)+(m:Int) * 1).toNat]?).toArray=((xs.toList.drop i).take k).toArray:=by
 have e:(λ(m:Nat)=>xs[((i:Int)+(m:Int) * 1).toNat]?)=λm=>xs[i+m]?:=by
  funext m
  have:((i:Int)+(m:Int) * 1).toNat=i+m:=by omega
  rw[this]
 rw[e];have:=pick_run xs i k;rw[List.filterMap_map] at this;have a:((λx=>xs[x]?) ∘ λx=>i+x)=λm=>xs[i+m]?:=rfl;rw[a] at this;rw[this]
theorem getItem_tuple_cut {items:Array Value}{lo hi:Option Int}(b:IsTup s.heap t items) (g:s.heap.IsSliceOf z G I .none) (j:IsPart G lo) (l:IsPart I hi)
    (i:¬ (sIx items.size 0 lo=0/\sIx items.size items.size hi=items.size))
    (h:Q (.ref s.heap.objs.size) { s with heap:=s.heap.push { cls:=.type "tuple",data:=.seq ((items.toList.drop (sIx items.size 0 lo)).take (sIx items.size items.size hi-sIx items.size 0 lo)).toArray } })
    (hsz:items.size<=sizeLine):wpAny (model prog w) A (getItem (.ref t) (.ref z)) Q E s:=by
 have a:sizeOk (.seq ((items.toList.drop (sIx items.size 0 lo)).take (sIx items.size items.size hi-sIx items.size 0 lo)).toArray):=by
  show ((items.toList.drop (sIx items.size 0 lo)).take (sIx items.size items.size hi-sIx items.size 0 lo)).toArray.size<=sizeLine;rw[BY,Ch,CB,CQ];omega
 have o:sIx items.size items.size hi<=items.size:=zH _ _ (BB _) hi;obtain⟨n,d,e,k⟩:=id g;have f:s.TypeIs (.ref z) "slice":=⟨n,d,e⟩
 unfold getItem
 try with_reducible refine Ct ?_
 first | refine Bz (BC ?_) | skip
 refine Bz (wpAny_sequenceKey b.typeIs (by decide) ?_);refine Bz (wpAny_callSpecial?_slot (name:=Str.ofString "__getitem__") b.typeIs PyProof.Rows.slot_tuple_getitem
  (wpAny_call_entry PyProof.Rows.slot_tuple_getitem b.typeIs entry_tuple_getitem ?_ (args_tuple_getitem _ _)))
 show wpAny _ _ (Builtin.Tuple.tupleItemsOf (.ref t) >>= _) _ _ s;refine Bz (tupleItemsOf_ b ?_);refine Bz (wpAny_typeOf f ?_);rw[if_pos (by decide)];refine Bz (gz g j l ?_);have c:¬ ((((sIx items.size 0 lo:Nat):Int)==0&&(1:Int)==1&&(sIx items.size items.size hi-sIx items.size 0 lo)==items.size)=true):=by
  intro q;rw[Co,Co] at q;have p:((sIx items.size 0 lo:Nat):Int)=0:=eq_of_beq q.1.1;have r:sIx items.size items.size hi-sIx items.size 0 lo=items.size:=eq_of_beq q.2;exact i ⟨by omega,by omega⟩
 show wpAny _ _ (if (((sIx items.size 0 lo:Nat):Int)==0&&(1:Int)==1&&(sIx items.size items.size hi-sIx items.size 0 lo)==items.size)=true then _ else _) _ _ s;rw[if_neg c,vN]
 first
  | exact Bz (m:=Builtin.Tuple.tupleExact _) (wpAny_newObj_type (BC ⟨_,rfl,BC h⟩) a)
  | exact Bz (m:=Builtin.Tuple.tupleExact _) (wpAny_newObj_type (Bz (BC (BC ⟨_,rfl,BC h⟩))) a)
  | exact Bz (Bz (m:=Builtin.Tuple.tupleExact _) (wpAny_newObj_type (BC (BC ⟨_,rfl,BC h⟩)) a))
  | exact Bz (Bz (m:=Builtin.Tuple.tupleExact _) (wpAny_newObj_type (BC ⟨_,rfl,BC h⟩) a))
end
end HT
namespace L2
open PySem PySem.Spec PyProof.Rows
abbrev TO:=St->Hp->(Option Int->Hp->Prop)->Prop
def PO (X:Cx) (e:Option Expr) (t:TO):Prop :=
 ∀(pins:List (Addr × Obj)) (s:Shared) (σ:St) (H:Hp) (Q:Option Int->Hp->Prop),Inv X pins σ H s->t σ H Q ->
  wpAny (model X.prog X.w) X.A (evalPart e X.env) (λu s'=>∃o H',Inv X pins σ H' s'/\IsPart u o/\Q o H') X.xe s
def yN:TO:=λ_ H Q=>Q none H
def Bw (t:TE):TO:=λσ H Q=>t σ H λx H1=>∃i,x=.int i/\Q (some i) H1
section
variable {X:Cx}{e:Expr}{te:TE}{lo hi:Option Expr}{tl th:TO}{pos p2:Pos}
theorem cp:PO X none yN:=by
 intro a s b H Q I h;rw[evalPart_none];exact BC ⟨none,H,I,.none,h⟩
theorem bE (h:PE X e te):PO X (some e) (Bw te):=by
 intro a s g H Q I b;rw[evalPart_some];refine thn (h a s g H _ I b) λu k ⟨x,j,f,c,d⟩=>?_;obtain⟨i,rfl,q⟩:=d;obtain⟨t,rfl⟩:=c;exact⟨some i,j,f,.int i t,q⟩
def SlR (X:Cx) (r:V->Option Int->Option Int->Hp->VK->Prop):Prop :=
 ∀(pins:List (Addr × Obj)) (s:Shared) (σ:St) (H:Hp) (x:V) (v vl vu:Value) (lo hi:Option Int) (sl:Addr) (Q:VK),Inv X pins σ H s->RelV x v->s.heap.IsSliceOf sl vl vu .none->IsPart vl lo->IsPart vu hi->r x lo hi H Q ->
  ∃T id,typeLookup (.type T) "__getitem__"=pure (some (.builtin id))/\s.TypeIs v T/\wpAny (model X.prog X.w) X.A (getItem v (.ref sl)) (EP X pins σ Q) X.xe s
def tSl (r:V->Option Int->Option Int->Hp->VK->Prop) (te:TE) (tl th:TO):TE:=λσ H Q=>te σ H λx H1=>tl σ H1 λl H2=>th σ H2 λu H3=>r x l u H3 Q
theorem bG (F:SlR X r) (he:PE X e te) (m:PO X lo tl) (t:PO X hi th):PE X (.Subscript e (.Slice lo hi none p2) pos) (tSl r te tl th):=by
 intro a s d H Q I h;refine Subscript_ (thn (he a s d H _ I h) λv p ⟨x,J,C,D,E⟩=>?_);refine wpAny_Slice (thn (m a p d J _ C E) λg K ⟨l,o,G,k,y⟩=>thn (t a K d o _ G y) λf c ⟨u,i,L,w,n⟩=>?_);rw[evalPart_none];refine BC ?_;have j:Inv X a d i { c with heap:=c.heap.push { cls:=.type "slice",data:=.fields #[g,f,.none] } }:=L.kept (t':=c.toks) λb N q=>BU _ q;obtain⟨T,M,A,B,z⟩:=F a { c with heap:=c.heap.push { cls:=.type "slice",data:=.fields #[g,f,.none] } } d i x v g f l u c.heap.objs.size Q j D (Heap.IsSliceOf.new ..) k w n;show wpAny (model X.prog X.w) X.A (subscriptTail e (.Slice lo hi none p2) v (.ref c.heap.objs.size)) (EP X a d Q) X.xe { c with heap:=c.heap.push { cls:=.type "slice",data:=.fields #[g,f,.none] } };exact tail_any (ops:=[.ref c.heap.objs.size,v]) B A z (by with_unfolding_all rfl)
def cD (xs:LV) (lo hi:Option Int):LV:=(xs.drop (HT.sIx xs.length 0 lo)).take (HT.sIx xs.length xs.length hi-HT.sIx xs.length 0 lo)
theorem jy (xs:LV) (b a:Option Int):(cD xs b a).length<=xs.length:=by
 unfold cD;rw[Ch,CB];omega
def rSlT (K:W.Frag):V->Option Int->Option Int->Hp->VK->Prop:=λx lo hi H Q=>∃a xs,x=.ref a/\SqT K H a xs /\
 ¬ (HT.sIx xs.length 0 lo=0/\HT.sIx xs.length xs.length hi=xs.length)/\∀p,H p=none->Q (.ref p) (upd H p (.tup (cD xs lo hi)))
theorem oy:SlR X (rSlT X.K):=by
 intro i s w H x v z y e g B Q I m u l n h;obtain⟨a,d,rfl,t,p,q⟩:=h;cases m;obtain⟨f,r,j,k⟩:=I.tuple t;have c:f.toArray.size=d.length:=by rw[BY];exact r.length.symm
 refine⟨"tuple",_,PyProof.Rows.slot_tuple_getitem.lookup,j.typeIs,?_⟩;refine HT.getItem_tuple_cut j u l n (by rw[c];exact p) ?_ (by rw[c];exact k);rw[c];refine⟨.ref s.heap.objs.size,_,I.laid (t':=s.toks) (o:=.tup (cD d e g)) (λb A q=>BU _ q) (BB _) ?_,rfl,q _ (I.hok.fresh (BB _))⟩;exact⟨BP (jy d e g) k,_,(r.drop (HT.sIx d.length 0 e)).take (HT.sIx d.length d.length g-HT.sIx d.length 0 e),TupN.new _ _⟩
def Bo (K:W.Frag):R2:=λx y H Q=>∃a b xs ys,x=.ref a/\y=.ref b/\SqT K H a xs/\SqT K H b ys/\xs≠[]/\xs.length+ys.length<=sizeLine /\
 (ys=[]->Q (.ref a) H)/\(ys≠[]->∀p,H p=none->Q (.ref p) (upd H p (.tup (xs++ys))))
theorem Vals.nil_iff (r:Vals xs us):us=[] ↔ xs=[]:=by
 cases r with
 | nil=>simp
 | cons _ _=>simp
theorem yP:OpR X (binaryOp .Add) (Bo X.K):=by
 intro e s B H x y v u Q I l p h;obtain⟨a,b,t,k,rfl,rfl,m,j,r,g,A,n⟩:=h;cases l;cases p;obtain⟨i,d,p1,_⟩:=I.tuple m;obtain⟨f,c,p2,_⟩:=I.tuple j;refine HT.cat_tup p1 p2 (λz=>r (d.nil_iff.mp z)) (λz=>⟨.ref a,H,I,rfl,A (c.nil_iff.mp z)⟩) (λz=>?_) (by rw[<- d.length,<- c.length];exact g);refine⟨.ref s.heap.objs.size,_,I.laid (t':=s.toks) (o:=.tup (t++k)) (λb C q=>BU _ q) (BB _) ?_,rfl,n (λw=>z (c.nil_iff.mpr w)) _ (I.hok.fresh (BB _))⟩;exact⟨by rw[BJ];exact g,_,d.append c,TupN.new _ _⟩
end
def ixN (n:Nat) (i:Int):Option Nat:=if 0<=i then (if i<n then some i.toNat else none) else if -(n:Int)<=i then some (i+n).toNat else none
def atI {α:Type}(xs:List α) (i:Int):Option α:=(ixN xs.length i).bind λj=>xs[j]?
theorem lQ (h:ixN n i=some j):seqIndex? i n=some j /\ j<n /\ -(n:Int) <= i /\ i<n := by
 unfold ixN at h;by_cases b:0<=i
 ·rw[if_pos b] at h;by_cases a:i<n
  ·rw[if_pos a] at h;have e:i.toNat=j:=BD h;exact⟨by rw[seqIndex_of b a,e],by omega,by omega,a⟩
  ·rw[if_neg a] at h;cases h
 ·rw[if_neg b] at h;by_cases a:-(n:Int)<=i
  ·rw[if_pos a] at h;have e:(i+n).toNat=j:=BD h;exact⟨by rw[seqIndex_neg (by omega) a,e],by omega,a,by omega⟩
  ·rw[if_neg a] at h;cases h
theorem lI (h:atI xs i=some v):∃j,seqIndex? i xs.length=some j/\xs[j]? = some v/\j<xs.length/\-(xs.length:Int)<=i/\i<xs.length:=by
 unfold atI at h;cases e:ixN xs.length i with
 | none=>rw[e] at h;cases h
 | some j =>
  rw[e] at h;obtain⟨a,c,d,b⟩:=lQ e;exact⟨j,a,h,c,d,b⟩
theorem bj {α:Type}{xs:List α}{j:Nat}{v:α}(h:xs[j]? = some v):atI xs (j:Int)=some v:=by
 have a:j<xs.length:=(BF.mp h).1;have e:ixN xs.length (j:Int)=some j:=by
  unfold ixN;rw[if_pos (by omega),if_pos (by omega)];simp
 unfold atI;rw[e];exact h
theorem om (xs:List α) (v:α):atI (xs++[v]) (-1)=some v:=by
 have a:(xs++[v]).length=xs.length+1:=by simp
 have e:ixN (xs++[v]).length (-1)=some xs.length:=by
  unfold ixN;rw[a,if_neg (by decide),if_pos (by omega)];congr 1;omega
 unfold atI;rw[e];show (xs++[v])[xs.length]? = some v;simp
def pP (b:Expr):Prop:=∀o i,subscripted b false o i=operate [o,i] (getItem o i)
def IxR (X:Cx) (r:R2):Prop :=
 ∀(value slice:Expr) (pins:List (Addr × Obj)) (s:Shared) (σ:St) (H:Hp) (x y:V) (v u:Value) (Q:VK),Inv X pins σ H s->RelV x v->RelV y u->r x y H Q ->
  subscripted slice false v u=operate [v,u] (getItem v u)->wpAny (model X.prog X.w) X.A (subscriptTail value slice v u) (EP X pins σ Q) X.xe s
def MtR (X:Cx) (id:String) (r:V->LV->Hp->VK->Prop):Prop :=
 ∀(pins:List (Addr × Obj)) (s:Shared) (σ:St) (H:Hp) (x:V) (xs:LV) (v:Value) (us:LW) (Q:VK),Inv X pins σ H s->RelV x v->Vals xs us->r x xs H Q ->
  wpAny (model X.prog X.w) X.A (call (.builtin id) (v::us)) (EP X pins σ Q) X.xe s
section
variable {X:Cx}{a b:Expr}{ta tb:TE}{pos:Pos}
theorem gU (j:IxR X r) (f:PE X a ta) (n:PE X b tb) (i:pP b):PE X (.Subscript a b pos) (tOp r ta tb):=by
 intro c s d H Q I h;exact Subscript_ (vM f n I h λv u m x y l k e g q=>j a b c m d l x y v u Q k e g q (i _ _))
def rIxL (K:W.Frag):R2:=λx y H Q=>∃p xs i v,x=.ref p/\y=.int i/\SqL K H p xs/\atI xs i=some v/\Q v H
def rIxT (K:W.Frag):R2:=λx y H Q=>∃p xs i v,x=.ref p/\y=.int i/\SqT K H p xs/\atI xs i=some v/\Q v H
def rIxS:R2:=λx y H Q=>∃z i c,x=.str z/\y=.int i/\z.length<=sizeLine/\atI z.cps.toList i=some c/\Q (.str ⟨#[c]⟩) H
theorem xY:IxR X (rIxL X.K) := by
 intro l k a s n H x y v u Q I C J h A;obtain⟨p,P,i,z,rfl,rfl,K,D,q⟩:=h;cases C;obtain⟨t,rfl⟩:=J;obtain⟨e,r,f,O⟩:=I.list K;obtain⟨j,c,E,N,L,G⟩:=lI D;obtain⟨w,m,g⟩:=r.get E;have B:=r.length;have M:=hJ;have b:EP X a n Q w s:=⟨z,H,I,g,q⟩
 by_cases o:0<=i
 ·have d:i.toNat=j:=by
     rw[seqIndex_of o G] at c;exact BD c
  exact item_listR f.isList o (by omega) (by rw[d];simpa using m) b A
 ·have d:(i+(e.toArray.size:Int)).toNat=j:=by
     rw[seqIndex_neg (by omega) L] at c;rw[BY,<- B];exact BD c
  exact subscriptTail_builtinR (x:=w) f.isList.typeIs slot_list_getitem.lookup
   (wpAny_getItem_list_neg (Q:=λr F=>r=w/\EP X a n Q r F) f.isList (by omega) (by rw[BY] <;> omega) (by omega) (by rw[d];simpa using m) ⟨rfl,b⟩) A
theorem AJ:IxR X (rIxT X.K):=by
 intro e d a s g H x y v u Q I n C h F;obtain⟨p,M,i,z,rfl,rfl,D,o,q⟩:=h;cases n;obtain⟨t,rfl⟩:=C;obtain⟨l,r,f,L⟩:=I.tuple D;obtain⟨j,E,A,J,N,K⟩:=lI o;obtain⟨w,k,c⟩:=r.get A;have m:=r.length;have G:=hJ;have b:EP X a g Q w s:=⟨z,H,I,c,q⟩
 exact subscriptTail_builtinR (x:=w) f.typeIs slot_tuple_getitem.lookup
  (getItem_tuple (j:=j) (Q:=λr B=>r=w/\EP X a g Q r B) f (by omega) (by omega) (by rw[BY,<- m];exact E) (by simpa using k) ⟨rfl,b⟩) F
theorem zR:IxR X rIxS:=by
 intro b a d s B H x y v u Q I g n h p;obtain⟨z,i,c,rfl,rfl,D,k,q⟩:=h;obtain⟨t,rfl⟩:=g;obtain⟨E,rfl⟩:=n;obtain⟨j,e,l,C,r,m⟩:=lI k;have f:z.cps.toList.length=z.length:=by simp[Str.length]
 rw[f] at e r m;have A:=hJ;exact tail_any (typeIs_str s z t) slot_str_getitem.lookup (getItem_str (c:=c) (by
  have w:decide (i < -(2 ^ 63:Int))=false:=BL (by omega);have o:decide (i ≥ 2 ^ 63)=false:=BL (by omega);rw[w,o,Bool.or_false]) (by rw[e];simpa using l) ⟨.str ⟨#[c]⟩,H,I.tok _,⟨_,rfl⟩,q⟩) p
theorem rV (its:LW) (n j:Nat) (u:Value):Obj.mapSeq (·.setIfInBounds j u) { cls:=.type "list",data:=.seq its.toArray n }={ cls:=.type "list",data:=.seq (its.set j u).toArray n }:=by
 simp[Obj.mapSeq]
theorem Inv.lst (I:Inv X pins σ H s) (h:H p=some (.lst xs)) :
    ∃(its:LW) (n:Nat),Vals xs its/\s.heap.get? p=some { cls:=.type "list",data:=.seq its.toArray n }/\xs.length<=sizeLine:=by
 obtain⟨z,its,n,r,e⟩:=I.hok p _ h;exact⟨its,n,r,e,z⟩
theorem Inv.lstUpd {xs ys:LV}{its its':LW}{n n':Nat}{f:Obj->Obj}(I:Inv X pins σ H s) (h:H p=some (.lst xs))
    (c:s.heap.get? p=some { cls:=.type "list",data:=.seq its.toArray n }) (a:f { cls:=.type "list",data:=.seq its.toArray n }={ cls:=.type "list",data:=.seq its'.toArray n' }) (r:Vals ys its') (d:ys.length<=sizeLine) (t:Nat) :
    Inv X pins σ (upd H p (.lst ys)) { s with heap:=s.heap.update p f,toks:=t }:=by
 have e:(s.heap.update p f).get? p=some { cls:=.type "list",data:=.seq its'.toArray n' }:=by rw[Dr f c (by rw[a] <;> rfl),a]
 refine I.write (x:=p) (e:=p) (by rw[h];trivial) (.inl rfl) (λb u g q=>(Dz _ _ (Ne.symm g)).trans q) ⟨_,e⟩ ?_;exact⟨d,its',n',r,e⟩
def AU:V->V->V->Hp->(Hp->Prop)->Prop:=λo i v H Q=>∃p xs k j,o=.ref p/\i=.int k/\H p=some (.lst xs)/\ixN xs.length k=some j/\Q (upd H p (.lst (xs.set j v)))
theorem wM:wZ X AU := by
 intro b s A H o i v J K u Q I B E z h;obtain⟨p,D,k,j,rfl,rfl,l,y,q⟩:=h;cases B;obtain⟨t,rfl⟩:=E;obtain⟨a,n,r,e,C⟩:=I.lst l;obtain⟨c,G,g,x⟩:=lQ y;have d:=r.length;have F:=hJ;have m:Inv X b A (upd H p (.lst (D.set j v))) { s with heap:=s.heap.update p (Obj.mapSeq (·.setIfInBounds j u)) } :=
  I.lstUpd l e (rV a n j u) (r.set z j) (by rw[CU];exact C) s.toks
 by_cases w:0<=k
 ·have f:k.toNat=j:=by
     rw[seqIndex_of w x] at c;exact BD c
  exact W.ki_setAt e w (by omega) (by rw[BY,<- d];exact x) (by rw[f];exact⟨_,m,q⟩)
 ·have f:(k+(a.toArray.size:Int)).toNat=j:=by
     rw[seqIndex_neg (by omega) g] at c;rw[BY,<- d];exact BD c
  exact W.ki_setBack e (by omega) (by rw[BY,<- d];exact g) (by omega) (by rw[f];exact⟨_,m,q⟩)
theorem nu (b a:Option Int) (n:Nat):(sliceBounds b a none n).1=((HT.sIx n 0 b:Nat):Int) /\ (sliceBounds b a none n).2.1=((HT.sIx n n a:Nat):Int) /\ (sliceBounds b a none n).2.2=1 := by
 refine⟨?_,?_,rfl⟩
 ·cases b with
  | none=>simp[sliceBounds,HT.sIx]
  | some i =>
   simp only[sliceBounds,HT.sIx,Option.getD_none,show (1:Int) > 0 by decide,if_true];by_cases h:i<0
   ·simp only[h,if_true] <;> omega
   ·simp only[h,if_false] <;> omega
 ·cases a with
  | none=>simp[sliceBounds,HT.sIx]
  | some i =>
   simp only[sliceBounds,HT.sIx,Option.getD_none,show (1:Int) > 0 by decide,if_true];by_cases h:i<0
   ·simp only[h,if_true] <;> omega
   ·simp only[h,if_false] <;> omega
theorem mO (a:LW) (b c:Option Int):slicePick a.toArray b c none=((a.drop (HT.sIx a.length 0 b)).take (HT.sIx a.length a.length c-HT.sIx a.length 0 b)).toArray:=by
 obtain⟨e,d,f⟩:=nu b c a.toArray.size;unfold slicePick;rw[e,d,f];simp only[sliceRange_one,pick_run,BY] <;> rfl
def rSlL (K:W.Frag):V->Option Int->Option Int->Hp->VK->Prop:=λx lo hi H Q=>∃a xs,x=.ref a/\SqL K H a xs/\∀p,H p=none->Q (.ref p) (upd H p (.lst (cD xs lo hi)))
theorem yw:SlR X (rSlL X.K):=by
 intro g s u H x v y w e f A Q I l t k m h;obtain⟨a,c,rfl,n,q⟩:=h;cases l;obtain⟨j,r,i,p⟩:=I.list n;have d:=r.length;refine⟨"list",_,slot_list_getitem.lookup,i.isList.typeIs,?_⟩;refine wpAny_getItem_list_slice i.isList t k m .none (by simp) ?_ (by rw[BY] <;> omega);rw[mO,<- d];refine⟨.ref s.heap.objs.size,_,I.laid (t':=s.toks) (o:=.lst (cD c e f)) (λb z q=>BU _ q) (BB _) ?_,rfl,q _ (I.hok.fresh (BB _))⟩;exact⟨BP (jy c e f) p,_,0,(r.drop (HT.sIx c.length 0 e)).take (HT.sIx c.length c.length f-HT.sIx c.length 0 e),Ce _ rfl⟩
def eH:V->Bool
 | .non=>true
 | .bl _=>true
 | .int _=>true
 | .str _=>true
 | _=>false
def eqV:V->V->Bool
 | .non,.non=>true
 | .bl a,.bl b=>a==b
 | .bl a,.int b=>(if a then 1 else 0)==b
 | .int a,.bl b=>a==(if b then 1 else 0)
 | .int a,.int b=>a==b
 | .str a,.str b=>a==b
 | _,_=>false
theorem zU (e:RelV y u) (c:RelV x v) (g:eH y=true) (f:eH x=true):SeqAt.EqAt A s u v (eqV y x):=by
 cases y with
 | non =>
  cases e;cases x with
  | non=>cases c;exact SeqAt.EqAt.same _
  | bl b=>cases c;exact SeqAt.EqAt.none_bool b
  | int b=>obtain⟨t,rfl⟩:=c;exact SeqAt.EqAt.none_int b t
  | str b=>obtain⟨t,rfl⟩:=c;exact SeqAt.EqAt.none_str b t
  | _=>exact absurd (show false=true from f) Cf
 | bl a =>
  cases e;cases x with
  | non=>cases c;exact SeqAt.EqAt.bool_none a
  | bl b=>cases c;exact SeqAt.EqAt.bool_bool a b
  | int b=>obtain⟨t,rfl⟩:=c;exact SeqAt.EqAt.bool_int a b t
  | str b=>obtain⟨t,rfl⟩:=c;exact SeqAt.EqAt.bool_str a b t
  | _=>exact absurd (show false=true from f) Cf
 | int a =>
  obtain⟨d,rfl⟩:=e;cases x with
  | non=>cases c;exact SeqAt.EqAt.int_none a d
  | bl b=>cases c;exact SeqAt.EqAt.int_bool a d b
  | int b=>obtain⟨t,rfl⟩:=c;exact SeqAt.EqAt.int_int a d b t
  | str b=>obtain⟨t,rfl⟩:=c;exact SeqAt.EqAt.int_str a d b t
  | _=>exact absurd (show false=true from f) Cf
 | str a =>
  obtain⟨d,rfl⟩:=e;cases x with
  | non=>cases c;exact SeqAt.EqAt.str_none a d
  | bl b=>cases c;exact SeqAt.EqAt.str_bool a d b
  | int b=>obtain⟨t,rfl⟩:=c;exact SeqAt.EqAt.str_int a d b t
  | str b=>obtain⟨t,rfl⟩:=c;exact SeqAt.EqAt.str_str a d b t
  | _=>exact absurd (show false=true from f) Cf
 | _=>exact absurd (show false=true from g) Cf
def eqU (x:V) (u:Value):Bool:=match u with
 | .none=>eqV .non x
 | .bool b=>eqV (.bl b) x
 | .int i _=>eqV (.int i) x
 | .str z _=>eqV (.str z) x
 | _=>false
theorem oD (r:RelV y u) (f:eH y=true):eqU x u=eqV y x:=by
 cases y with
 | non=>cases r;rfl
 | bl b=>cases r;rfl
 | int i=>obtain⟨t,rfl⟩:=r;rfl
 | str z=>obtain⟨t,rfl⟩:=r;rfl
 | _=>exact absurd (show false=true from f) Cf
theorem hY:∀ {xs:LV}{us:LW},Vals xs us->xs.all eH=true->us.any (eqU x)=xs.any λy=>eqV y x
 | _,_,.nil,_=>rfl
 | y::xs,u::us,.cons r t,f=>by
  rw[List.all_cons,Co] at f;rw[De,De,oD r f.1,hY t f.2]
theorem fN (rx:RelV x v) (fx:eH x=true):∀ {xs:LV}{us:LW},Vals xs us->xs.all eH=true->∀u∈us,SeqAt.EqAt A s u v (eqU x u)
 | _,_,.nil,_=>λu hu=>by cases hu
 | y::xs,u::us,.cons r t,f=>λu' hu=>by
  rw[List.all_cons,Co] at f;rcases BH.mp hu with rfl | hu
  ·rw[oD r f.1];exact zU r rx f.1 fx
  ·exact fN rx fx t f.2 u' hu
def inV (x:V) (xs:LV):Bool:=xs.any λy=>eqV y x
def rIn (K:W.Frag) (neg:Bool):R2:=λx y H Q=>∃p xs,y=.ref p/\(SqL K H p xs∨SqT K H p xs)/\eH x=true/\xs.all eH=true/\Q (.bl (if neg then !inV x xs else inV x xs)) H
theorem uo:OpR X (compareOp .In) (rIn X.K false):=by
 intro g s l H x y v u Q I f j h;obtain⟨p,m,rfl,b,i,c,q⟩:=h;cases j;rcases b with b | b
 ·obtain⟨a,r,d,k⟩:=I.list b;refine SeqAt.in_listAt (eqU x) d.isList (λw e=>fN f i r c w (by simpa using e)) ⟨.bl _,H,I,rfl,?_⟩;rw[show a.toArray.any (eqU x)=a.any (eqU x) by simp,hY r c];exact q
 ·obtain⟨a,r,d,k⟩:=I.tuple b;refine SeqAt.in_tupleAt (eqU x) d (λw e=>fN f i r c w (by simpa using e)) ⟨.bl _,H,I,rfl,?_⟩;rw[show a.toArray.any (eqU x)=a.any (eqU x) by simp,hY r c];exact q
theorem nZ:OpR X (compareOp .NotIn) (rIn X.K true):=by
 intro g s l H x y v u Q I f j h;obtain⟨p,m,rfl,b,i,c,q⟩:=h;cases j;rcases b with b | b
 ·obtain⟨a,r,d,k⟩:=I.list b;refine SeqAt.notIn_listAt (eqU x) d.isList (λw e=>fN f i r c w (by simpa using e)) ⟨.bl _,H,I,rfl,?_⟩;rw[show a.toArray.any (eqU x)=a.any (eqU x) by simp,hY r c];exact q
 ·obtain⟨a,r,d,k⟩:=I.tuple b;refine SeqAt.notIn_tupleAt (eqU x) d (λw e=>fN f i r c w (by simpa using e)) ⟨.bl _,H,I,rfl,?_⟩;rw[show a.toArray.any (eqU x)=a.any (eqU x) by simp,hY r c];exact q
theorem oN:dJ X (.type "list") (λxs H Q => ∃p ys, xs=[.ref p] /\ (SqL X.K H p ys ∨ SqT X.K H p ys) /\ ∀l, H l=none -> Q (.ref l) (upd H l (.lst ys))) := by
 intro i s y H xs A Q I r h;obtain⟨p,ys,rfl,k,q⟩:=h;obtain⟨u,rfl,z⟩:=cI r;cases z;have j:∀(a:LW),Vals ys a->ys.length<=sizeLine->∀(c:Heap) (f:Nat),(∀b o',s.heap.get? b=some o'->c.get? b=some o') ->
     c.get? s.heap.objs.size=some { cls:=.type "list",dict:=none,data:=.seq a.toArray f,slots:=#[] }->EP X i y Q (.ref s.heap.objs.size) { s with heap:=c }:=λa d m c f g e =>
  ⟨.ref s.heap.objs.size,_,I.laid (t':=s.toks) g (BB _) (show ObjOk X.prog X.w _ c _ (.lst ys) from⟨m,a,f,d,e⟩),rfl,q _ (I.hok.fresh (BB _))⟩
 rcases k with k | k
 ·obtain⟨a,d,v,m⟩:=I.list k;have t:=d.length;obtain⟨o,x,w,n,hd⟩:=v.isList;exact call_list_seq p (.inl rfl) x w hd (λc f g e=>j a d m c f g e) (by simp only[BY] <;> omega)
 ·obtain⟨a,d,v,m⟩:=I.tuple k;have t:=d.length;obtain⟨o,x,w,n,hd⟩:=v;exact call_list_seq p (.inr rfl) x w hd (λc f g e=>j a d m c f g e) (by simp only[BY] <;> omega)
theorem gj:dJ X (.type "tuple") (λxs H Q => ∃p ys, xs=[.ref p] /\ ((SqL X.K H p ys /\ ∀l, H l=none -> Q (.ref l) (upd H l (.tup ys))) ∨ (SqT X.K H p ys /\ Q (.ref p) H))) := by
 intro a s j H xs x Q I r h;obtain⟨p,ys,rfl,h⟩:=h;obtain⟨u,rfl,v⟩:=cI r;cases v;rcases h with⟨i,q⟩ | ⟨i,q⟩
 ·obtain⟨c,f,g,m⟩:=I.list i;have n:=f.length;refine call_tuple_list g.isList (λd t=>?_) (by simp only[BY] <;> omega);have k:Inv X a j H { s with heap:=d }:=I.kept (t':=s.toks) t;have w:Inv X a j (upd H d.objs.size (.tup ys)) { s with heap:=d.push { cls:=.type "tuple",data:=.seq c.toArray } } :=
   k.laid (t':=s.toks) (λb o e=>BU _ e) (BB _) (show ObjOk X.prog X.w _ _ _ (.tup ys) from⟨m,c,f,TupN.new _ _⟩)
  exact⟨.ref d.objs.size,_,w,rfl,q _ (k.hok.fresh (BB _))⟩
 ·obtain⟨c,f,g,m⟩:=I.tuple i;exact call_tuple_same g ⟨.ref p,H,I,rfl,q⟩
def tyV (K:W.Frag) (T:String) (x:V) (H:Hp):Prop := match x with
 | .str _=>T="str"
 | .int _=>T="int"
 | .ref p=>(T="list"/\∃xs,SqL K H p xs)∨(T="tuple"/\∃o,K.lookup p=some o/\o.cls=.type "tuple"/\o.dict=none) ∨
     (T="dict"/\((∃kvs,H p=some (.dK kvs))∨∃kvs,H p=some (.dT kvs)))∨(T="set"/\∃S n,H p=some (.set S n))
 | _=>False
theorem se (I:Inv X pins σ H s) (r:RelV x v) (f:tyV X.K T x H) :
    s.TypeIs v T/\∀a,v=.ref a->∃G,s.heap.get? a=some G/\G.dict=none:=by
 cases x with
 | str z =>
  obtain⟨t,rfl⟩:=r;cases (show T="str" from f);exact⟨typeIs_str s z t,λ_ e=>nomatch e⟩
 | int i =>
  obtain⟨t,rfl⟩:=r;cases (show T="int" from f);exact⟨typeIs_int s i t,λ_ e=>nomatch e⟩
 | ref p =>
  cases r;rcases f with⟨rfl,q,l⟩ | ⟨rfl,o,b,m,hd⟩ | ⟨rfl,b⟩ | ⟨rfl,S,n,b⟩
  ·obtain⟨k,_,j,_⟩:=I.list l;refine⟨j.isList.typeIs,λa e=>?_⟩;cases e;obtain⟨o,n,e,c,hd,_⟩:=j;exact⟨o,e,hd⟩
  ·refine⟨⟨o,I.kIn p o b,m⟩,λa e=>?_⟩;cases e;exact⟨o,I.kIn _ o b,hd⟩
  ·have z:∃o, s.heap.get? p=some o /\ o.ExactDict := by
      rcases b with⟨h,b⟩ | ⟨h,b⟩
      ·obtain⟨_,_,_,_,o,_,_,e,d,_⟩:=I.hok p _ b;exact⟨o,e,d⟩
      ·obtain⟨_,_,_,_,o,_,_,e,d,_⟩:=I.hok p _ b;exact⟨o,e,d⟩
   obtain⟨o,e,d⟩:=z;refine⟨⟨o,e,d.1⟩,λa g=>?_⟩;cases g;exact⟨o,e,d.2.1⟩
  ·obtain⟨o,_,_,_,e,d,_⟩:=I.hok p _ b;refine⟨⟨o,e,d.1⟩,λa g=>?_⟩;cases g;exact⟨o,e,d.2.1⟩
 | _=>exact False.elim f
def Ay (K:W.Frag) (T:String) (r:V->LV->Hp->VK->Prop) (to:TE):TE:=λσ H Q=>to σ H λx H1=>tyV K T x H1/\r x [] H1 Q
def tBM (K:W.Frag) (T:String) (r:V->LV->Hp->VK->Prop) (to:TE) (t:TA):TE:=λσ H Q=>to σ H λx H1=>tyV K T x H1/\t σ H1 λxs H2=>r x xs H2 Q
variable {o e:Expr}{es:List Expr}{to:TE}{t:TA}{name:Str}{apos cpos:Pos}{T id:String}{r:V->LV->Hp->VK->Prop}
theorem Ag (m:PlainAttrs T) (d:Slot T name id) (e:typeOf (.builtin id)=pure (.type "method_descriptor")) (p:MtR X id r) (n:PE X o to)
    (b:attributeBase o name X.env (eval o X.env)=eval o X.env:=by rfl) (c:(apos.endLine==cpos.line)=true:=by rfl):PE X (.Call (.Attribute o name apos) [] [] cpos) (Ay X.K T r to):=by
 intro a s f H Q I h;refine wpAny_Call_method0_late b c (thn (n a s f H _ I h) λv l ⟨x,u,g,i,k,t⟩=>?_);obtain⟨q,j⟩:=se g i k;exact⟨T,id,m,d,e,q,j,Calls.callWith_builtin rfl (PySem.evalArgs_none (p a l f u x [] v [] Q g i .nil t))⟩
theorem gS (z:PlainAttrs T) (f:Slot T name id) (j:typeOf (.builtin id)=pure (.type "method_descriptor")) (D:MtR X id r) (C:PE X o to) (y:PA X (e :: es) t)
    (c:attributeBase o name X.env (eval o X.env)=eval o X.env:=by rfl)
    (g:((backTo cpos (starEach (e::es) X.env)).all (λx=>!x.1)&&(backToKw cpos (keywordEach [] X.env)).all (λx=>x.1.isSome)
     && decide ((e::es).length+([]:List Keyword).length+(if ([]:List Keyword).isEmpty then 0 else 1)<30))=true:=by rfl)
    (d:(apos.endLine==cpos.line)=true:=by rfl) (F:starEach (e::es) X.env=(false,eval e X.env)::starEach es X.env:=by rfl) (b:(backTo cpos (starEach es X.env)).any (·.1)=false:=by rfl) :
    PE X (.Call (.Attribute o name apos) (e::es) [] cpos) (tBM X.K T r to t):=by
 intro a s i H Q I h;refine wpAny_Call_method_late c g d rfl (thn (C a s i H _ I h) λv w ⟨x,L,l,m,u,G⟩=>?_);obtain⟨E,q⟩:=se l m u;refine⟨T,id,z,f,j,E,q,?_⟩;have k:=y cpos a w i L _ l G;rw[F] at k ⊢;refine Calls.callWith_builtin (by show (false||(backTo cpos (starEach es X.env)).any (·.1))=false;rw[b] <;> rfl) (Calls.evalArgs_plain ?_);exact thn k λn M ⟨A,p,K,J,B⟩=>D a M i p x A v n Q K m J B
end
def MtM (X:Cx) (id:String) (r:V->LV->Hp->VK->Prop):Prop :=
 ∀(pins:List (Addr × Obj)) (s:Shared) (σ:St) (H:Hp) (x:V) (xs:LV) (v:Value) (us:LW) (Q:VK),Inv X pins σ H s->RelV x v->Vals xs us->r x xs H Q ->
  wpAny (model X.prog X.w) X.A (call (.builtin id) (v::us)) (EP X pins σ Q) X.xe s
theorem Vals.one:∀ {x:V}{us:LW},Vals [x] us->∃u,us=[u]/\RelV x u
 | _,_,.cons r .nil=>⟨_,rfl,r⟩
theorem Vals.zero:∀ {us:LW},Vals [] us->us=[]
 | _,.nil=>rfl
theorem Vals.eraseIdx:∀ {xs:LV}{us:LW}(i:Nat),Vals xs us->Vals (xs.eraseIdx i) (us.eraseIdx i)
 | _,_,_,.nil=>.nil
 | _,_,0,.cons _ t=>t
 | _,_,i+1,.cons r t=>.cons r (Vals.eraseIdx i t)
theorem Vals.reverse (h:Vals xs us):Vals xs.reverse us.reverse:=by
 induction h with
 | nil=>exact .nil
 | cons r t ih=>rw[List.reverse_cons,List.reverse_cons];exact Vals.append ih (.cons r .nil)
theorem mj:∀(l:List α) (i:Nat),(l.eraseIdx i).length<=l.length
 | [],_=>BB _
 | _::_,0=>Nat.le_succ _
 | _::r,i+1=>Nat.succ_le_succ (mj r i)
section
variable {X:Cx}{pins:List (Addr × Obj)}{σ:St}{H:Hp}{s:Shared}{l b:Addr}{xs ys zs:LV}
theorem Inv.lset {its its':LW}{n:Nat}{f:Array Value->Array Value}{t':Nat}(I:Inv X pins σ H s) (a:H l=some (.lst xs))
    (e:s.heap.get? l=some { cls:=.type "list",data:=.seq its.toArray n }) (b:f its.toArray=its'.toArray) (g:Vals ys its') (c:ys.length<=sizeLine) :
    Inv X pins σ (upd H l (.lst ys)) { s with heap:=s.heap.update l (Obj.mapSeq f),toks:=t' }:=by
 have q:=PySem.IsL.update e f;rw[b] at q;refine I.write (x:=l) (e:=l) (by rw[a];exact trivial) (.inl rfl) (λi u h d=>(Dz s.heap (Obj.mapSeq f) (Ne.symm h)).trans d) ⟨_,q⟩ ?_;exact⟨c,its',_,g,q⟩
theorem Inv.lnew (I:Inv X pins σ H s) (b:Vals ys its) (a:ys.length<=sizeLine) :
    Inv X pins σ (upd H s.heap.objs.size (.lst ys)) { s with heap:=s.heap.push { cls:=.type "list",data:=.seq its.toArray },toks:=t' } :=
 I.laid (λ_ _ q=>BU _ q) (BB _) ⟨a,its,0,b,Ce _ rfl⟩
theorem Inv.fresh (I:Inv X pins σ H s):H s.heap.objs.size=none:=I.hok.fresh (BB _)
theorem Inv.lstM (I:Inv X pins σ H s) (a:H l=some (.lst xs)):xs.length<=sizeLine/\∃(its:LW) (n:Nat),Vals xs its/\xs.length=its.length/\s.heap.get? l=some { cls:=.type "list",data:=.seq its.toArray n }:=by
 obtain⟨z,its,n,r,e⟩:=I.hok l _ a;exact⟨z,its,n,r,r.length,e⟩
theorem oP (h:n<=sizeLine):Builtin.List.listTooLong n=false:=by
 unfold Builtin.List.listTooLong;exact BL (by omega)
end
section
variable {X:Cx}
def qL:V->LV->Hp->VK->Prop:=λx vs H Q=>∃l xs y,x=.ref l/\vs=[y]/\H l=some (.lst xs)/\xs.length<sizeLine/\Q .non (upd H l (.lst (xs++[y])))
theorem mK:MtM X "list.append" qL:=by
 intro b s j H x m v i Q I f d h;obtain⟨l,p,y,rfl,rfl,c,o,q⟩:=h;cases f;obtain⟨u,rfl,g⟩:=d.one;obtain⟨z,a,n,r,k,e⟩:=I.lstM c;refine call_meets F.slot_list_append ⟨_,e,rfl⟩ F.entry_list_append (F.args_list_append_2 _ _) (PySem.list_append l a.toArray n u (by rw[BY];omega)) ⟨e,?_⟩;refine⟨.non,_,I.lset (its':=a++[u]) c e (by simp) (r.append (.cons g .nil)) ?_,rfl,q⟩;rw[BJ,List.length_singleton];omega
def kU:V->LV->Hp->VK->Prop:=λx vs H Q=>∃l b xs zs,x=.ref l/\vs=[.ref b]/\H l=some (.lst xs)/\H b=some (.lst zs)/\xs.length+zs.length<=sizeLine/\Q .non (upd H l (.lst (xs++zs)))
theorem uH:MtM X "list.extend" kU:=by
 intro g s C H x E v A Q I k j h;obtain⟨l,b,J,B,rfl,rfl,i,w,G,q⟩:=h;cases k;obtain⟨u,rfl,m⟩:=j.one;cases m;obtain⟨z,c,n,r,D,e⟩:=I.lstM i;obtain⟨K,a,y,t,o,p⟩:=I.lstM w;have f:c.toArray.size+a.toArray.size<=sizeLine:=by rw[BY,BY];omega
 have d:¬ (!c.toArray.isEmpty&&Builtin.List.listTooLong (c.toArray.size+a.toArray.size))=true:=by
  rw[oP f,Bool.and_false];exact Cf
 refine call_meets F.slot_list_extend ⟨_,e,rfl⟩ F.entry_list_extend (F.args_list_extend_2 _ _)
  (AutoSeq1.list_extend_list_list_0 l c.toArray n b a.toArray y d (by rw[BY];omega) (by omega)) ⟨e,p,?_⟩
 refine⟨.non,_,I.lset (its':=c++a) i e (by simp) (r.append t) ?_,rfl,q⟩;rw[BJ];omega
def ng:V->LV->Hp->VK->Prop:=λx vs H Q=>∃l xs i k y,x=.ref l/\vs=[.int i]/\H l=some (.lst xs)/\-(2 ^ 63)<=i/\i<2 ^ 63/\seqIndex? i xs.length=some k/\xs[k]? = some y/\Q y (upd H l (.lst (xs.eraseIdx k)))
theorem vI:MtM X "list.pop" ng:=by
 intro c s G H x J v E Q I m g h;obtain⟨l,D,i,k,y,rfl,rfl,d,C,o,B,f,q⟩:=h;cases m;obtain⟨u,rfl,p⟩:=g.one;obtain⟨t,rfl⟩:=p;obtain⟨z,a,n,r,j,e⟩:=I.lstM d;obtain⟨w,A,b⟩:=r.get f;refine call_meets F.slot_list_pop ⟨_,e,rfl⟩ F.entry_list_pop (F.args_list_pop_2 _ _)
  (MeetsSeq.list_pop_at l a.toArray n i t k w (fitsIndex_both C o) (by rw[BY,<- j];exact B) (by rw[<- Array.getElem?_toList];exact A) (by rw[BY];omega)) ⟨e,?_⟩
 refine⟨y,_,I.lset (its':=a.eraseIdx k) d e ?_ (r.eraseIdx k) ?_,b,q⟩
 ·show a.toArray.eraseIdxIfInBounds k=(a.eraseIdx k).toArray;rw[List.eraseIdxIfInBounds_toArray]
 ·have:=mj D k;omega
def jA:V->LV->Hp->VK->Prop:=λx vs H Q=>∃l xs,x=.ref l/\vs=[]/\H l=some (.lst xs)/\Q .non (upd H l (.lst xs.reverse))
theorem rM:MtM X "list.reverse" jA:=by
 intro c s j H x m v i Q I g f h;obtain⟨l,o,rfl,rfl,d,q⟩:=h;cases g;have b:=f.zero;subst b;obtain⟨z,a,n,r,k,e⟩:=I.lstM d;refine call_meets F.slot_list_reverse ⟨_,e,rfl⟩ F.entry_list_reverse (F.args_list_reverse_1 _) (AutoSeq1.list_reverse_list_0 l a.toArray n (by rw[BY];omega)) ⟨e,?_⟩;refine⟨.non,_,I.lset (its':=a.reverse) d e (by simp) r.reverse ?_,rfl,q⟩;rw[List.length_reverse];omega
def rCat:R2:=λx y H Q=>∃l b xs zs,x=.ref l/\y=.ref b/\H l=some (.lst xs)/\H b=some (.lst zs)/\xs.length+zs.length<=sizeLine/\∀p,H p=none->Q (.ref p) (upd H p (.lst (xs++zs)))
theorem zS:OpR X (binaryOp .Add) rCat:=by
 intro d s w H x y v u Q I f g h;obtain⟨l,b,C,t,rfl,rfl,m,p,B,q⟩:=h;cases f;cases g;obtain⟨z,c,n,r,A,e⟩:=I.lstM m;obtain⟨D,a,E,o,j,k⟩:=I.lstM p;refine PySem.P.add_list e k ?_ (by rw[BY,BY];omega);have i:c.toArray++a.toArray=(c++a).toArray:=by simp
 rw[i];exact⟨.ref _,_,I.lnew (t':=s.toks) (r.append o) (by rw[BJ];omega),rfl,q _ I.fresh⟩
end
section
variable {κ:Type} [DecidableEq κ]
def aI (kvs:List (κ × V)) (k:κ):Option V:=(kvs.find? λkv=>decide (kv.1=k)).map (·.2)
def aS (kvs:List (κ × V)) (k:κ) (v:V):List (κ × V) :=
 if (kvs.any λkv=>decide (kv.1=k))=true then kvs.map (λkv=>if kv.1=k then (kv.1,v) else kv) else kvs++[(k,v)]
theorem pj:aI ([]:List (κ × V)) k=none:=rfl
theorem cK {p:κ × V}{r:List (κ × V)}{k:κ}(e:p.1=k):aI (p::r) k=some p.2:=by simp[aI,CN,e]
theorem cL {p:κ × V}{r:List (κ × V)}{k:κ}(e:¬ p.1=k):aI (p::r) k=aI r k:=by simp[aI,CN,e]
theorem dM (k:κ):∀kvs:List (κ × V),(kvs.any λkv=>decide (kv.1=k))=(aI kvs k).isSome
 | []=>rfl
 | p::r=>by
  rw[De];by_cases e:p.1=k
  ·simp only[cK e,BI e,Bool.true_or,Option.isSome_some]
  ·rw[cL e,BL e,Bool.false_or];exact dM k r
theorem nY (k j:κ) (y:V):∀kvs:List (κ × V), aI (kvs.map λkv => if kv.1=k then (kv.1, y) else kv) j=(aI kvs j).map λx => if j=k then y else x
 | []=>rfl
 | p::r=>by
  have ih:=nY k j y r;rw[BZ];by_cases h:p.1=k
  ·rw[if_pos h];by_cases e:p.1=j
   ·rw[cK (p:=(p.1,y)) e,cK e,Option.map_some,if_pos (e.symm.trans h)]
   ·rw[cL (p:=(p.1,y)) e,cL e,ih]
  ·rw[if_neg h];by_cases e:p.1=j
   ·rw[cK (p:=p) e,cK e,Option.map_some,if_neg (λz=>h (e.trans z))]
   ·rw[cL (p:=p) e,cL e,ih]
theorem mw (k j:κ) (y:V):∀kvs:List (κ × V),aI kvs k=none->aI (kvs++[(k,y)]) j=if j=k then some y else aI kvs j
 | [],_=>by
  by_cases e:k=j
  ·rw[if_pos e.symm];exact cK (p:=(k,y)) e
  ·rw[if_neg (λz=>e z.symm)];exact cL (p:=(k,y)) e
 | p::r,hn=>by
  rw[List.cons_append];have hk:¬ p.1=k:=λz=>by rw[cK z] at hn;cases hn
  rw[cL hk] at hn;have ih:=mw k j y r hn;by_cases e:p.1=j
  ·rw[cK e,cK e,if_neg (λz=>hk (e.trans z))]
  ·rw[cL e,cL e,ih]
theorem cJ (kvs:List (κ × V)) (k j:κ) (y:V):aI (aS kvs k y) j=if j=k then some y else aI kvs j := by
 unfold aS;by_cases a:(kvs.any λc=>decide (c.1=k))=true
 ·rw[if_pos a,nY];rw[dM] at a;by_cases e:j=k
  ·obtain⟨x,b⟩:=CT.mp a;rw[if_pos e,e,b,Option.map_some,if_pos rfl]
  ·rw[if_neg e];cases aI kvs j with
   | none=>rfl
   | some x=>rw[Option.map_some,if_neg e]
 ·rw[if_neg a];refine mw k j y kvs ?_;rw[dM] at a;cases q:aI kvs k with
  | none=>rfl
  | some x=>rw[q] at a;exact(a rfl).elim
theorem bR (kvs:List (κ × V)) (k:κ) (v:V):(aS kvs k v).length<=kvs.length+1:=by
 unfold aS
 split
 ·rw[BA];omega
 ·rw[BJ,BN,Df];omega
theorem jL {kvs:List (κ × V)}{k:κ}(v:V) (h:aI kvs k=none):aS kvs k v=kvs++[(k,v)]:=by
 unfold aS;rw[dM,h];exact if_neg (by decide)
theorem RelO.isSome_eq (r:RelO o u):o.isSome=u.isSome:=by
 cases o with
 | none=>cases u with
  | none=>rfl
  | some _=>exact(show False from r).elim
 | some _=>cases u with
  | none=>exact(show False from r).elim
  | some _=>rfl
theorem KV.val {kvs:List (κ × V)}{G:List (κ × Value)}(r:KV kvs G) (k:κ):RelO (aI kvs k) (valueAt G k) := by
 unfold KV at r
 induction r with
 | nil=>exact True.intro
 | @cons p q ps qs h t ih =>
  obtain⟨c,d⟩:=h;by_cases e:p.1=k
  ·have a:q.1=k:=c.symm.trans e;have b:valueAt (q::qs) k=some q.2:=by simp[valueAt,CN,a]
   rw[cK e,b];exact d
  ·have a:¬ q.1=k:=λz=>e (c.trans z);have b:valueAt (q::qs) k=valueAt qs k:=by simp[valueAt,CN,a]
   rw[cL e,b];exact ih
theorem KV.any (r:KV kvs G) (k:κ):(kvs.any λz=>decide (z.1=k))=G.any λz=>decide (z.1=k):=by
 unfold KV at r
 induction r with
 | nil=>rfl
 | cons h t ih=>rw[De,De,ih,h.1]
theorem KV.repl (r:KV kvs I) (k:κ) (b:RelV y u) :
    KV (kvs.map λG=>if G.1=k then (G.1,y) else G) (I.map λG=>if G.1=k then (G.1,u) else G):=by
 unfold KV at r ⊢
 induction r with
 | nil=>exact .nil
 | @cons p q ps qs h t ih =>
  rw[BZ,BZ];refine .cons ?_ ih;obtain⟨a,c⟩:=h;by_cases e:p.1=k
  ·rw[if_pos e,if_pos (a.symm.trans e)];exact⟨a,b⟩
  ·rw[if_neg e,if_neg (λz=>e (a.trans z))];exact⟨a,c⟩
theorem KV.put (r:KV kvs z) (k:κ) (a:RelV y u):KV (aS kvs k y) (stored z k u):=by
 unfold aS stored;rw[r.any k];by_cases e:(z.any λb=>decide (b.1=k))=true
 ·rw[if_pos e,if_pos e];exact r.repl k a
 ·rw[if_neg e,if_neg e];exact Paired.snoc r ⟨rfl,a⟩
theorem KV.length (r:KV kvs z):kvs.length=z.length:=Paired.length r
end
theorem gp (r:RelV (kV k) u):(bF P w).is k u=true:=by
 cases k with
 | inl i=>obtain⟨t,e⟩:=(show ∃t,u=Value.int i t from r);subst e;exact pC P w i t
 | inr x=>obtain⟨t,e⟩:=(show ∃t,u=Value.str x t from r);subst e;exact gZ P w x t
theorem lX:∀ {ks:List Key}{us:LW},Vals (ks.map kV) us->ItemsAre (bF P w) ks us
 | [],_,r=>by rw[List.map_nil] at r;cases r;exact .nil
 | k::ks,_,r=>by
  rw[BZ] at r;cases r with
  | cons h t=>exact .cons (gp h) (lX t)
abbrev KT (H:Hp):List (List Key × V)->List (List Key × Addr × Value)->Prop:=Paired λp q=>p.1=q.1/\H q.2.1=some (.tup (p.1.map kV))/\RelV p.2 q.2.2
theorem KT.val {kvs:List (List Key × V)}{xs:List (List Key × Addr × Value)}(r:KT H kvs xs) (k:List Key):RelO (aI kvs k) ((atKey xs k).map (·.2)) := by
 induction r with
 | nil=>exact True.intro
 | @cons p q ps qs h t ih =>
  obtain⟨c,_,d⟩:=h;by_cases e:p.1=k
  ·have a:q.1=k:=c.symm.trans e;have b:atKey (q::qs) k=some q.2:=by simp[atKey,CN,a]
   rw[cK e,b];exact d
  ·have a:¬ q.1=k:=λz=>e (c.trans z);have b:atKey (q::qs) k=atKey qs k:=by simp[atKey,CN,a]
   rw[cL e,b];exact ih
theorem KT.repl (r:KT H kvs xs) (k:List Key) (c:RelV y u) :
    KT H (kvs.map λG=>if G.1=k then (G.1,y) else G) (xs.map (putAt k u)):=by
 induction r with
 | nil=>exact .nil
 | @cons p q ps qs h t ih =>
  rw[BZ,BZ];refine .cons ?_ ih;obtain⟨a,b,d⟩:=h;unfold putAt;by_cases e:p.1=k
  ·rw[if_pos e,if_pos (a.symm.trans e)];exact⟨a,b,c⟩
  ·rw[if_neg e,if_neg (λz=>e (a.trans z))];exact⟨a,b,d⟩
theorem KT.put (r:KT H kvs xs) (k:List Key) (d:H b=some (.tup (k.map kV))) (a:RelV y u) :
    KT H (aS kvs k y) (storedH xs k b u):=by
 have e:(kvs.any λc=>decide (c.1=k))=(atKey xs k).isSome:=by rw[dM,(r.val k).isSome_eq,Option.isSome_map]
 unfold aS storedH;rw[e];by_cases q:(atKey xs k).isSome=true
 ·rw[if_pos q,if_pos q];exact r.repl k a
 ·rw[if_neg q,if_neg q];exact Paired.snoc r ⟨rfl,d,a⟩
theorem KT.keeps (r:KT H kvs xs) (a:∀b ys,H b=some (.tup ys)->H' b=some (.tup ys)):KT H' kvs xs :=
 Paired.mapP r λ_ _ z=>⟨z.1,a _ _ z.2.1,z.2.2⟩
section
variable {P:Program}{w:World}{H:Hp}{h:Heap}{a:Addr}
theorem xl (b:HOk P w H h) (e:Rd H a u):ObjOk P w H h a u:=e.ok b
theorem jp (b:HOk P w H h) (e:Rd H a (.dK kvs)):kvs.length<=sizeLine/\(a==sysModules)=false/\∃z,KV kvs z/\h.DictOf (bF P w) a z :=
 show ObjOk P w H h a (.dK kvs) from xl b e
theorem rC (b:HOk P w H h) (e:H a=some (.dK kvs)):kvs.length<=sizeLine/\(a==sysModules)=false/\∃z,KV kvs z/\h.DictOf (bF P w) a z:=jp b (.inl e)
theorem ie (d:HOk P w H h) (e:H a=some (.tup (ks.map kV))):(tupleKind (bF P w)).is h ks a:=by
 obtain⟨_,b,r,o,f,c,n,g,_⟩:=(show ObjOk P w H h a (.tup (ks.map kV)) from d a _ e)
 exact⟨o,b.toArray,n,f,c,g,by simpa using lX r⟩
theorem kc (d:HOk P w H h) (e:Rd H a (.dT kvs)):kvs.length <= sizeLine /\ (a==sysModules)=false /\
    ∃xs,KT H kvs xs/\h.DictOfH (tupleKind (bF P w)) a xs:=by
 obtain⟨z,y,xs,r,o,g,f,j,i,n,s,k⟩:=(show ObjOk P w H h a (.dT kvs) from xl d e)
 refine⟨z,y,xs,r,o,g,f,j,i,n,s,λx b=>?_,k⟩;have c:∀ {l:List (List Key × V)} {m:List (List Key × Addr × Value)}, KT H l m -> ∀x ∈ m, (tupleKind (bF P w)).is h x.1 x.2.1 := by
  intro l m q
  induction q with
  | nil=>intro x b;exact nomatch b
  | @cons p q ps qs hq t ih =>
   intro x b;rcases BH.mp b with e | b
   ·subst e;exact ie d (by rw[<- hq.1];exact hq.2.1)
   ·exact ih x b
 exact c r x b
theorem xu (b:HOk P w H h) (e:H a=some (.dT kvs)):kvs.length<=sizeLine/\(a==sysModules)=false /\
    ∃xs,KT H kvs xs/\h.DictOfH (tupleKind (bF P w)) a xs:=kc b (.inl e)
end
def DGet (H:Hp) (a:Addr) (y:V) (r:Option V):Prop :=
 (∃kvs k,Rd H a (.dK kvs)/\y=kV k/\r=aI kvs k)∨∃kvs k b,Rd H a (.dT kvs)/\y=.ref b/\H b=some (.tup (k.map kV))/\r=aI kvs k
def DPut (H:Hp) (a:Addr) (y v:V) (H':Hp):Prop :=
 (∃kvs k,H a=some (.dK kvs)/\y=kV k/\kvs.length<sizeLine/\H'=upd H a (.dK (aS kvs k v))) ∨
 ∃kvs k b,H a=some (.dT kvs)/\y=.ref b/\H b=some (.tup (k.map kV))/\kvs.length<sizeLine/\H'=upd H a (.dT (aS kvs k v))
theorem DGet.k {kvs:List (Key × V)}{k:Key}(e:H a=some (.dK kvs)):DGet H a (kV k) (aI kvs k):=.inl ⟨kvs,k,.inl e,rfl,rfl⟩
theorem DPut.k {kvs:List (Key × V)}{k:Key}(e:H a=some (.dK kvs)) (b:kvs.length<sizeLine):DPut H a (kV k) v (upd H a (.dK (aS kvs k v))):=.inl ⟨kvs,k,e,rfl,b,rfl⟩
theorem DPut.t {kvs:List (List Key × V)}{k:List Key}(e:H a=some (.dT kvs)) (d:H b=some (.tup (k.map kV))) (c:kvs.length<sizeLine) :
    DPut H a (.ref b) v (upd H a (.dT (aS kvs k v))):=.inr ⟨kvs,k,b,e,rfl,d,c,rfl⟩
section
variable {X:Cx}{pins:List (Addr × Obj)}{σ:St}{H:Hp}{s:Shared}{a:Addr}{y v:V}{u r:Value}{o:Option V}{A:Around}{E:Value->Shared->Prop}
theorem Inv.big (I:Inv X pins σ H s):sysModules<s.heap.objs.size:=by
 have h:mainGlobals<s.heap.objs.size:=(I.mod.glob.keeps I.bk).lt;exact Nat.lt_trans (by decide) h
theorem uk (t:A.units+1<cLine) (I:Inv X pins σ H s) (g:DGet H a y (some v)) (q:RelV y u) (h:∀G s',Inv X pins σ H s'->RelV v G->Q G s') :
    wpAny (model X.prog X.w) A (getItem (.ref a) u) Q E s:=by
 rcases g with⟨f,k,e,m,l⟩ | ⟨f,k,b,e,m,B,l⟩
 ·subst m;obtain⟨z,hd,w,c,i⟩:=jp I.hok e;obtain⟨G,j,d⟩:=RelO.some_of (v:=v) (o:=valueAt w k) (by rw[l];exact c.val k);exact wpAny_getItem_of (gp q) i.mapOf j (h G _ (I.tok _) d)
 ·subst m;cases (show u=Value.ref b from q);obtain⟨z,hd,x,c,i⟩:=kc I.hok e;obtain⟨G,j,d⟩:=RelO.some_of (v:=v) (o:=(atKey x k).map (·.2)) (by rw[l];exact c.val k);obtain⟨p,r,n⟩:=Option.map_eq_some_iff.mp j;refine wpAny_getItem_heap (tupleKind_room_in1 t) (ie I.hok B) i r ?_;rw[n];exact h G _ (I.tok _) d
theorem d_in (n:A.units+1<cLine) (I:Inv X pins σ H s) (g:DGet H a y o) (j:RelV y u) (h:∀s',Inv X pins σ H s'->Q (.bool o.isSome) s') :
    wpAny (model X.prog X.w) A (compareOp .In u (.ref a)) Q E s:=by
 rcases g with⟨i,k,e,f,l⟩ | ⟨i,k,b,e,f,m,l⟩
 ·subst f;obtain⟨z,hd,r,c,d⟩:=jp I.hok e;refine wpAny_in_of (gp j) hd d.mapOf ?_;rw[<- (c.val k).isSome_eq,<- l];exact h _ (I.tok _)
 ·subst f;cases (show u=Value.ref b from j);obtain⟨z,hd,p,c,d⟩:=kc I.hok e;refine wpAny_in_heap (tupleKind_room_in1 n) (ie I.hok m) hd d ?_;have q:=(c.val k).isSome_eq;rw[Option.isSome_map] at q;rw[<- q,<- l];exact h _ (I.tok _)
theorem zg (n:A.units+1<cLine) (I:Inv X pins σ H s) (g:DGet H a y o) (j:RelV y u) (h:∀s',Inv X pins σ H s'->Q (.bool (!o.isSome)) s') :
    wpAny (model X.prog X.w) A (compareOp .NotIn u (.ref a)) Q E s:=by
 rcases g with⟨i,k,e,f,l⟩ | ⟨i,k,b,e,f,m,l⟩
 ·subst f;obtain⟨z,hd,r,c,d⟩:=jp I.hok e;refine wpAny_notIn_of (gp j) hd d.mapOf ?_;rw[<- (c.val k).isSome_eq,<- l];exact h _ (I.tok _)
 ·subst f;cases (show u=Value.ref b from j);obtain⟨z,hd,p,c,d⟩:=kc I.hok e;refine wpAny_notIn_heap (tupleKind_room_in1 n) (ie I.hok m) hd d ?_;have q:=(c.val k).isSome_eq;rw[Option.isSome_map] at q;rw[<- q,<- l];exact h _ (I.tok _)
theorem hG (I:Inv X pins σ H s) (d:Mut (H a)) (f:Heap.SameBut a s.heap h') (he:∃q,h'.get? a=some q) (c:ObjOk X.prog X.w (upd H a G) h' a G) :
    Inv X pins σ (upd H a G) { s with heap:=h',toks:=t' } :=
 I.write (x:=a) (e:=a) d (.inl rfl) (λb q g z=>(f.2 b g).trans z) he c
theorem pu (z:kvs.length<=sizeLine) (hd:(a==sysModules)=false) (b:KV kvs G) (dd:h'.DictOf (bF P w) a G) :
    ObjOk P w H' h' a (.dK kvs):=⟨z,hd,G,b,dd⟩
theorem uP (N:A.units+1<cLine) (I:Inv X pins σ H s) (g:DPut H a y v H') (B:RelV y u) (x:RelV v r) (h:∀s',Inv X pins σ H' s'->Q () s') :
    wpAny (model X.prog X.w) A (setItem (.ref a) u r) Q E s:=by
 rcases g with⟨d,k,e,p,l,o⟩ | ⟨d,k,b,e,p,F,l,o⟩
 ·subst p o;obtain⟨z,hd,O,f,n⟩:=rC I.hok e;have t:O.length<=sizeLine:=by rw[<- f.length];exact z
  have m:(aS d k v).length<=sizeLine:=by have:=bR d k v;omega
  refine wpAny_setItem_pairs (hsz:=t) (gp B) n λC i w=>h _ ?_;have J:∃q,C.get? a=some q:=let ⟨q,_,_,j,_⟩:=i;⟨q,j⟩;exact hG I (by rw[e];exact True.intro) w J (pu m hd (f.put k x) i)
 ·subst p o;cases (show u=Value.ref b from B);obtain⟨z,hd,R,f,n⟩:=xu I.hok e;have t:R.length<=sizeLine:=by rw[<- Paired.length f];exact z
  have m:(aS d k v).length<=sizeLine:=by have:=bR d k v;omega
  refine wpAny_setItem_heap (hsz:=t) (tupleKind_room_in1 N) (ie I.hok F) n λC i w=>h _ ?_;obtain⟨q,K,P,j,L,G,S,_,M⟩:=i;refine hG I (by rw[e];exact True.intro) w ⟨q,j⟩ ⟨m,hd,_,(f.put k F x).keeps λc T D=>?_,q,K,P,j,L,G,S,M⟩;rw[ah (bK D e (λz=>nomatch z))];exact D
end
section
variable {X:Cx}{pins:List (Addr × Obj)}{σ:St}{H:Hp}{s:Shared}{a:Addr}{kvs:List (Key × V)}{k:Key}{u:Value}{A:Around}{E:Value->Shared->Prop}
theorem Br (I:Inv X pins σ H s) (e:Rd H a (.dK kvs)) (h:∀t s',Inv X pins σ H s'->Q (.int kvs.length t) s'):wpAny (model X.prog X.w) A (call (.builtin "len") [.ref a]) Q E s:=by
 obtain⟨z,hd,d,b,c⟩:=jp I.hok e;refine call_len_dict hd c (by rw[<- b.length];rw[sizeLine_eq] at z;omega) ?_;rw[<- b.length];exact h _ _ (I.tok _)
end
theorem pB (I:Inv X pins σ H s) (g:DGet H a y o):s.TypeIs (.ref a) "dict":=by
 rcases g with⟨d,k,e,_,_⟩ | ⟨d,k,b,e,_,_,_⟩
 ·obtain⟨_,_,h,_,c⟩:=jp I.hok e;exact c.typeIs
 ·obtain⟨_,_,f,_,c⟩:=kc I.hok e;exact c.typeIs
theorem jQ (h:Heap) (a:sysModules<h.objs.size):ObjOk P w H (h.push { cls:=.type "dict",data:=.dict #[] }) h.objs.size (.dK []) :=
 ⟨Cg _,beq_eq_false_iff_ne.mpr (Ne.symm (Ca a)),[],.nil,Heap.DictOf.new h⟩
theorem va (h:Heap) (a:sysModules<h.objs.size):ObjOk P w H (h.push { cls:=.type "dict",data:=.dict #[] }) h.objs.size (.dT []) :=
 ⟨Cg _,beq_eq_false_iff_ne.mpr (Ne.symm (Ca a)),[],.nil,_,#[],0,Ce _ rfl,⟨rfl,rfl,rfl⟩,rfl,rfl,CC⟩
def zX:TE:=λ_ H Q=>∀p,H p=none->Q (.ref p) (upd H p (.dK []))
def Am:TE:=λ_ H Q=>∀p,H p=none->Q (.ref p) (upd H p (.dT []))
section
variable {X:Cx}{pos:Pos}
theorem ew:PE X (.Dict [] [] pos) zX:=λb s c H Q I h =>
 wpAny_Dict_empty ⟨.ref s.heap.objs.size,_,I.laid (a:=s.heap.objs.size) (o:=.dK []) (t':=s.toks) (λ_ _ q=>BU _ q) (BB _) (jQ s.heap I.big),rfl,h _ (I.hok.fresh (BB _))⟩
theorem ve:PE X (.Dict [] [] pos) Am:=λb s c H Q I h =>
 wpAny_Dict_empty ⟨.ref s.heap.objs.size,_,I.laid (a:=s.heap.objs.size) (o:=.dT []) (t':=s.toks) (λ_ _ q=>BU _ q) (BB _) (va s.heap I.big),rfl,h _ (I.hok.fresh (BB _))⟩
end
def nH:List (TE × TE)->St->Hp->(List (V × V)->Hp->Prop)->Prop
 | [],_,H,Q=>Q [] H
 | (tk,tv)::r,σ,H,Q=>tk σ H λx H1=>tv σ H1 λy H2=>nH r σ H2 λps H3=>Q ((x,y)::ps) H3
abbrev VV:List (V × V)->List (Value × Value)->Prop:=Paired λp q=>RelV p.1 q.1/\RelV p.2 q.2
def PPs (X:Cx) (pos:Pos) (keys:List (Option Expr)) (values:List Expr) (trs:List (TE × TE)):Prop :=
 ∀(pins:List (Addr × Obj)) (s:Shared) (σ:St) (H:Hp) (Q:List (V × V)->Hp->Prop),Inv X pins σ H s->nH trs σ H Q ->
  wpAny (model X.prog X.w) X.A (evalPairs (pairTrees keys values X.env pos)) (λvs s'=>∃ps H',Inv X pins σ H' s'/\VV ps vs/\Q ps H') X.xe s
theorem yJ:PPs X pos [] [] []:=λa s b H Q I h=>pairTrees_nil_walk ⟨[],H,I,.nil,h⟩
theorem wD (n:PE X k tk) (i:PE X v J) (r:PPs X pos ks G z) :
    PPs X pos (some k::ks) (v::G) ((tk,J)::z):=λa s b H Q I h =>
 pairTrees_cons_walk (thn (n a s b H _ I h) λu g ⟨x,d,m,e,q⟩=>thn (i a g b d _ m q) λC A ⟨y,w,t,l,j⟩ =>
  thn (r a A b w _ t j) λE D ⟨o,p,B,c,f⟩=>⟨(x,y)::o,p,B,.cons ⟨e,l⟩ c,f⟩)
def fU (kvs more:List (Key × V)):List (Key × V):=more.foldl (λacc kv=>aS acc kv.1 kv.2) kvs
theorem KV.merge:∀ {z:List (Key × V)}{I:List (Key × Value)}{kvs:List (Key × V)}{G:List (Key × Value)}, KV z I -> KV kvs G -> KV (fU kvs z) (merged G I) := by
 intro z I kvs G r;unfold KV at r
 induction r generalizing kvs G with
 | nil=>intro q;exact q
 | @cons p q ps qs h t ih =>
  intro a;have e:KV (aS kvs p.1 p.2) (stored G q.1 q.2):=by
   have:=a.put p.1 h.2;rw[<- h.1];exact this
  exact ih e
theorem iI:∀(more kvs:List (Key × V)),(fU kvs more).length<=kvs.length+more.length
 | [],kvs=>by show kvs.length<=kvs.length+0;omega
 | p::r,kvs=>by
  have h1:=iI r (aS kvs p.1 p.2);have h2:=bR kvs p.1 p.2;show (fU (aS kvs p.1 p.2) r).length<=_;rw[BN];omega
theorem ke:∀ {kvs:List (Key × V)}{ws:List (Value × Value)}, VV (kvs.map λkv => (kV kv.1, kv.2)) ws -> ∃rs, Carries (bF P w) ws rs /\ KV kvs rs
 | [],_,r=>by rw[List.map_nil] at r;cases r;exact⟨[],True.intro,.nil⟩
 | p::kvs,_,r=>by
  rw[BZ] at r;cases r with
  | @cons a b as bs h t =>
   obtain⟨rs,c,q⟩:=ke (P:=P) (w:=w) t;obtain⟨b1,b2⟩:=b;exact⟨(p.1,b2)::rs,⟨gp h.1,rfl,c⟩,.cons ⟨rfl,h.2⟩ q⟩
def AR (trs:List (TE × TE)):TE:=λσ H Q=>∀p,H p=none->nH trs σ (upd H p (.dK [])) λps H2=>H2 p=some (.dK [])/\∃kvs:List (Key × V),ps=kvs.map (λkv=>(kV kv.1,kv.2))/\kvs.length<=15/\Q (.ref p) (upd H2 p (.dK (fU [] kvs)))
theorem yj (h:PPs X pos G J O) (f:G.all (·.isSome)=true) (p:G.length=J.length) (D:G≠[])
    (i:G.length<=15):PE X (.Dict G J pos) (AR O):=by
 intro d s m H Q I q;have l:=I.hok.fresh (BB s.heap.objs.size);have B:=I.laid (a:=s.heap.objs.size) (o:=.dK []) (h':=s.heap.push { cls:=.type "dict",data:=.dict #[] }) (t':=s.toks) (λ_ _ q=>BU _ q) (BB _) (jQ s.heap I.big);refine wpAny_Dict_walk (knd:=bF X.prog X.w) f p D i (thn (h d _ m _ _ B (q _ l)) λM S ⟨N,R,k,j,e,b,x,L,u⟩=>?_);subst x;obtain⟨K,c,A⟩:=ke (P:=X.prog) (w:=X.w) j;obtain⟨z,hd,t,n,v⟩:=rC k.hok e;cases n;refine⟨K,c,v,λh' g F=>⟨.ref s.heap.objs.size,_,?_,rfl,u⟩⟩;have C:(fU [] b).length<=sizeLine:=by
  have E:=iI b [];rw[Df] at E;rw[sizeLine_eq];omega
 have r:∃q,h'.get? s.heap.objs.size=some q:=let ⟨q,_,_,y,_⟩:=g;⟨q,y⟩;exact hG k (by rw[e];exact True.intro) F r (pu C hd (A.merge .nil) g)
structure M1 (X:Cx) (o:Expr) (m:Str) (apos:Pos) (e:Expr) (cpos:Pos):Prop where
 base:attributeBase o m X.env (eval o X.env)=eval o X.env
 few:((backTo cpos (starEach [e] X.env)).all (λx=>!x.1)&&(backToKw cpos (keywordEach [] X.env)).all (λx=>x.1.isSome)
  && decide (([e]:List Expr).length+([]:List Keyword).length+(if ([]:List Keyword).isEmpty then 0 else 1)<30))=true
 line:(apos.endLine==cpos.line)=true
 trees:backTo cpos (starEach [e] X.env)=[(false,eval e X.env)]
end L2
namespace Att
open PySem PySem.W PySem.Calls PyProof.Rows
theorem kx:∀(ns:List Int) (z:LW), WellAll P h z (ns.map WData.int) -> IntsAre z ns := by
 intro ns
 induction ns with
 | nil =>
  intro z w;rw[List.map_nil] at w;cases w;exact .nil
 | cons n ns ih =>
  intro z w;rw[BZ] at w;cases w with
  | cons a b =>
   cases a;exact .cons _ _ (ih _ b)
theorem sP {l:OpenLaw}{n:Nat}(m:l.most=some n) {P:Params}{args:List WData}{z:LW}
    (b:l.row.toRowW.claim.pre args=true) (i:WellAll P h z args) :
    ∃a vs ns,z=[Value.ref a]/\args=[WData.list (ns.map WData.int)]/\h.get? a=some { cls:=.type "list",data:=.seq vs.toArray }/\IntsAre vs ns/\ns.length<=n:=by
 have g:WShape.hasAll [] args [.list .int]=true:=(pre_splitW b).1;have j:l.pre.holds [] { args:=args }=true:=(pre_splitW b).2;obtain⟨d,r,rfl,p,k⟩:=hasAllW_cons g;obtain rfl:=hasAllW_nil k;obtain⟨t,rfl,s⟩:=hasW_list p;obtain⟨ns,rfl⟩:=items_int s;have c:ns.length<=n:=by
  unfold OpenLaw.pre at j;have f:(WTm.not (.lt (.lit (.int (n:Int))) (.len (.arg 0)))).holds [] { args:=[.list (ns.map .int)] }=true:=by
   have f:=(holds_andW j).1;rw[m] at f;exact f
  have e:=condW_of f (w_not (w_lt w_lit (w_len_list (w_arg rfl))));rw[BA] at e;refine Nat.le_of_not_lt λq=>?_;have o:(n:Int)<((ns.length:Nat):Int):=by omega
  first
   | (rw[BI o] at e;exact absurd e (by decide))
   | (simp at e;omega)
 cases i with
 | cons w1 w2 =>
  cases w2;cases w1 with
  | list ho hall=>exact⟨_,_,ns,rfl,rfl,ho,kx ns _ hall,c⟩
theorem sg (l:OpenLaw) (args:List WData):l.row.toRowW.claim.post args (.bool true) args=true :=
 postW_of (r:=l.row.toRowW) (X:=(true==true))
  (show WShape.has [] (.bool true) .bool=true by first | rfl | decide | simp[WShape.has,WShape.arms,WShape.armsAll])
  (show (WTm.eq .res (.lit (.bool true))).value [] { args:=args,res:=some (.bool true),after:=args }=some (.bool (true==true)) from w_eq_bool (w_res rfl) w_lit) rfl
theorem attach_call {l:OpenLaw}{n:Nat}{J:LS}{XP:(Str -> Option Value) -> Heap -> Prop}{YP:World -> Heap -> Prop}{d:DefRec}
    (v:l.most=some n) (k:d.params.defaults=[])
    (h:∀(w:World) (I z:Shared) (mg mb:Str->Option Value) (U:Addr) (o:Obj) (pm cd O:Value) (a:Addr) (vs:LW) (ns:List Int),
     Ground q J [] XP w I mg mb z.heap->YP w z.heap ->
     z.heap.get? U=some o->o.data=.func (docDef d.name d.params d.body d.scope pm cd O)->z.heap.CodeRec cd d.name->mg d.name=some (.ref U) ->
     z.heap.get? a=some { cls:=.type "list",data:=.seq vs.toArray }->IntsAre vs ns->ns.length<=n->z.gens=#[] ->
     codeAny (model l.prog w) callerA (.call (.ref U) ⟨[.ref a],[]⟩) (λr s'=>r=.ok (.ret (.bool true))/\OldK z.heap s'.heap/\s'.os=z.os/\AllBare s'.gens) z) :
    WalkO q J XP YP l.row.toRowW d [] (λf vs=>PySem.call f vs):=by
 intro w I z mg mb G Y U o pm cd O K kV C hd i u j B p s L c t x m H;obtain rfl:K=.none:=Dflts.none u k;obtain rfl:kV=.none:=Dflts.noKw u;obtain⟨a,vs,ns,rfl,rfl,g,b,e⟩:=sP v c m;refine enter_call (codeAny_mono (h w I z mg mb U o pm cd O a vs ns G Y C (fd_plain hd) i j g b e B) λr s' D=>?_);obtain⟨rfl,A,y,F⟩:=D;exact⟨.inl ⟨.bool true,.bool true,[],rfl,λ_=>rfl,.bool true,sg l _,λ_=>⟨List.Pairwise.nil,λ_ E=>(nomatch E)⟩⟩,A,y,F⟩
end Att
namespace L2
open PySem PySem.Spec PyProof.Rows
theorem ms:∀ {vs:LW}{ns:List Int},IntsAre vs ns->Vals (ns.map V.int) vs
 | _,_,.nil=>.nil
 | _,_,.cons n t h=>.cons ⟨t,rfl⟩ (ms h)
def wH (H:Hp):Prop:=∀b,H b=none∨∃o xs,H b=some (.frz o (.lst xs))
theorem vW {P:Program}{w:World}{K:W.Frag}{mg O:Str -> Option Value}{CX:CXT}{k:Nat}{U a:Addr}{fd:FuncData}{x:Str}{sp:Sp}{G:Shared}{vs:LW}{ns:List Int}
    (KX:K.In G.heap) (B:G.heap.Ns mainGlobals mg) (f:G.heap.Ns builtinsNs O) (M:∀x:Str,x≠"__name__"->O x=bootBuiltins x) (y:G.heap.NoLimit) (hg:G.gens=#[])
    (J:G.heap.get? a=some { cls:=.type "list",data:=.seq vs.toArray }) (Y:IntsAre vs ns) (T:ns.length<=sizeLine) (hr:Room k callerA)
    (F:∀base:Heap,K.In base->base.Ns mainGlobals mg->FnOk P w K mg base CX k U fd [x] sp) (j:∀(s:Shared) (u:Value),BindsTo s fd ⟨[u],[]⟩ [(x,u)])
    (R:∀H:Hp,wH H->SqL K H a (ns.map V.int)->sp [.ref a] H (λv _=>v=.bl true) λ_ _ _=>False)
    (N:∀H e s',CX [] H G (λ_ _ _=>False) e s'->False) :
    codeAny (model P w) callerA (.call (.ref U) ⟨[.ref a],[]⟩) (λr s'=>r=.ok (.ret (.bool true))/\OldK G.heap s'.heap/\s'.os=G.os/\AllBare s'.gens) G:=by
 have S:=ms Y;have p:=Y.length;have i:∀H:Hp, wH H -> SqL K H a (ns.map V.int) -> HOk P w H G.heap -> (∀b, H b ≠ none -> b=a) -> (H a ≠ none -> K.lookup a=none) ->
     codeAny (model P w) callerA (.call (.ref U) ⟨[.ref a],[]⟩) (λr s'=>r=.ok (.ret (.bool true))/\OldK G.heap s'.heap/\s'.os=G.os/\AllBare s'.gens) G:=by
  intro H X hS I Z hK;have c:∀ {b:Addr} {o:Obj},G.heap.get? b=some o->H b=none->(iz G.heap H).get? b=some o:=λe n=>vL e n;have L:∀ {b:Addr} {o:Obj} {A:Array DictEntry} {D:Nat},G.heap.get? b=some o->o.data=.dict A D->H b=none:=λ{b o A D} e d=>by
   cases q:H b with
   | none=>rfl
   | some u =>
    have Q:b=a:=Z b (by rw[q];simp);subst Q;rw[J] at e;cases e;have d':Data.seq vs.toArray _=Data.dict A D:=d;cases d'
  have g:∀ {b:Addr} {m:Str->Option Value},G.heap.Ns b m->(iz G.heap H).Ns b m:=λ{b m} ⟨o,A,D,e,d,r⟩=>⟨o,A,D,c e (L e d),d,r⟩
  have E:K.In (iz G.heap H):=λb o e=>c (KX b o e) (by
   cases q:H b with
   | none=>rfl
   | some u =>
    have Q:b=a:=Z b (by rw[q];simp);subst Q;rw[hK (by rw[q];simp)] at e;cases e)
  have hM:Mod K mg (iz G.heap H):=⟨E,g B,⟨O,g f,M⟩,let ⟨mc,h1,h2⟩:=y;⟨mc,g h1,h2⟩⟩
  have e0:Env0 P w K mg (iz G.heap H) callerA [] G H:=⟨rfl,hM,λb o e=>yT e,Nat.le_of_eq (tK _ _),trivial,λb f=>absurd (show b∈([]:List Addr) from f) (by simp),I,.of_eq hg⟩
  refine codeAny_mono ((F _ E (g B)).run callerA [] G H ⟨[.ref a],[]⟩ [.ref a] [.ref a] _ _ hr e0 (j G (.ref a)) (.cons rfl .nil) (R H X hS)) λr s' h=>?_;cases r with
  | error e=>exact(N H e s' h).elim
  | ok fl =>
   cases fl with
   | next=>exact False.elim h
   | brk=>exact False.elim h
   | cont=>exact False.elim h
   | ret u =>
    obtain⟨v,H',os,t,un,l,r',q⟩:=h;have q':v=.bl true:=q;subst q';obtain rfl:u=Value.bool true:=r';refine⟨rfl,OldK.of_keep λb o e=>?_,os,t⟩;cases q:H b with
    | none=>exact un.keep b o e q (by intro z;exact absurd (show b∈([]:List Addr) from z) (by simp)) (by simp)
    | some u =>
     rcases X b with z | ⟨ob,xs,z⟩
     ·rw[q] at z;cases z
     ·have z2:=un.frzs b ob _ z;obtain⟨e1,_⟩:=I b _ z;obtain⟨e2,_⟩:=l b _ z2;rw[e] at e1;cases e1;exact e2
 cases hk:K.lookup a with
 | some o =>
  have e:=KX a o hk;rw[J] at e;cases e;refine i (λ_=>none) (λ_=>.inl rfl) (.inr ⟨_,vs.toArray,_,hk,rfl,rfl,rfl,by rw[BY,p];exact T,by simpa using S⟩) (λb u z=>by have C:(none:Option HO)=some u:=z;cases C) (λb z=>absurd rfl z) λz=>absurd rfl z
 | none =>
  refine i (λb=>if b=a then some (.frz { cls:=.type "list",data:=.seq vs.toArray } (.lst (ns.map V.int))) else none) (λb=>?_) (.inl (.inr ⟨{ cls:=.type "list",data:=.seq vs.toArray },if_pos rfl⟩)) (λb u z=>?_) (λb z=>?_) λ_=>hk
  ·by_cases f:b=a
   ·exact .inr ⟨_,_,if_pos f⟩
   ·exact .inl (if_neg f)
  ·by_cases f:b=a
   ·have C:=(if_pos f).symm.trans z;cases C;subst f;exact⟨J,by rw[BA];exact T,vs,_,S,J⟩
   ·have C:=(if_neg f).symm.trans z;cases C
  ·by_cases f:b=a
   ·exact f
   ·exact absurd (if_neg f) z
theorem walk_of {l:W.OpenLaw}{n k:Nat}{z:LS}{U:(Str -> Option Value) -> Heap -> Prop}{J:World -> Heap -> Prop}{d:DefRec}{K:Params -> W.Frag}{CX:World -> CXT}{sp:World -> Sp}{x:Str}
    (C:l.most=some n) (p:n<=sizeLine) (r:d.params.defaults=[]) (Q:Room k callerA)
    (B:∀(w:World) (h:Heap),J w h->(K w.params).In h)
    (F:∀(w:World) (mg:Str->Option Value) (I:Addr) (h:Heap),(K w.params).In h->h.Ns mainGlobals mg->mg d.name=some (.ref I) ->
     ∃fd:FuncData,(∀(s:Shared) (u:Value),BindsTo s fd ⟨[u],[]⟩ [(x,u)]) /\
      ∀base:Heap,(K w.params).In base->base.Ns mainGlobals mg->FnOk l.prog w (K w.params) mg base (CX w) k I fd [x] (sp w))
    (t:∀(w:World) (H:Hp) (a:Addr) (ns:List Int),ns.length<=n->wH H->SqL (K w.params) H a (ns.map V.int)->sp w [.ref a] H (λv _=>v=.bl true) λ_ _ _=>False)
    (m:∀(w:World) (H:Hp) (s:Shared) (e:Value) (s':Shared),CX w [] H s (λ_ _ _=>False) e s'->False) :
    W.WalkO q z U J l.row.toRowW d [] (λf O=>PySem.call f O):=by
 refine Att.attach_call C r λw y g mg T I o S Z D a O ns G Y X hd E j i c b N=>?_;have A:=B w _ Y;obtain⟨fd,R,P⟩:=F w mg I _ A G.T.g j;exact vW A G.T.g G.T.b G.T.builtins G.T.nolimit N i c (BP b p) Q P R (λH L M=>t w H a ns b L M) λH e s'=>m w H g e s'
def dR (s:Stmt):Arguments:=match s with
 | .FunctionDef _ a _ _ _ _ _ _ _ _=>a
 | _=>{ posonlyargs:=[],args:=[],vararg:=none,kwonlyargs:=[],kw_defaults:=[],kwarg:=none,defaults:=[] }
def bX (s:Stmt):List Stmt:=match s with
 | .FunctionDef _ _ b _ _ _ _ _ _ _=>b
 | _=>[]
def ak (s:Stmt):Scope:=match s with
 | .FunctionDef _ _ _ _ _ _ sc _ _ _=>sc
 | _=>{ kind:=.function,names:=[],isGenerator:=false,isCoroutine:=false }
abbrev CX0:CXT:=λ_ _ _ _ _ _=>False
abbrev E0:XK:=λ_ _ _=>False
theorem Bc:kB CX0 X E0:=λ_ _ _ _ _ _ _ h=>h.elim
structure Fun (K:W.Frag) (x qual:Str) (st:Stmt) (f:Addr) (fd:FuncData):Prop where
 ex:∃(oc:Value) (od:Option Addr) (kV doc pm:Value) (an:Option Addr) (cdv ct:Value) (osl:Array (Option Value)),
  fd=W.fnOf x qual (dR st) (bX st) (ak st) .none kV doc pm an cdv ct/\K.lookup f=some ⟨oc,od,.func fd,osl⟩/\W.codeIn K cdv qual=true
 kp:W.keepIn K (.ref f)=true
section
variable {P:Program}{w:World}{K:W.Frag}{mg:Str->Option Value}{base:Heap}
theorem Fun.ok {x qual:Str}{st:Stmt}{f:Addr}{fd:FuncData}{N ps:LS}{k:Nat}{sp:Sp}(F:Fun K x qual st f fd) (S:FnScope N ps (ak st)) (c:∀I H Q E, sp I H Q E -> I.length=ps.length)
    (a:∀(G:Value) (A:Around) (z:List Env) (s:Shared) (H:Hp) (I:LV) (Q:VK) (E:XK),Room k (A.deeper (envOfC qual (ak st) s.heap.objs.size f G))->sp I H Q E ->
     ∃t,PSs (aV CX0 P w K mg base N qual (ak st) f G A z s H E).nox (bX st) t/\t { nx:=λ_ H'=>Q .non H',rt:=Q } (start N I) H):FnOk P w K mg base CX0 (k+1) f fd ps sp:=by
 obtain⟨p,o,kV,e,m,n,G,l,i,rfl,j,d⟩:=F.ex;refine xg j d S c λA z s H I Q E g b=>?_;obtain⟨t,h,q⟩:=a G A z s H I Q E g b;exact⟨t,h.nox,q⟩
theorem Fun.binds {x qual:Str}{st:Stmt}{f:Addr}{fd:FuncData}{ps:LS}(F:Fun K x qual st f fd)
    (h:∀(kV z I:Value) (J:Option Addr) (G ct:Value) (us:LW),us.length=ps.length->bindArgs (W.fnOf x qual (dR st) (bX st) (ak st) .none kV z I J G ct) ⟨us,[]⟩=pure (ps.zip us)):Binds K fd ps []:=by
 obtain⟨d,c,kV,z,I,J,G,ct,b,rfl,e,a⟩:=F.ex;exact .all (h kV z I J G ct)
theorem sZ {x qual:Str}{st:Stmt}{f:Addr}{U:Value}{od J:Option Addr}{I:Array (Option Value)}{kV G O z ct:Value}(l:K.lookup f=some ⟨U,od,.func (W.fnOf x qual (dR st) (bX st) (ak st) .none kV G O J z ct),I⟩)
    (c:W.codeIn K z qual=true) (k:W.keepIn K (.ref f)=true):Fun K x qual st f (W.fnOf x qual (dR st) (bX st) (ak st) .none kV G O J z ct):=⟨⟨U,od,kV,G,O,J,z,ct,I,rfl,l,c⟩,k⟩
end
theorem ap (h:n<=1000):n<sizeLine:=Nat.lt_of_le_of_lt h (by decide)
section
variable {X:Cx}
theorem pv (i:Nat) (b:X.N[i]? = some x:=by rfl) (c:Vis X.env.scope x:=by first | exact Or.inl rfl | exact Or.inr (Or.inl rfl) | exact Or.inr (Or.inr rfl)) (hd:(x==("__debug__":Str))=false:=by decide)
    (a:(x==("__classdict__":Str))=false:=by decide):PE X (.Name x pos) (zV i):=AC b c hd a
theorem ut:dJ X (.builtin "len") (λxs H Q=>∃a kvs,xs=[V.ref a]/\H a=some (.dK kvs)/\Q (.int kvs.length) H):=by
 intro b s i H xs f Q I r h;obtain⟨a,kvs,rfl,e,q⟩:=h;obtain⟨u,rfl,d⟩:=cI r;cases d;exact Br I (.inl e) λt g c=>⟨.int kvs.length,H,c,⟨t,rfl⟩,q⟩
end
theorem bM {A B:Prop}(h:B):if false=true then A else B:=by
 rw[if_neg Cf];exact h
theorem dm {A B:Prop}(h:A):if true=true then A else B:=by
 rw[if_pos rfl];exact h
theorem aA {c A B:Prop} [Decidable c] (b:c->A) (a:¬ c->B):if c then A else B:=by
 by_cases h:c
 ·rw[if_pos h];exact b h
 ·rw[if_neg h];exact a h
def Same (H H':Hp):Prop:=∀b o,H b=some o->H' b=some o
theorem Same.refl (H:Hp):Same H H:=λ_ _ h=>h
theorem Same.trans (a:Same H H1) (b:Same H1 H2):Same H H2:=λc o h=>b c o (a c o h)
section
variable {κ:Type} [DecidableEq κ]
theorem wj {kvs:List (κ × V)}{k:κ}(h:aI kvs k=none):¬ k∈kvs.map (·.1):=by
 intro m;obtain⟨p,a,e⟩:=BE.mp m;have q:(kvs.any λb=>decide (b.1=k))=true:=Dg.mpr ⟨p,a,BI e⟩;rw[dM,h] at q;exact absurd q (by simp)
theorem yz {kvs:List (κ × V)}{k:κ}(h:aI kvs k=some v):k∈kvs.map (·.1):=by
 have q:(kvs.any λb=>decide (b.1=k))=true:=by
  rw[dM,h]
  all_goals rfl
 obtain⟨p,a,e⟩:=Dg.mp q;exact BE.mpr ⟨p,a,BX e⟩
theorem qp:∀ {l:List κ}{k:κ},l.Nodup->¬ k∈l->(l++[k]).Nodup
 | [],k,_,_=>by simp
 | a::r,k,h,hk=>by
  obtain⟨h1,h2⟩:=Cd.mp h;show (a::(r++[k])).Nodup;refine Cd.mpr ⟨λm=>?_,qp h2 λm=>hk (BH.mpr (Or.inr m))⟩;rcases BR.mp m with q | q
  ·exact h1 q
  ·exact hk (BH.mpr (Or.inl (Cb.mp q).symm))
theorem qj {kvs:List (κ × V)}{k:κ}(v:V) (a:(kvs.map (·.1)).Nodup) (h:aI kvs k=none):((aS kvs k v).map (·.1)).Nodup:=by
 rw[jL v h,BO];exact qp a (wj h)
end
end L2
set_option maxHeartbeats 4000000
namespace L2
open PySem PySem.Spec PyProof.Rows
theorem lC {env:Env}{f:Str × NameKind -> List (Str × Addr) -> Sem (ForInStep (List (Str × Addr)))}
    (f1:∀n k r,k≠NameKind.free->f (n,k) r=pure (.yield r))
    (f2:∀n c r,env.cells.lookup n=some c->f (n,NameKind.free) r=pure (.yield ((n,c)::r))) :
    ∀(names:List (Str × NameKind)) (acc:List (Str × Addr)),
    (∀y∈names,y.2=NameKind.free->∃c,env.cells.lookup y.1=some c) ->
    (∀x c,acc.lookup x=some c->env.cells.lookup x=some c) ->
    ∃cl,forIn names acc f=(pure cl:Sem (List (Str × Addr)))/\(∀x c,cl.lookup x=some c->env.cells.lookup x=some c) /\
     (∀x,(acc.lookup x).isSome=true->(cl.lookup x).isSome=true)/\∀y∈names,y.2=NameKind.free->(cl.lookup y.1).isSome=true
 | [],acc,_,h=>⟨acc,by rw[List.forIn_nil],h,λ_ q=>q,λy hy=>nomatch hy⟩
 | (n, k) :: r, acc, hn, h => by
  by_cases hk:k=NameKind.free
  ·subst hk;obtain⟨c,hc⟩:=hn (n,.free) Cr rfl;have hc':env.cells.lookup n=some c:=hc;obtain⟨cl,e,a,b,d⟩:=lC f1 f2 r ((n,c)::acc) (λy hy=>hn y (BQ _ hy)) (λx c' q=>by
    rw[Cz] at q;cases e:x==n with
    | true =>
     rw[e] at q;cases q;rw[show x=n from LawfulBEq.eq_of_beq e];exact hc'
    | false =>
     rw[e] at q;exact h x c' q)
   refine⟨cl,?_,a,λx q=>b x ?_,λy hy hf=>?_⟩
   ·rw[Dh,f2 n c acc hc',pure_bind];exact e
   ·rw[Cz];cases x==n with
    | true=>rfl
    | false=>exact q
   ·rcases BH.mp hy with rfl | hy
    ·refine b _ ?_;rw[Cz];simp
    ·exact d y hy hf
  ·obtain⟨cl,e,a,b,d⟩:=lC f1 f2 r acc (λy hy=>hn y (BQ _ hy)) h;refine⟨cl,?_,a,b,λy hy hf=>?_⟩
   ·rw[Dh,f1 n k acc hk,pure_bind];exact e
   ·rcases BH.mp hy with rfl | hy
    ·exact absurd hf hk
    ·exact d y hy hf
theorem pX {scope:Scope}{env:Env}(i:∀y ∈ scope.names, y.2=NameKind.free -> ∃c, env.cells.lookup y.1=some c) :
    ∃G,closureFor scope env=pure G/\(∀x c,G.lookup x=some c->env.cells.lookup x=some c) /\
     ∀y∈scope.names,y.2=NameKind.free->∃c,G.lookup y.1=some c:=by
 have b:=lC (env:=env) (f:=λ(x:Str × NameKind) (r:List (Str × Addr))=>match x with
     | (name,kind)=>if (kind==NameKind.free)=true then do let c ← cellOf env name;pure (ForInStep.yield ((name,c)::r)) else pure (ForInStep.yield r))
  (λn k r j=>by
   have z:(k==NameKind.free)=false:=by simpa using j
   simp only[z,Dt,if_false])
  (λn c r h=>by simp only[beq_self_eq_true,if_true,cellOf,h,pure_bind])
  scope.names [] i (λx c q=>by cases q)
 obtain⟨G,e,a,_,d⟩:=b;refine⟨G,?_,a,λy g z=>CT.mp (d y g z)⟩;simp only[closureFor]
 first
  | exact e
  | (simp only[bind_pure];exact e)
  | (refine Eq.trans ?_ e;simp only[bind_pure])
def cxC (X:Cx) (scope:Scope) (N:LS) (cl:List (Str × Addr)) (C:Addr) (s₀:Shared) (H₀:Hp) (ex:List Addr):Cx where
 prog:=X.prog
 w:=X.w
 K:=X.K
 mg:=X.mg
 base:=X.base
 A:=X.A
 N:=N
 s₀:=s₀
 H₀:=H₀
 env:=compEnvC scope cl C X.env
 outer:=X.stack
 stack:=X.stack
 ex:=ex
 fn:=λ_=>false
 calm:=X.calm
 pn:=[]
 xe:=λ_ _=>False
def dS (k:Nat) (fr:List Nat) (σ:St):St:=List.replicate k none++fr.map λi=>(σ[i]?).join
def Aq (osc scope:Scope) (NX:LS) (fr:List Nat):Bool:=fr.all λi=>match NX[i]? with
 | some x=>(decide (osc.names.lookup x=some .cell)||decide (osc.names.lookup x=some .free))&&decide (scope.names.lookup x=some .free)
 | none=>false
structure CompSc (osc scope:Scope) (NX own:LS) (fr:List Nat) (N:LS):Prop where
 kind:scope.kind=.function
 nocell:∀y∈scope.names,y.2≠NameKind.cell
 loc:∀y∈scope.names,y.2=NameKind.local->scope.names.lookup y.1=some .local
 free:∀y∈scope.names,y.2=NameKind.free->osc.names.lookup y.1=some .cell∨osc.names.lookup y.1=some .free
 names:N.map some=own.map some++fr.map λi=>NX[i]?
 outer:Aq osc scope NX fr=true
def iR (osc scope:Scope) (NX own:LS) (fr:List Nat) (N:LS):Bool :=
 decide (scope.kind=.function)&&(scope.names.all (λy=>decide (y.2≠NameKind.cell))&&(scope.names.all (λy=>decide (y.2=NameKind.local->scope.names.lookup y.1=some .local)) &&
  (scope.names.all (λy=>decide (y.2=NameKind.free->(osc.names.lookup y.1=some .cell∨osc.names.lookup y.1=some .free)))&&(decide (N.map some=own.map some++fr.map λi=>NX[i]?)&&Aq osc scope NX fr))))
theorem CompSc.of (h:iR G scope I z fr N=true):CompSc G scope I z fr N:=by
 unfold iR at h;simp only[Co,decide_eq_true_eq,CD] at h;obtain⟨c,a,e,f,d,b⟩:=h;exact⟨c,a,e,f,d,b⟩
theorem CompSc.len (S:CompSc G scope I z fr N):N.length=z.length+fr.length:=by
 have h:=congrArg List.length S.names;simpa using h
theorem fJ {env:Env}:∀ {names:List (Str × NameKind)}{x:Str}, names.lookup x=some .free ->
    (names.map λ(n,k)=>if (k==NameKind.free&&env.scope.kind==.function&&env.kindOf n==some .cell) then (n,NameKind.cell) else (n,k)).lookup x=some .cell ∨
    (names.map λ(n,k)=>if (k==NameKind.free&&env.scope.kind==.function&&env.kindOf n==some .cell) then (n,NameKind.cell) else (n,k)).lookup x=some .free
 | [],_,h=>by simp at h
 | (n,k)::r,x,h=>by
  have ih:=@fJ env r x;cases hx:x==n with
  | true =>
   simp only[Cz,hx] at h;cases h;simp only[BZ]
   split
   ·left;simp[Cz,hx]
   ·right;simp[Cz,hx]
  | false =>
   simp only[Cz,hx] at h;simp only[BZ]
   split
   ·simp only[Cz,hx];exact ih h
   ·simp only[Cz,hx];exact ih h
theorem kh {env:Env}:∀ {names:List (Str × NameKind)}{x:Str}{k':NameKind},
    (names.map λ(n,k)=>if (k==NameKind.free&&env.scope.kind==.function&&env.kindOf n==some .cell) then (n,NameKind.cell) else (n,k)).lookup x=some k' ->
    k'=.cell∨k'=.free->(∀y∈names,y.2≠NameKind.cell)->∃y∈names,y.1=x/\y.2=.free
 | [],_,_,h,_,_=>by simp at h
 | (n, k) :: r, x, k', h, hk, nc => by
  have ih:=@kh env r x k';simp only[BZ] at h;cases hx:x==n with
  | true =>
   have ex:x=n:=LawfulBEq.eq_of_beq hx;refine⟨(n,k),Cr,ex.symm,?_⟩;have nck:k≠.cell:=nc (n,k) Cr;by_cases z:k=.free
   ·exact z
   ·have zb:(k==NameKind.free)=false:=by simpa using z
    simp only[zb,Bool.false_and,Dt,if_false,Cz,hx] at h;cases h;rcases hk with q | q
    ·exact absurd q nck
    ·exact absurd q z
  | false =>
   have h':(r.map λ(n,k)=>if (k==NameKind.free&&env.scope.kind==.function&&env.kindOf n==some .cell) then (n,NameKind.cell) else (n,k)).lookup x=some k':=by
    split at h
    ·simpa only[Cz,hx] using h
    ·simpa only[Cz,hx] using h
   obtain⟨y,hy,a,b⟩:=ih h' hk λz hz=>nc z (BQ _ hz);exact⟨y,BQ _ hy,a,b⟩
section
variable {X:Cx}{pins:List (Addr × Obj)}{σ:St}{H:Hp}{s:Shared}
def PTs (X:Cx) (ifs:List Expr) (t:TT):Prop :=
 ∀(pins:List (Addr × Obj)) (s:Shared) (σ:St) (H:Hp) (Q:Bool->Hp->Prop),Inv X pins σ H s->t σ H Q ->
  wpAny (model X.prog X.w) X.A (forIn ifs true λc r=>if r=true then do let ok ← isTrue c X.env (eval c X.env);pure (ForInStep.yield ok) else pure (ForInStep.yield r)) (TP X pins σ Q) X.xe s
def iU:TT:=λ_ H Q=>Q true H
theorem aT:PTs X [] iU:=λ_ _ _ H _ I h=>wpAny_tests_nil ⟨H,I,h⟩
theorem dP (h:PT X c t):PTs X [c] t:=λa s b H Q I q=>wpAny_tests_one (h a s b H Q I q)
theorem nx (h:wpAny M A t Q (λ_ _=>False) s) (b:∀a s,Q a s->z a s):wpAny M A t z E s :=
 CF h b λ_ _ f=>f.elim
theorem tY {scope:Scope}{G:LS}{fr:List Nat}{N:LS}{I:List (Str × Addr)}{s3 s4:Shared}{J:Hp}{Y:List Addr}{m:Str -> Option Value}
    (hc:X.calm=true) (S:CompSc X.env.scope scope X.N G fr N)
    (t:∀x c,I.lookup x=some c->X.env.cells.lookup x=some c) (V:∀y∈scope.names,y.2=NameKind.free->∃c,I.lookup y.1=some c)
    (a:Inv X pins σ J s3) (Q:∀b∈Y,fD X pins J b/\b<s3.heap.objs.size)
    (F:∀b o,s3.heap.get? b=some o->s4.heap.get? b=some o) (hn:s4.heap.Ns s3.heap.objs.size m) (ho:s4.os=s3.os) (hg:s4.gens=s3.gens) :
    Inv (cxC X scope N I s3.heap.objs.size s3 J Y) [] (dS G.length fr σ) J s4:=by
 have s:(compEnvC scope I s3.heap.objs.size X.env).scope.kind=.function:=by
  show (relabel scope X.env).kind=.function;exact S.kind
 refine⟨⟨a.ok.mod,s,a.ok.glob,a.ok.blt,BB _,?_,?_,?_,a.ok.hd,a.ok.frames,.inl rfl,?_,?_,?_,?_,?_,a.stack,a.stkFree⟩,ho,?_,Un.kept F,⟨m,hn,?_⟩,?_,?_,?_,?_,a.hok.kept F,?_⟩
 ·exact λx y c n d=>a.ok.inj x y c (t x c n) (t y c d)
 ·intro x hx;have R:(relabel scope X.env).names.lookup x=some .cell∨(relabel scope X.env).names.lookup x=some .free:=hx;obtain⟨C,T,U⟩:∃C,(relabel scope X.env).names.lookup x=some C/\(C=NameKind.cell∨C=NameKind.free):=by
   rcases R with q | q
   ·exact⟨_,q,.inl rfl⟩
   ·exact⟨_,q,.inr rfl⟩
  obtain⟨y,Z,e,hf⟩:=kh (env:=X.env) T U S.nocell;subst e;exact V y Z hf
 ·exact λx c h=>by cases h
 ·intro b B;obtain⟨f,M⟩:=Q b B;refine⟨Ca M,λx c h=>f.2.2.2.2.1 x c (t x c h)⟩
 ·exact λb o e=>a.bs b o e
 ·exact BP a.ok.bsz a.sz
 ·intro b o e B;obtain⟨f,M⟩:=Q b B;rcases f.2.2.2.1 with z | z
  ·exact a.ok.noex b o e z
  ·exact absurd (Cq (BK e) (BP a.ok.bsz z)) (CJ _)
 ·intro b B;obtain⟨f,M⟩:=Q b B;show b∉frs X.stack;intro z;rcases BH.mp (a.stkSub b z) with q | q
  ·exact f.2.1 q
  ·exact f.2.2.1 q
 ·rw[hg];exact a.bare
 ·intro i x v n d h3;have n:N[i]? = some x:=n;obtain⟨m0,a0,O⟩:=a.loc;have hi:G.length<=i:=by
   refine Nat.le_of_not_lt λq=>?_;unfold dS at d;rw[Db (by simpa using q),List.getElem?_replicate] at d
   split at d <;> cases d
  obtain⟨j,rfl⟩:=Nat.exists_eq_add_of_le hi;have g:(fr.map λi=>(σ[i]?).join)[j]? = some (some v):=by
   unfold dS at d;rw[Dq (by simp)] at d;simpa using d
  rw[BM] at g;cases ej:fr[j]? with
  | none=>rw[ej] at g;cases g
  | some k =>
   rw[ej] at g;have H:(σ[k]?).join=some v:=BD g;have K:σ[k]? = some (some v):=by
    cases q:σ[k]? with
    | none=>rw[q] at H;cases H
    | some o=>rw[q] at H;exact congrArg some H
   have W:X.N[k]? = some x:=by
    have q:=congrArg (λl=>l[G.length+j]?) S.names;simp only[BM,n,Dq (show (G.map some).length<=G.length+j by simp),BA,Nat.add_sub_cancel_left,ej,Option.map_some] at q;exact(BD q).symm
   have L:=CD.mp S.outer k (BG ej);rw[W] at L;simp only[Co,Bool.or_eq_true,decide_eq_true_eq] at L;obtain⟨w,A⟩:=L;have P:Vis X.env.scope x:=.inr w;obtain⟨u,r,l⟩:=O k x v W K P;refine⟨u,r,?_⟩;rcases l with⟨l,_⟩ | ⟨_,c,e,z⟩
   ·have l:X.env.scope.names.lookup x=some .local:=l;rcases w with q | q
    ·rw[l] at q;cases q
    ·rw[l] at q;cases q
   ·obtain⟨D,E⟩:=V (x,.free) (PySem.mem_of_lookup A) rfl;have E:I.lookup x=some D:=E;have ec:D=c:=BD ((t x D E).symm.trans e);subst ec;refine .inr ⟨fJ (env:=X.env) A,D,E,?_⟩;obtain⟨o,n,d⟩:=z;exact⟨o,F _ _ n,d⟩
 ·intro x c e;obtain⟨v,o,n,d⟩:=a.cell x c (t x c e);exact⟨v,o,F _ _ n,d⟩
 ·exact a.hok.fresh (BB _)
 ·exact λx c e=>a.freeC x c (t x c e)
 ·intro p hp;exact absurd hp (by simp[cxC])
 ·show (dS G.length fr σ).length=N.length;rw[S.len];simp[dS]
end
section
variable {prog:Program}{w:World}{A:Around}{R:Result->Shared->Prop}{s:Shared}
theorem sX (J:Nat -> Shared -> Prop)
    (a:∀k s, J k s -> ∀E:Value -> Shared -> Prop, wpAny (model prog w) A (pyNext it) (λr s1 => match r with
     | none=>R (.ok .next) s1
     | some v => wpAny (model prog w) A (letOwnedTupleGo tg it v) (λ_ O => wpAny (model prog w) A (assign tg env v) (λ_ s3 =>
         wpAny (model prog w) A (forIn ifs true λc r=>if r=true then do let G ← isTrue c env (eval c env);pure (ForInStep.yield G) else pure (ForInStep.yield r)) (λG s4 =>
          if G=true then wpAny (model prog w) A (eval elt env) (λx I=>wpAny (model prog w) A (call (.builtin "list.append") [z,x]) (λ_ U=>∃m,m<k/\J m U) E I) E s4
          else ∃m,m<k/\J m s4) E s3) E O) E s1) E s)
    (k:Nat) (h:J k s):codeAny (model prog w) A (.compLoop (.ListComp elt [⟨tg,iter,ifs,0⟩] scope pos) 0 it z env) R s:=by
 refine codeAny_loop rfl J (λk s i=>?_) k h;show wpAny _ A ((compTurn (.ListComp elt [⟨tg,iter,ifs,0⟩] scope pos) 0 it z env).onRaise (λe=>do noteFrame e env;theTreesLotGoes e)) _ _ s;refine wpAny_noted ?_;rw[compTurn_list];refine Bz (wpAny_standAt (Bz (thn (a k s i _) λr s1 b=>?_)));cases r with
 | none=>exact BC b
 | some v =>
  refine Bz (thn b λ_ O f=>Bz (thn f λ_ s3 l=>Bz (thn l λG s4 d=>?_)));cases G with
  | false=>exact BC ⟨rfl,d⟩
  | true=>exact Bz (Bz (thn d λx I j=>Bz (thn j λ_ U g=>BC (BC ⟨rfl,g⟩))))
end
def cS (k:Nat) (fr:List Nat) (g:TG) (tc:TT) (te:TE) (J:It) (σ:St) (H1:Hp) (Q:VK):Prop :=
 ∀D,H1 D=none->∃W:Nat->Nat->LV->St->Hp->Prop,(∃m,W 0 m [] (dS k fr σ) (upd H1 D (.lst [])))/\∀i m acc σ' H',W i m acc σ' H'->H' D=some (.lst acc) ->
  (J.stop i H'/\Q (.ref D) H')∨(J.go i H'/\∃N:LV->St->Hp->Prop,(∀acc' σ2 H2,N acc' σ2 H2->∃m',m'<m/\W (i+1) m' acc' σ2 H2)/\∀x H2,J.yld i H' x H2->g x σ' H2 λσ2 H3=>tc σ2 H3 λb H4 =>
   if b=true then te σ2 H4 λy H5=>H5 D=some (.lst acc)/\acc.length<sizeLine/\N (acc++[y]) σ2 (upd H5 D (.lst (acc++[y])))
   else H4 D=some (.lst acc)/\N acc σ2 H4)
def qV (k:Nat) (fr:List Nat) (wi:TI) (g:TG) (tc:TT) (te:TE):TE:=λσ H Q=>wi σ H λJ H1=>cS k fr g tc te J σ H1 Q
section
variable {X:Cx}{pins:List (Addr × Obj)}{σ:St}{H:Hp}{s:Shared}{tg elt iter:Expr}{ifs:List Expr}{scope:Scope}{pos:Pos}
theorem kE {a5:LS}{fr:List Nat}{N:LS}{cl:List (Str × Addr)}{O:List Addr}{J:It}{tn:Nat -> Heap -> Prop}{POST:Value -> Addr -> Result -> Shared -> Prop}
    (hc:X.calm=true) (S:CompSc X.env.scope scope X.N a5 fr N)
    (c1:∀x c,cl.lookup x=some c->X.env.cells.lookup x=some c) (c2:∀y∈scope.names,y.2=NameKind.free->∃c,cl.lookup y.1=some c)
    (hg:∀C Y U ex,PG (cxC X scope N cl C Y U ex) tg g) (ht:∀C Y U ex,PTs (cxC X scope N cl C Y U ex) ifs tc) (he:∀C Y U ex,PE (cxC X scope N cl C Y U ex) elt te)
    (I2:Inv X pins σ H2 G) (T:Turn X.prog X.w X.K tg J O it tn) (t2:tn 0 G.heap) (A:∀b∈O,fD X pins H2 b) (q:cS a5.length fr g tc te J σ H2 Q)
    (b6:∀D C s' H' m,Inv X pins σ H' s'->fD X pins H' C->s'.heap.Ns C m->Q (.ref D) H'->POST (.ref D) C (.ok .next) s') :
    wpAny (model X.prog X.w) X.A (newList []) (λI s3=>wpAny (model X.prog X.w) X.A (newFunctionEnv scope X.env.globals cl [] X.env.qual none .none (some X.env)) (λa0 s4 =>
     codeAny (model X.prog X.w) X.A (.compStart (.ListComp elt [⟨tg,iter,ifs,0⟩] scope pos) 0 (.ref it) I { a0 with scope:=relabel scope X.env }) (POST I a0.locals) s4) E s3) E G:=by
 refine wpAny_newObj_type (wpAny_newFunctionEnv S.nocell (by intro y hy;simp at hy) (λh4 K H=>?_) S.kind);dsimp only at K H ⊢;have hD:H2 G.heap.objs.size=none:=I2.hok.fresh (BB _);obtain⟨W,⟨m0,w0⟩,V⟩:=q G.heap.objs.size hD;have I3:Inv X pins σ (upd H2 G.heap.objs.size (.lst [])) { G with heap:=G.heap.push { cls:=.type "list",dict:=none,data:=.seq ([]:LW).toArray },toks:=G.toks } :=
  I2.laid (λb u q=>BU _ q) (BB _) ⟨Cg _,[],_,.nil,Ce _ rfl⟩
 generalize M:G.heap.push { cls:=.type "list",dict:=none,data:=.seq ([]:LW).toArray }=f at *;have z3:f.objs.size=G.heap.objs.size+1:=by rw[<- M,Heap.size_push]
 have a3:∀b o,G.heap.get? b=some o->f.get? b=some o:=λb o e=>by rw[<- M];exact BU _ e
 have B:∀b o,f.get? b=some o->h4.get? b=some o:=λb o e=>H.extBut b o (Ca (BK e)) (BU _ e);have a7:∀b∈O,b<G.heap.objs.size:=λb a=>by
  obtain⟨o,e,_⟩:=T.obj _ _ t2 b a;exact BK e
 have f3:∀b∈O,fD X pins (upd H2 G.heap.objs.size (.lst [])) b/\b<f.objs.size:=λb a=>by
  refine⟨⟨?_,(A b a).2⟩,by rw[z3];exact Nat.lt_succ_of_lt (a7 b a)⟩;rw[ah (Ca (a7 b a))];exact(A b a).1
 generalize s:({ G with heap:=f,toks:=G.toks }:Shared)=s3 at I3;have l:s3.heap=f:=by rw[<- s]
 have c0:({ G with heap:=f }:Shared)=s3:=s;have I4:=tY (s3:=s3) (s4:={ s3 with heap:=h4,toks:=s3.toks+([]:List (Str × Value)).length }) hc S c1 c2 I3 (by rw[l];exact f3) (by rw[l];exact B) (m:=λx=>([]:List (Str × Value)).reverse.lookup x) (by rw[l];exact K) rfl rfl;rw[l] at I4;have j:∀ {H':Hp} {s':Shared} {d:St} {pl:List (Addr × Obj)},Inv (cxC X scope N cl f.objs.size s3 (upd H2 G.heap.objs.size (.lst [])) O) pl d H' s'->(∀p∈pl,p.1∉O)->(∀b∈O,H' b=none)->∀b∈O,fD (cxC X scope N cl f.objs.size s3 (upd H2 G.heap.objs.size (.lst [])) O) pl H' b:=λ{H' s' d pl} I' b9 hn b a=>by
  refine⟨hn b a,Ca (f3 b a).2,I'.ok.exfs b a,.inl a,λx c e=>(A b a).2.2.2.2.1 x c (c1 x c e),λp hp=>?_⟩;intro z;exact b9 p (by simpa [cxC] using hp) (z ▸ a)
 have w:∀s4:Shared, s4={ s3 with heap := h4, toks := s3.toks+([]:List (Str × Value)).length } ->
     codeAny (model X.prog X.w) X.A (.compLoop (.ListComp elt [⟨tg,iter,ifs,0⟩] scope pos) 0 (.ref it) (.ref G.heap.objs.size) (compEnvC scope cl f.objs.size X.env)) (POST (.ref G.heap.objs.size) f.objs.size) s4:=by
  rintro s4 rfl;refine sX (λn s'=>∃i I d H',Inv (cxC X scope N cl f.objs.size s3 (upd H2 G.heap.objs.size (.lst [])) O) [] d H' s'/\tn i s'.heap/\(∀b∈O,H' b=none)/\H' G.heap.objs.size=some (.lst I)/\W i n I d H') ?_ m0
   ⟨0,[],_,_,I4,T.keep _ _ _ t2 λb a o e=>B b o (a3 b o e),λb a=>(f3 b a).1.1,af,w0⟩
  rintro n s5 ⟨i,I,t,H5,I5,t5,P,d5,w5⟩ E';rcases V i n I t H5 w5 d5 with⟨a4,qn⟩ | ⟨go,NN,L,a6⟩
  ·refine thn (T.done (cxC X scope N cl f.objs.size s3 (upd H2 G.heap.objs.size (.lst [])) O) rfl rfl rfl hc i [] s5 t H5 E' I5 (j I5 (by simp) P) t5 a4) λr s6 ⟨hr,F⟩=>?_;subst hr;obtain⟨m6,n6,_⟩:=id F.loc;have J6:Inv X pins σ H5 s6:=I3.call' (ch:=O) F.os F.base F.hok F.bare λb a=>⟨(A b a).2.2.2.1,(A b a).2.1,(A b a).2.2.2.2.1,(A b a).2.2.2.2.2⟩
   exact b6 _ _ s6 H5 m6 J6 (I2.fpOk (by rw[z3];exact Nat.le_succ _) F.free) n6 qn
  ·refine thn (T.item (cxC X scope N cl f.objs.size s3 (upd H2 G.heap.objs.size (.lst [])) O) rfl rfl rfl hc i [] s5 t H5 E' I5 (j I5 (by simp) P) t5 go) λr s6 ⟨u,hr,h6⟩=>?_;subst hr;refine thn h6 λ_ s7 ⟨x,H7,I7,r7,y7,t7,b1⟩=>?_;have b8:=I7.pinned (j I7 (by simp) b1) (T.obj _ _ t7);have h:∀ {s':Shared} {H':Hp} {d:St},Inv (cxC X scope N cl f.objs.size s3 (upd H2 G.heap.objs.size (.lst [])) O) ([]++jd O s7.heap) d H' s'->tn (i+1) s'.heap/\∀b∈O,H' b=none:=λ{s' H' d} I'=>by
    refine⟨T.keep _ _ _ t7 λb a o e=>(I'.pin (b,o) (Cy _ (Cy _ (gq a e)))).1,λb a=>?_⟩;obtain⟨o,e,_⟩:=T.obj _ _ t7 b a;exact(I'.pin (b,o) (Cy _ (Cy _ (gq a e)))).2.1
   refine nx (hg _ _ _ _ _ s7 t H7 x u _ b8 r7 (a6 x H7 y7)) λ_ s8 ⟨k,H8,I8,q8⟩=>?_;refine nx (ht _ _ _ _ _ s8 k H8 _ I8 q8) λok s9 ⟨H9,I9,q9⟩=>?_;cases ok with
   | false =>
    obtain⟨d9,n9⟩:=q9;obtain⟨m',hm,w9⟩:=L _ _ _ n9;obtain⟨a1,a2⟩:=h I9;exact⟨m',hm,i+1,I,k,H9,I9.unpinned,a1,a2,d9,w9⟩
   | true =>
    rw[if_pos rfl];refine nx (he _ _ _ _ _ s9 k H9 _ I9 q9) λy b7 ⟨v,R,b3,b0,b4,b5,a9⟩=>?_;obtain⟨m',hm,b2⟩:=L _ _ _ a9;refine nx (mK _ b7 k R (.ref G.heap.objs.size) [v] (.ref G.heap.objs.size) [y] (λ_ H'=>H'=upd R G.heap.objs.size (.lst (I++[v]))) b3 rfl (.cons b0 .nil) ⟨_,I,v,rfl,rfl,b4,b5,rfl⟩) λ_ c4 ⟨_,c3,Z,_,a8⟩=>?_;subst a8;obtain⟨a1,a2⟩:=h Z;exact⟨m',hm,i+1,_,k,_,Z.unpinned,a1,a2,af,b2⟩
 exact codeAny_compStart_list (w _ (by rw[<- s])) (T.self _ 0 _ _ _ (T.keep _ _ _ t2 λb a o e=>B b o (a3 b o e)) (w _ (by rw[<- s])))
theorem lK (f:Scope) (p c:LS) (i:List Nat) (N:LS) (K:X.calm=true)
    (R:PI X tg iter wi) (Y:∀O C G z ex,PG (cxC X scope N O C G z ex) tg g) (Z:∀O C G z ex,PTs (cxC X scope N O C G z ex) ifs tc) (he:∀O C G z ex,PE (cxC X scope N O C G z ex) elt te)
    (hs:∀x,foldedSetIterable iter X.env x=pure x:=by intro _;rfl) (d:X.env.scope=f:=by rfl) (k:X.N=p:=by rfl) (V:iR f scope p c i N=true:=by decide +kernel) :
    PE X (.ListComp elt [⟨tg,iter,ifs,0⟩] scope pos) (qV c.length i wi g tc te):=by
 intro a s n H Q I h;have S:CompSc X.env.scope scope X.N c i N:=by rw[d,k];exact CompSc.of V
 obtain⟨O,l,t,u⟩:=pX (scope:=scope) (env:=X.env) λy r hf=>I.ok.has y.1 (S.free y r hf);rw[eval_ListComp];refine wpAny_comprehension_free (use:=none) rfl hs l S.kind S.loc (thn (R a s n H _ I h) λv s1 h1=>thn h1 λa0 s2 B=>?_);obtain⟨it,fp,tn,J,H2,e,I2,T,w,E,q⟩:=B;subst e;refine kE (POST:=λj C=>compPost (model X.prog X.w) X.A X.xe none (EP X a n Q) j C) K S t u (Y O) (Z O) (he O) I2 T w E q λD C F H' m L A ns q'=>?_;refine⟨m,ns,λh' U=>⟨.ref D,H',?_,rfl,q'⟩⟩;obtain⟨P,W,_,M,g4,g5⟩:=A;exact L.turned (t':=F.toks) (λb o hb e=>(U.2 b hb).trans e) P W M g4 g5
theorem hR (hN:X.N.Nodup) (p:X.N[i]? = some x) (K:X.env.scope.names.lookup x=some .local)
    (t:swapsWith (.ListComp elt [⟨tg,iter,ifs,0⟩] scope pos) (some (.Name x px)) Y.line X.env=pure true)
    (j:Scope) (L d:LS) (r:List Nat) (N:LS) (hc:X.calm=true)
    (hi:PI X tg iter wi) (hg:∀U C O G ex,PG (cxC X scope N U C O G ex) tg g) (ht:∀U C O G ex,PTs (cxC X scope N U C O G ex) ifs tc) (he:∀U C O G ex,PE (cxC X scope N U C O G ex) elt te)
    (hs:∀x,foldedSetIterable iter X.env x=pure x:=by intro _;rfl) (k:X.env.scope=j:=by rfl) (l:X.N=L:=by rfl) (hS:iR j scope L d r N=true:=by decide +kernel) :
    PS X (.Assign [.Name x px] (.ListComp elt [⟨tg,iter,ifs,0⟩] scope pos) Y) (rJ (qV d.length r wi g tc te) (cF i)):=by
 intro c s σ H D I h;have S:CompSc X.env.scope scope X.N d r N:=by rw[k,l];exact CompSc.of hS
 obtain⟨U,E,c1,R⟩:=pX (scope:=scope) (env:=X.env) λy P hf=>I.ok.has y.1 (S.free y P hf);rw[exec_Assign_Name_used _ _ _ _ t];refine Bz (wpAny_standAt (Bz ?_));show wpAny _ X.A (do let _ ← comprehension (.ListComp elt [⟨tg,iter,ifs,0⟩] scope pos) scope X.env _ (newList []) false (eval iter X.env) (some (assign (.Name x px) X.env))) _ _ s;refine Bz (thn (wpAny_comprehension_free (use:=some (assign (.Name x px) X.env)) (Q:=λ_ f=>SP X c D .next f) rfl hs E S.kind S.loc (thn (hi c s σ H _ I h) λv s1 h1=>thn h1 λa0 s2 Z=>?_)) λ_ f hq=>BC (BC hq));obtain⟨it,fp,tn,J,H2,e,I2,T,V,f2,q⟩:=Z;subst e;refine kE (POST:=λu C=>compPost (model X.prog X.w) X.A X.xe (some (assign (.Name x px) X.env)) (λ_ f=>SP X c D .next f) u C) hc S c1 R (hg U) (ht U) (he U) I2 T V f2 q λn C f H' m I' W ns q'=>?_;show wpAny _ X.A (assign (.Name x px) X.env (.ref n)) _ _ f;refine wpAny_assign_Name (md I' hN p (.inl K) (show RelV (.ref n) (.ref n) from rfl) (λs3 I3 B=>?_) (.inr K));obtain⟨a,B,ha⟩:=B;obtain⟨g0,F,g2,g3,M,g5⟩:=W;have aC:C≠a:=by
  rcases ha with z | z
  ·rw[z];exact F
  ·exact λw=>M x a z w.symm
 refine⟨m,ns.sameBut B aC,λh' A=>⟨_,H',?_,q'⟩⟩;exact I3.turned (t':=s3.toks) (λb o hb e=>(A.2 b hb).trans e) g0 F g3 M g5
end
def sgV (x:Str) (i:Nat):Option V:=(x.cps[i]?).map λc=>V.str ⟨#[c]⟩
def Its (x:Str):It:=⟨λi _=>i<x.cps.size,λi H v H'=>H'=H/\sgV x i=some v,λi _=>x.cps.size<=i⟩
theorem qU {P:Program}{w:World}{K:W.Frag}{tg:Expr}(T:String) (it:Addr) (x:Str) (t:Tok)
    (hn:["enumerate","zip","dict_itemiterator","dict_reverseitemiterator","odict_iterator","itertools.zip_longest","itertools.pairwise"].contains T=false)
    (W:∀A:Around,A.handled=none->Walks P w A it [it] [it] x.cps.size (SignAt x) (λi h=>h.IsStrIter it T x t i))
    (hs:∀(A:Around) (i:Nat) (s:Shared) (Q:Value->Shared->Prop) (E:Value->Shared->Prop),s.heap.IsStrIter it T x t i->Q (.ref it) s->wpAny (model P w) A (pyIter (.ref it)) Q E s) :
    Turn P w K tg (Its x) [it] it (λi h=>h.IsStrIter it T x t i/\i<=x.cps.size) where
 mem:=by simp
 obj:=λi h st b hb=>by
  have e:b=it:=by simpa using hb
  subst e;obtain⟨o,e,c,d⟩:=st.1;exact⟨o,e,λv z=>by rw[d] at z;cases z⟩
 keep:=λi h h' st k=>⟨by
  obtain⟨o,e,c⟩:=st.1;exact⟨o,k it (by simp) o e,c⟩,st.2⟩
 item:=by
  intro X hP hw hK hc i pins s σ H E I hf st hg;subst hP hw hK;obtain⟨f0,f1,f2,f3,f4,f5⟩:=hf it (by simp);refine(W X.A (I.ok.hd hc)).item i s _ _ hg st.1 λv h' tk hv st' kk=>?_;obtain⟨c,u,hcp,rfl⟩:=hv;have I1:Inv X pins σ H { s with heap:=h',toks:=tk }:=I.turned (λb o hb e=>kk b o (by simpa using hb) e) f0 f1 f3 f4 f5;obtain⟨o,e,cc,d⟩:=id st';refine⟨_,rfl,mV (s:={ s with heap:=h',toks:=tk }) e cc d hn ⟨.str ⟨#[c]⟩,H,I1,⟨u,rfl⟩,⟨rfl,?_⟩,⟨st',?_⟩,λb hb=>(hf b hb).1⟩⟩
  ·unfold sgV;rw[hcp];rfl
  ·exact hg
 done:=by
  intro X hP hw hK hc i pins s σ H E I hf st hg;subst hP hw hK;obtain⟨f0,f1,f2,f3,f4,f5⟩:=hf it (by simp);have e:i=x.cps.size:=Nat.le_antisymm st.2 hg;subst e;exact(W X.A (I.ok.hd hc)).done s _ _ st.1 λh' tk kk=>⟨rfl,I.turned (λb o hb e=>kk b o (by simpa using hb) e) f0 f1 f3 f4 f5⟩
 self:=λA i s Q E st h=>hs A i s Q E st.1 h
def iStr (tl:TE):TI:=λσ H R=>tl σ H λx H1=>∃z,x=.str z/\R (Its z) H1
theorem AF {X:Cx}{tg l:Expr}{tl:TE}(n:PE X l tl):PI X tg l (iStr tl) := by
 intro c s k H R I h;refine thn (n c s k H _ I h) λv a ⟨x,w,j,r,u⟩=>?_;obtain⟨z,e,q⟩:=u;subst e;obtain⟨t,rfl⟩:=r;have d:∀(T:String),["enumerate","zip","dict_itemiterator","dict_reverseitemiterator","odict_iterator","itertools.zip_longest","itertools.pairwise"].contains T=false ->
     (∀A:Around,A.handled=none->Walks X.prog X.w A a.heap.objs.size [a.heap.objs.size] [a.heap.objs.size] z.cps.size (SignAt z) (λi h=>h.IsStrIter a.heap.objs.size T z t i)) ->
     (∀(A:Around) (i:Nat) (s:Shared) (Q:Value->Shared->Prop) (E:Value->Shared->Prop),s.heap.IsStrIter a.heap.objs.size T z t i->Q (.ref a.heap.objs.size) s->wpAny (model X.prog X.w) A (pyIter (.ref a.heap.objs.size)) Q E s) ->
     PIE X c k tg R (.ref a.heap.objs.size) { a with heap:=a.heap.push { cls:=.type T,data:=.fields #[.str z t,.int 0 0] } }:=λT m W p=>by
  refine⟨_,[a.heap.objs.size],_,_,w,rfl,j.kept (t':=a.toks) λb o e=>BU _ e,qU T _ z t m W p,⟨⟨_,Ce _ rfl,rfl,rfl⟩,Cg _⟩,λb y=>?_,q⟩;have e:b=a.heap.objs.size:=by simpa using y
  subst e;exact j.fpOk (BB _) (j.hok.fresh (BB _))
 cases ha:z.cps.all (·<128)
 ·exact wpAny_pyIter_wide ha (d "str_iterator" (by decide) (λA g=>Walks.strWide g _ z t) λA i s Q E f h=>wpAny_pyIter_striter_wide f h)
 ·exact wpAny_pyIter_ascii ha (d "str_ascii_iterator" (by decide) (λA g=>Walks.strAscii g _ z t) λA i s Q E f h=>wpAny_pyIter_striter_ascii f h)
def Ite (K:W.Frag) (a:Addr):It :=
 ⟨λi H=>∃xs x,SqL K H a xs/\xs[i]? = some x,λi H v H'=>∃p x,H p=none/\v=.ref p/\(∀xs,SqL K H a xs->xs[i]? = some x)/\H'=upd H p (.tup [.int i,x]),λi H=>∃xs,SqL K H a xs/\xs.length<=i⟩
theorem my {P:Program}{w:World}{K:W.Frag}{elts:List Expr}{k:Nat}{tp:Pos}(a e it:Addr) (hne:e ≠ it) :
    Turn P w K (.Tuple elts k tp) (Ite K a) [e,it] e (λi h=>(∃old,IsEnum h e it i old)/\h.IsListIter it a i) where
 mem:=by simp
 obj:=λi h st b hb=>by
  obtain⟨⟨old,he⟩,hit⟩:=st;have hb:b=e∨b=it:=by simpa using hb
  rcases hb with z | z
  ·subst z;exact⟨_,he,λv z=>by cases z⟩
  ·subst z;obtain⟨o,e1,c,d⟩:=hit;exact⟨o,e1,λv z=>by rw[d] at z;cases z⟩
 keep:=λi h h' st kk=>by
  obtain⟨⟨old,he⟩,hit⟩:=st;exact⟨⟨old,kk e (by simp) _ he⟩,hit.at λo q=>kk it (by simp) o q⟩
 item := by
  intro X hP hw hK hc i pins s σ H E I hf st hg;subst hP hw hK;obtain⟨⟨old,he⟩,hit⟩:=st;obtain⟨xs,x,hq,hx⟩:=hg;obtain⟨its,rv,p,hz⟩:=I.list hq;obtain⟨u,hu,ru⟩:=rv.get hx;obtain⟨f0,f1,f2,f3,f4,f5⟩:=hf e (by simp);obtain⟨g0,g1,g2,g3,g4,g5⟩:=hf it (by simp);refine wpAny_pyNext_enum_item he hit p.isList (x:=u) (by simpa using hu) hne λh1 ho hit1 ht1 hz1 k1=>?_;have hel:e<s.heap.objs.size:=BK he;have hil:it<s.heap.objs.size:=by obtain⟨o,q,_⟩:=hit;exact BK q
  refine⟨_,rfl,wpAny_letOwnedTupleGo_enum ho λh2 he2 sb2=>?_⟩;have sb2:Heap.SameBut e h1 h2:=sb2;have T2:h2.get? s.heap.objs.size=some { cls:=.type "tuple",data:=.seq #[.int i s.toks,u] }:=(sb2.2 _ (CS hel)).trans ht1;have hp:H s.heap.objs.size=none:=I.hok.fresh (BB _);have nit:∀b v,H b=some v->b≠e/\b≠it:=λb v q=>⟨λz=>(by rw[z,f0] at q;cases q),λz=>(by rw[z,g0] at q;cases q)⟩
  have kk:∀b o,b≠e->b≠it->s.heap.get? b=some o->h2.get? b=some o:=λb o n1 n2 q=>(sb2.2 b n1).trans (k1 b o n1 n2 q);have up:∀b v,H b=some v->upd H s.heap.objs.size (.tup [.int i,x]) b=some v:=λb v q=>by rw[ah (ao q hp)];exact q
  have I1:Inv X pins σ (upd H s.heap.objs.size (.tup [.int i, x])) { s with heap := h2, gens := s.gens, drawn := s.drawn, toks := s.toks+1 } := by
   refine I.step (g':=s.gens) (d':=s.drawn) (ch:=[e,it]) (λb hb=>?_) (λb o _ _ hb q _=>kk b o (λz=>hb (by simp[z])) (λz=>hb (by simp[z])) q) (λb o _ _ hb q _=>⟨o.slots,kk b o (λz=>hb (by simp[z])) (λz=>hb (by simp[z])) q⟩) (λb o _ q n=>?_)
    (λb o hb q=>⟨o,kk b o (λz=>hb (by simp[z])) (λz=>hb (by simp[z])) q⟩) (λb ys q=>up b _ q) (λb o v q=>up b _ q) (λb ps q=>⟨#[],by rw[up b _ q];simp⟩) (λm hm=>?_) (λb v q=>?_) I.bare
   ·have hb:b=e∨b=it:=by simpa using hb
    rcases hb with z | z
    ·subst z;exact⟨f3,f1,f4,f5⟩
    ·subst z;exact⟨g3,g1,g4,g5⟩
   ·rw[ah (Ca (BK q))];exact n
   ·obtain⟨o,es,ep,ho,r⟩:=hm;exact⟨o,es,ep,kk _ o (Ne.symm f1) (Ne.symm g1) ho,r⟩
   ·by_cases hb:b=s.heap.objs.size
    ·subst hb;rw[af] at q;have q':HO.tup [V.int i,x]=v:=BD q;subst q';exact⟨by show 2<=sizeLine;decide,[.int i s.toks,u],.cons ⟨_,rfl⟩ (.cons ru .nil),⟨_,T2,rfl,_,rfl,rfl⟩⟩
    ·rw[ah hb] at q;refine(I.hok b v q).stay (λc v' hc q'=>?_) (λc q=>up c _ q) λc ys q=>up c _ q;rcases hc with z | z
     ·rw[z] at q' ⊢;exact kk b v' (nit b v q).1 (nit b v q).2 q'
     ·exact kk c v' (nit c _ z).1 (nit c _ z).2 q'
  refine⟨.ref s.heap.objs.size,upd H s.heap.objs.size (.tup [.int i,x]),I1,rfl,⟨_,x,hp,rfl,λys hy=>by rw[I.list_inj hy hq];exact hx,rfl⟩,⟨⟨u,?_⟩,?_⟩,λb hb=>?_⟩
  ·exact(by simpa using he2)
  ·exact hit1.at λo q=>(sb2.2 it (Ne.symm hne)).trans q
  ·have hb:b=e∨b=it:=by simpa using hb
   rcases hb with z | z
   ·rw[z,ah (Ca hel)];exact f0
   ·rw[z,ah (Ca hil)];exact g0
 done:=by
  intro X hP hw hK hc i pins s σ H E I hf st hg;subst hP hw hK;obtain⟨⟨old,he⟩,hit⟩:=st;obtain⟨xs,hq,hx⟩:=hg;obtain⟨its,rv,p,hz⟩:=I.list hq;obtain⟨g0,g1,g2,g3,g4,g5⟩:=hf it (by simp);have hl:=rv.length;exact wpAny_pyNext_enum_end (I.ok.hd hc) he hit p.isList (by simp;omega) λh' eb=>⟨rfl,I.turned (t':=s.toks) (λb o hb q=>eb b o hb q) g0 g1 g3 g4 g5⟩
 self:=λ_ _ _ _ _ st h=>by
  obtain⟨⟨old,he⟩,_⟩:=st;exact wpAny_pyIter_enum he h
def xm (K:W.Frag) (ta:TA):TI:=λσ H R=>ta σ H λvs H1=>∃a,vs=[.ref a]/\(∃xs,SqL K H1 a xs)/\R (Ite K a) H1
theorem xT {X:Cx}{G:List Expr}{k:Nat}{tp:Pos}{a:Expr}{ta:TA}{p pos:Pos}(x:Gl X "enumerate") (A:X.mg "enumerate"=none) (v:PA X [a] ta) (B:starEach [a] X.env=[(false,eval a X.env)]:=by rfl) :
    PI X (.Tuple G k tp) (.Call (.Name "enumerate" p) [a] [] pos) (xm X.K ta):=by
 intro f s o H R I h;refine Call_ (gy I x A boot_enumerate (PyProof.Rows.callWith_type1 (thn (v pos f s o H _ I h) λF c ⟨K,E,d,C,D⟩=>?_) B rfl));obtain⟨a,e,⟨M,y⟩,q⟩:=D;subst e;obtain⟨u,rfl,t⟩:=cI C;cases t;obtain⟨l,J,n,L⟩:=d.list y;refine call_enumerate_list n.isList λw j i r m=>?_;refine wpAny_pyIter_enum (s:={ c with heap:=w }) j ?_;refine⟨_,[c.heap.objs.size+1,c.heap.objs.size],_,_,E,rfl,d.kept (t':=c.toks) m,my a _ _ (Nat.succ_ne_self _),⟨⟨_,j⟩,i⟩,λb g=>?_,q⟩;have g:b=c.heap.objs.size+1∨b=c.heap.objs.size:=by simpa using g
 rcases g with z | z
 ·subst z;exact d.fpOk (Nat.le_succ _) (d.hok.fresh (Nat.le_succ _))
 ·subst z;exact d.fpOk (BB _) (d.hok.fresh (BB _))
mutual
inductive Rep (H:Hp):V->PyData->Prop
 | non:Rep H .non .none
 | bl (b:Bool):Rep H (.bl b) (.bool b)
 | int (i:Int):Rep H (.int i) (.int i)
 | str (x:Str):Rep H (.str x) (.str x)
 | lst {a:Addr} {xs:LV} {ds:List PyData}:H a=some (.lst xs)->RepAll H xs ds->Rep H (.ref a) (.list ds)
 | tup {a:Addr} {xs:LV} {ds:List PyData}:H a=some (.tup xs)->RepAll H xs ds->Rep H (.ref a) (.tuple ds)
inductive RepAll (H:Hp):LV->List PyData->Prop
 | nil:RepAll H [] []
 | cons {x:V} {xs:LV} {d:PyData} {ds:List PyData}:Rep H x d->RepAll H xs ds->RepAll H (x::xs) (d::ds)
end
mutual
theorem Rep.reads (ok:HOk P w H h):∀ {v:V}{d:PyData}{u:Value},Rep H v d->RelV v u->∃as,Reads h u d as
 | _,_,_,.non,r=>by cases r;exact⟨_,.none⟩
 | _,_,_,.bl b,r=>by cases r;exact⟨_,.bool b⟩
 | _,_,_,.int i,r=>by obtain⟨t,rfl⟩:=r;exact⟨_,.int i t⟩
 | _,_,_,.str x,r=>by obtain⟨t,rfl⟩:=r;exact⟨_,.str x t⟩
 | _,_,_,.lst (a:=a) (xs:=xs) e rs,r=>by
  cases r;obtain⟨_,its,n,rv,eh⟩:=(show ObjOk P w H h a (.lst xs) from ok a _ e)
  obtain⟨as,z⟩:=RepAll.reads ok rs rv;exact⟨_,.list eh rfl rfl (by simpa using z)⟩
 | _,_,_,.tup (a:=a) (xs:=xs) e rs,r=>by
  cases r;obtain⟨_,its,rv,o,eh,hc,n,hd,_⟩:=(show ObjOk P w H h a (.tup xs) from ok a _ e)
  obtain⟨as,z⟩:=RepAll.reads ok rs rv;exact⟨_,.tuple eh hc hd (by simpa using z)⟩
theorem RepAll.reads (ok:HOk P w H h):∀ {vs:LV}{ds:List PyData}{us:LW}, RepAll H vs ds -> Vals vs us -> ∃as, ReadsAll h us ds as
 | _,_,_,.nil,r=>by cases r;exact⟨_,.nil⟩
 | _,_,_,.cons q qs,r=>by
  cases r with
  | cons r1 r2 =>
   obtain⟨as,z⟩:=Rep.reads ok q r1;obtain⟨bs,zs⟩:=RepAll.reads ok qs r2;exact⟨_,.cons z zs⟩
end
mutual
theorem Rep.same (s:Same H H'):∀ {v:V}{d:PyData},Rep H v d->Rep H' v d
 | _,_,.non=>.non
 | _,_,.bl b=>.bl b
 | _,_,.int i=>.int i
 | _,_,.str x=>.str x
 | _,_,.lst e rs=>.lst (s _ _ e) (rs.same s)
 | _,_,.tup e rs=>.tup (s _ _ e) (rs.same s)
theorem RepAll.same (s:Same H H'):∀ {vs:LV}{ds:List PyData},RepAll H vs ds->RepAll H' vs ds
 | _,_,.nil=>.nil
 | _,_,.cons q qs=>.cons (q.same s) (qs.same s)
end
section
variable {X:Cx}
def shp (d:PyData):Prop:=SeqAt.shaped d=true
def rEqD:R2:=λx y H Q=>∃da db,Rep H x da/\Rep H y db/\shp da/\shp db/\Q (.bl (PyData.eqv da db)) H
def rNeD:R2:=λx y H Q=>∃da db,Rep H x da/\Rep H y db/\shp da/\shp db/\Q (.bl (!PyData.eqv da db)) H
theorem Au (f:X.A.units+64<cLine):OpR X (compareOp .Eq) rEqD:=by
 intro a s m H x y v u Q I b i h;obtain⟨l,p,j,c,k,g,q⟩:=h;obtain⟨o,d⟩:=j.reads I.hok b;obtain⟨n,e⟩:=c.reads I.hok i;exact eq_dataH d e k g f ⟨.bl _,H,I,rfl,q⟩
theorem zE (f:X.A.units+64<cLine):OpR X (compareOp .NotEq) rNeD:=by
 intro a s m H x y v u Q I b i h;obtain⟨l,p,j,c,k,g,q⟩:=h;obtain⟨o,d⟩:=j.reads I.hok b;obtain⟨n,e⟩:=c.reads I.hok i;exact ne_dataH d e k g f ⟨.bl _,H,I,rfl,q⟩
theorem ue:OpR X (compareOp .LtE) (λx y H Q=>∃i j,x=.str i/\y=.str j/\Q (.bl (!decide (j.cps.toList<i.cps.toList))) H):=by
 intro a s e H x y v u Q I b c h;obtain⟨i,j,rfl,rfl,q⟩:=h;obtain⟨t,rfl⟩:=b;obtain⟨d,rfl⟩:=c;exact PySem.P.le_str (aU I q (by simp))
theorem uY (bs:List Bool):((List.range bs.length).all λi=>bs.getD i false)=bs.all id:=by
 rw[Cu,CD,CD]
 constructor
 ·intro h b c;obtain⟨i,a,rfl⟩:=List.mem_iff_getElem.mp c;have:=h i (by simpa using a);simpa [Cs,a] using this
 ·intro h i a;have a:i<bs.length:=by simpa using a
  have:=h bs[i] (CK a);simpa [Cs,a] using this
theorem yg {bs:List Bool}{z:LW}(r:Vals (bs.map V.bl) z) {i:Nat}(e:z[i]? = some v):v=.bool (bs.getD i false):=by
 have b:=r.length;rw[BA] at b;have d:i<bs.length:=by rw[b];exact(BF.mp e).1
 obtain⟨u,a,c⟩:=r.get (i:=i) (x:=V.bl (bs.getD i false)) (by rw[BM];simp[Cs,d]);rw[e] at a;cases a;exact c
theorem pL (w:X.calm=true):dJ X (.builtin "all") (λxs H Q=>∃p bs,xs=[.ref p]/\H p=some (.lst (List.map V.bl bs))/\Q (.bl (bs.all id)) H):=by
 intro l s C H xs z Q I r h;obtain⟨p,bs,rfl,e,q⟩:=h;obtain⟨u,rfl,x⟩:=cI r;cases x;obtain⟨F,a,n,k,j⟩:=(show ObjOk X.prog X.w H s.heap p (.lst (List.map V.bl bs)) from I.hok p _ e)
 have t:s.heap.IsList p a.toArray:=⟨_,j,rfl,n,rfl⟩
 have c:a.length=bs.length:=by have:=k.length;rw[BA] at this;exact this.symm
 have d:p<s.heap.objs.size:=BK j;refine call_all_walk (wpAny_pyIter_list t ?_);refine⟨s.heap.objs.size,[s.heap.objs.size,p],[s.heap.objs.size],a.toArray.size,_,_,λi=>bs.getD i false,rfl,
  Walks.list (A:=X.A.in1) (I.ok.hd w) _ p (Ca d) a.toArray,⟨⟨_,Ce _ rfl,rfl,rfl⟩,⟨_,BU _ j,rfl,n,rfl⟩⟩,?_,λE G y=>?_⟩
 ·intro i v D B J f g;have f:a[i]? = some v:=by simpa using f
  rw[yg k f];exact BC g
 ·refine⟨.bl _,H,I.kept λb o m=>y b o (by simpa using Ca (BK m)) (BU _ m),rfl,?_⟩;rw[BY,c,uY];exact q
theorem lj:∀ {ys:LS}{us:LW}, Vals (ys.map V.str) us -> StrsAre us ys
 | [],us,r=>by cases r;exact .nil
 | y::ys,us,r=>by
  cases r with
  | cons r1 r2 =>
   obtain⟨t,rfl⟩:=r1;exact .cons y t (lj r2)
def xC:V->LV->Hp->VK->Prop:=λx xs H Q=>∃z p ys,x=.str z/\xs=[.ref p]/\H p=some (.lst (List.map V.str ys))/\(ys.map (·.length)).sum+ys.length * z.length<=16777216/\Q (.str (Txt.join z ys)) H
theorem yV:MtR X "str.join" xC:=by
 intro c s o H x r v m Q I f a h;obtain⟨z,p,d,rfl,rfl,e,i,q⟩:=h;obtain⟨t,rfl⟩:=f;obtain⟨u,rfl,g⟩:=cI a;cases g;obtain⟨_,b,n,a,l⟩:=(show ObjOk X.prog X.w H s.heap p (.lst (List.map V.str d)) from I.hok p _ e)
 exact join_list (D:=p) (items:=b.toArray) ⟨_,l,rfl,n,rfl⟩ (by simpa using lj a) i λj k=>⟨.str _,H,I.tok k,⟨j,rfl⟩,q⟩
def rSlS:V->Option Int->Option Int->Hp->VK->Prop:=λx lo hi H Q=>∃z,x=.str z/\z.length<=sizeLine/\Q (.str (Txt.slice z lo hi)) H
theorem AL:SlR X rSlS:=by
 intro b s p H x v C B A w D Q I r y n m h;obtain⟨z,rfl,e,q⟩:=h;obtain⟨t,rfl⟩:=r;refine⟨"str",_,PySem.F.slot_str_getitem.lookup,typeIs_str _ _ _,?_⟩;obtain⟨o,f,d,c⟩:=y;have a:∀g k,EP X b p Q (.str (Txt.slice z A w) g) { s with toks:=k }:=λg k=>⟨.str _,H,I.tok k,⟨g,rfl⟩,q⟩
 cases n with
 | none=>cases m with
  | none=>exact wpAny_getItem_str_slice (l:=none) (u:=none) (st:=none) ⟨o,f,d,c⟩ rfl (post_val_or_str ⟨BP (Txt.slice_le z _ _) e,a⟩)
  | int j tj=>exact wpAny_getItem_str_slice (l:=none) (u:=some (j,tj)) (st:=none) ⟨o,f,d,c⟩ rfl (post_val_or_str ⟨BP (Txt.slice_le z _ _) e,a⟩)
 | int i ti=>cases m with
  | none=>exact wpAny_getItem_str_slice (l:=some (i,ti)) (u:=none) (st:=none) ⟨o,f,d,c⟩ rfl (post_val_or_str ⟨BP (Txt.slice_le z _ _) e,a⟩)
  | int j tj=>exact wpAny_getItem_str_slice (l:=some (i,ti)) (u:=some (j,tj)) (st:=none) ⟨o,f,d,c⟩ rfl (post_val_or_str ⟨BP (Txt.slice_le z _ _) e,a⟩)
def zP (K:W.Frag) (c:String):LV->Hp->VK->Prop:=λxs H Q=>∃x t b,xs=[x,.ty c]/\TyOf K H x t/\W.kitOne K t (.type c)=some b/\Q (.bl b) H
theorem vX (c:String):dJ X (.builtin "isinstance") (zP X.K c):=by
 intro d s k H l j Q I r h;obtain⟨x,t,b,rfl,f,e,q⟩:=h;obtain⟨u,m,rfl,g,a⟩:=gT r;cases a;exact ui I g f e λi=>⟨.bl b,H,I.tok i,rfl,q⟩
def Bx:LV->Hp->VK->Prop:=λxs H Q=>∃x d,xs=[x]/\Rep H x d/\d.showable=true/\d.hasDict=false/\d.depth<=16/\d.shown.length<=sizeLine/\Q (.str d.shown) H
theorem lN (o:X.A.guards=some []) (z:X.A.units+64<cLine):dJ X (.builtin "repr") Bx:=by
 intro g s m H C w Q I r h;obtain⟨x,d,rfl,j,l,hd,n,k,q⟩:=h;obtain⟨u,rfl,f⟩:=cI r;have rd:=j.reads I.hok f;have c:∀a,u=.ref a->wpAny (model X.prog X.w) X.A (call (.builtin "repr") [.ref a]) (EP X g m Q) X.xe s:=λa e=>by
  subst e;obtain⟨B,rd⟩:=rd;exact repr_of_reads' rd l (PyData.noDict_hsm hd) o (by omega) (λ_ _ e=>e) (λA v D p=>⟨.str _,H,I.kept p,⟨v,rfl⟩,q⟩) k
 cases j with
 | non=>cases f;exact PySem.P.repr_of_none ⟨.str _,H,I.tok _,⟨_,rfl⟩,q⟩
 | bl b=>cases f;exact PySem.P.repr_of_bool ⟨.str _,H,I.tok _,⟨_,rfl⟩,q⟩
 | int i =>
  obtain⟨t,rfl⟩:=f;exact PySem.P.repr_of_int (by simpa [PyData.showable] using l) ⟨.str _,H,I.tok _,⟨_,rfl⟩,q⟩
 | str y =>
  obtain⟨t,rfl⟩:=f;exact PySem.P.repr_of_str ⟨.str _,H,I.tok _,⟨_,rfl⟩,q⟩ k
 | lst e rs=>cases f;exact c _ rfl
 | tup e rs=>cases f;exact c _ rfl
def wF:V->Bool
 | .non | .bl _ | .int _ | .str _=>true
 | _=>false
def flD:V->PyData
 | .bl b=>.bool b
 | .int i=>.int i
 | .str x=>.str x
 | _=>.none
theorem wI (f:wF v=true) (r:RelV v u):Reads h u (flD v) []:=by
 cases v with
 | non=>cases r;exact .none
 | bl b=>cases r;exact .bool b
 | int i=>obtain⟨t,rfl⟩:=r;exact .int i t
 | str x=>obtain⟨t,rfl⟩:=r;exact .str x t
 | _=>cases f
theorem nt:∀ {kvs:List (Key × V)}{vs:List (Key × Value)}{es:List DictEntry}, KV kvs vs -> Pairs (bF P w) es vs -> kvs.all (λp => wF p.2)=true ->
    ReadsAll h (es.map (·.key)) ((kvs.map λp=>(flD (kV p.1),flD p.2)).map (·.1)) []/\ReadsAll h (es.map (·.val)) ((kvs.map λp=>(flD (kV p.1),flD p.2)).map (·.2)) []
 | [],_,_,r,q,_=>by
  cases r;cases q;exact⟨.nil,.nil⟩
 | p :: kvs, vs, es, r, q, f => by
  cases r with
  | @cons _ b _ vs' r1 r2 =>
   cases q with
   | cons qk qv q2 =>
    rw[List.all_cons,Co] at f;obtain⟨a1,a2⟩:=nt r2 q2 f.2
    rename_i en es'
    have k1:Reads h en.key (flD (kV p.1)) []:=by
     have hk:=qk;rw[<- r1.1] at hk;rcases cr hk with⟨i,t,e1,e2⟩ | ⟨x,t,e1,e2⟩
     ·rw[e1,e2];exact .int i t
     ·rw[e1,e2];exact .str x t
    have v1:Reads h en.val (flD p.2) []:=by
     rw[qv];exact wI f.1 r1.2
    exact⟨.cons k1 a1,.cons v1 a2⟩
def kA (kvs:List (Key × V)):PyData:=.dict (kvs.map λp=>(flD (kV p.1),flD p.2))
inductive ReprR (H:Hp):V->VK->Prop
 | tr {x:V} {d:PyData} {Q:VK}:Rep H x d->d.showable=true->d.hasDict=false->d.depth<=16->d.shown.length<=sizeLine->Q (.str d.shown) H->ReprR H x Q
 | dc {a:Addr} {kvs:List (Key × V)} {Q:VK}:H a=some (.dK kvs)->kvs.all (λp=>wF p.2)=true->(kA kvs).showable=true->(kA kvs).depth<=16->(kA kvs).shown.length<=sizeLine->Q (.str (kA kvs).shown) H->ReprR H (.ref a) Q
def sf:LV->Hp->VK->Prop:=λxs H Q=>∃x,xs=[x]/\ReprR H x Q
theorem sd (d:X.A.guards=some []) (t:X.A.units+64<cLine):dJ X (.builtin "repr") sf:=by
 intro c s j H F g Q I r h;obtain⟨x,rfl,h⟩:=h;cases h with
 | tr rep hs hd hdp hz q=>exact lN d t c s j H _ g Q I r ⟨_,_,rfl,rep,hs,hd,hdp,hz,q⟩
 | @dc a kvs _ e f hs hdp hz q =>
  obtain⟨u,rfl,m⟩:=cI r;cases m;obtain⟨_,b,C,i,o,B,D,y,l,k,_,n,_⟩:=(show ObjOk X.prog X.w H s.heap a (.dK kvs) from I.hok a _ e)
  obtain⟨z,p⟩:=nt (h:=s.heap) i n f;have rd:Reads s.heap (.ref a) (kA kvs) (a::[]++[]):=.dict y l.1 k z p;refine repr_of_reads' rd hs (λ_ v=>?_) d (by omega) (λ_ _ e=>e) (λE A G w=>⟨.str _,H,I.kept w,⟨A,rfl⟩,q⟩) hz;have:sysModules=a:=by simpa using v
  rw[this] at b;simp at b
theorem gs (ok:HOk P w H h):∀ {xs:LV}{ds:List PyData}{us:LW}, RepAll H xs ds -> Vals xs us -> PyData.canLayAll0 ds=true -> us.any (λu => PyData.eqv (SeqAt.readOf h u) d)=ds.any λe => PyData.eqv e d
 | _,_,_,.nil,r,_=>by cases r;rfl
 | _,_,_,.cons q qs,r,hl=>by
  cases r with
  | cons r1 r2 =>
   have hl':=Bool.and_eq_true_iff.mp (show (PyData.canLay0 _&&PyData.canLayAll0 _)=true from hl);obtain⟨as,z⟩:=q.reads ok r1;rw[De,De,SeqAt.readOf_eq hl'.1 z,gs ok qs r2 hl'.2]
theorem gl {P:Program}{w:World}{H:Hp}{A:Around}{s:Shared}(ok:HOk P w H s.heap) {d:PyData}{x:V}{v:Value}{bs:List Addr}(zx:Reads s.heap v d bs) (hd:d.canLay0=true) (hu:A.units+d.depth<cLine) :
    ∀ {xs:LV} {ds:List PyData} {us:LW},RepAll H xs ds->Vals xs us->PyData.canLayAll0 ds=true->∀u∈us,SeqAt.EqAt A s u v (PyData.eqv (SeqAt.readOf s.heap u) d)
 | _,_,_,.nil,r,_=>by cases r;intro u hu;cases hu
 | _, _, _, .cons q qs, r, hl => by
  cases r with
  | cons r1 r2 =>
   have hl':=Bool.and_eq_true_iff.mp (show (PyData.canLay0 _&&PyData.canLayAll0 _)=true from hl);intro u hm;rcases BH.mp hm with rfl | hm
   ·obtain⟨as,z⟩:=q.reads ok r1;rw[SeqAt.readOf_eq hl'.1 z];exact SeqAt.eqAt_reads _ _ _ _ _ _ _ _ z zx hl'.1 hd (Nat.lt_of_le_of_lt (Nat.add_le_add_left (Nat.min_le_right _ _) _) hu)
   ·exact gl (x:=x) ok zx hd hu qs r2 hl'.2 u hm
def zL (neg:Bool):R2:=λx y H Q=>∃p xs ds d,y=.ref p/\H p=some (.lst xs)/\RepAll H xs ds/\Rep H x d/\PyData.canLayAll0 ds=true/\d.canLay0=true/\d.depth<=16 /\
 Q (.bl (if neg then !(ds.any λe=>PyData.eqv e d) else ds.any λe=>PyData.eqv e d)) H
theorem zA (B:X.A.units+64<cLine):OpR X (compareOp .In) (zL false):=by
 intro f s z H x y v u Q I j k h;obtain⟨p,o,A,d,rfl,e,i,r,g,c,dp,q⟩:=h;cases k;obtain⟨_,a,n,b,t⟩:=(show ObjOk X.prog X.w H s.heap p (.lst o) from I.hok p _ e)
 obtain⟨C,l⟩:=r.reads I.hok j;refine SeqAt.in_listAt (λu=>PyData.eqv (SeqAt.readOf s.heap u) d) ⟨_,t,rfl,n,rfl⟩ (λw m=>gl (x:=x) I.hok l c (by show X.A.units+1+d.depth<cLine;omega) i b g w (by simpa using m)) ⟨.bl _,H,I,rfl,?_⟩;rw[show a.toArray.any (λu=>PyData.eqv (SeqAt.readOf s.heap u) d)=a.any (λu=>PyData.eqv (SeqAt.readOf s.heap u) d) by simp,gs I.hok i b g];exact q
theorem tN (B:X.A.units+64<cLine):OpR X (compareOp .NotIn) (zL true):=by
 intro f s z H x y v u Q I j k h;obtain⟨p,o,A,d,rfl,e,i,r,g,c,dp,q⟩:=h;cases k;obtain⟨_,a,n,b,t⟩:=(show ObjOk X.prog X.w H s.heap p (.lst o) from I.hok p _ e)
 obtain⟨C,l⟩:=r.reads I.hok j;refine SeqAt.notIn_listAt (λu=>PyData.eqv (SeqAt.readOf s.heap u) d) ⟨_,t,rfl,n,rfl⟩ (λw m=>gl (x:=x) I.hok l c (by show X.A.units+1+d.depth<cLine;omega) i b g w (by simpa using m)) ⟨.bl _,H,I,rfl,?_⟩;rw[show a.toArray.any (λu=>PyData.eqv (SeqAt.readOf s.heap u) d)=a.any (λu=>PyData.eqv (SeqAt.readOf s.heap u) d) by simp,gs I.hok i b g];exact q
end
structure Cal (P:Program) (w:World) (K:W.Frag) (mg:Str->Option Value) (base:Heap) (k:Nat) (x:Str) (ps:LS) (sp:Sp):Prop where
 ex:∃(f:Addr) (fd:FuncData),FnOk P w K mg base CX0 k f fd ps sp/\mg x=some (.ref f)/\W.keepIn K (.ref f)=true/\Binds K fd ps []
section
variable {X:Cx}{x:Str}{ps:LS}{sp:Sp}{k j:Nat}{p pos:Pos}{e:Expr}{es:List Expr}{t:TA}
theorem hI (c:Cal X.prog X.w X.K X.mg X.base k x ps sp) (g:Room k X.A) (d:Gl X x) (i:PA X (e::es) t)
    (j:starEach (e::es) X.env=(false,eval e X.env)::starEach es X.env:=by rfl) (hpl:(backTo pos (starEach es X.env)).any (·.1)=false:=by rfl) (hdb:(x==("__debug__":Str))=false:=by decide) :
    PE X (.Call (.Name x p) (e::es) [] pos) (mQ sp [] E0 t):=by
 obtain⟨f,l,G,h,a,b⟩:=c.ex;exact qi G g d h a b .nil Bc i (hdb:=hdb) (he:=j) (hpl:=hpl)
end
section
variable {X:Cx}
inductive AddR (H:Hp):V->V->VK->Prop
 | int {i j:Int} {Q:VK}:Q (.int (i+j)) H->AddR H (.int i) (.int j) Q
 | str {i j:Str} {Q:VK}:i.length+j.length<=sizeLine->Q (.str (i++j)) H->AddR H (.str i) (.str j) Q
 | lst {l b:Addr} {xs zs:LV} {Q:VK}:H l=some (.lst xs)->H b=some (.lst zs)->xs.length+zs.length<=sizeLine->(∀p,H p=none->Q (.ref p) (upd H p (.lst (xs++zs))))->AddR H (.ref l) (.ref b) Q
theorem aK:OpR X (binaryOp .Add) (λx y H Q=>AddR H x y Q):=by
 intro a s d H x y v u Q I b c h;cases h with
 | int q=>exact zn a s d H _ _ v u Q I b c ⟨_,_,rfl,rfl,q⟩
 | str hz q=>exact rS a s d H _ _ v u Q I b c ⟨_,_,rfl,rfl,hz,q⟩
 | lst h1 h2 hz q=>exact zS a s d H _ _ v u Q I b c ⟨_,_,_,_,rfl,rfl,h1,h2,hz,q⟩
inductive EqR (neg:Bool) (H:Hp):V->V->VK->Prop
 | sc {x y:V} {Q:VK}:wo x y=true->Q (.bl (if neg then !decide (x=y) else decide (x=y))) H->EqR neg H x y Q
 | tr {x y:V} {da db:PyData} {Q:VK}:Rep H x da->Rep H y db->shp da->shp db->Q (.bl (if neg then !PyData.eqv da db else PyData.eqv da db)) H->EqR neg H x y Q
theorem bc (e:X.A.units+64<cLine):OpR X (compareOp .Eq) (λx y H Q=>EqR false H x y Q):=by
 intro a s d H x y v u Q I b c h;cases h with
 | sc h q=>exact Bm a s d H _ _ v u Q I b c ⟨h,q⟩
 | tr ra rb sa sb q=>exact Au e a s d H _ _ v u Q I b c ⟨_,_,ra,rb,sa,sb,q⟩
theorem cW (e:X.A.units+64<cLine):OpR X (compareOp .NotEq) (λx y H Q=>EqR true H x y Q):=by
 intro a s d H x y v u Q I b c h;cases h with
 | sc h q=>exact AQ a s d H _ _ v u Q I b c ⟨h,q⟩
 | tr ra rb sa sb q=>exact zE e a s d H _ _ v u Q I b c ⟨_,_,ra,rb,sa,sb,q⟩
inductive SlX (K:W.Frag) (H:Hp):V->Option Int->Option Int->VK->Prop
 | str {z:Str} {lo hi:Option Int} {Q:VK}:z.length<=sizeLine->Q (.str (Txt.slice z lo hi)) H->SlX K H (.str z) lo hi Q
 | lst {a:Addr} {xs:LV} {lo hi:Option Int} {Q:VK}:SqL K H a xs->(∀p,H p=none->Q (.ref p) (upd H p (.lst (cD xs lo hi))))->SlX K H (.ref a) lo hi Q
theorem sl_X:SlR X (λx lo hi H Q=>SlX X.K H x lo hi Q):=by
 intro a s f H x v c d lo hi g Q I b j e i h;cases h with
 | str hz q=>exact AL a s f H _ v c d lo hi g Q I b j e i ⟨_,rfl,hz,q⟩
 | lst h1 q=>exact yw a s f H _ v c d lo hi g Q I b j e i ⟨_,_,rfl,h1,q⟩
end
section
variable {X:Cx}
inductive CmR (f:Int->Int->Bool) (g:Str->Str->Bool) (H:Hp):V->V->VK->Prop
 | int {i j:Int} {Q:VK}:Q (.bl (f i j)) H->CmR f g H (.int i) (.int j) Q
 | str {i j:Str} {Q:VK}:Q (.bl (g i j)) H->CmR f g H (.str i) (.str j) Q
theorem iZ:OpR X (compareOp .LtE) (λx y H Q=>CmR (λi j=>decide (i<=j)) (λi j=>!decide (j.cps.toList<i.cps.toList)) H x y Q):=by
 intro a s d H x y v u Q I b c h;cases h with
 | int q=>exact Bi a s d H _ _ v u Q I b c ⟨_,_,rfl,rfl,q⟩
 | str q=>exact ue a s d H _ _ v u Q I b c ⟨_,_,rfl,rfl,q⟩
theorem dO:OpR X (compareOp .Lt) (λx y H Q=>CmR (λi j=>decide (i<j)) (λi j=>decide (i.cps.toList<j.cps.toList)) H x y Q):=by
 intro a s d H x y v u Q I b c h;cases h with
 | int q=>exact Bj a s d H _ _ v u Q I b c ⟨_,_,rfl,rfl,q⟩
 | str q=>exact uw a s d H _ _ v u Q I b c ⟨_,_,rfl,rfl,q⟩
inductive IsB (neg:Bool) (H:Hp):V->V->VK->Prop
 | int {i:Int} {b:Bool} {Q:VK}:Q (.bl neg) H->IsB neg H (.int i) (.bl b) Q
 | bl {c b:Bool} {Q:VK}:Q (.bl (if neg then !decide (c=b) else decide (c=b))) H->IsB neg H (.bl c) (.bl b) Q
 | non {x:V} {Q:VK}:Q (.bl (if neg then !decide (x=.non) else decide (x=.non))) H->IsB neg H x .non Q
theorem fX:OpR X (compareOp .IsNot) (λx y H Q=>IsB true H x y Q):=by
 intro a s f H x y v u Q I d e h;cases h with
 | int q =>
  obtain⟨t,rfl⟩:=d;cases e;exact wpAny_isNot_other (by rfl) (by intro z;cases z) ⟨.bl _,H,I,rfl,q⟩
 | @bl c b _ q =>
  cases d;cases e;exact wpAny_isNot_plain (by rfl) (aU I q (by cases c <;> cases b <;> rfl))
 | non q=>exact xK a s f H _ _ v u Q I d e ⟨rfl,q⟩
theorem oY:OpR X (compareOp .Is) (λx y H Q=>IsB false H x y Q):=by
 intro a s f H x y v u Q I d e h;cases h with
 | int q =>
  obtain⟨t,rfl⟩:=d;cases e;exact wpAny_is_other (by rfl) (by intro z;cases z) ⟨.bl _,H,I,rfl,q⟩
 | @bl c b _ q =>
  cases d;cases e;exact wpAny_is_plain (by rfl) (aU I q (by cases c <;> cases b <;> rfl))
 | non q=>exact At a s f H _ _ v u Q I d e ⟨rfl,q⟩
theorem eG (K:W.Frag) (f:PE X o to) (h:PA X [e] t)
    (b:attributeBase o "join" X.env (eval o X.env)=eval o X.env:=by rfl)
    (d:((backTo cpos (starEach [e] X.env)).all (λx=>!x.1)&&(backToKw cpos (keywordEach [] X.env)).all (λx=>x.1.isSome)
     && decide ([e].length+([]:List Keyword).length+(if ([]:List Keyword).isEmpty then 0 else 1)<30))=true:=by rfl)
    (c:(apos.endLine==cpos.line)=true:=by rfl) (i:starEach [e] X.env=(false,eval e X.env)::starEach [] X.env:=by rfl) (a:(backTo cpos (starEach [] X.env)).any (·.1)=false:=by rfl) (g:X.K=K:=by rfl) :
    PE X (.Call (.Attribute o "join" apos) [e] [] cpos) (tBM K "str" xC to t):=g ▸ gS PySem.F.plainAttrs_str PySem.F.slot_str_join PySem.F.type_str_join yV f h b d c i a
theorem dj (K:W.Frag) (f:PE X o to) (h:PA X [e] t)
    (b:attributeBase o "append" X.env (eval o X.env)=eval o X.env:=by rfl)
    (d:((backTo cpos (starEach [e] X.env)).all (λx=>!x.1)&&(backToKw cpos (keywordEach [] X.env)).all (λx=>x.1.isSome)
     && decide ([e].length+([]:List Keyword).length+(if ([]:List Keyword).isEmpty then 0 else 1)<30))=true:=by rfl)
    (c:(apos.endLine==cpos.line)=true:=by rfl) (i:starEach [e] X.env=(false,eval e X.env)::starEach [] X.env:=by rfl) (a:(backTo cpos (starEach [] X.env)).any (·.1)=false:=by rfl) (g:X.K=K:=by rfl) :
    PE X (.Call (.Attribute o "append" apos) [e] [] cpos) (tBM K "list" qL to t):=g ▸ gS PySem.F.plainAttrs_list PySem.F.slot_list_append PySem.F.type_list_append mK f h b d c i a
theorem fK (K:W.Frag) (a:X.K=K:=by rfl):SlR X (λx lo hi H Q=>SlX K H x lo hi Q):=a ▸ sl_X
theorem bg (K:W.Frag) (b:PE X l tl) (a:X.K=K:=by rfl):PI X tg l (xv K tl):=a ▸ yI b
theorem aP (K:W.Frag) (b:PE X l tl) (a:X.K=K:=by rfl):PI X tg l (Ap K tl):=a ▸ zy b
end
theorem eV {i:Nat}{A B:St->Hp->Prop}(h:A (σ.set i (some v)) H):cF i v σ H λσ2 G=>iU σ2 G λb z=>if b=true then A σ2 z else B σ2 z:=by
 show (if true=true then A (σ.set i (some v)) H else B (σ.set i (some v)) H);rw[if_pos rfl];exact h
section
variable {K:W.Frag}{k:Nat}{fr:List Nat}{g:TG}{tc:TT}{te:TE}{σ:St}{H1:Hp}{Q:VK}
theorem gm (xs:LV) (f:Hp -> Prop) (q:∀i H, f H -> i<xs.length -> J.go i H) (o:∀i H x H', f H -> i<xs.length -> J.yld i H x H' -> H'=H /\ xs[i]? = some x) (l:∀H, f H -> J.stop xs.length H)
    (c:Addr->Nat->LV->St->Hp->Prop)
    (h:∀D,H1 D=none->c D 0 [] (dS k fr σ) (upd H1 D (.lst []))/\(∀i z σ' H',i<=xs.length->c D i z σ' H'->H' D=some (.lst z)->f H') /\
     (∀i z σ' H' x,xs[i]? = some x->c D i z σ' H'->H' D=some (.lst z)->g x σ' H' λσ2 O=>tc σ2 O λb G =>
      if b=true then te σ2 G λy I=>I D=some (.lst z)/\z.length<sizeLine/\c D (i+1) (z++[y]) σ2 (upd I D (.lst (z++[y]))) else G D=some (.lst z)/\c D (i+1) z σ2 G) /\
     ∀z σ' H',c D xs.length z σ' H'->H' D=some (.lst z)->Q (.ref D) H'):cS k fr g tc te J σ H1 Q:=by
 intro D A;obtain⟨v,r,w,hd⟩:=h D A;refine⟨λi m z σ' H'=>m=xs.length-i/\i<=xs.length/\c D i z σ' H',⟨xs.length,by simp,Cg _,v⟩,?_⟩;rintro i m z σ' H' ⟨rfl,t,p⟩ a;have j:=r i z σ' H' t p a;by_cases d:i<xs.length
 ·refine .inr ⟨q i H' j d,c D (i+1),λs σ2 n B=>⟨xs.length-(i+1),by omega,rfl,d,B⟩,λx n y=>?_⟩;obtain⟨e,u⟩:=o i H' x n j d y;subst e;exact w i z σ' n x u p a
 ·have e:i=xs.length:=by omega
  subst e;exact .inl ⟨l H' j,hd z σ' H' p a⟩
def fR (n:Nat):LV:=(List.range n).map λi=>V.int (0+(i:Nat))
theorem fA (f:Addr -> Nat -> LV -> St -> Hp -> Prop)
    (h:∀D,H1 D=none->f D 0 [] (dS k fr σ) (upd H1 D (.lst [])) /\
     (∀i z σ' H',i<n->f D i z σ' H'->H' D=some (.lst z)->g (.int (0+(i:Nat))) σ' H' λσ2 J=>tc σ2 J λb G =>
      if b=true then te σ2 G λy I=>I D=some (.lst z)/\z.length<sizeLine/\f D (i+1) (z++[y]) σ2 (upd I D (.lst (z++[y]))) else G D=some (.lst z)/\f D (i+1) z σ2 G) /\
     ∀z σ' H',f D n z σ' H'->H' D=some (.lst z)->Q (.ref D) H'):cS k fr g tc te (Itr 0 n) σ H1 Q:=by
 have l:(fR n).length=n:=by simp[fR]
 refine gm (fR n) (λ_=>True) (λi H _ d=>by rw[l] at d;exact d) (λi H x H' _ d y=>⟨y.1,?_⟩) (λH _=>by show n<=(fR n).length;rw[l];exact BB _) f λD o=>?_
 ·rw[l] at d;rw[y.2];simp[fR,d]
 ·obtain⟨a,b,c⟩:=h D o;refine⟨a,λ_ _ _ _ _ _ _=>trivial,λi z σ' H' x m p j=>?_,by rw[l];exact c⟩;have d:i<n:=by rw[<- l];exact(BF.mp m).1
  have e:x=V.int (0+(i:Nat)):=by
   simp[fR,d] at m;rw[<- m];simp
  subst e;exact b i z σ' H' d p j
theorem cE (xs:LV) (c:Addr -> Nat -> LV -> St -> Hp -> Prop)
    (h:∀D,H1 D=none->c D 0 [] (dS k fr σ) (upd H1 D (.lst []))/\(∀i z σ' H',i<=xs.length->c D i z σ' H'->H' D=some (.lst z)->SqL K H' a xs) /\
     (∀i z σ' H' x,xs[i]? = some x->c D i z σ' H'->H' D=some (.lst z)->g x σ' H' λσ2 J=>tc σ2 J λb G =>
      if b=true then te σ2 G λy I=>I D=some (.lst z)/\z.length<sizeLine/\c D (i+1) (z++[y]) σ2 (upd I D (.lst (z++[y]))) else G D=some (.lst z)/\c D (i+1) z σ2 G) /\
     ∀z σ' H',c D xs.length z σ' H'->H' D=some (.lst z)->Q (.ref D) H'):cS k fr g tc te (Itl K a) σ H1 Q :=
 gm xs (λH=>SqL K H a xs) (λi H q d=>⟨xs,xs[i],q,by simp[d]⟩) (λi H x H' q d y=>⟨y.1,y.2 xs q⟩) (λH q=>⟨xs,q,BB _⟩) c h
theorem dH (xs:LV) (c:Addr -> Nat -> LV -> St -> Hp -> Prop)
    (h:∀D,H1 D=none->c D 0 [] (dS k fr σ) (upd H1 D (.lst []))/\(∀i z σ' H',i<=xs.length->c D i z σ' H'->H' D=some (.lst z)->SqT K H' a xs) /\
     (∀i z σ' H' x,xs[i]? = some x->c D i z σ' H'->H' D=some (.lst z)->g x σ' H' λσ2 J=>tc σ2 J λb G =>
      if b=true then te σ2 G λy I=>I D=some (.lst z)/\z.length<sizeLine/\c D (i+1) (z++[y]) σ2 (upd I D (.lst (z++[y]))) else G D=some (.lst z)/\c D (i+1) z σ2 G) /\
     ∀z σ' H',c D xs.length z σ' H'->H' D=some (.lst z)->Q (.ref D) H'):cS k fr g tc te (Itt K a) σ H1 Q :=
 gm xs (λH=>SqT K H a xs) (λi H q d=>⟨xs,xs[i],q,by simp[d]⟩) (λi H x H' q d y=>⟨y.1,y.2 xs q⟩) (λH q=>⟨xs,q,BB _⟩) c h
def hU (z:Str):LV:=z.cps.toList.map λc=>V.str ⟨#[c]⟩
theorem wP (d:Addr -> Nat -> LV -> St -> Hp -> Prop)
    (h:∀D,H1 D=none->d D 0 [] (dS k fr σ) (upd H1 D (.lst [])) /\
     (∀i G σ' H' c,z.cps.toList[i]? = some c->d D i G σ' H'->H' D=some (.lst G)->g (.str ⟨#[c]⟩) σ' H' λσ2 O=>tc σ2 O λb I =>
      if b=true then te σ2 I λy J=>J D=some (.lst G)/\G.length<sizeLine/\d D (i+1) (G++[y]) σ2 (upd J D (.lst (G++[y]))) else I D=some (.lst G)/\d D (i+1) G σ2 I) /\
     ∀G σ' H',d D z.cps.toList.length G σ' H'->H' D=some (.lst G)->Q (.ref D) H'):cS k fr g tc te (Its z) σ H1 Q:=by
 have m:(hU z).length=z.cps.toList.length:=by simp[hU]
 refine gm (hU z) (λ_=>True) (λi H _ l=>by rw[m] at l;show i<z.cps.size;simpa using l) (λi H x H' _ l y=>⟨y.1,?_⟩) (λH _=>by show z.cps.size<=(hU z).length;rw[m];simp) d λD o=>?_
 ·have n:=y.2;unfold sgV at n;simp only[hU,BM,Array.getElem?_toList];exact n
 ·obtain⟨a,b,c⟩:=h D o;refine⟨a,λ_ _ _ _ _ _ _=>trivial,λi G σ' H' x j p f=>?_,by rw[m];exact c⟩;simp only[hU,BM] at j;cases e:z.cps.toList[i]? with
  | none=>rw[e] at j;cases j
  | some cc =>
   rw[e] at j;cases j;exact b i G σ' H' cc e p f
end
def But (p:Addr) (H H':Hp):Prop:=∀b o,b≠p->H b=some o->H' b=some o
theorem But.refl (p:Addr) (H:Hp):But p H H:=λ_ _ _ h=>h
theorem But.trans (a:But p H H1) (b:But p H1 H2):But p H H2:=λc o n h=>b c o n (a c o n h)
theorem But.upd:But p H (upd H p o):=λb a n h=>by rw[ah n];exact h
theorem But.of_same (s:Same H H'):But p H H':=λb o _ h=>s b o h
theorem Same.new (h:H p=none):Same H (upd H p o):=λb a e=>by rw[ah (ao e h)];exact e
theorem Rd.but (b:But p H H') (n:a≠p) (h:Rd H a u):Rd H' a u:=by
 rcases h with h | ⟨o,h⟩
 ·exact .inl (b _ _ n h)
 ·exact .inr ⟨o,b _ _ n h⟩
theorem SqL.but {K:W.Frag}{p:Addr}{H H':Hp}(b:But p H H') {a:Addr}{xs:LV}(n:a≠p) (h:SqL K H a xs):SqL K H' a xs:=by
 rcases h with h | h
 ·exact .inl (h.but b n)
 ·exact .inr h
structure Blt (mg:Str->Option Value):Prop where
 len:mg "len"=none
 range:mg "range"=none
 abs:mg "abs"=none
 all:mg "all"=none
 repr:mg "repr"=none
 isinstance:mg "isinstance"=none
 str:mg "str"=none
 int:mg "int"=none
 bool:mg "bool"=none
 enumerate:mg "enumerate"=none
 list:mg "list"=none
 tuple:mg "tuple"=none
 dict:mg "dict"=none
 min:mg "min"=none
 max:mg "max"=none
section
variable {X:Cx}{p pos:Pos}{e f:Expr}{t:TA}
def rLen (K:W.Frag):LV->Hp->VK->Prop:=λxs H Q=>∃x n,xs=[x]/\vf K x H n/\Q (.int n) H
def rAbs:LV->Hp->VK->Prop:=λxs H Q=>∃i,xs=[.int i]/\Q (.int (if i<0 then -i else i)) H
def oU:LV->Hp->VK->Prop:=λxs H Q=>∃p bs,xs=[.ref p]/\H p=some (.lst (List.map V.bl bs))/\Q (.bl (bs.all id)) H
theorem aQ (K:W.Frag) (B:Blt X.mg) (a:PA X [e] t) (c:Gl X "len":=by rfl) (he:starEach [e] X.env=(false,eval e X.env)::starEach [] X.env:=by rfl) (hpl:(backTo pos (starEach [] X.env)).any (·.1)=false:=by rfl) (b:X.K=K:=by rfl):PE X (.Call (.Name "len" p) [e] [] pos) (tCB (rLen K) t) :=
 b ▸ dL vT c B.len PySem.boot_len a (by decide) (by decide) he hpl
theorem qX (B:Blt X.mg) (a:PA X [e] t) (b:Gl X "abs":=by rfl) (he:starEach [e] X.env=(false,eval e X.env)::starEach [] X.env:=by rfl) (hpl:(backTo pos (starEach [] X.env)).any (·.1)=false:=by rfl):PE X (.Call (.Name "abs" p) [e] [] pos) (tCB rAbs t) :=
 dL vz b B.abs boot_abs a (by decide) (by decide) he hpl
theorem dG (b:X.calm=true) (B:Blt X.mg) (a:PA X [e] t) (c:Gl X "all":=by rfl) (he:starEach [e] X.env=(false,eval e X.env)::starEach [] X.env:=by rfl) (hpl:(backTo pos (starEach [] X.env)).any (·.1)=false:=by rfl):PE X (.Call (.Name "all" p) [e] [] pos) (tCB oU t) :=
 dL (pL b) c B.all boot_all a (by decide) (by decide) he hpl
theorem tP (gd:X.A.guards=some []) (b:X.A.units+64<cLine) (B:Blt X.mg) (a:PA X [e] t) (c:Gl X "repr":=by rfl) (he:starEach [e] X.env=(false,eval e X.env)::starEach [] X.env:=by rfl) (hpl:(backTo pos (starEach [] X.env)).any (·.1)=false:=by rfl):PE X (.Call (.Name "repr" p) [e] [] pos) (tCB sf t) :=
 dL (sd gd b) c B.repr boot_repr a (by decide) (by decide) he hpl
theorem eJ (K:W.Frag) (c:String) (B:Blt X.mg) (d:PA X [e,f] t) (a:Gl X "isinstance":=by rfl) (he:starEach [e,f] X.env=(false,eval e X.env)::starEach [f] X.env:=by rfl) (hpl:(backTo pos (starEach [f] X.env)).any (·.1)=false:=by rfl) (b:X.K=K:=by rfl):PE X (.Call (.Name "isinstance" p) [e,f] [] pos) (tCB (zP K c) t) :=
 b ▸ dL (vX c) a B.isinstance boot_isinstance d (by decide) (by decide) he hpl
theorem mP (B:Blt X.mg) (a:Gl X "str":=by rfl):PE X (.Name "str" p) (tC (.ty "str")):=hF a B.str PyProof.Rows.boot_str rfl
theorem AZ (B:Blt X.mg) (a:Gl X "int":=by rfl):PE X (.Name "int" p) (tC (.ty "int")):=hF a B.int PyProof.Rows.boot_int rfl
theorem zN (B:Blt X.mg) (a:Gl X "bool":=by rfl):PE X (.Name "bool" p) (tC (.ty "bool")):=hF a B.bool PyProof.Rows.boot_bool rfl
theorem uB (B:Blt X.mg) (a:Gl X "list":=by rfl):PE X (.Name "list" p) (tC (.ty "list")):=hF a B.list (show bootBuiltins "list"=some (.type "list") by decide +kernel) rfl
end
end L2
namespace L2
open PySem PySem.Spec PyProof.Rows PySem.Builtin PySem.Builtin.Str
def Asc (z:Str):Prop:=∀c∈z.cps.toList,c<128
theorem bL (x y:Str):(x++y).length=x.length+y.length:=by
 show (x.cps++y.cps).size=x.cps.size+y.cps.size;rw[Array.size_append]
theorem im (a:Str) (ys:LS):(Txt.join a ys).length<=(ys.map (·.length)).sum+ys.length * a.length:=by
 unfold Txt.join;rw[size_glued];exact Nat.add_le_add_left (Nat.mul_le_mul_right _ (Nat.sub_le _ _)) _
theorem AM {ys:LS}{n:Nat}(h:∀y∈ys,y.length<=n):(ys.map (·.length)).sum<=ys.length * n:=by
 induction ys with
 | nil=>simp
 | cons y r ih =>
  have c:=h y (by simp);have b:=ih λz a=>h z (BQ _ a);simp only[BZ,List.sum_cons,BN];rw[Nat.succ_mul];omega
theorem Bs {α:Type}{xs:List α}{j:Int}(b:0<=j) (c:j<xs.length):∃v,atI xs j=some v/\v∈xs:=by
 obtain⟨k,rfl⟩:=Cc b;have a:k<xs.length:=by omega
 exact⟨xs[k],bj (by simp[a]),CK a⟩
theorem AE {ns:List Int}{j:Int}(a:0<=j) (b:j<(ns.map V.int).length):∃c,atI (ns.map V.int) j=some (.int c):=by
 obtain⟨v,e,m⟩:=Bs a b;obtain⟨c,_,rfl⟩:=BE.mp m;exact⟨c,e⟩
theorem lU (x:Int):-(2 ^ 64)<x % 2147483647/\x % 2147483647<2 ^ 64:=by
 have b:=Di x (show (2147483647:Int)≠0 by decide);have a:=DA x (show (0:Int)<2147483647 by decide);omega
def PenV (H:Hp) (p a:Addr):Prop:=∃(i n:Int),H p=some (.lst [.ref a,.int i,.int n])/\0<=i/\0<=n
def Pen (K:W.Frag) (H:Hp) (p a:Addr):Prop:=(∃ns:List Int,∀H',But p H H'->SqL K H' a (ns.map V.int))/\PenV H p a
theorem Pen.but {K:W.Frag}{H H':Hp}{p a:Addr}(h:Pen K H p a) (b:But p H H') (v:PenV H' p a):Pen K H' p a:=⟨let ⟨d,q⟩:=h.1;⟨d,λc e=>q c (b.trans e)⟩,v⟩
theorem Pen.new {K:W.Frag}{H:Hp}{p a:Addr}{ns:List Int}{o:HO}(h:SqL K H a (ns.map V.int)) (d:H p=none) (v:PenV (upd H p o) p a):Pen K (upd H p o) p a := by
 refine⟨⟨ns,λj b=>?_⟩,v⟩;rcases h with h | h
 ·have n:a≠p:=by
     rcases h with h | ⟨i,h⟩
     ·exact ao h d
     ·exact ao h d
  have s:Same H (upd H p o):=Same.new d;exact SqL.but (λc f g e=>b c f g (s c f e)) n (.inl h)
 ·exact .inr h
theorem PenV.upd (h:PenV H p a) (n:p≠D):PenV (L2.upd H D o) p a:=let ⟨i,m,e,q⟩:=h;⟨i,m,by rw[ah n];exact e,q⟩
theorem PenV.ne (h:PenV H p a) (e:H D=none):p≠D:=let ⟨_,_,q,_⟩:=h;ao q e
theorem But.at (b:But p H H') (a:H D=none):But p H (L2.upd H' D o):=λc d n h=>by rw[ah (ao h a)];exact b c d n h
theorem But.of_eq (h:∀b,b≠p->H' b=H b):But p H H':=λb o n e=>(h b n).trans e
theorem But.free (b:But p H H') (n:D≠p) (h:H' D=none):H D=none:=by
 cases e:H D with
 | none=>rfl
 | some o=>rw[b D o n e] at h;cases h
def dX (K:W.Frag):Sp:=λvs H Q _=>∃(p a:Addr) (m:Int),vs=[.ref p,.int m]/\Pen K H p a/\0<m/\m<1073741824/\∀r H',0<=r->r<m->PenV H' p a->(∀b,b≠p->H' b=H b)->Q (.int r) H'
end L2
namespace L2
open PySem PySem.Spec PyProof.Rows
section
variable {X:Cx}
inductive InR (K:W.Frag) (neg:Bool) (H:Hp):V -> V -> VK -> Prop
 | dic {a:Addr} {y:V} {o:Option V} {Q:VK}:DGet H a y o->Q (.bl (if neg then !o.isSome else o.isSome)) H->InR K neg H y (.ref a) Q
 | seq {p:Addr} {x:V} {xs:LV} {Q:VK}:(SqL K H p xs∨SqT K H p xs)->eH x=true->xs.all eH=true->Q (.bl (if neg then !inV x xs else inV x xs)) H->InR K neg H x (.ref p) Q
 | tr {p:Addr} {x:V} {xs:LV} {ds:List PyData} {d:PyData} {Q:VK}:H p=some (.lst xs)->RepAll H xs ds->Rep H x d->PyData.canLayAll0 ds=true->d.canLay0=true->d.depth<=16 ->
     Q (.bl (if neg then !(ds.any λe=>PyData.eqv e d) else ds.any λe=>PyData.eqv e d)) H->InR K neg H x (.ref p) Q
theorem gx (K:W.Frag) (k:X.A.units+64<cLine) (j:X.K=K:=by rfl):OpR X (compareOp .In) (λx y H Q=>InR K false H x y Q):=by
 subst j;intro a s f H x y v u Q I b d h;cases h with
 | dic g q =>
  cases d;exact d_in (by omega) I g b λl i=>⟨.bl _,H,i,rfl,q⟩
 | seq hq fx fs q=>exact uo a s f H _ _ v u Q I b d ⟨_,_,rfl,hq,fx,fs,q⟩
 | tr e rs r cs c dp q=>exact zA k a s f H _ _ v u Q I b d ⟨_,_,_,_,rfl,e,rs,r,cs,c,dp,q⟩
theorem cO (K:W.Frag) (k:X.A.units+64<cLine) (j:X.K=K:=by rfl):OpR X (compareOp .NotIn) (λx y H Q=>InR K true H x y Q):=by
 subst j;intro a s f H x y v u Q I b d h;cases h with
 | dic g q =>
  cases d;exact zg (by omega) I g b λl i=>⟨.bl _,H,i,rfl,q⟩
 | seq hq fx fs q=>exact nZ a s f H _ _ v u Q I b d ⟨_,_,rfl,hq,fx,fs,q⟩
 | tr e rs r cs c dp q=>exact tN k a s f H _ _ v u Q I b d ⟨_,_,_,_,rfl,e,rs,r,cs,c,dp,q⟩
inductive IxX (K:W.Frag) (H:Hp):V->V->VK->Prop
 | lst {p:Addr} {xs:LV} {i:Int} {v:V} {Q:VK}:SqL K H p xs->atI xs i=some v->Q v H->IxX K H (.ref p) (.int i) Q
 | tup {p:Addr} {xs:LV} {i:Int} {v:V} {Q:VK}:SqT K H p xs->atI xs i=some v->Q v H->IxX K H (.ref p) (.int i) Q
 | str {z:Str} {i:Int} {c:Nat} {Q:VK}:z.length<=sizeLine->atI z.cps.toList i=some c->Q (.str ⟨#[c]⟩) H->IxX K H (.str z) (.int i) Q
 | dic {a:Addr} {y v:V} {Q:VK}:DGet H a y (some v)->Q v H->IxX K H (.ref a) y Q
theorem lh (K:W.Frag) (p:X.A.units+64<cLine) (l:X.K=K:=by rfl):IxR X (λx y H Q=>IxX K H x y Q):=by
 subst l;intro b a c s k H x y v u Q I d f h i;cases h with
 | lst hq e q=>exact xY b a c s k H _ _ v u Q I d f ⟨_,_,_,_,rfl,rfl,hq,e,q⟩ i
 | tup hq e q=>exact AJ b a c s k H _ _ v u Q I d f ⟨_,_,_,_,rfl,rfl,hq,e,q⟩ i
 | str hz e q=>exact zR b a c s k H _ _ v u Q I d f ⟨_,_,_,rfl,rfl,hz,e,q⟩ i
 | dic g q =>
  cases d;exact tail_any (pB I g) PySem.F.slot_dict_getitem.lookup (uk (by omega) I g f λo n m j=>⟨_,H,m,j,q⟩) i
inductive SetX (H:Hp):V->V->V->(Hp->Prop)->Prop
 | lst {p:Addr} {xs:LV} {k:Int} {j:Nat} {v:V} {Q:Hp->Prop}:H p=some (.lst xs)->ixN xs.length k=some j->Q (upd H p (.lst (xs.set j v)))->SetX H (.ref p) (.int k) v Q
 | dic {a:Addr} {y v:V} {H':Hp} {Q:Hp->Prop}:DPut H a y v H'->Q H'->SetX H (.ref a) y v Q
theorem cC (n:X.A.units+64<cLine):wZ X (λo i v H Q=>SetX H o i v Q):=by
 intro a s l H o i v f k u Q I c d b h;cases h with
 | lst e ej q=>exact wM a s l H _ _ _ f k u Q I c d b ⟨_,_,_,_,rfl,rfl,e,ej,q⟩
 | dic g q =>
  cases c;exact uP (by omega) I g d b λm j=>⟨_,j,q⟩
theorem cj (K:W.Frag) (d:X.calm=true) (h:PGs X es t)
    (c:(assignEach es X.env).length=n:=by rfl) (a:(assignEach es X.env).findIdx? (·.1)=none:=by rfl) (b:X.K=K:=by rfl):PG X (.Tuple es k pos) (vx K n t):=b ▸ AA d h c a
theorem vq (K:W.Frag) (b:Gl X "enumerate") (c:X.mg "enumerate"=none) (e:PA X [a] ta) (f:starEach [a] X.env=[(false,eval a X.env)]:=by rfl) (d:X.K=K:=by rfl) :
    PI X (.Tuple z k tp) (.Call (.Name "enumerate" p) [a] [] pos) (xm K ta):=d ▸ xT b c e f
variable {p pos p2 pos2:Pos}{e f:Expr}{t:TA}
end
section
variable {X:Cx}{p pos p2 pos2:Pos}{e f:Expr}{t:TA}
def xk (K:W.Frag):LV->Hp->VK->Prop:=λxs H Q=>∃a ys,xs=[.ref a]/\SqL K H a ys/\∀l,H l=none->Q (.ref l) (upd H l (.tup ys))
theorem cQ (K:W.Frag) (B:Blt X.mg) (j:PA X [e] t) (d:Gl X "tuple":=by rfl) (he:starEach [e] X.env=(false,eval e X.env)::starEach [] X.env:=by rfl) (hpl:(backTo pos (starEach [] X.env)).any (·.1)=false:=by rfl) (g:X.K=K:=by rfl) :
    PE X (.Call (.Name "tuple" p) [e] [] pos) (tCB (xk K) t):=by
 subst g;refine fu (r:=xk X.K) (λb s i H l c Q I r h=>?_) d B.tuple (show bootBuiltins "tuple"=some (.type "tuple") by decide +kernel) j (by decide) (by decide) he hpl;obtain⟨a,k,rfl,f,q⟩:=h;exact gj b s i H _ c Q I r ⟨a,k,rfl,.inl ⟨f,q⟩⟩
inductive LstR (K:W.Frag) (H:Hp):V->VK->Prop
 | seq {a:Addr} {ys:LV} {Q:VK}:(SqL K H a ys∨SqT K H a ys)->(∀l,H l=none->Q (.ref l) (upd H l (.lst ys)))->LstR K H (.ref a) Q
 | rng {a:Addr} {n:Nat} {Q:VK}:H a=some (.rng 0 (n:Int))->n<=1000->(∀l,H l=none->Q (.ref l) (upd H l (.lst (fR n))))->LstR K H (.ref a) Q
def zC (K:W.Frag):LV->Hp->VK->Prop:=λxs H Q=>∃x,xs=[x]/\LstR K H x Q
theorem wV (c:z.length=n) (h:∀i v, z[i]? = some v -> ∃t, v=Value.int (0+(i:Nat) * 1) t):Vals (fR n) z := by
 subst c;have b:∀(z:LW) (k:Nat), (∀i v, z[i]? = some v -> ∃t, v=Value.int (0+((k+i:Nat):Int)) t) -> Vals ((List.range' k z.length).map λi => V.int (0+(i:Nat))) z := by
  intro z
  induction z with
  | nil=>intro k _;exact .nil
  | cons u r ih =>
   intro k h;rw[BN,List.range'_succ,BZ];refine .cons ?_ (ih (k+1) λi v e=>?_)
   ·obtain⟨t,e⟩:=h 0 u rfl;exact⟨t,by rw[e,Nat.add_zero]⟩
   ·obtain⟨t,a⟩:=h (i+1) v (by simpa using e);exact⟨t,by rw[a,show ((k+(i+1):Nat):Int)=((k+1+i:Nat):Int) by omega]⟩
 have:=b z 0 λi v e=>by
  obtain⟨t,a⟩:=h i v e;exact⟨t,by rw[a,Int.mul_one,Nat.zero_add]⟩
 rw[fR,List.range_eq_range'];exact this
theorem fC (K:W.Frag) (l:X.calm=true) (B:Blt X.mg) (y:PA X [e] t) (A:Gl X "list":=by rfl) (he:starEach [e] X.env=(false,eval e X.env)::starEach [] X.env:=by rfl) (hpl:(backTo pos (starEach [] X.env)).any (·.1)=false:=by rfl) (w:X.K=K:=by rfl) :
    PE X (.Call (.Name "list" p) [e] [] pos) (tCB (zC K) t):=by
 subst w;refine fu (r:=zC X.K) (λc s g H L f Q I r h=>?_) A B.list (show bootBuiltins "list"=some (.type "list") by decide +kernel) y (by decide) (by decide) he hpl;obtain⟨x,rfl,h⟩:=h;cases h with
 | seq hq q=>exact oN c s g H _ f Q I r ⟨_,_,rfl,hq,q⟩
 | @rng a n _ ea hn q =>
  obtain⟨u,rfl,m⟩:=cI r;cases m;obtain⟨G,E,F,D⟩:=(show ObjOk X.prog X.w H s.heap a (.rng 0 (n:Int)) from I.hok a _ ea)
  refine call_list_range (n:=n) (I.ok.hd l) D (small_one (by decide) (by decide) (by omega) (by omega)) (by rw[rangeSize_one];split <;> omega) (by omega) λJ M b j C k d=>?_;have z:Vals (fR n) b.toList:=wV (by simpa using d.1) λi v e=>d.2 i v (by simpa using e);refine⟨.ref _,_,I.laid (o:=.lst (fR n)) C (BB _) ⟨?_,b.toList,j,z,by simpa using k⟩,rfl,q _ (I.hok.fresh (BB _))⟩;have:(fR n).length=n:=by simp[fR]
  rw[this];exact Ci (ap hn)
theorem mX (b:X.calm=true) (B:Blt X.mg) (a:PA X [e,f] t) (c:Gl X "min":=by rfl) (he:starEach [e,f] X.env=(false,eval e X.env)::starEach [f] X.env:=by rfl) (hpl:(backTo pos (starEach [f] X.env)).any (·.1)=false:=by rfl) :
    PE X (.Call (.Name "min" p) [e,f] [] pos) (tCB (λxs H Q=>∃i j,xs=[.int i,.int j]/\Q (.int (if j<i then j else i)) H) t) :=
 dL (uc b) c B.min (show bootBuiltins "min"=some (.builtin "min") by decide +kernel) a (by decide) (by decide) he hpl
theorem Ac {z:LW}{k:Nat}{x:Int}(b:x=(k:Int)) (a:k<=z.length) :
    (λxs:Array Value=>have k:=if x<0 then (x+(xs.size:Int)).toNat else min x.toNat xs.size;(xs.extract 0 k).push u++xs.extract k) z.toArray=(z.take k++u::z.drop k).toArray:=by
 subst b;simp only[BY];rw[if_neg (by omega),Dd,Nat.min_eq_left a];simp[List.extract_eq_drop_take];exact BS (by rw[CB];omega)
def qN:V->LV->Hp->VK->Prop:=λx vs H Q=>∃l xs i k y,x=.ref l/\vs=[.int i,y]/\i=((k:Nat):Int)/\H l=some (.lst xs)/\k<=xs.length/\xs.length<sizeLine/\Q .non (upd H l (.lst (xs.take k++y::xs.drop k)))
theorem tM:MtR X "list.insert" qN:=by
 intro c s C H x G v B Q I j g h;obtain⟨l,L,i,k,y,rfl,rfl,o,d,J,K,q⟩:=h;cases j;obtain⟨E,f,rfl,w,A⟩:=gT g;obtain⟨t,rfl⟩:=w;obtain⟨z,a,n,r,D,e⟩:=I.lstM d;have u:a.length<=sizeLine:=by omega
 have b:Builtin.List.listFitsIndex i=true:=by
  have p:i<2 ^ 63:=by have:=hJ;omega
  exact fitsIndex_both (by omega) p
 have m:=PySem.AutoSeq1.list_insert_list_int_val_1 l a.toArray n i t f (by simp[b]) (by rw[BY];exact u);refine call_meets F.slot_list_insert ⟨_,e,rfl⟩ F.entry_list_insert (F.args_list_insert_3 _ _ _) m ⟨e,?_⟩;refine⟨.non,_,I.lset (its':=a.take k++f::a.drop k) d e (Ac o (by omega)) (Vals.append (r.take k) (.cons A (r.drop k))) ?_,rfl,q⟩;simp only[BJ,BN,Ch,CB];omega
theorem fi (K:W.Frag) (g:PE X o to) (i:PA X [e, f] t)
    (b:attributeBase o "insert" X.env (eval o X.env)=eval o X.env:=by rfl)
    (d:((backTo cpos (starEach [e,f] X.env)).all (λx=>!x.1)&&(backToKw cpos (keywordEach [] X.env)).all (λx=>x.1.isSome)
     && decide ([e,f].length+([]:List Keyword).length+(if ([]:List Keyword).isEmpty then 0 else 1)<30))=true:=by rfl)
    (c:(apos.endLine==cpos.line)=true:=by rfl) (j:starEach [e,f] X.env=(false,eval e X.env)::starEach [f] X.env:=by rfl) (a:(backTo cpos (starEach [f] X.env)).any (·.1)=false:=by rfl) (h:X.K=K:=by rfl) :
    PE X (.Call (.Attribute o "insert" apos) [e,f] [] cpos) (tBM K "list" qN to t):=h ▸ gS PySem.F.plainAttrs_list PySem.F.slot_list_insert PySem.F.type_list_insert tM g i b d c j a
end
def Nm (s:Str):Prop:=1<=s.length/\s.length<=8/\∀c∈s.cps.toList,97<=c/\c<=122
theorem Nm.asc (h:Nm s):Asc s:=λc a=>by have:=h.2.2 c a;omega
def aG (e:Str × Str):PyData:=.tuple [.str e.1,.str e.2]
def Ah (ss:LS) (ts:List (Str × Str)):PyData:=.tuple [.tuple (ss.map .str),.tuple (ts.map aG)]
section
variable {H H':Hp}
theorem Rep.tupI (h:Rep H v (.tuple ds)):∃a xs,v=.ref a/\H a=some (.tup xs)/\RepAll H xs ds:=by
 cases h with
 | tup e r=>exact⟨_,_,rfl,e,r⟩
theorem Rep.strI (h:Rep H v (.str s)):v=.str s:=by cases h;rfl
theorem RepAll.nilI (h:RepAll H xs []):xs=[]:=by cases h;rfl
theorem RepAll.consI (h:RepAll H xs (d::ds)):∃y ys,xs=y::ys/\Rep H y d/\RepAll H ys ds:=by
 cases h with
 | cons a b=>exact⟨_,_,rfl,a,b⟩
theorem RepAll.strs:∀ {xs:LV}{ss:LS},RepAll H xs (ss.map PyData.str)->xs=ss.map V.str
 | _,[],h=>by rw[h.nilI];rfl
 | _,s::ss,h=>by
  obtain⟨y,ys,rfl,a,b⟩:=RepAll.consI h;rw[a.strI,RepAll.strs b];rfl
theorem RepAll.of_strs:∀(ss:LS),RepAll H (ss.map V.str) (ss.map PyData.str)
 | []=>.nil
 | s::ss=>.cons (.str s) (RepAll.of_strs ss)
theorem RepAll.len (h:RepAll H xs ds):xs.length=ds.length:=by
 induction ds generalizing xs with
 | nil=>rw[h.nilI];rfl
 | cons d ds ih =>
  obtain⟨y,c,rfl,a,b⟩:=h.consI;simp[ih b]
theorem RepAll.get {xs:LV}{ds:List PyData}(h:RepAll H xs ds) {i:Nat}(e:xs[i]? = some x):∃d,ds[i]? = some d/\Rep H x d:=by
 induction ds generalizing xs i with
 | nil=>rw[h.nilI] at e;simp at e
 | cons d ds ih =>
  obtain⟨y,c,rfl,a,b⟩:=h.consI;cases i with
  | zero=>simp at e;subst e;exact⟨d,rfl,a⟩
  | succ i=>simpa using ih b (by simpa using e)
theorem RepAll.append (h:RepAll H xs ds) (g:RepAll H ys es):RepAll H (xs++ys) (ds++es):=by
 induction ds generalizing xs with
 | nil=>rw[h.nilI];exact g
 | cons d ds ih =>
  obtain⟨y,c,rfl,a,b⟩:=h.consI;exact .cons a (ih b)
theorem RepAll.take (h:RepAll H xs ds):∀k,RepAll H (xs.take k) (ds.take k):=by
 induction ds generalizing xs with
 | nil=>intro k;rw[h.nilI];simp;exact .nil
 | cons d ds ih =>
  obtain⟨y,c,rfl,a,b⟩:=h.consI;intro k;cases k with
  | zero=>exact .nil
  | succ k=>exact .cons a (ih b k)
theorem RepAll.drop (h:RepAll H xs ds):∀k,RepAll H (xs.drop k) (ds.drop k):=by
 induction ds generalizing xs with
 | nil=>intro k;rw[h.nilI];simp;exact .nil
 | cons d ds ih =>
  obtain⟨y,c,rfl,a,b⟩:=h.consI;intro k;cases k with
  | zero=>exact .cons a b
  | succ k=>exact ih b k
theorem jh (h:Rep H v (aG e)):∃a,v=.ref a/\H a=some (.tup [.str e.1,.str e.2]):=by
 obtain⟨a,j,rfl,b,r⟩:=Rep.tupI h;obtain⟨y,g,rfl,c,r⟩:=r.consI;obtain⟨z,i,rfl,d,r⟩:=r.consI;have f:=RepAll.nilI r;subst f;rw[c.strI,d.strI] at b;exact⟨a,rfl,b⟩
theorem cg (h:H a=some (.tup [.str s,.str t])):Rep H (.ref a) (aG (s,t)):=.tup h (.cons (.str _) (.cons (.str _) .nil))
theorem km (h:Rep H v (Ah ss ts)):∃q a b xs,v=.ref q/\H q=some (.tup [.ref a,.ref b])/\H a=some (.tup (ss.map V.str))/\H b=some (.tup xs)/\RepAll H xs (ts.map aG):=by
 obtain⟨q,t,rfl,j,d⟩:=Rep.tupI h;obtain⟨y,s,rfl,n,f⟩:=d.consI;obtain⟨z,r,rfl,o,i⟩:=f.consI;obtain⟨a,u,rfl,g,m⟩:=Rep.tupI n;obtain⟨b,k,rfl,c,e⟩:=Rep.tupI o;have p:=RepAll.nilI i;subst p;have l:=RepAll.strs m;subst l;exact⟨q,a,b,k,rfl,j,g,c,e⟩
end
end L2
namespace MG
variable {α:Type}
def oX (R:α->α->Prop):Nat->α->α->Prop
 | 0,x,y=>x=y
 | n+1,x,y=>∃z,oX R n x z/\R z y
def Rch (R:α->α->Prop) (x y:α):Prop:=∃n,oX R n x y
def Dst (R:α->α->Prop) (x:α) (d:Nat) (y:α):Prop:=oX R d x y/\∀k,k<d->¬ oX R k x y
variable {R:α->α->Prop}{x:α}
theorem Dst.uniq (a:Dst R x d y) (b:Dst R x e y):d=e:=by
 rcases Nat.lt_trichotomy d e with h | h | h
 ·exact absurd a.1 (b.2 d h)
 ·exact h
 ·exact absurd b.1 (a.2 e h)
theorem Rch.dst (h:Rch R x y):∃d, Dst R x d y := by
 obtain⟨n,h⟩:=h
 induction n using Nat.strongRecOn generalizing y with
 | _ n ih =>
  by_cases e:∃k,k<n/\oX R k x y
  ·obtain⟨k,a,w⟩:=e;exact ih k a w
  ·exact⟨n,h,λk a w=>e ⟨k,a,w⟩⟩
theorem Dst.rch (h:Dst R x d y):Rch R x y:=⟨d,h.1⟩
theorem Dst.pred (h:Dst R x (d+1) y):∃z,Dst R x d z/\R z y:=by
 obtain⟨⟨z,w,r⟩,m⟩:=h;exact⟨z,⟨w,λk b a=>m (k+1) (by omega) ⟨z,a,r⟩⟩,r⟩
theorem Dst.zero:Dst R x 0 x:=⟨rfl,λk a=>by omega⟩
theorem Dst.of_zero (h:Dst R x 0 y):y=x:=h.1.symm
theorem Dst.below (h:Dst R x d y):∀e, e <= d -> ∃z, Dst R x e z := by
 induction d generalizing y with
 | zero => intro e b; have:e=0 := by omega
           subst this;exact⟨y,h⟩
 | succ d ih =>
  intro e b;by_cases q:e=d+1
  ·subst q;exact⟨y,h⟩
  ·obtain⟨z,a,_⟩:=h.pred;exact ih a e (by omega)
theorem Rch.refl:Rch R x x:=⟨0,rfl⟩
theorem Rch.step (h:Rch R x y) (r:R y z):Rch R x z:=by
 obtain⟨n,w⟩:=h;exact⟨n+1,y,w,r⟩
theorem Rch.closed {S:α -> Prop}(a:S x) (b:∀y z, S y -> R y z -> S z) {y:α}(h:Rch R x y):S y := by
 obtain⟨n,w⟩:=h
 induction n generalizing y with
 | zero => have:x=y := w
           subst this;exact a
 | succ n ih =>
  obtain⟨z,w,r⟩:=w;exact b z y (ih w) r
structure Lev (R:α->α->Prop) (x:α) (L:Nat) (look:α->Option Nat) (edge:List α):Prop where
 snd:∀y k,look y=some k->Dst R x k y/\k<=L
 cmp:∀y k,k<=L->Dst R x k y->look y=some k
 edg:∀y,y∈edge ↔ Dst R x L y
structure Mid (R:α->α->Prop) (x:α) (L:Nat) (look:α->Option Nat) (further:List α) (done:α->α->Prop):Prop where
 snd:∀y k,look y=some k->(Dst R x k y/\k<=L)∨(k=L+1/\y∈further)
 cmp:∀y k,k<=L->Dst R x k y->look y=some k
 fur:∀y,y∈further->Dst R x (L+1) y/\look y=some (L+1)
 dn:∀z y,done z y->(look y).isSome=true
theorem Lev.start [DecidableEq α] (h:∀y,look y=if y=x then some 0 else none):Lev R x 0 look [x]:=by
 refine⟨λy k e=>?_,λy k a d=>?_,λy=>?_⟩
 ·rw[h] at e
  split at e
  ·rename_i q;subst q;cases e;exact⟨Dst.zero,BB _⟩
  ·cases e
 ·have:k=0:=by omega
  subst this;rw[h,if_pos d.of_zero]
 ·rw[Cb];exact⟨λe=>e ▸ Dst.zero,λd=>d.of_zero⟩
theorem Lev.mid (h:Lev R x L look z):Mid R x L look [] (λ_ _=>False) :=
 ⟨λy k e=>.inl (h.snd y k e),h.cmp,λy a=>(nomatch a),λ_ _ f=>f.elim⟩
theorem Mid.skip (h:Mid R x L look G I) (e:(look y).isSome=true):Mid R x L look G (λa b=>I a b∨(a=z/\b=y)) :=
 ⟨h.snd,h.cmp,h.fur,λa b d=>by
  rcases d with d | ⟨_,q⟩
  ·exact h.dn a b d
  ·rw[q];exact e⟩
theorem Mid.add (h:Mid R x L look G J) (l:Dst R x L z) (r:R z y) (e:look y=none)
    [DecidableEq α] (c:∀a,I a=if a=y then some (L+1) else look a):Mid R x L I (G++[y]) (λa b=>J a b∨(a=z/\b=y)):=by
 have g:Dst R x (L+1) y:=by
  refine⟨⟨z,l.1,r⟩,λk i w=>?_⟩;obtain⟨d,f⟩:=Rch.dst ⟨k,w⟩;have hd:d<=k:=Nat.le_of_not_lt λq=>f.2 k q w;rw[h.cmp y d (by omega) f] at e;cases e
 refine⟨λa k q=>?_,λa k i d=>?_,λa n=>?_,λa b d=>?_⟩
 ·rw[c] at q
  split at q
  ·rename_i ea;cases q;subst ea;exact .inr ⟨rfl,by simp⟩
  ·rcases h.snd a k q with m | ⟨j,o⟩
   ·exact .inl m
   ·exact .inr ⟨j,by simp[o]⟩
 ·rw[c]
  split
  ·rename_i ea;subst ea;have:=d.uniq g;omega
  ·exact h.cmp a k i d
 ·rcases BR.mp n with q | q
  ·refine⟨(h.fur a q).1,?_⟩;rw[c]
   split
   ·rfl
   ·exact(h.fur a q).2
  ·have:a=y:=by simpa using q
   subst this;exact⟨g,by rw[c,if_pos rfl]⟩
 ·rw[c]
  split
  ·rfl
  ·rename_i nb
   rcases d with d | ⟨_,q⟩
   ·exact h.dn a b d
   ·exact absurd q nb
theorem Mid.wk (h:Mid R x L look z I) (w:∀a b,G a b->I a b):Mid R x L look z G :=
 ⟨h.snd,h.cmp,h.fur,λa b d=>h.dn a b (w a b d)⟩
theorem Mid.next {L:Nat}{look:α->Option Nat}{G I:List α}{J:α->α->Prop}(h:Mid R x L look G J) (he:∀y,y∈I ↔ Dst R x L y) (hd:∀z y,z∈I->R z y->J z y):Lev R x (L+1) look G:=by
 have a:∀y,Dst R x (L+1) y->y∈G/\look y=some (L+1):=λy d=>by
  obtain⟨z,g,r⟩:=d.pred;have s:=h.dn z y (hd z y ((he z).mpr g) r);obtain⟨k,e⟩:=CT.mp s;rcases h.snd y k e with⟨q,f⟩ | ⟨b,c⟩
  ·have:=q.uniq d;omega
  ·subst b;exact⟨c,e⟩
 refine⟨λy k e=>?_,λy k f d=>?_,λy=>⟨λq=>(h.fur y q).1,λd=>(a y d).1⟩⟩
 ·rcases h.snd y k e with⟨q,f⟩ | ⟨b,c⟩
  ·exact⟨q,by omega⟩
  ·subst b;exact⟨(h.fur y c).1,BB _⟩
 ·by_cases q:k=L+1
  ·subst q;exact(a y d).2
  ·exact h.cmp y k (by omega) d
theorem Lev.done (h:Lev R x L look []):∀y k,look y=some k ↔ Dst R x k y:=λy k=>by
 refine⟨λe=>(h.snd y k e).1,λd=>?_⟩;by_cases q:k<=L
 ·exact h.cmp y k q d
 ·obtain⟨z,a⟩:=d.below L (by omega);exact(nomatch (h.edg z).mpr a)
end MG
namespace MG
variable {α:Type}{R:α->α->Prop}{x:α}
theorem Dst.lt {ss:List α}(i:∀y, Rch R x y -> y ∈ ss) {L:Nat}{y:α}(d:Dst R x L y):L<ss.length := by
 have h:∀n, n <= L+1 -> ∃b:List α, b.length=n /\ b.Nodup /\ ∀z ∈ b, ∃e, e<n /\ Dst R x e z := by
  intro n
  induction n with
  | zero=>intro _;exact⟨[],rfl,CC,λz c=>by cases c⟩
  | succ n ih =>
   intro o;obtain⟨b,l,a,c⟩:=ih (by omega);obtain⟨z,k⟩:=d.below n (by omega);refine⟨z::b,by simp[l],Cd.mpr ⟨λj=>?_,a⟩,λw g=>?_⟩
   ·obtain⟨e,m,f⟩:=c z j;have:=f.uniq k;omega
   ·rcases BH.mp g with rfl | g
    ·exact⟨n,by omega,k⟩
    ·obtain⟨e,m,f⟩:=c w g;exact⟨e,by omega,f⟩
 obtain⟨b,l,a,c⟩:=h (L+1) (BB _);have:=a.length_le_of_subset (l₂:=ss) λz j=>by
  obtain⟨e,_,f⟩:=c z j;exact i z f.rch
 omega
theorem Rch.map (f:α->β) (h:∀a b,R a b->S (f a) (f b)) (r:Rch R x y):Rch S (f x) (f y):=by
 obtain⟨n,w⟩:=r;refine⟨n,?_⟩
 induction n generalizing y with
 | zero =>
  have w:x=y:=w;subst w;exact rfl
 | succ n ih =>
  obtain⟨z,w,r⟩:=w;exact⟨f z,ih w,h z y r⟩
end MG
namespace L2
open PySem PySem.Spec PyProof.Rows
theorem fZ (h:Nm s):PyData.canLay0 (.str s)=true:=by
 show (s.cps.all (·<0x110000))=true;rw[<- Array.all_toList,CD];intro c a;have:=h.2.2 c a;exact BI (by omega)
theorem Nm.repr (h:Nm s):(reprText s).length<=82:=by
 have:=StrLaws.reprText_len s λc a=>Nat.lt_trans (h.asc c a) (by decide);have:=h.2.1;omega
structure Shw (d:PyData):Prop where
 sh:shp d
 sb:d.showable=true
 hd:d.hasDict=false
 dp:d.depth<=16
 ln:d.shown.length<=sizeLine
theorem il {K:W.Frag}{a:Addr}{xs:LV}{g:TG}{tb:TS}{D:Ends}{σ:St}{H:Hp}(Pv:Nat -> St -> Hp -> Prop) (h:Pv 0 σ H) (l:∀i σ H, i <= xs.length -> Pv i σ H -> SqL K H a xs)
    (c:∀i x σ H p,xs[i]? = some x->Pv i σ H->H p=none->g (.ref p) σ (upd H p (.tup [.int i,x])) λσ2 H2=>tb { D with nx:=Pv (i+1),ct:=Pv (i+1),bk:=D.nx } σ2 H2) (hd:∀σ H,Pv xs.length σ H->D.nx σ H) :
    ∃W:Nat->Nat->St->Hp->Prop,(∃m,W 0 m σ H)/\∀i m σ H,W i m σ H ->
     ((Ite K a).stop i H/\D.nx σ H)∨((Ite K a).go i H/\∃N:St->Hp->Prop,(∀σ' H',N σ' H'->∃G,G<m/\W (i+1) G σ' H')/\∀x H',(Ite K a).yld i H x H'->g x σ H' λσ2 H2=>tb { D with nx:=N,ct:=N,bk:=D.nx } σ2 H2):=by
 refine⟨λi m σ H=>m=xs.length-i/\i<=xs.length/\Pv i σ H,⟨xs.length,by simp,Cg _,h⟩,?_⟩;rintro i m σ H ⟨rfl,k,p⟩;have q:=l i σ H k p;by_cases b:i<xs.length
 ·refine .inr ⟨⟨xs,xs[i],q,by simp[b]⟩,Pv (i+1),λσ' H' j=>⟨xs.length-(i+1),by omega,rfl,b,j⟩,λx H' y=>?_⟩;obtain⟨r,z,d,rfl,f,rfl⟩:=y;exact c i z σ H r (f xs q) p d
 ·have e:i=xs.length:=by omega
  subst e;exact .inl ⟨⟨xs,q,BB _⟩,hd σ H p⟩
def oj:Sp:=λvs H Q _=>∃a xs,vs=[.ref a]/\H a=some (.lst (List.map V.str xs))/\xs.length<=1000 /\
 ∀d kvs H',Same H H'->H d=none->H' d=some (.dK kvs)->(∀s,(aI kvs (.inr s)).isSome=true ↔ s∈xs)->(∀s v,aI kvs (.inr s)=some v->∃j:Nat,v=.int j/\xs[j]? = some s)->Q (.ref d) H'
structure Web (H:Hp) (v:V) (ss:LS) (ts:List (Str × Str)):Prop where
 rep:Rep H v (Ah ss ts)
 nd:ss.Nodup
 nm:∀s∈ss,Nm s
 len:ss.length<=60
 few:ts.length<=401
 inn:∀e∈ts,e.1∈ss/\e.2∈ss
theorem Web.same (h:Web H v ss ts) (s:Same H H'):Web H' v ss ts:=⟨h.rep.same s,h.nd,h.nm,h.len,h.few,h.inn⟩
def iD (ss:LS) (ts:List (Str × Str)) (s:Str):LS:=ss.filter λt=>decide ((s,t)∈ts)
def kN (ts:List (Str × Str)):List (Str × Str):=ts.map λe=>(e.2,e.1)
def Tab (H:Hp) (d:Addr) (ss:LS) (f:Str->LS):Prop:=∃kvs,H d=some (.dK kvs)/\∀s∈ss,∃l,aI kvs (.inr s)=some (.ref l)/\H l=some (.lst (List.map V.str (f s)))
theorem Tab.same (h:Tab H d ss f) (s:Same H H'):Tab H' d ss f:=let ⟨g,a,b⟩:=h;⟨g,s _ _ a,λx i=>let ⟨l,c,e⟩:=b x i;⟨l,c,s _ _ e⟩⟩
def Ner (ss:LS) (f:Str->LS) (a b:Str):Prop:=a∈ss/\b∈f a
def Tie (ts:List (Str × Str)) (a b:Str):Prop:=(a,b)∈ts
theorem dE (s:Same H H') (h:H' b=none):H b=none:=by
 cases q:H b with
 | none=>rfl
 | some o=>rw[s _ _ q] at h;cases h
theorem bq (s:Same H H') (h:H b=none):Same H (upd H' b o):=λc d a=>by
 rw[ah (ao a h)];exact s _ _ a
theorem br (s:Same H H') (v:PenV H p a):PenV H' p a:=let ⟨i,m,e,q⟩:=v;⟨i,m,s _ _ e,q⟩
section
variable {X:Cx}{p pos p2 pos2:Pos}{e f:Expr}{t:TA}
theorem vF {xs:LV}{us:LW}(r:Vals xs us) {j:Nat}(e:us[j]? = some u):∃x,xs[j]? = some x/\RelV x u:=by
 induction r generalizing j with
 | nil=>simp at e
 | @cons a b as bs h t ih =>
  cases j with
  | zero=>simp at e;subst e;exact⟨a,rfl,h⟩
  | succ j=>simpa using ih (by simpa using e)
end
end L2
namespace MG
section
variable {α:Type} [DecidableEq α]
def ix:List α->α->Nat
 | [],_=>0
 | a::r,x=>if a=x then 0 else ix r x+1
theorem qO (a:α) (r:List α):ix (a::r) a=0:=by show (if a=a then 0 else _)=0;rw[if_pos rfl]
theorem pY (r:List α) (h:a≠x):ix (a::r) x=ix r x+1:=by show (if a=x then 0 else _)=_;rw[if_neg h]
theorem ix_at (g:l.Nodup):∀ {i:Nat}{x:α}, l[i]? = some x -> ix l x=i := by
 induction l with
 | nil=>intro i x e;simp at e
 | cons a r ih =>
  intro i x e;have ⟨f,c⟩:=Cd.mp g;cases i with
  | zero=>simp at e;subst e;exact qO a r
  | succ i =>
   have b:r[i]? = some x:=by simpa using e
   have d:=BG b;rw[pY r (λq:a=x=>f (q ▸ d)),ih c b]
theorem at_ix {l:List α}{x:α}(h:x ∈ l):l[ix l x]? = some x := by
 induction l with
 | nil=>cases h
 | cons a r ih =>
  by_cases q:a=x
  ·subst q;rw[qO];rfl
  ·rw[pY r q];rcases BH.mp h with h | h
   ·exact absurd h.symm q
   ·simpa using ih h
theorem ix_lt {l:List α}{x:α}(h:x∈l):ix l x<l.length:=(BF.mp (at_ix h)).1
theorem ix_inj {l:List α}{x y:α}(h:x∈l) (g:y∈l) (e:ix l x=ix l y):x=y:=by
 have a:=at_ix h;rw[e,at_ix g] at a;exact(BD a).symm
end
variable {es:List (Nat × Nat)}
end MG
namespace L2
open PySem PySem.Spec PyProof.Rows
open PySem.AutoSeq1 (wpAny_loadPart')
section
variable {prog:Program}{w:World}{A:Around}{E:Value->Shared->Prop}{s:Shared}
theorem jZ (c:s.heap.IsTupleIter G z i) (e:s.heap.IsTuple z I) (f:I[i]? = some y)
    (j:∀h',h'.IsTupleIter G z (i+1)->Heap.SameBut G s.heap h'->Q y { s with heap:=h' }):wpAny (model prog w) A (Builtin.SmallTypes.nextOf (.ref G)) Q E s:=by
 obtain⟨l,a,h,b⟩:=id c;obtain⟨k,d,_,m,g⟩:=e;unfold Builtin.SmallTypes.nextOf;refine Bz (wpAny_callSpecial?_slot (name:=Str.ofString "__next__") c.typeIs F.slot_tuple_iterator_next (wpAny_call_entry F.slot_tuple_iterator_next c.typeIs F.entry_tuple_iterator_next ?_ (F.args_tuple_iterator_next_1 _)));show wpAny _ _ (field (.ref G) 0 >>= _) _ _ s;refine Bz (Ck a b (x:=.ref z) rfl ?_);show wpAny _ _ (if (Value.ref z==Value.none)=true then _ else _) _ _ s;rw[if_neg (show ¬ ((Value.ref z==Value.none)=true) from Cf)];show wpAny _ _ (field (.ref G) 1 >>= _) _ _ s;refine Bz (Ck a b (x:=.int i 0) rfl (Bz (CV d g ?_)));simp only[Dd,f];refine Bz (wpAny_setField a b (by simp) (BC ⟨y,rfl,BC (j _ ?_ (Heap.SameBut.update ..))⟩));exact⟨_,Dr _ a (Obj.isFreed_of_fields (Obj.data_mapFields b _)),(Obj.cls_mapFields ..).trans h,by rw[Obj.data_mapFields b];simp[rawInt]⟩
theorem iP (h:A.handled=none) (c:s.heap.IsTupleIter G z i) (f:s.heap.IsTuple z I) (j:I[i]? = none)
    (l:∀h' e,Heap.ExtBut G s.heap h'->(∃o,h'.get? e=some o/\o.cls=.type "StopIteration")->E (.ref e) { s with heap:=h' }):wpAny (model prog w) A (Builtin.SmallTypes.nextOf (.ref G)) Q E s:=by
 obtain⟨p,b,q,g⟩:=id c;obtain⟨n,d,_,r,k⟩:=f;unfold Builtin.SmallTypes.nextOf;refine Bz (wpAny_callSpecial?_slot (name:=Str.ofString "__next__") c.typeIs F.slot_tuple_iterator_next (wpAny_call_entry F.slot_tuple_iterator_next c.typeIs F.entry_tuple_iterator_next ?_ (F.args_tuple_iterator_next_1 _)));show wpAny _ _ (field (.ref G) 0 >>= _) _ _ s;refine Bz (Ck b g (x:=.ref z) rfl ?_);show wpAny _ _ (if (Value.ref z==Value.none)=true then _ else _) _ _ s;rw[if_neg (show ¬ ((Value.ref z==Value.none)=true) from Cf)];show wpAny _ _ (field (.ref G) 1 >>= _) _ _ s;refine Bz (Ck b g (x:=.int i 0) rfl (Bz (CV d k ?_)));simp only[Dd,j];refine Bz (wpAny_rule (Bz (wpAny_setField b g (by simp) ?_)));show wpAny _ _ (newExc (.type "StopIteration") [] >>= _) _ _ _;refine Bz ?_;simp only[newExc,newTuple];refine Bz (wpAny_newObj_type (Bz (m:=firstArgMember _ _) (wpAny_of_eq (a:=Value.none) (by first | rfl | (simp only[firstArgMember];rfl)) ?_)) (by size_fits));refine wpAny_newObj_type ?_ (by size_fits);simp only[raiseNew];refine Bz (wpAny_handled ?_)
 first | rw[show A.in1.handled=none from h] | rw[h]
 refine Bz (BC (wpAny_throw (l _ _ (((Heap.SameBut.update ..).extBut.push _).push _) ⟨_,Ce _ rfl,rfl⟩)))
theorem Az (hh:A.handled=none) (jt tt:Addr) (hne:tt≠jt) (its:Array Value) :
    Draws prog w A jt [jt,tt] its.size (λi y=>its[i]? = some y) (λi h=>h.IsTupleIter jt tt i/\h.IsTuple tt its) where
 live:=λi h st=>let ⟨o,e,_⟩:=st.1;⟨o,e⟩
 frame:=λi h h' st k=>⟨let ⟨o,e,r⟩:=st.1;⟨o,k jt (by simp) o e,r⟩,let ⟨o,e,r⟩:=st.2;⟨o,k tt (by simp) o e,r⟩⟩
 item:=λi s Q E hi st hQ=>jZ st.1 st.2 (y:=its[i]) (by simp[hi]) λh' j' sb=>hQ _ h' s.toks (by simp[hi]) ⟨j',st.2.extBut sb.extBut hne⟩ sb
 done:=λs Q E st hE=>iP hh st.1 st.2 (by simp) hE
set_option maxHeartbeats 1000000 in
theorem pN (l:Addr) (its:Array Value) (n:Nat) (dct:Option Addr) (sl:Array (Option Value)) :
    Meets (Builtin.«enumerate.__new__» ⟨[.type "enumerate",.ref l],[]⟩) (λ_ R s=>s.heap.get? l=some { cls:=.type "tuple",dict:=dct,data:=.seq its n,slots:=sl } /\
     R (.ok (.ret (.ref (s.heap.push { cls:=.type "tuple_iterator",data:=.fields #[.ref l,.int 0 0] }).objs.size)))
      { s with heap:=(s.heap.push { cls:=.type "tuple_iterator",data:=.fields #[.ref l,.int 0 0] }).push { cls:=.type "enumerate",data:=.fields #[.none,.bool false,.ref s.heap.objs.size,rawInt 0,.none,.none] } }) :=
 .of_wp λf w A R s h => by
  obtain⟨j,k,i,g,d⟩:=s;obtain⟨a,h⟩:=h;have e:=sub_enumerate;have b:Heap.IsTuple (Shared.heap ⟨j,k,i,g,d⟩) l its:=⟨_,a,rfl,n,rfl⟩
  wp_walk using wpAny_loadPart' a
  refine wpAny_stack_any λm=>BC ?_
  split
  ·rename_i c _ _ _ _ _
   cases (c==Value.type "enumerate")
   ·wp_walk using wpAny_loadPart' a,Dp b
    exact⟨_,rfl,h⟩
   ·wp_walk using wpAny_loadPart' a,Dp b
    exact⟨_,rfl,h⟩
  ·wp_walk using wpAny_loadPart' a,Dp b
   exact⟨_,rfl,h⟩
theorem rN (j:s.heap.IsTuple l z)
    (h:∀h',IsEnum h' (s.heap.objs.size+1) s.heap.objs.size 0 .none->h'.IsTupleIter s.heap.objs.size l 0->(∀b o,s.heap.get? b=some o->h'.get? b=some o)->Q (.ref (s.heap.objs.size+1)) { s with heap:=h' }) :
    wpAny (model prog w) A (call (.type "enumerate") [.ref l]) Q E s:=by
 obtain⟨⟨c,a,i,k⟩,m,d,n,hd⟩:=j
 replace d:c=.type "tuple":=d
 replace hd:i=.seq z n:=hd
 subst d hd;refine callType_new F.called_enumerate (by decide) (F.typeCall_enumerate_1 _) (F.newCall_enumerate_1 _) (λe=>F.args_object_init_2 e _) F.entry_enumerate_new (pN l z n a k) ⟨m,?_⟩;have g:(s.heap.push { cls:=.type "tuple_iterator",data:=.fields #[.ref l,.int 0 0] }).objs.size=s.heap.objs.size+1:=Heap.size_push ..;show _/\_;rw[g];have f:IsEnum ((s.heap.push { cls:=.type "tuple_iterator",data:=.fields #[.ref l,.int 0 0] }).push { cls:=.type "enumerate",data:=.fields #[.none,.bool false,.ref s.heap.objs.size,rawInt 0,.none,.none] }) (s.heap.objs.size+1) s.heap.objs.size 0 .none:=by
  have:=Ce (s.heap.push { cls:=.type "tuple_iterator",data:=.fields #[.ref l,.int 0 0] }) (o:={ cls:=.type "enumerate",data:=.fields #[.none,.bool false,.ref s.heap.objs.size,rawInt 0,.none,.none] }) rfl;rw[g] at this;exact this
 exact⟨⟨_,f,rfl⟩,h _ f ⟨_,BU _ (Ce _ rfl),rfl,rfl⟩ λb o x=>BU _ (BU _ x)⟩
end
def og (K:W.Frag) (a:Addr):It :=
 ⟨λi H=>∃xs x,SqT K H a xs/\xs[i]? = some x,λi H v H'=>∃p x,H p=none/\v=.ref p/\(∀xs,SqT K H a xs->xs[i]? = some x)/\H'=upd H p (.tup [.int i,x]),λi H=>∃xs,SqT K H a xs/\xs.length<=i⟩
theorem qY {P:Program}{w:World}{K:W.Frag}{elts:List Expr}{k:Nat}{tp:Pos}(a e it:Addr) (hne:e ≠ it) :
    Turn P w K (.Tuple elts k tp) (og K a) [e,it] e (λi h=>(∃old,IsEnum h e it i old)/\h.IsTupleIter it a i) where
 mem:=by simp
 obj:=λi h st b hb=>by
  obtain⟨⟨old,he⟩,hit⟩:=st;have hb:b=e∨b=it:=by simpa using hb
  rcases hb with z | z
  ·subst z;exact⟨_,he,λv z=>by cases z⟩
  ·subst z;obtain⟨o,e1,c,d⟩:=hit;exact⟨o,e1,λv z=>by rw[d] at z;cases z⟩
 keep:=λi h h' st kk=>by
  obtain⟨⟨old,he⟩,hit⟩:=st;exact⟨⟨old,kk e (by simp) _ he⟩,let ⟨o,q,r⟩:=hit;⟨o,kk it (by simp) o q,r⟩⟩
 item := by
  intro X hP hw hK hc i pins s σ H E I hf st hg;subst hP hw hK;obtain⟨⟨old,he⟩,hit⟩:=st;obtain⟨xs,x,hq,hx⟩:=hg;obtain⟨its,rv,p,hz⟩:=I.tuple hq;obtain⟨u,hu,ru⟩:=rv.get hx;obtain⟨f0,f1,f2,f3,f4,f5⟩:=hf e (by simp);obtain⟨g0,g1,g2,g3,g4,g5⟩:=hf it (by simp);have hel:e<s.heap.objs.size:=BK he;have hil:it<s.heap.objs.size:=by obtain⟨o,q,_⟩:=hit;exact BK q
  have hae:a≠e:=λz=>by
   obtain⟨o,q,c,_⟩:=p;rw[z,he] at q;cases q;simp at c
  have hai:a≠it:=λz=>by
   obtain⟨o,q,c,_⟩:=p;obtain⟨o',q',c',_⟩:=hit;rw[z,q'] at q;cases q;rw[c] at c';simp at c'
  have hul:=(BF.mp hu).1;refine wpAny_pyNext_enum_itemD (Az (A:=X.A.in1) (show X.A.in1.handled=none from I.ok.hd hc) it a hai its.toArray) he ⟨hit,p⟩ (by simpa using hul) hne (by simp[hne,Ne.symm hae]) λu' h1 tk hu' ho hit1 ht1 hz1 k1=>?_;have eu:u'=u:=by
   have:its[i]? = some u':=by simpa using hu'
   rw[hu] at this;exact(BD this).symm
  subst eu;refine⟨_,rfl,wpAny_letOwnedTupleGo_enum ho λh2 he2 sb2=>?_⟩;have sb2:Heap.SameBut e h1 h2:=sb2;have T2:h2.get? s.heap.objs.size=some { cls:=.type "tuple",data:=.seq #[.int i tk,u'] }:=(sb2.2 _ (CS hel)).trans ht1;have hp:H s.heap.objs.size=none:=I.hok.fresh (BB _);have nit:∀b v,H b=some v->b≠e/\b≠it:=λb v q=>⟨λz=>(by rw[z,f0] at q;cases q),λz=>(by rw[z,g0] at q;cases q)⟩
  have kk:∀b o,b≠e->b≠it->s.heap.get? b=some o->h2.get? b=some o:=λb o n1 n2 q=>(sb2.2 b n1).trans (k1 b o n1 n2 q);have up:∀b v,H b=some v->upd H s.heap.objs.size (.tup [.int i,x]) b=some v:=λb v q=>by rw[ah (ao q hp)];exact q
  have I1:Inv X pins σ (upd H s.heap.objs.size (.tup [.int i, x])) { s with heap := h2, gens := s.gens, drawn := s.drawn, toks := tk+1 } := by
   refine I.step (g':=s.gens) (d':=s.drawn) (ch:=[e,it]) (λb hb=>?_) (λb o _ _ hb q _=>kk b o (λz=>hb (by simp[z])) (λz=>hb (by simp[z])) q) (λb o _ _ hb q _=>⟨o.slots,kk b o (λz=>hb (by simp[z])) (λz=>hb (by simp[z])) q⟩) (λb o _ q n=>?_)
    (λb o hb q=>⟨o,kk b o (λz=>hb (by simp[z])) (λz=>hb (by simp[z])) q⟩) (λb ys q=>up b _ q) (λb o v q=>up b _ q) (λb ps q=>⟨#[],by rw[up b _ q];simp⟩) (λm hm=>?_) (λb v q=>?_) I.bare
   ·have hb:b=e∨b=it:=by simpa using hb
    rcases hb with z | z
    ·subst z;exact⟨f3,f1,f4,f5⟩
    ·subst z;exact⟨g3,g1,g4,g5⟩
   ·rw[ah (Ca (BK q))];exact n
   ·obtain⟨o,es,ep,ho,r⟩:=hm;exact⟨o,es,ep,kk _ o (Ne.symm f1) (Ne.symm g1) ho,r⟩
   ·by_cases hb:b=s.heap.objs.size
    ·subst hb;rw[af] at q;have q':HO.tup [V.int i,x]=v:=BD q;subst q';exact⟨by show 2<=sizeLine;decide,[.int i tk,u'],.cons ⟨_,rfl⟩ (.cons ru .nil),⟨_,T2,rfl,_,rfl,rfl⟩⟩
    ·rw[ah hb] at q;refine(I.hok b v q).stay (λc v' hc q'=>?_) (λc q=>up c _ q) λc ys q=>up c _ q;rcases hc with z | z
     ·rw[z] at q' ⊢;exact kk b v' (nit b v q).1 (nit b v q).2 q'
     ·exact kk c v' (nit c _ z).1 (nit c _ z).2 q'
  refine⟨.ref s.heap.objs.size,upd H s.heap.objs.size (.tup [.int i,x]),I1,rfl,⟨_,x,hp,rfl,λys hy=>by rw[I.tuple_inj hy hq];exact hx,rfl⟩,⟨⟨u',?_⟩,?_⟩,λb hb=>?_⟩
  ·exact(by simpa using he2)
  ·obtain⟨o,q,r⟩:=hit1.1;exact⟨o,(sb2.2 it (Ne.symm hne)).trans q,r⟩
  ·have hb:b=e∨b=it:=by simpa using hb
   rcases hb with z | z
   ·rw[z,ah (Ca hel)];exact f0
   ·rw[z,ah (Ca hil)];exact g0
 done:=by
  intro X hP hw hK hc i pins s σ H E I hf st hg;subst hP hw hK;obtain⟨⟨old,he⟩,hit⟩:=st;obtain⟨xs,hq,hx⟩:=hg;obtain⟨its,rv,p,hz⟩:=I.tuple hq;obtain⟨g0,g1,g2,g3,g4,g5⟩:=hf it (by simp);have hl:=rv.length;have hT:s.TypeIs (.ref e) "enumerate":=⟨_,he,rfl⟩
  unfold pyNext;refine Bz (wpAny_attempt (wpAny_callSpecial?_slot (name:=Str.ofString "__next__") hT F.slot_enumerate_next (wpAny_call_entry F.slot_enumerate_next hT F.entry_enumerate_next ?_ (F.args_enumerate_next_1 _))));show wpAny _ _ (field (.ref e) 2 >>= _) _ _ _;refine Bz (Ck he rfl (x:=.ref it) rfl (Bz (iP (I.ok.hd hc) hit p (by simp;omega) λh' x he' hx'=>?_)));obtain⟨o,ho,hc'⟩:=hx';refine Bz (wpAny_isInstance (T:="StopIteration") (b:=true) ⟨o,ho,hc'⟩ isSubtype_stop ?_);exact BC ⟨rfl,I.turned (t':=s.toks) (λb o hb q=>he' b o hb q) g0 g1 g3 g4 g5⟩
 self:=λ_ _ _ _ _ st h=>by
  obtain⟨⟨old,he⟩,_⟩:=st;exact wpAny_pyIter_enum he h
inductive EnmR (K:W.Frag) (H:Hp):V->(It->Hp->Prop)->Prop
 | lst {a:Addr} {xs:LV} {R:It->Hp->Prop}:SqL K H a xs->R (Ite K a) H->EnmR K H (.ref a) R
 | tup {a:Addr} {xs:LV} {R:It->Hp->Prop}:SqT K H a xs->R (og K a) H->EnmR K H (.ref a) R
def zK (K:W.Frag) (ta:TA):TI:=λσ H R=>ta σ H λvs H1=>∃x,vs=[x]/\EnmR K H1 x R
theorem jT (K:W.Frag) {X:Cx}{G:List Expr}{k:Nat}{tp:Pos}{a:Expr}{ta:TA}{p pos:Pos}(D:Gl X "enumerate") (E:X.mg "enumerate"=none) (C:PA X [a] ta) (J:starEach [a] X.env=[(false,eval a X.env)]:=by rfl) (B:X.K=K:=by rfl) :
    PI X (.Tuple G k tp) (.Call (.Name "enumerate" p) [a] [] pos) (zK K ta):=by
 subst B;intro d s y H R I h;refine Call_ (gy I D E boot_enumerate (PyProof.Rows.callWith_type1 (thn (C pos d s y H _ I h) λN c ⟨O,t,f,L,M⟩=>?_) J rfl));obtain⟨x,e,q⟩:=M;subst e;obtain⟨u,rfl,v⟩:=cI L;have l:∀b,b=c.heap.objs.size+1∨b=c.heap.objs.size->fD X d t b:=λb i=>by
  rcases i with z | z
  ·subst z;exact f.fpOk (Nat.le_succ _) (f.hok.fresh (Nat.le_succ _))
  ·subst z;exact f.fpOk (BB _) (f.hok.fresh (BB _))
 cases q with
 | lst hq q =>
  cases v;obtain⟨m,w,o,F⟩:=f.list hq;refine call_enumerate_list o.isList λr j g A n=>wpAny_pyIter_enum (s:={ c with heap:=r }) j ?_;exact⟨_,[c.heap.objs.size+1,c.heap.objs.size],_,_,t,rfl,f.kept (t':=c.toks) n,my _ _ _ (Nat.succ_ne_self _),⟨⟨_,j⟩,g⟩,λb i=>l b (by simpa using i),q⟩
 | tup hq q =>
  cases v;obtain⟨m,w,o,F⟩:=f.tuple hq;refine rN o λr j g n=>wpAny_pyIter_enum (s:={ c with heap:=r }) j ?_;exact⟨_,[c.heap.objs.size+1,c.heap.objs.size],_,_,t,rfl,f.kept (t':=c.toks) n,qY _ _ _ (Nat.succ_ne_self _),⟨⟨_,j⟩,g⟩,λb i=>l b (by simpa using i),q⟩
theorem mB {K:W.Frag}{a:Addr}{xs:LV}{g:TG}{tb:TS}{D:Ends}{σ:St}{H:Hp}(Pv:Nat -> St -> Hp -> Prop) (h:Pv 0 σ H) (l:∀i σ H, i <= xs.length -> Pv i σ H -> SqT K H a xs)
    (c:∀i x σ H p,xs[i]? = some x->Pv i σ H->H p=none->g (.ref p) σ (upd H p (.tup [.int i,x])) λσ2 H2=>tb { D with nx:=Pv (i+1),ct:=Pv (i+1),bk:=D.nx } σ2 H2) (hd:∀σ H,Pv xs.length σ H->D.nx σ H) :
    ∃W:Nat->Nat->St->Hp->Prop,(∃m,W 0 m σ H)/\∀i m σ H,W i m σ H ->
     ((og K a).stop i H/\D.nx σ H)∨((og K a).go i H/\∃N:St->Hp->Prop,(∀σ' H',N σ' H'->∃G,G<m/\W (i+1) G σ' H')/\∀x H',(og K a).yld i H x H'->g x σ H' λσ2 H2=>tb { D with nx:=N,ct:=N,bk:=D.nx } σ2 H2):=by
 refine⟨λi m σ H=>m=xs.length-i/\i<=xs.length/\Pv i σ H,⟨xs.length,by simp,Cg _,h⟩,?_⟩;rintro i m σ H ⟨rfl,k,p⟩;have q:=l i σ H k p;by_cases b:i<xs.length
 ·refine .inr ⟨⟨xs,xs[i],q,by simp[b]⟩,Pv (i+1),λσ' H' j=>⟨xs.length-(i+1),by omega,rfl,b,j⟩,λx H' y=>?_⟩;obtain⟨r,z,d,rfl,f,rfl⟩:=y;exact c i z σ H r (f xs q) p d
 ·have e:i=xs.length:=by omega
  subst e;exact .inl ⟨⟨xs,q,BB _⟩,hd σ H p⟩
end L2
namespace L2
open PySem PySem.Spec PyProof.Rows
abbrev Zp (h:Heap) (z TI TO:Addr) (f0:Value) (f1:Bool):Prop:=h.get? z=some { cls:=.type "zip",dict:=none,data:=.fields #[f0,.bool f1,.bool false,.ref TI,.ref TO],slots:=#[] }
def F0 (f0:Value):Prop:=f0=.none∨∃T:Nat,f0=rawInt (T:Int)
def ItI:Bool->Heap->Addr->Addr->Nat->Prop
 | true,h,i,l,k=>h.IsTupleIter i l k
 | false,h,i,l,k=>h.IsListIter i l k
def SqI:Bool->Heap->Addr->Array Value->Prop
 | true,h,l,xs=>h.IsTuple l xs
 | false,h,l,xs=>h.IsList l xs
theorem ItI.at (j:ItI t h i l k) (f:∀o,h.get? i=some o->h'.get? i=some o):ItI t h' i l k:=by
 cases t
 ·exact Heap.IsListIter.at (h:=h) j f
 ·exact Heap.IsTupleIter.at (h:=h) j f
theorem SqI.at (j:SqI t h l xs) (f:∀o,h.get? l=some o->h'.get? l=some o):SqI t h' l xs:=by
 cases t
 ·exact Heap.IsList.at (h:=h) j f
 ·exact Heap.IsTuple.at (h:=h) j f
section
variable {prog:Program}{w:World}{A:Around}{E:Value->Shared->Prop}{s:Shared}
theorem um (h:Q (s.heap.get? a) s):wpAny (model prog w) A (loadIfAlive a) Q E s:=λ_ _ _=>h
theorem qo {z TI TO:Addr}{J:Value}{G:Bool}(d:F0 J) (a:Zp s.heap z TI TO J G) {Q:Bool -> Shared -> Prop}(h:∀b I h', Zp h' z TI TO J I -> Heap.SameBut z s.heap h' -> Q b { s with heap := h' }) :
    wpAny (model prog w) A (Builtin.SmallTypes.ownedTupleIsFree (.ref z)) Q E s:=by
 unfold Builtin.SmallTypes.ownedTupleIsFree;rcases d with rfl | ⟨T,rfl⟩
 ·exact Bz (Ck a rfl (x:=.none) rfl (BC (h true G s.heap a (Heap.SameBut.refl ..))))
 ·refine Bz (Ck a rfl (x := rawInt (T:Int)) rfl ?_);refine Bz (um ?_);cases s.heap.get? (T:Int).toNat with
  | none=>exact BC (h true G s.heap a (Heap.SameBut.refl ..))
  | some o =>
   show wpAny _ _ (field (.ref z) 1 >>= _) _ _ _;refine Bz (Ck a rfl (x:=.bool G) rfl ?_);cases G with
   | true=>exact BC (h false true s.heap a (Heap.SameBut.refl ..))
   | false =>
    show wpAny _ _ (setField (.ref z) 1 (.bool true) >>= _) _ _ _;exact Bz (Dj a (by simp) λe c f=>BC (h false true e c f))
theorem eR (c:ItI t s.heap G I i) (a:SqI t s.heap I z) (b:z[i]? = some y)
    (d:∀h',ItI t h' G I (i+1)->Heap.SameBut G s.heap h'->Q y { s with heap:=h' }):wpAny (model prog w) A (Builtin.SmallTypes.nextOf (.ref G)) Q E s:=by
 cases t
 ·exact wpAny_nextOf_list_item c a b d
 ·exact jZ c a b d
theorem gV (d:A.handled=none) (c:ItI t s.heap G I i) (a:SqI t s.heap I z) (b:z[i]? = none)
    (f:∀h' e,Heap.ExtBut G s.heap h'->(∃o,h'.get? e=some o/\o.cls=.type "StopIteration")->E (.ref e) { s with heap:=h' }):wpAny (model prog w) A (Builtin.SmallTypes.nextOf (.ref G)) Q E s:=by
 cases t
 ·exact wpAny_nextOf_list_end d c a b f
 ·exact iP d c a b f
theorem vV {t1 t2:Bool}{z TI TO I J l1 Y:Addr}{k1 k2:Nat}{f0:Value}{f1:Bool}{xs ys:Array Value}{x y a b:Value}{Q:Value -> Shared -> Prop}(D:ZipApart z TI TO I J l1 Y) (hf:F0 f0)
    (hz:Zp s.heap z TI TO f0 f1) (a5:IsPair s.heap TI (.ref I) (.ref J)) (R:IsPair s.heap TO a b)
    (h1:ItI t1 s.heap I l1 k1) (h2:ItI t2 s.heap J Y k2) (U:SqI t1 s.heap l1 xs) (W:SqI t2 s.heap Y ys) (hx:xs[k1]? = some x) (hy:ys[k2]? = some y)
    (hQ:∀h' a1 G,F0 a1->Zp h' z TI TO a1 G->(∃a b,IsPair h' TO a b)->ItI t1 h' I l1 (k1+1)->ItI t2 h' J Y (k2+1)->IsPair h' s.heap.objs.size x y ->
     (∀c o,c≠z->c≠TO->c≠I->c≠J->s.heap.get? c=some o->h'.get? c=some o)->Q (.ref s.heap.objs.size) { s with heap:=h' }) :
    wpAny (model prog w) A (Builtin.«zip.__next__» ⟨[.ref z],[]⟩) (λa6 s'=>∃v,a6=.done (.ret v)/\Q v s') E s:=by
 show wpAny _ _ (field (.ref z) 2 >>= _) _ _ _;refine Bz (Ck hz rfl (x:=.bool false) rfl ?_);show wpAny _ _ (field (.ref z) 3 >>= _) _ _ _;refine Bz (Ck hz rfl (x:=.ref TI) rfl (Bz (CV a5 rfl ?_)));refine Bz (qo hf hz λa4 G N L M=>?_);have V:N.objs.size=s.heap.objs.size:=M.1;cases a4 with
 | true =>
  simp only[if_true];refine Bz (wpAny_rule ?_);refine Bz (Ck (s:={ s with heap:=N }) L rfl (x:=.ref TO) rfl ?_);refine Bz (Dj (s:={ s with heap:=N }) L (by simp) λg1 C P=>?_)
  replace C:Zp g1 z TI TO .ellipsis G:=C
  refine Bz ?_;simp only[List.zipIdx_cons,List.zipIdx_nil,Dh,List.forIn_nil];refine Bz (Bz (wpAny_onRaise ?_));show wpAny _ _ (Builtin.SmallTypes.nextOf (.ref I) >>= _) _ _ _;have up1:∀c o,c≠z->s.heap.get? c=some o->g1.get? c=some o:=λc o n e=>P.extBut _ _ n (M.extBut _ _ n e);refine Bz (eR (h1.at λo e=>up1 _ o D.i1z e) (U.at λo e=>up1 _ o D.l1z e) hx λZ j1 f=>BC ?_);have B:IsPair Z TO a b:=f.extBut _ _ D.TOi1 (up1 _ _ D.TOz R);refine Bz (CV B rfl (Bz (wpAny_updateSeq_pair B λg3 k p=>?_)))
  replace k:IsPair g3 TO x b:=k
  refine Bz (wpAny_letGo (BC (Bz (Bz (wpAny_onRaise ?_)))));show wpAny _ _ (Builtin.SmallTypes.nextOf (.ref J) >>= _) _ _ _;have K:∀c o,c≠z->c≠I->c≠TO->s.heap.get? c=some o->g3.get? c=some o:=λc o n1 n2 n3 e=>p.extBut _ _ n3 (f.extBut _ _ n2 (up1 _ _ n1 e));refine Bz (eR (h2.at λo e=>K _ o D.i2z D.i12.symm D.TOi2.symm e) (W.at λo e=>K _ o D.l2z D.l2i1 D.l2TO e) hy λr j2 d=>BC ?_);have u:IsPair r TO x b:=d.extBut _ _ D.TOi2 k;refine Bz (CV u rfl (Bz (wpAny_updateSeq_pair u λh g j=>?_)))
  replace g:IsPair h TO x y:=g
  refine Bz (wpAny_letGo (BC (BC ?_)));refine Bz (CV g rfl (Bz (wpAny_newTuple ?_)));have F:h.objs.size=s.heap.objs.size:=by rw[j.1,d.1,p.1,f.1,P.1,V]
  have X:Zp h z TI TO .ellipsis G:=j.extBut _ _ D.TOz.symm (d.extBut _ _ D.i2z.symm (p.extBut _ _ D.TOz.symm (f.extBut _ _ D.i1z.symm C)));have a3:ItI t1 h I l1 (k1+1):=j1.at λo e=>j.extBut _ _ D.TOi1.symm (d.extBut _ _ D.i12 (p.extBut _ _ D.TOi1.symm e));have a9:ItI t2 h J Y (k2+1):=j2.at λo e=>j.extBut _ _ D.TOi2.symm e;have a8:∀c o,c≠z->c≠TO->c≠I->c≠J->s.heap.get? c=some o->h.get? c=some o:=λc o l O S c4 e=>j.extBut _ _ O (d.extBut _ _ c4 (K _ _ l S O e));have t:z<h.objs.size:=BK X;show wpAny _ _ (Builtin.SmallTypes.ownedTupleHandOut (.ref z) (.ref h.objs.size) >>= _) _ _ _;refine Bz ?_;unfold Builtin.SmallTypes.ownedTupleHandOut;have a7:Zp (h.push { cls:=.type "tuple",data:=.seq #[x,y] }) z TI TO .ellipsis G:=BU _ X;refine Bz (Dj a7 (by simp) λg7 H a2=>?_)
  replace H:Zp g7 z TI TO (rawInt h.objs.size) G:=H
  refine Dj H (by simp) λg8 m a0=>?_
  replace m:Zp g8 z TI TO (rawInt h.objs.size) false:=m
  have up:∀c o,c≠z->h.get? c=some o->g8.get? c=some o:=λc o l e=>a0.extBut _ _ l (a2.extBut _ _ l (BU _ e));have i:IsPair g8 h.objs.size x y:=a0.extBut _ _ (CS t) (a2.extBut _ _ (CS t) (Ce _ rfl));refine BC ⟨_,rfl,?_⟩;show Q (.ref h.objs.size) _;rw[F] at m i ⊢;exact hQ g8 _ _ (.inr ⟨_,rfl⟩) m ⟨x,y,up _ _ D.TOz g⟩ (a3.at λo e=>up _ o D.i1z e) (a9.at λo e=>up _ o D.i2z e) i λc o l O S c4 e=>up c o l (a8 c o l O S c4 e)
 | false =>
  simp only[Dt,if_false];refine Bz ?_;rw[<- Array.forIn_toList];simp only[Dh,List.forIn_nil];refine Bz (Bz (Ct ?_));show wpAny _ _ (Builtin.SmallTypes.nextOf (.ref I) >>= _) _ _ _;have up1:∀c o,c≠z->s.heap.get? c=some o->N.get? c=some o:=λc o n e=>M.extBut _ _ n e;refine Bz (eR (s:={ s with heap:=N }) (h1.at λo e=>up1 _ o D.i1z e) (U.at λo e=>up1 _ o D.l1z e) hx λZ j1 f=>BC ?_)
  replace f:Heap.SameBut I N Z:=f
  refine BC (Bz (Bz (Ct ?_)));show wpAny _ _ (Builtin.SmallTypes.nextOf (.ref J) >>= _) _ _ _;have q:∀c o,c≠z->c≠I->s.heap.get? c=some o->Z.get? c=some o:=λc o n1 n2 e=>f.extBut _ _ n2 (up1 _ _ n1 e);refine Bz (eR (h2.at λo e=>q _ o D.i2z D.i12.symm e) (W.at λo e=>q _ o D.l2z D.l2i1 e) hy λr j2 d=>BC ?_)
  replace d:Heap.SameBut J Z r:=d
  refine BC (BC ?_);show wpAny _ _ (newTuple [x,y] >>= _) _ _ _;refine Bz (wpAny_newTuple (BC ⟨_,rfl,?_⟩));have F:r.objs.size=s.heap.objs.size:=by rw[d.1,f.1,V]
  show Q (.ref r.objs.size) _;have T:∀c o,r.get? c=some o->(r.push { cls:=.type "tuple",data:=.seq #[x,y] }).get? c=some o:=λc o e=>BU _ e;have i:IsPair (r.push { cls:=.type "tuple",data:=.seq #[x,y] }) r.objs.size x y:=Ce _ rfl;rw[F] at i ⊢;exact hQ _ _ _ hf (T _ _ (d.extBut _ _ D.i2z.symm (f.extBut _ _ D.i1z.symm L))) ⟨a,b,T _ _ (d.extBut _ _ D.TOi2 (q _ _ D.TOz D.TOi1 R))⟩ (j1.at λo e=>T _ o (d.extBut _ _ D.i12 e)) (j2.at λo e=>T _ o e) i λc o l O S c4 e=>T _ _ (d.extBut _ _ c4 (q _ _ l S e))
theorem zc {t1 t2:Bool}{z TI TO G I l1 Y:Addr}{k1 k2:Nat}{f0:Value}{f1:Bool}{xs ys:Array Value}{a b:Value}{Q:Fin -> Shared -> Prop}(O:A.handled=none) (D:ZipApart z TI TO G I l1 Y) (hf:F0 f0)
    (Z:Zp s.heap z TI TO f0 f1) (X:IsPair s.heap TI (.ref G) (.ref I)) (V:IsPair s.heap TO a b)
    (R:ItI t1 s.heap G l1 k1) (h2:ItI t2 s.heap I Y k2) (k:SqI t1 s.heap l1 xs) (J:SqI t2 s.heap Y ys) (m:xs[k1]? = none∨ys[k2]? = none)
    (P:∀h' e,(∀c o,c≠z->c≠TO->c≠G->c≠I->s.heap.get? c=some o->h'.get? c=some o)->(∃o,h'.get? e=some o/\o.cls=.type "StopIteration")->E (.ref e) { s with heap:=h' }) :
    wpAny (model prog w) A (Builtin.«zip.__next__» ⟨[.ref z],[]⟩) Q E s:=by
 show wpAny _ _ (field (.ref z) 2 >>= _) _ _ _;refine Bz (Ck Z rfl (x:=.bool false) rfl ?_);show wpAny _ _ (field (.ref z) 3 >>= _) _ _ _;refine Bz (Ck Z rfl (x:=.ref TI) rfl (Bz (CV X rfl ?_)));refine Bz (qo hf Z λT y F L N=>?_);cases T with
 | true =>
  simp only[if_true];refine Bz (wpAny_rule ?_);refine Bz (Ck (s:={ s with heap:=F }) L rfl (x:=.ref TO) rfl ?_);refine Bz (Dj (s:={ s with heap:=F }) L (by simp) λg1 j U=>?_)
  replace j:Zp g1 z TI TO .ellipsis y:=j
  refine Bz ?_;simp only[List.zipIdx_cons,List.zipIdx_nil,Dh,List.forIn_nil];refine Bz (Bz (wpAny_onRaise ?_));show wpAny _ _ (Builtin.SmallTypes.nextOf (.ref G) >>= _) _ _ _;have up1:∀c o,c≠z->s.heap.get? c=some o->g1.get? c=some o:=λc o n e=>U.extBut _ _ n (N.extBut _ _ n e);cases hx:xs[k1]? with
  | none =>
   refine Bz (gV O (R.at λo e=>up1 _ o D.i1z e) (k.at λo e=>up1 _ o D.l1z e) hx λp e d t=>?_);obtain⟨oe,f,h⟩:=t;have H:Zp p z TI TO .ellipsis y:=d _ _ D.i1z.symm j;have v:e≠z:=λq=>by subst q;rw[H] at f;cases f;simp at h
   exact Dj H (by simp) λW _ g=>P W e (λc o i _ u _ q=>g.extBut _ _ i (d _ _ u (up1 _ _ i q))) ⟨oe,g.extBut _ _ v f,h⟩
  | some x =>
   have S:ys[k2]? = none:=by rcases m with q | q;rw[hx] at q;cases q;exact q
   refine Bz (eR (R.at λo e=>up1 _ o D.i1z e) (k.at λo e=>up1 _ o D.l1z e) hx λp j1 d=>BC ?_);have r:IsPair p TO a b:=d.extBut _ _ D.TOi1 (up1 _ _ D.TOz V);refine Bz (CV r rfl (Bz (wpAny_updateSeq_pair r λW a0 g=>?_)));refine Bz (wpAny_letGo (BC (Bz (Bz (wpAny_onRaise ?_)))));show wpAny _ _ (Builtin.SmallTypes.nextOf (.ref I) >>= _) _ _ _;have B:∀c o,c≠z->c≠G->c≠TO->s.heap.get? c=some o->W.get? c=some o:=λc o n1 n2 n3 e=>g.extBut _ _ n3 (d.extBut _ _ n2 (up1 _ _ n1 e));refine Bz (gV O (h2.at λo e=>B _ o D.i2z D.i12.symm D.TOi2.symm e) (J.at λo e=>B _ o D.l2z D.l2i1 D.l2TO e) S λg4 e l t=>?_);obtain⟨oe,f,h⟩:=t;have M:Zp g4 z TI TO .ellipsis y:=l _ _ D.i2z.symm (g.extBut _ _ D.TOz.symm (d.extBut _ _ D.i1z.symm j));have v:e≠z:=λq=>by subst q;rw[M] at f;cases f;simp at h
   exact Dj M (by simp) λg5 _ K=>P g5 e (λc o i c2 u c4 q=>K.extBut _ _ i (l _ _ c4 (B _ _ i u c2 q))) ⟨oe,K.extBut _ _ v f,h⟩
 | false =>
  simp only[Dt,if_false];refine Bz ?_;rw[<- Array.forIn_toList];simp only[Dh,List.forIn_nil];refine Bz (Bz (Ct ?_));show wpAny _ _ (Builtin.SmallTypes.nextOf (.ref G) >>= _) _ _ _;have up1:∀c o,c≠z->s.heap.get? c=some o->F.get? c=some o:=λc o n e=>N.extBut _ _ n e;cases hx:xs[k1]? with
  | none =>
   refine Bz (gV (s:={ s with heap:=F }) O (R.at λo e=>up1 _ o D.i1z e) (k.at λo e=>up1 _ o D.l1z e) hx λp e d t=>?_);exact P p e (λc o i _ u _ q=>d _ _ u (up1 _ _ i q)) t
  | some x =>
   have S:ys[k2]? = none:=by rcases m with q | q;rw[hx] at q;cases q;exact q
   refine Bz (eR (s:={ s with heap:=F }) (R.at λo e=>up1 _ o D.i1z e) (k.at λo e=>up1 _ o D.l1z e) hx λp j1 d=>BC ?_)
   replace d:Heap.SameBut G F p:=d
   refine BC (Bz (Bz (Ct ?_)));show wpAny _ _ (Builtin.SmallTypes.nextOf (.ref I) >>= _) _ _ _;have C:∀c o,c≠z->c≠G->s.heap.get? c=some o->p.get? c=some o:=λc o n1 n2 e=>d.extBut _ _ n2 (up1 _ _ n1 e);refine Bz (gV O (h2.at λo e=>C _ o D.i2z D.i12.symm e) (J.at λo e=>C _ o D.l2z D.l2i1 e) S λg4 e l t=>?_);exact P g4 e (λc o i c2 u c4 q=>l _ _ c4 (C _ _ i u q)) t
end
theorem hW (c:s.TypeIs (.ref z) "zip")
    (h:wpAny (model prog w) A.in1 (Builtin.«zip.__next__» ⟨[.ref z],[]⟩) (λG s'=>∃v,G=.done (.ret v)/\Q (some v) s') (λe s'=>(∃o,s'.heap.get? (match e with | .ref a=>a | _=>0)=some o/\o.cls=.type "StopIteration")/\(∃a,e=.ref a)/\Q none s') s) :
    wpAny (model prog w) A (pyNext (.ref z)) Q E s:=by
 unfold pyNext;refine Bz (wpAny_attempt (wpAny_callSpecial?_slot (name:=Str.ofString "__next__") c F.slot_zip_next (wpAny_call_entry F.slot_zip_next c F.entry_zip_next (CF h (λG s' ⟨v,e,q⟩=>⟨v,e,BC q⟩) λe s' q=>?_) (F.args_zip_next_1 _))));obtain⟨⟨o,f,d⟩,⟨a,rfl⟩,q⟩:=q;exact Bz (wpAny_isInstance (T:="StopIteration") (b:=true) ⟨o,f,d⟩ isSubtype_stop (BC q))
def SqK:Bool->W.Frag->Hp->Addr->LV->Prop
 | true,K,H,a,xs=>SqT K H a xs
 | false,K,H,a,xs=>SqL K H a xs
theorem ItI.obj (j:ItI t h i l k):∃o,h.get? i=some o/\∀v,o.data≠.cell v:=by
 cases t
 ·obtain⟨o,e,_,d⟩:Heap.IsListIter h i l k:=j;exact⟨o,e,λv q=>by rw[d] at q;cases q⟩
 ·obtain⟨o,e,_,d⟩:Heap.IsTupleIter h i l k:=j;exact⟨o,e,λv q=>by rw[d] at q;cases q⟩
theorem Inv.sqK (I:Inv X pins σ H s) (h:SqK t X.K H a xs):∃z:LW,Vals xs z/\SqI t s.heap a z.toArray:=by
 cases t
 ·obtain⟨z,r,p,_⟩:=I.list h;exact⟨z,r,p.isList⟩
 ·obtain⟨z,r,p,_⟩:=I.tuple h;exact⟨z,r,p⟩
theorem Inv.sqK_inj (I:Inv X pins σ H s) (h:SqK t X.K H a xs) (h':SqK t X.K H a ys):xs=ys:=by
 cases t
 ·exact I.list_inj h h'
 ·exact I.tuple_inj h h'
def Itg (t1 t2:Bool) (K:W.Frag) (a b:Addr):It :=
 ⟨λi H=>∃xs ys x y,SqK t1 K H a xs/\SqK t2 K H b ys/\xs[i]? = some x/\ys[i]? = some y,
  λi H v H'=>∃p x y,H p=none/\v=.ref p/\(∀xs,SqK t1 K H a xs->xs[i]? = some x)/\(∀ys,SqK t2 K H b ys->ys[i]? = some y)/\H'=upd H p (.tup [x,y]),
  λi H=>∃xs ys,SqK t1 K H a xs/\SqK t2 K H b ys/\(xs.length<=i∨ys.length<=i)⟩
theorem uq {t1 t2:Bool}{P:Program}{w:World}{K:W.Frag}{nm:Str}{tp:Pos}(a b z TI TO i1 i2:Addr) (D:ZipApart z TI TO i1 i2 a b) :
    Turn P w K (.Name nm tp) (Itg t1 t2 K a b) [z,TI,TO,i1,i2] z (λi h=>(∃f0 f1,F0 f0/\Zp h z TI TO f0 f1)/\IsPair h TI (.ref i1) (.ref i2)/\(∃c d,IsPair h TO c d)/\ItI t1 h i1 a i/\ItI t2 h i2 b i) where
 mem:=by simp
 obj:=λi h st c hc=>by
  obtain⟨⟨f0,f1,_,hz⟩,hTI,⟨u,v,hTO⟩,h1,h2⟩:=st;obtain⟨o1,e1,d1⟩:=h1.obj;obtain⟨o2,e2,d2⟩:=h2.obj;have hc:c=z∨c=TI∨c=TO∨c=i1∨c=i2:=by simpa using hc
  rcases hc with rfl | rfl | rfl | rfl | rfl
  ·exact⟨_,hz,λv q=>by cases q⟩
  ·exact⟨_,hTI,λv q=>by cases q⟩
  ·exact⟨_,hTO,λv q=>by cases q⟩
  ·exact⟨_,e1,d1⟩
  ·exact⟨_,e2,d2⟩
 keep:=λi h h' st k=>by
  obtain⟨⟨f0,f1,hf,hz⟩,hTI,⟨u,v,hTO⟩,h1,h2⟩:=st;exact⟨⟨f0,f1,hf,k z (by simp) _ hz⟩,k TI (by simp) _ hTI,⟨u,v,k TO (by simp) _ hTO⟩,h1.at λo e=>k i1 (by simp) o e,h2.at λo e=>k i2 (by simp) o e⟩
 item := by
  intro X hP hw hK hc i pins s σ H E I hf st hg;subst hP hw hK;obtain⟨⟨f0,f1,hf0,hz⟩,hTI,⟨ta,tb,hTO⟩,h1,h2⟩:=st;obtain⟨xs,ys,x,y,hqa,hqb,hx,hy⟩:=hg;obtain⟨its,rv,pa⟩:=I.sqK hqa;obtain⟨jts,rw',pb⟩:=I.sqK hqb;obtain⟨u,hu,ru⟩:=rv.get hx;obtain⟨v,hv,rv'⟩:=rw'.get hy;refine hW ⟨_,hz,rfl⟩ (vV D hf0 hz hTI hTO h1 h2 pa pb (x:=u) (y:=v) (by simpa using hu) (by simpa using hv) λh' f0' f1' hf' hz' hTO' j1 j2 hpr k=>⟨_,rfl,?_⟩);refine BC (s:={ s with heap:=h' }) ?_;have hp:H s.heap.objs.size=none:=I.hok.fresh (BB _);have fr:∀c∈[z,TI,TO,i1,i2],H c=none:=λc hc=>(hf c hc).1;have nit:∀c o,H c=some o->c≠z/\c≠TO/\c≠i1/\c≠i2:=λc o q=>by refine⟨?_,?_,?_,?_⟩ <;> (intro e;rw[e,fr _ (by simp)] at q;cases q)
  have up:∀c o,H c=some o->upd H s.heap.objs.size (.tup [x,y]) c=some o:=λc o q=>by rw[ah (ao q hp)];exact q
  have kk:∀c o,c∉[z,TO,i1,i2]->s.heap.get? c=some o->h'.get? c=some o:=λc o n q=>k c o (λe=>n (by simp[e])) (λe=>n (by simp[e])) (λe=>n (by simp[e])) (λe=>n (by simp[e])) q;have mem5:∀c∈[z,TO,i1,i2],c∈[z,TI,TO,i1,i2]:=λc hc=>by simp at hc ⊢;rcases hc with e | e | e | e <;> simp[e]
  have hlt:∀c∈[z,TI,TO,i1,i2],c<s.heap.objs.size:=λc hc=>by
   have hc:c=z∨c=TI∨c=TO∨c=i1∨c=i2:=by simpa using hc
   rcases hc with rfl | rfl | rfl | rfl | rfl
   ·exact BK hz
   ·exact BK hTI
   ·exact BK hTO
   ·obtain⟨o,e,_⟩:=h1.obj;exact BK e
   ·obtain⟨o,e,_⟩:=h2.obj;exact BK e
  have I1:Inv X pins σ (upd H s.heap.objs.size (.tup [x, y])) { s with heap := h', gens := s.gens, drawn := s.drawn, toks := s.toks } := by
   refine I.step (g':=s.gens) (d':=s.drawn) (ch:=[z,TO,i1,i2]) (λc hc=>?_) (λc o _ _ n q _=>kk c o n q) (λc o _ _ n q _=>⟨o.slots,kk c o n q⟩) (λc o _ q n=>?_) (λc o n q=>⟨o,kk c o n q⟩) (λc ys q=>up c _ q) (λc o v q=>up c _ q) (λc ps q=>⟨#[],by rw[up c _ q];simp⟩) (λm hm=>?_) (λc o q=>?_) I.bare
   ·obtain⟨_,g1,_,g3,g4,g5⟩:=hf c (mem5 c hc);exact⟨g3,g1,g4,g5⟩
   ·rw[ah (Ca (BK q))];exact n
   ·obtain⟨o,es,ep,ho,r⟩:=hm;refine⟨o,es,ep,kk _ o (λn=>?_) ho,r⟩;exact(hf _ (mem5 _ n)).2.1 rfl
   ·by_cases hb:c=s.heap.objs.size
    ·subst hb;rw[af] at q;have q':HO.tup [x,y]=o:=BD q;subst q';exact⟨by show 2<=sizeLine;decide,[u,v],.cons ru (.cons rv' .nil),⟨_,hpr,rfl,_,rfl,rfl⟩⟩
    ·rw[ah hb] at q;refine(I.hok c o q).stay (λd o' hd q'=>?_) (λd q=>up d _ q) λd ys q=>up d _ q;rcases hd with e | e
     ·rw[e] at q' ⊢;obtain⟨n1,n2,n3,n4⟩:=nit c o q;exact k c o' n1 n2 n3 n4 q'
     ·obtain⟨n1,n2,n3,n4⟩:=nit d _ e;exact k d o' n1 n2 n3 n4 q'
  refine⟨.ref s.heap.objs.size,upd H s.heap.objs.size (.tup [x,y]),I1,rfl,⟨_,x,y,hp,rfl,λzs hz=>by rw[I.sqK_inj hz hqa];exact hx,λzs hz=>by rw[I.sqK_inj hz hqb];exact hy,rfl⟩,⟨⟨f0',f1',hf',hz'⟩,?_,hTO',j1,j2⟩,λc hc=>?_⟩
  ·exact k TI _ D.TIz D.TITO D.TIi1 D.TIi2 hTI
  ·rw[ah (Ca (hlt c hc))];exact fr c hc
 done:=by
  intro X hP hw hK hc i pins s σ H E I hf st hg;subst hP hw hK;obtain⟨⟨f0,f1,hf0,hz⟩,hTI,⟨ta,tb,hTO⟩,h1,h2⟩:=st;obtain⟨xs,ys,hqa,hqb,hxy⟩:=hg;obtain⟨its,rv,pa⟩:=I.sqK hqa;obtain⟨jts,rw',pb⟩:=I.sqK hqb;have l1:=rv.length;have l2:=rw'.length;have hend:its.toArray[i]? = none∨jts.toArray[i]? = none:=by
   rcases hxy with q | q
   ·exact .inl (by simp;omega)
   ·exact .inr (by simp;omega)
  refine hW ⟨_,hz,rfl⟩ (zc (A:=X.A.in1) (show X.A.in1.handled=none from I.ok.hd hc) D hf0 hz hTI hTO h1 h2 pa pb hend λh' e k he=>⟨he,⟨e,rfl⟩,rfl,?_⟩);have fr:∀c∈[z,TI,TO,i1,i2],H c=none:=λc hc=>(hf c hc).1;have nit:∀c o,H c=some o->c≠z/\c≠TO/\c≠i1/\c≠i2:=λc o q=>by refine⟨?_,?_,?_,?_⟩ <;> (intro e;rw[e,fr _ (by simp)] at q;cases q)
  have kk:∀c o,c∉[z,TO,i1,i2]->s.heap.get? c=some o->h'.get? c=some o:=λc o n q=>k c o (λe=>n (by simp[e])) (λe=>n (by simp[e])) (λe=>n (by simp[e])) (λe=>n (by simp[e])) q;have mem5:∀c∈[z,TO,i1,i2],c∈[z,TI,TO,i1,i2]:=λc hc=>by simp at hc ⊢;rcases hc with e | e | e | e <;> simp[e]
  refine I.step (h':=h') (g':=s.gens) (d':=s.drawn) (t':=s.toks) (ch:=[z,TO,i1,i2]) (λc hc=>?_) (λc o _ _ n q _=>kk c o n q) (λc o _ _ n q _=>⟨o.slots,kk c o n q⟩) (λc o _ q n=>n) (λc o n q=>⟨o,kk c o n q⟩) (λc ys q=>q) (λc o v q=>q) (λc ps q=>⟨#[],by rw[q];simp⟩) (λm hm=>?_) (λc o q=>?_) I.bare
  ·obtain⟨_,g1,_,g3,g4,g5⟩:=hf c (mem5 c hc);exact⟨g3,g1,g4,g5⟩
  ·obtain⟨o,es,ep,ho,r⟩:=hm;refine⟨o,es,ep,kk _ o (λn=>?_) ho,r⟩;exact(hf _ (mem5 _ n)).2.1 rfl
  ·refine(I.hok c o q).stay (λd o' hd q'=>?_) (λd q=>q) λd ys q=>q;rcases hd with e | e
   ·rw[e] at q' ⊢;obtain⟨n1,n2,n3,n4⟩:=nit c o q;exact k c o' n1 n2 n3 n4 q'
   ·obtain⟨n1,n2,n3,n4⟩:=nit d _ e;exact k d o' n1 n2 n3 n4 q'
 self:=λA i s Q E st h=>by
  obtain⟨⟨f0,f1,hf0,hz⟩,_⟩:=st;have hT:s.TypeIs (.ref z) "zip":=⟨_,hz,rfl⟩
  refine wpAny_pyIter_slot hT F.slot_zip_iter (wpAny_call_entry F.slot_zip_iter hT F.entry_zip_iter ?_ (F.args_zip_iter_1 _));show wpAny _ _ (ret (.ref z)) _ _ s;exact BC ⟨_,rfl,"zip",_,hT,F.slot_zip_next.lookup,h⟩
def Itz (K:W.Frag) (a b:Addr):It :=
 ⟨λi H=>∃xs ys x y,SqL K H a xs/\SqL K H b ys/\xs[i]? = some x/\ys[i]? = some y,
  λi H v H'=>∃p x y,H p=none/\v=.ref p/\(∀xs,SqL K H a xs->xs[i]? = some x)/\(∀ys,SqL K H b ys->ys[i]? = some y)/\H'=upd H p (.tup [x,y]),
  λi H=>∃xs ys,SqL K H a xs/\SqL K H b ys/\(xs.length<=i∨ys.length<=i)⟩
theorem wm {P:Program}{w:World}{K:W.Frag}{nm:Str}{tp:Pos}(a b z TI TO f e:Addr) (D:ZipApart z TI TO f e a b) :
    Turn P w K (.Name nm tp) (Itz K a b) [z,TI,TO,f,e] z (λi h=>(∃G I,F0 G/\Zp h z TI TO G I)/\IsPair h TI (.ref f) (.ref e)/\(∃c d,IsPair h TO c d)/\h.IsListIter f a i/\h.IsListIter e b i) :=
 uq (t1:=false) (t2:=false) a b z TI TO f e D
def iZip (K:W.Frag) (ta:TA):TI:=λσ H R=>ta σ H λvs H1=>∃a b xs ys,vs=[.ref a,.ref b]/\SqL K H1 a xs/\SqL K H1 b ys/\R (Itz K a b) H1
theorem zT (K:W.Frag) {X:Cx}{nm:Str}{tp:Pos}{a b:Expr}{ta:TA}{p pos:Pos}(M:Gl X "zip") (N:X.mg "zip"=none) (J:PA X [a,b] ta) (U:starEach [a,b] X.env=(false,eval a X.env)::starEach [b] X.env:=by rfl) (hpl:(backTo pos (starEach [b] X.env)).any (·.1)=false:=by rfl) (G:X.K=K:=by rfl) :
    PI X (.Name nm tp) (.Call (.Name "zip" p) [a,b] [] pos) (iZip K ta):=by
 subst G;intro i s D H R I h;refine Call_ (gy I M N (show bootBuiltins "zip"=some (.type "zip") by decide +kernel) (PyProof.Rows.callWith_type1 (thn (J pos i s D H _ I h) λus f ⟨vs,Z,j,v,V⟩=>?_) U hpl));obtain⟨x,r,xs,ys,e,u,n,q⟩:=V;subst e;obtain⟨u1,u2,rfl,v,Y⟩:=gT v;cases v;cases Y;obtain⟨C,rv,z,_⟩:=j.list u;obtain⟨F,O,A,_⟩:=j.list n;have L:x<f.heap.objs.size:=by obtain⟨_,e,_⟩:=z.isList;exact BK e
 have E:r<f.heap.objs.size:=by obtain⟨_,e,_⟩:=A.isList;exact BK e
 refine call_zip_2 z.isList A.isList λg Q t m l o _ S=>?_;have T:=wm (P:=X.prog) (w:=X.w) (K:=X.K) (nm:=nm) (tp:=tp) x r _ _ _ _ _ (zipApart_new L E);have B:(∃f0 f1,F0 f0/\Zp g (f.heap.objs.size+4) (f.heap.objs.size+2) (f.heap.objs.size+3) f0 f1)/\IsPair g (f.heap.objs.size+2) (.ref f.heap.objs.size) (.ref (f.heap.objs.size+1))/\(∃c d,IsPair g (f.heap.objs.size+3) c d)/\g.IsListIter f.heap.objs.size x 0/\g.IsListIter (f.heap.objs.size+1) r 0:=⟨⟨_,_,.inl rfl,Q⟩,t,⟨_,_,m⟩,l,o⟩
 refine T.self X.A 0 { f with heap:=g } _ _ B ?_;refine⟨_,_,_,_,Z,rfl,j.kept (t':=f.toks) S,T,B,λb y=>?_,q⟩;have y:b=f.heap.objs.size+4∨b=f.heap.objs.size+2∨b=f.heap.objs.size+3∨b=f.heap.objs.size∨b=f.heap.objs.size+1:=by simpa using y
 have k:f.heap.objs.size<=b:=by rcases y with e | e | e | e | e <;> rw[e] <;> first | exact BB _ | exact Nat.le_add_right _ _
 exact j.fpOk k (j.hok.fresh k)
inductive Thg (H:Hp):V->Prop
 | non:Thg H .non
 | bl (b:Bool):Thg H (.bl b)
 | int (i:Int):Thg H (.int i)
 | str {z:Str}:z.length<=sizeLine->Thg H (.str z)
 | lst {a:Addr} {xs:LV}:H a=some (.lst xs)->Thg H (.ref a)
 | tup {a:Addr} {xs:LV}:H a=some (.tup xs)->Thg H (.ref a)
 | dK {a:Addr} {kvs:List (Key × V)}:H a=some (.dK kvs)->Thg H (.ref a)
 | dT {a:Addr} {kvs:List (List Key × V)}:H a=some (.dT kvs)->Thg H (.ref a)
theorem Thg.same (h:Thg H x) (s:Same H H'):Thg H' x:=by
 cases h with
 | non=>exact .non
 | bl b=>exact .bl b
 | int i=>exact .int i
 | str z=>exact .str z
 | lst e=>exact .lst (s _ _ e)
 | tup e=>exact .tup (s _ _ e)
 | dK e=>exact .dK (s _ _ e)
 | dT e=>exact .dT (s _ _ e)
def isS:V->Bool
 | .str _=>true
 | _=>false
def isI:V->Bool
 | .int _ | .bl _=>true
 | _=>false
def isB:V->Bool
 | .bl _=>true
 | _=>false
def isL (H:Hp):V->Bool
 | .ref a=>match H a with
  | some (.lst _)=>true
  | _=>false
 | _=>false
def isT (H:Hp):V->Bool
 | .ref a=>match H a with
  | some (.tup _)=>true
  | _=>false
 | _=>false
theorem pd (e:H a=some (.lst xs)):isL H (.ref a)=true:=by show (match H a with | some (.lst _)=>true | _=>false)=true;rw[e]
theorem tQ (e:H a=some (.tup xs)):isT H (.ref a)=true:=by show (match H a with | some (.tup _)=>true | _=>false)=true;rw[e]
theorem lE (h:isL H x=true):∃a xs,x=.ref a/\H a=some (.lst xs):=by
 cases x with
 | ref a =>
  have h:(match H a with | some (.lst _)=>true | _=>false)=true:=h
  split at h
  ·rename_i xs e;exact⟨a,xs,rfl,e⟩
  ·cases h
 | _=>cases h
theorem lJ (e:H a=some o) (n:∀xs,o≠.lst xs):isL H (.ref a)=false:=by
 show (match H a with | some (.lst _)=>true | _=>false)=false;rw[e];split
 ·rename_i xs q;exact absurd (BD q) (n xs)
 ·rfl
theorem ll (e:H a=some o) (n:∀xs,o≠.tup xs):isT H (.ref a)=false:=by
 show (match H a with | some (.tup _)=>true | _=>false)=false;rw[e];split
 ·rename_i xs q;exact absurd (BD q) (n xs)
 ·rfl
theorem ki {K:W.Frag}{H:Hp}{x:V}(h:Thg H x):∃t,TyOf K H x t/\W.kitOne K t (.type "str")=some (isS x)/\W.kitOne K t (.type "int")=some (isI x)/\W.kitOne K t (.type "bool")=some (isB x) /\
    W.kitOne K t (.type "list")=some (isL H x)/\W.kitOne K t (.type "tuple")=some (isT H x):=by
 cases h with
 | non=>exact⟨_,.non,by rfl,by rfl,by rfl,by rfl,by rfl⟩
 | bl b=>exact⟨_,.bl b,by rfl,by rfl,by rfl,by rfl,by rfl⟩
 | int i=>exact⟨_,.int i,by rfl,by rfl,by rfl,by rfl,by rfl⟩
 | str z=>exact⟨_,.str _,by rfl,by rfl,by rfl,by rfl,by rfl⟩
 | lst e=>exact⟨_,.lst e,by rfl,by rfl,by rfl,by rw[pd e];rfl,by rw[ll e (λ_ z=>by cases z)];rfl⟩
 | tup e=>exact⟨_,.tup e,by rfl,by rfl,by rfl,by rw[lJ e (λ_ z=>by cases z)];rfl,by rw[tQ e];rfl⟩
 | dK e=>exact⟨_,.dK e,by rfl,by rfl,by rfl,by rw[lJ e (λ_ z=>by cases z)];rfl,by rw[ll e (λ_ z=>by cases z)];rfl⟩
 | dT e=>exact⟨_,.dT e,by rfl,by rfl,by rfl,by rw[lJ e (λ_ z=>by cases z)];rfl,by rw[ll e (λ_ z=>by cases z)];rfl⟩
def cY (c:Nat):Bool:=decide (97<=c)&&decide (c<=122)
def iS:V->Bool
 | .str z=>decide (1<=z.length)&&(decide (z.length<=8)&&z.cps.toList.all cY)
 | _=>false
theorem isNm_iff:iS (.str z)=true ↔ Nm z:=by
 show (decide (1<=z.length)&&(decide (z.length<=8)&&z.cps.toList.all cY))=true ↔ _;rw[Co,Co,decide_eq_true_iff,decide_eq_true_iff,CD];unfold Nm
 constructor
 ·rintro⟨d,b,e⟩;refine⟨d,b,λc a=>?_⟩;have h:=e c a;unfold cY at h;rw[Co,decide_eq_true_iff,decide_eq_true_iff] at h;exact h
 ·rintro⟨d,b,e⟩;refine⟨d,b,λc a=>?_⟩;unfold cY;rw[Co,decide_eq_true_iff,decide_eq_true_iff];exact e c a
theorem uJ (c d:Nat):decide ([c]<[d])=decide (c<d):=by
 by_cases h:c<d
 ·rw[BI h];exact BI (List.Lex.rel h)
 ·rw[BL h];refine BL λz=>?_;cases z with
  | rel z=>exact h z
  | cons z=>cases z
def fh:Sp:=λvs H Q _=>∃x,vs=[x]/\Thg H x/\∀H',Same H H'->Q (.bl (iS x)) H'
def pK (e:Str × Str):List Key:=[.inr e.1,.inr e.2]
theorem uC (h:pK e=pK f):e=f:=by
 unfold pK at h;have a:=List.cons.inj h;have b:=List.cons.inj a.2;exact Prod.ext (Sum.inr.inj a.1) (Sum.inr.inj b.1)
inductive PlR (H:Hp):V -> VK -> Prop
 | nm {a:Addr} {xs:LS} {Q:VK}:(H a=some (.lst (List.map V.str xs))∨H a=some (.tup (List.map V.str xs)))->xs.length<=1000 ->
     (∀d kvs H',Same H H'->H d=none->H' d=some (.dK kvs)->(∀s,(aI kvs (.inr s)).isSome=true ↔ s∈xs)->(∀s v,aI kvs (.inr s)=some v->∃j:Nat,v=.int j/\xs[j]? = some s)->(kvs.map (·.1)).Nodup->(∀k∈kvs.map (·.1),∃s∈xs,k=Sum.inr s)->Q (.ref d) H')->PlR H (.ref a) Q
 | pr {a:Addr} {refs:LV} {ps:List (Str × Str)} {Q:VK}:(H a=some (.lst refs)∨H a=some (.tup refs))->RepAll H refs (ps.map aG)->ps.length<=1000 ->
     (∀d kvs H',Same H H'->H d=none->H' d=some (.dT kvs)->(∀e:Str × Str,(aI kvs (pK e)).isSome=true ↔ e∈ps)->Q (.ref d) H')->PlR H (.ref a) Q
def iW:Sp:=λvs H Q _=>∃x,vs=[x]/\PlR H x Q
section
variable {X:Cx}{p pos p2 pos2:Pos}{e f:Expr}{t:TA}
inductive IntR (H:Hp):V->VK->Prop
 | int {i:Int} {Q:VK}:Q (.int i) H->IntR H (.int i) Q
 | bl {b:Bool} {Q:VK}:Q (.int (if b then 1 else 0)) H->IntR H (.bl b) Q
theorem xo (B:Blt X.mg) (f:PA X [e] t) (d:Gl X "int":=by rfl) (he:starEach [e] X.env=(false,eval e X.env)::starEach [] X.env:=by rfl) (hpl:(backTo pos (starEach [] X.env)).any (·.1)=false:=by rfl) :
    PE X (.Call (.Name "int" p) [e] [] pos) (tCB (λxs H Q=>∃x,xs=[x]/\IntR H x Q) t):=by
 refine fu (r:=λxs H Q=>∃x,xs=[x]/\IntR H x Q) (λa s c H xs b Q I r h=>?_) d B.int PyProof.Rows.boot_int f (by decide) (by decide) he hpl;obtain⟨x,rfl,h⟩:=h;cases h with
 | int q=>exact lS a s c H _ b Q I r (.inl ⟨_,rfl,q⟩)
 | bl q=>exact lS a s c H _ b Q I r (.inr ⟨_,rfl,q⟩)
theorem fO (B:Blt X.mg) (a:Gl X "tuple":=by rfl):PE X (.Name "tuple" p) (tC (.ty "tuple")):=hF a B.tuple (show bootBuiltins "tuple"=some (.type "tuple") by decide +kernel) rfl
def xB (K:W.Frag) (c d:String):LV->Hp->VK->Prop:=λxs H Q=>∃x a t b,xs=[x,.ref a]/\H a=some (.tup [.ty c,.ty d])/\TyOf K H x t/\W.kitAny K t [.type c,.type d]=some b/\Q (.bl b) H
theorem rE {pins:List (Addr × Obj)}{σ:St}{H:Hp}{s:Shared}{A:Around}{E:Value->Shared->Prop}{Q:Value->Shared->Prop}{x:V}{u t:Value}{tp:Addr}{dd:Option Addr}{G:LW}{n:Nat}{U:Array (Option Value)}{b:Bool}
    (I:Inv X pins σ H s) (d:RelV x u) (m:TyOf X.K H x t) (c:s.heap.get? tp=some ⟨.type "tuple",dd,.seq G.toArray n,U⟩) (e:W.kitAny X.K t G=some b) (h:∀tk,Q (.bool b) { s with toks:=tk }) :
    wpAny (model X.prog X.w) A (call (.builtin "isinstance") [u,.ref tp]) Q E s:=by
 cases m with
 | non=>cases (show u=Value.none from d);exact W.kia_tup W.kitx_none I.kIn True.intro c e (λz=>nomatch z) h
 | bl y=>cases (show u=Value.bool y from d);exact W.kia_tup W.kitx_bool I.kIn True.intro c e (λz=>nomatch z) h
 | int i=>obtain⟨t,q⟩:=(show ∃t,u=Value.int i t from d);cases q;exact W.kia_tup W.kitx_int I.kIn True.intro c e (λz=>nomatch z) h
 | str y=>obtain⟨t,q⟩:=(show ∃t,u=Value.str y t from d);cases q;exact W.kia_tup W.kitx_str I.kIn True.intro c e (λz=>nomatch z) h
 | flt y=>obtain⟨t,q⟩:=(show ∃t,u=Value.float y t from d);cases q;exact W.kia_tup W.kitx_float I.kIn True.intro c e (λz=>nomatch z) h
 | @lst a g ea =>
  cases (show u=Value.ref a from d);obtain⟨_,_,n,_,f⟩:=(show ObjOk X.prog X.w H s.heap a (.lst g) from I.hok a _ ea)
  exact W.kia_tup W.kitx_list I.kIn ⟨_,f,rfl⟩ c e (λz=>nomatch z) h
 | @frz a ob g ea =>
  cases (show u=Value.ref a from d);obtain⟨_,_,_,n,_,f⟩:=(show ObjOk X.prog X.w H s.heap a (.frz ob (.lst g)) from I.hok a _ ea)
  exact W.kia_tup W.kitx_list I.kIn ⟨_,f,rfl⟩ c e (λz=>nomatch z) h
 | @tup a g ea =>
  cases (show u=Value.ref a from d);obtain⟨_,_,_,p⟩:=(show ObjOk X.prog X.w H s.heap a (.tup g) from I.hok a _ ea)
  obtain⟨o,f,j,_⟩:=p;exact W.kia_tup W.kitx_tuple I.kIn ⟨o,f,j⟩ c e (λz=>nomatch z) h
 | @dK a kvs ea =>
  cases (show u=Value.ref a from d);obtain⟨_,_,v,_,p⟩:=(show ObjOk X.prog X.w H s.heap a (.dK kvs) from I.hok a _ ea)
  obtain⟨o,l,k,f,j,_⟩:=p;exact W.kia_tup W.kitx_dict I.kIn ⟨o,f,j.1⟩ c e (λz=>nomatch z) h
 | @dT a kvs ea =>
  cases (show u=Value.ref a from d);obtain⟨_,_,g,_,o,l,k,f,j,_⟩:=(show ObjOk X.prog X.w H s.heap a (.dT kvs) from I.hok a _ ea)
  exact W.kia_tup W.kitx_dict I.kIn ⟨o,f,j.1⟩ c e (λz=>nomatch z) h
 | @ins a C dx fs ea cl ha hn htk hm =>
  cases (show u=Value.ref a from d);obtain⟨w,O,_⟩:=pR I.hok ea;obtain⟨r,J,_⟩:=O.look;exact W.kia_tup (W.kitx_own (cl.get _) cl.hd ha hn htk hm) I.kIn J c e (λz=>nomatch z) h
theorem tR (c d:String):dJ X (.builtin "isinstance") (xB X.K c d):=by
 intro l s E H J D Q I r h;obtain⟨x,a,t,b,rfl,w,o,e,q⟩:=h;obtain⟨u,L,rfl,p,k⟩:=gT r;cases k;obtain⟨_,f,m,⟨v,G,j,C⟩,y,i,n,g,_⟩:=(show ObjOk X.prog X.w H s.heap a (.tup [.ty c,.ty d]) from I.hok a _ w)
 have i:v=.type "tuple":=i;have g:j=.seq f.toArray n:=g;subst i g;obtain⟨F,K,rfl,z,B⟩:=gT m;cases z;cases B;exact rE I p o y e λA=>⟨.bl b,H,I.tok A,rfl,q⟩
theorem zQ (K:W.Frag) (c d:String) (B:Blt X.mg) (g:PA X [e,f] t) (a:Gl X "isinstance":=by rfl) (he:starEach [e,f] X.env=(false,eval e X.env)::starEach [f] X.env:=by rfl) (hpl:(backTo pos (starEach [f] X.env)).any (·.1)=false:=by rfl) (b:X.K=K:=by rfl):PE X (.Call (.Name "isinstance" p) [e,f] [] pos) (tCB (xB K c d) t) :=
 b ▸ dL (tR c d) a B.isinstance boot_isinstance g (by decide) (by decide) he hpl
end
section
variable {X:Cx}{p pos:Pos}{e:Expr}{t:TA}
def Bk:LV->Hp->VK->Prop:=λxs H Q=>∃a kvs,xs=[V.ref a]/\H a=some (.dK kvs)/\Q (.int kvs.length) H
theorem uZ (B:Blt X.mg) (a:PA X [e] t) (b:Gl X "len":=by rfl) (he:starEach [e] X.env=(false,eval e X.env)::starEach [] X.env:=by rfl) (hpl:(backTo pos (starEach [] X.env)).any (·.1)=false:=by rfl):PE X (.Call (.Name "len" p) [e] [] pos) (tCB Bk t) :=
 dL ut b B.len PySem.boot_len a (by decide) (by decide) he hpl
end
theorem nU [DecidableEq α]:∀ {l:List α}, ¬ l.Nodup -> ∃l1 a l2, l=l1 ++ a :: l2 /\ a ∈ l2
 | [],h=>absurd CC h
 | x::l,h=>by
  by_cases q:x∈l
  ·exact⟨[],x,l,rfl,q⟩
  ·have h:¬ l.Nodup:=λz=>h (Cd.mpr ⟨q,z⟩);obtain⟨l1,a,l2,e,m⟩:=nU h;exact⟨x::l1,a,l2,by rw[e];rfl,m⟩
theorem vO {α:Type} [DecidableEq α] {ks ws:List α}(c:ks.Nodup) (b:∀k ∈ ks, k ∈ ws) (f:∀w ∈ ws, w ∈ ks):ks.length=ws.length ↔ ws.Nodup := by
 constructor
 ·intro l;refine Classical.byContradiction λh=>?_;obtain⟨j,a,g,e,m⟩:=nU h;have:=c.length_le_of_subset (l₂:=j++g) λk i=>by
   have:=b k i;rw[e] at this;rcases BR.mp this with q | q
   ·exact CH _ q
   ·rcases BH.mp q with q | q
    ·rw[q];exact Cy _ m
    ·exact Cy _ q
  rw[l,e,BJ,BJ,BN] at this;omega
 ·intro d;exact Nat.le_antisymm (c.length_le_of_subset b) (d.length_le_of_subset f)
theorem qf {kvs:List (Key × V)}{ws:LS}(g:(kvs.map (·.1)).Nodup) (ks:∀k ∈ kvs.map (·.1), ∃s ∈ ws, k=Sum.inr s) (c:∀s, (aI kvs (.inr s)).isSome=true ↔ s ∈ ws):kvs.length=ws.length ↔ ws.Nodup := by
 have h:=vO (ks:=kvs.map (·.1)) (ws:=ws.map (Sum.inr:Str->Key)) g (λk d=>by
     obtain⟨s,f,rfl⟩:=ks k d;exact BE.mpr ⟨s,f,rfl⟩) (λk d=>by
     obtain⟨s,f,rfl⟩:=BE.mp d;obtain⟨v,i⟩:=CT.mp ((c s).mpr f);exact yz i)
 rw[BA,BA] at h;rw[h]
 constructor
 ·intro q;exact List.Pairwise.of_map (Sum.inr:Str->Key) (λa b n e=>n (by rw[e])) q
 ·intro q;exact List.Pairwise.map _ (λa b n e=>n (Sum.inr.inj e)) q
def eo (ss:LS):V->Bool
 | .str s=>decide (s∈ss)
 | _=>false
def rT (H:Hp) (ss:LS):V->Bool
 | .ref a=>match H a with
  | some (.lst xs)=>xs.all (eo ss)
  | _=>false
 | _=>false
theorem jG (e:H a=some (.lst xs)):rT H ss (.ref a)=xs.all (eo ss):=by
 show (match H a with | some (.lst xs)=>xs.all (eo ss) | _=>false)=_;rw[e]
theorem nN (h:isL H x=false):rT H ss x=false:=by
 cases x with
 | ref a =>
  show (match H a with | some (.lst xs)=>xs.all (eo ss) | _=>false)=false
  split
  ·rename_i xs e;rw[pd e] at h;cases h
  ·rfl
 | _=>rfl
theorem nO:∀ {xs:LV}, xs.all (eo ss)=true -> ∃ws, xs=List.map V.str ws /\ ∀w ∈ ws, w ∈ ss
 | [],_=>⟨[],rfl,λw hw=>by cases hw⟩
 | x::xs,h=>by
  rw[List.all_cons,Co] at h;obtain⟨ws,e,m⟩:=nO h.2;cases x with
  | str s =>
   have hs:s∈ss:=BX h.1;refine⟨s::ws,by rw[e];rfl,λw hw=>?_⟩;rcases BH.mp hw with q | q
   ·rw[q];exact hs
   ·exact m w q
  | _=>exact absurd h.1 (by simp[eo])
end L2
namespace L2
open PySem PySem.Spec PyProof.Rows PySem.Builtin PySem.Builtin.Str
theorem xZ (i j n:Nat):(strSliceIndices (some (i:Int)) (some (j:Int)) 1 n).length<=j-i:=by
 unfold strSliceIndices sliceRange;simp only[show (1:Int) > 0 by decide,if_true,BA,CO]
 split <;> (try simp only[Int.ediv_one]) <;> (repeat' split) <;> (try simp only[BA,CO,Int.ediv_one,Df]) <;> omega
theorem iK (z:Str) (i j:Nat):(Txt.slice z (some (i:Int)) (some (j:Int))).length<=j-i:=by
 unfold Txt.slice;have h:=xZ i j z.length
 split
 ·rename_i q
  have q:(strSliceIndices (some (i:Int)) (some (j:Int)) 1 z.length).length=z.length:=by simpa using q
  omega
 ·show (List.filterMap _ _).toArray.size<=_;rw[BY];exact BP (List.length_filterMap_le _ _) h
theorem gJ {z:Str}{j:Nat}(h:j<=z.length):(Txt.slice z none (some (j:Int))).length=j:=by
 have e:Txt.slice z none (some (j:Int))=StrLaws.sliceText z none (some (j:Int)):=rfl;rw[e,StrLaws.sliceText_to ⟨by omega,by simp[Str.length] at h ⊢;omega⟩];show (List.take _ _).toArray.size=j;rw[BY];simp[Str.length] at h ⊢;omega
theorem lT (z:Str) (j:Nat):(Txt.slice z none (some (j:Int))).length<=j:=by
 by_cases h:j<=z.length
 ·exact Nat.le_of_eq (gJ h)
 ·exact BP (Txt.slice_le z _ _) (by omega)
theorem x3 (h:(x++⟨#[c]⟩++y:Str)=x++⟨#[d]⟩++y):c=d:=by
 have h:(x.cps++#[c]++y.cps).toList=(x.cps++#[d]++y.cps).toList:=congrArg (λs:Str=>s.cps.toList) h;simp only[Array.toList_append,Cp,List.append_cancel_left_eq] at h;simpa using h
theorem vv (h:(x++⟨#[c]⟩++⟨#[d]⟩++y:Str)=x++⟨#[z]⟩++⟨#[d']⟩++y):c=z/\d=d':=by
 have h:(x.cps++#[c]++#[d]++y.cps).toList=(x.cps++#[z]++#[d']++y.cps).toList:=congrArg (λs:Str=>s.cps.toList) h;simp only[Array.toList_append,Cp,List.append_cancel_left_eq] at h;simpa using h
def Lo (t:Str):Prop:=∀x∈t.cps.toList,97<=x/\x<=122
theorem Lo.nil:Lo "":=λc a=>by
 have a:c∈("":Str).cps.toList:=a;rw[show ("":Str).cps.toList=[] by decide +kernel] at a;cases a
theorem Lo.one (h:97<=c/\c<=122):Lo ⟨#[c]⟩:=λd hd=>by
 have:d=c:=by simpa using hd
 omega
theorem Lo.app (d:Lo x) (b:Lo y):Lo (x++y):=λc a=>by
 have a:c∈(x.cps++y.cps).toList:=a;rw[Array.toList_append] at a;rcases BR.mp a with h | h
 ·exact d c h
 ·exact b c h
theorem Lo.slice (h:Lo x) (l u:Option Int):Lo (Txt.slice x l u):=by
 unfold Txt.slice
 split
 ·exact h
 ·intro c a;have a:c∈(List.filterMap (x.cps[·]?) (strSliceIndices l u 1 x.length)).toArray.toList:=a;rw[List.toList_toArray] at a;obtain⟨i,_,e⟩:=Da.mp a;exact h c (by simpa using Array.mem_of_getElem? e)
theorem Lo.joinS (hs:Lo sep):∀ {ys:LS},(∀y∈ys,Lo y)->Lo (Str.join sep ys)
 | [],_=>λc hc=>by
  have hc:c∈(#[]:Array Nat).toList:=hc;simp at hc
 | [y],h=>h y (by simp)
 | y::z::r,h=>by
  show Lo (y++sep++Str.join sep (z::r));exact((h y (by simp)).app hs).app (Lo.joinS hs λx hx=>h x (BQ _ hx))
theorem Lo.join (a:Lo z) (h:∀y∈ys,Lo y):Lo (Txt.join z ys):=by
 unfold Txt.join;rw[StrLaws.glued_eq_join];exact Lo.joinS a h
theorem Lo.nm (h:Lo z) (b:1<=z.length) (a:z.length<=8):Nm z:=⟨b,a,h⟩
def abc (j:Int):Str:=⟨#[97+j.toNat]⟩
theorem jX (a:0<=j) (b:j<26):Lo (abc j):=Lo.one (by omega)
theorem dQ (j:Int):(abc j).length=1:=rfl
theorem oS (b:0<=j) (c:j<26):atI ("abcdefghijklmnopqrstuvwxyz":Str).cps.toList j=some (97+j.toNat):=by
 obtain⟨k,rfl⟩:=Cc b;have a:k<26:=by omega
 exact(by decide +kernel:∀k:Nat,k<26->atI ("abcdefghijklmnopqrstuvwxyz":Str).cps.toList (k:Int)=some (97+(k:Int).toNat)) k a
theorem wK (h:∀y∈ys,y.length=1):(Txt.join "" ys).length=ys.length:=by
 have b:("":Str).length=0:=by decide +kernel
 unfold Txt.join;rw[size_glued,b,Nat.mul_zero,Nat.add_zero]
 induction ys with
 | nil=>rfl
 | cons y r ih =>
  have d:=h y (by simp);have c:=ih λz a=>h z (BQ _ a);simp only[BZ,List.sum_cons,BN];omega
theorem iu (f:Nat->α) (m:Nat) (h:∀i j,i<j->j<m->f i≠f j):((List.range m).map f).Nodup:=by
 rw[List.nodup_iff_pairwise_ne,List.pairwise_map];refine List.Pairwise.imp_of_mem ?_ (List.pairwise_lt_range (n:=m));intro a b e d c;exact h a b c (List.mem_range.mp d)
theorem fE (f:Nat->α) (i:Nat):(List.range (i+1)).map f=(List.range i).map f++[f i]:=by rw[List.range_succ,BO];rfl
theorem jU (h:x∈(List.range m).map f):∃i,i<m/\x=f i:=by
 obtain⟨i,a,e⟩:=BE.mp h;exact⟨i,List.mem_range.mp a,e.symm⟩
theorem wY (ws:LS) (c:ws.Nodup) (a:i<ws.length) (b:j<ws.length) (h:ws.getD i ""=ws.getD j ""):i=j:=by
 rw[Cs,Cs,BV a,BV b] at h;exact(List.getElem_inj c).mp h
theorem bJ:starEach (.Constant c j p::es) env=(false,eval (.Constant c j p) env)::starEach es env:=rfl
end L2
namespace L2
open PySem PySem.Spec PyProof.Rows
def SqA (H:Hp) (a:Addr) (xs:LV):Prop:=H a=some (.lst xs)∨H a=some (.tup xs)
theorem SqA.same (h:SqA H a xs) (s:Same H H'):SqA H' a xs:=by
 rcases h with h | h
 ·exact .inl (s _ _ h)
 ·exact .inr (s _ _ h)
theorem SqA.len {K:W.Frag}{H:Hp}{a:Addr}{xs:LV}(h:SqA H a xs):vf K (.ref a) H xs.length:=by
 rcases h with h | h
 ·exact .inl ⟨xs,.of h,rfl⟩
 ·exact .inr ⟨xs,.of h,rfl⟩
section
variable {X:Cx}{p pos p2 pos2:Pos}{e f:Expr}{t:TA}
inductive TupR (K:W.Frag) (H:Hp):V->VK->Prop
 | lst {a:Addr} {ys:LV} {Q:VK}:SqL K H a ys->(∀l,H l=none->Q (.ref l) (upd H l (.tup ys)))->TupR K H (.ref a) Q
 | tup {a:Addr} {ys:LV} {Q:VK}:SqT K H a ys->Q (.ref a) H->TupR K H (.ref a) Q
theorem zF (K:W.Frag) (B:Blt X.mg) (g:PA X [e] t) (d:Gl X "tuple":=by rfl) (he:starEach [e] X.env=(false,eval e X.env)::starEach [] X.env:=by rfl) (hpl:(backTo pos (starEach [] X.env)).any (·.1)=false:=by rfl) (f:X.K=K:=by rfl) :
    PE X (.Call (.Name "tuple" p) [e] [] pos) (tCB (λxs H Q=>∃x,xs=[x]/\TupR K H x Q) t):=by
 subst f;refine fu (r:=λxs H Q=>∃x,xs=[x]/\TupR X.K H x Q) (λa s c H xs b Q I r h=>?_) d B.tuple (show bootBuiltins "tuple"=some (.type "tuple") by decide +kernel) g (by decide) (by decide) he hpl;obtain⟨x,rfl,h⟩:=h;cases h with
 | lst h1 q=>exact gj a s c H _ b Q I r ⟨_,_,rfl,.inl ⟨h1,q⟩⟩
 | tup h1 q=>exact gj a s c H _ b Q I r ⟨_,_,rfl,.inr ⟨h1,q⟩⟩
end
theorem iM:∀ds:List PyData,PyData.shownAll ds=ds.map PyData.shown
 | []=>rfl
 | d::ds=>by
  show PyData.shown d::PyData.shownAll ds=_;rw[iM ds];rfl
structure Sw (d:PyData) (n k:Nat):Prop where
 lay:d.canLay0=true
 sb:d.showable=true
 dp:d.depth<=k
 ln:d.shown.length<=n
theorem Sw.mono (h:Sw d n k) (b:n<=z) (a:k<=G):Sw d z G:=⟨h.lay,h.sb,BP h.dp a,BP h.ln b⟩
theorem Sw.all:∀ {ds:List PyData}, (∀d ∈ ds, Sw d n k) -> PyData.canLayAll0 ds=true /\ PyData.showableAll ds=true /\ PyData.depthAll ds <= k
 | [],_=>⟨rfl,rfl,Cg _⟩
 | d::ds,h=>by
  obtain⟨a,b,c⟩:=Sw.all λx hx=>h x (BQ _ hx);have q:=h d (by simp);refine⟨?_,?_,?_⟩
  ·show (PyData.canLay0 d&&PyData.canLayAll0 ds)=true;rw[q.lay,a];rfl
  ·show (PyData.showable d&&PyData.showableAll ds)=true;rw[q.sb,b];rfl
  ·show max (PyData.depth d) (PyData.depthAll ds)<=k;have:=q.dp;omega
theorem Sw.shw (h:Sw d n k) (b:k<=16) (c:n<=sizeLine):Shw d:=by
 have a:shp d:=by
  show (PyData.canLay0 d&&decide (PyData.depth d<=64))=true;have:=h.dp;rw[h.lay,BI (by omega)];rfl
 exact⟨a,h.sb,PyData.hasDict_of_canLay _ (SeqAt.canLay_of_shaped a),BP h.dp b,BP h.ln c⟩
theorem Sw.nm (h:Nm s):Sw (.str s) 82 0:=⟨fZ h,rfl,BB 0,h.repr⟩
theorem join_le:∀(ts:LS),(∀t∈ts,t.length<=n)->(Str.join ", " ts).length<=ts.length * (n+2)
 | [],_=>Cg _
 | [y],h=>by
  have:=h y (by simp);show y.length<=1 * (n+2);omega
 | y::z::r,h=>by
  have h1:=join_le (z::r) λt ht=>h t (BQ _ ht);have h2:=h y (by simp);have h3:(Str.ofString ", ").length=2:=rfl;show (y++", "++Str.join ", " (z::r)).length<=((z::r).length+1) * (n+2);rw[bL,bL,Nat.succ_mul];show y.length+(Str.ofString ", ").length+_<=_;omega
theorem Sw.tuple (h:∀d∈ds,Sw d n k):Sw (.tuple ds) (3+ds.length * (n+2)) (k+1):=by
 obtain⟨a,b,c⟩:=Sw.all h;refine⟨a,b,(by show PyData.depthAll ds+1<=k+1;omega),?_⟩;show (tupleText (PyData.shownAll ds)).length<=_;rw[iM];have i:=join_le (n:=n) (ds.map PyData.shown) λt g=>by
  obtain⟨e,f,rfl⟩:=BE.mp g;exact(h e f).ln
 rw[BA] at i;have m:(Str.ofString "(").length=1:=rfl;have j:∀b:Bool,(Str.ofString (if b then ",)" else ")":String)).length<=2:=by intro b;cases b <;> decide
 show (("(":Str)++Str.join ", " (ds.map PyData.shown)++(if (ds.map PyData.shown).length==1 then ",)" else ")":String)).length<=_;rw[bL,bL];have l:=j ((ds.map PyData.shown).length==1);show (Str.ofString "(").length+_+(Str.ofString (if (ds.map PyData.shown).length==1 then ",)" else ")":String)).length<=_;omega
section
variable {X:Cx}{p pos p2 pos2:Pos}{e f:Expr}{t:TA}
theorem yO:MtR X "list.pop" ng:=vI
theorem rX:MtR X "list.extend" kU:=uH
theorem py:MtR X "list.reverse" jA:=rM
theorem AT (K:W.Frag) (f:PE X o to) (h:PA X [e] t)
    (b:attributeBase o "pop" X.env (eval o X.env)=eval o X.env:=by rfl)
    (d:((backTo cpos (starEach [e] X.env)).all (λx=>!x.1)&&(backToKw cpos (keywordEach [] X.env)).all (λx=>x.1.isSome)
     && decide ([e].length+([]:List Keyword).length+(if ([]:List Keyword).isEmpty then 0 else 1)<30))=true:=by rfl)
    (c:(apos.endLine==cpos.line)=true:=by rfl) (i:starEach [e] X.env=(false,eval e X.env)::starEach [] X.env:=by rfl) (a:(backTo cpos (starEach [] X.env)).any (·.1)=false:=by rfl) (g:X.K=K:=by rfl) :
    PE X (.Call (.Attribute o "pop" apos) [e] [] cpos) (tBM K "list" ng to t):=g ▸ gS PySem.F.plainAttrs_list PySem.F.slot_list_pop PySem.F.type_list_pop yO f h b d c i a
theorem gM (K:W.Frag) (f:PE X o to) (h:PA X [e] t)
    (b:attributeBase o "extend" X.env (eval o X.env)=eval o X.env:=by rfl)
    (d:((backTo cpos (starEach [e] X.env)).all (λx=>!x.1)&&(backToKw cpos (keywordEach [] X.env)).all (λx=>x.1.isSome)
     && decide ([e].length+([]:List Keyword).length+(if ([]:List Keyword).isEmpty then 0 else 1)<30))=true:=by rfl)
    (c:(apos.endLine==cpos.line)=true:=by rfl) (i:starEach [e] X.env=(false,eval e X.env)::starEach [] X.env:=by rfl) (a:(backTo cpos (starEach [] X.env)).any (·.1)=false:=by rfl) (g:X.K=K:=by rfl) :
    PE X (.Call (.Attribute o "extend" apos) [e] [] cpos) (tBM K "list" kU to t):=g ▸ gS PySem.F.plainAttrs_list PySem.F.slot_list_extend PySem.F.type_list_extend rX f h b d c i a
theorem tH (K:W.Frag) (d:PE X o to) (a:attributeBase o "reverse" X.env (eval o X.env)=eval o X.env:=by rfl) (b:(apos.endLine==cpos.line)=true:=by rfl) (c:X.K=K:=by rfl) :
    PE X (.Call (.Attribute o "reverse" apos) [] [] cpos) (Ay K "list" jA to):=c ▸ Ag PySem.F.plainAttrs_list PySem.F.slot_list_reverse PySem.F.type_list_reverse py d a b
end
theorem gg (xs:LV) (k:Nat):cD xs (some (k:Int)) none=xs.drop k:=by
 unfold cD;rw[HT.sIx_nat,HT.sIx_none];by_cases h:k<=xs.length
 ·rw[Nat.min_eq_left h,BS (by rw[CB];omega)]
 ·rw[Nat.min_eq_right (by omega),Du (BB _),Du (by omega)];simp
theorem yq (xs:LV) (k:Nat) (h:k<=xs.length):cD xs none (some (k:Int))=xs.take k:=by
 unfold cD;rw[HT.sIx_nat,HT.sIx_none,Nat.min_eq_left h,List.drop_zero,Nat.sub_zero]
theorem rR {α:Type}{M:Model}{m:Sem (Option α)}{P:α->Shared->Prop}
    (h:wpAny M A m (λr s1=>∃u,r=some u/\wpAny M A (pure ():Sem Unit) (λ_ G=>P u G) E s1) E s):wpAny M A m (λr s1=>∃u,r=some u/\P u s1) E s:=by
 intro b p a;exact Sem.wp_mono M b m (λr c s1 ⟨u,e,q⟩=>⟨u,e,q b c a⟩) (λ_ _ _ z=>z) p s (h b p a)
theorem Inv.atA (I:Inv X pins σ H s) (A':Around) (b:A'.handled=X.A.handled) (a:A'.frames=X.A.frames):Inv { X with A:=A' } pins σ H s :=
 ⟨⟨I.ok.mod,I.ok.kind,I.ok.glob,I.ok.blt,I.ok.above,I.ok.inj,I.ok.has,I.ok.cab,λc=>b.trans (I.ok.hd c),a.trans I.ok.frames,I.ok.stk,I.ok.exf,I.ok.bs,I.ok.bsz,I.ok.noex,I.ok.exfs,I.ok.funs,I.ok.frf⟩,
  I.os,I.bare,I.base,I.loc,I.cell,I.free,I.freeC,I.pin,I.hok,I.len⟩
theorem Inv.ofA (a:X.Ok) (I:Inv { X with A:=A' } pins σ H s):Inv X pins σ H s :=
 ⟨a,I.os,I.bare,I.base,I.loc,I.cell,I.free,I.freeC,I.pin,I.hok,I.len⟩
theorem kK:typeLookup (.type "tuple") "keys"=pure none:=am_miss_of_fast (by decide +kernel)
section
variable {prog:Program}{w:World}{A:Around}{E:Value->Shared->Prop}{s:Shared}
theorem oh 
    (n:s.heap.get? a=some o) (l:o.cls=.type "tuple") (f:o.data=.seq xs k) (hd:o.dict=none) (t:A.handled=none)
    (h:∀h' tk,(∀b z,s.heap.get? b=some z->h'.get? b=some z)->Q none { s with heap:=h',toks:=tk }) :
    wpAny (model prog w) A (getAttr? (.ref a) "keys") Q E s:=by
 obtain⟨c,r,p,u⟩:=o;simp only at l f hd;subst l f hd;obtain⟨q,g,d,tk,v⟩:=s;have m:∀i,(⟨q,g,d,i,v⟩:Shared).TypeIs (.ref a) "tuple":=λ_=>⟨_,n,rfl⟩
 have C:=sub_AttributeError;have B:=F.slot_tuple_getattribute.lookup;have G:=F.slot_tuple_getattribute.bind (.ref a);have y:=am_tuple_getattr_none;unfold getAttr? getAttrBy? getAttrBy
 repeat (any_goals (first | assumption | exact m _ | ((with_reducible show wpAny _ _ (call (Value.builtin "tuple.__getattribute__") _ _) _ _ _);refine call_meets F.slot_tuple_getattribute (m _) am_entry_tuple_getattribute (F.args_tuple_getattribute_2 _ _) (meets_getattribute_miss_tuple a xs k u "keys" _ kK (by decide +kernel)) ⟨n,t,λh' i e j=>?_⟩) | wp_step))
 obtain⟨D,H,x⟩:=j.there;show wpAny _ _ (getattributeRaised _ _ _ _ _ _ _) _ _ _;unfold getattributeRaised
 repeat (any_goals (first | assumption | wp_step))
 exact h _ _ j.keeps
end
namespace DU
theorem entry_loop:entryFor table "dict.update.loop"=some Builtin.«dict.update.loop»:=entryFor_of_fast (by kernel_rfl)
theorem plain_loop:plainId "dict.update.loop"=true:=by decide +kernel
end DU
section
variable {X:Cx}{pins:List (Addr × Obj)}{σ:St}{H:Hp}{s:Shared}{a:Addr}{y v:V}{u r:Value}{A:Around}{E:Value->Shared->Prop}
theorem uX (P:A.units<cLine) (I:Inv X pins σ H s) (g:DPut H a y v H') (D:RelV y u) (C:RelV v r) (h:∀s',Inv X pins σ H' s'->(∀b o,b≠a->s.heap.get? b=some o->s'.heap.get? b=some o)->Q () s') :
    wpAny (model X.prog X.w) A (dictSet a u r) Q E s:=by
 rcases g with⟨d,k,e,x,l,w⟩ | ⟨d,k,b,e,x,J,l,w⟩
 ·subst x w;obtain⟨z,hd,R,f,t⟩:=rC I.hok e;have B:R.length<=sizeLine:=by rw[<- f.length];exact z
  have p:(aS d k v).length<=sizeLine:=by have:=bR d k v;omega
  refine wpAny_dictSet_pairs (hsz:=B) (gp D) t λF i j=>h _ ?_ λb o n q=>j.extBut _ _ n q;have L:∃q,F.get? a=some q:=let ⟨q,_,_,m,_⟩:=i;⟨q,m⟩;exact hG I (by rw[e];exact True.intro) j L (pu p hd (f.put k C) i)
 ·subst x w;cases (show u=Value.ref b from D);obtain⟨z,hd,T,f,t⟩:=xu I.hok e;have B:T.length<=sizeLine:=by rw[<- Paired.length f];exact z
  have p:(aS d k v).length<=sizeLine:=by have:=bR d k v;omega
  refine wpAny_dictSet_heap (hsz:=B) P (ie I.hok J) t λF i j=>h _ ?_ λb o n q=>j.extBut _ _ n q;obtain⟨q,M,S,m,N,K,U,_,O⟩:=i;refine hG I (by rw[e];exact True.intro) j ⟨q,m⟩ ⟨p,hd,_,(f.put k J C).keeps λc V G=>?_,q,M,S,m,N,K,U,O⟩;rw[ah (bK G e (λz=>nomatch z))];exact G
theorem DPut.at_ (g:DPut H a y v H'):(∃o,H a=some o)/\∀b,b≠a->H' b=H b:=by
 rcases g with⟨d,k,e,f,l,c⟩ | ⟨d,k,b,e,f,h,l,c⟩
 ·exact⟨⟨_,e⟩,λb n=>by rw[c,ah n]⟩
 ·exact⟨⟨_,e⟩,λb n=>by rw[c,ah n]⟩
end
theorem tF (T:Turn X.prog X.w X.K (.Name nm tp) J O it tn) (E:X.calm=true) (hu:X.A.units+64<cLine) (d:Addr) (n:Nat) (h:Nat -> Hp -> Prop)
    (go:∀i H,i<n->h i H->J.go i H/\∀x H1,J.yld i H x H1->∃b k v H2,x=.ref b/\SqT X.K H1 b [k,v]/\DPut H1 d k v H2/\h (i+1) H2)
    (g:∀H,h n H->J.stop n H):∀(k i:Nat) (j:Int) (s:Shared) (H:Hp),n-i=k->i<=n->Inv X pins σ H s->(∀b∈O,fD X pins H b)->tn i s.heap->h i H ->
     (∀H' s',Inv X pins σ H' s'->h n H'->R (.ok (.ret .none)) s')->codeAny (model X.prog X.w) X.A.in1 (.builtin "dict.update.loop" ⟨[.ref d,.ref it,rawInt j,.none],[]⟩) R s:=by
 intro k
 induction k with
 | zero =>
  intro i j s H hk hi I l w hd C;have y:i=n:=by omega
  subst y;refine codeAny_builtin DU.entry_loop ?_;rw[Around.under_plainId DU.plain_loop _];show wpAny _ X.A.in1.in1 (pyNext (.ref it) >>= _) _ _ s;refine Bz (CF (T.done { X with A:=X.A.in1.in1 } rfl rfl rfl E i pins s σ H _ (I.atA _ rfl rfl) l w (g H hd)) (λr F ⟨e,c⟩=>?_) λ_ _ z=>z);subst e;show wpAny _ _ (Builtin.Dict.addKeywords d [] >>= _) _ _ _;exact Bz (BC (BC (C H F (Inv.ofA I.ok c) hd)))
 | succ k ih =>
  intro i j s H hk hi I l w hd C;have f:i<n:=by omega
  obtain⟨hg,Q⟩:=go i H f hd;refine codeAny_builtin DU.entry_loop ?_;rw[Around.under_plainId DU.plain_loop _];show wpAny _ X.A.in1.in1 (pyNext (.ref it) >>= _) _ _ s;refine Bz (CF (rR (T.item { X with A:=X.A.in1.in1 } rfl rfl rfl E i pins s σ H _ (I.atA _ rfl rfl) l w hg)) (λr F ⟨u,e,x,H1,c,Y,yl,t1,K⟩=>?_) λ_ _ z=>z);subst e
  replace c:=Inv.ofA I.ok c
  obtain⟨b,kk,v,H2,ex,sq,dp,S⟩:=Q x H1 yl;subst ex;cases (show u=Value.ref b from Y);obtain⟨U,V,W,hz⟩:=c.tuple sq;obtain⟨G,N,e2,r1,r2⟩:=gT V;subst e2;obtain⟨o,M,B,m,p⟩:=W;show wpAny _ _ (holding [Value.ref b] _ >>= _) _ _ _;refine Bz (Ct ?_);show wpAny _ _ (Sem.tryCatch (Builtin.Dict.pairItems (Value.ref b)) _ >>= _) _ _ _;refine Bz (wpAny_tryCatch ?_);unfold Builtin.Dict.pairItems;refine Bz (wpAny_typeOf (T:="tuple") ⟨o,M,B⟩ ?_);simp only[show ((Value.type "tuple"==Value.type "list")||(Value.type "tuple"==Value.type "tuple"))=true from rfl,if_true];unfold seqItems?;refine Bz (Bz (wpAny_load M ?_));rw[p];refine BC (BC ?_);show wpAny _ _ (holding [G,N] (dictSet d G N)) _ _ _;have t:X.A.in1.in1.units<cLine:=by show X.A.units+1+1<cLine;omega
  refine Ct (uX t c dp r1 r2 λs2 I2 D=>?_);have P:∀b∈O,b≠d:=λb a q=>by
   obtain⟨o,L⟩:=dp.at_.1;rw[<- q,K b a] at L;cases L
  refine BC ⟨plainId_quiet DU.plain_loop _,ih (i+1) (j+1) s2 H2 (by omega) f I2 (λb a=>?_) (T.keep _ _ _ t1 λb a o q=>D b o (P b a) q) S C⟩;obtain⟨_,f1,Z,f3,f4,f5⟩:=l b a;exact⟨(dp.at_.2 b (P b a)).trans (K b a),f1,Z,f3,f4,f5⟩
theorem Rd.fresh (r:Rd H a u) (b:H l=none):Rd (upd H l o) a u:=by
 have n:a≠l:=λe=>by subst e;rcases r with r | ⟨_,r⟩ <;> rw[b] at r <;> cases r
 unfold Rd;rw[ah n];exact r
theorem SqT.fresh {K:W.Frag}{H:Hp}{a l:Addr}{xs:LV}{o:HO}(r:SqT K H a xs) (b:H l=none):SqT K (upd H l o) a xs:=by
 rcases r with r | r
 ·exact Or.inl (r.fresh b)
 ·exact Or.inr r
theorem xb [DecidableEq κ]:∀(ps:List (κ × V)) (m:List (κ × V)),(ps.foldl (λm q=>aS m q.1 q.2) m).length<=m.length+ps.length:=by
 intro ps
 induction ps with
 | nil=>intro m;exact BB _
 | cons q r ih =>
  intro m;have b:=ih (aS m q.1 q.2);have a:=bR m q.1 q.2;rw[List.foldl_cons,BN];omega
def mkK [DecidableEq κ] (ps:List (κ × V)):List (κ × V):=ps.foldl (λm q=>aS m q.1 q.2) []
theorem An [DecidableEq κ] (ps:List (κ × V)):(mkK ps).length<=ps.length:=by
 have:=xb ps [];rw[Df,Nat.zero_add] at this;exact this
theorem wN [DecidableEq κ] (ps:List (κ × V)) (i:Nat) (q:κ × V) (h:ps[i]? = some q):mkK (ps.take (i+1))=aS (mkK (ps.take i)) q.1 q.2:=by
 unfold mkK;rw[BW,h,List.foldl_append]
 rfl
namespace SP
open PySem.Builtin PySem.Builtin.Str PySem.StrLaws
abbrev one (c:Nat):Str:=⟨#[c]⟩
theorem qH (x:Str) (c i:Nat):(i+(one c).length<=x.length/\subAt x (one c) i=true) ↔ x.cps.toList[i]? = some c:=by
 rw[subAt_eq];have g:x.cps.toList.length=x.length:=by simp[Str.length]
 have j:(one c).length=1:=rfl;have f:(one c).cps.toList=[c]:=rfl;rw[j,f,<- g]
 constructor
 ·rintro⟨a,b⟩;have d:i<x.cps.toList.length:=by omega
  have b:=eq_of_beq b;rw[CW d] at b;have b:[x.cps.toList[i]]=[c]:=by simpa using b
  rw[BV d,List.cons.inj b |>.1]
 ·intro h;obtain⟨d,e⟩:=BF.mp h;refine⟨by omega,?_⟩;rw[CW d,e];simp
theorem lG (x:Str) (c limit:Nat):∀(l:List Nat) (st:Array Nat × Nat), l.Pairwise (·<·) -> (∀i ∈ l, st.snd <= i) -> st.fst.size+l.length <= limit ->
    ∀j,j∈(forIn l st (occBody x (one c) x.length limit)).run.fst.toList ↔ j∈st.fst.toList∨(j∈l/\x.cps.toList[j]? = some c)
 | [],st,_,_,_,j=>by
  have e:(forIn ([]:List Nat) st (occBody x (one c) x.length limit)).run=st:=by simp[pure,Id.run]
  rw[e];simp
 | a :: l, st, hp, hf, hl, j => by
  rw[Dh];unfold occBody;have hp':=List.pairwise_cons.mp hp;have ha:st.snd<=a:=hf a (Cr ..);rw[BN] at hl;by_cases hc:x.cps.toList[a]? = some c
  ·obtain⟨h1,h2⟩:=(qH x c a).mpr hc;rw[if_pos ⟨⟨⟨by omega,ha⟩,h1⟩,h2⟩];have ih:=lG x c limit l (st.fst.push a,a+(one c).length) hp'.2 (λi hi=>by have:=hp'.1 i hi;show a+1<=i;omega) (by rw[Array.size_push];omega) j;refine ih.trans ?_;rw[Array.toList_push,BR,Cb,BH]
   constructor
   ·rintro ((h | rfl) | h)
    ·exact .inl h
    ·exact .inr ⟨.inl rfl,hc⟩
    ·exact .inr ⟨.inr h.1,h.2⟩
   ·rintro (h | ⟨rfl | h,h'⟩)
    ·exact .inl (.inl h)
    ·exact .inl (.inr rfl)
    ·exact .inr ⟨h,h'⟩
  ·rw[if_neg (λh=>hc ((qH x c a).mp ⟨h.1.2,h.2⟩))];have ih:=lG x c limit l (st.fst,st.snd) hp'.2 (λi hi=>hf i (BQ _ hi)) (by show st.fst.size+l.length<=limit;omega) j;refine ih.trans ?_;rw[BH]
   constructor
   ·rintro (h | h)
    ·exact .inl h
    ·exact .inr ⟨.inr h.1,h.2⟩
   ·rintro (h | ⟨rfl | h,h'⟩)
    ·exact .inl h
    ·exact absurd h' hc
    ·exact .inr ⟨h,h'⟩
theorem qx (x:Str) (c j:Nat):j∈occurrences x (one c) 0 x.length (x.length+1) ↔ x.cps.toList[j]? = some c:=by
 rw[occ_eq];have h:=lG x c (x.length+1) (List.range' 0 (x.length+1-0)) (#[],0) (List.pairwise_lt_range') (λ_ _=>Cg _) (by simp) j;refine h.trans ?_
 constructor
 ·rintro (h | h)
  ·simp at h
  ·exact h.2
 ·intro h;refine .inr ⟨?_,h⟩;have a:x.cps.toList.length=x.length:=by simp[Str.length]
  have:=(BF.mp h).1;rw[List.mem_range'_1];omega
theorem oM (hs:1 <= sub.length):∀ {a:Nat}{cuts:List Nat}{f:Nat}, ChainTo s sub hi a cuts f -> ∀j ∈ cuts, a <= j
 | a,[],f,_,j,hj=>by cases hj
 | a,c::r,f,h,j,hj=>by
  rcases BH.mp hj with rfl | hj
  ·exact h.1
  ·have h1:=oM hs h.2.2 j hj;have h2:=h.1;omega
theorem oR (x:Str) (c a b:Nat) (h:∀i,a<=i->i<b->x.cps.toList[i]?≠some c):c∉(strSub x a b).cps.toList:=by
 rw[strSub_toList];intro e;obtain⟨i,d⟩:=CG e;have f:i<b-a:=Classical.byContradiction λz=>by
  have:=(BF.mp d).1;rw[Ch] at this;omega
 rw[DH f,Dv] at d;exact h (a+i) (by omega) (by omega) d
theorem kD (x:Str) (c:Nat):∀(cuts:List Nat) (a f:Nat), ChainTo x (one c) x.length a cuts f -> (∀i, a <= i -> x.cps.toList[i]? = some c -> i ∈ cuts) -> ∀p ∈ partsFrom x 1 a cuts, c ∉ p.cps.toList
 | [],a,f,h,hall,p,hp=>by
  rw[Cb.mp hp];exact oR x c a _ λi hi _ hc=>by cases hall i hi hc
 | k :: r, a, f, h, hall, p, hp => by
  rcases BH.mp hp with rfl | hp
  ·refine oR x c a k λi hi hk hc=>?_;rcases BH.mp (hall i hi hc) with e | e
   ·omega
   ·have:=oM (show 1<=(one c).length from BB 1) h.2.2 i e;have:(one c).length=1:=rfl;omega
  ·refine kD x c r (k+1) f h.2.2 (λi hi hc=>?_) p hp;rcases BH.mp (hall i (by have:=h.1;omega) hc) with e | e
   ·omega
   ·exact e
theorem split_free (x:Str) (c:Nat) (g:c<256):∀p ∈ Txt.split x (one c), c ∉ p.cps.toList := by
 unfold Txt.split
 split
 ·rename_i h
  rw[Bool.or_eq_true,decide_eq_true_iff,decide_eq_true_iff] at h;intro p a;rw[Cb.mp a];rcases h with h | h
  ·have h:x.length<1:=h;have j:x.cps.toList.length=x.length:=by simp[Str.length]
   intro b;have:=List.length_pos_of_mem b;omega
  ·have e:Builtin.Str.strKind (one c)=1:=by
      unfold Builtin.Str.strKind;rw[if_pos (by simp;exact g)]
   rw[e] at h;unfold Builtin.Str.strKind at h
   split at h
   ·omega
   ·split at h <;> omega
 ·split
  ·rename_i h1 h
   intro p a;rw[Cb.mp a];intro b;obtain⟨i,d⟩:=CG b;have:=(qx x c i).mpr d;rw[List.isEmpty_iff.mp h] at this;cases this
  ·obtain⟨f,h⟩:=occ_chain x (one c) (x.length+1);rw[partsBetween_eq];exact kD x c _ 0 f h λi _ d=>(qx x c i).mpr d
theorem split_ne (x y:Str):Txt.split x y ≠ [] := by
 unfold Txt.split
 split
 ·simp
 ·split
  ·simp
  ·rw[partsBetween_eq];obtain⟨p,r,e⟩:=partsFrom_ne x y.length 0 (occurrences x y 0 x.length (x.length+1));rw[e];simp
theorem qK:∀ {w v A B:List Nat},c∉w->c∉v->w++c::A=v++c::B->w=v/\A=B
 | [],[],A,B,_,_,h=>⟨rfl,(List.cons.inj h).2⟩
 | [],y::v,A,B,_,hv,h=>absurd (BH.mpr (.inl (List.cons.inj h).1)) hv
 | x::w,[],A,B,hw,_,h=>absurd (BH.mpr (.inl (List.cons.inj h).1.symm)) hw
 | x::w,y::v,A,B,hw,hv,h=>by
  obtain⟨e,h⟩:=List.cons.inj h;obtain⟨e1,e2⟩:=qK (λz=>hw (BQ _ z)) (λz=>hv (BQ _ z)) h;exact⟨by rw[e,e1],e2⟩
theorem str_eq {a b:Str}(h:a.cps.toList=b.cps.toList):a=b:=Str.ext' (Array.toList_inj.mp h)
theorem join_signs (c:Nat) (x y:Str) (r:LS):(Str.join (one c) (x::y::r)).cps.toList=x.cps.toList++c::(Str.join (one c) (y::r)).cps.toList:=by
 show (x++one c++Str.join (one c) (y::r)).cps.toList=_;rw[cps_toList_append,cps_toList_append,Cp]
 rfl
theorem pp (c:Nat):∀(ws vs:LS),ws≠[]->vs≠[]->(∀w∈ws,c∉w.cps.toList)->(∀v∈vs,c∉v.cps.toList)->Str.join (one c) ws=Str.join (one c) vs->ws=vs
 | [],_,h,_,_,_,_=>absurd rfl h
 | _,[],_,h,_,_,_=>absurd rfl h
 | [w],[v],_,_,_,_,h=>by
  have h:w=v:=h;rw[h]
 | [w],v::z::r,_,_,hw,_,h=>by
  have h:w=Str.join (one c) (v::z::r):=h;have:=hw w (by simp);rw[h,join_signs] at this;exact absurd (by simp) this
 | w::z::r,[v],_,_,_,hv,h=>by
  have h:Str.join (one c) (w::z::r)=v:=h;have:=hv v (by simp);rw[<- h,join_signs] at this;exact absurd (by simp) this
 | w::z::r,v::z'::r',_,_,hw,hv,h=>by
  have h:=congrArg (λs:Str=>s.cps.toList) h;simp only[join_signs] at h;obtain⟨e1,e2⟩:=qK (hw w (by simp)) (hv v (by simp)) h;have:=pp c (z::r) (z'::r') (by simp) (by simp) (λx hx=>hw x (BQ _ hx)) (λx hx=>hv x (BQ _ hx)) (str_eq e2);rw[str_eq e1,this]
theorem split_join (c:Nat) (d:c<256) (ws:LS) (a:ws≠[]) (b:∀w∈ws,c∉w.cps.toList):Txt.split (Str.join (one c) ws) (one c)=ws :=
 pp c _ ws (split_ne _ _) a (split_free _ c d) b (join_split _ _)
theorem split_len (x:Str) (y:Str):(partsBetween x (occurrences x y 0 x.length (x.length+1)) y.length).length<=x.length+2:=by
 rw[length_partsBetween];have:=occ_length_le x y 0 x.length (x.length+1);omega
end SP
end L2
namespace L2
open PySem PySem.Spec PyProof.Rows
section
variable {X:Cx}
theorem iJ:∀(ps:LS) (k:Nat),Vals (ps.map V.str) (strsFrom k ps)
 | [],_=>.nil
 | p::r,k=>.cons ⟨_,rfl⟩ (iJ r (k+1))
def uD:V->LV->Hp->VK->Prop:=λx xs H Q=>∃z y,x=.str z/\xs=[.str y]/\(y.length==0)=false/\z.length+2<=sizeLine/\∀l,H l=none->Q (.ref l) (upd H l (.lst (List.map V.str (Txt.split z y))))
theorem wT:MtR X "str.split" uD := by
 intro d s l H x C v A Q I n j h;obtain⟨z,y,rfl,rfl,i,B,q⟩:=h;obtain⟨t,rfl⟩:=n;obtain⟨u,rfl,p⟩:=cI j;obtain⟨t',rfl⟩:=p;have g:H s.heap.objs.size=none:=I.hok.fresh (BB _);have w:=SP.split_len z y;have c:∀(f:LS) (b:LW) (k:Nat),f=Txt.split z y->f.length<=sizeLine->Vals (f.map V.str) b->EP X d l Q (.ref s.heap.objs.size) { s with heap:=s.heap.push { cls:=.type "list",data:=.seq b.toArray },toks:=k }:=λf b k e m r=>by
  subst e;exact⟨.ref _,_,I.laid (a:=s.heap.objs.size) (o:=.lst (List.map V.str (Txt.split z y))) (t':=k) (λ_ _ q=>BU _ q) (BB _) ⟨by rw[BA];exact m,b,_,r,Ce _ rfl⟩,rfl,q _ g⟩
 cases h1:(decide (z.length<y.length)||decide (Builtin.Str.strKind z<Builtin.Str.strKind y))
 ·cases hf:(Builtin.Str.occurrences z y 0 z.length (z.length+1)).isEmpty
  ·refine call_meets F.slot_str_split (typeIs_str _ _ _) F.entry_str_split (F.args_str_split_2 _ _) (meets_str_split_sep z y t t' h1 i hf (by omega) (by omega)) ?_;refine c _ _ _ ?_ (by omega) (iJ _ _);exact((if_neg (ne_true_of_eq_false h1)).trans (if_neg (ne_true_of_eq_false hf))).symm
  ·refine call_meets F.slot_str_split (typeIs_str _ _ _) F.entry_str_split (F.args_str_split_2 _ _) (meets_str_split_not_found z y t t' h1 i hf) ?_;exact c [z] _ _ ((if_neg (ne_true_of_eq_false h1)).trans (if_pos hf)).symm (by show 1<=sizeLine;decide) (.cons ⟨t,rfl⟩ .nil)
 ·refine call_meets F.slot_str_split (typeIs_str _ _ _) F.entry_str_split (F.args_str_split_2 _ _) (meets_str_split_cannot_occur z y t t' h1) ?_;exact c [z] _ _ (if_pos h1).symm (by show 1<=sizeLine;decide) (.cons ⟨t,rfl⟩ .nil)
theorem gu (K:W.Frag) (f:PE X o to) (h:PA X [e] t)
    (b:attributeBase o "split" X.env (eval o X.env)=eval o X.env:=by rfl)
    (d:((backTo cpos (starEach [e] X.env)).all (λx=>!x.1)&&(backToKw cpos (keywordEach [] X.env)).all (λx=>x.1.isSome)
     && decide ([e].length+([]:List Keyword).length+(if ([]:List Keyword).isEmpty then 0 else 1)<30))=true:=by rfl)
    (c:(apos.endLine==cpos.line)=true:=by rfl) (i:starEach [e] X.env=(false,eval e X.env)::starEach [] X.env:=by rfl) (a:(backTo cpos (starEach [] X.env)).any (·.1)=false:=by rfl) (g:X.K=K:=by rfl) :
    PE X (.Call (.Attribute o "split" apos) [e] [] cpos) (tBM K "str" uD to t):=g ▸ gS PySem.F.plainAttrs_str PySem.F.slot_str_split PySem.F.type_str_split wT f h b d c i a
def sT (K:W.Frag):V->LV->Hp->VK->Prop:=λx xs H Q=>∃z p ys,x=.str z/\xs=[.ref p]/\SqT K H p (List.map V.str ys)/\(ys.map (·.length)).sum+ys.length * z.length<=16777216/\Q (.str (Txt.join z ys)) H
theorem wJ:MtR X "str.join" (sT X.K):=by
 intro c s m H x o v l Q I f a h;obtain⟨z,p,n,rfl,rfl,e,i,q⟩:=h;obtain⟨t,rfl⟩:=f;obtain⟨u,rfl,g⟩:=cI a;cases g;obtain⟨b,a,d,_⟩:=I.tuple e;exact join_tuple (D:=p) (items:=b.toArray) d (by simpa using lj a) i λj k=>⟨.str _,H,I.tok k,⟨j,rfl⟩,q⟩
theorem yk (K:W.Frag) (f:PE X o to) (h:PA X [e] t)
    (b:attributeBase o "join" X.env (eval o X.env)=eval o X.env:=by rfl)
    (d:((backTo cpos (starEach [e] X.env)).all (λx=>!x.1)&&(backToKw cpos (keywordEach [] X.env)).all (λx=>x.1.isSome)
     && decide ([e].length+([]:List Keyword).length+(if ([]:List Keyword).isEmpty then 0 else 1)<30))=true:=by rfl)
    (c:(apos.endLine==cpos.line)=true:=by rfl) (i:starEach [e] X.env=(false,eval e X.env)::starEach [] X.env:=by rfl) (a:(backTo cpos (starEach [] X.env)).any (·.1)=false:=by rfl) (g:X.K=K:=by rfl) :
    PE X (.Call (.Attribute o "join" apos) [e] [] cpos) (tBM K "str" (sT K) to t):=g ▸ gS PySem.F.plainAttrs_str PySem.F.slot_str_join PySem.F.type_str_join wJ f h b d c i a
end
theorem kY:∀(ys:LS),(∀y∈ys,y.length<=n)->(ys.map (·.length)).sum<=ys.length * n
 | [],_=>by simp
 | y::r,h=>by
  have h1:=kY r λt ht=>h t (BQ _ ht);have h2:=h y (by simp);rw[BZ,List.sum_cons,BN,Nat.succ_mul];omega
theorem Nm.free (h:Nm s) (a:c<97):c∉s.cps.toList:=λz=>by have:=h.2.2 c z;omega
theorem eQ (z:Str) (ys:LS):Txt.join z ys=Str.join z ys:=StrLaws.glued_eq_join z ys
theorem ph:(" ":Str)=SP.one 32:=by decide
theorem tG:("\n":Str)=SP.one 10:=by decide
end L2
set_option maxHeartbeats 400000
namespace L2
open PySem PySem.Spec PyProof.Rows
section
variable {X:Cx}
def Bt (neg:Bool):V->V->Hp->VK->Prop:=λx y H Q=>∃p xs ds d,y=.ref p/\H p=some (.tup xs)/\RepAll H xs ds/\Rep H x d/\PyData.canLayAll0 ds=true/\d.canLay0=true/\d.depth<=16/\Q (.bl (if neg then !(ds.any λe=>PyData.eqv e d) else ds.any λe=>PyData.eqv e d)) H
theorem ya (A:X.A.units+64<cLine):OpR X (compareOp .In) (Bt false):=by
 intro g s t H x y v u Q I l m h;obtain⟨p,xs,z,d,rfl,e,j,r,i,c,dp,q⟩:=h;cases m;obtain⟨b,f,k,_⟩:=I.tuple (a:=p) (xs:=xs) (.of e);obtain⟨B,o⟩:=r.reads I.hok l;refine SeqAt.in_tupleAt (λu=>PyData.eqv (SeqAt.readOf s.heap u) d) k (λw n=>gl (x:=x) I.hok o c (by show X.A.units+1+d.depth<cLine;omega) j f i w (by simpa using n)) ⟨.bl _,H,I,rfl,?_⟩;rw[show b.toArray.any (λu=>PyData.eqv (SeqAt.readOf s.heap u) d)=b.any (λu=>PyData.eqv (SeqAt.readOf s.heap u) d) by simp,gs I.hok j f i];exact q
end
end L2
set_option maxHeartbeats 4000000
namespace L2
open PySem PySem.Spec PyProof.Rows
def eW (ks:LS) (ys:LV):List (Key × V):=(ks.map Sum.inr).zip ys
theorem uW {kvs:List (Key × V)}{k:Key}(h:k∉kvs.map (·.1)):aS kvs k v=kvs++[(k,v)]:=by
 unfold aS;rw[if_neg];intro z;obtain⟨b,a,e⟩:=Dg.mp z;exact h (BE.mpr ⟨b,a,BX e⟩)
theorem xX:∀(ks:LS) (ys:LV), ks.Nodup -> mkK (eW ks ys)=eW ks ys := by
 have a:∀(ks:LS) (ys:LV) (m:List (Key × V)), ks.Nodup -> (∀k ∈ ks, (Sum.inr k:Key) ∉ m.map (·.1)) -> (eW ks ys).foldl (λm q => aS m q.1 q.2) m=m ++ eW ks ys := by
  intro ks
  induction ks with
  | nil=>intro ys m _ _;unfold eW;simp
  | cons k ks ih =>
   intro ys m b d;cases ys with
   | nil=>unfold eW;simp
   | cons y ys =>
    obtain⟨g,f⟩:=Cd.mp b;have e:eW (k::ks) (y::ys)=(.inr k,y)::eW ks ys:=rfl;rw[e,List.foldl_cons];show List.foldl _ (aS m (.inr k) y) _=_;rw[uW (d k (by simp)),ih ys _ f (λx c=>?_)]
    ·simp
    ·rw[BO,BR];rintro (z | z)
     ·exact d x (BQ _ c) z
     ·have:(Sum.inr x:Key)=Sum.inr k:=by simpa using z
      exact g (Sum.inr.inj this ▸ c)
 intro ks ys b;unfold mkK;rw[a ks ys [] b (λk _ h=>by cases h)]
 rfl
theorem on:∀ {ks:LS}{ys:LV}{i:Nat}{k:Str}{y:V},ks.Nodup->ks[i]? = some k->ys[i]? = some y->aI (eW ks ys) (.inr k)=some y
 | [],_,_,_,_,_,h,_=>by simp at h
 | k::ks,[],_,_,_,_,_,h=>by simp at h
 | k::ks,y::ys,0,k',y',nd,h1,h2=>by
  have e1:k=k':=by simpa using h1
  have e2:y=y':=by simpa using h2
  subst e1 e2;exact cK (p:=(Sum.inr k,y)) rfl
 | k::ks,y::ys,i+1,k',y',nd,h1,h2=>by
  obtain⟨n1,n2⟩:=Cd.mp nd;have h1:ks[i]? = some k':=by simpa using h1
  have h2:ys[i]? = some y':=by simpa using h2
  have ne:¬ (Sum.inr k:Key)=Sum.inr k':=λz=>n1 (by rw[Sum.inr.inj z];exact BG h1);show aI ((Sum.inr k,y)::eW ks ys) _=_;rw[cL ne];exact on n2 h1 h2
theorem zM {G T:Prop}(m:T->G) (t:T):G:=m t
end L2
namespace MG
def mx:List Int->Int
 | []=>0
 | x::l=>max x (mx l)
def dp (es:List (Nat × Nat)) (W:Nat->Int):Nat->Nat->Int
 | 0,_=>0
 | k+1,v=>W v+mx ((es.filter λe=>decide (e.2=v)).map λe=>dp es W k e.1)
end MG
namespace L2
open PySem PySem.Spec PyProof.Rows
section
variable {X:Cx}
def Ai (K:W.Frag):R2:=λx y H Q=>∃a b xs ys,x=.ref a/\y=.ref b/\SqT K H a xs/\SqT K H b ys/\xs.length+ys.length<=sizeLine /\
 (xs=[]->Q (.ref b) H)/\(xs≠[]->ys=[]->Q (.ref a) H)/\(xs≠[]->ys≠[]->∀p,H p=none->Q (.ref p) (upd H p (.tup (xs++ys))))
theorem wE (K:W.Frag) (G:X.K=K:=by rfl):OpR X (binaryOp .Add) (Ai K):=by
 subst G;intro f s C H x y v u Q I q w h;obtain⟨a,b,A,D,rfl,rfl,t,p,M,E,R,J⟩:=h;by_cases j:A=[]
 ·cases q;cases w;obtain⟨d,O,p1,_⟩:=I.tuple t;obtain⟨g,U,p2,_⟩:=I.tuple p;have S:d=[]:=O.nil_iff.mpr j;obtain⟨⟨P,L,B,N⟩,z,r,n,hd⟩:=id p1;obtain⟨⟨o,k,l,m⟩,e,c,T,i⟩:=id p2;simp only at r hd c i;subst r hd c i;exact concat_meets ⟨_,z,rfl⟩ ⟨_,e,rfl⟩ noFill_tuple_add seq_tuple_add F.slot_tuple_add F.entry_tuple_add (F.args_tuple_add_2 _ _) (tuple_addW0 a b d.toArray g.toArray n T L k N m (by simp[S])) ⟨z,e,⟨.ref b,H,I,rfl,E j⟩⟩
 ·exact yP f s C H _ _ v u Q I q w ⟨a,b,A,D,rfl,rfl,t,p,j,M,R j,J j⟩
end
end L2
namespace L2
open PySem
theorem perm_of [DecidableEq α]:∀ {l m:List α},l.Nodup->(∀x∈l,x∈m)->m.length<=l.length->l.Perm m
 | [],m,_,_,h=>by
  have:m=[]:=List.length_eq_zero_iff.mp (by have:=h;rw[Df] at this;omega);rw[this]
 | x::l,m,nd,sub,h=>by
  obtain⟨n1,n2⟩:=Cd.mp nd;have hx:=sub x (by simp);have pe:=(List.perm_cons_erase hx)
  have le:=pe.length_eq;rw[BN] at le h;refine(List.Perm.cons x (perm_of n2 (λy hy=>?_) (by omega))).trans pe.symm;exact(List.mem_erase_of_ne (λz:y=x=>n1 (z ▸ hy))).mpr (sub y (BQ _ hy))
end L2
namespace L2
open PySem PySem.Spec PyProof.Rows
theorem xO {K:W.Frag}{a b:Addr}{xs ys:LV}{g:TG}{tb:TS}{D:Ends}{σ:St}{H:Hp}(Pv:Nat -> St -> Hp -> Prop) (n:Pv 0 σ H) (w:∀i σ H, i <= (xs.zip ys).length -> Pv i σ H -> SqL K H a xs /\ SqL K H b ys)
    (h:∀i x y p σ H,(xs.zip ys)[i]? = some (x,y)->Pv i σ H->H p=none->g (.ref p) σ (upd H p (.tup [x,y])) λσ2 H2=>tb { D with nx:=Pv (i+1),ct:=Pv (i+1),bk:=D.nx } σ2 H2) (hd:∀σ H,Pv (xs.zip ys).length σ H->D.nx σ H) :
    ∃W:Nat->Nat->St->Hp->Prop,(∃m,W 0 m σ H)/\∀i m σ H,W i m σ H ->
     ((Itz K a b).stop i H/\D.nx σ H)∨((Itz K a b).go i H/\∃N:St->Hp->Prop,(∀σ' H',N σ' H'->∃z,z<m/\W (i+1) z σ' H')/\∀x H',(Itz K a b).yld i H x H'->g x σ H' λσ2 H2=>tb { D with nx:=N,ct:=N,bk:=D.nx } σ2 H2):=by
 refine⟨λi m σ H=>m=(xs.zip ys).length-i/\i<=(xs.zip ys).length/\Pv i σ H,⟨(xs.zip ys).length,by simp,Cg _,n⟩,?_⟩;rintro i m σ H ⟨rfl,s,p⟩;obtain⟨d,c⟩:=w i σ H s p;have r:(xs.zip ys).length=min xs.length ys.length:=List.length_zip;by_cases j:i<(xs.zip ys).length
 ·have o:i<xs.length:=by omega
  have f:i<ys.length:=by omega
  refine .inr ⟨⟨xs,ys,xs[i],ys[i],d,c,BV o,BV f⟩,Pv (i+1),λσ' H' q=>⟨(xs.zip ys).length-(i+1),by omega,rfl,by omega,q⟩,?_⟩;rintro x H' ⟨q,u,v,k,rfl,l,t,rfl⟩;exact h i u v q σ H (by rw[List.getElem?_zip_eq_some];exact⟨l xs d,t ys c⟩) p k
 ·have e:i=(xs.zip ys).length:=by omega
  refine .inl ⟨⟨xs,ys,d,c,by omega⟩,hd σ H (e ▸ p)⟩
def XF (B:Heap) (l:List Env) (a:Addr) (c:Value) (dd:Option Addr) (fl:Value) (h:Heap):Prop :=
 B.StaysIn h/\B.get? a=none/\h.FunFrames B l/\∃o vs T p ts,h.get? a=some o/\o.cls=c/\o.dict=dd/\o.data=.fields vs/\vs[1]? = some (.ref T)/\B.get? T=none/\T≠a/\h.get? T=some p/\p.data=.fields ts/\ts[3]? = some fl
theorem XF.there (x:XF B l a c dd z h):∃o,h.get? a=some o/\o.cls=c/\o.dict=dd:=by
 obtain⟨_,_,_,o,_,_,_,_,e,d,b,_⟩:=x;exact⟨o,e,d,b⟩
theorem XF.rec (x:XF B l a c dd G h):∃o z,h.get? a=some o/\o.data=.fields z:=by
 obtain⟨_,_,_,o,z,_,_,_,e,_,_,k,_⟩:=x;exact⟨o,z,e,k⟩
theorem XF.out (x:XF B (e0::l) a c dd z h):XF B l a c dd z h:=⟨x.1,x.2.1,x.2.2.1.2.2,x.2.2.2⟩
theorem vi (f:Array Value->Array Value) (o:Obj):(Obj.mapFields f o).dict=o.dict:=by
 unfold Obj.mapFields
 split <;> rfl
section
variable {M:Model}{A:Around}{E:Value->Shared->Prop}{s:Shared}{B:Heap}{e0:Env}{out:List Env}{a L:Addr}{Q:Unit->Shared->Prop}
theorem tf (J:A.frames=some (e0 :: out)) (i:s.heap.FunFrames B (e0 :: out)) (P:e0.frame=some L) (l:s.heap.get? a=some o) (st:B.StaysIn s.heap) (v:B.get? a=none) (g:o.data=.fields I) (F:1<I.size)
    (k:∀h',XF B (e0::out) a o.cls o.dict (rawInt L) h'->s.heap.UpToSlots h'->Q () { s with heap:=h' }) :
    wpAny M A (do let f ← frameOf e0;let G ← entryPlaceOf L U;let b ← EntryCells.newEntry hd f .none (rawInt L) .none G;setField (.ref a) 1 b) Q E s:=by
 have K:a∉(e0::out).filterMap (·.frame):=λz=>by
  obtain⟨_,p,m,q⟩:=i.mem z;exact q I (BD (l.symm.trans m) ▸ g)
 refine Bz (wpAny_frameOf_fun J i P λd n=>Bz (wpAny_entryPlaceOf λG x=>?_));unfold EntryCells.newEntry newFields;refine Bz (wpAny_newObj_type ?_ (x.sizeOk5 _ _ _ _ _));generalize m:([hd,Value.ref L,Value.none,rawInt L,Value.none]++(if G.isEmpty then List.replicate 6 Value.none else G)).toArray=e;have N:e[3]? = some (rawInt L):=by rw[<- m];first | (simp;done) | (rcases x with rfl | ⟨_,_,_,_,_,_,_,rfl⟩ <;> simp)
 have H:d.get? a=some o:=(n.2.1 a K).trans l;have C:=BU (h:=d) { cls:=.type "traceback",dict:=none,data:=.fields e } H;have u:d.objs.size≠a:=CS (BK H);have r:=Obj.data_mapFields g (·.setIfInBounds 1 (Value.ref d.objs.size));have t:∀b p,b≠a->d.get? b=some p->((d.push { cls:=.type "traceback",dict:=none,data:=.fields e }).update a (Obj.mapFields (·.setIfInBounds 1 (Value.ref d.objs.size)))).get? b=some p:=λb p O c=>by
  rw[Dz _ _ (Ne.symm O)];exact BU _ c
 have w:s.heap.UpToSlots ((d.push { cls:=.type "traceback",dict:=none,data:=.fields e }).update a (Obj.mapFields (·.setIfInBounds 1 (Value.ref d.objs.size)))):=λb p c q=>by
  obtain⟨y,j⟩:=n.2.2 b p c;exact⟨y,t b _ (λz=>q I (BD (l.symm.trans (z ▸ c)) ▸ g)) j⟩
 refine wpAny_setField C g F (k _ ?_ ?_)
 ·have D:B.StaysIn d:=λb p c=>(n.2.1 b λz=>by have:=(i.mem z).1;rw[c] at this;cases this).trans (st b p c);refine⟨λb p c=>t b p (λz=>by rw[z,v] at c;cases c) (D b p c),v,i.of_keeps λb p c q=>?_,_,_,d.objs.size,{ cls:=.type "traceback",dict:=none,data:=.fields e },e,Dr _ C (Obj.isFreed_of_fields r),Obj.cls_mapFields _ _,vi _ _,r,by simp[F],D.fresh,u,?_,rfl,N⟩
  ·obtain⟨y,j⟩:=w b p c q;exact⟨_,j,rfl⟩
  ·rw[Dz _ _ (Ne.symm u)];exact Ce d rfl
 ·exact w
theorem pU (X:XF B l a c dd I s.heap):∃T p ts,(∀h',h'=s.heap.update T (Obj.mapFields (·.setIfInBounds 3 x))->XF B l a c dd x h'/\s.heap.UpToSlots h') /\
    s.heap.get? T=some p/\p.data=.fields ts/\ts[3]? = some I/\∃o G,s.heap.get? a=some o/\o.data=.fields G/\G[1]? = some (.ref T):=by
 obtain⟨C,A,v,o,G,T,p,ts,n,E,y,i,k,m,r,h,f,j⟩:=X;have F:3<ts.size:=(DC.mp j).1;refine⟨T,p,ts,λh' e=>?_,h,f,j,o,G,n,i,k⟩;have g:∀b,b≠T->h'.get? b=s.heap.get? b:=λb D=>by rw[e];exact Dz _ _ (Ne.symm D)
 have t:s.heap.UpToSlots h':=λb u d q=>⟨u.slots,(g b λz=>q ts (BD (h.symm.trans (z ▸ d)) ▸ f)).trans d⟩
 refine⟨⟨λb u d=>(g b λz=>by rw[z,m] at d;cases d).trans (C b u d),A,v.of_keeps λb u d q=>?_,o,G,T,Obj.mapFields (·.setIfInBounds 3 x) p,ts.setIfInBounds 3 x,(g a (Ne.symm r)).trans n,E,y,i,k,m,r,?_,Obj.data_mapFields f _,by simp[F]⟩,t⟩
 ·obtain⟨H,w⟩:=t b u d q;exact⟨_,w,rfl⟩
 ·rw[e];exact Dr _ h (Obj.isFreed_of_fields (Obj.data_mapFields f _))
theorem kC (X:XF B l a c dd G s.heap) (k:∀h',XF B l a c dd .none h'->s.heap.UpToSlots h'->Q () { s with heap:=h' }):wpAny M A (setFlight (.ref a) none) Q E s:=by
 obtain⟨T,p,m,z,f,i,b,o,n,e,d,h⟩:=pU (x:=.none) X;unfold setFlight;refine Bz (Ck e d h ?_);rw[if_pos (show (Value.ref T != Value.none)=true by simp)];obtain⟨g,j⟩:=z _ rfl;exact wpAny_setField f i (DC.mp b).1 (k _ g j)
theorem xj (h:A.frames=some (e0::out)) (f:e0.frame=some L) (X:XF B (e0::out) a c dd .none s.heap)
    (k:∀h',XF B (e0::out) a c dd (rawInt L) h'->s.heap.UpToSlots h'->Q () { s with heap:=h' }):wpAny M A (noteFrame (.ref a) e0) Q E s:=by
 obtain⟨T,p,J,z,e,b,d,o,G,q,g,l⟩:=pU (x:=.none) X;unfold noteFrame;simp only[f];refine Bz (Ck q g l ?_);rw[if_pos (show (Value.ref T != Value.none)=true by simp)];refine Bz (Ck e b d ?_);rw[if_neg (show ¬ ((Value.none==rawInt L)=true) by simp[rawInt])];obtain⟨w,C⟩:=z _ rfl;refine Bz (wpAny_setField e b (DC.mp d).1 ?_);obtain⟨v,n,i,I,j,H,K,u,r,t,m,F,D,_⟩:=w;subst t m;exact tf (s:={ s with heap:=s.heap.update T (Obj.mapFields (·.setIfInBounds 3 Value.none)) }) h i f r v n F (DC.mp D).1 λh' x y=>k h' x (C.trans y)
theorem zr (g:A.frames=some (e0::out)) (e:e0.frame=some L) (X:XF B (e0::out) a c dd .none s.heap)
    (k:∀h',XF B out a c dd .none h'->s.heap.UpToSlots h'->Q () { s with heap:=h' }):wpAny M A (leaving e0 (.ref a)) Q E s:=by
 unfold leaving;refine Bz (xj g e X λh' x y=>?_);exact kC (s:={ s with heap:=h' }) x λb d f=>k b d.out (y.trans f)
theorem yW (l:A.frames=some (e0::out)) (h:s.heap.FunFrames B (e0::out)) (d:e0.frame=some L) (c:s.heap.get? a=some o) (st:B.StaysIn s.heap) (j:B.get? a=none) (b:o.data=.fields z) (e:z[1]? = some .none)
    (k:∀h',XF B out a o.cls o.dict .none h'->s.heap.UpToSlots h'->Q () { s with heap:=h' }):wpAny M A (leaving e0 (.ref a)) Q E s:=by
 unfold leaving noteFrame;simp only[d];refine Bz (Bz (Ck c b e ?_));rw[if_neg (by decide)];refine tf l h d c st j b (DC.mp e).1 λh' x y=>?_;exact kC (s:={ s with heap:=h' }) x λf g i=>k f g.out (y.trans i)
end
theorem ObjOk.obj (x:ObjOk P w H h a o):∃z,h.get? a=some z:=by
 cases o with
 | lst xs=>obtain⟨_,_,_,_,e⟩:=x;exact⟨_,e⟩
 | tup xs=>obtain⟨_,_,_,z,e,_⟩:=x;exact⟨_,e⟩
 | dK kvs=>obtain⟨_,_,_,_,o,_,_,e,_⟩:=x;exact⟨_,e⟩
 | dT kvs=>obtain⟨_,_,_,_,o,_,_,e,_⟩:=x;exact⟨_,e⟩
 | set S n=>obtain⟨o,_,_,_,e,_⟩:=x;exact⟨_,e⟩
 | ins C dx fs=>obtain⟨_,_,_,e,_⟩:=x;exact⟨_,e⟩
 | own y=>obtain⟨_,e⟩:=x;exact⟨_,e⟩
 | xd fs=>obtain⟨_,⟨_,_,_,e,_⟩,_⟩:=x;exact⟨_,e⟩
 | rng lo hi=>obtain⟨_,_,_,e⟩:=x;exact⟨_,e⟩
 | frz z u=>obtain⟨e,_⟩:=x;exact⟨_,e⟩
 | tbl ps=>exact⟨_,(show h.get? a=some _ from x)⟩
 | met f y=>exact⟨_,(show h.get? a=some _ from x)⟩
 | ext φ=>obtain⟨_,e,_⟩:=x;exact e
def CX1 (P:Program) (w:World):CXT:=λouter H s E e s' =>
 ∃(a:Addr) (cls:Value) (dd:Option Addr) (B:Heap) (H':Hp),e=.ref a/\s'.os=s.os/\AllBare s'.gens/\Un (frs outer) [] H H' s.heap s'.heap/\HOk P w H' s'.heap/\XF B outer a cls dd .none s'.heap/\H' a=none /\
  (∀b u,H' b=some u->∃o,s'.heap.get? b=some o/\B.get? b=some o)/\(∀b o,s.heap.get? b=some o->H b=none->b∉frs outer->B.get? b=some o)/\(∀b o,s.heap.get? b=some o->b∉frs outer->∃o',B.get? b=some o')/\E cls dd H'
theorem Bb {P:Program}{w:World}{K:W.Frag}{mg:Str -> Option Value}{base:Heap}{N:LS}{qual:Str}{scope:Scope}{f:Addr}{O:Value}{A:Around}{G:List Env}{s:Shared}{H:Hp}{E:XK} :
    kB (CX1 P w) (aV (CX1 P w) P w K mg base N qual scope f O A G s H E) E:=by
 intro V σ Hc sc e s' I h;obtain⟨a,T,dd,B,F,rfl,os,i,un,D,Z,S,X,KB,AB,q⟩:=h;obtain⟨v,Y,J,_,rfl⟩:=I.after (Q:=λ_ Y=>F=Y) (u:=.none) ⟨.non,F,os,i,un,D,rfl,rfl⟩;show wpAny (model P w) (A.deeper (envOfC qual scope s.heap.objs.size f O)) (leaving (envOfC qual scope s.heap.objs.size f O) (.ref a)) (λ_ m=>CX1 P w G H s E (.ref a) m) (λe' m=>CX1 P w G H s E e' m) s';refine zr (out:=G) (L:=s.heap.objs.size) I.ok.frames rfl Z λh2 p x2=>?_;have t:∀b o,s.heap.get? b=some o->H b=none->b∉frs G->B.get? b=some o:=λb o q n g=>by
  have l:sc.heap.get? b=some o:=I.base.keep b o q n g (by intro z;cases z);have k:Hc b=none:=I.base.free b o q n (by intro z;cases z);refine KB b o l k λz=>?_;rcases BH.mp (I.stkSub b z) with r | r
  ·have r:b=s.heap.objs.size:=r;exact absurd (r ▸ BK q) (CJ _)
  ·exact g r
 have C:∀b o,s.heap.get? b=some o->b∉frs G->b∉frs (envOfC qual scope s.heap.objs.size f O::G):=λb o q g z=>by
  rcases BH.mp (I.stkSub b z) with r | r
  ·have r:b=s.heap.objs.size:=r;exact absurd (r ▸ BK q) (CJ _)
  ·exact g r
 have y:∀b o,s.heap.get? b=some o->b∉frs G->∃M,B.get? b=some M:=λb o q g=>by
  obtain⟨oc,ec⟩:=I.base.there b o q (by intro z;cases z);exact AB b oc ec (C b o q g)
 refine⟨a,T,dd,B,F,rfl,J.os,i,?_,λc o e=>(D c o e).stay (λd u hd q'=>?_) (λ_ z=>z) λ_ _ z=>z,p,S,λb u e=>?_,t,y,q⟩
 ·refine⟨λb o q n g x => p.1 b o (t b o q n g), λb o q n g x => ?_, λb o q n x => J.base.free b o q n x, λb o q x => ?_, J.base.tups, J.base.frzs, J.base.tbls⟩
  ·obtain⟨sl,l⟩:=J.base.slot b o q n g x;obtain⟨_,j,R,g2⟩:=(I.ok.funs.mem g)
   have:j=o:=BD (R.symm.trans q);subst this;obtain⟨U,k⟩:=x2 b _ l (by intro vs z;exact g2 vs z);exact⟨U,k⟩
  ·by_cases g:b∈frs G
   ·obtain⟨_,j,R,_⟩:=p.2.2.1.mem g;exact⟨_,R⟩
   ·obtain⟨M,l⟩:=y b o q g;exact⟨M,p.1 b M l⟩
 ·have tr:∃z,F d=some z:=by
     rcases hd with r | r
     ·exact⟨_,r ▸ e⟩
     ·exact⟨_,r⟩
  obtain⟨z,hz⟩:=tr;obtain⟨j,l,k⟩:=X d z hz;have:u=j:=BD (q'.symm.trans l);rw[this];exact p.1 d j k
 ·obtain⟨j,l,k⟩:=X b u e;exact⟨j,p.1 b j k,k⟩
theorem uT {P:Program}{w:World}{K:W.Frag}{mg:Str -> Option Value}{base:Heap}{N:LS}{qual:Str}{scope:Scope}{f:Addr}{J:Value}{A:Around}{G:List Env}{s:Shared}{H:Hp}{E:XK}{pins:List (Addr × Obj)}{σ:St}{H1:Hp}{s1:Shared}{e:Addr}{O:Obj}{U:Array Value}
    (I:Inv (aV (CX1 P w) P w K mg base N qual scope f J A G s H E) pins σ H1 s1) (he:H1 e=none) (T:s1.heap.get? e=some O) (S:O.data=.fields U) (X:U[1]? = some .none) (t:s.heap.get? e=none) (q:E O.cls O.dict H1) :
    (aV (CX1 P w) P w K mg base N qual scope f J A G s H E).xe (.ref e) s1:=by
 show wpAny (model P w) (A.deeper (envOfC qual scope s.heap.objs.size f J)) (leaving (envOfC qual scope s.heap.objs.size f J) (.ref e)) (λ_ j=>CX1 P w G H s E (.ref e) j) (λY j=>CX1 P w G H s E Y j) s1;have F:∀k∈(envOfC qual scope s.heap.objs.size f J::G),∀b,k.frame=some b->b∈e::frs (envOfC qual scope s.heap.objs.size f J::G):=λk he b a=>BQ _ (Da.mpr ⟨k,he,a⟩);refine yW (B:=W.hideAll s1.heap (e::frs (envOfC qual scope s.heap.objs.size f J::G))) (out:=G) (L:=s.heap.objs.size) I.ok.frames (W.funFrames_hide I.stack F) rfl T (λb o z=>W.of_hideAll _ z) (W.hideAll_none _ (.head _)) S X λh2 p V=>?_;have trk:∀b u,H1 b=some u->∃o,s1.heap.get? b=some o/\(W.hideAll s1.heap (e::frs (envOfC qual scope s.heap.objs.size f J::G))).get? b=some o:=λb u m=>by
  obtain⟨o,Q⟩:=ObjOk.obj (I.hok b u m);refine⟨o,Q,W.hideAll_get _ Q λz=>?_⟩;rcases BH.mp z with z | z
  ·rw[z,he] at m;cases m
  ·have:=I.stkFree b z;rw[m] at this;cases this
 have v:∀b o,s.heap.get? b=some o->H b=none->b∉frs G->(W.hideAll s1.heap (e::frs (envOfC qual scope s.heap.objs.size f J::G))).get? b=some o:=λb o z n a=>by
  have h:s1.heap.get? b=some o:=I.base.keep b o z n a (by intro y;cases y);refine W.hideAll_get _ h λy=>?_;rcases BH.mp y with y | y
  ·rw[y,t] at z;cases z
  rcases BH.mp (I.stkSub b y) with r | r
  ·have r:b=s.heap.objs.size:=r;exact absurd (r ▸ BK z) (CJ _)
  ·exact a r
 have x:∀b o,s.heap.get? b=some o->b∉frs G->∃C,(W.hideAll s1.heap (e::frs (envOfC qual scope s.heap.objs.size f J::G))).get? b=some C:=λb o z a=>by
  obtain⟨g,h⟩:=I.base.there b o z (by intro y;cases y);refine⟨g,W.hideAll_get _ h λy=>?_⟩;rcases BH.mp y with y | y
  ·rw[y,t] at z;cases z
  rcases BH.mp (I.stkSub b y) with r | r
  ·have r:b=s.heap.objs.size:=r;exact absurd (r ▸ BK z) (CJ _)
  ·exact a r
 refine⟨e,O.cls,O.dict,_,H1,rfl,I.os,I.bare,?_,λc o R=>(I.hok c o R).stay (λd u hd q'=>?_) (λ_ z=>z) λ_ _ z=>z,p,he,λb u m=>?_,v,x,q⟩
 ·refine⟨λb o z n a _ => p.1 b o (v b o z n a), λb o z n a i => ?_, λb o z n i => I.base.free b o z n i, λb o z i => ?_, I.base.tups, I.base.frzs, I.base.tbls⟩
  ·obtain⟨sl,h⟩:=I.base.slot b o z n a i;obtain⟨_,g,D,Z⟩:=(I.ok.funs.mem a)
   have:g=o:=BD (D.symm.trans z);subst this;obtain⟨M,l⟩:=V b _ h (by intro U y;exact Z U y);exact⟨M,l⟩
  ·by_cases a:b∈frs G
   ·obtain⟨_,g,D,_⟩:=p.2.2.1.mem a;exact⟨_,D⟩
   ·obtain⟨C,h⟩:=x b o z a;exact⟨C,p.1 b C h⟩
 ·have tr:∃z,H1 d=some z:=by
     rcases hd with r | r
     ·exact⟨_,r ▸ R⟩
     ·exact⟨_,r⟩
  obtain⟨z,hz⟩:=tr;obtain⟨g,h,l⟩:=trk d z hz;have:u=g:=BD (q'.symm.trans h);rw[this];exact p.1 d g l
 ·obtain⟨g,h,l⟩:=trk b u m;exact⟨g,p.1 b g l,l⟩
theorem AG {P:Program}{w:World}{K:W.Frag}{mg:Str -> Option Value}{base:Heap}{N:LS}{qual:Str}{scope:Scope}{f:Addr}{J:Value}{A:Around}{G:List Env}{s:Shared}{H:Hp}{E:XK}{pins:List (Addr × Obj)}{σ:St}{H1:Hp}{s1:Shared}{h':Heap}{e:Addr}{cls:Value}{args:LW}
    (I:Inv (aV (CX1 P w) P w K mg base N qual scope f J A G s H E) pins σ H1 s1) (a:Heap.MadeExcOf s1.heap h' e cls args) (q:E cls none H1) :
    (aV (CX1 P w) P w K mg base N qual scope f J A G s H E).xe (.ref e) { s1 with heap:=h' }:=by
 obtain⟨t,d,_,_⟩:=a.there;refine uT (s1:={ s1 with heap:=h' }) (I.kept (t':=s1.toks) a.keeps) ?_ d rfl rfl ?_ q
 ·cases z:H1 e with
  | none=>rfl
  | some u =>
   obtain⟨o,c⟩:=ObjOk.obj (I.hok e u z);rw[a.new] at c;cases c
 ·cases z:s.heap.get? e with
  | none=>rfl
  | some o =>
   obtain⟨g,b⟩:=I.base.there e o z (by intro y;cases y);rw[a.new] at b;cases b
def sV (E:XK) (C:Addr) (ta:TA):TS:=λ_ σ H=>ta σ H λvs H1=>vs.length<=sizeLine/\E (.ref C) none H1
theorem tO {P:Program}{w:World}{K:W.Frag}{mg:Str->Option Value}{base:Heap}{N:LS}{qual:Str}{scope:Scope}{f:Addr}{J:Value}{A:Around}{z:List Env}{s:Shared}{H:Hp}{E:XK}
    {x:Str} {C:Addr} {bm bmN:LW} {B Bn newId nid initId inN:String} {U cpos pos:Pos} {G:Expr} {rest:List Expr} {ta:TA} (O:OwnCls x C bm newId mg base) (Q:ExcBaseFacts Bn newId inN bmN) (d:bm.contains (.type Bn)=true) (i:ExcBaseFacts B nid initId bm)
    (y:Gl (aV (CX1 P w) P w K mg base N qual scope f J A z s H E) x) (t:PA (aV (CX1 P w) P w K mg base N qual scope f J A z s H E) (G::rest) ta)
    (he:starEach (G::rest) (aV (CX1 P w) P w K mg base N qual scope f J A z s H E).env=(false,eval G (aV (CX1 P w) P w K mg base N qual scope f J A z s H E).env)::starEach rest (aV (CX1 P w) P w K mg base N qual scope f J A z s H E).env:=by rfl)
    (hpl:(backTo cpos (starEach rest (aV (CX1 P w) P w K mg base N qual scope f J A z s H E).env)).any (·.1)=false:=by rfl) (hdb:(x==("__debug__":Str))=false:=by decide) :
    PS (aV (CX1 P w) P w K mg base N qual scope f J A z s H E) (.Raise (some (.Call (.Name x U) (G::rest) [] cpos)) none pos) (sV E C ta):=by
 intro a p l n D I h;obtain⟨L,k,nm,q,bs,hdct,sn,sub,ab,col,dd,k0,k1,k2,k3,k5,mN,u,M,c,T⟩:=O.obj;refine wpAny_Raise_call_subU (C:=C) (nm:=nm) (q:=q) (N:=k) (bs:=bs) (bm:=L) (hdct:=hdct) (sn:=sn) (sub:=sub) (ab:=ab) (col:=col) (dd:=dd) (k0:=k0) (k1:=k1) (k2:=k2) (k3:=k3) (k5:=k5)
  Q d i (mN:=mN) (T.hasType i.hasBase) (I.ok.hd rfl) (by rw[he];show (false||_)=false;rw[Bool.false_or];exact hpl) c (fS I y O.bound ?_ hdb)
 refine⟨rfl,?_⟩;rw[he];have b:=t cpos a p l n _ I h;rw[he] at b;refine Calls.evalArgs_plain (thn b λR Y m=>?_);obtain⟨S,X,j,r,o,v⟩:=m;have g:=j.bk;refine⟨rfl,by rw[<- r.length];exact o,g _ _ u,M.keeps g,T.keeps g,λV e F=>AG j F v⟩
section
variable {M:Model}{A:Around}{E:Value->Shared->Prop}{nm q nm' q':Str}{C N D N':Addr}{bs bm bs' bm':LW}{hdct hdct':Bool}{sn sn':LS}{sub sub':LW}{ab ab':Bool}{col col':Option Bool}{dd dd':Option Addr}{k0 k1 k2 k3 k5 j0 j1 j2 j3 j5:Option Value}{newId newId':String}
theorem jx {g:Array GenState}{d:Drawn}{t:Nat}{os:OsState}{Q:Bool -> Shared -> Prop}
    (k:h.get? C=some (excClassObj nm q C N bs bm hdct sn sub ab col dd k0 k1 k2 k3 k5 newId)) (he:h.get? e=some z) (a:z.cls=.ref C)
    (i:h.get? D=some (excClassObj nm' q' D N' bs' bm' hdct' sn' sub' ab' col' dd' j0 j1 j2 j3 j5 newId')) (l:bm'.contains (.type "BaseException")=true)
    (b:(Value.ref C::bm).contains (.ref D)=true) (j:Q true ⟨h,g,d,t,os⟩):wpAny M A (excMatches (.ref e) (.ref D)) Q E ⟨h,g,d,t,os⟩:=by
 have c:(Value.ref D::bm').contains (.type "BaseException")=true:=by rw[List.contains_cons,l,Bool.or_true]
 have f:=tc_notTuple;unfold excMatches
 repeat first
  | (with_reducible refine wpAny_loadPart_at he ?_
     rw[a])
  | with_reducible refine wpAny_loadPart_at i ?_
  | (with_reducible refine wpAny_isSubtype_exc i ?_
     rw[c])
  | (with_reducible refine wpAny_isSubtype_exc k ?_
     rw[b])
  | wp_step
 exact j
end
theorem lB {X:Cx}{pins:List (Addr × Obj)}{σ:St}{H1 H':Hp}{s1 s':Shared}{B h5:Heap}{a:Addr}{cls U:Value}{dd:Option Addr}(I:Inv X pins σ H1 s1) (w:X.stack=X.env :: X.outer) (y:X.env.frame=some X.env.locals)
    (os:s'.os=s1.os) (k:AllBare s'.gens) (p:Un (frs X.stack) [] H1 H' s1.heap s'.heap) (K:HOk X.prog X.w H' s'.heap) (q:XF B X.stack a cls dd U h5) (N:s'.heap.UpToSlots h5)
    (P:∀b u,H' b=some u->∃o,s'.heap.get? b=some o/\B.get? b=some o) (R:∀b o,s1.heap.get? b=some o->H1 b=none->b∉frs X.stack->B.get? b=some o) (V:∀b o,s1.heap.get? b=some o->b∉frs X.stack->∃o',B.get? b=some o') :
    Inv X pins σ H' { s' with heap:=h5 }:=by
 obtain⟨hh,g,d,M,x⟩:=s';obtain rfl:x=s1.os:=os;have i:frs X.stack=X.env.locals::X.fs:=by rw[w];unfold frs;rw[List.filterMap_cons,y];rfl
 have C:∀b,b≠X.env.locals->b∉X.fs->b∉frs X.stack:=λb G F z=>by
  rw[i] at z;rcases BH.mp z with r | r
  ·exact G r
  ·exact F r
 have v:∀b,b∈X.fs->b∈frs X.stack:=λb f=>by rw[i];exact BQ _ f
 have J:∀ {b:Addr} {o:Obj},b∈frs X.stack->s1.heap.get? b=some o->∀l,o.data≠.fields l:=λf e l=>by
  obtain⟨_,t,A,Y⟩:=I.stack.mem f;have:=BD (A.symm.trans e);exact this ▸ Y l
 have h:∀b o,b∈frs X.stack->s1.heap.get? b=some o->H1 b=none->∃D,h5.get? b=some { o with slots:=D }:=λb o f e n=>by
  obtain⟨D,j⟩:=p.slot b o e n f (by intro z;cases z);obtain⟨H,E⟩:=N b _ j (λl z=>J f e l z);exact⟨H,E⟩
 show Inv X pins σ H' { s1 with heap:=h5,gens:=g,drawn:=d,toks:=M };refine Inv.step (s:=s1) (h':=h5) (g':=g) (d':=d) (t':=M) (ch:=[]) I (λb f=>by cases f) (λb o G F _ e n=>q.1 b o (R b o e n (C b G F))) (λb o _ f _ e n=>h b o (v b f) e n) (λb o _ e n=>p.free b o e n (by intro z;cases z)) (λb o _ e=>?_) p.tups p.frzs p.tbls (λm O=>?_) (λc o L=>(K c o L).stay (λd u hd q'=>?_) (λ_ z=>z) λ_ _ z=>z) k
 ·by_cases f:b∈frs X.stack
  ·obtain⟨_,t,A,_⟩:=q.2.2.1.mem f;exact⟨_,A⟩
  ·obtain⟨o',j⟩:=V b o e f;exact⟨o',q.1 b o' j⟩
 ·obtain⟨o,Q,S,T,hd,r⟩:=O;obtain⟨D,j⟩:=h X.env.locals o (by rw[i];simp) T I.free;exact⟨_,Q,S,j,hd,r⟩
 ·have Z:∃z,H' d=some z:=by
     rcases hd with r | r
     ·exact⟨_,r ▸ L⟩
     ·exact⟨_,r⟩
  obtain⟨z,W⟩:=Z;obtain⟨t,j,E⟩:=P d z W;have:u=t:=BD (q'.symm.trans j);rw[this];exact q.1 d t E
abbrev Cx.mark (X:Cx) (e:Value) (E:Value->Shared->Prop):Cx:={ X with A:=X.A.mark (some e),calm:=false,xe:=E }
section
variable {X:Cx}{pins:List (Addr × Obj)}{σ:St}{H:Hp}{s:Shared}{e:Value}{E:Value->Shared->Prop}
theorem Cx.Ok.mark (a:X.Ok):(X.mark e E).Ok :=
 ⟨a.mod,a.kind,a.glob,a.blt,a.above,a.inj,a.has,a.cab,λz=>(by cases z),a.frames,a.stk,a.exf,a.bs,a.bsz,a.noex,a.exfs,a.funs,a.frf⟩
theorem Inv.mark (I:Inv X pins σ H s):Inv (X.mark e E) pins σ H s:=⟨I.ok.mark,I.os,I.bare,I.base,I.loc,I.cell,I.free,I.freeC,I.pin,I.hok,I.len⟩
theorem Inv.unmark (a:X.Ok) (I:Inv (X.mark e E) pins σ H s):Inv X pins σ H s:=⟨a,I.os,I.bare,I.base,I.loc,I.cell,I.free,I.freeC,I.pin,I.hok,I.len⟩
theorem kL (I:Inv X pins σ H s) (hN:X.N.Nodup) (G:X.N[i]? = some n) (V:X.env.kindOf n=some .local)
    (h:∀s',Inv X pins (σ.set i none) H s'->Q () s'):wpAny M A (do bindName X.env n .none;unbindBehindTheSuite X.env n pos) Q E s:=by
 obtain⟨m,F,P⟩:=id I.loc;have t:(X.env.scope.kind==.class||(X.env.scope.kind==.module&&X.env.locals != X.env.globals))=false:=by rw[I.ok.kind];rfl
 have u:i<σ.length:=by rw[I.len];exact(BF.mp G).1
 have l:=I.cne;refine wpAny_nameGoes_keeps V F t λS v C f=>?_;obtain⟨oL,_,_,Y,_⟩:=id F;have a:HOk X.prog X.w H S:=λb T e=>by
  refine(I.hok b T e).stay (λc K w q=>(f.2 c ?_).trans q) (λ_ q=>q) λ_ _ q=>q;rintro rfl;rcases w with z | w
  ·have:=I.free;rw[z] at this;rw[this] at e;cases e
  ·rw[I.free] at w;cases w
 refine h _ ⟨I.ok,I.os,I.bare,⟨λb o e n D r=>?_,λb o e n D r=>?_,I.base.free,λb o e r=>?_,I.base.tups,I.base.frzs,I.base.tbls⟩,⟨_,C,λj y N g x Z=>?_⟩,λy c e=>?_,I.free,I.freeC,λp R=>?_,a,by simpa using I.len⟩
 ·exact(f.2 b (Ca (Cq (BK e) I.ok.above))).trans (I.base.keep b o e n D r)
 ·obtain⟨W,g⟩:=I.base.slot b o e n D r;exact⟨W,(f.2 b (Ca (Cq (BK e) I.ok.above))).trans g⟩
 ·obtain⟨U,g⟩:=I.base.there b o e r;exact⟨U,(f.2 b (Ca (Cq (BK e) I.ok.above))).trans g⟩
 ·by_cases B:j=i
  ·subst B;rw[List.getElem?_set_self u] at x;cases x
  ·rw[DG (Ne.symm B)] at x;obtain⟨u',L,q⟩:=P j y N g x Z;refine⟨u',L,?_⟩;rcases q with⟨k,e⟩ | ⟨k,c,e,z⟩
   ·refine .inl ⟨k,?_⟩;have:y≠n:=λe=>B (jS hN g (e ▸ G));simp[this,e]
   ·exact .inr ⟨k,c,e,z.sameBut f (l y c e)⟩
 ·obtain⟨K,z⟩:=I.cell y c e;exact⟨K,z.sameBut f (l y c e)⟩
 ·obtain⟨e,n,J,O,d⟩:=I.pin p R;exact⟨(f.2 p.1 J).trans e,n,J,O,d⟩
theorem Inv.track (j:Inv X pins σ1 H1 s1) (I:Inv X pins σ H s) (t:s1.heap.get? a=none) (D:H a=none) (k:ObjOk X.prog X.w (upd H a o) s.heap a o):Inv X pins σ (upd H a o) s := by
 have E:∀d,X.s₀.heap.get? a=some d->a∈X.ex:=λd e=>by
  by_cases i:a∈X.ex
  ·exact i
  ·obtain⟨O,A⟩:=j.base.there a d e i;rw[t] at A;cases A
 have h:∀ {b:Addr} {u:HO},H b=some u->b≠a:=λe z=>by rw[z,D] at e;cases e
 have f:∀ {b:Addr} {d:Obj},s1.heap.get? b=some d->b≠a:=λe z=>by rw[z,t] at e;cases e
 obtain⟨L,l,_⟩:=id j.loc;obtain⟨M,_,_,m,_⟩:=l;refine⟨I.ok,I.os,I.bare,⟨I.base.keep,I.base.slot,λb d e n i=>?_,I.base.there,λb B e=>?_,λb x y e=>?_,λb G e=>?_⟩,I.loc,I.cell,?_,λx c e=>?_,λp w=>?_,λb u e=>?_,I.len⟩
 ·have:b≠a:=λz=>i (z ▸ E d (z ▸ e));rw[ah this];exact I.base.free b d e n i
 ·have z:=I.base.tups b B e;rw[ah (h z)];exact z
 ·have z:=I.base.frzs b x y e;rw[ah (h z)];exact z
 ·obtain⟨g,z⟩:=I.base.tbls b G e;exact⟨g,by rw[ah (h z)];exact z⟩
 ·rw[ah (f m)];exact I.free
 ·obtain⟨v,N,z,_⟩:=j.cell x c e;rw[ah (f z)];exact I.freeC x c e
 ·obtain⟨K,J,r⟩:=I.pin p w;obtain⟨F,_⟩:=j.pin p w;exact⟨K,by rw[ah (f F)];exact J,r⟩
 ·by_cases C:b=a
  ·subst C;rw[af] at e;cases e;exact k
  ·rw[ah C] at e;exact(I.hok b u e).stay (λ_ _ _ z=>z) (λc q=>by rw[ah (h q)];exact q) λc B q=>by rw[ah (h q)];exact q
end
def XAt (h:Heap) (C:Addr) (bm:LW):Prop :=
 ∃nm q N bs hdct sn sub ab col dd k0 k1 k2 k3 k5 newId,h.get? C=some (excClassObj nm q C N bs bm hdct sn sub ab col dd k0 k1 k2 k3 k5 newId)
def nA (a C:Addr) (dd:Option Addr):HO:=.ext λh=>∃o,h.get? a=some o/\o.cls=.ref C/\o.dict=dd/\W.notCls o=true
section
open PySem.W PySem.Calls Builtin Builtin.ObjectAttr Builtin.Getset_descriptor
structure XFacts (K:Frag) (C:Addr):Prop where
 ga:findIn K (.ref C) "__getattribute__"=some (some (.builtin "BaseException.__getattribute__"))
 gb:findIn K (.ref C) "__getattr__"=some none
 ha:findIn K (.ref C) "__class__"=some (some (.builtin "object.__class__"))
 hn:specialIn K (.builtin "object.__class__") "__get__"=some (some (.builtin "getset_descriptor.__get__"))
 ht:takesIn K (.builtin "object.__class__")=some true
 hm:mroIn K C (.type "object")=some true
 hb:mroIn K C (.type "BaseException")=some true
 cl:(clsIn K C).isSome=true
variable {K:Frag}{x C:Addr}{h:Heap}{M:Model}
variable {prog:Program}{w:World}{A:Around}{E:Value->Shared->Prop}{s:Shared}
end
section
variable {P:Program}{w:World}{K:W.Frag}{mg:Str->Option Value}{base:Heap}
theorem Fun.okX {x qual:Str}{st:Stmt}{f:Addr}{fd:FuncData}{N ps:LS}{k:Nat}{sp:Sp}(F:Fun K x qual st f fd) (S:FnScope N ps (ak st)) (d:∀I H Q E, sp I H Q E -> I.length=ps.length)
    (a:∀(G:Value) (A:Around) (z:List Env) (s:Shared) (H:Hp) (I:LV) (Q:VK) (E:XK),Room k (A.deeper (envOfC qual (ak st) s.heap.objs.size f G))->sp I H Q E ->
     ∃t,PSs (aV (CX1 P w) P w K mg base N qual (ak st) f G A z s H E) (bX st) t/\t { nx:=λ_ H'=>Q .non H',rt:=Q } (start N I) H):FnOk P w K mg base (CX1 P w) (k+1) f fd ps sp:=by
 obtain⟨n,o,kV,g,l,m,G,j,h,rfl,i,b⟩:=F.ex;exact xg i b S d λA z s H I Q E e c=>a G A z s H I Q E e c
structure CalX (P:Program) (w:World) (K:W.Frag) (mg:Str->Option Value) (base:Heap) (k:Nat) (x:Str) (ps:LS) (sp:Sp):Prop where
 ex:∃(f:Addr) (fd:FuncData),FnOk P w K mg base (CX1 P w) k f fd ps sp/\mg x=some (.ref f)/\W.keepIn K (.ref f)=true/\Binds K fd ps []
theorem xP 
    (c:CalX P w K mg base k x ps sp) (h:Room k (aV (CX1 P w) P w K mg base N qual scope f I A z s H E).A) (d:Gl (aV (CX1 P w) P w K mg base N qual scope f I A z s H E) x)
    (j:PA (aV (CX1 P w) P w K mg base N qual scope f I A z s H E) (e::es) t)
    (l:starEach (e::es) (aV (CX1 P w) P w K mg base N qual scope f I A z s H E).env=(false,eval e (aV (CX1 P w) P w K mg base N qual scope f I A z s H E).env)::starEach es (aV (CX1 P w) P w K mg base N qual scope f I A z s H E).env:=by rfl)
    (hpl:(backTo pos (starEach es (aV (CX1 P w) P w K mg base N qual scope f I A z s H E).env)).any (·.1)=false:=by rfl) (hdb:(x==("__debug__":Str))=false:=by decide) :
    PE (aV (CX1 P w) P w K mg base N qual scope f I A z s H E) (.Call (.Name x p) (e::es) [] pos) (mQ sp [] E t):=by
 obtain⟨g,m,G,i,a,b⟩:=c.ex;exact qi G h d i a b .nil Bb j (hdb:=hdb) (he:=l) (hpl:=hpl)
variable {x:Str}{C N:Addr}{bmB bm bs:LW}{newId:String}{nm q:Str}{hdct:Bool}{sn:LS}{sub:LW}{ab:Bool}{col:Option Bool}{dd:Option Addr}{k0 k1 k2 k3 k5:Option Value}{h:Heap}
theorem ud (X:K.In h) (a:mg x=some (.ref C)) (e:K.lookup C=some (excClassObj nm q C N bs bm hdct sn sub ab col dd k0 k1 k2 k3 k5 newId)) (b:W.nsOkIn K N=true) (c:W.nsIn K N "__init__"=some none)
    (d:W.tailIn K bmB bm=true):OwnCls x C bmB newId mg h :=
 ⟨a,bm,N,nm,q,bs,hdct,sn,sub,ab,col,dd,k0,k1,k2,k3,k5,_,X _ _ e,.of_isNs (W.isNs_of_in X b),W.nsMap_none_of_in X b c,W.tail_of_in X d⟩
theorem kF (X:K.In h) (a:K.lookup C=some (excClassObj nm q C N bs bm hdct sn sub ab col dd k0 k1 k2 k3 k5 newId)):XAt h C bm :=
 ⟨nm,q,N,bs,hdct,sn,sub,ab,col,dd,k0,k1,k2,k3,k5,newId,X _ _ a⟩
end
structure Errs (K:W.Frag) (mg:Str->Option Value) (base:Heap) (ec:Str->Addr) (l c:LS):Prop where
 b:∀x∈l,mg x=some (.ref (ec x))
 f:∀x∈c,XFacts K (ec x)
 ord:("OrderError":Str)∈c
 kit:∀x∈c,x≠"OrderError"->∀y∈l,W.kitOne K (.ref (ec x)) (.ref (ec y))=some (y==x||y==("OrderError":Str))
 val:∀x∈c,W.kitOne K (.ref (ec x)) (.type "ValueError")=some true
 at_:∀x∈c,∃bm,XAt base (ec x) bm/\bm.contains (.type "BaseException")=true/\(Value.ref (ec x)::bm).contains (.ref (ec "OrderError"))=true
 nv:mg "ValueError"=none
 own:∀x∈c,x∉(["NoText","Ring","NoUnit"]:LS)->OwnCls x (ec x) [.type "ValueError",.type "Exception",.type "BaseException",.type "object"] "ValueError.__new__" mg base
theorem mF {P:Program}{w:World}{K:W.Frag}{mg:Str->Option Value}{base:Heap}{J:Str->Addr}{l c:LS}{N:LS}{qual:Str}{scope:Scope}{f:Addr}{I:Value}{A:Around}{z:List Env}{s:Shared}{H:Hp}{E:XK}
    {x:Str} {O cpos pos:Pos} {G:Expr} {rest:List Expr} {ta:TA} (d:Errs K mg base J l c) (b:x∈c) (g:x∉(["NoText","Ring","NoUnit"]:LS))
    (a:Gl (aV (CX1 P w) P w K mg base N qual scope f I A z s H E) x) (e:PA (aV (CX1 P w) P w K mg base N qual scope f I A z s H E) (G::rest) ta)
    (he:starEach (G::rest) (aV (CX1 P w) P w K mg base N qual scope f I A z s H E).env=(false,eval G (aV (CX1 P w) P w K mg base N qual scope f I A z s H E).env)::starEach rest (aV (CX1 P w) P w K mg base N qual scope f I A z s H E).env:=by rfl)
    (hpl:(backTo cpos (starEach rest (aV (CX1 P w) P w K mg base N qual scope f I A z s H E).env)).any (·.1)=false:=by rfl) (hdb:(x==("__debug__":Str))=false:=by decide) :
    PS (aV (CX1 P w) P w K mg base N qual scope f I A z s H E) (.Raise (some (.Call (.Name x O) (G::rest) [] cpos)) none pos) (sV E (J x) ta) :=
 tO (d.own x b g) PySem.F.excBase_ValueError (by decide) PySem.F.excBase_ValueError a e he hpl hdb
abbrev fy (C:Addr) (dd:Option Addr) (t:Addr):Obj:={ cls:=.ref C,dict:=dd,data:=.fields #[.ref t,.none,.none,.none,.bool false,.none] }
abbrev wg (us:LW):Obj:={ cls:=.type "tuple",data:=.seq us.toArray }
def dF (a C:Addr) (dd:Option Addr):HO:=.ext λh=>∃t,h.get? a=some (fy C dd t)
section
variable {prog:Program}{w:World}{A:Around}{E:Value->Shared->Prop}{h:Heap}{g:Array GenState}{d:Drawn}{tk:Nat}{os:OsState}
variable {nm q:Str}{C N fI:Addr}{oI:Obj}{bs bm bmB bmN:LW}{hdct:Bool}{sn:LS}{sub:LW}{ab:Bool}{col:Option Bool}{dd:Option Addr}{k0 k1 k2 k3 k5:Option Value}{B Bn newId nid initId inN:String}{mN:Str->Option Value}{us:LW}
theorem qZ (j:ExcBaseFacts Bn newId inN bmN) (a:bmB.contains (.type Bn)=true) (F:ExcBaseFacts B nid initId bmB) (T:OwnTail h bmB bm) (f:h.get? C=some (excClassObj nm q C N bs bm hdct sn sub ab col dd k0 k1 k2 k3 k5 newId)) (s:h.Ns N mN)
    (v:mN "__init__"=some (.ref fI)) (p:h.get? fI=some oI) (t:oI.cls=.type "function") (u:us.length<=sizeLine)
    (k:∀h' e,Heap.MadeExcOf h h' e (.ref C) us->wpAny (model prog w) A (call (.ref fI) (.ref e::us)) (λr s'=>r=.none/\Q (.done (.ret (.ref e))) s') E ⟨h',g,d,tk,os⟩) :
    wpAny (model prog w) A (Builtin.«type.__call__» ⟨.ref C::us,[]⟩) Q E ⟨h,g,d,tk,os⟩:=by
 repeat (first | with_reducible refine wpAny_madeBy_exc f ?_ | with_reducible refine wpAny_loadPart_at f ?_ | wp_step)
 refine codeAny_call_builtin_code (Code.quiet_builtin _ j.quiet) (wpAny_check_new_subU j a T f (codeAny_exc_new_subU j a F T f ?_ u));show wpAny _ _ _ _ _ _;have c:∀b o,h.get? b=some o->((h.push (wg us)).push (fy C none h.objs.size)).get? b=some o:=λb o z=>BU _ (BU _ z);have l:((h.push (wg us)).push (fy C none h.objs.size)).get? (h.objs.size+1)=some (fy C none h.objs.size):=by heap_get
 have m:=c _ _ f;have n:(Value.ref C::bm).contains (.ref C)=true:=by simp
 have i:((h.push (wg us)).push (fy C none h.objs.size)).Ns N mN:=s.keeps c;unfold isInstance
 repeat (first | with_reducible refine wpAny_loadPart_at l ?_ | (with_reducible refine wpAny_isSubtype_exc m ?_;rw[n]) | wp_step)
 show wpAny _ _ (typeLookup (.ref C) "__init__") _ _ _;refine wpAny_typeLookup_tail m i (T.keeps c) F.mroIs F.init.lookup ?_;rw[v];refine Ct (Bz ?_);unfold bindSpecial;refine Bz (wpAny_typeOf (T:="function") ⟨oI,c _ _ p,t⟩ ?_);rw[if_pos (by decide)];refine BC (Bz (CF (k _ (h.objs.size+1) ⟨c,DF (Nat.le_succ _),h.objs.size,l,DF (BB _),BU _ (Heap.get?_push_at rfl rfl)⟩) (λr s' z=>?_) λ_ _ x=>x));obtain⟨rfl,z⟩:=z
 wp_walk
 exact z
theorem sQ (l:ExcBaseFacts Bn newId inN bmN) (b:bmB.contains (.type Bn)=true) (F:ExcBaseFacts B nid initId bmB) (T:OwnTail h bmB bm) (a:h.get? C=some (excClassObj nm q C N bs bm hdct sn sub ab col dd k0 k1 k2 k3 k5 newId)) (f:h.Ns N mN)
    (n:mN "__init__"=some (.ref fI)) (c:h.get? fI=some oI) (i:oI.cls=.type "function") (m:us.length<=sizeLine)
    (k:∀h' e,Heap.MadeExcOf h h' e (.ref C) us->wpAny (model prog w) (A.under (.builtin "type.__call__" ⟨.ref C::us,[]⟩)) (call (.ref fI) (.ref e::us)) (λr s'=>r=.none/\Q (.ref e) s') E ⟨h',g,d,tk,os⟩) :
    wpAny (model prog w) A (call (.ref C) us) Q E ⟨h,g,d,tk,os⟩:=by
 have s:=tc_lookup;have o:=tc_bind (.ref C);have p:(⟨h,g,d,tk,os⟩:Shared).TypeIs (.ref C) "type":=⟨_,a,rfl⟩
 refine wpAny_call (codeAny_of_tree ?_);show wpAny _ _ (callAny (.ref C) _) _ _ _
 repeat (any_goals (first | assumption | wp_step | with_reducible refine wpAny_loadPart_at a ?_))
 refine⟨rfl,codeAny_call_builtin_at (Code.quiet_builtin _ (by decide +kernel)) entry_typeCall (wpAny_check_type_call_sub a (qZ l b F T a f n c i m λh' e j=>?_))⟩;exact k h' e j
end
section
variable {M:Model}{A:Around}{E:Value->Shared->Prop}{env:Env}{s:Shared}{bm:LW}{C:Addr}
theorem rH (m:bm.contains (.type "BaseException")=true) (f:A.handled=none)
    (h:wpAny M A x (λv s1=>∃e t G,v=.ref e/\XAt s1.heap C bm/\s1.heap.get? e=some (fy C G t)/\E (.ref e) s1) E s):wpAny M A (raiseStmt env (some x) none) Q E s:=by
 have i:(Value.ref C::bm).contains (.type "BaseException")=true:=by rw[List.contains_cons,m,Bool.or_true]
 unfold raiseStmt;refine Bz (CF h (λv s1 z=>?_) λ_ _ y=>y);obtain⟨e,t,G,rfl,⟨J,q,N,B,c,o,j,L,k,D,p,H,u,w,F,a,b⟩,d,l⟩:=z;obtain⟨r,g,n,I,K⟩:=s1
 repeat (first | (with_reducible refine wpAny_isSubtype_exc b ?_;rw[i]) | with_reducible refine wpAny_loadPart_at d ?_ | with_reducible refine wpAny_loadPart_at b ?_ | wp_step)
 exact wpAny_raiseNew_none f l
end
def bmV:LW:=[.type "ValueError",.type "Exception",.type "BaseException",.type "object"]
def mY (l:LW):Bool:=match l with
 | .ref _::.ref _::r=>r==bmV
 | _=>false
theorem pI (a:Value) (e:mY l=true):refuseLoop a "__setattr__" l=pure ():=by
 unfold mY at e
 split at e
 ·rw[refuseLoop_ref,refuseLoop_ref,beq_iff_eq.mp e];exact PySem.F.store_ValueError.passes a
 ·cases e
structure XSet (K:W.Frag) (C:Addr) (f:Str):Prop where
 sa:W.findIn K (.ref C) "__setattr__"=some (some (.builtin "object.__setattr__"))
 po:(W.clsIn K C).any (λcd=>mY cd.mro)=true
 na:W.findIn K (.ref C) f=some none
 hd:W.hasDictIn K C=true
 hm:W.mroIn K C (.type "object")=some true
section
open PySem.W Builtin Builtin.ObjectAttr
variable {prog:Program}{w:World}{A:Around}{E:Value->Shared->Prop}{s:Shared}{K:Frag}{x C t:Addr}{f:Str}{v:Value}
theorem Bf (a:h.get? x=some (fy C none t)):InstAt h x (fy C none t) C none:=⟨a,rfl,rfl,True.intro⟩
theorem setX (X:K.In s.heap) (Z:XSet K C f) (c:s.heap.get? x=some (fy C none t))
    (k:∀h' d,s.heap.objs.size<=d->h'.get? x=some (fy C (some d) t)->h'.Ns1 d (λy=>if y=f then some v else none)->(∀b o,b≠x->s.heap.get? b=some o->h'.get? b=some o)->Q () { s with heap:=h',toks:=s.toks+2 }) :
    wpAny (model prog w) A (setAttr (.ref x) f v) Q E s:=by
 have I:=Bf c;obtain⟨L,g,F⟩:=any_some Z.po;obtain⟨r,l,i⟩:=any_some Z.hd;cases BD (l.symm.trans g);refine set_plain X I Z.sa ?_;have G:=PySem.F.store_object;have M:Looks (model prog w) s.heap (isInstance (.ref x) (.type "object")) true:=I.type.andThen (looks_mroIn X Z.hm);have N:Looks (model prog w) s.heap (mroOf (.ref C)) L.mro:=(looks_clsIn X g).andThen .now;refine codeAny_call_builtin G.slot.plain G.entry (@check_slot (model prog w) _ _ { s with toks:=s.toks+1 } "object.__setattr__" "object" "__setattr__" (.ref x) [.str f s.toks,v] [] _ G.kind G.split M (G.args (.ref x) (.str f s.toks) v) ?_);rw[osa_eq,refuse_eq];refine Bz (Bz (Looks.here (s:={ s with toks:=s.toks+1 }) I.type (Bz (Looks.here (s:={ s with toks:=s.toks+1 }) N ?_))));rw[pI _ F];refine BC (Bz (Looks.here (s:={ s with toks:=s.toks+1 }) I.type (Bz (Looks.here (s:={ s with toks:=s.toks+1 }) (looks_findIn X Z.na) (Bz (BC ?_))))));have nx:x≠s.heap.objs.size:=Ca (BK c);refine Bz (BC (Bz (Bz (wpAny_loadPart c (Bz (Looks.here (s:={ s with toks:=s.toks+1 }) (looks_clsIn X g) ?_))))));rw[i];show wpAny _ _ (alloc { cls:=Value.type "dict",data:=Data.dict #[] } >>= _) _ _ _;have p:=BU (h:=s.heap) { cls:=.type "dict",data:=.dict #[] } c;refine Bz (wpAny_alloc' (Bz (wpAny_update' p (BC ?_))));generalize m:(s.heap.push { cls:=.type "dict",data:=.dict #[] }).update x (λo=>{ cls:=o.cls,dict:=some s.heap.objs.size,data:=o.data,slots:=o.slots })=a;have R:a.get? s.heap.objs.size=some { cls:=.type "dict",data:=.dict #[] }:=by rw[<- m];exact(Heap.get?_update_ne _ _ _ _ (Ne.symm nx)).trans (Heap.get?_push_at rfl rfl)
 have T:a.get? x=some (fy C (some s.heap.objs.size) t):=by rw[<- m];exact Dr _ p rfl
 have D:∀b o,b≠x->s.heap.get? b=some o->a.get? b=some o:=λb o j z=>by rw[<- m];exact(Heap.get?_update_ne _ _ _ _ j).trans (BU _ z)
 have P:a.Ns s.heap.objs.size (λ_=>none):=⟨_,#[],_,R,rfl,(λe B=>absurd B (by simp)),λ_=>rfl⟩
 show wpAny _ _ (storeInDict s.heap.objs.size (.str f s.toks) f v) _ _ _;unfold storeInDict newKeyGuard;refine Bz (BC (Bz (wpAny_nsSet1 (Heap.Ns1.of_empty P) λh' q n=>?_)));obtain⟨U,u,J,S,O,H⟩:=q.count (Within.cons f v Within.nil);refine Bz (wpAny_lookBehind S (by rw[O];exact pastItsLine_dict (BP H (by rw[BN,Df,sizeLine_eq];omega))) ?_);refine BC ?_;exact k h' s.heap.objs.size (BB _) ((n.2 x nx).trans T) q λb o j z=>(n.2 b (Ca (BK z))).trans (D b o j z)
end
section
variable {X:Cx}{pins:List (Addr × Obj)}{σ:St}{H:Hp}{s:Shared}{A:Around}{E:Value->Shared->Prop}{a C:Addr}{f:Str}
theorem pZ (I:Inv X pins σ H s) (h:H a=some (dF a C dd)):∃t,s.heap.get? a=some (fy C dd t):=(show ObjOk X.prog X.w H s.heap a (dF a C dd) from I.hok a _ h).1
theorem qr (e:h.get? a=some (fy C dd t)):ObjOk P w H h a (dF a C dd) :=
 ⟨⟨t,e⟩,⟨_,e⟩,λ_ _ ⟨u,q⟩ z=>⟨u,z _ q⟩⟩
theorem yB (I:Inv X pins σ H s) (e:H a=some (dF a C none)) (Z:XSet X.K C f) (O:RelV y u)
    (k:∀d s',H d=none->d≠a->Inv X pins σ (upd (upd H d (.xd [(f,y)])) a (dF a C (some d))) s'->Q () s'):wpAny (model X.prog X.w) A (setAttr (.ref a) f u) Q E s:=by
 obtain⟨t,J⟩:=pZ I e;refine setX I.kIn Z J λV d G F T p=>?_;have x:H d=none:=I.hok.fresh G;have K:d≠a:=λz=>by rw[z,e] at x;cases x
 have gd:s.heap.get? d=none:=DF G;refine k d _ x K ?_;have R:∀ {b:Addr} {v:HO},H b=some v->b≠d:=λh l=>by rw[l,x] at h;cases h
 have B:∀ {b:Addr},H b=none->b≠a:=λh l=>by rw[l,e] at h;cases h
 have i:∀b,b≠a->b≠d->upd (upd H d (.xd [(f,y)])) a (dF a C (some d)) b=H b:=λb h l=>by rw[ah h,ah l]
 have g:∀(b:Addr) (v:HO),H b=some v->v≠dF a C none->upd (upd H d (.xd [(f,y)])) a (dF a C (some d)) b=some v:=λb v h l=>by rw[i b (λz=>by rw[z,e] at h;exact l (BD h).symm) (R h)];exact h
 refine Inv.step (g':=s.gens) (d':=s.drawn) (t':=s.toks+2) (ch:=[]) I (λb j=>by cases j) (λb o _ _ _ z n=>p b o (B n) z) (λb o _ _ _ z n=>⟨o.slots,p b o (B n) z⟩) (λb o _ z n=>?_) (λb o _ z=>?_)
  (λb U z=>g b _ z (by intro q;cases q)) (λb o v z=>g b _ z (by intro q;cases q)) (λb W z=>⟨#[],by rw[Array.append_empty];exact g b _ z (by intro q;cases q)⟩) (λm L=>?_) (λb v z=>?_) I.bare
 ·rw[i b (B n) λq=>by rw[q,gd] at z;cases z];exact n
 ·by_cases j:b=a
  ·exact⟨_,j ▸ F⟩
  ·exact⟨o,p b o j z⟩
 ·obtain⟨o,M,P,S,r⟩:=L;exact⟨o,M,P,p _ o (B I.free) S,r⟩
 ·by_cases j:b=a
  ·subst j;rw[af] at z;cases z;exact qr F
  ·by_cases hd:b=d
   ·subst hd;rw[ah j,af] at z;cases z;refine⟨_,T,λD=>?_⟩;show RelO (List.lookup D [(f,y)]) (if D=f then some u else none);by_cases q:D=f
    ·subst q;simp only[List.lookup,beq_self_eq_true,if_pos];exact O
    ·have:(D==f)=false:=beq_eq_false_iff_ne.mpr q;simp only[List.lookup,this,if_neg q];exact True.intro
   ·rw[i b j hd] at z;refine(I.hok b v z).stay (λc w N q=>p c w ?_ q) (λc q=>g c _ q (by intro q;cases q)) λc U q=>g c _ q (by intro q;cases q);rintro rfl;rcases N with r | r
    ·exact j r.symm
    ·rw[e] at r;cases r
def AX (K:W.Frag) (ta tv:TE) (f:Str):TS:=λD σ H=>tv σ H λy H1=>ta σ H1 λx H2=>∃a C,x=.ref a/\H2 a=some (dF a C none)/\XSet K C f/\∀d,H2 d=none->d≠a->D.nx σ (upd (upd H2 d (.xd [(f,y)])) a (dF a C (some d)))
theorem zk (l:PE X o ta) (m:PE X z J) (w:swapsWith z (some (.Attribute o f G)) pos.line X.env=pure false):PS X (.Assign [.Attribute o f G] z pos) (AX X.K ta J f):=by
 intro b s c H D I h;refine plainObj_wpAny_Assign_Attribute (thn (m b s c H _ I h) λu k ⟨y,g,v,r,q⟩=>thn (l b k c g _ v q) λp K ⟨x,F,A,i,a,C,j,t,Z,n⟩=>?_) w;subst j;obtain rfl:p=Value.ref a:=i;exact yB A t Z r λd E hd e B=>⟨c,_,B,n d hd e⟩
end
theorem yE {K:W.Frag}{h:Heap}{N:Addr}{mN:Str -> Option Value}{n:Str}{v:Value}(X:K.In h) (G:h.Ns N mN) (e:W.nsIn K N n=some (some v)):mN n=some v := by
 obtain⟨o,d,f,a,c,_,b⟩:=G;unfold W.nsIn at e
 split at e
 ·rename_i q
  have z:=X _ _ q;rw[a] at z;cases z;cases c
  split at e
  ·rename_i en he
   cases e;rw[<- b];unfold nsFind findBy;rw[<- Array.find?_toList,he];rfl
  ·split at e <;> cases e
 ·cases e
structure OwnI (x:Str) (C fI:Addr) (mg:Str->Option Value) (h:Heap):Prop where
 bound:mg x=some (.ref C)
 obj:∃tl N nm q bs hdct sn sub ab col dd k0 k1 k2 k3 k5 mN oI,h.get? C=some (excClassObj nm q C N bs tl hdct sn sub ab col dd k0 k1 k2 k3 k5 "ValueError.__new__")/\h.Ns N mN/\mN "__init__"=some (.ref fI)/\OwnTail h bmV tl/\h.get? fI=some oI/\oI.cls=.type "function"
def del (H:Hp) (e:Addr):Hp:=λb=>if b=e then none else H b
theorem wu:del H e e=none:=by unfold del;rw[if_pos rfl]
theorem oO (h:b≠e):del H e b=H b:=by unfold del;rw[if_neg h]
theorem Inv.del (I:Inv X pins σ H s) (he:H e=some (dF e C dd)):Inv X pins σ (del H e) s := by
 have d:∀(b:Addr) (v:HO),H b=some v->v≠dF e C dd->L2.del H e b=some v:=λb v z n=>by rw[oO λq=>by rw[q,he] at z;exact n (BD z).symm];exact z
 have f:∀b,H b=none->L2.del H e b=none:=λb z=>by
  unfold L2.del;split
  ·rfl
  ·exact z
 refine⟨I.ok,I.os,I.bare,⟨I.base.keep,I.base.slot,λb o z n l=>f b (I.base.free b o z n l),I.base.there,λb g z=>d b _ (I.base.tups b g z) (by intro q;cases q),λb o u z=>d b _ (I.base.frzs b o u z) (by intro q;cases q),λb r z=>?_⟩,I.loc,I.cell,f _ I.free,λx c z=>f _ (I.freeC x c z),λp i=>?_,λb v z=>?_,I.len⟩
 ·obtain⟨a,q⟩:=I.base.tbls b r z;exact⟨a,d b _ q (by intro q;cases q)⟩
 ·obtain⟨k,m,j⟩:=I.pin p i;exact⟨k,f _ m,j⟩
 ·have h:H b=some v:=by
     unfold L2.del at z;split at z
     ·cases z
     ·exact z
  exact(I.hok b v h).stay (λ_ _ _ q=>q) (λc q=>d c _ q (by intro q;cases q)) λc g q=>d c _ q (by intro q;cases q)
def qD (E:XK) (C:Addr) (sp:Sp) (ta:TA):TS:=λ_ σ H=>ta σ H λvs H1=>vs.length<=sizeLine/\∀e,H1 e=none->sp (.ref e::vs) (upd H1 e (dF e C none)) (λv H2=>v=.non/\∃dd,H2 e=some (dF e C dd)/\E (.ref C) dd (del H2 e)) E0
theorem uI {P:Program}{w:World}{K:W.Frag}{mg:Str -> Option Value}{base:Heap}{N:LS}{qual:Str}{scope:Scope}{f:Addr}{U:Value}{A:Around}{G:List Env}{s:Shared}{H:Hp}{E:XK}
    {x:Str} {C fI:Addr} {fd:FuncData} {ps:LS} {sp:Sp} {k:Nat} {np cpos pos:Pos} {J:Expr} {rest:List Expr} {ta:TA} (O:OwnI x C fI mg base) (kp:W.keepIn K (.ref C)=true)
    (F:FnOk P w K mg base CX0 k fI fd ps sp) (hb:Binds K fd ps []) (hr:Room (k+1) (aV (CX1 P w) P w K mg base N qual scope f U A G s H E).A)
    (hg:Gl (aV (CX1 P w) P w K mg base N qual scope f U A G s H E) x) (ha:PA (aV (CX1 P w) P w K mg base N qual scope f U A G s H E) (J::rest) ta)
    (he:starEach (J::rest) (aV (CX1 P w) P w K mg base N qual scope f U A G s H E).env=(false,eval J (aV (CX1 P w) P w K mg base N qual scope f U A G s H E).env)::starEach rest (aV (CX1 P w) P w K mg base N qual scope f U A G s H E).env:=by rfl)
    (hpl:(backTo cpos (starEach rest (aV (CX1 P w) P w K mg base N qual scope f U A G s H E).env)).any (·.1)=false:=by rfl) (hdb:(x==("__debug__":Str))=false:=by decide) :
    PS (aV (CX1 P w) P w K mg base N qual scope f U A G s H E) (.Raise (some (.Call (.Name x np) (J::rest) [] cpos)) none pos) (qD E C sp ta):=by
 intro a s1 σ H1 D I h;obtain⟨tl,Nn,nm,q,bs,m,sn,L,ab,X,dd,k0,k1,k2,k3,k5,mN,oI,Y,hN,hi,T,gf,cf⟩:=O.obj;rw[arm_exec_Raise];refine Bz (wpAny_standAt (rH (C:=C) (bm:=tl) (T.hasType PySem.F.excBase_ValueError.hasBase) (I.ok.hd rfl) ?_));show wpAny _ _ (do let v ← eval (.Call (.Name x np) (J::rest) [] cpos) _;standAt pos;pure v) _ _ _;refine Bz (thn (Q:=λv p=>∃e t S,v=.ref e/\XAt p.heap C tl/\p.heap.get? e=some (fy C S t)/\(aV (CX1 P w) P w K mg base N qual scope f U A G s H E).xe (.ref e) p) ?_ λv p z=>Bz (wpAny_standAt (BC z)));refine Dy (fS I hg O.bound ?_ hdb);refine W.callWith_K (h₀:=base) I.ok.mod.kin kp (thn (ha cpos a s1 σ H1 _ I h) λb s2 ⟨vs,M,i,r,hl,q2⟩=>⟨i.kIn,?_⟩) he hpl;have n:=i.bk;obtain⟨hh,g,d,Z,os⟩:=s2;refine sQ PySem.F.excBase_ValueError (by decide) PySem.F.excBase_ValueError (T.keeps n) (n _ _ Y) (hN.keeps n) hi (n _ _ gf) cf (by rw[List.nil_append,<- r.length];exact hl) λh' e c=>?_;rw[List.nil_append] at c ⊢;obtain⟨t,ge,_,_⟩:=c.there;have ne:M e=none:=by
  cases z:M e with
  | none=>rfl
  | some u =>
   obtain⟨o,ho⟩:=ObjOk.obj (i.hok e u z);rw[c.new] at ho;cases ho
 have n0:s.heap.get? e=none:=by
  cases z:s.heap.get? e with
  | none=>rfl
  | some o =>
   obtain⟨o',e'⟩:=i.base.there e o z (by intro y;cases y);rw[c.new] at e';cases e'
 have R:Inv (aV (CX1 P w) P w K mg base N qual scope f U A G s H E) a σ (upd M e (dF e C none)) ⟨h',g,d,Z,os⟩ :=
  Inv.track i (i.kept (t':=Z) c.keeps) c.new ne (qr ge)
 have hs:=q2 e ne;have r2:Vals (V.ref e::vs) (Value.ref e::b):=.cons rfl r;have l:(Value.ref e::b++[]).length=ps.length:=by rw[Cm,<- r2.length];exact F.len _ _ _ _ hs
 refine wpAny_call (codeAny_mono (F.run _ _ _ _ ⟨Value.ref e::b,[]⟩ (Value.ref e::b++[]) (V.ref e::vs) _ _ (hr.make C b []) (R.env0.make C b []) (hb _ (Value.ref e::b) R.kIn l) (by rw[Cm];exact r2) hs) λr s' j=>?_);cases r with
 | error ev=>exact False.elim j
 | ok fl =>
  cases fl with
  | ret u =>
   obtain⟨v,H4,B,rv,rfl,S,e4,qE⟩:=R.after j;obtain⟨t4,g4⟩:=pZ B e4;refine⟨rv,e,t4,S,rfl,⟨nm,q,Nn,bs,m,sn,L,ab,X,dd,k0,k1,k2,k3,k5,_,B.bk _ _ Y⟩,g4,?_⟩;exact uT (B.del e4) wu g4 rfl rfl n0 qE
  | next=>exact False.elim j
  | brk=>exact False.elim j
  | cont=>exact False.elim j
structure XGet (K:W.Frag) (C:Addr) (f:Str):Prop where
 na:W.findIn K (.ref C) f=some none
 hd:W.hasDictIn K C=true
section
open PySem.W PySem.Calls Builtin Builtin.ObjectAttr
variable {K:Frag}{x C:Addr}{h:Heap}{M:Model}{prog:Program}{w:World}{A:Around}{E:Value->Shared->Prop}{s:Shared}{ox od:Obj}{f:Str}{u:Value}
theorem By (Z:XFacts K C) (X:K.In s.heap) (I:InstAt s.heap x ox C (some od)) (a:findObj K C (some od) f=some (.value u)) (h:R (.ok (.ret u)) s) :
    codeAny (model prog w) A (.call (.builtin "BaseException.__getattribute__") ⟨[.ref x,.str f tk],[]⟩) R s:=by
 have i:=I.type (M:=model prog w);have m:=looks_mroIn (M:=model prog w) X Z.hb;have e:=looks_find (M:=model prog w) X I a;have b:builtinKind "BaseException.__getattribute__"=some .slot:=by decide +kernel
 have c:splitId "BaseException.__getattribute__"=some ("BaseException","__getattribute__"):=by decide +kernel
 have j:=PySem.F.args_bexc_ga (.ref x) (.str f tk);obtain⟨k,g,d,t,l⟩:=s;refine codeAny_call_builtin PySem.F.attr_ValueError.ga.plain PySem.F.entry_bexc_ga ?_;simp only[checkBuiltinCall,b,c];refine Bz ?_;unfold isInstance
 repeat lk
 exact h
theorem As (Z:XFacts K C) (X:K.In s.heap) (I:InstAt s.heap x ox C (some od)) (d:findObj K C (some od) f=some (.value u)) (e:handedIn u=true) (h:Q u { s with toks:=s.toks+1 }) :
    wpAny (model prog w) A (getAttr (.ref x) f b) Q E s:=by
 have c:=I.type (M:=model prog w);have i:=looks_findIn (M:=model prog w) X Z.ga;have a:=looks_findIn (M:=model prog w) X Z.gb;have j:=PySem.F.attr_ValueError.ga.bind (.ref x);obtain⟨l,g,k,t,m⟩:=s;simp only[getAttr,getAttrBy];refine Bz (wpAny_mkText (Ct (Bz (c.at (Bz (i.at ?_))))));show wpAny _ _ (getAttrByItsOwn _ _ _ _ _ _) _ _ _;refine Bz ?_;show wpAny _ _ (typeLookup (.ref C) "__getattr__") _ _ _;refine a.at (Bz (wpAny_attempt (Ct ?_)));unfold callGetattribute;rw[if_neg (by cases b <;> decide)];unfold boundAndCalled;rw[j];refine Bz (BC ?_);show wpAny _ _ (call (.builtin "BaseException.__getattribute__") [.ref x,.str f t]) _ _ _;refine wpAny_call (By Z X I d ?_);show wpAny _ _ (handedOut u) _ _ _;exact handed_on e (by exact h)
end
section
variable {X:Cx}{e:Expr}{f:Str}{pos:Pos}{ta:TE}
def xE (K:W.Frag) (ta:TE) (f:Str):TE:=λσ H Q=>ta σ H λx H1=>∃a C d fs v,x=.ref a/\H1 a=some (nA a C (some d))/\H1 d=some (.xd fs)/\fs.lookup f=some v/\XFacts K C/\XGet K C f/\Q v H1
theorem yS (he:PE X e ta) (M:attributeBase e f X.env (eval e X.env)=eval e X.env):PE X (.Attribute e f pos) (xE X.K ta f):=by
 intro b s k H Q I h;refine xJ M (thn (he b s k H _ I h) λu g ⟨x,i,c,m,a,C,d,F,v,n,D,L,l,Z,G,q⟩=>?_);subst n;obtain rfl:u=Value.ref a:=m;obtain⟨o,B,w,A,E⟩:=(show ObjOk X.prog X.w i g.heap a (nA a C (some d)) from c.hok a _ D).1;obtain⟨y,K,r⟩:=(show ObjOk X.prog X.w i g.heap d (.xd F) from c.hok d _ L)
 obtain⟨t,gd,z⟩:=mq K;obtain⟨N,p,j⟩:=RelO.some_of (v:=v) (o:=y f) (by rw[<- l];exact r f);have J:W.InstAt g.heap a o C (some t):=⟨B,w,E,by rw[A];exact gd⟩
 exact As Z c.kIn J (W.findObj_own G.hd G.na rfl (by rw[z,p])) (tW j) ⟨v,i,c.tok _,j,q⟩
end
end L2
namespace L2
open PySem
theorem gi {R J:St->Hp->Prop}{G:Prop}(a:(∀σ H,J σ H->R σ H)->G) (rest:∀σ H,J σ H->R σ H):G:=a rest
end L2
namespace L2
open PySem PySem.Spec PyProof.Rows
def fv (ps:List (Str × Addr)) (x:Str):Addr:=(ps.lookup x).getD 0
theorem hV:∀ {ps:List (Str × Addr)}, (ps.map (·.1)).Nodup -> ∀p ∈ ps, fv ps p.1=p.2
 | [],_,p,h=>by cases h
 | q::ps,nd,p,h=>by
  rw[BZ,Cd] at nd;unfold fv;rcases BH.mp h with rfl | h
  ·rw[Cz];simp
  ·have ne:p.1≠q.1:=λz=>nd.1 (z ▸ BE.mpr ⟨p,h,rfl⟩);have:(p.1==q.1)=false:=by simpa using ne
   rw[Cz,this];exact hV nd.2 p h
theorem fF {α:Type}{P:α->Prop}:∀x∈([]:List α),P x:=λx h=>by cases h
theorem bi {α:Type}{P:α->Prop}{a:α}{l:List α}(h:P a) (g:∀x∈l,P x):∀x∈a::l,P x:=λx b=>by
 rcases BH.mp b with rfl | b
 ·exact h
 ·exact g x b
variable {K:W.Frag}{mg:Str->Option Value}{base:Heap}
theorem zd {ps cs:List (Str × Addr)}(s:(ps.map (·.1)).Nodup) (sub:∀p∈cs,p∈ps) (b:∀p∈ps,mg p.1=some (.ref p.2)) (f:∀p∈cs,XFacts K p.2) (g:("OrderError":Str)∈cs.map (·.1))
    (m:∀p∈cs,p.1≠"OrderError"->∀q∈ps,W.kitOne K (.ref p.2) (.ref q.2)=some (q.1==p.1||q.1==("OrderError":Str))) (j:∀p∈cs,W.kitOne K (.ref p.2) (.type "ValueError")=some true)
    (l:∀p∈cs,∃bm,XAt base p.2 bm/\bm.contains (.type "BaseException")=true/\(Value.ref p.2::bm).contains (.ref (fv ps "OrderError"))=true) (o:mg "ValueError"=none)
    (k:∀p∈cs,p.1∉(["NoText","Ring","NoUnit"]:LS)->OwnCls p.1 p.2 [.type "ValueError",.type "Exception",.type "BaseException",.type "object"] "ValueError.__new__" mg base):Errs K mg base (fv ps) (ps.map (·.1)) (cs.map (·.1)):=by
 have e:=hV s;have q:∀ {x:Str},x∈ps.map (·.1)->∃p∈ps,p.1=x:=λh=>by obtain⟨p,a,rfl⟩:=BE.mp h;exact⟨p,a,rfl⟩
 have r:∀ {x:Str},x∈cs.map (·.1)->∃p∈cs,p.1=x:=λh=>by obtain⟨p,a,rfl⟩:=BE.mp h;exact⟨p,a,rfl⟩
 refine⟨λx c=>?_,λx c=>?_,g,λx c i y n=>?_,λx c=>?_,λx c=>?_,o,λx c i=>?_⟩
 ·obtain⟨p,a,rfl⟩:=q c;rw[e p a];exact b p a
 ·obtain⟨p,a,rfl⟩:=r c;rw[e p (sub p a)];exact f p a
 ·obtain⟨p,a,rfl⟩:=r c;obtain⟨p2,d,rfl⟩:=q n;rw[e p (sub p a),e p2 d];exact m p a i p2 d
 ·obtain⟨p,a,rfl⟩:=r c;rw[e p (sub p a)];exact j p a
 ·obtain⟨p,a,rfl⟩:=r c;rw[e p (sub p a)];exact l p a
 ·obtain⟨p,a,rfl⟩:=r c;rw[e p (sub p a)];exact k p a i
end L2
namespace L2
open PySem PySem.Spec PyProof.Rows
def Bd (s:Stmt) (i:Nat):Stmt:=match s with
 | .ClassDef _ _ _ b _ _ _ _ _ _ _=>b.getD i (.Pass ⟨0,0,0,0⟩)
 | s=>s
section
variable {P:Program}{w:World}{K:W.Frag}{mg:Str->Option Value}{base:Heap}
variable {x:Str}{C N fI:Addr}{bm bs:LW}{nm q:Str}{hdct:Bool}{sn:LS}{sub:LW}{ab:Bool}{col:Option Bool}{dd:Option Addr}{k0 k1 k2 k3 k5:Option Value}{h:Heap}
theorem zj (X:K.In h) (a:mg x=some (.ref C)) (f:K.lookup C=some (excClassObj nm q C N bs bm hdct sn sub ab col dd k0 k1 k2 k3 k5 "ValueError.__new__")) (b:W.nsOkIn K N=true)
    (d:W.nsIn K N "__init__"=some (some (.ref fI))) (e:W.tailIn K bmV bm=true) (c:K.lookup fI=some ⟨.type "function",od,z,G⟩):OwnI x C fI mg h :=
 ⟨a,bm,N,nm,q,bs,hdct,sn,sub,ab,col,dd,k0,k1,k2,k3,k5,_,_,X _ _ f,.of_isNs (W.isNs_of_in X b),yE X (.of_isNs (W.isNs_of_in X b)) d,W.tail_of_in X e,X _ _ c,rfl⟩
structure MkI (P:Program) (w:World) (K:W.Frag) (mg:Str->Option Value) (base:Heap) (k:Nat) (x:Str) (C:Addr) (ps:LS) (sp:Sp):Prop where
 ex:∃(fI:Addr) (fd:FuncData),OwnI x C fI mg base/\W.keepIn K (.ref C)=true/\FnOk P w K mg base CX0 k fI fd ps sp/\Binds K fd ps []
theorem mC {J:LS}{qual:Str}{scope:Scope}{f:Addr}{I:Value}{A:Around}{z:List Env}{s:Shared}{H:Hp}{E:XK}{ps:LS}{sp:Sp}{k:Nat}{U cpos pos:Pos}{G:Expr}{rest:List Expr}{ta:TA}
    (m:MkI P w K mg base k x C ps sp) (d:Room (k+1) (aV (CX1 P w) P w K mg base J qual scope f I A z s H E).A)
    (c:Gl (aV (CX1 P w) P w K mg base J qual scope f I A z s H E) x) (e:PA (aV (CX1 P w) P w K mg base J qual scope f I A z s H E) (G::rest) ta)
    (he:starEach (G::rest) (aV (CX1 P w) P w K mg base J qual scope f I A z s H E).env=(false,eval G (aV (CX1 P w) P w K mg base J qual scope f I A z s H E).env)::starEach rest (aV (CX1 P w) P w K mg base J qual scope f I A z s H E).env:=by rfl)
    (hpl:(backTo cpos (starEach rest (aV (CX1 P w) P w K mg base J qual scope f I A z s H E).env)).any (·.1)=false:=by rfl) (hdb:(x==("__debug__":Str))=false:=by decide) :
    PS (aV (CX1 P w) P w K mg base J qual scope f I A z s H E) (.Raise (some (.Call (.Name x U) (G::rest) [] cpos)) none pos) (qD E C sp ta):=by
 obtain⟨g,h,O,a,F,b⟩:=m.ex;exact uI O a F b d c e he hpl hdb
end
def Cx.catch (X:Cx) (pins:List (Addr × Obj)) (σ:St) (E:XK):Cx:={ X with pn:=X.pn++pins,xe:=λev s'=>∃H1 s1,Inv X pins σ H1 s1/\CX1 X.prog X.w X.stack H1 s1 E ev s' }
section
variable {X:Cx}{pins pins':List (Addr × Obj)}{σ σ0:St}{H:Hp}{s:Shared}{E:XK}
theorem Cx.Ok.catch (a:X.Ok):(X.catch pins σ0 E).Ok :=
 ⟨a.mod,a.kind,a.glob,a.blt,a.above,a.inj,a.has,a.cab,a.hd,a.frames,a.stk,a.exf,a.bs,a.bsz,a.noex,a.exfs,a.funs,a.frf⟩
theorem Inv.catch (I:Inv X pins σ H s):Inv (X.catch pins σ0 E) [] σ H s :=
 ⟨I.ok.catch,I.os,I.bare,I.base,I.loc,I.cell,I.free,I.freeC,λp a=>I.pin p (by rw[Cm] at a;exact a),I.hok,I.len⟩
theorem Inv.ofCatch (b:X.Ok) (I:Inv (X.catch pins σ0 E) pins' σ H s):Inv X pins σ H s :=
 ⟨b,I.os,I.bare,I.base,I.loc,I.cell,I.free,I.freeC,λp a=>I.pin p (CH _ a),I.hok,I.len⟩
theorem Inv.okC (I:Inv (X.catch pins σ0 E) pins' σ H s):X.Ok :=
 ⟨I.ok.mod,I.ok.kind,I.ok.glob,I.ok.blt,I.ok.above,I.ok.inj,I.ok.has,I.ok.cab,I.ok.hd,I.ok.frames,I.ok.stk,I.ok.exf,I.ok.bs,I.ok.bsz,I.ok.noex,I.ok.exfs,I.ok.funs,I.ok.frf⟩
def zD (σ0:St) (sp:Sp) (E:XK) (t:TA):TE:=λσ H Q=>t σ H λvs H1=>σ=σ0/\sp vs H1 Q E
theorem yd (c:CalX X.prog X.w X.K X.mg X.base k x ps sp) (B:Room k X.A) (A:Gl X x) (y:PA (X.catch pins σ0 E) (e::es) t)
    (he:starEach (e::es) X.env=(false,eval e X.env)::starEach es X.env:=by rfl) (hpl:(backTo pos (starEach es X.env)).any (·.1)=false:=by rfl) (hdb:(x==("__debug__":Str))=false:=by decide) :
    PE (X.catch pins σ0 E) (.Call (.Name x p) (e::es) [] pos) (zD σ0 sp E t):=by
 intro a s o H Q I h;obtain⟨f,D,F,w,n,b⟩:=c.ex;refine Dy (fS (X:=X.catch pins σ0 E) I A w ?_ hdb);refine W.callWith_K (h₀:=X.base) I.ok.mod.kin n (thn (y pos a s o H _ I h) λi j ⟨z,m,g,r,l,q⟩=>⟨g.kIn,?_⟩) he hpl;subst l;have v:(i++[]).length=ps.length:=by rw[Cm,<- r.length];exact F.len _ _ _ _ q
 refine wpAny_call (codeAny_mono (F.run X.A X.stack j m ⟨i,[]⟩ (i++[]) z Q E B g.env0 (b j i g.kIn v) (by rw[Cm];exact r) q) λr C d=>?_);cases r with
 | error ev=>exact⟨m,j,g.ofCatch I.okC,d⟩
 | ok fl =>
  cases fl with
  | ret u=>exact g.after d
  | next=>exact False.elim d
  | brk=>exact False.elim d
  | cont=>exact False.elim d
end
end L2
namespace L2
open PySem PySem.Spec PyProof.Rows PySem.W
def up1 (c:Nat):Nat:=if 97<=c/\c<=122 then c-32 else c
end L2
namespace L2
open PySem PySem.Spec PyProof.Rows
namespace SU
theorem entry_loop:entryFor table "set.update.loop"=some Builtin.«set.update.loop»:=entryFor_of_tree (by kernel_rfl)
theorem plain_loop:plainId "set.update.loop"=true:=by decide +kernel
end SU
def iSeq (K:W.Frag) (tl:TE):TI:=λσ H R=>tl σ H λx H1=>∃a,x=.ref a/\((∃xs,SqL K H1 a xs)/\R (Itl K a) H1∨(∃xs,SqT K H1 a xs)/\R (Itt K a) H1)
theorem lg (K:W.Frag) (r:PE X l tl) (t:X.K=K:=by rfl):PI X tg l (iSeq K tl):=by
 subst t;intro d s n H R I h;refine thn (r d s n H _ I h) λv c ⟨x,j,f,y,z⟩=>?_;obtain⟨a,e,q⟩:=z;subst e;cases y;have k:∀b∈[c.heap.objs.size],fD X d j b:=λb A=>by
  have e:b=c.heap.objs.size:=by simpa using A
  subst e;exact f.fpOk (BB _) (f.hok.fresh (BB _))
 rcases q with⟨⟨w,i⟩,q⟩ | ⟨⟨w,i⟩,q⟩
 ·obtain⟨g,m,p,u⟩:=f.list i;exact wpAny_pyIter_list p.isList ⟨c.heap.objs.size,[c.heap.objs.size],_,_,j,rfl,f.kept (t':=c.toks) λb o e=>BU _ e,mH a _,⟨_,Ce _ rfl,rfl,rfl⟩,k,q⟩
 ·obtain⟨g,m,p,u⟩:=f.tuple i;exact Dp (show c.heap.IsTuple a g.toArray from p) ⟨c.heap.objs.size,[c.heap.objs.size],_,_,j,rfl,f.kept (t':=c.toks) λb o e=>BU _ e,iG a _,⟨_,Ce _ rfl,rfl,rfl⟩,k,q⟩
theorem nQ {K:W.Frag}{k:Nat}{fr:List Nat}{g:TG}{tc:TT}{te:TE}{σ:St}{H1:Hp}{Q:VK}{a:Addr}(xs:LV) (c:Addr -> Nat -> LV -> St -> Hp -> Prop) (d:SqA H1 a xs)
    (h:∀D,H1 D=none->c D 0 [] (dS k fr σ) (upd H1 D (.lst []))/\(∀i z σ' H',i<=xs.length->c D i z σ' H'->H' D=some (.lst z)->H' a=H1 a) /\
     (∀i z σ' H' x,xs[i]? = some x->c D i z σ' H'->H' D=some (.lst z)->g x σ' H' λσ2 J=>tc σ2 J λb G =>
      if b=true then te σ2 G λy I=>I D=some (.lst z)/\z.length<sizeLine/\c D (i+1) (z++[y]) σ2 (upd I D (.lst (z++[y]))) else G D=some (.lst z)/\c D (i+1) z σ2 G) /\
     ∀z σ' H',c D xs.length z σ' H'->H' D=some (.lst z)->Q (.ref D) H'):(∃xs,SqL K H1 a xs)/\cS k fr g tc te (Itl K a) σ H1 Q∨(∃xs,SqT K H1 a xs)/\cS k fr g tc te (Itt K a) σ H1 Q:=by
 rcases d with d | d
 ·exact .inl ⟨⟨xs,.of d⟩,cE xs c λD j=>let ⟨l,f,e,m⟩:=h D j;⟨l,λi z σ' H' n p q=>.of ((f i z σ' H' n p q).trans d),e,m⟩⟩
 ·exact .inr ⟨⟨xs,.of d⟩,dH xs c λD j=>let ⟨l,f,e,m⟩:=h D j;⟨l,λi z σ' H' n p q=>.of ((f i z σ' H' n p q).trans d),e,m⟩⟩
def KD (P:Program) (w:World) (K:W.Frag) (a:Addr) (vs:List (Key × Value)):Prop :=
 (a==sysModules)=false/\∃o es ep,K.lookup a=some o/\o.ExactDict/\o.data=.dict es ep/\KeysOf (bF P w) es/\Pairs (bF P w) es.toList vs/\(vs.map (·.1)).Nodup
theorem KD.dict {P:Program}{w:World}{K:W.Frag}{a:Addr}{z:List (Key × Value)}{h:Heap}(k:KD P w K a z) (X:K.In h):h.DictOf (bF P w) a z :=
 let ⟨_,o,b,c,e,r⟩:=k;⟨o,b,c,X a o e,r⟩
section
variable {X:Cx}
theorem xr {G:List (Key × Value)}{a:Addr}(k:KD X.prog X.w X.K a G):IxR X (λx y H Q=>∃z v u,x=.ref a/\y=kV z/\valueAt G z=some v/\RelV u v/\Q u H):=by
 intro b c e s h H x y v u Q I f g ⟨z,v',u',ex,ey,hv,rv,q⟩ hs;subst ex;subst ey;cases f;have d:=k.dict I.kIn;exact tail_any d.typeIs PySem.F.slot_dict_getitem.lookup (wpAny_getItem_of (gp g) d.mapOf hv ⟨_,H,I.tok _,rv,q⟩) hs
end
end L2
open PySem
namespace PySem.SeqAt
theorem tuple_indexAt (l:Addr) (items:Array Value) (n:Nat) (dd:Option Addr) (sl:Array (Option Value)) (x:Value) (e:Value -> Bool) (j:Nat) (I:j<items.size)
    (r:e items[j]=true) (f:∀m (z:m<items.size),m<j->e items[m]=false) :
    Meets (Builtin.«tuple.index» ⟨[.ref l,x],[]⟩)
     (λA R s=>s.heap.get? l=some { cls:=.type "tuple",dict:=dd,data:=.seq items n,slots:=sl }/\(∀y,y∈items->EqAt A.in1 s y x (e y))/\R (.ok (.ret (.int j s.toks))) { s with toks:=s.toks+1 }) :=
 .of_wp λa w A R s h => by
  obtain⟨v,g,d,D,G⟩:=s;obtain⟨t,u,h⟩:=h;unfold Builtin.«tuple.index»;simp only[Std.Legacy.Range.forIn_eq_forIn_range']
  wp_walk using wpAny_loadPart' t,wpAny_forIn_list _ (λrest b p=>b.1=none/\p=⟨v,g,d,D,G⟩/\∃i,i<=j/\rest=List.range' i (items.size-i)) _
  ·rintro i rest ⟨F,E⟩ p ⟨H,rfl,k,C,c⟩;have o:0<items.size-k:=by omega
   obtain⟨m,z⟩:∃m,items.size-k=m+1:=⟨_,(Nat.succ_pred_eq_of_pos o).symm⟩
   rw[z,List.range'_succ] at c;obtain⟨rfl,rfl⟩:=List.cons.inj c;have B:items[i]? = some (items[i]'(by omega)):=by simp
   rw[B];refine Bz (u _ (Array.getElem_mem (by omega)) a w _ _ ?_);by_cases q:i=j
   ·subst q;rw[r]
    wp_walk
    exact⟨_,rfl,h⟩
   ·rw[f i (by omega) (by omega)]
    wp_walk
    refine⟨rfl,rfl,i+1,by omega,?_⟩;rw[show items.size-(i+1)=m by omega]
  ·rintro⟨F,E⟩ p ⟨H,rfl,k,C,c⟩;exfalso;have:=congrArg List.length c;simp at this;omega
  ·refine⟨rfl,rfl,0,Cg _,?_⟩;rw[Std.Legacy.Range.size];simp
end PySem.SeqAt
namespace HT
open PySem PySem.Spec PyProof.Rows
variable {prog:Program}{w:World}{A:Around}{E:Value->Shared->Prop}{s:Shared}
theorem pair_back (g:IsTup s.heap t #[a,b]) (p:s.heap.IsSliceOf z .none .none (.int (-1) k))
    (h:Q (.ref s.heap.objs.size) { s with heap:=s.heap.push { cls:=.type "tuple",data:=.seq #[b,a] } }):wpAny (model prog w) A (getItem (.ref t) (.ref z)) Q E s:=by
 obtain⟨o,d,i,f⟩:=id p;have l:s.TypeIs (.ref z) "slice":=⟨o,d,i⟩
 have c:sizeOk (.seq #[b,a]):=by show (2:Nat)<=sizeLine;decide
 unfold getItem
 try with_reducible refine Ct ?_
 first | refine Bz (BC ?_) | skip
 refine Bz (wpAny_sequenceKey g.typeIs (by decide) (Bz (wpAny_callSpecial?_slot (name:=Str.ofString "__getitem__") g.typeIs slot_tuple_getitem (wpAny_call_entry slot_tuple_getitem g.typeIs entry_tuple_getitem ?_ (args_tuple_getitem _ _)))));show wpAny _ _ (Builtin.Tuple.tupleItemsOf (.ref t) >>= _) _ _ s;refine Bz (tupleItemsOf_ g (Bz (wpAny_typeOf l ?_)));rw[if_pos (by decide)];refine Bz ?_;unfold Builtin.Slice.sliceApplied Builtin.Slice.sliceFields;refine Bz (Bz (Ck d f (x:=.none) rfl (Bz (Ck d f (x:=.none) rfl (Bz (Ck d f (x:=.int (-1) k) rfl (BC ?_)))))));refine Bz (slicePart_int ?_);show wpAny _ _ (if ((-1:Int)==0)=true then _ else _) _ _ s;rw[if_neg (by decide)];refine Bz (slicePart_none (Bz (slicePart_none (Bz (BC ?_)))));refine BC ?_;have n:((-1:Int)<0)=True:=by simp
 have j:Builtin.Slice.slicePlaces (((#[a,b]:Array Value).size:Int)-1) (-1) (-1)=2:=by show Builtin.Slice.slicePlaces (2-1) (-1) (-1)=2;decide
 simp only[Option.getD_some,n,if_true];rw[j];have e:(List.filterMap (λk:Nat=>(#[a,b]:Array Value)[((1:Int)+(k:Int) * (-1)).toNat]?) (List.range 2)).toArray=#[b,a]:=rfl;show wpAny _ _ (if ((1:Int)==0&&(-1:Int)==1&&(2:Nat)==2)=true then _ else (do let x ← Builtin.Tuple.tupleExact (List.filterMap (λk:Nat=>(#[a,b]:Array Value)[((1:Int)+(k:Int) * (-1)).toNat]?) (List.range 2)).toArray;ret x)) _ _ s;rw[if_neg (by decide),e]
 first
  | exact Bz (m:=Builtin.Tuple.tupleExact _) (wpAny_newObj_type (BC ⟨_,rfl,BC h⟩) c)
  | exact Bz (m:=Builtin.Tuple.tupleExact _) (wpAny_newObj_type (Bz (BC (BC ⟨_,rfl,BC h⟩))) c)
  | exact Bz (Bz (m:=Builtin.Tuple.tupleExact _) (wpAny_newObj_type (BC (BC ⟨_,rfl,BC h⟩)) c))
  | exact Bz (Bz (m:=Builtin.Tuple.tupleExact _) (wpAny_newObj_type (BC ⟨_,rfl,BC h⟩) c))
end HT
namespace L2
open PySem PySem.Spec PyProof.Rows
section
variable {X:Cx}
def AV (K:W.Frag) (te:TE) (ts:TO):TE:=λσ H Q=>te σ H λx H1=>ts σ H1 λi H2=>∃a y z,i=some (-1)/\x=.ref a/\SqT K H2 a [y,z]/\∀l,H2 l=none->Q (.ref l) (upd H2 l (.tup [z,y]))
theorem yX (K:W.Frag) {e st:Expr}{te:TE}{ts:TO}{G pos:Pos}(he:PE X e te) (j:PO X (some st) ts) (w:X.K=K:=by rfl):PE X (.Subscript e (.Slice none none (some st) G) pos) (AV K te ts):=by
 subst w;intro c s f H Q I h;refine Subscript_ (thn (he c s f H _ I h) λv u ⟨x,P,J,l,M⟩=>wpAny_Slice ?_);rw[evalPart_none];refine BC (BC (thn (j c u f P _ J M) λB d ⟨i,p,O,F,C⟩=>?_));obtain⟨a,y,z,rfl,rfl,E,q⟩:=C;cases l;obtain⟨k,rfl⟩:∃k,B=.int (-1) k:=by
  cases F with
  | int i t=>exact⟨_,rfl⟩
 have g:Inv X c f p { d with heap:=d.heap.push { cls:=.type "slice",data:=.fields #[.none,.none,.int (-1) k] } }:=O.kept (t':=d.toks) λb D q=>BU _ q;obtain⟨n,r,m,R⟩:=g.tuple E;obtain⟨A,L,rfl,l,N⟩:=gT r;show wpAny (model X.prog X.w) X.A (subscriptTail e (.Slice none none (some st) G) (.ref a) (.ref d.heap.objs.size)) (EP X c f Q) X.xe { d with heap:=d.heap.push { cls:=.type "slice",data:=.fields #[.none,.none,.int (-1) k] } };refine tail_any (ops:=[.ref a,.ref d.heap.objs.size]) m.typeIs slot_tuple_getitem.lookup ?_ (by with_unfolding_all rfl);refine HT.pair_back m (Heap.IsSliceOf.new ..) ?_;refine⟨.ref _,_,g.laid (t':=d.toks) (o:=.tup [z,y]) (λb D q=>BU _ q) (BB _) ?_,rfl,q _ (g.hok.fresh (BB _))⟩;exact⟨by show (2:Nat)<=sizeLine;decide,[L,A],.cons N (.cons l .nil),TupN.new _ _⟩
def lO:V->LV->Hp->VK->Prop:=λx vs H Q=>∃l xs y j z,x=.ref l/\vs=[y]/\H l=some (.tup xs)/\eH y=true/\xs.all eH=true/\xs[j]? = some z/\eqV z y=true/\(∀(m:Nat) z',m<j->xs[m]? = some z'->eqV z' y=false)/\Q (.int ((j:Nat):Int)) H
theorem jb (a b:Value):argsOk "tuple.index" ⟨[a,b],[]⟩:=by
 unfold argsOk;rw[signature?_of (id:="tuple.index") (n:=['x','e','d','n','i']) (o:=['e','l','p','u','t']) (by kernel_rfl) F.owner_tuple];kernel_rfl
theorem sj:MtR X "tuple.index" lO:=by
 intro C s Z H x vs v Y Q I M L h;obtain⟨l,G,y,j,z,rfl,rfl,U,N,E,B,S,k,q⟩:=h;cases M;obtain⟨u,rfl,O⟩:=cI L;obtain⟨zz,a,r,⟨oc,od,P,W⟩,e,D,n,hd,_⟩:=(show ObjOk X.prog X.w H s.heap l (.tup G) from I.hok l _ U)
 simp only at D hd;subst D hd;have K:=(BF.mp B).1;have J:=r.length;have d:∀m (g:m<a.length),∃c,G[m]? = some c/\eqU y a[m]=eqV c y:=λm g=>by
  obtain⟨c,f,T⟩:=vF r (BV g);exact⟨c,f,oD T (CD.mp E c (BG f))⟩
 have A:j<a.toArray.size:=by simpa using (by omega:j<a.length)
 refine call_meets F.slot_tuple_index ⟨_,e,rfl⟩ F.entry_tuple_index (jb _ _) (SeqAt.tuple_indexAt l a.toArray n _ _ u (eqU y) j A ?_ ?_) ⟨e,λw R=>fN O N r E w (by simpa using R),⟨.int _,H,?_,⟨_,rfl⟩,q⟩⟩
 ·obtain⟨c,i,t⟩:=d j (by omega);rw[B] at i;cases i;simpa using t.trans S
 ·intro m g p;obtain⟨c,i,t⟩:=d m (by simpa using g);simpa using t.trans (k m c p i)
 ·exact I.kept λb o V=>V
end
theorem rY (C:X.calm=true) (P:X.A.units+64<cLine) {xs:LV}{oi:Nat->HO}(I:Inv X pins σ H s) (y:H p=some (.tup xs)) (Y:oi 0=.dK [])
    (z:∀(i:Nat) (x:V),xs[i]? = some x->∃b k v,x=V.ref b/\SqT X.K H b [k,v]/\∀l,H l=none->DPut (upd H l (oi i)) l k v (upd H l (oi (i+1)))) (q:∀l,H l=none->Q (.ref l) (upd H l (oi xs.length))) :
    wpAny (model X.prog X.w) X.A (call (.type "dict") [.ref p]) (EP X pins σ Q) X.xe s:=by
 refine callType_codes (Q₁:=λf c=>f=.ref s.heap.objs.size/\c={ s with heap:=s.heap.push { cls:=.type "dict",data:=.dict #[] } }) F.kt_called_dict (F.kt_typeCall_dict_1 _) F.entry_dict_init (kt_code_dict_new _ ⟨rfl,rfl⟩) ?_;rintro f c ⟨rfl,rfl⟩;have m:H s.heap.objs.size=none:=I.hok.fresh (BB _);have j:p≠s.heap.objs.size:=ao y m;have E:Inv X pins σ (upd H s.heap.objs.size (oi 0)) { s with heap:=s.heap.push { cls:=.type "dict",data:=.dict #[] } }:=by
  refine I.laid (a:=s.heap.objs.size) (o:=oi 0) (t':=s.toks) (λ_ _ q=>BU _ q) (BB _) ?_;rw[Y];exact jQ s.heap I.big
 have G:(⟨s.heap.push { cls:=.type "dict",data:=.dict #[] },s.gens,s.drawn,s.toks,s.os⟩:Shared).TypeIs (.ref s.heap.objs.size) "dict":=⟨_,Ce _ rfl,rfl⟩
 refine⟨G,F.args_dict_init_2 _ _,?_⟩;unfold Builtin.«dict.__init__» Builtin.Dict.selfAndRest;refine Bz (Bz (wpAny_notOrdered_dict G ?_));show wpAny _ _ (pure (s.heap.objs.size,[Value.ref p])) _ _ _;refine BC ?_;show wpAny _ _ (Builtin.Dict.updateFrom "dict.__init__" s.heap.objs.size (.ref p) [] .none) _ _ _;unfold Builtin.Dict.updateFrom;have U:X.A.in1.in1.handled=none:=I.ok.hd C;have h:upd H s.heap.objs.size (oi 0) p=some (.tup xs):=by rw[ah j];exact y
 obtain⟨hz,M,rv,o,D,g,n,u,A⟩:=(show ObjOk X.prog X.w _ _ p (.tup xs) from E.hok p _ h)
 refine Bz (wpAny_typeOf (T:="tuple") ⟨o,D,g⟩ ?_);rw[if_pos (by decide)];refine Bz (oh D g u A U λh' J L=>?_);have t:=E.kept (h':=h') (t':=J) L;refine Bz (wpAny_rule (Bz ?_));obtain⟨B,K,w,R⟩:=t.tuple (SqT.of h);refine Dp w ?_;refine BC ⟨plainId_quiet DU.plain_loop _,?_⟩;have d:∀i,SqT X.K (upd H s.heap.objs.size (oi i)) p xs:=λi=>.of (by rw[ah j];exact y);refine tF (nm:="x") (tp:=default) (iG p h'.objs.size) C P s.heap.objs.size xs.length (λi r=>r=upd H s.heap.objs.size (oi i)) (λi r S e=>?_) (λr e=>?_) _ 0 0 _ _ rfl (Cg _) (t.kept (t':=J) λb o e=>BU _ e) (λb hb=>?_) ⟨_,Ce _ rfl,rfl,rfl⟩ rfl λr s' O e=>?_
 ·subst e;refine⟨⟨xs,xs[i],d i,BV S⟩,λx H1 ⟨e1,W⟩=>?_⟩;subst e1;obtain⟨b,k,v,N,Z,dp⟩:=z i x (W xs (d i));exact⟨b,k,v,_,N,Z.fresh m,dp _ m,rfl⟩
 ·subst e;exact⟨xs,d _,BB _⟩
 ·have e:b=h'.objs.size:=by simpa using hb
  subst e;exact t.fpOk (BB _) (t.hok.fresh (BB _))
 ·subst e;exact⟨rfl,.ref _,_,O,rfl,q _ m⟩
def nC (K:W.Frag):LV->Hp->VK->Prop:=λvs H Q=>∃p xs,∃ps:List (Key × V),vs=[.ref p]/\H p=some (.tup xs)/\xs.length=ps.length/\xs.length<=1000 /\
 (∀(i:Nat) (q:Key × V) (x:V),ps[i]? = some q->xs[i]? = some x->∃b,x=V.ref b/\SqT K H b [kV q.1,q.2])/\∀l,H l=none->Q (.ref l) (upd H l (.dK (mkK ps)))
section
variable {X:Cx}{p pos:Pos}{e:Expr}{t:TA}
theorem lH (K:W.Frag) (o:X.calm=true) (C:X.A.units+64<cLine) (B:Blt X.mg) (D:PA X [e] t) (E:Gl X "dict":=by rfl) (he:starEach [e] X.env=(false,eval e X.env)::starEach [] X.env:=by rfl) (hpl:(backTo pos (starEach [] X.env)).any (·.1)=false:=by rfl) (A:X.K=K:=by rfl) :
    PE X (.Call (.Name "dict" p) [e] [] pos) (tCB (nC K) t):=by
 subst A;refine fu (r:=nC X.K) (λj s M H G L Q I r h=>?_) E B.dict (show bootBuiltins "dict"=some (.type "dict") by decide +kernel) D (by decide) (by decide) he hpl;obtain⟨p,G,c,rfl,F,g,O,w,q⟩:=h;obtain⟨u,rfl,z⟩:=cI r;cases z;have N:1000<sizeLine:=by decide
 refine rY o C (oi:=λi=>.dK (mkK (c.take i))) I F rfl (λi x n=>?_) λl f=>?_
 ·have m:i<c.length:=by rw[<- g];exact(BF.mp n).1
  obtain⟨b,y,J⟩:=w i c[i] x (BV m) n;refine⟨b,kV c[i].1,c[i].2,y,J,λl f=>?_⟩;have d:=DPut.k (H:=upd H l (.dK (mkK (c.take i)))) (a:=l) (kvs:=mkK (c.take i)) (k:=c[i].1) (v:=c[i].2) af (by have:=An (c.take i);rw[Ch] at this;omega);rw[qS,<- wN c i c[i] (BV m)] at d;exact d
 ·rw[g,List.take_length];exact q l f
end
end L2
namespace L2
open PySem
abbrev Kn:=List (Str × LS)
def aB (ks:Kn):LS:=ks.flatMap (·.2)
def aX (ks:Kn) (u:Str):Str:=((ks.find? λk=>decide (u∈k.2)).map (·.1)).getD ""
theorem dy {xs ys:LS}(a:xs.Nodup) (h:∀x∈xs,x∈ys):xs.length<=ys.length:=by
 induction xs generalizing ys with
 | nil=>exact Cg _
 | cons x xs ih =>
  rw[Cd] at a;have c:=h x (by simp);have p:=(List.perm_cons_erase c).length_eq;rw[BN] at p ⊢;have:=ih (ys:=ys.erase x) a.2 λz b=>(List.mem_erase_of_ne (λq:z=x=>a.1 (q ▸ b))).mpr (h z (BQ _ b));omega
structure Tre (us:LS) (ks:Kn):Prop where
 perm:(aB ks).Perm us
 nd:us.Nodup
 nm:∀u∈us,Nm u
 len:us.length<=60
 top:("":Str)∈ks.map (·.1)
 kn:(ks.map (·.1)).Nodup
 sub:∀k∈ks,k.1=""∨k.1∈us
 up:∀k∈ks,∀u∈k.2,k.1=""∨MG.ix us k.1<MG.ix us u
section
variable {us:LS}{ks:Kn}
theorem Tre.knd (T:Tre us ks):(aB ks).Nodup:=T.perm.nodup_iff.mpr T.nd
theorem Tre.has (T:Tre us ks) (h:u∈us):∃k∈ks,u∈k.2:=by
 have:=T.perm.mem_iff.mpr h;exact Cw.mp this
theorem Tre.isIn (T:Tre us ks) (a:k∈ks) (b:u∈k.2):u∈us:=T.perm.mem_iff.mp (Cw.mpr ⟨k,a,b⟩)
theorem fk:∀ {ks:Kn}, (aB ks).Nodup -> ∀ {k k':Str × LS}{u:Str}, k ∈ ks -> k' ∈ ks -> u ∈ k.2 -> u ∈ k'.2 -> k=k'
 | [],_,_,_,_,h,_,_,_=>by cases h
 | q :: ks, nd, k, k', u, h, h', hu, hu' => by
  have nd:(q.2++aB ks).Nodup:=nd;rw[CI] at nd;obtain⟨_,n2,n3⟩:=nd;rcases BH.mp h with e | g
  ·rcases BH.mp h' with e' | g'
   ·rw[e,e']
   ·subst e;exact absurd rfl (n3 u hu u (Cw.mpr ⟨k',g',hu'⟩))
  ·rcases BH.mp h' with e' | g'
   ·subst e';exact absurd rfl (n3 u hu' u (Cw.mpr ⟨k,g,hu⟩))
   ·exact fk n2 g g' hu hu'
theorem ql:∀ {ks:Kn}, (ks.map (·.1)).Nodup -> ∀ {k k':Str × LS}, k ∈ ks -> k' ∈ ks -> k.1=k'.1 -> k=k'
 | [],_,_,_,h,_,_=>by cases h
 | q :: ks, nd, k, k', h, h', e0 => by
  rw[BZ,Cd] at nd;rcases BH.mp h with e | g
  ·rcases BH.mp h' with e' | g'
   ·rw[e,e']
   ·subst e;exact absurd (e0 ▸ BE.mpr ⟨k',g',rfl⟩) nd.1
  ·rcases BH.mp h' with e' | g'
   ·subst e';exact absurd (e0 ▸ BE.mpr ⟨k,g,rfl⟩) nd.1
   ·exact ql nd.2 g g' e0
theorem Tre.par (T:Tre us ks) (a:k∈ks) (b:u∈k.2):aX ks u=k.1:=by
 unfold aX;cases q:ks.find? λk=>decide (u∈k.2) with
 | none =>
  have:=List.find?_eq_none.mp q k a;exact absurd (BI b) this
 | some k' =>
  have d:=List.find?_some q;have c:=List.mem_of_find?_eq_some q;rw[fk T.knd a c b (BX d)];rfl
theorem Tre.par_in (T:Tre us ks) (h:u∈us):(aX ks u=""∨aX ks u∈us)/\aX ks u∈ks.map (·.1):=by
 obtain⟨k,a,b⟩:=T.has h;rw[T.par a b];exact⟨T.sub k a,BE.mpr ⟨k,a,rfl⟩⟩
theorem Tre.kid (T:Tre us ks) (h:u∈us) (d:(aX ks u,c)∈ks):u∈c:=by
 obtain⟨k,a,b⟩:=T.has h;rw[T.par a b] at d;have:k=(k.1,c):=ql T.kn a d rfl;rw[this] at b;exact b
theorem Tre.few (T:Tre us ks):ks.length<=61:=by
 have:=dy (ys:=""::us) T.kn λx a=>by
  obtain⟨k,b,rfl⟩:=BE.mp a;rcases T.sub k b with q | q
  ·rw[q];simp
  ·exact BQ _ q
 rw[BA,BN] at this;have:=T.len;omega
def rkU (us:LS) (u:Str):Nat:=if u="" then 0 else MG.ix us u+1
theorem Tre.nn (T:Tre us ks) (h:u∈us):u≠"":=λz=>by
 have:=(T.nm u h).1;rw[z] at this;exact absurd this (by decide)
theorem Tre.rk (T:Tre us ks) (h:u∈us):rkU us (aX ks u)<rkU us u:=by
 obtain⟨k,a,b⟩:=T.has h;rw[T.par a b];unfold rkU;rw[if_neg (T.nn h)];rcases T.up k a u b with q | q
 ·rw[if_pos q];omega
 ·split
  ·omega
  ·omega
theorem Tre.rk60 (T:Tre us ks) (h:u∈us):rkU us u<=60:=by
 unfold rkU;rw[if_neg (T.nn h)];have:=MG.ix_lt h;have:=T.len;omega
def jB (par:Str->Str):Nat->Str->LS
 | 0,_=>[]
 | n+1,u=>if u="" then [] else jB par n (par u)++[u]
theorem Tre.stable (T:Tre us ks):∀(n m:Nat) (u:Str), u="" ∨ u ∈ us -> rkU us u<n -> rkU us u<m -> jB (aX ks) n u=jB (aX ks) m u
 | 0,_,_,_,h,_=>absurd h (Nat.not_lt_zero _)
 | _,0,_,_,_,h=>absurd h (Nat.not_lt_zero _)
 | n+1,m+1,u,hu,h1,h2=>by
  show (if u="" then [] else jB (aX ks) n (aX ks u)++[u])=(if u="" then [] else jB (aX ks) m (aX ks u)++[u])
  by_cases q:u=""
  ·rw[if_pos q,if_pos q]
  ·have hu:u∈us:=hu.resolve_left q;have:=T.rk hu;rw[if_neg q,if_neg q,T.stable n m (aX ks u) (T.par_in hu).1 (by omega) (by omega)]
def lin (ks:Kn) (u:Str):LS:=jB (aX ks) 100 u
theorem yt:lin ks ""=[]:=rfl
theorem Tre.lin (T:Tre us ks) (h:u∈us):lin ks u=L2.lin ks (aX ks u)++[u]:=by
 have b:=T.rk h;have a:=T.rk60 h;show (if u="" then [] else jB (aX ks) 99 (aX ks u)++[u])=_;rw[if_neg (T.nn h),T.stable 99 100 (aX ks u) (T.par_in h).1 (by omega) (by omega)];rfl
theorem Tre.lin_ind (T:Tre us ks) {P:Str -> Prop}(c:P "") (d:∀u ∈ us, P (aX ks u) -> P u):∀u:Str, u="" ∨ u ∈ us -> P u := by
 have b:∀n u, rkU us u<n -> u="" ∨ u ∈ us -> P u := by
  intro n
  induction n with
  | zero=>intro u h;omega
  | succ n ih =>
   intro u h a;by_cases q:u=""
   ·rw[q];exact c
   ·have a:=a.resolve_left q;have:=T.rk a;exact d u a (ih _ (by omega) (T.par_in a).1)
 intro u a;exact b _ u (Nat.lt_succ_self _) a
theorem Tre.lin_in (T:Tre us ks):∀u:Str,u=""∨u∈us->∀z∈L2.lin ks u,z∈us:=by
 refine T.lin_ind (P:=λu=>∀z∈L2.lin ks u,z∈us) (λz a=>by cases a) λu b c z a=>?_;rw[T.lin b] at a;rcases BR.mp a with q | q
 ·exact c z q
 ·rw[Cb.mp q];exact b
theorem Tre.lin_len (T:Tre us ks):∀u:Str,u=""∨u∈us->(L2.lin ks u).length<=rkU us u:=by
 refine T.lin_ind (P:=λu=>(L2.lin ks u).length<=rkU us u) (Cg _) λu a b=>?_;rw[T.lin a,BJ];have:=T.rk a;show _+1<=_;omega
def Chn (par:Str->Str):Str->LS->Prop
 | _,[]=>True
 | k,x::r=>par x=k/\Chn par x r
theorem Chn.snoc:∀ {k:Str}{l:LS},Chn par k l->par u=(l.getLast?).getD k->Chn par k (l++[u])
 | k,[],_,h=>⟨h,trivial⟩
 | k,[x],c,h=>⟨c.1,h,trivial⟩
 | k,x::y::r,c,h=>⟨c.1,Chn.snoc (l:=y::r) c.2 (by rw[List.getLast?_cons_cons] at h;rw[h];cases q:(y::r).getLast? with | none=>simp at q | some z=>rfl)⟩
theorem Tre.lin_last (T:Tre us ks):∀u:Str,u=""∨u∈us->((L2.lin ks u).getLast?).getD ""=u:=by
 refine T.lin_ind (P:=λu=>((L2.lin ks u).getLast?).getD ""=u) rfl λu a _=>?_;rw[T.lin a];simp
theorem Tre.lin_chn (T:Tre us ks):∀u:Str,u=""∨u∈us->Chn (aX ks) "" (L2.lin ks u):=by
 refine T.lin_ind (P:=λu=>Chn (aX ks) "" (L2.lin ks u)) trivial λu a b=>?_;rw[T.lin a];exact b.snoc (T.lin_last _ (T.par_in a).1).symm
def prt:Str->LS->LS->Option (Str × Str × Str)
 | k,x::a,y::b=>if x=y then prt x a b else some (k,x,y)
 | _,_,_=>none
theorem jP:∀ {k:Str}{a b:LS}{q x y:Str}, Chn par k a -> Chn par k b -> prt k a b=some (q, x, y) -> par x=q /\ par y=q /\ x ∈ a /\ y ∈ b /\ x ≠ y
 | k,[],_,_,_,_,_,_,h=>by simp[prt] at h
 | k,_::_,[],_,_,_,_,_,h=>by simp[prt] at h
 | k,u::a,v::b,q,x,y,ca,cb,h=>by
  have h:(if u=v then prt u a b else some (k,u,v))=some (q,x,y):=h;by_cases e:u=v
  ·rw[if_pos e] at h;rw[<- e] at cb;obtain⟨h1,h2,h3,h4,h5⟩:=jP ca.2 cb.2 h;exact⟨h1,h2,BQ _ h3,BQ _ h4,h5⟩
  ·rw[if_neg e] at h;injection h with h;injection h with h1 h;injection h with h2 h3;subst h1 h2 h3;exact⟨ca.1,cb.1,by simp,by simp,e⟩
theorem oE:∀(k:Str) (a b:LS), prt k b a=(prt k a b).map λt => (t.1, t.2.2, t.2.1)
 | k,[],b=>by cases b <;> rfl
 | k,x::a,[]=>rfl
 | k,x::a,y::b=>by
  show (if y=x then prt y b a else some (k,y,x))=(if x=y then prt x a b else some (k,x,y)).map _;by_cases e:x=y
  ·subst e;rw[if_pos rfl,if_pos rfl];exact oE x a b
  ·rw[if_neg (λz=>e z.symm),if_neg e];rfl
def bw (ks:Kn) (u v:Str):Option (Str × Str × Str):=prt "" (lin ks u) (lin ks v)
theorem Tre.part (T:Tre us ks) (a:u∈us) (b:v∈us) (h:bw ks u v=some (q,x,y)):aX ks x=q/\aX ks y=q/\x∈us/\y∈us/\x≠y:=by
 obtain⟨d,c,f,g,e⟩:=jP (T.lin_chn u (.inr a)) (T.lin_chn v (.inr b)) h;exact⟨d,c,T.lin_in u (.inr a) x f,T.lin_in v (.inr b) y g,e⟩
abbrev tp (a:LS):LS:=("":Str)::a
def Gon (a b:LS) (i:Nat):Prop:=i=0∨(1<=i/\prt "" a b=prt ((tp a).getD (i-1) "") ((tp a).drop i) ((tp b).drop i))
theorem Gon.step (g:Gon a b i) (d:(tp a)[i]? = some x) (h:(tp b)[i]? = some x):Gon a b (i+1):=by
 right
 refine⟨by omega,?_⟩;rcases g with rfl | ⟨j,g⟩
 ·rfl
 ·have f:=(BF.mp d)
  have c:=(BF.mp h)
  have e:(tp a).getD (i+1-1) ""=x:=by rw[Nat.add_sub_cancel,Cs,d];rfl
  rw[g,CW f.1,CW c.1,f.2,c.2,e];show (if x=x then _ else _)=_;rw[if_pos rfl]
theorem Gon.stop (g:Gon a b i) (h:i=min (a.length+1) (b.length+1)):prt "" a b=none := by
 rcases g with rfl | ⟨c,g⟩
 ·omega
 ·rw[g];by_cases q:a.length<=b.length
  ·rw[Du (l:=tp a) (by rw[BN];omega)];rfl
  ·rw[Du (l:=tp b) (by rw[BN];omega)];cases (tp a).drop i <;> rfl
theorem Gon.part (g:Gon a b i) (d:(tp a)[i]? = some x) (c:(tp b)[i]? = some y) (e:x≠y):1<=i/\prt "" a b=some ((tp a).getD (i-1) "",x,y):=by
 rcases g with rfl | ⟨j,g⟩
 ·exfalso;injection d with d;injection c with c;exact e (d.symm.trans c)
 ·have h:=(BF.mp d)
  have f:=(BF.mp c)
  refine⟨j,?_⟩;rw[g,CW h.1,CW f.1,h.2,f.2];show (if x=y then _ else _)=_;rw[if_neg e]
end
def cU (k:Str × LS):PyData:=.tuple [.str k.1,.tuple (k.2.map PyData.str)]
def cZ (ks:Kn):PyData:=.tuple (ks.map cU)
def dg (ps:List (Str × Str)):PyData:=.tuple (ps.map aG)
def bx (ks:Kn) (ts ws wn:List (Str × Str)):PyData:=.tuple [cZ ks,dg ts,dg ws,dg wn]
section
variable {H H':Hp}
theorem kR (h:Rep H v (cU k)):∃ta G,v=.ref ta/\H ta=some (.tup [.str k.1,.ref G])/\H G=some (.tup (k.2.map V.str)):=by
 obtain⟨q,r,rfl,g,c⟩:=Rep.tupI h;obtain⟨y,p,rfl,l,e⟩:=c.consI;obtain⟨z,o,rfl,m,f⟩:=e.consI;have n:=RepAll.nilI f;subst n;have i:=Rep.strI l;subst i;obtain⟨b,s,rfl,a,d⟩:=Rep.tupI m;have j:=RepAll.strs d;subst j;exact⟨q,b,rfl,g,a⟩
theorem cu {refs:LV}{ks:Kn}(b:RepAll H refs (ks.map cU)) {i:Nat}{x:V}(c:refs[i]? = some x):∃k ta z,ks[i]? = some k/\x=.ref ta/\H ta=some (.tup [.str k.1,.ref z])/\H z=some (.tup (k.2.map V.str)):=by
 obtain⟨d,hd,rd⟩:=b.get c;rw[BM] at hd;cases q:ks[i]? with
 | none=>rw[q] at hd;cases hd
 | some e =>
  rw[q] at hd;have hd:cU e=d:=BD hd;rw[<- hd] at rd;obtain⟨ta,z,f,a,g⟩:=kR rd;exact⟨e,ta,z,rfl,f,a,g⟩
theorem cz (h:Rep H v (cZ ks)):∃a refs,v=.ref a/\H a=some (.tup refs)/\RepAll H refs (ks.map cU):=Rep.tupI h
theorem bo (h:Rep H v (dg ps)):∃a refs,v=.ref a/\H a=some (.tup refs)/\RepAll H refs (ps.map aG):=Rep.tupI h
theorem ci (h:Rep H v (bx ks ts ws wn)):∃q a b c d,v=.ref q/\H q=some (.tup [.ref a,.ref b,.ref c,.ref d])/\Rep H (.ref a) (cZ ks)/\Rep H (.ref b) (dg ts)/\Rep H (.ref c) (dg ws)/\Rep H (.ref d) (dg wn):=by
 obtain⟨q,A,rfl,n,k⟩:=Rep.tupI h;obtain⟨y,w,rfl,f,l⟩:=k.consI;obtain⟨z,t,rfl,g,m⟩:=l.consI;obtain⟨u,o,rfl,i,j⟩:=m.consI;obtain⟨x,p,rfl,e,r⟩:=j.consI;have s:=RepAll.nilI r;subst s;obtain⟨a,_,rfl,_⟩:=Rep.tupI f;obtain⟨b,_,rfl,_⟩:=Rep.tupI g;obtain⟨c,_,rfl,_⟩:=Rep.tupI i;obtain⟨d,_,rfl,_⟩:=Rep.tupI e;exact⟨q,a,b,c,d,rfl,n,f,g,i,e⟩
theorem gQ (f:H q=some (.tup [.ref a,.ref b,.ref c,.ref d])) (e:Rep H (.ref a) (cZ ks)) (h:Rep H (.ref b) (dg ts)) (g:Rep H (.ref c) (dg ws)) (i:Rep H (.ref d) (dg wn)):Rep H (.ref q) (bx ks ts ws wn) :=
 .tup f (.cons e (.cons h (.cons g (.cons i .nil))))
theorem cq (c:H p=some (.lst ys)) (b:But p H H') (h:H a=some (.tup xs)):H' a=some (.tup xs):=b a _ (bK h c (by intro z;cases z)) h
theorem aL (d:H p=some (.lst ys)) (b:But p H H') (h:Rep H v (aG e)):Rep H' v (aG e):=by
 obtain⟨a,rfl,c⟩:=jh h;exact cg (cq d b c)
theorem aO (k:∀ {v:V}{e:α},Rep H v (f e)->Rep H' v (f e)):∀ {es:List α}{xs:LV},RepAll H xs (es.map f)->RepAll H' xs (es.map f)
 | [],xs,h=>by rw[RepAll.nilI h];exact .nil
 | e::es,xs,h=>by
  obtain⟨y,ys',rfl,a,c⟩:=RepAll.consI h;exact .cons (k a) (aO k c)
theorem gF (c:H p=some (.lst ys)) (b:But p H H') (h:Rep H v (dg ps)):Rep H' v (dg ps):=by
 obtain⟨a,e,rfl,d,r⟩:=bo h;exact .tup (cq c b d) (aO (aL c b) r)
theorem fT (a:H p=some (.lst ys)) (b:But p H H') (h:Rep H v (cU k)):Rep H' v (cU k):=by
 obtain⟨f,e,rfl,d,c⟩:=kR h;exact .tup (cq a b d) (.cons (.str _) (.cons (.tup (cq a b c) (RepAll.of_strs _)) .nil))
theorem eE (c:H p=some (.lst ys)) (b:But p H H') (h:Rep H v (cZ ks)):Rep H' v (cZ ks):=by
 obtain⟨a,e,rfl,d,r⟩:=cz h;exact .tup (cq c b d) (aO (fT c b) r)
theorem iX (f:H p=some (.lst ys)) (b:But p H H') (h:Rep H v (bx ks ts ws wn)):Rep H' v (bx ks ts ws wn):=by
 obtain⟨q,a,c,d,e,rfl,i,g,j,k,l⟩:=ci h;exact gQ (cq f b i) (eE f b g) (gF f b j) (gF f b k) (gF f b l)
end
def ArK (kvs:List (Key × V)) (us:LS) (ks:Kn):Prop:=∀u∈us,aI kvs (.inr u)=some (.str (aX ks u))
theorem ff (a b:Kn):aB (a++b)=aB a++aB b:=DD
theorem fY {ks:Kn}{i:Nat}{k:Str × LS}(h:ks[i]? = some k):aB (ks.take (i+1))=aB (ks.take i)++k.2:=by
 rw[BW,h,ff];show _++([k].flatMap (·.2))=_;simp
structure ArN (H H':Hp) (d:Addr) (ks:Kn) (i j:Nat) (kvs:List (Key × V)):Prop where
 sm:Same H H'
 at_:H' d=some (.dK kvs)
 len:kvs.length<=(aB (ks.take i)).length+j
 old:∀k∈ks.take i,∀u∈k.2,aI kvs (.inr u)=some (.str k.1)
 cur:∀k,ks[i]? = some k->∀u∈k.2.take j,aI kvs (.inr u)=some (.str k.1)
section
variable {H H':Hp}{d:Addr}{ks:Kn}{i j:Nat}{kvs:List (Key × V)}
theorem ArN.put (h:ArN H H' d ks i j kvs) (hd:H d=none) (s:(aB ks).Nodup) {k:Str × LS}(n:ks[i]? = some k) {u:Str}(r:k.2[j]? = some u) :
    ArN H (upd H' d (.dK (aS kvs (.inr u) (.str k.1)))) d ks i (j+1) (aS kvs (.inr u) (.str k.1)):=by
 have g:(aB (ks.take i)++k.2).Nodup:=by
  rw[<- fY n];have e:aB ks=aB (ks.take (i+1))++aB (ks.drop (i+1)):=by rw[<- ff,CL]
  rw[e] at s;exact(CI.mp s).1
 obtain⟨_,v,t⟩:=CI.mp g;have m:=BG r;refine⟨λb o p=>?_,af,?_,λl c f a=>?_,λl c f a=>?_⟩
 ·rw[ah (ao p hd)];exact h.sm _ _ p
 ·have:=bR kvs (.inr u) (V.str k.1);have:=h.len;omega
 ·rw[cJ,if_neg (λz=>t f (Cw.mpr ⟨l,c,a⟩) u m (by injection z))];exact h.old l c f a
 ·rw[n] at c;cases c;rw[BW,r] at a;rw[cJ];by_cases q:f=u
  ·subst q;rw[if_pos rfl]
  ·rw[if_neg (λz=>q (by injection z))];rcases BR.mp a with z | z
   ·exact h.cur k n f z
   ·exact absurd (by simpa using z) q
theorem ArN.next (h:ArN H H' d ks i j kvs) {k:Str × LS}(e:ks[i]? = some k) (f:j=k.2.length):ArN H H' d ks (i+1) 0 kvs := by
 subst f;refine⟨h.sm,h.at_,?_,λb a u c=>?_,λb _ u c=>by simp at c⟩
 ·rw[fY e,BJ];exact h.len
 ·rw[BW,e] at a;rcases BR.mp a with z | z
  ·exact h.old b z u c
  ·have:b=k:=by simpa using z
   subst this;exact h.cur b e u (by rw[BS (BB _)];exact c)
theorem ArN.room (h:ArN H H' d ks i j kvs) {k:Str × LS}(a:ks[i]? = some k) (c:j<k.2.length) (b:(aB ks).length<=60):kvs.length<=60:=by
 have e:aB ks=aB (ks.take (i+1))++aB (ks.drop (i+1)):=by rw[<- ff,CL]
 rw[e,fY a,BJ,BJ] at b;have:=h.len;omega
theorem ArN.fin (h:ArN H H' d ks i 0 kvs) (T:Tre us ks) (e:i=ks.length):ArK kvs us ks:=λu c=>by
 obtain⟨k,b,a⟩:=T.has c;rw[T.par b a];subst e;exact h.old k (by rw[BS (BB _)];exact b) u a
end
def jH (H:Hp) (v:V):Option (Str × Str × Str)->Prop
 | none=>v=.non
 | some (k,x,y)=>∃t,v=.ref t/\H t=some (.tup [.str k,.str x,.str y])
abbrev KL:=List (Addr × Addr × (Str × LS))
structure KLs (H:Hp) (L p:Addr) (kl:KL):Prop where
 l:H L=some (.lst (kl.map λq=>V.ref q.1))
 t:∀q∈kl,H q.1=some (.tup [.str q.2.2.1,.ref q.2.1])
 c:∀q∈kl,H q.2.1=some (.lst (List.map V.str q.2.2.2))
 nd:(kl.map λq=>q.2.1).Nodup
 nl:∀q∈kl,q.2.1≠L/\q.2.1≠p
 lp:L≠p
abbrev cB (kl:KL):Kn:=kl.map λq=>q.2.2
section
variable {H H':Hp}{L p:Addr}{kl:KL}
theorem KLs.draw (h:KLs H L p kl) (c:H p=some (.lst ys)) (b:But p H H'):KLs H' L p kl :=
 ⟨b _ _ h.lp h.l,λq a=>cq c b (h.t q a),λq a=>b _ _ (h.nl q a).2 (h.c q a),h.nd,h.nl,h.lp⟩
theorem KLs.same (h:KLs H L p kl) (s:Same H H'):KLs H' L p kl:=⟨s _ _ h.l,λq a=>s _ _ (h.t q a),λq a=>s _ _ (h.c q a),h.nd,h.nl,h.lp⟩
theorem gt {α:Type}{l:List α}{j:Nat}{b x:α}(h:x∈l.set j b):x=b∨∃m,m≠j/\l[m]? = some x:=by
 obtain⟨m,a⟩:=CG h;by_cases q:m=j
 ·subst q;rw[List.getElem?_set] at a;rw[if_pos rfl] at a
  split at a
  ·exact .inl (BD a).symm
  ·cases a
 ·rw[DG (Ne.symm q)] at a;exact .inr ⟨m,q,a⟩
theorem fP {α β:Type}{f:α->β}{l:List α}{j:Nat}{x y:α}(h:l[j]? = some x) (e:f y=f x):(l.set j y).map f=l.map f:=by
 rw[List.map_set,e];refine List.ext_getElem? λm=>?_;rw[List.getElem?_set]
 split
 ·rename_i q
  subst q;have:=(BF.mp h).1;rw[BA,if_pos this,BM,h];rfl
 ·rfl
theorem KLs.put (h:KLs H L p kl) {j:Nat}{nm:Str}{ch ch':LS}(c:kl[j]? = some (ta, G, (nm, ch))) :
    KLs (upd H G (.lst (List.map V.str ch'))) L p (kl.set j (ta,G,(nm,ch'))):=by
 have f:=BG c;have k:=h.nl _ f;have g:=h.c _ f;have o:((kl.set j (ta,G,(nm,ch'))).map λq=>q.1)=kl.map λq=>q.1:=fP c rfl;have n:((kl.set j (ta,G,(nm,ch'))).map λq=>q.2.1)=kl.map λq=>q.2.1:=fP c rfl;refine⟨?_,λq b=>?_,λq b=>?_,by rw[n];exact h.nd,λq b=>?_,h.lp⟩
 ·rw[ah (Ne.symm k.1),h.l];have:=congrArg (List.map V.ref) o;rw[Cn,Cn] at this;exact congrArg (λz=>some (HO.lst z)) this.symm
 ·rcases gt b with rfl | ⟨m,_,a⟩
  ·have:=h.t _ f;rw[ah (bK this g (by intro z;cases z))];exact this
  ·have:=h.t _ (BG a);rw[ah (bK this g (by intro z;cases z))];exact this
 ·rcases gt b with rfl | ⟨m, d, a⟩
  ·exact af
  ·have e:q.2.1≠G:=λz=>by
      have i:(kl.map λq=>q.2.1)[m]? = some G:=by rw[BM,a];exact congrArg some z
      have l:(kl.map λq=>q.2.1)[j]? = some G:=by rw[BM,c];rfl
      exact d ((Dk (BF.mp i).1 h.nd).mp (i.trans l.symm))
   rw[ah e];exact h.c _ (BG a)
 ·rcases gt b with rfl | ⟨m,_,a⟩
  ·exact k
  ·exact h.nl _ (BG a)
theorem dv {α:Type}{l:List α}{k:Nat}{x y:α}(h:y∈l.take k++x::l.drop k):y=x∨y∈l:=by
 rcases BR.mp h with q | q
 ·exact .inr (List.mem_of_mem_take q)
 ·rcases BH.mp q with q | q
  ·exact .inl q
  ·exact .inr (List.mem_of_mem_drop q)
theorem fq (l:List α) (k:Nat) (x:α):(l.take k++x::l.drop k).Perm (x::l):=by
 have:=List.perm_middle (a:=x) (l₁:=l.take k) (l₂:=l.drop k);rw[CL] at this;exact this
theorem KLs.ins (h:KLs H L p kl) {k:Nat}{u:Str}(c:H ta=some (.tup [.str u, .ref G])) (f:H G=some (.lst [])) (b:G ∉ kl.map λq => q.2.1) (d:G ≠ L) (e:G ≠ p) :
    KLs (upd H L (.lst ((kl.map λq=>V.ref q.1).take k++V.ref ta::(kl.map λq=>V.ref q.1).drop k))) L p (kl.take k++(ta,G,(u,[]))::kl.drop k):=by
 refine⟨?_,λq a=>?_,λq a=>?_,?_,λq a=>?_,h.lp⟩
 ·rw[af];simp[CY,Dw]
 ·rcases dv a with rfl | a
  ·rw[ah (bK c h.l (by intro z;cases z))];exact c
  ·have:=h.t q a;rw[ah (bK this h.l (by intro z;cases z))];exact this
 ·rcases dv a with rfl | a
  ·rw[ah d];exact f
  ·rw[ah (h.nl q a).1];exact h.c q a
 ·have p:=(fq kl k (ta,G,(u,[]))).map λq:Addr × Addr × (Str × LS)=>q.2.1;refine p.nodup_iff.mpr ?_;rw[BZ,Cd];exact⟨b,h.nd⟩
 ·rcases dv a with rfl | a
  ·exact⟨d,e⟩
  ·exact h.nl q a
end
structure TrN (us:LS) (i:Nat) (ks:Kn):Prop where
 perm:(aB ks).Perm (us.take i)
 top:("":Str)∈ks.map (·.1)
 kn:(ks.map (·.1)).Nodup
 sub:∀k∈ks,k.1=""∨k.1∈us.take i
 up:∀k∈ks,∀u∈k.2,k.1=""∨MG.ix us k.1<MG.ix us u
section
variable {us:LS}{i:Nat}{ks:Kn}
theorem TrN.start:TrN us 0 [("",[])]:=⟨by show ([]:LS).Perm _;rw[Dl],by simp,by simp,λk a=>by rw[Cb.mp a];exact .inl rfl,λk a u b=>by rw[Cb.mp a] at b;cases b⟩
theorem ny (pc:ch'.Perm (u::ch)):∀ {ks:Kn}{j:Nat},ks[j]? = some (nm,ch)->(aB (ks.set j (nm,ch'))).Perm (u::aB ks)
 | [],j,h=>by simp at h
 | k::ks,0,h=>by
  have h:k=(nm,ch):=by simpa using h
  subst h;show (ch'++aB ks).Perm (u::(ch++aB ks));exact(pc.append_right _)
 | k::ks,j+1,h=>by
  have h:ks[j]? = some (nm,ch):=by simpa using h
  have ih:=ny pc (ks:=ks) (j:=j) h;show (k.2++aB (ks.set j (nm,ch'))).Perm (u::(k.2++aB ks));exact(ih.append_left _).trans List.perm_middle
theorem TrN.step (h:TrN us i ks) (s:us.Nodup) {u:Str}(f:us[i]? = some u) {j:Nat}{nm:Str}{ch ch':LS}(d:ks[j]? = some (nm, ch)) (pc:ch'.Perm (u :: ch)):TrN us (i+1) (ks.set j (nm, ch')) := by
 have w:=(BF.mp f).1;have t:us.take (i+1)=us.take i++[u]:=by rw[BW,f];rfl
 have b:=BG d;have p:((ks.set j (nm,ch')).map λk=>k.1)=ks.map λk=>k.1:=fP d rfl;have g:MG.ix us u=i:=MG.ix_at s f;have r:∀x∈us.take i,MG.ix us x<i:=λx a=>by
  obtain⟨m,b⟩:=CG a;have c:=(BF.mp b).1;rw[Ch] at c;rw[DH (by omega)] at b;rw[MG.ix_at s b];omega
 refine⟨?_,by rw[p];exact h.top,by rw[p];exact h.kn,λk l=>?_,λk l x a=>?_⟩
 ·rw[t];refine(ny (j:=j) pc d).trans (((h.perm.cons u)).trans ?_);exact(List.perm_append_singleton u _).symm
 ·have:k.1∈ks.map λk=>k.1:=by rw[<- p];exact BE.mpr ⟨k,l,rfl⟩
  obtain⟨v,o,e⟩:=BE.mp this;rw[<- e,t];rcases h.sub v o with q | q
  ·exact .inl q
  ·exact .inr (CH _ q)
 ·rcases gt l with rfl | ⟨m, _, n⟩
  ·rcases BH.mp (pc.mem_iff.mp a) with rfl | a
   ·rcases h.sub _ b with q | q
    ·exact .inl q
    ·right
     rw[g];exact r _ q
   ·exact h.up _ b x a
  ·exact h.up _ (BG n) x a
theorem TrN.knot (h:TrN us (i+1) ks) (n:us.Nodup) (l:∀u ∈ us, u ≠ "") {u:Str}(f:us[i]? = some u) (c:u ∉ ks.map (·.1)) (k:Nat):TrN us (i+1) (ks.take k ++ (u, []) :: ks.drop k) := by
 have m:=BG f;have j:=fq ks k (u,([]:LS));have g:=j.map λk:Str × LS=>k.1;refine⟨?_,g.mem_iff.mpr (BQ _ h.top),g.nodup_iff.mpr (by rw[BZ,Cd];exact⟨c,h.kn⟩),λq b=>?_,λq b x d=>?_⟩
 ·have e:aB (ks.take k++(u,[])::ks.drop k)=aB ks:=by
     have a:aB ((u,([]:LS))::ks.drop k)=aB (ks.drop k):=rfl;rw[ff,a,<- ff,CL]
  rw[e];exact h.perm
 ·rcases dv b with rfl | b
  ·right
   show u∈us.take (i+1);rw[BW,f];simp
  ·exact h.sub q b
 ·rcases dv b with rfl | b
  ·cases d
  ·exact h.up q b x d
theorem TrN.fin (h:TrN us us.length ks) (b:us.Nodup) (nm:∀u∈us,Nm u) (a:us.length<=60):Tre us ks :=
 ⟨by have:=h.perm;rwa [BS (BB _)] at this,b,nm,a,h.top,h.kn,λk c=>by have:=h.sub k c;rwa [BS (BB _)] at this,h.up⟩
end
theorem mm:∀ {ks:Kn}{refs:LV}, RepAll H refs (ks.map cU) -> ∃ls:LV, ls.length=ks.length /\ ∀(i:Nat) (k:Str × LS), ks[i]? = some k -> ∃ta la, refs[i]? = some (.ref ta) /\ ls[i]? = some (.ref la) /\ H ta=some (.tup [.str k.1, .ref la]) /\ H la=some (.tup (k.2.map V.str))
 | [],refs,_=>⟨[],rfl,λi k h=>by simp at h⟩
 | k::ks,refs,h=>by
  obtain⟨y,ys,rfl,r1,r2⟩:=RepAll.consI h;obtain⟨ta,la,rfl,h1,h2⟩:=kR r1;obtain⟨ls,hl,ih⟩:=mm r2;refine⟨.ref la::ls,by rw[BN,BN,hl],λi k' hk=>?_⟩;cases i with
  | zero =>
   have:k=k':=by simpa using hk
   subst this;exact⟨ta,la,rfl,rfl,h1,h2⟩
  | succ i=>exact ih i k' (by simpa using hk)
theorem we (xs:LS) (ys:LV) (h:ys.length=xs.length):(eW xs ys).length=xs.length:=by
 unfold eW;rw[List.length_zip,BA];omega
theorem yy {xs:LS}{ys:LV}{i:Nat}{q:Key × V}(h:(eW xs ys)[i]? = some q):∃x,xs[i]? = some x/\q.1=.inr x/\ys[i]? = some q.2:=by
 unfold eW at h;rw[List.getElem?_zip_eq_some,BM] at h;cases e:xs[i]? with
 | none=>rw[e] at h;cases h.1
 | some x =>
  rw[e] at h;exact⟨x,rfl,(BD h.1).symm,h.2⟩
theorem iF {us:LS}(R:Rep H (.ref a) (cZ ks)) (T:Tre us ks)
    (h:∀D G,H D=none->(∀k∈ks,∃z,aI G (.inr k.1)=some (.ref z)/\H z=some (.tup (k.2.map V.str)))->Q (.ref D) (upd H D (.dK G))):nC K [.ref a] H Q:=by
 obtain⟨N,c,E,A,l⟩:=cz R;cases E;obtain⟨s,v,f⟩:=mm l;have b:=l.len;rw[BA] at b;have u:=T.few;have F:(eW (ks.map (·.1)) s).length=ks.length:=by rw[we _ _ (by rw[BA];exact v),BA]
 refine⟨a,c,eW (ks.map (·.1)) s,rfl,A,by rw[F];exact b,by omega,λi q x B r=>?_,λD J=>?_⟩
 ·obtain⟨L,d,w,m⟩:=yy B;rw[BM] at d;cases e:ks[i]? with
  | none=>rw[e] at d;cases d
  | some k =>
   rw[e] at d;obtain⟨g,z,p,j,n,t⟩:=f i k e;rw[p] at r;rw[j] at m;have y:V.ref g=x:=BD r;have I:V.ref z=q.2:=BD m;have M:k.1=L:=BD d;refine⟨g,y.symm,.of ?_⟩;rw[w,<- I,<- M];exact n
 ·refine h D _ J λk C=>?_;obtain⟨i,o⟩:=CG C;obtain⟨g,z,p,j,n,t⟩:=f i k o;refine⟨z,?_,t⟩;rw[xX _ _ T.kn];exact on T.kn (by rw[BM,o];rfl) j
theorem cV:∀ {ps:List (Str × Str)},(∀e∈ps,Nm e.1/\Nm e.2)->PyData.canLayAll0 (ps.map aG)=true
 | [],_=>rfl
 | e::ps,h=>by
  have:=h e (by simp);show (PyData.canLay0 (aG e)&&PyData.canLayAll0 (ps.map aG))=true;rw[cV λx hx=>h x (BQ _ hx)];show ((PyData.canLay0 (.str e.1)&&(PyData.canLay0 (.str e.2)&&true))&&true)=true;rw[fZ this.1,fZ this.2];rfl
theorem eg (h:Nm e.1/\Nm e.2):PyData.canLay0 (aG e)=true:=by
 show (PyData.canLay0 (.str e.1)&&(PyData.canLay0 (.str e.2)&&true))=true;rw[fZ h.1,fZ h.2];rfl
theorem fj (xs:LS):(List.map V.str xs).all eH=true:=by
 rw[List.all_map,CD];intro x _;rfl
theorem hH (x:Str) (xs:LS):inV (V.str x) (List.map V.str xs)=decide (x∈xs):=by
 rw[Cu,decide_eq_true_iff];unfold inV;rw[List.any_map,Dg]
 constructor
 ·rintro⟨y,a,q⟩;have q:(y==x)=true:=q;have q:y=x:=by simpa using q
  exact q ▸ a
 ·intro h;refine⟨x,h,?_⟩;show (x==x)=true;simp
def tBMT (r:V->LV->Hp->VK->Prop) (to:TE) (t:TA):TE:=λσ H Q=>to σ H λx H1=>(∃p xs,x=.ref p/\H1 p=some (.tup xs))/\t σ H1 λxs H2=>r x xs H2 Q
theorem mG (E:PE X o to) (B:PA X [e] t)
    (d:attributeBase o "index" X.env (eval o X.env)=eval o X.env:=by rfl)
    (g:((backTo cpos (starEach [e] X.env)).all (λx=>!x.1)&&(backToKw cpos (keywordEach [] X.env)).all (λx=>x.1.isSome)
     && decide ([e].length+([]:List Keyword).length+(if ([]:List Keyword).isEmpty then 0 else 1)<30))=true:=by rfl)
    (f:(apos.endLine==cpos.line)=true:=by rfl) (J:starEach [e] X.env=(false,eval e X.env)::starEach [] X.env:=by rfl) (c:(backTo cpos (starEach [] X.env)).any (·.1)=false:=by rfl) :
    PE X (.Call (.Attribute o "index" apos) [e] [] cpos) (tBMT lO to t):=by
 intro b s i H Q I h;refine wpAny_Call_method_late d g f rfl (thn (E b s i H _ I h) λv k ⟨x,j,q,K,⟨p,G,A,y⟩,L⟩=>?_);subst A;cases K;obtain⟨_,w,S,l,r,F,n,T,R⟩:=(show ObjOk X.prog X.w j k.heap p (.tup G) from q.hok p _ y)
 refine⟨"tuple","tuple.index",PySem.F.plainAttrs_tuple,PySem.F.slot_tuple_index,PySem.F.type_tuple_index,⟨l,r,F⟩,λa z=>?_,?_⟩
 ·cases z;exact⟨l,r,R⟩
 ·have m:=B cpos b k i j _ q L;rw[J] at m ⊢;refine Calls.callWith_builtin (by show (false||(backTo cpos (starEach [] X.env)).any (·.1))=false;rw[c] <;> rfl) (Calls.evalArgs_plain (thn m λu P ⟨C,O,N,M,D⟩=>?_));exact sj b P i O (.ref p) C (.ref p) u Q N rfl M D
end L2
namespace PySem
open PySem.Spec PyProof.Rows
def Raw (h:Heap) (d:Addr) (es:Array DictEntry) (ep:Nat):Prop:=∃o,h.get? d=some o/\o.ExactDict/\o.data=.dict es ep
section
variable {prog:Program}{w:World}{A:Around}{E:Value->Shared->Prop}{s:Shared}{it d:Addr}{i ep:Nat}{es:Array DictEntry}
theorem Raw.typ (b:Raw s.heap d es ep):s.TypeIs (.ref d) "dict":=let ⟨o,a,c,_⟩:=b;⟨o,a,c.1⟩
theorem vH (hd:(d==sysModules)=false) (e:Raw s.heap d es ep)
    (f:Q (.ref s.heap.objs.size) { s with heap:=s.heap.push { cls:=.type "dict_keyiterator",data:=.fields #[.ref d,.int 0 0,.int es.size 0,.int ep 0] } }):wpAny (model prog w) A (pyIter (.ref d)) Q E s:=by
 have b:=e.typ;obtain⟨o,c,g,a⟩:=e;refine wpAny_pyIter_slot b F.slot_dict_iter (wpAny_call_entry F.slot_dict_iter b F.entry_dict_iter ?_ (F.args_dict_iter_1 _));unfold Builtin.«dict.__iter__» Builtin.Dict.dictSlotNone;refine Bz (Bz (wpAny_notOrdered_dict b ?_));show wpAny _ _ (pure (Value.ref d)) _ _ s;refine BC ?_;show wpAny _ _ (Builtin.Dict.showsAll d >>= _) _ _ s;unfold Builtin.Dict.showsAll;rw[if_neg (by rw[hd];exact Cf)];refine Bz (BC (Bz (wpAny_dictEntries c a (Bz (wpAny_dictEpoch c a ?_)))));refine Bz (wpAny_newObj_type (BC ⟨_,rfl,"dict_keyiterator",_,⟨_,Ce _ rfl,rfl⟩,F.slot_dict_keyiterator_next.lookup,?_⟩));simpa [rawInt] using f
theorem wA (a:s.heap.IsKeyIter it d i es.size ep) (k:Raw s.heap d es ep) (l:i<es.size)
    (m:∀h',h'.IsKeyIter it d (i+1) es.size ep->Heap.SameBut it s.heap h'->Q (some es[i].key) { s with heap:=h' }):wpAny (model prog w) A (pyNext (.ref it)) Q E s:=by
 obtain⟨o,f,h,hd⟩:=id a;obtain⟨n,b,j,e⟩:=k;have c:Builtin.Dict_items.ownsTuple "dict_keyiterator"=false:=by decide
 unfold pyNext;refine Bz (wpAny_attempt (wpAny_callSpecial?_slot (name:=Str.ofString "__next__") a.typeIs F.slot_dict_keyiterator_next (wpAny_call_entry F.slot_dict_keyiterator_next a.typeIs F.entry_dict_keyiterator_next ?_ (F.args_dict_keyiterator_next_1 _))));refine Bz (BC (Bz (Bz ?_)))
 first | refine Bz (wpAny_typeNameOfWhole_keyiter a.typeIs (BC (Bz (wpAny_fieldsOf f hd ?_)))) | refine Bz (wpAny_typeNameOf_keyiter a.typeIs (BC (Bz (wpAny_fieldsOf f hd ?_))))
 simp only[c,Dt,if_false];show wpAny _ _ (if (Value.ref d==Value.none)=true then _ else _) _ _ s;rw[if_neg (show ¬ ((Value.ref d==Value.none)=true) from Cf)];refine Bz (BC (Bz (wpAny_dictEntries b e ?_)));rw[if_neg (by simp)];refine Bz (BC (Bz (wpAny_dictEpoch b e ?_)));rw[if_neg (by simp)];refine BC ?_;simp only[show ¬ ((i:Int)<0) from by omega,if_false,Dd,Array.getElem?_eq_getElem l];refine Bz ?_
 first | refine Bz (wpAny_typeNameOfWhole_keyiter a.typeIs (BC (Bz (wpAny_isOneOf_keyiter a.typeIs ?_)))) | refine Bz (wpAny_typeNameOf_keyiter a.typeIs (BC (Bz (wpAny_isOneOf_keyiter a.typeIs ?_))))
 show wpAny _ _ (setField (.ref it) 1 (rawInt ((i:Int)+1)) >>= _) _ _ s;refine Bz (wpAny_setField f hd (by simp) ?_);have g:(s.heap.update it (Obj.mapFields (·.setIfInBounds 1 (rawInt ((i:Int)+1))))).IsKeyIter it d (i+1) es.size ep :=
  ⟨_,Dr _ f (Obj.isFreed_of_fields (Obj.data_mapFields hd _)),(Obj.cls_mapFields ..).trans h,by rw[Obj.data_mapFields hd];simp[rawInt]⟩
 refine Bz (Ct (Bz (wpAny_isOneOf_keyiter (s:={ s with heap:=s.heap.update it (Obj.mapFields (·.setIfInBounds 1 (rawInt ((i:Int)+1)))) }) g.typeIs ?_)));show wpAny _ _ (pure es[i].key) _ _ _;exact BC (BC ⟨_,rfl,BC (m _ g (Heap.SameBut.update ..))⟩)
theorem yx (n:A.handled=none) (c:s.heap.IsKeyIter it d i es.size ep) (l:Raw s.heap d es ep) (j:es.size<=i)
    (p:∀h',Heap.ExtBut it s.heap h'->Q none { s with heap:=h' }):wpAny (model prog w) A (pyNext (.ref it)) Q E s:=by
 obtain⟨o,h,q,hd⟩:=id c;obtain⟨r,e,k,g⟩:=l;have f:Builtin.Dict_items.ownsTuple "dict_keyiterator"=false:=by decide
 unfold pyNext;refine Bz (wpAny_attempt (wpAny_callSpecial?_slot (name:=Str.ofString "__next__") c.typeIs F.slot_dict_keyiterator_next (wpAny_call_entry F.slot_dict_keyiterator_next c.typeIs F.entry_dict_keyiterator_next ?_ (F.args_dict_keyiterator_next_1 _))));refine Bz (BC (Bz (Bz ?_)))
 first | refine Bz (wpAny_typeNameOfWhole_keyiter c.typeIs (BC (Bz (wpAny_fieldsOf h hd ?_)))) | refine Bz (wpAny_typeNameOf_keyiter c.typeIs (BC (Bz (wpAny_fieldsOf h hd ?_))))
 simp only[f,Dt,if_false];show wpAny _ _ (if (Value.ref d==Value.none)=true then _ else _) _ _ s;rw[if_neg (show ¬ ((Value.ref d==Value.none)=true) from Cf)];refine Bz (BC (Bz (wpAny_dictEntries e g ?_)));rw[if_neg (by simp)];refine Bz (BC (Bz (wpAny_dictEpoch e g ?_)));rw[if_neg (by simp)];refine BC ?_;simp only[show ¬ ((i:Int)<0) from by omega,if_false,Dd,Array.getElem?_eq_none j];refine Bz ?_
 first | refine Bz (wpAny_typeNameOfWhole_keyiter c.typeIs (BC ?_)) | refine Bz (wpAny_typeNameOf_keyiter c.typeIs (BC ?_))
 show wpAny _ _ (setField (.ref it) 0 .none >>= _) _ _ s;refine Bz (wpAny_setField h hd (by simp) ?_);show wpAny _ _ (newExc (.type "StopIteration") [] >>= _) _ _ _;refine Bz ?_;simp only[newExc,newTuple];refine Bz (wpAny_newObj_type (Bz (m:=firstArgMember _ _) (wpAny_of_eq (a:=Value.none) (by first | rfl | (simp only[firstArgMember];rfl)) (wpAny_newObj_type ?_ (by size_fits)))) (by size_fits));simp only[raiseNew];refine Bz (wpAny_handled ?_);rw[show A.in1.handled=none from n];refine Bz (BC (wpAny_throw ?_));refine Bz (wpAny_isInstance (T:="StopIteration") (b:=true) ⟨_,Ce _ rfl,rfl⟩ isSubtype_stop ?_);exact BC (p _ (((Heap.SameBut.update ..).extBut.push _).push _))
theorem Raw.at (x:Raw h d es ep) (e:∀o,h.get? d=some o->h'.get? d=some o):Raw h' d es ep:=let ⟨o,a,r⟩:=x;⟨o,e o a,r⟩
theorem tU (hh:A.handled=none) (I d:Addr) (hne:d≠I) (es:Array DictEntry) (ep:Nat) :
    Walks prog w A I [I,d] [I] es.size (λi v=>∃h:i<es.size,v=es[i].key) (λi h=>h.IsKeyIter I d i es.size ep/\Raw h d es ep) where
 sub:=λb hb=>by simp at hb;simp[hb]
 frame:=λ_ _ _ st hk=>⟨st.1.at λo e=>hk I (by simp) o e,st.2.at λo e=>hk d (by simp) o e⟩
 item:=λi s Q E hi st hQ=>wA st.1 st.2 hi λh' hit' hs'=>hQ _ h' s.toks ⟨hi,rfl⟩ ⟨hit',st.2.at λo e=>hs'.extBut d o hne e⟩ λb o hb e=>hs'.extBut b o (λh=>hb (by simp[h])) e
 done:=λs Q E st hQ=>yx hh st.1 st.2 (BB _) λh' he'=>hQ h' s.toks λb o hb e=>he' b o (λh=>hb (by simp[h])) e
 self:=λ_ _ _ _ st hQ=>wpAny_pyIter_keyiter st.1 hQ
theorem yH (lo:(d==sysModules)=false):W.KdlSrc prog w "dict" d d es.size (λi v=>∃h:i<es.size,v=es[i].key) (λh=>Raw h d es ep) where
 type:=λ_ hm=>hm.typ
 there:=λ_ hm=>let ⟨_,ho,_⟩:=hm;⟨BK ho,BK ho⟩
 keep:=λ_ _ hm hk=>hm.at λo e=>hk d (.inl rfl) o e
 notList:=by decide
 notTuple:=by decide
 hint:=λ_ _ _ _ hm hq=>W.kdl_hint_dict hm.typ hq
 iter:=λ_ _ hh hm=>⟨_,_,(λ_ _ hq=>vH lo hm hq),tU hh _ d (by obtain⟨_,ho,_⟩:=hm;exact Ca (BK ho)) es ep,⟨⟨_,Ce _ rfl,rfl,rfl⟩,hm.at λ_ e=>BU _ e⟩⟩
theorem pG (x:A.handled=none) (q:(d==sysModules)=false) (p:Raw s.heap d es ep) (t:es.size <= sizeLine)
    (y:∀h' tk z,(∀b o,s.heap.get? b=some o->h'.get? b=some o)->ItemsOf (λi v=>∃h:i<es.size,v=es[i].key) z es.size->Q z.toList { s with heap:=h',toks:=tk }):wpAny (model prog w) A (collect (.ref d)) Q E s:=by
 have c:d<s.heap.objs.size:=by obtain⟨_,r,_⟩:=p;exact BK r
 have k:∀R:Result->Shared->Prop,(∀h' tk z g,(∀b o,s.heap.get? b=some o->h'.get? b=some o)->h'.get? s.heap.objs.size=some { cls:=.type "list",dict:=none,data:=.seq z g,slots:=#[] }->ItemsOf (λi v=>∃h:i<es.size,v=es[i].key) z es.size->R (.ok (.ret (.ref s.heap.objs.size))) { s with heap:=h',toks:=tk }) ->
     codeAny (model prog w) A (.builtin "proto.collect" ⟨[.ref d],[]⟩) R s:=by
  intro R u;refine codeAny_builtin F.entry_proto_collect ?_;rw[Around.under_plainId F.plain_proto_collect _];show wpAny _ A.in1 (newList [] >>= λl=>again (.builtin "list.__iadd__" ⟨[l,.ref d],[]⟩)) _ _ s;refine Bz (wpAny_newObj_type (BC ⟨plainId_quiet F.plain_list_iadd _,codeAny_builtin F.entry_list_iadd ?_⟩));rw[Around.under_plainId F.plain_list_iadd _];show wpAny _ A.in1 (Builtin.List.listExtendWith (.ref s.heap.objs.size) (.ref d) (.ref s.heap.objs.size)) _ _ _;have j:(s.heap.push { cls:=.type "list",data:=.seq ([]:LW).toArray }).get? s.heap.objs.size=some { cls:=.type "list",data:=.seq #[] }:=Ce _ rfl;refine W.kdl_extend (R:=R) (s:={ s with heap:=s.heap.push { cls:=.type "list",data:=.seq ([]:LW).toArray } }) (yH (es:=es) (ep:=ep) q) x (p.at λ_ e=>BU _ e) s.heap.objs.size (CS c) (CS c) _ 0 j (λh' tk f g m n a=>?_) t;exact u h' tk f g (λb o e=>m b o (Ca (BK e)) (BU _ e)) n a
 unfold collect;refine Bz (wpAny_runValue (k _ λh' tk z g m n a=>?_));show wpAny _ A (load s.heap.objs.size >>= _) _ _ _;refine Bz (wpAny_load n ?_);exact BC (y h' tk z m a)
theorem kT (r:A.handled=none) (p:(d==sysModules)=false) (n:Raw s.heap d es ep) (m:es.size<=sizeLine)
    (u:∀(h':Heap) tk acc,(∀b o,s.heap.get? b=some o->h'.get? b=some o)->ItemsOf (λi v=>∃h:i<es.size,v=es[i].key) acc es.size->Q (.ref h'.objs.size) { s with heap:=h'.push { cls:=.type "tuple",data:=.seq acc },toks:=tk }) :
    wpAny (model prog w) A (call (.type "tuple") [.ref d]) Q E s:=by
 refine callType_codes (Q₁:=λf a=>a.TypeIs f "tuple"/\Q f a) F.called_tuple (F.typeCall_tuple_1 _) F.entry_object_init ?_ λf a c=>?_
 ·refine codeAny_of_tree ?_;show wpAny _ A.in1.in1 (do checkBuiltinCall "tuple.__new__" ⟨[.type "tuple",.ref d],[]⟩;again (.builtin "tuple.__new__" ⟨[.type "tuple",.ref d],[]⟩)) _ _ s;refine Bz (wpAny_of_eq (F.newCall_tuple_1 _) (BC ⟨plainId_quiet F.plain_tuple_new _,codeAny_builtin F.entry_tuple_new ?_⟩));rw[Around.under_plainId F.plain_tuple_new _];have l:=sub_tuple_self;have j:=init_tuple_lookup;have t:=madeHere_tuple;have k:=n.typ
  wp_walk using wpAny_typeOf k,pG (es:=es) (ep:=ep) (by exact r) p n m
  intro h' tk acc q g;show wpAny _ _ (Builtin.Tuple.tupleExact acc.toList.toArray >>= λv=>ret v) _ _ _;unfold Builtin.Tuple.tupleExact;refine Bz (wpAny_newObj_type ?_ (by show acc.toList.toArray.size<=sizeLine;simp only[Array.toArray_toList];rw[g.1];exact m));refine BC ?_;have e:acc.toList.toArray=acc:=by simp
  rw[e];exact⟨⟨_,Ce _ rfl,rfl⟩,u h' tk acc q g⟩
 ·exact⟨c.1,F.args_object_init_2 f _,object_init_meets F.called_tuple.init.lookup F.called_tuple.made (by decide) prog w A.in1 _ a ⟨c.1,rfl,c.2⟩⟩
end
end PySem
namespace L2
open PySem PySem.Spec PyProof.Rows
theorem Paired.at:∀ {l:List α}{m:List β}, Paired F l m -> l.length=m.length /\ ∀(i:Nat) (a:α), l[i]? = some a -> ∃b, m[i]? = some b /\ F a b
 | _,_,.nil=>⟨rfl,λi a h=>by simp at h⟩
 | _,_,.cons r t=>by
  obtain⟨hl,ih⟩:=Paired.at t;refine⟨by rw[BN,BN,hl],λi a h=>?_⟩;cases i with
  | zero =>
   have h:=BD h;subst h;exact⟨_,rfl,r⟩
  | succ i=>exact ih i a (by simpa using h)
theorem ko:∀(ys:List (List Key × Addr × Value)),Vals (ys.map λy=>V.ref y.2.1) (ys.map λy=>Value.ref y.2.1)
 | []=>.nil
 | y::ys=>.cons rfl (ko ys)
section
variable {X:Cx}{p pos:Pos}{e:Expr}{t:TA}
def sG:LV->Hp->VK->Prop:=λxs H Q=>∃a kvs,xs=[V.ref a]/\H a=some (.dT kvs)/\∀l rs,H l=none->rs.length=kvs.length->(∀(i:Nat) (k:List Key × V),kvs[i]? = some k->∃q,rs[i]? = some (V.ref q)/\H q=some (.tup (k.1.map kV)))->Q (.ref l) (upd H l (.tup rs))
theorem xS (K:X.calm=true) (B:Blt X.mg) (N:PA X [e] t) (R:Gl X "tuple" := by rfl) (he:starEach [e] X.env=(false, eval e X.env) :: starEach [] X.env := by rfl) (hpl:(backTo pos (starEach [] X.env)).any (·.1)=false := by rfl) :
    PE X (.Call (.Name "tuple" p) [e] [] pos) (tCB sG t):=by
 refine fu (r:=sG) (λC s σ H xs us Q I r h=>?_) R B.tuple (show bootBuiltins "tuple"=some (.type "tuple") by decide +kernel) N (by decide) (by decide) he hpl;obtain⟨a,v,rfl,W,q⟩:=h;obtain⟨u,rfl,L⟩:=cI r;cases L;obtain⟨hz,g,f,M,o,es,ep,S,T,m,E,h5⟩:=(show ObjOk X.prog X.w H s.heap a (.dT v) from I.hok a _ W)
 obtain⟨pl,n⟩:=Paired.at M;have A:es.size=f.length:=by rw[<- CQ,E,BA]
 refine kT (es:=es) (ep:=ep) (I.ok.hd K) g ⟨o,S,T,m⟩ (by omega) λh' U c x d=>?_;have D:=I.kept (h':=h') (t':=U) x;have P:c.toList=f.map λy=>Value.ref y.2.1:=by
  refine List.ext_getElem (by rw[CQ,d.1,BA,A]) λj z l=>?_;rw[BA] at l;have w:j<c.size:=by rw[CQ] at z;exact z
  obtain⟨G,Y⟩:=d.2 j c[j] (Array.getElem?_eq_getElem w);have F:es.toList[j]? = some (entryOfKey (tupleKind (bF X.prog X.w)) f[j]):=by rw[E,BM,BV l];rfl
  have Z:es[j]=entryOfKey (tupleKind (bF X.prog X.w)) f[j]:=by
   have:es.toList[j]? = some es[j]:=by rw[Array.getElem?_toList,Array.getElem?_eq_getElem G]
   rw[this] at F;exact BD F
  rw[Array.getElem_toList,List.getElem_map,Y,Z];rfl
 have O:Vals (f.map λy=>V.ref y.2.1) c.toList:=by
  rw[P];exact ko f
 refine⟨.ref _,_,D.laid (o:=.tup (f.map λy=>V.ref y.2.1)) (λb ob q=>BU _ q) (BB _) ⟨by rw[BA];omega,c.toList,O,?_⟩,rfl,q _ _ (D.hok.fresh (BB _)) (by rw[BA];omega) λi k x=>?_⟩
 ·have e:c.toList.toArray=c:=by simp
  rw[e];exact TupN.new _ _
 ·obtain⟨y,J,z,l,_⟩:=n i k x;exact⟨y.2.1,by rw[BM,J];rfl,l⟩
end
end L2
namespace L2
open PySem
abbrev Prs:=List (Str × Str)
def ba:Prs->Prs->Prs
 | acc,[]=>acc
 | acc,x::xs=>if x∈acc then ba acc xs else ba (acc++[x]) xs
theorem cX:∀(xs ys acc:Prs),ba acc (xs++ys)=ba (ba acc xs) ys
 | [],ys,acc=>rfl
 | x::xs,ys,acc=>by
  show (if x∈acc then ba acc (xs++ys) else ba (acc++[x]) (xs++ys))=ba (if x∈acc then ba acc xs else ba (acc++[x]) xs) ys
  split
  ·exact cX xs ys acc
  ·exact cX xs ys (acc++[x])
theorem gR:∀(xs acc:Prs),(ba acc xs).length<=acc.length+xs.length
 | [],acc=>BB _
 | x::xs,acc=>by
  show (if x∈acc then ba acc xs else ba (acc++[x]) xs).length<=_
  split
  ·have:=gR xs acc;rw[BN];omega
  ·have:=gR xs (acc++[x]);rw[BJ] at this;rw[BN];simp at this;omega
theorem ft:∀(xs acc:Prs) (e:Str × Str), e ∈ ba acc xs ↔ e ∈ acc ∨ e ∈ xs
 | [],acc,e=>by simp[ba]
 | x :: xs, acc, e => by
  show e∈(if x∈acc then ba acc xs else ba (acc++[x]) xs) ↔ _
  split
  ·rename_i h
   rw[ft xs acc e,BH]
   constructor
   ·rintro (q | q)
    ·exact .inl q
    ·exact .inr (.inr q)
   ·rintro (q | rfl | q)
    ·exact .inl q
    ·exact .inl h
    ·exact .inr q
  ·rw[ft xs _ e,BR,Cb,BH,or_assoc]
def cM (ks:Kn) (knot:Str) (e:Str × Str):Option (Str × Str):=match bw ks e.1 e.2 with
 | some (q,x,y)=>if q=knot then some (x,y) else none
 | none=>none
def bY (last:Bool) (c:LS) (u:Str):Prs:=(c.filter λv=>decide (v≠u)).map λv=>if last then (v,u) else (u,v)
def wL (c:LS) (wn:Prs) (word:Str):LS:=(wn.filter λe=>decide (e.1=word)&&decide (e.2∈c)).map (·.2)
def wU (c:LS) (wn:Prs) (word:Str):LS:=c.filter λu=>decide ((word,u)∈wn)
def cH (ks:Kn) (ts wn:Prs) (knot:Str) (c:LS):Prs:=ba [] (ts.filterMap (cM ks knot)++((wU c wn "first").flatMap (bY false c)++(wU c wn "last").flatMap (bY true c)))
def FL (k:Str × LS) (e:Str × Str):Prop:=(e.1="first"/\k.2.head? = some e.2)∨(e.1="last"/\k.2.getLast? = some e.2)
theorem FL.mem (h:FL k e):e.2∈k.2:=by
 rcases h with⟨_,h⟩ | ⟨_,h⟩
 ·exact List.mem_of_head? h
 ·exact List.mem_of_getLast? h
structure WnX (ks:Kn) (wn:Prs):Prop where
 nd:wn.Nodup
 at_:∀e∈wn,∃k∈ks,FL k e
theorem AH {l m:LS}(a:l.Nodup) (nm:m.Nodup) (h:∀x ∈ l, ∀y ∈ l, x=y) (e:∀x, x ∈ l ↔ x ∈ m):l=m := by
 match l,m with
 | [],[]=>rfl
 | [],y::m=>exact absurd ((e y).mpr (by simp)) (by simp)
 | x::l,[]=>exact absurd ((e x).mp (by simp)) (by simp)
 | x :: l, y :: m =>
  have f:l=[]:=by
   cases l with
   | nil=>rfl
   | cons z l =>
    have:=h x (by simp) z (by simp);rw[Cd] at a;exact absurd (this ▸ (by simp:z∈z::l)) a.1
  have b:y=x:=h y ((e y).mpr (by simp)) x (by simp);have c:m=[]:=by
   cases m with
   | nil=>rfl
   | cons z m =>
    have d:=h z ((e z).mpr (by simp)) x (by simp);rw[Cd] at nm;exact absurd ((b.trans d.symm) ▸ (by simp:z∈z::m)) nm.1
  rw[f,c,b]
theorem sM:∀ {l:Prs},(∀e∈l,e.1=word)->l.Nodup->(l.map (·.2)).Nodup
 | [],_,_=>CC
 | e::l,h,nd=>by
  rw[Cd] at nd;rw[BZ,Cd];refine⟨λz=>?_,sM (λx hx=>h x (BQ _ hx)) nd.2⟩;obtain⟨f,hf,q⟩:=BE.mp z;have:f=e:=Prod.ext ((h f (BQ _ hf)).trans (h e (by simp)).symm) q;exact nd.1 (this ▸ hf)
end L2
namespace MG
variable {es:List (Nat × Nat)}{s n P t L:Nat}{me par:Nat->Nat}{rw:Nat->List Nat}
inductive Chn (P:Nat) (me par:Nat->Nat):Nat->Nat->List Nat->Prop
 | done:Chn P me par P 0 []
 | step {j m:Nat} {w:List Nat}:0<j->Chn P me par j m w->Chn P me par (par j) (m+1) (me j::w)
end MG
open PySem
namespace PySem.SeqAt
theorem list_extendT (l b:Addr) (items items2:Array Value) (n n2:Nat) (dd:Option Addr) (sl:Array (Option Value)) (a:¬ (!items.isEmpty&&Builtin.List.listTooLong (items.size+items2.size))=true) (m:items.size <= sizeLine) (j:items.size+items2.size <= sizeLine+1) :
    Meets (Builtin.«list.extend» ⟨[.ref l,.ref b],[]⟩)
     (λA R s=>s.heap.get? l=some { cls:=.type "list",data:=.seq items n }/\s.heap.get? b=some { cls:=.type "tuple",dict:=dd,data:=.seq items2 n2,slots:=sl }/\R (.ok (.ret .none)) { s with heap:=s.heap.update l (Obj.mapSeq λx=>x++items2) }) :=
 .of_wp λc w A R s h=>by
  obtain⟨k,g,d,i,o⟩:=s;obtain⟨f,e,h⟩:=h;unfold Builtin.«list.extend» Builtin.List.listExtendWith
  wp_walk using wpAny_loadPart' f,wpAny_loadPart' e
  rw[show (Obj.mapSeq (λx=>x++items2) { cls:=Value.type "list",data:=Data.seq items n }).data.pastItsLine=none from by
   show (if (items++items2).size > sizeLine+1 then some "sequence:memory" else none)=none;rw[if_neg (by rw[Array.size_append];omega)]]
  exact BC (BC ⟨_,rfl,h⟩)
end PySem.SeqAt
namespace L2
open PySem PySem.Spec PyProof.Rows
section
variable {X:Cx}
def oq (K:W.Frag):V->LV->Hp->VK->Prop:=λx vs H Q=>∃l b xs zs,x=.ref l/\vs=[.ref b]/\H l=some (.lst xs)/\SqT K H b zs/\xs.length+zs.length<=sizeLine/\Q .non (upd H l (.lst (xs++zs)))
theorem ri (K:W.Frag) (D:X.K=K:=by rfl):MtR X "list.extend" (oq K):=by
 subst D;intro t s O H x R v M Q I B A h;obtain⟨l,b,T,N,rfl,rfl,w,J,S,q⟩:=h;cases B;obtain⟨u,rfl,C⟩:=A.one;cases C;obtain⟨z,c,n,r,P,e⟩:=I.lstM w;obtain⟨a,y,p2,E⟩:=I.tuple J;have G:=y.length;obtain⟨⟨p,j,m,o⟩,i,f,L,g⟩:=id p2;simp only at f g;subst f g;have k:c.toArray.size+a.toArray.size<=sizeLine:=by rw[BY,BY];omega
 have d:¬ (!c.toArray.isEmpty&&Builtin.List.listTooLong (c.toArray.size+a.toArray.size))=true:=by
  rw[oP k,Bool.and_false];exact Cf
 refine call_meets F.slot_list_extend ⟨_,e,rfl⟩ F.entry_list_extend (F.args_list_extend_2 _ _)
  (SeqAt.list_extendT l b c.toArray a.toArray n L j o d (by rw[BY];omega) (by omega)) ⟨e,i,?_⟩
 refine⟨.non,_,I.lset (its':=c++a) w e (by simp) (r.append y) ?_,rfl,q⟩;rw[BJ];omega
theorem ml (K:W.Frag) (f:PE X o to) (h:PA X [e] t)
    (b:attributeBase o "extend" X.env (eval o X.env)=eval o X.env:=by rfl)
    (d:((backTo cpos (starEach [e] X.env)).all (λx=>!x.1)&&(backToKw cpos (keywordEach [] X.env)).all (λx=>x.1.isSome)
     && decide ([e].length+([]:List Keyword).length+(if ([]:List Keyword).isEmpty then 0 else 1)<30))=true:=by rfl)
    (c:(apos.endLine==cpos.line)=true:=by rfl) (i:starEach [e] X.env=(false,eval e X.env)::starEach [] X.env:=by rfl) (a:(backTo cpos (starEach [] X.env)).any (·.1)=false:=by rfl) (g:X.K=K:=by rfl) :
    PE X (.Call (.Attribute o "extend" apos) [e] [] cpos) (tBM K "list" (oq K) to t):=g ▸ gS PySem.F.plainAttrs_list PySem.F.slot_list_extend PySem.F.type_list_extend (ri X.K) f h b d c i a
end
end L2
namespace L2
open PySem
def kdO (ks:Kn) (u:Str):LS:=((ks.find? λk=>decide (k.1=u)).map (·.2)).getD []
section
variable {us:LS}{ks:Kn}
def rd (ks:Kn):Nat->Str->LS
 | 0,u=>[u]
 | n+1,u=>u::(kdO ks u).flatMap (rd ks n)
end
end L2
namespace L2
open PySem PySem.Spec PyProof.Rows
open _root_.HT PySem.SeqAt PySem.MeetsSeq PySem.MeetsSeq2 PySem.MeetsSeq3
namespace HTW
variable {prog:Program}{w:World}{A:Around}{E:Value->Shared->Prop}{s:Shared}
theorem getItem_tuple_whole {items:Array Value}{lo hi:Option Int}(b:IsTup s.heap t items) (f:s.heap.IsSliceOf z G I .none) (g:IsPart G lo) (k:IsPart I hi)
    (j:sIx items.size 0 lo=0) (i:sIx items.size items.size hi=items.size)
    (h:Q (.ref t) s):wpAny (model prog w) A (getItem (.ref t) (.ref z)) Q E s:=by
 obtain⟨l,c,d,m⟩:=id f;have e:s.TypeIs (.ref z) "slice":=⟨l,c,d⟩
 unfold getItem
 try with_reducible refine Ct ?_
 first | refine Bz (BC ?_) | skip
 refine Bz (wpAny_sequenceKey b.typeIs (by decide) ?_);refine Bz (wpAny_callSpecial?_slot (name:=Str.ofString "__getitem__") b.typeIs PyProof.Rows.slot_tuple_getitem
  (wpAny_call_entry PyProof.Rows.slot_tuple_getitem b.typeIs entry_tuple_getitem ?_ (args_tuple_getitem _ _)))
 show wpAny _ _ (Builtin.Tuple.tupleItemsOf (.ref t) >>= _) _ _ s;refine Bz (tupleItemsOf_ b ?_);refine Bz (wpAny_typeOf e ?_);rw[if_pos (by decide)];refine Bz (gz f g k ?_);have a:(((sIx items.size 0 lo:Nat):Int)==0&&(1:Int)==1&&(sIx items.size items.size hi-sIx items.size 0 lo)==items.size)=true:=by rw[j,i];simp
 show wpAny _ _ (if (((sIx items.size 0 lo:Nat):Int)==0&&(1:Int)==1&&(sIx items.size items.size hi-sIx items.size 0 lo)==items.size)=true then _ else _) _ _ s;rw[if_pos a];unfold Builtin.Tuple.tupleIsExact;refine Bz (Bz (wpAny_typeOf b.typeIs (BC ?_)));rw[if_pos (by decide)];refine Bz (wpAny_rule (BC ⟨_,rfl,BC h⟩))
end HTW
section
variable {X:Cx}
theorem ux {xs:LV}{lo hi:Option Int}(a:HT.sIx xs.length 0 lo=0) (b:HT.sIx xs.length xs.length hi=xs.length):cD xs lo hi=xs:=by
 unfold cD;rw[a,b,List.drop_zero,Nat.sub_zero,BS (BB _)]
def Bg:V->Option Int->Option Int->Hp->VK->Prop:=λx lo hi H Q=>∃a xs,x=.ref a/\H a=some (.tup xs)/\∀p H',Same H H'->H' p=some (.tup (cD xs lo hi))->Q (.ref p) H'
theorem ji:SlR X Bg:=by
 intro d s t H x v y u o k z Q I j n i l h;obtain⟨a,c,rfl,g,q⟩:=h;by_cases e:HT.sIx c.length 0 o=0/\HT.sIx c.length c.length k=c.length
 ·cases j;obtain⟨f,r,m,A⟩:=I.tuple (.of g);have b:f.toArray.size=c.length:=by rw[BY];exact r.length.symm
  refine⟨"tuple",_,PyProof.Rows.slot_tuple_getitem.lookup,m.typeIs,?_⟩;refine HTW.getItem_tuple_whole m n i l (by rw[b];exact e.1) (by rw[b];exact e.2) ?_;exact⟨.ref a,H,I,rfl,q a H (Same.refl H) (by rw[ux e.1 e.2];exact g)⟩
 ·exact oy d s t H _ v y u o k z Q I j n i l ⟨a,c,rfl,.of g,e,λp w=>q p _ (Same.new w) af⟩
def zw:R2:=λx y H Q=>∃a b xs ys,x=.ref a/\y=.ref b/\H a=some (.tup xs)/\H b=some (.tup ys)/\xs.length+ys.length<=sizeLine/\∀p H',Same H H'->H' p=some (.tup (xs++ys))->Q (.ref p) H'
theorem gG:OpR X (binaryOp .Add) zw:=by
 intro c s g H x y v u Q I j l h;obtain⟨a,b,n,i,rfl,rfl,d,f,m,q⟩:=h;refine wE X.K rfl c s g H _ _ v u Q I j l ⟨a,b,n,i,rfl,rfl,.of d,.of f,m,λe=>q b H (Same.refl H) (by rw[e];exact f),λ_ e=>q a H (Same.refl H) (by rw[e,Cm];exact d),λ_ _ p k=>q p _ (Same.new k) af⟩
end
end L2
namespace L2
open PySem PySem.Spec PyProof.Rows
section
variable {X:Cx}{e e':Expr}{te te':TE}
theorem p1 (a:PE X e te) (b:starEach [e] X.env=(false,eval e X.env)::starEach [] X.env:=by rfl):PA X [e] (dr te io):=au a bO b
theorem p2 (b:PE X e te) (d:PE X e' te') (c:starEach [e,e'] X.env=(false,eval e X.env)::starEach [e'] X.env:=by rfl) (a:starEach [e'] X.env=(false,eval e' X.env)::starEach [] X.env:=by rfl):PA X [e,e'] (dr te (dr te' io)):=au b (au d bO a) c
theorem px (K:W.Frag) (a:Room k X.A) (c:PE X e te) (f:PE X e' te') (d:pP e':=by exact λ_ _=>rfl) (b:X.K=K:=by rfl):PE X (.Subscript e e' pos) (tOp (λx y H Q=>IxX K H x y Q) te te'):=gU (lh K a.units b) c f d
theorem pc (c:Cal X.prog X.w X.K X.mg X.base k x ps sp) (d:Room j X.A) (f:PA X (e::es) t) (a:k<=j:=by decide) (b:Gl X x:=by exact rfl)
    (g:starEach (e::es) X.env=(false,eval e X.env)::starEach es X.env:=by rfl) (hpl:(backTo pos (starEach es X.env)).any (·.1)=false:=by rfl) (hdb:(x==("__debug__":Str))=false:=by decide) :
    PE X (.Call (.Name x p) (e::es) [] pos) (mQ sp [] E0 t):=hI c (d.mono a) b f g hpl hdb
theorem pst (i:Nat) (c:X.N.Nodup) (he:PE X e te) (d:X.N[i]? = some x:=by rfl) (b:Loc X.env.scope x:=by exact Or.inl rfl) (f:swapsWith e (some (.Name x z)) pos.line X.env=pure false:=by rfl)
    (a:X.fn x=true∨X.env.scope.names.lookup x=some .local:=by first | exact .inl rfl | exact .inr rfl | assumption):PS X (.Assign [.Name x z] e pos) (rJ te (cF i)):=cv c d b he f a
end
theorem fsc (c:z.kind=.function:=by rfl) (a:z.isCoroutine=false:=by rfl) (e:z.isGenerator=false:=by rfl) (f:N.Nodup:=by decide +kernel) (d:N.take P.length=P:=by rfl)
    (b:∀x∈P,z.names.lookup x=some .local∨z.names.lookup x=some .cell:=by decide +kernel) (g:∀y∈z.names,y.2≠.free:=by decide +kernel):FnScope N P z:=⟨c,a,e,f,d,b,g⟩
section
variable {P:Program}{w:World}{K:W.Frag}{mg:Str->Option Value}{base:Heap}{x qual:Str}{st:Stmt}{f:Addr}{fd:FuncData}{ps:LS}{k:Nat}{sp:Sp}
theorem Fun.ok1 (F:Fun K x qual st f fd) (N:LS)
    (a:∀ {G:Value} {A:Around} {z:List Env} {s:Shared} {vs:LV},N.Nodup->∀(H:Hp) (Q:VK) (E:XK),Room k (A.deeper (envOfC qual (ak st) s.heap.objs.size f G))->sp vs H Q E ->
     ∃t,PSs (aV CX0 P w K mg base N qual (ak st) f G A z s H E).nox (bX st) t/\t { nx:=λ_ H'=>Q .non H',rt:=Q } (start N vs) H)
    (S:FnScope N ps (ak st):=by exact fsc) (b:∀vs H Q E,sp vs H Q E->vs.length=ps.length:=by intro vs H Q E h;repeat (first | (obtain⟨rfl,_⟩:=h;rfl) | obtain⟨_,h⟩:=h)):FnOk P w K mg base CX0 (k+1) f fd ps sp :=
 F.ok S b λ_ _ _ _ H _ Q E c h=>a S.nd H Q E c h
theorem Fun.ok2 (F:Fun K x qual st f fd) (N:LS)
    (a:∀ {G:Value} {A:Around} {z:List Env} {s:Shared} {vs:LV},N.Nodup->∀(H:Hp) (Q:VK) (E:XK),Room k (A.deeper (envOfC qual (ak st) s.heap.objs.size f G))->sp vs H Q E ->
     ∃t,PSs (aV (CX1 P w) P w K mg base N qual (ak st) f G A z s H E) (bX st) t/\t { nx:=λ_ H'=>Q .non H',rt:=Q } (start N vs) H)
    (S:FnScope N ps (ak st):=by exact fsc) (b:∀vs H Q E,sp vs H Q E->vs.length=ps.length:=by intro vs H Q E h;repeat (first | (obtain⟨rfl,_⟩:=h;rfl) | obtain⟨_,h⟩:=h)):FnOk P w K mg base (CX1 P w) (k+1) f fd ps sp :=
 F.okX S b λ_ _ _ _ H _ Q E c h=>a S.nd H Q E c h
end
theorem szl (n:Nat) (h:n<=sizeLine:=by decide):n<=sizeLine:=h
@[elab_as_elim] theorem nw {M:Hp->Prop}(h:H a=none) (k:∀H',Same H H'->H' a=some o->M H'):M (upd H a o):=k _ (Same.new h) af
example {H:Hp} {a:Addr} {xs:LV} {Q:V->Hp->Prop} (h:H a=none) (q:∀H',Same H H'->H' a=some (.lst xs)->Q .non H'):Q .non (upd H a (.lst xs)):=by
 refine nw h λH2 s2 e2=>?_;exact q H2 s2 e2
end L2
namespace L2
open PySem PySem.W PyProof.Rows
section
variable {lt:Nat->Nat->Bool}{N:Nat}
theorem gd {p:Array Nat}{i:Nat}:p.getD i 0=(p[i]?).getD 0:=by simp
end
end L2
namespace L2
open PySem PySem.Spec PyProof.Rows
theorem yA {prog:Program}{w:World}{A:Around}{E:Value->Shared->Prop}{s:Shared}{a:Addr}{o:Obj}{es:Array DictEntry}{ep:Nat}{Q:Value->Shared->Prop}(b:(a==sysModules)=false) (d:s.heap.get? a=some o) (e:o.ExactDict) (hd:o.data=.dict es ep) (i:(es.size:Int)<2 ^ 63)
 (q:∀t k,Q (.int es.size t) { s with toks:=k }):wpAny (model prog w) A (call (.builtin "len") [.ref a]) Q E s:=by
 have c:s.TypeIs (.ref a) "dict":=⟨o,d,e.1⟩
 refine Calls.call_function_entry kind_len plain_len entry_len (args_len1 _) ?_;unfold Builtin.len;refine Bz (BC ?_);refine Bz (wpAny_callSpecial?_slot c PySem.F.slot_dict_len (wpAny_call_entry PySem.F.slot_dict_len c PySem.F.entry_dict_len ?_));unfold Builtin.«dict.__len__» Builtin.Dict.dictSlotNone dictSize Builtin.Dict.pendingCount;refine Bz (Bz (wpAny_notOrdered_dict c ?_));refine Bz (BC (BC ?_));refine Bz (BC ?_);refine Bz (Bz (wpAny_dictEntries d hd (BC ?_)));rw[if_neg (by rw[b];decide)];refine Bz (BC ?_);unfold retInt;refine Bz (wpAny_mkInt ?_);refine BC ⟨_,rfl,?_⟩;refine Bz (Ct ?_);refine BC ?_;refine Bz (wpAny_letGo ?_);dsimp only;have f:¬ ((es.size:Int)+((0:Nat):Int)<0):=by omega
 have h:¬ ((es.size:Int)+((0:Nat):Int) ≥ 2 ^ 63):=by omega
 rw[if_neg f,if_neg h];refine Bz (wpAny_mkInt ?_);refine BC ⟨_,rfl,?_⟩;have g:(es.size:Int)+((0:Nat):Int)=es.size:=by omega
 rw[g];exact q _ _
section
variable {X:Cx}{p pos:Pos}{e:Expr}{t:TA}
def xc:LV->Hp->VK->Prop:=λxs H Q=>∃a kvs,xs=[V.ref a]/\H a=some (.dT kvs)/\Q (.int kvs.length) H
theorem tE:dJ X (.builtin "len") xc:=by
 intro e s x H B w Q I r h;obtain⟨a,b,rfl,l,q⟩:=h;obtain⟨u,rfl,i⟩:=cI r;cases i;obtain⟨p,c,y,j,o,g,A,m,n,d,v,z⟩:=(show ObjOk X.prog X.w H s.heap a (.dT b) from I.hok a _ l)
 have f:g.size=b.length:=by rw[<- CQ,v,BA,j.length]
 refine yA c m n d (by rw[f];rw[sizeLine_eq] at p;omega) λt k=>⟨.int b.length,H,I.tok _,⟨t,by rw[f]⟩,q⟩
theorem zq (B:Blt X.mg) (a:PA X [e] t) (b:Gl X "len":=by rfl) (he:starEach [e] X.env=(false,eval e X.env)::starEach [] X.env:=by rfl) (hpl:(backTo pos (starEach [] X.env)).any (·.1)=false:=by rfl):PE X (.Call (.Name "len" p) [e] [] pos) (tCB xc t) :=
 dL tE b B.len PySem.boot_len a (by decide) (by decide) he hpl
end
section
variable {X:Cx}{o e:Expr}{apos cpos:Pos}{td ty:TE}
def AD (a:Addr) (vs:List (Key × Value)) (td ty:TE):TE:=λσ H Q=>td σ H λx H1=>x=.ref a/\ty σ H1 λy H2=>∃z,y=kV z/\(∀v,valueAt vs z=some v->∃u,RelV u v/\Q u H2)/\(valueAt vs z=none->Q .non H2)
theorem vQ {a:Addr}{G:List (Key × Value)}(k:KD X.prog X.w X.K a G) (E:PE X o td) (he:PE X e ty) (m:M1 X o "get" apos e cpos):PE X (.Call (.Attribute o "get" apos) [e] [] cpos) (AD a G td ty):=by
 intro c s g H Q I h;refine wpAny_Call_method m.base m.few m.line PySem.F.plainAttrs_dict PySem.F.slot_dict_get PySem.F.type_dict_get (thn (E c s g H _ I h) λu A ⟨x,n,i,p,w,L⟩=>?_);subst w;obtain rfl:u=Value.ref a:=p;have d:=k.dict i.kIn;refine⟨d.typeIs,λb q=>?_,?_⟩
 ·cases q;obtain⟨F,_,_,K,t,_⟩:=d;exact⟨F,K,t.2.1⟩
 rw[m.trees];refine Calls.callWith_builtin rfl (Calls.evalArgs_plain (Calls.spliced_cons (thn (he c A g n _ i L) λN M ⟨y,j,f,D,z,J,C,r⟩=>Calls.spliced_nil ?_)));subst J;have d:=k.dict f.kIn;refine call_meetsIn PySem.F.slot_dict_get d.typeIs PySem.F.entry_dict_get (PySem.F.args_dict_get_2 _ _) (meets_dict_get (bF X.prog X.w) a (gp D) k.1) ⟨_,d.mapOf,?_⟩;cases l:valueAt G z with
 | some v=>obtain⟨u,B,q⟩:=C v l;exact⟨u,j,f.tok _,B,q⟩
 | none=>exact⟨.non,j,f.tok _,rfl,r l⟩
end
section
variable {M:Model}{A:Around}{E:Value->Shared->Prop}{nm q nm' q':Str}{C N D N':Addr}{bs bm bs' bm':LW}{hdct hdct':Bool}{sn sn':LS}{sub sub':LW}{ab ab':Bool}{col col':Option Bool}{dd dd':Option Addr}{k0 k1 k2 k3 k5 j0 j1 j2 j3 j5:Option Value}{newId newId':String}
theorem pO {h:Heap}{g:Array GenState}{d:Drawn}{t:Nat}{os:OsState}{e:Addr}{z:Obj}{Q:Bool -> Shared -> Prop}
    (k:h.get? C=some (excClassObj nm q C N bs bm hdct sn sub ab col dd k0 k1 k2 k3 k5 newId)) (he:h.get? e=some z) (a:z.cls=.ref C)
    (i:h.get? D=some (excClassObj nm' q' D N' bs' bm' hdct' sn' sub' ab' col' dd' j0 j1 j2 j3 j5 newId')) (l:bm'.contains (.type "BaseException")=true)
    (b:(Value.ref C::bm).contains (.ref D)=false) (j:Q false ⟨h,g,d,t,os⟩):wpAny M A (excMatches (.ref e) (.ref D)) Q E ⟨h,g,d,t,os⟩:=by
 have c:(Value.ref D::bm').contains (.type "BaseException")=true:=by rw[List.contains_cons,l,Bool.or_true]
 have f:=tc_notTuple;unfold excMatches
 repeat first
  | (with_reducible refine wpAny_loadPart_at he ?_
     rw[a])
  | with_reducible refine wpAny_loadPart_at i ?_
  | (with_reducible refine wpAny_isSubtype_exc i ?_
     rw[c])
  | (with_reducible refine wpAny_isSubtype_exc k ?_
     rw[b])
  | wp_step
 exact j
end
section
variable {X:Cx}{pins pins':List (Addr × Obj)}{σ σ0:St}{H:Hp}{s:Shared}{E:XK}
def Ax (base:Heap) (Dc:Addr) (i:Nat) (th:TS) (Dc':Addr) (th':TS) (D:Ends) (σ:St):XK:=λcls dd H2=>∃C bm,cls=.ref C/\XAt base C bm /\
 (((Value.ref C::bm).contains (.ref Dc)=true/\∀a,H2 a=none->th { nx:=λσ' H'=>D.nx (σ'.set i none) H',rt:=D.rt,bk:=λσ' H'=>D.bk (σ'.set i none) H',ct:=λσ' H'=>D.ct (σ'.set i none) H' } (σ.set i (some (.ref a))) (upd H2 a (nA a C dd))) ∨
  ((Value.ref C::bm).contains (.ref Dc)=false/\(Value.ref C::bm).contains (.ref Dc')=true/\th' D σ H2))
def Ba (base:Heap) (tb:St->XK->TS) (Dc:Addr) (i:Nat) (th:TS) (Dc':Addr) (th':TS):TS:=λD σ H=>tb σ (Ax base Dc i th Dc' th' D σ) D σ H
theorem yh {Dc a3:Addr}{a4 a1:LW}{Dn U n:Str}{i:Nat}{q q' a9 a2 a6:Pos}{a0:List Stmt}{tb:St -> XK -> TS}{Y O:Stmt}{J G:List Stmt}{th a5:TS}
    (hb:∀pins σ E,PSs (X.catch pins σ E) a0 (tb σ E)) (c:X.stack=X.env::X.outer) (r:X.env.frame=some X.env.locals) (c5:Gl X Dn) (b3:X.mg Dn=some (.ref Dc)) (hD:XAt X.base Dc a4) (a7:a4.contains (.type "BaseException")=true)
    (S:Gl X U) (R:X.mg U=some (.ref a3)) (b4:XAt X.base a3 a1) (N:a1.contains (.type "BaseException")=true)
    (P:X.N.Nodup) (hi:X.N[i]? = some n) (M:X.env.scope.names.lookup n=some .local) (hs:∀a xe,PSs (X.mark (.ref a) xe) (Y::J) th) (b8:∀a xe,PSs (X.mark (.ref a) xe) (O::G) a5) (b7:(Dn==("__debug__":Str))=false:=by decide) (a8:(U==("__debug__":Str))=false:=by decide) :
    PS X (.Try a0 [.ExceptHandler (some (.Name Dn q)) (some n) (Y::J) a9,.ExceptHandler (some (.Name U q')) none (O::G) a2] [] [] a6) (Ba X.base tb Dc i th a3 a5):=by
 intro pins s σ H D I h;refine wpAny_Try_except (CF (hb pins σ _ [] s σ H D I.catch h) (λp g L=>?_) λev g L=>?_)
 ·have ok:=I.ok;cases p with
  | next=>exact let ⟨b,k,f,q'⟩:=L;wpAny_execs_nil ⟨b,k,f.ofCatch ok,q'⟩
  | brk=>exact let ⟨b,k,f,q'⟩:=L;⟨b,k,f.ofCatch ok,q'⟩
  | cont=>exact let ⟨b,k,f,q'⟩:=L;⟨b,k,f.ofCatch ok,q'⟩
  | ret u=>exact let ⟨v,b,k,f,r',q'⟩:=L;⟨v,b,k,f.ofCatch ok,r',q'⟩
 ·obtain⟨H1, s1, I1, a, d7, dq, B, k, rfl, os, l, un, K, p, V, TB, KB, AB, C, bm, rfl, hC, m⟩ := L;have b5:XF B (X.env::X.outer) a (.ref C) dq .none g.heap:=c ▸ p;have b6:s1.heap.get? a=none := by
   cases z:s1.heap.get? a with
   | none=>rfl
   | some ob =>
    by_cases hb:a∈frs X.stack
    ·obtain⟨_,o1,g1,g2⟩:=p.2.2.1.mem hb;obtain⟨oe,c3,b0,c4⟩:=p.rec;rw[g1] at b0;cases b0;exact absurd c4 (g2 c3)
    ·obtain⟨o',e'⟩:=AB a ob z hb;have:=p.2.1;rw[e'] at this;cases this
  have T:X.A.frames=some (X.env::X.outer):=c ▸ I.ok.frames;refine xj T r b5 λh4 f4 w=>?_;refine kC (s:={ g with heap:=h4 }) f4 λh5 f5 y=>?_;have t:Inv X pins σ k { g with heap:=h5 }:=lB I1 c r os l un K (c ▸ f5) (w.trans y) TB KB AB;refine wpAny_handleBy_cons (codeAny_handlers_test (fS (X:=X.mark (.ref a) (λ_ _=>False)) t.mark c5 b3 ?_ b7)) (by intro z;cases z);obtain⟨oe,ge,gc,_⟩:=f5.there;obtain⟨nm,qq,NN,bs,d1,sn,e0,ab,e8,dd,k0,k1,k2,k3,k5,c0,gC⟩:=hC;obtain⟨d8,e4,d3,e7,c2,f1,d0,d5,c7,e3,j0,j1,j2,j3,j5,b2,gD⟩:=hD;rcases m with⟨F,m⟩ | ⟨Q,F,m⟩
  ·refine jx (t.bk _ _ gC) ge gc (t.bk _ _ gD) a7 F (codeAny_handlers_suite_as (kC (s:={ g with heap:=h5 }) f5 λh6 Z A=>?_));have I6:Inv X pins σ k { g with heap:=h6 }:=lB I1 c r os l un K (c ▸ Z) ((w.trans y).trans A) TB KB AB;obtain⟨o6,g6,c6,d6⟩:=Z.there;have n6:W.notCls o6=true:=by
    obtain⟨o7,d4,g7,k7⟩:=Z.rec;have z7:=BD (g7.symm.trans g6);rw[<- z7];unfold W.notCls;rw[k7]
   have I7:Inv X pins σ (upd k a (nA a C dq)) { g with heap:=h6 }:=Inv.track I1 I6 b6 V ⟨⟨o6,g6,c6,d6,n6⟩,⟨o6,g6⟩,λh1 h2 ⟨o,e1,e2⟩ z=>⟨o,z o e1,e2⟩⟩;refine gO (v:=.ref a) I7 P hi (.inl M) rfl (λs8 I8=>?_) (.inr M);refine CF (hs a _ pins s8 _ _ _ I8.mark (m a V)) (λp s9 j=>?_) λev s9 j=>j;cases p with
   | next =>
    obtain⟨b,x,d,e⟩:=j;exact kL (d.unmark I.ok) P hi M λg f=>⟨_,_,f,e⟩
   | brk =>
    obtain⟨b,x,d,e⟩:=j;exact kL (d.unmark I.ok) P hi M λg f=>⟨_,_,f,e⟩
   | cont =>
    obtain⟨b,x,d,e⟩:=j;exact kL (d.unmark I.ok) P hi M λg f=>⟨_,_,f,e⟩
   | ret u =>
    obtain⟨v,b,x,d,r9,e⟩:=j;exact kL (d.unmark I.ok) P hi M λg f=>⟨v,_,_,f,r9,e⟩
  ·refine pO (t.bk _ _ gC) ge gc (t.bk _ _ gD) a7 Q ?_;refine wpAny_handleBy_cons (codeAny_handlers_test (fS (X:=X.mark (.ref a) (λ_ _=>False)) t.mark S R ?_ a8)) (by intro z;cases z);obtain⟨e5,d9,d2,e6,b9,e9,c9,f2,c8,f0,i0,i1,i2,i3,i5,b1,c1⟩:=b4;refine jx (t.bk _ _ gC) ge gc (t.bk _ _ c1) N F (codeAny_handlers_suite (kC (s:={ g with heap:=h5 }) f5 λh6 Z A=>?_));have I6:Inv X pins σ k { g with heap:=h6 }:=lB I1 c r os l un K (c ▸ Z) ((w.trans y).trans A) TB KB AB;refine CF (b8 a _ pins _ _ _ _ I6.mark m) (λp s9 j=>?_) λev s9 j=>j;cases p with
   | next=>exact let ⟨b,x,d,e⟩:=j;⟨_,_,d.unmark I.ok,e⟩
   | brk=>exact let ⟨b,x,d,e⟩:=j;⟨_,_,d.unmark I.ok,e⟩
   | cont=>exact let ⟨b,x,d,e⟩:=j;⟨_,_,d.unmark I.ok,e⟩
   | ret u=>exact let ⟨v,b,x,d,r9,e⟩:=j;⟨v,_,_,d.unmark I.ok,r9,e⟩
end
section
variable {X:Cx}{elt iter:Expr}{ifs:List Expr}{scope:Scope}{pos px:Pos}{x:Str}{r:LS}{wi:TI}{tc:TT}{te:TE}
theorem bn (a:Scope) (e:LS) (d:List Nat) (x:Str) (r:LS) (g:PI X (.Name x px) iter wi) (j:∀ {I C G z ex},PTs (cxC X scope (x::r) I C G z ex) ifs tc) (he:∀ {I C G z ex},PE (cxC X scope (x::r) I C G z ex) elt te)
    (k:(x::r).Nodup:=by decide) (h:X.calm=true:=by rfl) (f:∀ {I C G z ex},(cxC X scope (x::r) I C G z ex).env.scope.names.lookup x=some .local:=by intros;rfl)
    (m:∀x,foldedSetIterable iter X.env x=pure x:=by intro _;rfl) (b:X.env.scope=a:=by rfl) (c:X.N=e:=by rfl) (l:iR a scope e [x] d (x::r)=true:=by decide +kernel) :
    PE X (.ListComp elt [⟨.Name x px,iter,ifs,0⟩] scope pos) (qV 1 d wi (cF 0) tc te) :=
 lK a e [x] d (x::r) h g (λ_ _ _ _ _=>az (i:=0) k rfl (Or.inl f) (Or.inr f)) (λ_ _ _ _ _=>j) (λ_ _ _ _ _=>he) m b c l
end
end L2
namespace K77
open PySem L2
def top (i:Nat):Stmt:=PySem.Challenge.pw_orderkeep_k77_whole_bent_texts_of_houses.main.body.getD i (.Pass ⟨0,0,0,0⟩)
abbrev li:Stmt:=top 6
abbrev lR:Stmt:=top 8
abbrev ow:Stmt:=top 9
abbrev oV:Stmt:=top 10
abbrev ka:Stmt:=top 11
abbrev mJ:Stmt:=top 12
abbrev kJ:Stmt:=top 14
abbrev je:Stmt:=top 15
abbrev kS:Stmt:=top 16
abbrev oK:Stmt:=top 17
abbrev nj:Stmt:=top 18
abbrev iy:Stmt:=top 24
abbrev fV:Stmt:=top 25
abbrev kQ:Stmt:=top 26
abbrev oC:Stmt:=top 27
abbrev js:Stmt:=top 28
abbrev fc:Stmt:=top 29
abbrev fW:Stmt:=top 30
abbrev qQ:Stmt:=top 31
abbrev ma:Stmt:=top 33
abbrev sO:Stmt:=top 34
abbrev jJ:Stmt:=top 36
abbrev xi:Stmt:=top 38
abbrev gk:Stmt:=top 39
abbrev ia:Stmt:=top 40
abbrev kO:Stmt:=top 41
abbrev iA:Stmt:=top 43
abbrev oH:Stmt:=top 44
abbrev iq:Stmt:=top 45
abbrev iH:Stmt:=top 46
abbrev iY:Stmt:=top 48
abbrev eP:Stmt:=top 52
abbrev fz:Stmt:=top 53
abbrev hZ:Stmt:=top 54
abbrev nK:Stmt:=top 55
abbrev gX:Stmt:=top 56
abbrev zW:Stmt:=top 58
abbrev xD:Stmt:=top 59
abbrev dw:Stmt:=top 60
abbrev ry:Stmt:=top 61
abbrev qA:Stmt:=top 62
abbrev xG:Stmt:=top 63
abbrev ju:Stmt:=top 64
abbrev nF:Stmt:=top 65
abbrev nS:Stmt:=top 66
abbrev uU:Stmt:=top 67
abbrev xf:Stmt:=top 68
abbrev nI:Stmt:=top 69
abbrev tD:Stmt:=top 70
abbrev uS:Stmt:=top 71
abbrev xp:Stmt:=top 72
abbrev xt:Stmt:=top 73
abbrev xA:Stmt:=top 74
abbrev xz:Stmt:=top 75
abbrev sS:Stmt:=top 76
abbrev oZ:Stmt:=top 77
abbrev eX:Stmt:=Bd (top 2) 0
section
variable {P:Program}{w:World}{K:W.Frag}{mg:Str->Option Value}{base:Heap}
def qT (K:W.Frag):Sp:=λvs H Q _=>∃(p a:_) (m:Nat),vs=[.ref p,.int (m:Int)]/\Pen K H p a/\m<=60 /\
 ∀l ss H',ss.length=m->ss.Nodup->(∀s∈ss,Nm s)->H' l=some (.lst (List.map V.str ss))->H l=none->l≠p->PenV H' p a->But p H H'->Q (.ref l) H'
def xn (K:W.Frag):Sp:=λvs H Q _=>∃(a:_) (ns:List Int),vs=[.ref a]/\SqL K H a (ns.map V.int)/\∀p H',Pen K H' p a->Q (.ref p) H'
theorem zu {f:Addr}{fd:FuncData}(F:Fun K "_law_pen" "_law_pen" zW f fd) (B:Blt mg):FnOk P w K mg base CX0 1 f fd ["_law_script"] (xn K):=by
 refine F.ok1 ["_law_script"] λe H Q E d h=>?_;obtain⟨a,ns,rfl,c,k⟩:=h;refine⟨_,(ae (ai (bt (au (pv 0) (p2 ac ac))))),?_⟩;refine⟨_,rfl,(szl 3),λp b=>?_⟩;exact k p _ (Pen.new (ns:=ns) c b ⟨0,0,af,by decide,by decide⟩)
theorem yi {f:Addr}{fd:FuncData}(F:Fun K "_law_draw" "_law_draw" xD f fd) (B:Blt mg):FnOk P w K mg base CX0 1 f fd ["_law_pen_here", "_law_most"] (dX K) := by
 refine F.ok1 ["_law_pen_here","_law_most","_law_found","_law_place","_law_cell","_law_first","_law_second"] λr H Q E e h=>?_;obtain⟨p,a,m,rfl,⟨⟨ns,I⟩,i,n,s,G,z⟩,l,u,k⟩:=h;have x:∀(t:Hp) (o:HO),(∀b,b≠p->t b=H b)->∀b,b≠p->(upd t p o) b=H b:=λt o q b n=>by rw[ah n];exact q b n
 refine⟨_,(aa (aJ (aj eZ (px K e (pv 0) ac) ac (av _)) (aa (pst 2 r (aH dC (px K e (pv 0) ac) (pv 1)))
  (aa (bU (aH jf (px K e (pv 0) ac) (pv 1)) (ce (pv 0) ac (cC e.units)))
  (ae (ai (pv 2))))) aF)
  (aa (pst 3 r (px K e (pv 0) ac))
  (aa (bU (aH aK (pv 3) ac) (ce (pv 0) ac (cC e.units)))
  (aa (pst 4 r ac)
  (aa (aJ (aj eZ (aQ K B (p1 (px K e (pv 0) ac))) ac (av _)) (ae (pst 4 r (px K e (px K e (pv 0) ac) (aH dC (pv 3) (aQ K B (p1 (px K e (pv 0) ac))))))) aF)
  (aa (aJ (PW.pt (cR (aj dO (pv 3) (aQ K B (p1 (px K e (pv 0) ac))) (av _)) (cA (aj xx (qX B (p1 (pv 4))) (aH Aa ac ac) (av _))))) (aa (bU (aH jf (qX B (p1 (pv 4))) (pv 1)) (ce (pv 0) ac (cC e.units)))
  (ae (ai (aH dC (qX B (p1 (pv 4))) (pv 1))))) aF)
  (aa (pst 5 r (aH dC (aH gE (aH aK (aH aK (aH dC (pv 4) ac) (aH gE ac (pv 3))) ac) ac) ac))
  (aa (pst 6 r (aH dC (aH aK (aH aK (aH gE (pv 5) (pv 5)) (aH gE ac (pv 3))) ac) ac))
  (ae (ai (aH dC (aH jf (pv 6) ac) (pv 1)))))))))))),?_⟩
 refine⟨_,rfl,.lst (.of s) rfl ⟨_,_,rfl,rfl,_,rfl,?_⟩⟩;refine aA (λh=>?_) (λh=>?_)
 ·refine⟨_,rfl,.lst (.of s) rfl ⟨_,rfl,_,_,rfl,rfl,l,?_⟩⟩;refine⟨_,rfl,.lst (.of s) rfl ⟨_,rfl,_,_,rfl,rfl,⟨l,u⟩,?_⟩⟩;refine⟨_,rfl,.lst (j:=2) s rfl ?_⟩;refine⟨_,rfl,?_⟩;exact k _ _ (Di _ (by omega)) (DA _ l) ⟨i,n / m,af,G,Int.ediv_nonneg z (by omega)⟩ (x H _ λ_ _=>rfl)
 ·refine⟨_, rfl, .lst (.of s) rfl ?_⟩;refine⟨_,rfl,.int ?_⟩;refine⟨_,rfl,.lst (j:=1) s rfl ?_⟩;have d:(upd H p (.lst ([V.ref a,V.int i,V.int n].set 1 (V.int (i+1))))) p=some (.lst [.ref a,.int (i+1),.int n]):=af;have g:SqL K (upd H p (.lst ([V.ref a,V.int i,V.int n].set 1 (V.int (i+1))))) a (ns.map V.int):=I _ But.upd;have y:∀b,b≠p->(upd H p (.lst ([V.ref a,V.int i,V.int n].set 1 (V.int (i+1))))) b=H b:=x H _ λ_ _=>rfl;generalize upd H p (.lst ([V.ref a,V.int i,V.int n].set 1 (V.int (i+1))))=t at d g y ⊢;have v:∀c:Int,0<=c->Q (.int (c % m)) t:=λc C=>k _ _ (Di _ (by omega)) (DA _ l) ⟨i+1,n,d,by omega,z⟩ y;refine⟨_,rfl,.lst (.of d) rfl ⟨_,_,rfl,Or.inl ⟨_,g,rfl⟩,_,_,rfl,rfl,_,rfl,?_⟩⟩;refine aA (λh=>?a) (λh=>?b)
  case' a =>
   have A:(0:Int)<((ns.map V.int).length:Nat):=BX h;obtain⟨c,C⟩:=AE (ns:=ns) (j:=i % ((ns.map V.int).length:Nat)) (Di _ (by omega)) (DA _ A);refine⟨_,rfl,.lst (.of d) rfl ⟨_,rfl,_,rfl,.lst (.of d) rfl ⟨_,_,rfl,Or.inl ⟨_,g,rfl⟩,_,_,rfl,rfl,A,.lst g C ?_⟩⟩⟩
  all_goals
   refine⟨_,rfl,_,rfl,.lst (.of d) rfl ⟨_,_,rfl,Or.inl ⟨_,g,rfl⟩,.int ⟨_,rfl,?_⟩⟩⟩;refine aA (λJ=>?_) (λJ=>?_)
   ·refine⟨_,rfl,_,rfl,_,_,rfl,rfl,⟨by decide,by decide,by decide⟩,_,_,rfl,rfl,_,rfl,?_⟩;refine aA (λD=>?_) (λD=>?_)
    ·refine⟨_,rfl,_,rfl,_,rfl,_,_,rfl,rfl,⟨l,u⟩,?_⟩;refine⟨_,rfl,.lst (j:=2) d rfl ?_⟩;refine⟨_,rfl,_,rfl,_,rfl,_,_,rfl,rfl,l,?_⟩;refine k _ _ (Di _ (by omega)) (DA _ l) ⟨i+1,_,af,by omega,Int.ediv_nonneg (by split <;> omega) (by omega)⟩ (x t _ y)
    ·refine⟨_,rfl,_,_,rfl,rfl,(by show (0:Int)<_;decide),_,rfl,_,_,rfl,rfl,.inl ⟨by decide,by decide⟩,.int (.int ⟨_,_,rfl,rfl,.inr ⟨by decide,by decide⟩,_,_,rfl,rfl,(by show (0:Int)<_;decide),?_⟩)⟩;refine⟨_,rfl,_,rfl,_,_,rfl,rfl,.inl (lU _),_,rfl,_,_,rfl,rfl,.inl ⟨by decide,by decide⟩,.int (.int ⟨_,_,rfl,rfl,(by show (0:Int)<_;decide),?_⟩)⟩;refine⟨_,rfl,_,_,rfl,rfl,⟨by decide,by decide⟩,_,rfl,_,_,rfl,rfl,l,?_⟩;exact v _ (Int.ediv_nonneg (Di _ (by decide)) (by decide))
   ·refine⟨_,rfl,_,_,rfl,rfl,(by show (0:Int)<_;decide),_,rfl,_,_,rfl,rfl,.inl ⟨by decide,by decide⟩,.int (.int ⟨_,_,rfl,rfl,.inr ⟨by decide,by decide⟩,_,_,rfl,rfl,(by show (0:Int)<_;decide),?_⟩)⟩;refine⟨_,rfl,_,rfl,_,_,rfl,rfl,.inl (lU _),_,rfl,_,_,rfl,rfl,.inl ⟨by decide,by decide⟩,.int (.int ⟨_,_,rfl,rfl,(by show (0:Int)<_;decide),?_⟩)⟩;refine⟨_,rfl,_,_,rfl,rfl,⟨by decide,by decide⟩,_,rfl,_,_,rfl,rfl,l,?_⟩;exact v _ (Int.ediv_nonneg (Di _ (by decide)) (by decide))
section
variable {g:TG}{tb:TS}{D:Ends}{R:VK}{σ:St}{H:Hp}
theorem bV {a:Addr}{xs:LV}(Pv:Nat -> St -> Hp -> Prop) (e:Pv 0 σ H) (b:∀i σ H, i <= xs.length -> Pv i σ H -> SqT K H a xs)
    (f:∀ {B:St->Hp->Prop},∀i x σ H,xs[i]? = some x->Pv i σ H->g x σ H λσ2 H2=>tb { nx:=Pv (i+1),rt:=R,bk:=B,ct:=Pv (i+1) } σ2 H2) (hd:∀σ H,Pv xs.length σ H->D.nx σ H) (c:D.rt=R:=by rfl) :
    ∃W:Nat->Nat->St->Hp->Prop,(∃m,W 0 m σ H)/\∀i m σ H,W i m σ H ->
     ((Itt K a).stop i H/\D.nx σ H)∨((Itt K a).go i H/\∃N:St->Hp->Prop,(∀σ' H',N σ' H'->∃z,z<m/\W (i+1) z σ' H')/\∀x H',(Itt K a).yld i H x H'->g x σ H' λσ2 H2=>tb { D with nx:=N,ct:=N,bk:=D.nx } σ2 H2) :=
 qg Pv e b (λi x σ H d p=>c ▸ f i x σ H d p) hd
theorem dD {a:Addr}{xs:LV}(Pv:Nat -> St -> Hp -> Prop) (e:Pv 0 σ H) (b:∀i σ H, i <= xs.length -> Pv i σ H -> SqL K H a xs)
    (f:∀ {B:St->Hp->Prop},∀i x σ H,xs[i]? = some x->Pv i σ H->g x σ H λσ2 H2=>tb { nx:=Pv (i+1),rt:=R,bk:=B,ct:=Pv (i+1) } σ2 H2) (hd:∀σ H,Pv xs.length σ H->D.nx σ H) (c:D.rt=R:=by rfl) :
    ∃W:Nat->Nat->St->Hp->Prop,(∃m,W 0 m σ H)/\∀i m σ H,W i m σ H ->
     ((Itl K a).stop i H/\D.nx σ H)∨((Itl K a).go i H/\∃N:St->Hp->Prop,(∀σ' H',N σ' H'->∃z,z<m/\W (i+1) z σ' H')/\∀x H',(Itl K a).yld i H x H'->g x σ H' λσ2 H2=>tb { D with nx:=N,ct:=N,bk:=D.nx } σ2 H2) :=
 pi Pv e b (λi x σ H d p=>c ▸ f i x σ H d p) hd
theorem fB {lo:Int}{n:Nat}(Pv:Nat -> St -> Hp -> Prop) (c:Pv 0 σ H)
    (d:∀ {B:St->Hp->Prop},∀i σ H,i<n->Pv i σ H->g (.int (lo+i)) σ H λσ2 H2=>tb { nx:=Pv (i+1),rt:=R,bk:=B,ct:=Pv (i+1) } σ2 H2) (hd:∀σ H,Pv n σ H->D.nx σ H) (a:D.rt=R:=by rfl) :
    ∃W:Nat->Nat->St->Hp->Prop,(∃m,W 0 m σ H)/\∀i m σ H,W i m σ H ->
     ((Itr lo n).stop i H/\D.nx σ H)∨((Itr lo n).go i H/\∃N:St->Hp->Prop,(∀σ' H',N σ' H'->∃z,z<m/\W (i+1) z σ' H')/\∀x H',(Itr lo n).yld i H x H'->g x σ H' λσ2 H2=>tb { D with nx:=N,ct:=N,bk:=D.nx } σ2 H2) :=
 uE Pv c (λi σ H b p=>a ▸ d i σ H b p) hd
end
abbrev letters:Str:="abcdefghijklmnopqrstuvwxyz"
def ee:LS:=["top","group","tie","wait","first","last","thing","untie","drop","open","undo","redo"]
def Aj:LS:=["order","knot","ring","hangs","house"]
def wordsL:LS:=ee++Aj
theorem ww:∀s∈wordsL,iS (.str s)=true:=by decide +kernel
theorem pA:wordsL.Nodup:=by decide +kernel
theorem sx:wordsL.length=17:=by decide +kernel
def aE:Stmt->Expr
 | .Assign _ e _=>e
 | _=>.Name "" ⟨0,0,0,0⟩
def Be:Stmt->Expr->Stmt
 | .Assign ts _ p,e=>.Assign ts e p
 | s,_=>s
@[irreducible] def jz:Expr:=aE ((bX dw).getD 1 (.Pass ⟨0,0,0,0⟩))
theorem xW:bX dw=(bX dw).set 1 (Be ((bX dw).getD 1 (.Pass ⟨0,0,0,0⟩)) jz):=by unfold jz;rfl
theorem Af {t:Option Expr}{l:Nat}{env:Env}:swapsWith jz t l env=pure false:=by unfold jz;rfl
theorem Ak {X:Cx}:PE X jz (Ab (dr (tC (.str "top")) (dr (tC (.str "group")) (dr (tC (.str "tie")) (dr (tC (.str "wait")) (dr (tC (.str "first")) (dr (tC (.str "last")) (dr (tC (.str "thing")) (dr (tC (.str "untie")) (dr (tC (.str "drop")) (dr (tC (.str "open")) (dr (tC (.str "undo")) (dr (tC (.str "redo")) io))))))))))))):=by
 have e:∃q x o m h k j u r l f b g i p v n w t y z s c d a,jz=.List [.Constant (.str "top") i x,.Constant (.str "group") p o,.Constant (.str "tie") v m,.Constant (.str "wait") n h,.Constant (.str "first") w k,.Constant (.str "last") t j,.Constant (.str "thing") y u,.Constant (.str "untie") z r,.Constant (.str "drop") s l,.Constant (.str "open") c f,.Constant (.str "undo") d b,.Constant (.str "redo") a g] q:=by
  unfold jz;exact⟨_,_,_,_,_,_,_,_,_,_,_,_,_,_,_,_,_,_,_,_,_,_,_,_,_,rfl⟩
 obtain⟨q,x,o,m,h,k,j,u,r,l,f,b,g,i,p,v,n,w,t,y,z,s,c,d,a,e⟩:=e;rw[e]
 with_reducible exact bt (au aw (au aw (au aw (au aw (au aw (au aw (au aw (au aw (au aw (au aw (au aw (au aw bO bJ) bJ) bJ) bJ) bJ) bJ) bJ) bJ) bJ) bJ) bJ) bJ)
theorem gL {ss:LS}{i:Nat}(h:i<ss.length):atI (List.map V.str ss) (i:Int)=some (.str (ss.getD i "")):=bj (by simp[h,Cs])
theorem yQ {f:Nat->Str}{m i:Nat}(h:i<m):((List.range m).map f).getD i ""=f i:=by rw[Cs,BM,List.getElem?_range h];rfl
theorem scNames:FnScope ["_law_pen_here","_law_many","_law_letters","_law_words","_law_base","_law_size","_law_at","_law_turn","_law_manner","_law_signs","_law_head","_law_tail"] ["_law_pen_here","_law_many"] (ak dw):=⟨rfl,rfl,rfl,by decide +kernel,rfl,by decide +kernel,by decide +kernel⟩
theorem vU {f:Addr}{fd:FuncData}(F:Fun K "_law_names" "_law_names" dw f fd) (B:Blt mg) (r:Cal P w K mg base 1 "_law_draw" ["_law_pen_here", "_law_most"] (dX K)):FnOk P w K mg base CX0 2 f fd ["_law_pen_here", "_law_many"] (qT K) := by
 refine F.ok scNames (λvs H Q E h=>?_) (λf5 A d3 s H vs Q E Y h=>?_)
 ·obtain⟨p,a,m,rfl,_⟩:=h
  rfl
 ·obtain⟨p, a, m, rfl, hP, hm, k⟩ := h;have nd:=scNames.nd;have v0:=hP.2;have lL:letters.length<=sizeLine:=by decide +kernel
  rw[xW];refine⟨_,(aa (cv (i:=2) nd rfl (Or.inr rfl) aw)
   (aa (cv (i:=3) nd rfl (Or.inr rfl) Ak Af)
   (aa (cv (i:=3) nd rfl (Or.inr rfl) (aH aK (pv 3) (bt (au aw (au aw (au aw (au aw (au aw bO bJ) bJ) bJ) bJ) bJ))))
   (aa (cv (i:=4) nd rfl (Or.inr rfl) (eG K aw (au (bn (ak dw) ["_law_pen_here","_law_many","_law_letters","_law_words","_law_base","_law_size","_law_at","_law_turn","_law_manner","_law_signs","_law_head","_law_tail"] [2,0] "_law_k" ["_law_letters","_law_pen_here"] (cP rfl B.range (au ac bO)) aT (gU (lh K Y.units) (pv 1) (hI r (Y.mono (by decide)) rfl (au (pv 2) (au ac bO))) (λ_ _=>rfl))) bO)))
   (aa (cv (i:=5) nd rfl (Or.inr rfl) (aH aK ac (hI r (Y.mono (by decide)) rfl (au (pv 0) (au ac bO)))))
   (aa (cv (i:=6) nd rfl (Or.inr rfl) (hI r (Y.mono (by decide)) rfl (au (pv 0) (au (pv 5) bO))))
   (aa (cv (i:=7) nd rfl (Or.inr rfl) (hI r (Y.mono (by decide)) rfl (au (pv 0) (au ac bO))))
   (aa (cv (i:=8) nd rfl (Or.inl rfl) (hI r (Y.mono (by decide)) rfl (au (pv 0) (au ac bO))))
   (aa (aJ (PW.pt (cR (aj (bc Y.units) (pv 8) ac (av _)) (cA (aj dO (pv 1) ac (av _))))) (ae (ai (bn (ak dw) ["_law_pen_here","_law_many","_law_letters","_law_words","_law_base","_law_size","_law_at","_law_turn","_law_manner","_law_signs","_law_head","_law_tail"] [4,7] "_law_k" ["_law_base","_law_turn"] (cP rfl B.range (au (pv 1) bO)) aT (bG (fK K) (pv 1) cp (bE (aH aK (aH dC (aH aK (pv 2) (aH gE ac (pv 0))) ac) ac)))))) aF)
   (aa (aJ (PW.pt (cR (aj (bc Y.units) (pv 8) ac (av _)) (cA (aj dO (pv 1) ac (av _))))) (ae (ai (bn (ak dw) ["_law_pen_here","_law_many","_law_letters","_law_words","_law_base","_law_size","_law_at","_law_turn","_law_manner","_law_signs","_law_head","_law_tail"] [3,7] "_law_k" ["_law_words","_law_turn"] (cP rfl B.range (au (pv 1) bO)) aT (gU (lh K Y.units) (pv 1) (aH dC (aH aK (pv 2) (pv 0)) ac) (λ_ _=>rfl))))) aF)
   (aa (cv (i:=9) nd rfl (Or.inr rfl) (bn (ak dw) ["_law_pen_here","_law_many","_law_letters","_law_words","_law_base","_law_size","_law_at","_law_turn","_law_manner","_law_signs","_law_head","_law_tail"] [2,7] "_law_k" ["_law_letters","_law_turn"] (cP rfl B.range (au (pv 1) bO)) aT (gU (lh K Y.units) (pv 1) (aH dC (aH aK (pv 2) (aH gE ac (pv 0))) ac) (λ_ _=>rfl))))
   (aa (aJ (aj dO (pv 1) ac (av _)) (ae (ai (bn (ak dw) ["_law_pen_here","_law_many","_law_letters","_law_words","_law_base","_law_size","_law_at","_law_turn","_law_manner","_law_signs","_law_head","_law_tail"] [4,5,6] "_law_sign_here" ["_law_base","_law_size","_law_at"] (bg K (pv 9)) aT (aH aK (aH aK (bG (fK K) (pv 1) cp (bE (pv 3))) (pv 0)) (bG (fK K) (pv 1) (bE (aH aK (pv 3) ac)) (bE (pv 2))))))) aF)
   (aa (cv (i:=10) nd rfl (Or.inr rfl) (bG (fK K) (pv 4) cp (bE (aH dC (pv 6) ac))))
   (aa (cv (i:=11) nd rfl (Or.inr rfl) (bG (fK K) (pv 4) (bE (aH dC (pv 6) ac)) (bE (aH dC (pv 5) ac))))
   (ae (ai (bn (ak dw) ["_law_pen_here","_law_many","_law_letters","_law_words","_law_base","_law_size","_law_at","_law_turn","_law_manner","_law_signs","_law_head","_law_tail"] [11,10,2,9] "_law_k" ["_law_tail","_law_head","_law_letters","_law_signs"] (cP rfl B.range (au (pv 1) bO)) aT (aH aK (aH aK (aH aK (pv 2) (gU (lh K Y.units) (pv 4) (pv 0) (λ_ _=>rfl))) (gU (lh K Y.units) (pv 3) (aH jf (pv 0) ac) (λ_ _=>rfl))) (pv 1))))))))))))))))))),?_⟩
  refine⟨(by show 12<=sizeLine;decide),λl1 c1=>?_⟩;have n1:=v0.ne c1;have b1:=(But.refl p H).at (o:=.lst (List.map V.str ee)) c1;have v1:=v0.upd (o:=.lst (List.map V.str ee)) n1;have e1:upd H l1 (.lst (List.map V.str ee)) l1=some (.lst (List.map V.str ee)):=af;show vY _ _ _ _ (upd H l1 (.lst (List.map V.str ee)));generalize upd H l1 (.lst (List.map V.str ee))=H1 at b1 v1 e1 ⊢;refine⟨_,rfl,(by show 5<=sizeLine;decide),λl2 a3=>?_⟩;have n2:=v1.ne a3;have b2:=b1.at (o:=.lst ([V.str "order",V.str "knot",V.str "ring",V.str "hangs",V.str "house"])) (b1.free (Ne.symm n2) a3);have v2:=v1.upd (o:=.lst ([V.str "order",V.str "knot",V.str "ring",V.str "hangs",V.str "house"])) n2;refine .lst (by rw[ah (ao e1 a3)];exact e1) af (by show 17<=sizeLine;decide) λN a6=>?_;have n3:=v2.ne a6;have b3:=b2.at (o:=.lst (List.map V.str ee++[V.str "order",V.str "knot",V.str "ring",V.str "hangs",V.str "house"])) (b2.free (Ne.symm n3) a6);have v3:=v2.upd (o:=.lst (List.map V.str ee++[V.str "order",V.str "knot",V.str "ring",V.str "hangs",V.str "house"])) n3;have e3:upd (upd H1 l2 (.lst ([V.str "order",V.str "knot",V.str "ring",V.str "hangs",V.str "house"]))) N (.lst (List.map V.str ee++[V.str "order",V.str "knot",V.str "ring",V.str "hangs",V.str "house"])) N=some (.lst (List.map V.str wordsL)):=by rw[af];rfl
  have O:N≠p:=Ne.symm n3;have d9:H N=none:=b2.free (Ne.symm n3) a6;generalize upd (upd H1 l2 (.lst ([V.str "order",V.str "knot",V.str "ring",V.str "hangs",V.str "house"]))) N (.lst (List.map V.str ee++[V.str "order",V.str "knot",V.str "ring",V.str "hangs",V.str "house"]))=H3 at b3 v3 e3 ⊢;refine⟨rfl,_,rfl,by decide,by decide,?_⟩
  let c4:Addr->Nat->LV->St->Hp->Prop:=λD i u C I=>∃o ys,C=[o,some (.str letters),some (.ref p)]/\u=List.map V.str ys/\ys.length=i/\(∀y∈ys,y.length=1/\Lo y)/\I N=some (.lst (List.map V.str wordsL))/\PenV I p a/\But p H I/\H D=none/\p≠D/\N≠D
  refine fA c4 λD S=>⟨?_,?_,?_⟩
  ·have l:=v3.ne S;have d:=b3.free (Ne.symm l) S;have L:=ao e3 S;exact⟨none,[],rfl,rfl,rfl,(λy X=>by cases X),by rw[ah L];exact e3,v3.upd l,b3.at d,d,l,L⟩
  ·rintro i u C I T ⟨o, ys, rfl, rfl, hl, W, hw, v, b, d, l, L⟩ g;refine eV ?_;refine⟨_,rfl,_,rfl,p,a,26,rfl,hP.but b v,by decide,by decide,λr5 H5 a8 c6 v5 e5=>?_⟩;refine .str lL (oS a8 c6) ⟨(e5 D (Ne.symm l)).trans g,?_,_,ys++[abc r5],rfl,by simp[abc],by simp[hl],?_,?_,v5.upd l,(b.trans (But.of_eq e5)).at d,d,l,L⟩
   ·rw[BA,hl];exact ap (by simp at T;omega)
   ·intro y X;rcases BR.mp X with X | X
    ·exact W y X
    ·have:y=abc r5:=by simpa using X
     subst this;exact⟨rfl,jX a8 c6⟩
   ·rw[ah L];exact(e5 N O).trans hw
  ·rintro u C H5 ⟨o, ys, rfl, rfl, hl, W, c7, v5, b5, d, l, L⟩ g;have hj:Lo (Txt.join "" ys):=Lo.join Lo.nil λy X=>(W y X).2;have d5:(Txt.join "" ys).length=8:=by rw[wK λy X=>(W y X).1];simpa using hl
   have e0:("":Str).length=0:=by decide +kernel
   have b0:=AM (n:=1) λy X=>Nat.le_of_eq (W y X).1;refine⟨_,D,ys,rfl,rfl,g,by rw[e0];have:=hl;simp at this;omega,?_⟩;generalize Txt.join "" ys=z at hj d5 ⊢;have hz:z.length<=sizeLine:=Ci (ap (by omega));clear g W hl b0;refine⟨_,rfl,p,a,8,rfl,hP.but b5 v5,by decide,by decide,λr6 H6 d1 f2 v6 e6=>.int ?_⟩;have b6:=b5.trans (But.of_eq e6);refine⟨_,rfl,_,rfl,p,a,_,rfl,hP.but b6 v6,by omega,by omega,λr7 H7 d0 f0 v7 e7=>?_⟩;have b7:=b6.trans (But.of_eq e7);refine⟨_,rfl,p,a,26,rfl,hP.but b7 v7,by decide,by decide,λr8 H8 d4 f4 v8 e8=>?_⟩;have b8:=b7.trans (But.of_eq e8);refine⟨_,rfl,p,a,4,rfl,hP.but b8 v8,by decide,by decide,λr9 H9 f6 f1 v9 e9=>?_⟩;have b9:=b8.trans (But.of_eq e9);have c2:H9 N=some (.lst (List.map V.str wordsL)):=by rw[e9 N O,e8 N O,e7 N O,e6 N O];exact c7
   obtain⟨U,rfl⟩:=Cc d1;obtain⟨G,rfl⟩:=Cc d0;obtain⟨J,rfl⟩:=Cc d4;clear e6 e7 e8 e9 v5 v6 v7 v8 b5 b6 b7 b8 c7;have a1:∀(D:Addr) (ss:LS) (I:Hp),I D=some (.lst (List.map V.str ss))->ss.length=m->ss.Nodup->(∀s∈ss,Nm s)->H D=none->p≠D->PenV I p a->But p H I->Q (.ref D) I:=λD ss I h1 h2 h3 h4 h5 h6 h7 h8=>k D ss I h2 h3 h4 h1 h5 (Ne.symm h6) h7 h8;have d8:=sx;have rest:∀(H9:Hp),PenV H9 p a->But p H H9->∀σ:St,σ=[some (.ref p),some (.int (m:Int)),some (.str letters),some (.ref N),some (.str z),some (.int (1+(U:Int))),some (.int (G:Int)),some (.int (J:Int)),some (.int r9),none,none,none]->True:=λ_ _ _ _ _=>trivial;refine⟨_,rfl,.sc rfl ⟨_,rfl,?_⟩⟩;apply zM;intro R;refine aA (λd6=>?a) (λd6=>R)
   case' a =>
    refine⟨_,rfl,.int ⟨_,rfl,?_⟩⟩;refine aA (λh9=>?c) (λh9=>R)
    case c =>
     have h9:(m:Int)<9:=BX h9;refine⟨_,rfl,_,rfl,by omega,by omega,?_⟩
     let c8:Addr->Nat->LV->St->Hp->Prop:=λD i u C I=>∃o,C=[o,some (.str z),some (.int (J:Int))]/\u=List.map V.str ((List.range i).map λk=>Txt.slice z none (some (((J+3 * k) % 8+1:Nat):Int)))/\PenV I p a/\But p H I/\H D=none/\p≠D
     refine fA c8 λD S=>⟨?_,?_,?_⟩
     ·have l:=v9.ne S;have d:=b9.free (Ne.symm l) S;exact⟨none,rfl,rfl,v9.upd l,b9.at d,d,l⟩
     ·rintro i u C I T ⟨o,rfl,rfl,v,b,d,l⟩ g;refine eV ?_;refine⟨_,rfl,_,rfl,_,rfl,_,_,rfl,rfl,.inl ⟨by decide,by decide⟩,.int ⟨_,_,rfl,rfl,(by show (0:Int)<_;decide),.int ⟨_,rfl,.str hz ?_⟩⟩⟩;rw[show ((J:Int)+3 * (0+(i:Nat):Int)) % 8+1=(((J+3 * i) % 8+1:Nat):Int) by rw[Int.zero_add];rfl];refine⟨g,?_,_,rfl,?_,v.upd l,b.at d,d,l⟩
      ·rw[BA,BA,CO];exact ap (by simp at T;omega)
      ·rw[fE,BO];rfl
     ·rintro u C I ⟨o,rfl,rfl,v,b,d,l⟩ g;have a5:((m:Int)-0).toNat=m:=by omega
      refine a1 D _ I g (by simp) (iu _ _ λi j a2 hj e=>?_) (λs hs=>?_) d l v b
      ·have e:=congrArg Str.length e;rw[gJ (by omega),gJ (by omega)] at e;simp at hj;omega
      ·obtain⟨i,T,rfl⟩:=jU hs;have hl:=gJ (z:=z) (j:=(J+3 * i) % 8+1) (by omega);exact(hj.slice _ _).nm (by rw[hl];omega) (by rw[hl];omega)
   all_goals
    refine⟨_,rfl,.sc rfl ⟨_,rfl,?_⟩⟩;apply zM;intro R;refine aA (λd7=>?_) (λd7=>R);refine⟨_,rfl,.int ⟨_,rfl,?_⟩⟩;refine aA (λa4=>?_) (λa4=>R)
    ·
        have a4:(m:Int)<18:=BX a4;refine⟨_,rfl,_,rfl,by omega,by omega,?_⟩
        let a7:Addr->Nat->LV->St->Hp->Prop:=λD i u C I=>∃o,C=[o,some (.ref N),some (.int (J:Int))]/\u=List.map V.str ((List.range i).map λk=>wordsL.getD ((J+k) % 17) "")/\I N=some (.lst (List.map V.str wordsL))/\PenV I p a/\But p H I/\H D=none/\p≠D/\N≠D
        refine fA a7 λD S=>⟨?_,?_,?_⟩
        ·have l:=v9.ne S;have d:=b9.free (Ne.symm l) S;have L:=ao c2 S;exact⟨none,rfl,rfl,by rw[ah L];exact c2,v9.upd l,b9.at d,d,l,L⟩
        ·rintro i u C I T ⟨o,rfl,rfl,hw,v,b,d,l,L⟩ g;refine eV ?_;refine⟨_,rfl,_,rfl,_,rfl,.int ⟨_,_,rfl,rfl,(by show (0:Int)<_;decide),?_⟩⟩;refine .lst (.of hw) (show atI _ (((J:Int)+(0+(i:Nat):Int)) % 17)=some (.str (wordsL.getD ((J+i) % 17) "")) from by
          rw[show ((J:Int)+(0+(i:Nat):Int)) % 17=(((J+i) % 17:Nat):Int) by rw[Int.zero_add];rfl];exact gL (by omega)) ⟨g,?_,_,rfl,?_,by rw[ah L];exact hw,v.upd l,b.at d,d,l,L⟩
         ·rw[BA,BA,CO];exact ap (by simp at T;omega)
         ·rw[fE,BO];rfl
        ·rintro u C I ⟨o, rfl, rfl, hw, v, b, d, l, L⟩ g;refine a1 D _ I g (by simp) (iu _ _ λi j a2 hj e=>?_) (λs hs=>?_) d l v b
         ·have e:=wY wordsL pA (by omega) (by omega) e;simp at hj;omega
         ·obtain⟨i,T,rfl⟩:=jU hs;have c5:(J+i) % 17<wordsL.length:=by omega
          have c0:wordsL.getD ((J+i) % 17) ""∈wordsL:=by
           rw[Cs,BV c5];exact CK c5
          exact isNm_iff.mp (ww _ c0)
    all_goals
     refine⟨_,rfl,_,rfl,by omega,by omega,?_⟩
     let b4:Addr->Nat->LV->St->Hp->Prop:=λD i u C I=>∃o,C=[o,some (.str letters),some (.int (J:Int))]/\u=List.map V.str ((List.range i).map λk=>abc (((J+5 * k) % 26:Nat):Int))/\PenV I p a/\But p H I/\H D=none/\p≠D
     refine fA b4 λD S=>⟨?_,?_,?_⟩
     ·have l:=v9.ne S;have d:=b9.free (Ne.symm l) S;exact⟨none,rfl,rfl,v9.upd l,b9.at d,d,l⟩
     ·rintro i u C I T ⟨o,rfl,rfl,v,b,d,l⟩ g;refine eV ?_;refine⟨_,rfl,_,rfl,_,rfl,_,_,rfl,rfl,.inl ⟨by decide,by decide⟩,.int ⟨_,_,rfl,rfl,(by show (0:Int)<_;decide),?_⟩⟩;refine .str lL (show atI _ (((J:Int)+5 * (0+(i:Nat):Int)) % 26)=some (97+(((J+5 * i) % 26:Nat):Int).toNat) from by
       rw[show ((J:Int)+5 * (0+(i:Nat):Int)) % 26=(((J+5 * i) % 26:Nat):Int) by rw[Int.zero_add];rfl];exact oS (by omega) (by omega)) ⟨g,?_,_,rfl,?_,v.upd l,b.at d,d,l⟩
      ·rw[BA,BA,CO];exact ap (by simp at T;omega)
      ·rw[fE,BO];rfl
     ·rintro u C HA ⟨o, rfl, rfl, vA, bA, f3, e4⟩ g;have a5:((m:Int)-0).toNat=m:=by omega
      have g:HA D=some (.lst (List.map V.str ((List.range m).map λk=>abc (((J+5 * k) % 26:Nat):Int)))):=by first | exact g | (rw[a5] at g;exact g)
      refine⟨_,rfl,.int ⟨_,rfl,?_⟩⟩;refine aA (λa0=>?_) (λa0=>?_)
      ·have a0:(m:Int)<27 := BX a0;refine⟨_,rfl,_,rfl,⟨_,.of g⟩,?_⟩
       let c3:Addr->Nat->LV->St->Hp->Prop:=λD i u C I=>∃o,C=[o,some (.str z),some (.int (1+(U:Int))),some (.int (G:Int))]/\u=List.map V.str ((List.range i).map λk=>Txt.slice z none (some (G:Int))++abc (((J+5 * k) % 26:Nat):Int)++Txt.slice z (some ((G:Int)+1)) (some (1+(U:Int))))/\Same HA I/\HA D=none
       refine cE (List.map V.str ((List.range m).map λk=>abc (((J+5 * k) % 26:Nat):Int))) c3 λD S=>⟨?_,?_,?_,?_⟩
       ·exact⟨none,rfl,rfl,Same.new S,S⟩
       ·rintro i u C I _ ⟨o,rfl,_,Z,_⟩ _;exact .of (Z _ _ g)
       ·rintro i u C I x hx ⟨o,rfl,rfl,Z,d⟩ t;rw[BM,BM] at hx;have d2:i<m:=by
         by_cases q:i<m
         ·exact q
         ·rw[List.getElem?_eq_none (by rw[CO];omega)] at hx;cases hx
        rw[List.getElem?_range d2] at hx;have hx:V.str (abc (((J+5 * i) % 26:Nat):Int))=x:=BD hx;subst hx;refine eV ?_;have l1:=lT z G;have l2:=iK z (G+1) (1+U);rw[show ((G+1:Nat):Int)=(G:Int)+1 from rfl,show ((1+U:Nat):Int)=1+(U:Int) by rw[Int.natCast_add];rfl] at l2;have c9:8<=sizeLine:=by decide
        refine⟨_,rfl,_,rfl,_,rfl,.str hz ⟨_,rfl,.str ?_ ⟨_,rfl,_,rfl,.int ⟨_,rfl,_,rfl,_,rfl,.str hz (.str ?_ ⟨t,?_,_,rfl,?_,?_,d⟩)⟩⟩⟩⟩
        ·rw[dQ];omega
        ·rw[bL,dQ];omega
        ·rw[BA,BA,CO];exact ap (by omega)
        ·rw[fE,BO];rfl
        ·exact bq Z d
       ·rintro u C I ⟨o,rfl,rfl,Z,d⟩ t;rw[BA,BA,CO] at t;refine a1 _ _ I t (by simp) (iu _ _ λi j a2 hj e=>?_) (λs hs=>?_) (bA.free (Ne.symm (vA.ne d)) d) (vA.ne d) (br Z vA) (bA.trans (But.of_same Z))
        ·have e:=x3 e;omega
        ·obtain⟨i,T,rfl⟩:=jU hs;have l1:=gJ (z:=z) (j:=G) (by omega);have l2:=iK z (G+1) (1+U);rw[show ((G+1:Nat):Int)=(G:Int)+1 from rfl,show ((1+U:Nat):Int)=1+(U:Int) by rw[Int.natCast_add];rfl] at l2;refine(((hj.slice _ _).app (jX (by omega) (by omega))).app (hj.slice _ _)).nm ?_ ?_
         ·rw[bL,bL,dQ];omega
         ·rw[bL,bL,dQ];omega
      ·have a0:¬ (m:Int)<27 := λq => a0 (BI q);refine⟨_,rfl,_,rfl,_,_,rfl,rfl,(by show (0:Int)<_;decide),_,rfl,.str hz ?_⟩;refine⟨_,rfl,_,rfl,_,_,rfl,rfl,(by show (0:Int)<_;decide),_,rfl,_,rfl,_,_,rfl,rfl,(by show (0:Int)<_;decide),_,rfl,.str hz ?_⟩;have t1:=lT z (G % 6);have t2:=iK z (G % 6) ((1+U) % 7);rw[show ((G % 6:Nat):Int)=(G:Int) % 6 from rfl] at t1 t2;rw[show (((1+U) % 7:Nat):Int)=(1+(U:Int)) % 7 from rfl] at t2;have g1:=hj.slice none (some ((G:Int) % 6));have g2:=hj.slice (some ((G:Int) % 6)) (some ((1+(U:Int)) % 7));have ht:(Txt.slice z none (some ((G:Int) % 6))).length+(Txt.slice z (some ((G:Int) % 6)) (some ((1+(U:Int)) % 7))).length<=6:=by omega
       have c9:8<=sizeLine:=by decide
       refine⟨_,rfl,_,rfl,by omega,by omega,?_⟩;generalize Txt.slice z none (some ((G:Int) % 6))=hd at t1 g1 ht ⊢;generalize Txt.slice z (some ((G:Int) % 6)) (some ((1+(U:Int)) % 7))=tl at t2 g2 ht ⊢;refine fA (λD' i u C I=>∃o,C=[o,some (.str tl),some (.str hd),some (.str letters),some (.ref D)]/\u=List.map V.str ((List.range i).map λk=>hd++abc (((J+5 * k) % 26:Nat):Int)++abc ((k / 26:Nat):Int)++tl)/\Same HA I/\HA D'=none) λD' a9=>⟨?_,?_,?_⟩
       ·exact⟨none,rfl,rfl,Same.new a9,a9⟩
       ·rintro i u C I T ⟨o,rfl,rfl,Z,M⟩ t;have T:i<m:=by simpa using T
        refine eV ?_;refine⟨_,rfl,_,rfl,_,rfl,.lst (.of (Z _ _ g)) (show atI _ (0+(i:Nat):Int)=some (.str (abc (((J+5 * i) % 26:Nat):Int))) from by
         rw[Int.zero_add,gL (by simpa using T),yQ T]) (.str (by rw[dQ];omega) ⟨_,rfl,_,rfl,_,_,rfl,rfl,⟨by decide,by decide⟩,.str lL (show atI _ ((0+(i:Nat):Int) / 26)=some (97+((i / 26:Nat):Int).toNat) from by
         rw[show (0+(i:Nat):Int) / 26=((i / 26:Nat):Int) by rw[Int.zero_add];rfl];exact oS (by omega) (by omega)) (.str ?_ ⟨_,rfl,.str ?_ ⟨t,?_,_,rfl,?_,?_,M⟩⟩)⟩)⟩
        ·rw[bL,dQ];show _+1+1<=sizeLine;omega
        ·rw[bL,bL,dQ];show _+1+1+_<=sizeLine;omega
        ·rw[BA,BA,CO];exact ap (by omega)
        ·rw[fE,BO];rfl
        ·exact bq Z M
       ·rintro u C I ⟨o,rfl,rfl,Z,M⟩ t;have t:I D'=some (.lst (List.map V.str ((List.range m).map λk=>hd++abc (((J+5 * k) % 26:Nat):Int)++abc ((k / 26:Nat):Int)++tl))):=by first | exact t | (rw[a5] at t;exact t)
        refine a1 D' _ I t (by simp) (iu _ _ λi j a2 hj e=>?_) (λs hs=>?_) (bA.free (Ne.symm (vA.ne M)) M) (vA.ne M) (br Z vA) (bA.trans (But.of_same Z))
        ·obtain⟨e1,e2⟩:=vv e;omega
        ·obtain⟨i,T,rfl⟩:=jU hs;refine(((g1.app (jX (by omega) (by omega))).app (jX (by omega) (by omega))).app g2).nm ?_ ?_
         ·rw[bL,bL,bL,dQ];omega
         ·rw[bL,bL,bL,dQ,dQ];omega
theorem bP {H:Hp}{refs:LV}{ps:List (Str × Str)}(b:RepAll H refs (ps.map aG)) {j:Nat}{x:V}(c:refs[j]? = some x):∃e ta,ps[j]? = some e/\x=.ref ta/\H ta=some (.tup [.str e.1,.str e.2]):=by
 obtain⟨d,hd,rd⟩:=b.get c;rw[BM] at hd;cases q:ps[j]? with
 | none=>rw[q] at hd;cases hd
 | some e =>
  rw[q] at hd;have hd:aG e=d:=BD hd;rw[<- hd] at rd;obtain⟨ta,f,a⟩:=jh rd;exact⟨e,ta,rfl,f,a⟩
theorem bu {ss:LS}{i:Nat}{x:V}(h:(List.map V.str ss)[i]? = some x):∃s,ss[i]? = some s/\V.str s=x:=by
 rw[BM] at h;cases q:ss[i]? with
 | none=>rw[q] at h;cases h
 | some e=>rw[q] at h;exact⟨e,rfl,BD h⟩
theorem AS {x:V}{q:Addr}{u v:V}{σ:St}{H:Hp}{A B:St->Hp->Prop}(c:x=.ref q) (a:SqT K H q [u,v]) (h:A ((σ.set 0 (some u)).set 1 (some v)) H) :
    vx K 2 (rP (cF 0) (rP (cF 1) Aw)) x σ H λσ2 G=>iU σ2 G λb z=>if b=true then A σ2 z else B σ2 z:=by
 subst c;refine⟨q,_,rfl,a,rfl,_,_,rfl,_,_,rfl,rfl,?_⟩;show (if true=true then A ((σ.set 0 (some u)).set 1 (some v)) H else B ((σ.set 0 (some u)).set 1 (some v)) H);rw[if_pos rfl];exact h
theorem cG {H:Hp}{p a:Addr}(v:PenV H p a):∃ys,H p=some (.lst ys):=let ⟨_,_,e,_⟩:=v;⟨_,e⟩
theorem ij {ss:LS}{i:Nat}(h:i<ss.length):ss.getD i ""∈ss:=by
 rw[Cs,BV h];exact CK h
def ip:Sp:=λvs H Q _=>∃a us ks,vs=[.ref a]/\Rep H (.ref a) (cZ ks)/\Tre us ks/\∀d kvs H',Same H H'->H d=none->H' d=some (.dK kvs)->ArK kvs us ks->Q (.ref d) H'
theorem tI {f:Addr}{fd:FuncData}(F:Fun K "_law_around" "_law_around" qA f fd) (B:Blt mg):FnOk P w K mg base CX0 1 f fd ["_law_knots"] ip := by
 refine F.ok1 ["_law_knots","_law_found","_law_name","_law_some","_law_unit"] λv H Q E S h=>?_;obtain⟨a,us,G,rfl,R,T,k⟩:=h;refine⟨_,(aa (pst 1 v ew)
  (aa (aZ PassesOwn.never rfl (aP K (pv 0)) (cj (n:=2) K rfl (aM (az (i:=2) v rfl (Or.inl rfl)) (aM (az (i:=3) v rfl (Or.inl rfl)) cm))) (ae (aZ PassesOwn.never rfl (aP K (pv 3)) (az (i:=4) v rfl (Or.inl rfl)) (ae (bU (pv 2) (ce (pv 1) (pv 4) (cC S.units)))))))
  (ae (ai (pv 1))))),?_⟩
 obtain⟨a',r,Y,M,J⟩:=cz R;cases Y;have m:=J.len;rw[BA] at m;have I:(aB G).length<=60:=by rw[T.perm.length_eq];exact T.len
 intro d hd;have L:=Same.new (o:=.dK []) hd;refine⟨_,rfl,a,rfl,⟨_,.of (L _ _ M)⟩,?_⟩
 let q:Nat->St->Hp->Prop:=λi l e=>∃A C g b,l=[some (.ref a),some (.ref d),A,C,g]/\ArN H e d G i 0 b
 refine bV (R:=Q) (xs:=r) q ?_ ?_ ?_ ?_
 ·exact⟨none,none,none,[],rfl,L,af,Cg _,(λk s=>by simp at s),λk _ u z=>by simp at z⟩
 ·rintro i l e hi ⟨A,C,g,b,rfl,c⟩;exact .of (c.sm _ _ M)
 ·rintro _ i x l e X ⟨A,C,g,b,rfl,c⟩;obtain⟨O,W,N,s,rfl,D,p⟩:=cu J X;refine⟨W,_,rfl,.of (c.sm _ _ D),rfl,_,_,rfl,_,_,rfl,rfl,?_⟩;refine⟨_,rfl,N,rfl,⟨_,.of (c.sm _ _ p)⟩,?_⟩
  let t:Nat->St->Hp->Prop:=λj l e=>∃g b,l=[some (.ref a),some (.ref d),some (.str O.1),some (.ref N),g]/\ArN H e d G i j b
  refine bV (R:=Q) (xs:=O.2.map V.str) t ?_ ?_ ?_ ?_
  ·exact⟨g,b,rfl,c⟩
  ·rintro j l e Z ⟨g,b,rfl,c⟩;exact .of (c.sm _ _ p)
  ·rintro _ j y l e U ⟨g,b,rfl,c⟩;obtain⟨u,z,rfl⟩:=bu U;have S:=c.room s (BF.mp z).1 I;exact⟨_,rfl,_,rfl,_,rfl,.dic (DPut.k (k:=.inr u) c.at_ (ap (by omega))) ⟨_,_,rfl,c.put hd T.knd s z⟩⟩
  ·rintro l e ⟨g,b,rfl,c⟩;rw[BA] at c;exact⟨_,_,_,b,rfl,c.next s rfl⟩
 ·rintro l e ⟨A,C,g,b,rfl,c⟩;exact⟨_,rfl,k d b e c.sm hd c.at_ (c.fin T m)⟩
def kP:Sp:=λvs H Q _=>∃q us ks ts ws wn,vs=[.ref q]/\Rep H (.ref q) (bx ks ts ws wn)/\Tre us ks/\∀d kvs H',Same H H'->H d=none->H' d=some (.dK kvs)->ArK kvs us ks->Q (.ref d) H'
theorem vn {f:Addr}{fd:FuncData}(F:Fun K "homes" "homes" oV f fd) (B:Blt mg):FnOk P w K mg base CX0 1 f fd ["house"] kP := by
 refine F.ok1 ["house","table","knot","child"] λJ H Q E C h=>?_;obtain⟨q,us,I,ts,ws,wn,rfl,R,T,k⟩:=h;refine⟨_,(aa (pst 1 J ew)
  (aa (aZ PassesOwn.never rfl (aP K (px K C (pv 0) ac)) (az (i:=2) J rfl (Or.inl rfl)) (ae (aZ PassesOwn.never rfl (aP K (px K C (pv 2) ac)) (az (i:=3) J rfl (Or.inl rfl)) (ae (bU (px K C (pv 2) ac) (ce (pv 1) (pv 3) (cC C.units)))))))
  (ae (ai (pv 1))))),?_⟩
 obtain⟨q',a,b,c,d4,N,Z,X,_⟩:=ci R;cases N;obtain⟨a',v,N,S,O⟩:=cz X;cases N;have p:=O.len;rw[BA] at p;have M:(aB I).length<=60:=by rw[T.perm.length_eq];exact T.len
 intro d hd;have L:=Same.new (o:=.dK []) hd;refine⟨_,rfl,.tup (.of (L _ _ Z)) rfl ⟨a,rfl,⟨_,.of (L _ _ S)⟩,?_⟩⟩
 let t:Nat->St->Hp->Prop:=λi n l=>∃G m e,n=[some (.ref q),some (.ref d),G,m]/\ArN H l d I i 0 e
 refine bV (R:=Q) (xs:=v) t ?_ ?_ ?_ ?_
 ·exact⟨none,none,[],rfl,L,af,Cg _,(λk z=>by simp at z),λk _ u D=>by simp at D⟩
 ·rintro i n l hi ⟨G,m,e,rfl,g⟩;exact .of (g.sm _ _ S)
 ·rintro _ i x n l hx ⟨G,m,e,rfl,g⟩;obtain⟨kn,W,Y,z,rfl,r,s⟩:=cu O hx;refine⟨_,rfl,.tup (.of (g.sm _ _ r)) rfl ⟨Y,rfl,⟨_,.of (g.sm _ _ s)⟩,?_⟩⟩
  let A:Nat->St->Hp->Prop:=λj n l=>∃m e,n=[some (.ref q),some (.ref d),some (.ref W),m]/\ArN H l d I i j e
  refine bV (R:=Q) (xs:=kn.2.map V.str) A ?_ ?_ ?_ ?_
  ·exact⟨m,e,rfl,g⟩
  ·rintro j n l hj ⟨m,e,rfl,g⟩;exact .of (g.sm _ _ s)
  ·rintro _ j y n l U ⟨m,e,rfl,g⟩;obtain⟨u,D,rfl⟩:=bu U;have C:=g.room z (BF.mp D).1 M;exact⟨_,rfl,.tup (.of (g.sm _ _ r)) rfl ⟨_,rfl,_,rfl,.dic (DPut.k (k:=.inr u) g.at_ (ap (by omega))) ⟨_,_,rfl,g.put hd T.knd z D⟩⟩⟩
  ·rintro n l ⟨m,e,rfl,g⟩;rw[BA] at g;exact⟨_,_,e,rfl,g.next z rfl⟩
 ·rintro n l ⟨G,m,e,rfl,g⟩;exact⟨_,rfl,k d e l g.sm hd g.at_ (g.fin T p)⟩
theorem at0 {x:Str}{r:LS}:atI (List.map V.str (x::r)) 0=some (.str x):=bj (j:=0) rfl
def kG (f:Kn->Str->LS):Sp:=λvs H Q _=>∃d kvs us ks u,vs=[.ref d,.str u]/\H d=some (.dK kvs)/\ArK kvs us ks/\Tre us ks/\u∈us/\∀l H',Same H H'->H l=none->H' l=some (.lst (List.map V.str (f ks u)))->Q (.ref l) H'
theorem xN {f:Addr}{fd:FuncData}(F:Fun K "line_down" "line_down" mJ f fd) (B:Blt mg):FnOk P w K mg base CX0 1 f fd ["table", "one"] (kG lin) := by
 refine F.ok1 ["table","one","line"] λO H Q E C h=>?_;obtain⟨d,p,l,c,u,rfl,hd,N,T,G,k⟩:=h;refine⟨_,(aa (pst 2 O (bt (p1 (pv 1))))
  (aa (gB PassesOwn.never (aj (cW C.units) (px K C (pv 0) (px K C (pv 2) (gn fG ac))) aw (av _)) (ae (bh (dj K (pv 2) (p1 (px K C (pv 0) (px K C (pv 2) (gn fG ac))))))))
  (aa (bh (tH K (pv 2)))
  (ae (ai (pv 2)))))),?_⟩
 refine⟨_,rfl,(szl 1),λg e=>?_⟩;have R:=Same.new (o:=.lst [V.str u]) e
 let v:Nat->St->Hp->Prop:=λm M i=>∃(x:Str) (r:LS),m=rkU l x/\M=[some (.ref d),some (.str u),some (.ref g)]/\i g=some (.lst (List.map V.str (r.reverse++[x])))/\x∈l/\lin c u=lin c (aX c x)++(x::r)/\Same H i
 refine⟨v,
  ⟨_,u,[],rfl,rfl,af,G,T.lin G,R⟩,?_⟩
 rintro m M Z ⟨x,r,rfl,rfl,b,I,a,D⟩;have t:atI (List.map V.str (r.reverse++[x])) (-1)=some (.str x):=by rw[BO];exact om _ _
 have Y:=T.lin_len u (.inr G);have X:=T.rk60 G;have A:=congrArg List.length a;rw[BJ,BN] at A;refine⟨_,rfl,_,rfl,_,rfl,.lst (.of b) t (.dic (.inl ⟨p,.inr x,.inl (D _ _ hd),rfl,(N x I).symm⟩) (.sc rfl ⟨_,rfl,?_⟩))⟩;refine aA (λh=>?_) (λh=>?_)
 ·have J:aX c x≠"":=λz=>by rw[z] at h;exact absurd h (by decide)
  have s:=(T.par_in I).1.resolve_left J;have L:=T.rk I
  let j:St->Hp->Prop:=λn i=>∃(y:Str) (r:LS),rkU l y<rkU l x/\n=[some (.ref d),some (.str u),some (.ref g)]/\i g=some (.lst (List.map V.str (r.reverse++[y])))/\y∈l/\lin c u=lin c (aX c y)++(y::r)/\Same H i
  refine⟨j,
   λn i ⟨y,r,W,S⟩=>⟨_,W,y,r,rfl,S⟩,?_⟩
  refine⟨_,rfl,.inl ⟨rfl,_,.of b⟩,_,rfl,_,rfl,_,rfl,.lst (.of b) t (.dic (.inl ⟨p,.inr x,.inl (D _ _ hd),rfl,(N x I).symm⟩) ⟨g,_,_,rfl,rfl,b,by rw[BA,BJ,List.length_reverse];exact ap (by show _+1<=_;omega),?_⟩)⟩;refine⟨aX c x,x::r,L,rfl,?_,s,?_,bq D e⟩
  ·rw[af,List.reverse_cons];simp
  ·rw[a,T.lin s,Cp];rfl
 ·have U:aX c x="":=Classical.byContradiction λz=>h (by rw[if_pos rfl,BL (λq=>z (V.str.inj q))];rfl);rw[U,yt,List.nil_append] at a;refine⟨_,rfl,.inl ⟨rfl,_,.of b⟩,g,_,rfl,rfl,b,?_⟩;refine⟨_,rfl,k g _ (bq D e) e ?_⟩;rw[af,a,<- List.map_reverse,List.reverse_append,List.reverse_reverse];rfl
theorem zm {f:Addr}{fd:FuncData}(F:Fun K "_law_path" "_law_path" xG f fd) (B:Blt mg):FnOk P w K mg base CX0 1 f fd ["_law_around_here", "_law_unit"] (kG λks u => tp (lin ks u)) := by
 refine F.ok1 ["_law_around_here","_law_unit","_law_path_here"] λL H Q E t h=>?_;obtain⟨d,C,l,ks,u,rfl,hd,J,T,G,k⟩:=h;refine⟨_,(aa (pst 2 L (bt (p1 (pv 1))))
  (aa (gB PassesOwn.never (aj (cW t.units) (px K t (pv 2) ac) aw (av _)) (ae (bh (fi K (pv 2) (p2 ac (px K t (pv 0) (px K t (pv 2) ac)))))))
  (ae (ai (pv 2))))),?_⟩
 refine⟨_,rfl,(szl 1),λc e=>?_⟩;have M:=Same.new (o:=.lst [V.str u]) e
 let j:Nat->St->Hp->Prop:=λm I i=>∃(x:Str) (r:LS),m=rkU l x/\I=[some (.ref d),some (.str u),some (.ref c)]/\i c=some (.lst (List.map V.str (x::r)))/\(x=""∨x∈l)/\tp (lin ks u)=tp (lin ks x)++r/\Same H i
 refine⟨j,
  ⟨_,u,[],rfl,rfl,af,.inr G,(Cm _).symm,M⟩,?_⟩
 rintro m I U ⟨x,r,rfl,rfl,b,g,a,D⟩;have W:=T.lin_len u (.inr G);have S:=T.rk60 G;have s:=congrArg List.length a;rw[BJ,BN,BN] at s;refine⟨_,rfl,.lst (.of b) at0 (.sc rfl ⟨_,rfl,?_⟩)⟩;refine aA (λh=>?_) (λh=>?_)
 ·have v:x≠"":=λz=>by rw[z] at h;exact absurd h (by decide)
  have g:=g.resolve_left v;have A:=T.rk g
  let p:St->Hp->Prop:=λn i=>∃(y:Str) (r:LS),rkU l y<rkU l x/\n=[some (.ref d),some (.str u),some (.ref c)]/\i c=some (.lst (List.map V.str (y::r)))/\(y=""∨y∈l)/\tp (lin ks u)=tp (lin ks y)++r/\Same H i
  refine⟨p,
   λn i ⟨y,r,R,N⟩=>⟨_,R,y,r,rfl,N⟩,?_⟩
  refine⟨_,rfl,.inl ⟨rfl,_,.of b⟩,_,rfl,_,rfl,.lst (.of b) at0 (.dic (.inl ⟨C,.inr x,.inl (D _ _ hd),rfl,(J x g).symm⟩) ⟨c,_,_,0,_,rfl,rfl,rfl,b,Cg _,by rw[BA,BN];exact ap (by omega),?_⟩)⟩;refine⟨aX ks x,x::r,A,rfl,af,(T.par_in g).1,?_,bq D e⟩;rw[a,T.lin g];show ("":Str)::(_++_)++_=("":Str)::_++_;simp
 ·have O:x="":=Classical.byContradiction λz=>h (by rw[if_pos rfl,BL (λq=>z (V.str.inj q))];rfl);subst O;refine⟨_,rfl,k c _ D e ?_⟩;show U c=some (.lst (List.map V.str (tp (lin ks u))));rw[a];exact b
def eF:Sp:=λvs H Q _=>∃d kvs us ks u v,vs=[.ref d,.str u,.str v]/\H d=some (.dK kvs)/\ArK kvs us ks/\Tre us ks/\u∈us/\v∈us/\∀x H',Same H H'->jH H' x (bw ks u v)->Q x H'
theorem rF {f:Addr}{fd:FuncData}(F:Fun K "parting_by" "parting_by" ka f fd) (B:Blt mg) (Zz:mg "zip"=none) (a:Cal P w K mg base 1 "line_down" ["table", "one"] (kG lin)):FnOk P w K mg base CX0 2 f fd ["table", "one", "other"] eF := by
 refine F.ok1 ["table","one","other","knot","pair"] λN H Q E j h=>?_;obtain⟨d,s,S,b,u,v,rfl,hd,U,T,hu,hv,k⟩:=h;refine⟨_,(aa (pst 3 N aw)
  (aa (aZ PassesOwn.never rfl (zT K rfl Zz (p2 (pc a j (p2 (pv 0) (pv 1))) (pc a j (p2 (pv 0) (pv 2))))) (az (i:=4) N rfl (Or.inl rfl)) (aa (aJ (aj (cW j.units) (px K j (pv 4) ac) (px K j (pv 4) ac) (av _)) (ae (ai (be (au (pv 3) (p2 (px K j (pv 4) ac) (px K j (pv 4) ac)))))) aF)
  (ae (pst 3 N (px K j (pv 4) ac)))))
  (ae (ai dY)))),?_⟩
 refine⟨_,rfl,_,rfl,d,s,S,b,u,rfl,hd,U,T,hu,λla H1 O W L=>?_⟩;refine⟨_,rfl,_,rfl,d,s,S,b,v,rfl,O _ _ hd,U,T,hv,λlb H2 R X D=>?_⟩;have g:=R _ _ L;refine⟨la,lb,_,_,rfl,.of g,.of D,?_⟩
 let A:Nat->St->Hp->Prop:=λi G r=>∃I,G=[some (.ref d),some (.str u),some (.str v),some (.str ((tp (lin b u)).getD i "")),I]/\Same H2 r/\bw b u v=prt ((tp (lin b u)).getD i "") ((lin b u).drop i) ((lin b v).drop i)
 refine xO (xs:=List.map V.str (lin b u)) (ys:=List.map V.str (lin b v)) A ?_ ?_ ?_ ?_
 ·exact⟨none,rfl,Same.refl H2,rfl⟩
 ·rintro i G r hi ⟨I,rfl,n,_⟩;exact⟨.of (n _ _ g),.of (n _ _ D)⟩
 ·rintro i x y p G r m ⟨I,rfl,n,c⟩ M;rw[List.getElem?_zip_eq_some] at m;obtain⟨x,Z,rfl⟩:=bu m.1;obtain⟨y,hy,rfl⟩:=bu m.2;have sp:=Same.new (o:=.tup [V.str x,V.str y]) M;have C:upd r p (.tup [V.str x,V.str y]) p=some (.tup [V.str x,V.str y]):=af;have l1:=BF.mp Z;have Y:=BF.mp hy;rw[CW l1.1,CW Y.1,l1.2,Y.2] at c;have c:bw b u v=if x=y then prt x ((lin b u).drop (i+1)) ((lin b v).drop (i+1)) else some ((tp (lin b u)).getD i "",x,y):=c
  refine⟨_,rfl,.tup (.of C) rfl ⟨_,rfl,.tup (.of C) rfl (.sc rfl ⟨_,rfl,?_⟩)⟩⟩;refine aA (λh=>?_) (λh=>?_)
  ·have J:x≠y:=λz=>by rw[z,if_pos rfl,BI rfl] at h;cases h
   rw[if_neg J] at c;refine⟨_,rfl,_,rfl,.tup (.of C) rfl ⟨_,rfl,.tup (.of C) rfl ⟨(szl 3),λt ht=>?_⟩⟩⟩;refine k (.ref t) _ (((O.trans R).trans n).trans (sp.trans (Same.new ht))) ?_;rw[c];exact⟨t,rfl,af⟩
  ·have he:x=y:=Classical.byContradiction λz=>h (by rw[if_pos rfl,BL (λq=>z (V.str.inj q))];rfl);rw[if_pos he] at c;have e:(tp (lin b u)).getD (i+1) ""=x:=by rw[Cs];show ((lin b u)[i]?).getD ""=x;rw[Z];rfl
   refine⟨_,rfl,.tup (.of C) rfl ⟨some (.ref p),?_,n.trans sp,?_⟩⟩
   ·rw[e];rfl
   ·rw[e];exact c
 ·rintro G r ⟨I, rfl, n, c⟩;have hn:bw b u v=none:=by
   rw[c,List.length_zip,BA,BA];by_cases q:(lin b u).length<=(lin b v).length
   ·rw[Du (l:=lin b u) (by omega)];rfl
   ·rw[Du (l:=lin b v) (by omega)];cases (lin b u).drop (min (lin b u).length (lin b v).length) <;> rfl
  refine k .non r ((O.trans R).trans n) ?_;rw[hn];rfl
theorem vc {f:Addr}{fd:FuncData}(F:Fun K "_law_parting" "_law_parting" ju f fd) (B:Blt mg) (c:Cal P w K mg base 1 "_law_path" ["_law_around_here", "_law_unit"] (kG λks u => tp (lin ks u))):FnOk P w K mg base CX0 2 f fd ["_law_around_here", "_law_one", "_law_other"] eF := by
 refine F.ok1 ["_law_around_here","_law_one","_law_other","_law_here","_law_there","_law_at"] λC H Q E l h=>?_;obtain⟨d,r,S,ks,u,v,rfl,hd,W,T,hu,hv,k⟩:=h;refine⟨_,(aa (pst 3 C (pc c l (p2 (pv 0) (pv 1))))
  (aa (pst 4 C (pc c l (p2 (pv 0) (pv 2))))
  (aa (pst 5 C ac)
  (aa (gB PassesOwn.never (PW.pt (cR (aj dO (pv 5) (mX rfl B (p2 (aQ K B (p1 (pv 3))) (aQ K B (p1 (pv 4))))) (av _)) (cA (aj (bc l.units) (px K l (pv 3) (pv 5)) (px K l (pv 4) (pv 5)) (av _))))) (ae (pst 5 C (aH aK (pv 5) ac))))
  (aa (aJ (aj (bc l.units) (pv 5) (mX rfl B (p2 (aQ K B (p1 (pv 3))) (aQ K B (p1 (pv 4))))) (av _)) (ae (ai dY)) aF)
  (ae (ai (be (au (px K l (pv 3) (aH nM (pv 5) ac)) (p2 (px K l (pv 3) (pv 5)) (px K l (pv 4) (pv 5)))))))))))),?_⟩
 refine⟨_,rfl,_,rfl,d,r,S,ks,u,rfl,hd,W,T,hu,λla H1 Y X L=>?_⟩;refine⟨_,rfl,_,rfl,d,r,S,ks,v,rfl,Y _ _ hd,W,T,hv,λlb H2 s2 Z g=>?_⟩;have e:=s2 _ _ L;have A:=Y.trans s2;have R:(List.map V.str (tp (lin ks u))).length=(lin ks u).length+1:=by rw[BA,BN]
 have O:(List.map V.str (tp (lin ks v))).length=(lin ks v).length+1:=by rw[BA,BN]
 let s:Nat->St->Hp->Prop:=λm U G=>∃i:Nat,m=(lin ks u).length+2-i/\U=[some (.ref d),some (.str u),some (.str v),some (.ref la),some (.ref lb),some (.int (i:Int))]/\i<=min ((lin ks u).length+1) ((lin ks v).length+1)/\Gon (lin ks u) (lin ks v) i/\G=H2
 refine⟨s,
  ⟨_,0,rfl,rfl,Cg _,.inl rfl,rfl⟩,?_⟩
 rintro m U H3 ⟨i,rfl,rfl,hi,o,rfl⟩;have n:∀a b:Nat,(if ((b:Nat):Int)<((a:Nat):Int) then ((b:Nat):Int) else ((a:Nat):Int))=((min a b:Nat):Int):=λa b=>by split <;> omega
 refine⟨_,rfl,_,rfl,_,_,rfl,Or.inl ⟨_,.of e,rfl⟩,_,rfl,_,_,rfl,Or.inl ⟨_,.of g,rfl⟩,_,_,rfl,.int ⟨_,rfl,?_⟩⟩;rw[R,O,n];have mn:∀j,j<min ((lin ks u).length+1) ((lin ks v).length+1)->∃x y,(tp (lin ks u))[j]? = some x/\(tp (lin ks v))[j]? = some y:=λj hj =>
  ⟨_,_,BV (by rw[BN];omega),BV (by rw[BN];omega)⟩
 refine aA (λh=>?_) (λh=>?_)
 ·have h:(i:Int)<((min ((lin ks u).length+1) ((lin ks v).length+1):Nat):Int) := BX h;have hi:i<min ((lin ks u).length+1) ((lin ks v).length+1):=by omega
  obtain⟨x,y,N,I⟩:=mn i hi;have ax:atI (List.map V.str (tp (lin ks u))) (i:Int)=some (.str x):=bj (by rw[BM,N];rfl);have ay:atI (List.map V.str (tp (lin ks v))) (i:Int)=some (.str y):=bj (by rw[BM,I];rfl);refine⟨_,rfl,_,rfl,.lst (.of e) ax ⟨_,rfl,_,rfl,.lst (.of g) ay (.sc rfl ⟨_,rfl,?_⟩)⟩⟩;refine aA (λD=>?_) (λD=>?_)
  ·have he:x=y:=Classical.byContradiction λz=>by rw[if_neg (by decide),BL (λq=>z (V.str.inj q))] at D;cases D
   subst he;refine⟨λp G=>p=[some (.ref d),some (.str u),some (.str v),some (.ref la),some (.ref lb),some (.int ((i+1:Nat):Int))]/\G=H3,λp G ⟨h1,M⟩=>⟨(lin ks u).length+2-(i+1),by omega,i+1,rfl,h1,by omega,o.step N I,M⟩,?_⟩;exact⟨_,rfl,.int ⟨rfl,rfl⟩⟩
  ·have J:x ≠ y := λz => D (by rw[z, if_neg (by decide), BI rfl]);obtain⟨h1,hp⟩:=o.part N I J;refine⟨_,rfl,_,rfl,_,_,rfl,Or.inl ⟨_,.of e,rfl⟩,_,rfl,_,_,rfl,Or.inl ⟨_,.of g,rfl⟩,_,_,rfl,.sc rfl ⟨_,rfl,?_⟩⟩;rw[R,O,n];refine aA (λh=>?_) (λ_=>?_)
   ·exfalso;have h:V.int (i:Int)=V.int ((min ((lin ks u).length+1) ((lin ks v).length+1):Nat):Int):=BX h;have:=V.int.inj h;omega
   ·have aq:atI (List.map V.str (tp (lin ks u))) ((i:Int)-1)=some (.str ((tp (lin ks u)).getD (i-1) "")):=by
       rw[show (i:Int)-1=((i-1:Nat):Int) by omega];exact gL (by rw[BN];omega)
    refine⟨_,rfl,_,rfl,_,_,rfl,rfl,.lst (.of e) aq ⟨_,rfl,_,rfl,.lst (.of e) ax ⟨_,rfl,_,rfl,.lst (.of g) ay ⟨(szl 3),λt ht=>?_⟩⟩⟩⟩;refine k (.ref t) _ (A.trans (Same.new ht)) ?_;show jH _ _ (prt "" (lin ks u) (lin ks v));rw[hp];exact⟨t,rfl,af⟩
 ·have h:¬ (i:Int)<((min ((lin ks u).length+1) ((lin ks v).length+1):Nat):Int):=λz=>h (BI z);have hz:=o.stop (by omega);refine bM ?_;refine⟨_,rfl,_,rfl,_,_,rfl,Or.inl ⟨_,.of e,rfl⟩,_,rfl,_,_,rfl,Or.inl ⟨_,.of g,rfl⟩,_,_,rfl,.sc rfl ⟨_,rfl,?_⟩⟩;rw[R,O,n];refine aA (λ_=>?_) (λM=>?_)
  ·refine k .non H3 A ?_;show jH _ _ (prt "" (lin ks u) (lin ks v));rw[hz];rfl
  ·exfalso;refine M ?_;rw[if_neg (by decide),decide_eq_true_iff];congr 1;omega
def Dpt (ks:Kn) (dp:Int):Prop:=∃d:Str->Nat,d ""=0/\(∀k∈ks,∀u∈k.2,u∈ks.map (·.1)->d u=d k.1+1)/\∀k∈ks,(d k.1:Int)<=dp
structure Lvl (lv:List (Key × V)) (dp:Int) (ks:Kn):Prop where
 has:∀k∈ks,∃m:Nat,aI lv (.inr k.1)=some (.int (m:Int))/\(m:Int)<=dp
 up:∀k∈ks,∀u∈k.2,u∈ks.map (·.1)->∀m:Nat,aI lv (.inr k.1)=some (.int (m:Int))->aI lv (.inr u)=some (.int ((m:Int)+1))
 top:aI lv (.inr "")=some (.int 0)
theorem Lvl.start {dp:Int}(h:0<=dp):Lvl [(.inr "",.int 0)] dp [("",[])] :=
 ⟨λk a=>by rw[Cb.mp a];exact⟨0,rfl,h⟩,λk a u b=>(by rw[Cb.mp a] at b;cases b),rfl⟩
theorem Lvl.set {G:List (Key × V)}{dp:Int}{ks:Kn}{j:Nat}{nm u:Str}{ch z:LS}(h:Lvl G dp ks) (i:ks[j]? = some (nm, ch)) (p:u ∉ ks.map (·.1)) (n:∀x ∈ z, x=u ∨ x ∈ ch):Lvl G dp (ks.set j (nm, z)) := by
 have o:(ks.set j (nm,z)).map (λk=>k.1)=ks.map λk=>k.1:=fP i rfl;have d:∀k∈ks.set j (nm,z),∃c∈ks,c.1=k.1/\∀x∈k.2,x=u∨x∈c.2:=λk a=>by
  rcases List.mem_or_eq_of_mem_set a with a | rfl
  ·exact⟨k,a,rfl,λx g=>.inr g⟩
  ·exact⟨(nm,ch),BG i,rfl,n⟩
 refine⟨λk a=>?_,λk a x g f m l=>?_,h.top⟩
 ·obtain⟨c,b,e,_⟩:=d k a;rw[<- e];exact h.has c b
 ·obtain⟨c,b,e,q⟩:=d k a;rw[o] at f;rcases q x g with rfl | q
  ·exact absurd f p
  ·rw[<- e] at l;exact h.up c b x q f m l
theorem Lvl.knot {I:List (Key × V)}{dp:Int}{ks:Kn}{G:Nat}{nm u:Str}{ch:LS}(h:Lvl I dp ks) (s:u ∉ ks.map (·.1)) (v:u ≠ "") (n:(nm, ch) ∈ ks) (l:u ∈ ch) (r:(aB ks).Nodup) (t:aI I (.inr nm)=some (.int (G:Int))) (hd:(G:Int)<dp) (c:Nat):Lvl (aS I (.inr u) (.int ((G:Int)+1))) dp (ks.take c ++ (u, []) :: ks.drop c) := by
 have b:∀x:Str,x≠u->aI (aS I (.inr u) (.int ((G:Int)+1))) (.inr x)=aI I (.inr x):=λx i=>by rw[cJ,if_neg (λz=>i (by injection z))]
 have f:aI (aS I (.inr u) (.int ((G:Int)+1))) (.inr u)=some (.int ((G:Int)+1)):=by rw[cJ,if_pos rfl]
 have o:∀k∈ks,k.1≠u:=λk n z=>s (z ▸ BE.mpr ⟨k,n,rfl⟩);refine⟨λk a=>?_,λk a x i p m d=>?_,by rw[b _ (Ne.symm v)];exact h.top⟩
 ·rcases dv a with rfl | a
  ·exact⟨G+1,f,by omega⟩
  ·rw[b _ (o k a)];exact h.has k a
 ·rcases dv a with rfl | g
  ·cases i
  ·rw[b _ (o k g)] at d;by_cases q:x=u
   ·subst q;have e:k=(nm,ch):=fk r g n i l;subst e;rw[t] at d;have e:(G:Int)=(m:Int):=V.int.inj (BD d);rw[f,e]
   ·rw[b _ q];refine h.up k g x i ?_ m d;obtain⟨y,j,rfl⟩:=BE.mp p;rcases dv j with rfl | j
    ·exact absurd rfl q
    ·exact BE.mpr ⟨y,j,rfl⟩
theorem Lvl.fin {z:List (Key × V)}{dp:Int}{ks:Kn}(h:Lvl z dp ks):Dpt ks dp:=by
 obtain⟨d,hd⟩:∃d:Str->Nat,∀x (m:Nat),aI z (.inr x)=some (.int (m:Int))->d x=m:=⟨λx=>match aI z (.inr x) with | some (.int m)=>m.toNat | _=>0,λx m a=>by simp[a]⟩
 refine⟨d,hd _ 0 h.top,λk b u e c=>?_,λk b=>?_⟩
 ·obtain⟨m,a,_⟩:=h.has k b;rw[hd _ m a,hd u (m+1) (h.up k b u e c m a)]
 ·obtain⟨m,a,f⟩:=h.has k b;rw[hd _ m a];exact f
def uA (K:W.Frag):Sp:=λvs H Q _=>∃(p a n:_) (us:LS) (dp:Int),vs=[.ref p,.ref n,.int dp]/\Pen K H p a/\H n=some (.lst (List.map V.str us))/\n≠p/\us.Nodup/\(∀u∈us,Nm u)/\us.length<=60/\0<=dp /\
 ∀q ks H',Rep H' (.ref q) (cZ ks)->Tre us ks->(ks.map (·.1)).head? = some ("":Str)->Dpt ks dp->PenV H' p a->But p H H'->Q (.ref q) H'
theorem yo {f:Addr}{fd:FuncData}(F:Fun K "_law_tree" "_law_tree" ry f fd) (B:Blt mg) (s:Cal P w K mg base 1 "_law_draw" ["_law_pen_here", "_law_most"] (dX K)):FnOk P w K mg base CX0 2 f fd ["_law_pen_here", "_law_names_here", "_law_deep"] (uA K) := by
 refine F.ok1 ["_law_pen_here","_law_names_here","_law_deep","_law_knots","_law_levels","_law_name","_law_knot","_law_some"] λnd H Q E hr h=>?_;obtain⟨p,a,n,us,dp,rfl,hP,hn,g6,c1,f4,f8,h9,k⟩:=h;have v0:=hP.2;refine⟨_,(aa (pst 3 nd (bt (p1 (be (p2 aw (bt bO))))))
  (aa (pst 4 nd (yj (wD aw ac yJ) rfl rfl (by simp) (by decide)))
  (aa (aZ PassesOwn.never rfl (bg K (pv 1)) (az (i:=5) nd rfl (Or.inl rfl)) (aa (bU (px K hr (pv 3) (pc s hr (p2 (pv 0) (aQ K B (p1 (pv 3)))))) (cj (n:=2) K rfl (aM (az (i:=6) nd rfl (Or.inl rfl)) (aM (az (i:=7) nd rfl (Or.inl rfl)) cm))))
  (aa (bh (fi K (pv 7) (p2 (pc s hr (p2 (pv 0) (aH aK (aQ K B (p1 (pv 7))) ac))) (pv 5))))
  (ae (aJ (PW.pt (cR (aj dO (px K hr (pv 4) (pv 6)) (pv 2) (av _)) (cA (aj (bc hr.units) (pc s hr (p2 (pv 0) ac)) ac (av _))))) (aa (bU (aH aK (px K hr (pv 4) (pv 6)) ac) (ce (pv 4) (pv 5) (cC hr.units)))
  (ae (bh (fi K (pv 3) (p2 (aH aK ac (pc s hr (p2 (pv 0) (aQ K B (p1 (pv 3)))))) (be (p2 (pv 5) (bt bO)))))))) aF)))))
  (ae (ai (cQ K B (p1 (lK (ak ry) ["_law_pen_here","_law_names_here","_law_deep","_law_knots","_law_levels","_law_name","_law_knot","_law_some"] ["_law_name","_law_some"] [] ["_law_name","_law_some"] rfl (bg K (pv 3)) (λ_ _ _ _ _=>(cj (n:=2) K rfl (aM (az (i:=0) (show (["_law_name","_law_some"]:LS).Nodup by decide) rfl (Or.inl rfl)) (aM (az (i:=1) (show (["_law_name","_law_some"]:LS).Nodup by decide) rfl (Or.inl rfl)) cm)))) (λ_ _ _ _ _=>aT) (λ_ _ _ _ _=>(be (p2 (pv 0) (cQ K B (p1 (pv 1)))))))))))))),?_⟩
 have nn:∀u∈us,u≠"":=λu hu z=>by have:=(f4 u hu).1;rw[z] at this;exact absurd this (by decide)
 refine⟨(szl 0),λl0 h0=>?_⟩;have b0:But p H (upd H l0 (.lst [])):=(But.refl p H).at h0;have e0:upd H l0 (.lst []) l0=some (.lst []):=af;have v1:PenV (upd H l0 (.lst [])) p a:=v0.upd (v0.ne h0);have i1:l0≠p:=Ne.symm (v0.ne h0);generalize upd H l0 (.lst [])=H1 at b0 e0 v1 ⊢;refine⟨(szl 2),λt0 j3=>?_⟩;refine nw j3 λH2 s2 et=>?_;have e0:=s2 _ _ e0;have v2:=br s2 v1;have b2:=b0.trans (But.of_same (p:=p) s2);refine⟨(szl 1),λL hL=>?_⟩;refine nw hL λH3 s3 eL=>?_;have j1:l0≠L:=ao e0 hL;have d4:L≠p:=Ne.symm (v2.ne hL);have e0:=s3 _ _ e0;have et:=s3 _ _ et;have v3:=br s3 v2;have b3:=b2.trans (But.of_same (p:=p) s3);have d:KLs H3 L p [(t0,l0,("",[]))]:=⟨eL,λq y=>by rw[Cb.mp y];exact et,λq y=>by rw[Cb.mp y];exact e0,by simp,λq y=>by rw[Cb.mp y];exact⟨j1,i1⟩,d4⟩
 intro D hD;refine⟨af,[(.inr "",.int 0)],rfl,(by decide),?_⟩;rw[qS];have s4:=Same.new (o:=.dK (fU [] [((.inr "":Key),V.int 0)])) hD;have eD:upd H3 D (.dK (fU [] [((.inr "":Key),V.int 0)])) D=some (.dK [((.inr "":Key),V.int 0)]):=af;have d:=d.same s4;have v4:=br s4 v3;have b4:=b3.trans (But.of_same (p:=p) s4);have hf:H D=none:=b3.free (Ne.symm (v3.ne hD)) hD;generalize upd H3 D (.dK (fU [] [((.inr "":Key),V.int 0)]))=H4 at eD d v4 b4 ⊢;have k4:H L=none:=b2.free d4 hL;have k2:H l0=none:=h0;refine⟨_,rfl,n,rfl,⟨_,.of (b4 n _ g6 hn)⟩,?_⟩
 let f1:Nat->St->Hp->Prop:=λi σ G=>∃(o5 o6 o7:Option V) (l:KL) (A:List (Key × V)),σ=[some (.ref p),some (.ref n),some (.int dp),some (.ref L),some (.ref D),o5,o6,o7]/\KLs G L p l/\TrN us i (cB l)/\G D=some (.dK A)/\A.length<=i+1/\l.length<=i+1/\Lvl A dp (cB l)/\(∀q∈l,H q.2.1=none)/\PenV G p a/\But p H G/\((cB l).map λk=>k.1).head? = some ("":Str)
 refine dD (R:=Q) (xs:=List.map V.str us) f1 ?_ ?_ ?_ ?_
 ·refine⟨none,none,none,_,_,rfl,d,TrN.start,eD,BB _,BB _,Lvl.start h9,λq y=>?_,v4,b4,rfl⟩
  ·rw[Cb.mp y];exact k2
 ·rintro i σ G hi ⟨o5,o6,o7,l,A,rfl,_,_,_,_,_,_,_,_,b,_⟩;exact .of (b n _ g6 hn)
 ·rintro _ i x σ H5 hx ⟨o5, o6, o7, l, A, rfl, d, tr, e5, i0, d3, a9, frs, v5, b5, d8⟩;obtain⟨u,hu,rfl⟩:=bu hx;have j2:=(BF.mp hu).1;have f2:=BG hu;obtain⟨l2,g2⟩:=cG v5;have d7:(l.map λq=>V.ref q.1).length=l.length:=BA ..;have k6:0<l.length:=by
   have:=List.length_pos_of_mem tr.top;rw[BA,BA] at this;exact this
  refine⟨_,rfl,_,rfl,_,rfl,_,_,rfl,Or.inl ⟨_,.of d.l,rfl⟩,p,a,_,rfl,hP.but b5 v5,by rw[d7];omega,by rw[d7];omega,λr H6 j0 i8 v6 e6=>?_⟩;have c9:=But.of_eq e6;have d:=d.draw g2 c9;have f9:H6 D=some (.dK A):=c9 D _ (bK e5 g2 (by intro z;cases z)) e5;have b6:=b5.trans c9;obtain⟨j,rfl⟩:=Cc j0;rw[d7] at i8;obtain⟨⟨ta,M,C,g⟩,hj⟩:∃q,l[j]? = some q:=⟨_,BV (by omega)⟩
  have W:=BG hj;have N:(cB l)[j]? = some (C,g):=by rw[BM,hj];rfl
  have f3:=d.t _ W;have Z:=d.c _ W;have f6:=d.nl _ W;refine .lst (.of d.l) (bj (by rw[BM,hj];rfl)) ⟨ta,_,rfl,.of f3,rfl,_,_,rfl,_,_,rfl,rfl,?_⟩;have k7:g.length<=i:=by
   have h1:=tr.perm.length_eq;rw[Ch] at h1;have h3:g.length<=(aB (cB l)).length:=by
    have:=(DI (L:=(cB l).map (·.2)) (BE.mpr ⟨(C,g),BG N,rfl⟩)).length_le;rw[<- List.flatMap_def] at this;exact this
   omega
  have a7:(List.map V.str g).length=g.length:=BA ..;obtain⟨l3,g4⟩:=cG v6;refine⟨_,rfl,.inl ⟨rfl,_,.of Z⟩,_,rfl,_,rfl,_,_,rfl,Or.inl ⟨_,.of Z,rfl⟩,.int ⟨p,a,_,rfl,hP.but b6 v6,by rw[a7];omega,by rw[a7];omega,λr2 H7 i7 i6 v7 e7=>?_⟩⟩;have e2:=But.of_eq e7;have d:=d.draw g4 e2;have f0:H7 D=some (.dK A):=e2 D _ (bK f9 g4 (by intro z;cases z)) f9;have b7:=b6.trans e2;have Z:=d.c _ W;obtain⟨m,rfl⟩:=Cc i7;rw[a7] at i6;refine⟨_,rfl,M,_,_,m,_,rfl,rfl,rfl,Z,by rw[a7];omega,by rw[a7];exact ap (by omega),?_⟩;have e8:(List.map V.str g).take m++V.str u::(List.map V.str g).drop m=List.map V.str (g.take m++u::g.drop m):=by simp[CY,Dw]
  rw[e8];have pc:=fq g m u;have S:=tr.step c1 hu N pc;have d:=d.put (ch':=g.take m++u::g.drop m) hj;have b1:cB (l.set j (ta,M,(C,g.take m++u::g.drop m)))=(cB l).set j (C,g.take m++u::g.drop m):=List.map_set ..;rw[<- b1] at S;have X:upd H7 M (.lst (List.map V.str (g.take m++u::g.drop m))) D=some (.dK A):=by rw[ah (bK f0 Z (by intro z;cases z))];exact f0
  have v8:=v7.upd (o:=.lst (List.map V.str (g.take m++u::g.drop m))) (Ne.symm f6.2);have b8:=b7.at (o:=.lst (List.map V.str (g.take m++u::g.drop m))) (frs _ W);generalize upd H7 M (.lst (List.map V.str (g.take m++u::g.drop m)))=H8 at d X v8 b8 ⊢;have e1:((l.set j (ta,M,(C,g.take m++u::g.drop m))).map λq=>q.2.1)=l.map λq=>q.2.1:=fP hj rfl;have en:((cB (l.set j (ta,M,(C,g.take m++u::g.drop m)))).map λk=>k.1)=(cB l).map λk=>k.1:=by rw[b1];exact fP N rfl
  have a4:∀q∈l.set j (ta,M,(C,g.take m++u::g.drop m)),H q.2.1=none:=λq y=>by
   have:q.2.1∈l.map λq=>q.2.1:=by rw[<- e1];exact BE.mpr ⟨q,y,rfl⟩
   obtain⟨q',i9,e⟩:=BE.mp this;rw[<- e];exact frs q' i9
  have O:u∉(cB (l.set j (ta,M,(C,g.take m++u::g.drop m)))).map (·.1):=λz=>by
   rw[en] at z;obtain⟨k',k3,e⟩:=BE.mp z;rcases tr.sub k' k3 with q | q
   ·exact nn u f2 (e.symm.trans q)
   ·rw[e] at q;obtain⟨m',d0⟩:=CG q;have k1:=(BF.mp d0).1;rw[Ch] at k1;rw[DH (by omega)] at d0;have:=(Dk (by omega) c1).mp (d0.trans hu.symm);omega
  have a1:u∉(cB l).map (·.1):=λz=>O (by rw[en];exact z);have a0:Lvl A dp (cB (l.set j (ta,M,(C,g.take m++u::g.drop m)))):=by
   rw[b1];exact a9.set N a1 λx hx=>(BH.mp (pc.mem_iff.mp hx))
  have c5:(C,g.take m++u::g.drop m)∈cB (l.set j (ta,M,(C,g.take m++u::g.drop m))):=by
   rw[b1];exact BG (i:=j) (by rw[List.getElem?_set,if_pos rfl,if_pos (BF.mp N).1])
  have h5:u∈g.take m++u::g.drop m:=pc.mem_iff.mpr (Cr ..);have U:((cB (l.set j (ta,M,(C,g.take m++u::g.drop m)))).map λk=>k.1).head? = some ("":Str):=by rw[en];exact d8
  have d2:(l.set j (ta,M,(C,g.take m++u::g.drop m))).length<=i+1:=by rw[CU];exact d3
  obtain⟨lm,e3,_⟩:=a9.has (C,g) (BG N);clear e8 b1 en e1 a9 frs N hj W tr f3 Z f6 a1;generalize l.set j (ta,M,(C,g.take m++u::g.drop m))=t at d S a4 a0 O d2 U c5;have d6:∀G,KLs G L p t->G D=some (.dK A)->PenV G p a->But p H G->∃(o5 o6 o7:Option V) (l:KL) (A:List (Key × V)),[some (V.ref p),some (.ref n),some (.int dp),some (.ref L),some (.ref D),some (.str u),some (.str C),some (.ref M)]=[some (V.ref p),some (.ref n),some (.int dp),some (.ref L),some (.ref D),o5,o6,o7]/\KLs G L p l/\TrN us (i+1) (cB l)/\G D=some (.dK A)/\A.length<=i+1+1/\l.length<=i+1+1/\Lvl A dp (cB l)/\(∀q∈l,H q.2.1=none)/\PenV G p a/\But p H G/\((cB l).map λk=>k.1).head? = some ("":Str) :=
   λG h1 h2 h3 h4=>⟨_,_,_,t,A,rfl,h1,S,h2,by omega,by omega,a0,a4,h3,h4,U⟩
  refine⟨_,rfl,_,rfl,.dic (.inl ⟨A,.inr C,.inl X,rfl,e3.symm⟩) ⟨_,rfl,.int ⟨_,rfl,?_⟩⟩⟩;refine aA (λd9=>?_) (λ_=>?_)
  ·have d9:(lm:Int)<dp := BX d9;obtain⟨l5,c8⟩:=cG v8;refine⟨_,rfl,p,a,3,rfl,hP.but b8 v8,by decide,by decide,λr3 H9 l4 k8 v9 e9=>.sc rfl ⟨_,rfl,?_⟩⟩;have e4:=But.of_eq e9;have d:=d.draw c8 e4;have Y:H9 D=some (.dK A):=e4 D _ (bK X c8 (by intro z;cases z)) X;have b9:=b8.trans e4;refine aA (λ_=>?_) (λ_=>?_)
   ·refine⟨_,rfl,_,rfl,.dic (.inl ⟨A,.inr C,.inl Y,rfl,e3.symm⟩) (.int ⟨_,rfl,_,rfl,.dic (DPut.k (k:=.inr u) Y (ap (by omega))) ?_⟩)⟩;have d1:upd H9 D (.dK (aS A (.inr u) (.int (lm+1)))) D=some (.dK (aS A (.inr u) (.int (lm+1)))):=af;have g3:D≠p:=bK X c8 (by intro z;cases z);have J:KLs (upd H9 D (.dK (aS A (.inr u) (.int (lm+1))))) L p t :=
     ⟨by rw[ah (bK d.l Y (by intro z;cases z))];exact d.l,λq y=>by rw[ah (bK (d.t q y) Y (by intro z;cases z))];exact d.t q y,λq y=>by rw[ah (bK (d.c q y) Y (by intro z;cases z))];exact d.c q y,d.nd,d.nl,d.lp⟩
    have vA:=v9.upd (o:=.dK (aS A (.inr u) (.int (lm+1)))) (Ne.symm g3);have bA:=b9.at (o:=.dK (aS A (.inr u) (.int (lm+1)))) hf;have j6:=bR A (.inr u) (V.int (lm+1));have c4:∀c,Lvl (aS A (.inr u) (.int (lm+1))) dp ((cB t).take c++(u,[])::(cB t).drop c):=a0.knot O (nn u f2) c5 h5 (S.perm.nodup_iff.mpr ((List.take_sublist _ _).nodup c1)) e3 d9;clear d6 d;generalize aS A (.inr u) (V.int (lm+1))=d5 at d1 J vA bA j6 c4 ⊢;generalize upd H9 D (.dK d5)=HA at d1 J vA bA ⊢;obtain⟨k9,i4⟩:=cG vA;have a3:(t.map λq=>V.ref q.1).length=t.length:=BA ..;have j5:0<t.length:=by
     have:=List.length_pos_of_mem S.top;rw[BA,BA] at this;exact this
    refine⟨_,rfl,.inl ⟨rfl,_,.of J.l⟩,_,rfl,_,rfl,_,_,rfl,Or.inl ⟨_,.of J.l,rfl⟩,p,a,_,rfl,hP.but bA vA,by rw[a3];omega,by rw[a3];omega,λr4 HB j9 k5 vB eB=>.int ?_⟩;have c7:=But.of_eq eB;have c2:=J.draw i4 c7;have i2:HB D=some (.dK d5):=c7 D _ g3 d1;have bB:=bA.trans c7;obtain⟨c,rfl⟩:=Cc j9;rw[a3] at k5;refine⟨_,rfl,(szl 0),λln a2=>?_⟩;have s1:=Same.new (o:=.lst []) a2;have el:upd HB ln (.lst []) ln=some (.lst []):=af;have h7:ln≠p:=Ne.symm (vB.ne a2);have i5:ln≠L:=Ne.symm (ao c2.l a2);have j4:ln∉t.map λq=>q.2.1:=λz=>by
     obtain⟨q,y,e⟩:=BE.mp z;have:=c2.c q y;rw[e,a2] at this;cases this
    have i3:H ln=none:=bB.free h7 a2;have c6:=c2.same s1;have g1:=s1 _ _ i2;have vC:=br s1 vB;have bC:=bB.trans (But.of_same (p:=p) s1);generalize upd HB ln (.lst [])=HC at el c6 g1 vC bC ⊢;refine⟨(szl 2),λtn j8=>?_⟩;refine nw j8 λHD s2 j7=>?_;have el:=s2 _ _ el;have a6:=c6.same s2;have g7:=s2 _ _ g1;have vD:=br s2 vC;have bD:=bC.trans (But.of_same (p:=p) s2);refine⟨L,_,_,c+1,_,rfl,rfl,by omega,a6.l,by rw[a3];omega,by rw[a3];exact ap (by omega),?_⟩;have f5:=a6.ins (k:=c+1) j7 el j4 i5 h7;have ek:cB (t.take (c+1)++(tn,ln,(u,[]))::t.drop (c+1))=(cB t).take (c+1)++(u,[])::(cB t).drop (c+1):=by simp[CY,Dw]
    have g5:=S.knot c1 nn hu O (c+1);rw[<- ek] at g5;refine⟨_,_,_,t.take (c+1)++(tn,ln,(u,[]))::t.drop (c+1),d5,rfl,f5,g5,?_,by omega,?_,by rw[ek];exact c4 _,λq y=>?_,vD.upd (Ne.symm d4),bD.at k4,?_⟩
    ·rw[ah (bK g7 a6.l (by intro z;cases z))];exact g7
    ·rw[(fq t (c+1) (tn,ln,(u,([]:LS)))).length_eq,BN];omega
    ·rcases dv y with rfl | y
     ·exact i3
     ·exact a4 q y
    ·rw[ek];cases hz:cB t with
     | nil=>rw[hz] at U;cases U
     | cons k0 kr=>rw[hz] at U;exact U
   ·exact d6 H9 d Y v9 b9
  ·exact d6 H8 d X v8 b8
 ·rintro σ H5 ⟨o5, o6, o7, l, A, rfl, d, tr, e5, i0, d3, a9, frs, v5, b5, d8⟩;rw[BA] at tr d3;have T:=tr.fin c1 f4 f8;refine⟨_,rfl,L,rfl,⟨_,.of d.l⟩,?_⟩
  let h8:Addr->Nat->LV->St->Hp->Prop:=λD2 i a5 c3 G=>∃(o0 o1:Option V),c3=[o0,o1]/\RepAll G a5 (((cB l).take i).map cU)/\Same H5 G/\H5 D2=none
  refine cE (l.map λq=>V.ref q.1) h8 λD2 g9=>⟨?_,?_,?_,?_⟩
  ·exact⟨none,none,rfl,.nil,Same.new g9,g9⟩
  ·rintro i a5 c3 G _ ⟨o0,o1,rfl,_,sm,_⟩ _;exact .of (sm _ _ d.l)
  ·rintro i a5 c3 G v hv ⟨o0,o1,rfl,rp,sm,c0⟩ a8;rw[BM] at hv;obtain⟨⟨ta,M,C,g⟩,y,e⟩:∃q,l[i]? = some q/\V.ref q.1=v:=by
    cases q:l[i]? with
    | none=>rw[q] at hv;cases hv
    | some e=>rw[q] at hv;exact⟨e,rfl,BD hv⟩
   have g0:=BG y;have j2:=(BF.mp y).1;have g8:=rp.len;rw[BA,Ch] at g8;refine AS e.symm (.of (sm _ _ (d.t _ g0))) ?_;refine⟨_,rfl,_,rfl,M,_,rfl,.of (sm _ _ (d.c _ g0)),λl1 h1=>⟨(szl 2),λt1 h6=>?_⟩⟩;have s1:=(Same.new (o:=.tup (List.map V.str g)) h1).trans (Same.new (o:=.tup [V.str C,V.ref l1]) h6);have r1:Rep (upd (upd G l1 (.tup (List.map V.str g))) t1 (.tup [V.str C,V.ref l1])) (.ref t1) (cU (C,g)):=.tup af (.cons (.str _) (.cons (.tup (Same.new h6 _ _ af) (RepAll.of_strs g)) .nil));have I:=s1 _ _ a8;have rp:=rp.same s1;have f7:=sm.trans s1;generalize upd (upd G l1 (.tup (List.map V.str g))) t1 (.tup [V.str C,V.ref l1])=H6 at I rp f7 r1 ⊢;refine⟨I,ap (by omega),_,_,rfl,?_,bq f7 c0,c0⟩;have ei:(cB l)[i]? = some (C,g):=by rw[BM,y];rfl
   rw[BW,ei,BO];exact RepAll.append (aO (fT I But.upd) rp) (.cons (fT I But.upd r1) .nil)
  ·rintro a5 c3 H6 ⟨o0,o1,rfl,rp,sm,c0⟩ a8;rw[BA,<- BA (f:=λq:Addr × Addr × (Str × LS)=>q.2.2),BS (BB _)] at rp;refine⟨D2,_,rfl,.of a8,λq y=>?_⟩;have sq:=Same.new (o:=.tup a5) y;have s5:=sm.trans sq;exact k q (cB l) _ (.tup af (rp.same sq)) T d8 a9.fin (br s5 v5) (b5.trans (But.of_same (p:=p) s5))
def nB:Sp:=λvs H Q _=>∃(wq refs:_) (ss:LS) (ts:List (Str × Str)) (one:_),vs=[.ref wq,.str one]/\H wq=some (.lst refs)/\RepAll H refs (ts.map aG)/\(∀e∈ts,e.1∈ss/\e.2∈ss)/\one∈ss/\ss.length<=60 /\
 ∀l (seen:LS) H',Same H H'->H l=none->H' l=some (.lst (List.map V.str seen))->(∀t,t∈seen ↔ MG.Rch (Tie ts) one t)->seen.length<=60->Q (.ref l) H'
theorem tL {f:Addr}{fd:FuncData}(F:Fun K "_law_reached" "_law_reached" nS f fd) (B:Blt mg):FnOk P w K mg base CX0 1 f fd ["_law_edges_here", "_law_one"] nB := by
 refine F.ok1 ["_law_edges_here","_law_one","_law_found","_law_at","_law_here","_law_there"] λnd H Q E hr h=>?_;obtain⟨wq,a7,ss,O,one,rfl,hb,rp,a9,a2,hn,k⟩:=h;refine⟨_,(aa (pst 2 nd (bt (p1 (pv 1))))
  (aa (pst 3 nd ac)
  (aa (gB PassesOwn.never (aj dO (pv 3) (aQ K B (p1 (pv 2))) (av _)) (aa (aZ PassesOwn.never rfl (bg K (pv 0)) (cj (n:=2) K rfl (aM (az (i:=4) nd rfl (Or.inl rfl)) (aM (az (i:=5) nd rfl (Or.inl rfl)) cm))) (ae (aJ (PW.pt (cR (aj (bc hr.units) (pv 4) (px K hr (pv 2) (pv 3)) (av _)) (cA (aj (cO K hr.units) (pv 5) (pv 2) (by with_unfolding_all rfl))))) (ae (bh (dj K (pv 2) (p1 (pv 5))))) aF)))
  (ae (pst 3 nd (aH aK (pv 3) ac)))))
  (ae (ai (pv 2)))))),?_⟩
 have Z:=rp.len;rw[BA] at Z;refine⟨_,rfl,(szl 1),λY a0=>?_⟩;have a4:∀y,MG.Rch (Tie O) one y->y∈ss:=λy r=>MG.Rch.closed (S:=λy=>y∈ss) a2 (λa b _ r=>(a9 _ r).2) r
 let a3:Nat->St->Hp->Prop:=λm σ N=>∃(l:Nat) (g:LS) (J G:Option V),m+l=ss.length/\σ=[some (.ref wq),some (.str one),some (.ref Y),some (.int ((l:Nat):Int)),J,G]/\Same H N/\N Y=some (.lst (List.map V.str g))/\g.Nodup/\(∀x∈g,MG.Rch (Tie O) one x)/\one∈g/\l<=g.length/\∀i x,i<l->g[i]? = some x->∀y,(x,y)∈O->y∈g
 refine⟨a3,
  ⟨ss.length,0,[one],none,none,by omega,rfl,Same.new a0,af,by simp,(λx A=>(show x=one by simpa using A) ▸ MG.Rch.refl),by simp,by omega,λi x hi=>by omega⟩,?_⟩
 rintro m σ H1 ⟨l,g,J,G,hm,rfl,M,L,C,v,u,b4,s⟩;have b1:g.length<=ss.length:=C.length_le_of_subset λx A=>a4 x (v x A);have b3:(List.map V.str g).length=g.length:=BA ..;refine⟨_,rfl,_,rfl,_,_,rfl,Or.inl ⟨_,.of L,rfl⟩,.int ⟨_,rfl,?_⟩⟩;refine aA (λW=>?_) (λW=>?_)
 ·have W:(l:Int)<((List.map V.str g).length:Nat) := BX W;have D:l<g.length:=by omega
  obtain⟨z,U⟩:∃z,g[l]? = some z:=⟨_,BV D⟩
  have rz:=v z (BG U)
  let a1:St->Hp->Prop:=λa6 N=>∃(g:LS) (J G:Option V),a6=[some (.ref wq),some (.str one),some (.ref Y),some (.int ((l+1:Nat):Int)),J,G]/\Same H N/\N Y=some (.lst (List.map V.str g))/\g.Nodup/\(∀x∈g,MG.Rch (Tie O) one x)/\one∈g/\l+1<=g.length/\∀i x,i<l+1->g[i]? = some x->∀y,(x,y)∈O->y∈g
  refine⟨a1,
   λa6 N ⟨g,J,G,p⟩=>⟨m-1,by omega,l+1,g,J,G,by omega,p⟩,?_⟩
  refine⟨_,rfl,wq,rfl,⟨_,.of (M _ _ hb)⟩,?_⟩
  let a5:Nat->St->Hp->Prop:=λj σ N=>∃(g:LS) (J G:Option V),σ=[some (.ref wq),some (.str one),some (.ref Y),some (.int ((l:Nat):Int)),J,G]/\Same H N/\N Y=some (.lst (List.map V.str g))/\g.Nodup/\(∀x∈g,MG.Rch (Tie O) one x)/\one∈g/\l<g.length/\g[l]? = some z/\(∀i x,i<l->g[i]? = some x->∀y,(x,y)∈O->y∈g)/\∀f∈O.take j,f.1=z->f.2∈g
  refine dD (R:=Q) (xs:=a7) a5 ?_ ?_ ?_ ?_
  ·exact⟨g,J,G,rfl,M,L,C,v,u,D,U,s,λe he=>by simp at he⟩
  ·rintro j σ N hj ⟨g,J,G,rfl,M,_⟩;exact .of (M _ _ hb)
  ·rintro _ j x σ N A ⟨g, J, G, rfl, M, L, C, v, u, D, U, s, T⟩;obtain⟨d,hd,rd⟩:=(rp.same M).get A;rw[BM] at hd;obtain⟨e,he,rfl⟩:∃e,O[j]? = some e/\aG e=d:=by
    cases q:O[j]? with
    | none=>rw[q] at hd;cases hd
    | some e=>rw[q] at hd;exact⟨e,rfl,BD hd⟩
   obtain⟨ta,rfl,b0⟩:=jh rd;have b2:=BG he;have b1:g.length<=ss.length:=C.length_le_of_subset λx A=>a4 x (v x A);have X:(e.1=z->e.2∈g)->∀f∈O.take (j+1),f.1=z->f.2∈g:=λh f I q=>by
    rw[BW,he,BR] at I;rcases I with I | I
    ·exact T f I q
    ·have:f=e:=by simpa using I
     subst this;exact h q
   have a8:atI (List.map V.str g) (l:Int)=some (.str z):=bj (by rw[BM,U];rfl);refine⟨ta,_,rfl,.of b0,rfl,_,_,rfl,_,_,rfl,rfl,?_⟩;refine⟨_,rfl,_,rfl,_,rfl,.lst (.of L) a8 (.sc rfl ⟨_,rfl,?_⟩)⟩;refine aA (λh1=>?_) (λh1=>?_)
   ·have h1:e.1=z := V.str.inj (BX h1);refine⟨_,rfl,_,rfl,.seq (.inl (.of L)) rfl (fj _) ⟨_,rfl,?_⟩⟩;rw[hH];refine aA (λh2=>?_) (λh2=>?_)
    ·have h2:e.2 ∉ g := by simpa using h2
     refine⟨_,rfl,.inl ⟨rfl,_,.of L⟩,?_⟩;refine⟨_,rfl,Y,_,_,rfl,rfl,L,by rw[BA];exact ap (by omega),?_⟩;refine⟨g++[e.2],_,_,rfl,?_,?_,?_,?_,?_,?_,?_,?_,?_⟩
     ·intro c o W;rw[ah (ao W a0)];exact M _ _ W
     ·rw[af];simp
     ·rw[CI];refine⟨C,by simp,λa ha b hb=>?_⟩;have:b=e.2:=by simpa using hb
      subst this;rintro rfl;exact h2 ha
     ·intro x A;rcases BR.mp A with A | A
      ·exact v x A
      ·have:x=e.2:=by simpa using A
       subst this;exact MG.Rch.step rz (by rw[<- h1];exact b2)
     ·exact CH _ u
     ·simp;omega
     ·rw[Db D];exact U
     ·intro i x hi A y hy;rw[Db (by omega)] at A;exact CH _ (s i x hi A y hy)
     ·intro f I q;rw[BW,he,BR] at I;rcases I with I | I
      ·exact CH _ (T f I q)
      ·have:f=e:=by simpa using I
       subst this;simp
    ·have h2:e.2∈g:=by simpa using h2
     exact⟨g,_,_,rfl,M,L,C,v,u,D,U,s,X λ_=>h2⟩
   ·have h1:e.1≠z:=λq=>h1 (BI (by rw[q]));exact bM ⟨g,_,_,rfl,M,L,C,v,u,D,U,s,X λq=>absurd q h1⟩
  ·rintro σ N ⟨g,J,G,rfl,M,L,C,v,u,D,U,s,T⟩;rw[Z,BS (BB _)] at T;refine⟨_,rfl,.int ⟨g,J,G,rfl,M,L,C,v,u,D,λi x hi A y hy=>?_⟩⟩;by_cases q:i<l
   ·exact s i x q A y hy
   ·have:i=l:=by omega
    subst this;rw[U] at A;cases A;exact T _ hy rfl
 ·have W:¬ (l:Int)<((List.map V.str g).length:Nat):=λq=>W (BI q);refine⟨_,rfl,k Y g H1 M a0 L (λt=>⟨v t,λr=>?_⟩) (by omega)⟩;refine MG.Rch.closed (S:=λy=>y∈g) u (λa b ha r=>?_) r;obtain⟨j,hj,ej⟩:=List.mem_iff_getElem.mp ha;exact s j a (by omega) (by rw[BV hj,ej]) b r
def wO (us:LS) (wn:List (Str × Str)):Prop:=∀e∈wn,(e.1="first"∨e.1="last")/\e.2∈us
def FX (k:Str × LS) (e:Str × Str):Prop:=FL k e/\(e.1="last"->1<k.2.length)
theorem gI {α β:Type}{f:α->β}:∀ {l:List α},(∀a∈l,∀b∈l,f a=f b->a=b)->l.Nodup->(l.map f).Nodup
 | [],_,_=>CC
 | x::l,h,nd=>by
  obtain⟨h1,h2⟩:=Cd.mp nd;rw[BZ,Cd];refine⟨λq=>?_,gI (λa ha b hb=>h a (BQ _ ha) b (BQ _ hb)) h2⟩;obtain⟨y,hy,e⟩:=BE.mp q;exact h1 (h y (BQ _ hy) x (Cr ..) e ▸ hy)
theorem vr {us:LS}{ks:Kn}(T:Tre us ks) {wn:Prs}(t:wn.Nodup) (h:∀e∈wn,∃k∈ks,FX k e):(wn.map (·.2)).Nodup:=by
 refine gI (λa w b y e=>?_) t;obtain⟨k,o,f,s⟩:=h a w;obtain⟨r,m,g,v⟩:=h b y;have x:k=r:=fk T.knd o m f.mem (by rw[e];exact g.mem);subst x;have l:k.2.Nodup:=by
  have:=T.knd;unfold aB at this;rw[List.flatMap_def] at this;exact(DI (BE.mpr ⟨k,o,rfl⟩)).nodup this
 have q:∀u,k.2.head? = some u->k.2.getLast? = some u->1<k.2.length->False:=λu p n z=>by
  rw[List.head?_eq_getElem?] at p;rw[List.getLast?_eq_getElem?] at n;have:=(Dk (by omega) l).mp (p.trans n.symm);omega
 refine Prod.ext ?_ e;rcases f with⟨i,j⟩ | ⟨i,j⟩
 ·rcases g with⟨c,d⟩ | ⟨c,d⟩
  ·rw[i,c]
  ·exact(q _ j (by rw[e];exact d) (v c)).elim
 ·rcases g with⟨c,d⟩ | ⟨c,d⟩
  ·exact(q _ (by rw[e];exact d) j (s i)).elim
  ·rw[i,c]
def qa (K:W.Frag):Sp:=λvs H Q _=>∃p a n us ks,vs=[.ref p,.ref n]/\Pen K H p a/\Rep H (.ref n) (cZ ks)/\Tre us ks /\
 ∀l refs wn H',H' l=some (.lst refs)->RepAll H' refs (wn.map aG)->WnX ks wn->(∀e∈wn,∃k∈ks,FX k e)->wn.length<=122->l≠p->PenV H' p a->But p H H'->Q (.ref l) H'
theorem vP {ks:Kn}(a:(aB ks).Nodup) {i:Nat}{z k:Str × LS}{u:Str}(f:ks[i]? = some z) (c:k∈ks.take i) (d:u∈k.2) (b:u∈z.2):False:=by
 have e:aB ks=aB (ks.take (i+1))++aB (ks.drop (i+1)):=by rw[<- ff,CL]
 rw[e,fY f] at a;have:=(CI.mp (CI.mp a).1).2.2 u (Cw.mpr ⟨k,c,d⟩) u b;exact this rfl
theorem WnX.ok {us:LS}{ks:Kn}{wn:Prs}(T:Tre us ks) (W:WnX ks wn):wO us wn:=λe a=>by
 obtain⟨k,b,f⟩:=W.at_ e a;exact⟨by rcases f with⟨q,_⟩ | ⟨q,_⟩;exact .inl q;exact .inr q,T.isIn b f.mem⟩
theorem wQ {us:LS}{ks:Kn}(T:Tre us ks) {wn:Prs}(w:wn.Nodup) (h:∀e∈wn,∃k∈ks,FX k e):(wn.map λe=>(e.1,aX ks e.2)).Nodup:=by
 refine gI (λa x b z e=>?_) w;obtain⟨s,y⟩:=Prod.mk.inj e;obtain⟨k,v,f,_⟩:=h a x;obtain⟨u,m,g,_⟩:=h b z;have q:k.1=u.1:=by rw[<- T.par v f.mem,<- T.par m g.mem,y]
 have q:k=u:=by
  obtain⟨i,p⟩:=CG v;obtain⟨j,t⟩:=CG m;have l:=(BF.mp p).1;have:=(Dk (by rw[BA];exact l) T.kn).mp (show (ks.map (·.1))[i]? = (ks.map (·.1))[j]? by rw[BM,BM,p,t];exact congrArg some q);subst this;exact BD (p.symm.trans t)
 subst q;refine Prod.ext s ?_;have n:("first":Str)≠"last":=by decide
 rcases f with⟨r,o⟩ | ⟨r,o⟩
 ·rcases g with⟨c,d⟩ | ⟨c,d⟩
  ·exact BD (o.symm.trans d)
  ·exact absurd (r.symm.trans (s.trans c)) n
 ·rcases g with⟨c,d⟩ | ⟨c,d⟩
  ·exact absurd (c.symm.trans (s.symm.trans r)) n
  ·exact BD (o.symm.trans d)
theorem sw {α β:Type}{f:α->β}{l:List α}(h:(l.map f).Nodup) {a b:α}(g:a∈l) (m:b∈l) (e:f a=f b):a=b:=by
 obtain⟨i,c⟩:=CG g;obtain⟨j,d⟩:=CG m;have k:=(BF.mp c).1;have:=(Dk (by rw[BA];exact k) h).mp (show (l.map f)[i]? = (l.map f)[j]? by rw[BM,BM,c,d];exact congrArg some e);subst this;exact BD (c.symm.trans d)
structure WnF (us:LS) (ks:Kn) (wn:Prs):Prop where
 ok:wO us wn
 un:(wn.map (·.2)).Nodup
 wd:(wn.map λe=>(e.1,aX ks e.2)).Nodup
theorem WnF.nd {us:LS}{ks:Kn}{wn:Prs}(W:WnF us ks wn):wn.Nodup:=(List.pairwise_map.mp W.un).imp λh z=>h (congrArg _ z)
theorem WnX.toF {us:LS}{ks:Kn}{wn:Prs}(T:Tre us ks) (W:WnX ks wn) (a:∀e∈wn,∃k∈ks,FX k e):WnF us ks wn:=⟨WnX.ok T W,vr T W.nd a,wQ T W.nd a⟩
theorem WnF.alike {us:LS}{ks:Kn}{wn:Prs}(T:Tre us ks) (W:WnF us ks wn) {k:Str × LS}(a:k∈ks) {word x y:Str}(d:x∈k.2) (b:y∈k.2) (e:(word,x)∈wn) (c:(word,y)∈wn):x=y:=by
 have:=sw W.wd e c (by show (word,aX ks x)=(word,aX ks y);rw[T.par a d,T.par a b]);exact(Prod.mk.inj this).2
theorem pW {us:LS}{ks:Kn}(T:Tre us ks) {wn:Prs}(W:WnF us ks wn) {k:Str × LS}(i:k ∈ ks) (h:k.2.Nodup) {word:Str}:wU k.2 wn word=wL k.2 wn word := by
 have d:∀x,x∈wU k.2 wn word ↔ x∈k.2/\(word,x)∈wn:=λx=>by unfold wU;rw[Cj,decide_eq_true_iff]
 have j:∀x,x∈wL k.2 wn word ↔ x∈k.2/\(word,x)∈wn:=λx=>by
  unfold wL;rw[BE]
  constructor
  ·rintro⟨e,c,rfl⟩;rw[Cj,Co,decide_eq_true_iff,decide_eq_true_iff] at c;obtain⟨b,a,l⟩:=c;exact⟨l,a ▸ b⟩
  ·rintro⟨b,a⟩;exact⟨(word,x),Cj.mpr ⟨a,by rw[Co,decide_eq_true_iff,decide_eq_true_iff];exact⟨rfl,b⟩⟩,rfl⟩
 refine AH (h.filter _) ?_ (λx g y f=>?_) (λx=>(d x).trans (j x).symm)
 ·unfold wL;exact sM (λe c=>by rw[Cj,Co,decide_eq_true_iff,decide_eq_true_iff] at c;exact c.2.1) (W.nd.filter _)
 ·have b:=(d x).mp g;have a:=(d y).mp f;exact W.alike T i b.1 a.1 b.2 a.2
theorem yv {H:Hp}{xs:LV}{ps:List (Str × Str)}(r:RepAll H xs (ps.map aG)) {v:V}{e:Str × Str}(a:Rep H v (aG e)) (m:Nat):RepAll H (xs.take m++v::xs.drop m) ((ps.take m++e::ps.drop m).map aG):=by
 rw[BO,BZ,CY,Dw];exact RepAll.append (r.take m) (.cons a (r.drop m))
theorem vm {f:Addr}{fd:FuncData}(F:Fun K "_law_wants" "_law_wants" uU f fd) (B:Blt mg) (c:Cal P w K mg base 1 "_law_draw" ["_law_pen_here", "_law_most"] (dX K)):FnOk P w K mg base CX0 2 f fd ["_law_pen_here", "_law_knots"] (qa K) := by
 refine F.ok1 ["_law_pen_here","_law_knots","_law_found","_law_knot","_law_some"] λnd H Q E hr h=>?_;obtain⟨p,a,n,us,ks,rfl,hP,R,T,k⟩:=h;have v0:=hP.2;refine⟨_,(aa (pst 2 nd (bt bO))
  (aa (aZ PassesOwn.never rfl (aP K (pv 1)) (cj (n:=2) K rfl (aM (az (i:=3) nd rfl (Or.inl rfl)) (aM (az (i:=4) nd rfl (Or.inl rfl)) cm))) (aa (aJ (PW.pt (cR (aj eZ (aQ K B (p1 (pv 4))) ac (av _)) (cA (aj (bc hr.units) (pc c hr (p2 (pv 0) ac)) ac (av _))))) (ae (bh (fi K (pv 2) (p2 (pc c hr (p2 (pv 0) (aH aK (aQ K B (p1 (pv 2))) ac))) (be (p2 aw (px K hr (pv 4) ac))))))) aF)
  (ae (aJ (PW.pt (cR (aj eZ (aQ K B (p1 (pv 4))) ac (av _)) (cA (aj (bc hr.units) (pc c hr (p2 (pv 0) ac)) ac (av _))))) (ae (bh (fi K (pv 2) (p2 (pc c hr (p2 (pv 0) (aH aK (aQ K B (p1 (pv 2))) ac))) (be (p2 aw (px K hr (pv 4) (gn fG ac)))))))) aF))))
  (ae (ai (pv 2))))),?_⟩
 obtain⟨n',c2,e0,hn,rp⟩:=cz R;cases e0;obtain⟨d8,Y⟩:=cG v0;have a1:=rp.len;rw[BA] at a1;have d6:=T.few;refine⟨(szl 0),λl X=>?_⟩;have L:l≠p:=Ne.symm (v0.ne X);have b0:But p H (upd H l (.lst [])):=(But.refl p H).at X;have v1:PenV (upd H l (.lst [])) p a:=v0.upd (v0.ne X);have e1:upd H l (.lst []) l=some (.lst []):=af;generalize upd H l (.lst [])=H1 at b0 v1 e1 ⊢;refine⟨_,rfl,n,rfl,⟨_,.of (cq Y b0 hn)⟩,?_⟩
 let a9:Nat->St->Hp->Prop:=λi σ U=>∃(o3 o4:Option V) (g:LV) (d:List (Str × Str)),σ=[some (.ref p),some (.ref n),some (.ref l),o3,o4]/\U l=some (.lst g)/\RepAll U g (d.map aG)/\(d.Nodup/\∀e∈d,∃k∈ks.take i,FX k e)/\d.length<=2 * i/\PenV U p a/\But p H U
 refine bV (R:=Q) (xs:=c2) a9 ?_ ?_ ?_ ?_
 ·exact⟨none,none,[],[],rfl,e1,.nil,⟨CC,λe r=>by cases r⟩,BB _,v1,b0⟩
 ·rintro i σ U hi ⟨o3,o4,g,d,rfl,_,_,_,_,_,b⟩;exact .of (cq Y b hn)
 ·rintro _ i x σ H2 hx ⟨o3, o4, g, d, rfl, b7, a8, G, d4, v2, b2⟩;obtain⟨s,ta,la,hk,rfl,c6,d1⟩:=cu rp hx;have d7:=(BF.mp hk).1;have d9:∀u∈s.2,u∈us:=λu hu=>T.isIn (BG hk) hu;have b8:(List.map V.str s.2).length=s.2.length:=BA ..;refine⟨ta,_,rfl,.of (cq Y b2 c6),rfl,_,_,rfl,_,_,rfl,rfl,?_⟩;have c0:∀(w u:Str) (M:Hp) (g:LV) (d:List (Str × Str)) (t:Addr) (m:Nat),M l=some (.lst g)->RepAll M g (d.map aG)->d.Nodup->(w,u)∉d->M t=some (.tup [.str w,.str u])->PenV M p a->But p H M ->
      upd M l (.lst (g.take m++V.ref t::g.drop m)) l=some (.lst (g.take m++V.ref t::g.drop m))/\RepAll (upd M l (.lst (g.take m++V.ref t::g.drop m))) (g.take m++V.ref t::g.drop m) ((d.take m++(w,u)::d.drop m).map aG)/\(d.take m++(w,u)::d.drop m).Nodup/\(d.take m++(w,u)::d.drop m).length=d.length+1/\PenV (upd M l (.lst (g.take m++V.ref t::g.drop m))) p a/\But p H (upd M l (.lst (g.take m++V.ref t::g.drop m))):=by
   intro w u M g d t m hf rf d0 c9 ht v b;refine⟨af,aO (aL hf But.upd) (yv rf (cg ht) m),?_,(fq d m (w,u)).length_eq,v.upd (Ne.symm L),b.at X⟩;exact(fq d m (w,u)).nodup_iff.mpr (Cd.mpr ⟨c9,d0⟩)
  have c1:∀ {u:Str} {e:Str × Str},u∈s.2->e.2=u->(∃k∈ks.take i,FX k e)->False:=λ{u e} hu r ⟨k,a3,f⟩=>vP T.knd hk a3 (r ▸ f.1.mem) hu;have d2:∀ {e:Str × Str},(∃k∈ks.take i,FX k e)->∃k∈ks.take (i+1),FX k e:=λ⟨k,a3,f⟩=>⟨k,by rw[BW];exact CH _ a3,f⟩
  have a0:s∈ks.take (i+1):=by rw[BW,hk];simp
  have Z:∀U,But p H U->U la=some (.tup (s.2.map V.str)):=λU b=>cq Y b d1;apply gi (J:=λσ HZ=>∃(g:LV) (d:List (Str × Str)),σ=[some (.ref p),some (.ref n),some (.ref l),some (.str s.1),some (.ref la)]/\HZ l=some (.lst g)/\RepAll HZ g (d.map aG)/\(d.Nodup/\∀e∈d,(∃k∈ks.take i,FX k e)∨(e.1="first"/\FX s e))/\d.length<=2 * i+1/\PenV HZ p a/\But p H HZ)
  ·intro rest;refine⟨_,rfl,_,_,rfl,Or.inr ⟨_,.of (Z _ b2),rfl⟩,_,_,rfl,rfl,_,rfl,?_⟩;rw[b8];refine aA (λh=>?_) (λ_=>bM ?_)
   ·have h:(0:Int)<((s.2.length:Nat):Int):=BX h;obtain⟨u,hu⟩:∃u,s.2[0]? = some u:=⟨_,BV (by omega)⟩
    obtain⟨c7,a7⟩:=cG v2;refine⟨_,rfl,p,a,4,rfl,hP.but b2 v2,by decide,by decide,λr3 M c8 c5 v3 e3=>.sc rfl ⟨_,rfl,?_⟩⟩;have A:=But.of_eq e3;have b3:=b2.trans A;have y:=A l _ L b7;have C:=aO (aL a7 A) a8;have O:=C.len;rw[BA] at O;refine aA (λ_=>?_) (λ_=>?_)
    ·obtain⟨c4,a5⟩:=cG v3;refine⟨_,rfl,.inl ⟨rfl,_,.of y⟩,_,rfl,_,rfl,_,_,rfl,Or.inl ⟨_,.of y,rfl⟩,.int ⟨p,a,_,rfl,hP.but b3 v3,by omega,by omega,λr4 H4 a4 d3 v4 e4=>?_⟩⟩;have D:=But.of_eq e4;have b4:=b3.trans D;have W:=D l _ L y;have a2:=aO (aL a5 D) C;obtain⟨m,rfl⟩:=Cc a4;refine⟨_,rfl,.tup (.of (Z _ b4)) (show atI (List.map V.str s.2) 0=some (.str u) from bj (j:=0) (by rw[BM,hu];rfl)) ⟨(szl 2),λt ht=>?_⟩⟩;have S:=Same.new (o:=.tup [V.str "first",V.str u]) ht;have v5:=br S v4;have b5:=b4.trans (But.of_same (p:=p) S);refine⟨l,_,_,m,_,rfl,rfl,rfl,S _ _ W,by omega,ap (by omega),?_⟩;obtain⟨g1,g2,g3,g4,g5,g6⟩:=c0 "first" u _ g d t m (S _ _ W) (a2.same S) G.1 (λz=>c1 (BG hu) rfl (G.2 _ z)) af v5 b5;have a6:FX s ("first",u):=⟨.inl ⟨rfl,by rw[List.head?_eq_getElem?];exact hu⟩,λz=>absurd z (by show ¬ ("first":Str)="last";decide)⟩
     dsimp only;exact rest _ _ ⟨_,_,rfl,g1,g2,⟨g3,λe r=>by rcases dv r with rfl | r;exact .inr ⟨rfl,a6⟩;exact .inl (G.2 e r)⟩,by omega,g5,g6⟩
    ·exact rest _ _ ⟨g,d,rfl,y,C,⟨G.1,λe r=>.inl (G.2 e r)⟩,by omega,v3,b3⟩
   ·exact rest _ _ ⟨g,d,rfl,b7,a8,⟨G.1,λe r=>.inl (G.2 e r)⟩,by omega,v2,b2⟩
  ·rintro σ H6 ⟨g, d, rfl, b1, b9, I, d5, v6, b6⟩;have N:∀e,((∃k∈ks.take i,FX k e)∨(e.1="first"/\FX s e))->∃k∈ks.take (i+1),FX k e:=λe h=>by
    rcases h with h | h
    ·exact d2 h
    ·exact⟨s,a0,h.2⟩
   refine⟨_,rfl,_,_,rfl,Or.inr ⟨_,.of (Z _ b6),rfl⟩,_,_,rfl,rfl,_,rfl,?_⟩;rw[b8];refine aA (λh=>?_) (λ_=>bM ?_)
   ·have h:(1:Int)<((s.2.length:Nat):Int):=BX h;obtain⟨zs,u,hz⟩:∃zs u,s.2=zs++[u]:=⟨_,_,(List.dropLast_concat_getLast (λq=>by rw[q] at h;exact absurd h (by decide))).symm⟩
    obtain⟨c7,a7⟩:=cG v6;refine⟨_,rfl,p,a,4,rfl,hP.but b6 v6,by decide,by decide,λr3 M c8 c5 v3 e3=>.sc rfl ⟨_,rfl,?_⟩⟩;have A:=But.of_eq e3;have b3:=b6.trans A;have y:=A l _ L b1;have C:=aO (aL a7 A) b9;have O:=C.len;rw[BA] at O;refine aA (λ_=>?_) (λ_=>?_)
    ·obtain⟨c4,a5⟩:=cG v3;refine⟨_,rfl,.inl ⟨rfl,_,.of y⟩,_,rfl,_,rfl,_,_,rfl,Or.inl ⟨_,.of y,rfl⟩,.int ⟨p,a,_,rfl,hP.but b3 v3,by omega,by omega,λr4 H4 a4 d3 v4 e4=>?_⟩⟩;have D:=But.of_eq e4;have b4:=b3.trans D;have W:=D l _ L y;have a2:=aO (aL a5 D) C;obtain⟨m,rfl⟩:=Cc a4;refine⟨_,rfl,_,rfl,.tup (.of (Z _ b4)) (show atI (List.map V.str s.2) (-1)=some (.str u) from by rw[hz,BO];exact om _ _) ⟨(szl 2),λt ht=>?_⟩⟩;have S:=Same.new (o:=.tup [V.str "last",V.str u]) ht;have v5:=br S v4;have b5:=b4.trans (But.of_same (p:=p) S);refine⟨l,_,_,m,_,rfl,rfl,rfl,S _ _ W,by omega,ap (by omega),?_⟩;have c3:u∈s.2:=by rw[hz];simp
     obtain⟨g1,g2,g3,g4,g5,g6⟩:=c0 "last" u _ g d t m (S _ _ W) (a2.same S) I.1 (λz=>by rcases I.2 _ z with w | w;exact c1 c3 rfl w;exact absurd w.1 (by show ¬ ("last":Str)="first";decide)) af v5 b5;have a6:FX s ("last",u):=⟨.inr ⟨rfl,by rw[hz];simp⟩,λ_=>by omega⟩
     exact⟨_,_,_,_,rfl,g1,g2,⟨g3,λe r=>by rcases dv r with rfl | r;exact⟨s,a0,a6⟩;exact N e (I.2 e r)⟩,by omega,g5,g6⟩
    ·exact⟨_,_,g,d,rfl,y,C,⟨I.1,λe r=>N e (I.2 e r)⟩,by omega,v3,b3⟩
   ·exact⟨_,_,g,d,rfl,b1,b9,⟨I.1,λe r=>N e (I.2 e r)⟩,by omega,v6,b6⟩
 ·rintro σ U ⟨o3,o4,g,d,rfl,hf,rf,ok,hl,v,b⟩;rw[a1,BS (BB _)] at ok;exact⟨_,rfl,k l g d U hf rf ⟨ok.1,λe r=>let ⟨k,hk,f⟩:=ok.2 e r;⟨k,hk,f.1⟩⟩ ok.2 (by omega) L v b⟩
theorem bQ {us:LS}{ks:Kn}(T:Tre us ks) {k:Str × LS}(a:k∈ks):k.2.Nodup:=by
 have:=T.knd;unfold aB at this;rw[List.flatMap_def] at this;exact(DI (BE.mpr ⟨k,a,rfl⟩)).nodup this
theorem pS {H:Hp}{l:Addr}{c:LS}{x:Str}{Q:VK}(h:H l=some (.tup (c.map V.str))) (f:c.Nodup) (d:x∈c) (q:Q (.int ((MG.ix c x:Nat):Int)) H):lO (.ref l) [.str x] H Q:=by
 refine⟨l,_,.str x,MG.ix c x,.str x,rfl,rfl,h,rfl,fj c,by rw[BM,MG.at_ix d];rfl,by show (x==x)=true;simp,λm i j g=>?_,q⟩;obtain⟨z,a,rfl⟩:=bu g;have b:z≠x:=λe=>by rw[e] at a;have:=MG.ix_at f a;omega
 show (z==x)=false;simpa using b
theorem aD {σ:St}{H:Hp}{k:LV->Hp->Prop}(h:k [] H):io σ H k:=h
def Fw (ks:Kn) (e:Str × Str):Prop:=∃kk∈ks,∃x y,bw ks e.1 e.2=some (kk.1,x,y)/\x∈kk.2/\y∈kk.2/\x∈lin ks e.1/\y∈lin ks e.2/\MG.ix kk.2 x<MG.ix kk.2 y
def TsP (us:LS) (ks:Kn) (ts:List (Str × Str)):Prop:=∀e∈ts,e.1∈us/\e.2∈us/\bw ks e.1 e.2≠none
def TsOk (us:LS) (ks:Kn) (ts:List (Str × Str)):Prop:=∀e∈ts,e.1∈us/\e.2∈us/\(bw ks e.1 e.2≠none/\Fw ks e)
theorem nP (e f:Str × Str):PyData.eqv (aG e) (aG f)=decide (e=f):=by
 obtain⟨a,b⟩:=e;obtain⟨c,d⟩:=f;show ((a==c)&&((b==d)&&true))=_;rw[Bool.and_true,Cu];simp only[Co,beq_iff_eq,decide_eq_true_eq,Prod.mk.injEq]
theorem jR (ps:Prs) (x:Str × Str):((ps.map aG).any λe=>PyData.eqv e (aG x))=decide (x∈ps):=by
 rw[List.any_map,Cu,Dg,decide_eq_true_iff]
 constructor
 ·rintro⟨e,a,q⟩;have q:PyData.eqv (aG e) (aG x)=true:=q;rw[nP,decide_eq_true_iff] at q;exact q ▸ a
 ·intro h;exact⟨x,h,by show PyData.eqv (aG x) (aG x)=true;rw[nP];simp⟩
theorem jm {ps:Prs}{x:Str × Str}(h:(if true=true then !((ps.map aG).any λe=>PyData.eqv e (aG x)) else (ps.map aG).any λe=>PyData.eqv e (aG x))=true):x∉ps:=by
 rw[if_pos rfl,jR] at h;simpa using h
theorem qJ {ps:Prs}{x:Str × Str}(h:¬ (if true=true then !((ps.map aG).any λe=>PyData.eqv e (aG x)) else (ps.map aG).any λe=>PyData.eqv e (aG x))=true):x∈ps:=by
 rw[if_pos rfl,jR] at h;simpa using h
theorem kz {ps:List (Str × Str)}{e:Str × Str}(h:ps.Nodup) (n:e∉ps):(ps++[e]).Nodup:=by
 rw[CI];exact⟨h,by simp,λa c b d z=>n (by rw[<- Cb.mp d,<- z];exact c)⟩
theorem TsOk.p {us:LS}{ks:Kn}{ts:List (Str × Str)}(h:TsOk us ks ts):TsP us ks ts:=λe d=>let ⟨a,b,c,_⟩:=h e d;⟨a,b,c⟩
def uM (K:W.Frag):Sp:=λvs H Q _=>∃(p a n un:_) (us:LS) (ks:_) (many:Nat),vs=[.ref p,.ref n,.ref un,.int (many:Int)]/\Pen K H p a/\Rep H (.ref n) (cZ ks)/\Tre us ks/\H un=some (.lst (List.map V.str us))/\un≠p/\(0<many->0<us.length)/\many<=200 /\
 ∀l refs ts H',H' l=some (.lst refs)->RepAll H' refs (ts.map aG)->TsOk us ks ts->ts.Nodup->ts.length<=many->l≠p->PenV H' p a->But p H H'->Q (.ref l) H'
theorem xR {f:Addr}{fd:FuncData}(F:Fun K "_law_kept" "_law_kept" xf f fd) (B:Blt mg) (b:Cal P w K mg base 1 "_law_draw" ["_law_pen_here","_law_most"] (dX K)) (g:Cal P w K mg base 1 "_law_around" ["_law_knots"] ip) (c:Cal P w K mg base 2 "_law_parting" ["_law_around_here","_law_one","_law_other"] eF):FnOk P w K mg base CX0 3 f fd ["_law_pen_here","_law_knots","_law_units_here","_law_many"] (uM K):=by
 refine F.ok1 ["_law_pen_here","_law_knots","_law_units_here","_law_many","_law_found","_law_around_here","_law_k","_law_one","_law_other","_law_told","_law_some"] λnd H Q E G h=>?_;obtain⟨p,a,n,un,I,N,l,rfl,hP,R,T,O,a0,a1,hm,k⟩:=h;have v0:=hP.2;obtain⟨h3,g2⟩:=cG v0;have h0:=T.len;have A:(List.map V.str I).length=I.length:=BA ..;refine⟨_,(aa (pst 4 nd (bt bO))
  (aa (pst 5 nd (pc g G (p1 (pv 1))))
  (aa (aZ PassesOwn.never rfl (cP rfl B.range (p1 (pv 3))) (az (i:=6) nd rfl (Or.inl rfl)) (aa (pst 7 nd (px K G (pv 2) (pc b G (p2 (pv 0) (aQ K B (p1 (pv 2)))))))
  (aa (pst 8 nd (px K G (pv 2) (pc b G (p2 (pv 0) (aQ K B (p1 (pv 2)))))))
  (aa (pst 9 nd (pc c G (au (pv 5) (p2 (pv 7) (pv 8)))))
  (ae (aJ (aj fX (pv 9) dY (av _)) (aa (pst 10 nd (px K G (lH K rfl G.units B (p1 (pv 1))) (px K G (pv 9) ac)))
  (aa (aJ (aj eZ (mG (pv 10) (p1 (px K G (pv 9) ac))) (mG (pv 10) (p1 (px K G (pv 9) ac))) (av _)) (ae (Ao (i:=7) (j:=8) rfl nd rfl rfl (by decide) rfl rfl (p2 (pv 8) (pv 7)) rfl)) aF)
  (ae (aJ (aj (cO K G.units) (be (p2 (pv 7) (pv 8))) (pv 4) (by with_unfolding_all rfl)) (ae (bh (dj K (pv 4) (p1 (be (p2 (pv 7) (pv 8))))))) aF)))) aF))))))
  (ae (ai (pv 4)))))),?_⟩
 refine⟨(szl 0),λlf a2=>?_⟩;have a9:lf≠p:=Ne.symm (v0.ne a2);refine nw a2 λH1 s1 e1=>?_;refine⟨_,rfl,n,I,N,rfl,R.same s1,T,λd c1 H2 s2 g8 hd ar=>?_⟩;have d6:=s1.trans s2;have v2:=br d6 v0;obtain⟨h4,g6⟩:=cG v2;have e6:d≠p:=bK hd g6 (by intro z;cases z);have f3:d≠lf:=bK hd (s2 _ _ e1) (by intro z;cases z);have h5:H d=none:=dE s1 g8;refine⟨_,rfl,_,rfl,by omega,by omega,?_⟩;rw[show ((l:Nat):Int).toNat=l from rfl]
 let c3:Nat->St->Hp->Prop:=λi σ H'=>∃(o6 o7 o8 o9 a3:Option V) (fr:LV) (L:List (Str × Str)),σ=[some (.ref p),some (.ref n),some (.ref un),some (.int (l:Int)),some (.ref lf),some (.ref d),o6,o7,o8,o9,a3]/\H' lf=some (.lst fr)/\RepAll H' fr (L.map aG)/\TsOk I N L/\L.Nodup/\L.length<=i/\H' d=some (.dK c1)/\PenV H' p a/\But p H H'
 refine fB (R:=Q) c3 ?_ ?_ ?_
 ·exact⟨none,none,none,none,none,[],[],rfl,s2 _ _ e1,.nil,(λe he=>by cases he),CC,BB _,hd,v2,But.of_same d6⟩
 ·rintro _ i σ H3 hi ⟨o6,o7,o8,o9,a3,fr,L,rfl,X,W,r,M,c5,a4,v3,b3⟩;have hi:i<l:=hi;have a1:=a1 (by omega);obtain⟨h1,f8⟩:=cG v3;refine⟨_,rfl,_,rfl,_,rfl,_,_,rfl,Or.inl ⟨_,.of (b3 un _ a0 O),rfl⟩,p,a,_,rfl,hP.but b3 v3,by rw[A];omega,by rw[A];omega,λr4 H4 f7 g9 v4 e4=>?_⟩;have c8:=But.of_eq e4;have b4:=b3.trans c8;obtain⟨j1,rfl⟩:=Cc f7;rw[A] at g9;have c4:j1<I.length:=by omega
  obtain⟨h7,h6⟩:=cG v4;refine .lst (.of (b4 un _ a0 O)) (gL c4) ⟨_,rfl,_,rfl,_,rfl,_,_,rfl,Or.inl ⟨_,.of (b4 un _ a0 O),rfl⟩,p,a,_,rfl,hP.but b4 v4,by rw[A];omega,by rw[A];omega,λr5 H5 f1 g3 v5 e5=>?_⟩;have c7:=But.of_eq e5;have b0:=c8.trans c7;have b5:=b4.trans c7;obtain⟨j2,rfl⟩:=Cc f1;rw[A] at g3;have d9:j2<I.length:=by omega
  have hu:=ij c4;have hv:=ij d9;refine .lst (.of (b5 un _ a0 O)) (gL d9) ?_;generalize I.getD j1 ""=u at hu ⊢;generalize I.getD j2 ""=v at hv ⊢;have a5:=b0 d _ e6 a4;have c0:=b0 lf _ a9 X;have b2:=aO (aL f8 b0) W;refine⟨_,rfl,_,rfl,_,rfl,d,c1,I,N,u,v,rfl,a5,ar,T,hu,hv,λx H6 s6 px=>?_⟩;have v6:=br s6 v5;have b6:=b5.trans (But.of_same (p:=p) s6);have d2:=s6 _ _ a5;have c6:=s6 _ _ c0;have d1:=b2.same s6;clear a5 c0 b2 a4 X W;refine⟨_,rfl,.non ⟨_,rfl,?_⟩⟩;cases hpo:bw N u v with
  | none =>
   rw[hpo] at px;cases px;exact bM ⟨_,_,_,_,_,fr,L,rfl,c6,d1,r,M,by omega,d2,v6,b6⟩
  | some t3 =>
   obtain⟨kq,x1,y1⟩:=t3;rw[hpo] at px;obtain⟨t,rfl,ht⟩:=px;obtain⟨c2,g7,e0,e8,g4⟩:=T.part hu hv hpo;obtain⟨_,_,lx,ly,_⟩:=jP (T.lin_chn u (.inr hu)) (T.lin_chn v (.inr hv)) hpo;refine dm ?_;obtain⟨C,y,s⟩:=BE.mp (T.par_in e0).2;rw[c2] at s;have g5:(aX N x1,C.2)=C:=by rw[c2,<- s]
   have e3:(aX N y1,C.2)=C:=by rw[g7,<- s]
   have cx:=T.kid e0 (by rw[g5];exact y);have cy:=T.kid e8 (by rw[e3];exact y);refine⟨_,rfl,?_⟩;refine aD (iF (eE g2 b6 R) T λD dk hD f5=>?_);obtain⟨la,d7,g0⟩:=f5 C y;rw[s] at d7;have s7:=Same.new (o:=.dK dk) hD;have v7:=br s7 v6;have b7:=b6.trans (But.of_same (p:=p) s7);have Y:=s7 _ _ ht;have m:=s7 _ _ g0;refine⟨_,rfl,.tup (.of Y) rfl (.dic (.inl ⟨dk,.inr kq,.inl af,rfl,d7.symm⟩) ?_)⟩;have cn:=bQ T y;have a7:=s7 _ _ c6;have Z:=d1.same s7;have d4:=s7 _ _ d2;generalize upd H6 D (.dK dk)=H7 at s7 v7 b7 Y m a7 Z d4 ⊢;apply gi (J:=λσ HZ=>∃(U y2:Str),σ=[some (.ref p),some (.ref n),some (.ref un),some (.int (l:Int)),some (.ref lf),some (.ref d),some (.int (0+(i:Nat):Int)),some (.str U),some (.str y2),some (.ref t),some (.ref la)]/\U∈I/\y2∈I/\(bw N U y2≠none/\Fw N (U,y2))/\HZ=H7)
   ·intro rest;refine⟨_,rfl,⟨la,_,rfl,m⟩,_,rfl,.tup (.of Y) rfl (aD (pS m cn cx ⟨_,rfl,⟨la,_,rfl,m⟩,_,rfl,.tup (.of Y) rfl (aD (pS m cn cy ⟨_,_,rfl,rfl,_,rfl,?_⟩))⟩))⟩;refine aA (λd3=>?_) (λd5=>?_)
    ·have d3:((MG.ix C.2 y1:Nat):Int)<((MG.ix C.2 x1:Nat):Int):=BX d3;have d8:bw N v u=some (kq,y1,x1):=by unfold bw;rw[oE];unfold bw at hpo;rw[hpo];rfl
     refine⟨_,rfl,_,rfl,_,_,rfl,?_⟩;exact rest _ _ ⟨v,u,rfl,hv,hu,⟨(by rw[d8];intro z;cases z),C,y,y1,x1,by rw[s];exact d8,cy,cx,ly,lx,by omega⟩,rfl⟩
    ·have d5:¬ ((MG.ix C.2 y1:Nat):Int)<((MG.ix C.2 x1:Nat):Int):=λz=>d5 (BI z);have h2:MG.ix C.2 x1≠MG.ix C.2 y1:=λz=>g4 (MG.ix_inj cx cy z);exact rest _ _ ⟨u,v,rfl,hu,hv,⟨(by rw[hpo];intro z;cases z),C,y,x1,y1,by rw[s];exact hpo,cx,cy,lx,ly,by omega⟩,rfl⟩
   ·rintro σ HZ ⟨U, y2, rfl, d0, e2, g1, rfl⟩;have f4:∀e∈L,Nm e.1/\Nm e.2:=λe he=>⟨T.nm _ (r e he).1,T.nm _ (r e he).2.1⟩
    have c9:=Z.len;rw[BA] at c9;refine⟨_,rfl,_,rfl,(szl 2),λtq f6=>?_⟩;have s8:=Same.new (o:=.tup [V.str U,V.str y2]) f6;refine⟨_,rfl,.tr (d:=aG (U,y2)) (s8 _ _ a7) (Z.same s8) (cg af) (cV f4) (eg ⟨T.nm _ d0,T.nm _ e2⟩) (by show 1<=16;decide) ⟨_,rfl,?_⟩⟩;have v8:=br s8 v7;have b8:=b7.trans (But.of_same (p:=p) s8);have S:=s8 _ _ a7;have b1:=Z.same s8;have a6:=s8 _ _ d4;generalize upd HZ tq (.tup [V.str U,V.str y2])=H8 at v8 b8 S b1 a6 ⊢;refine aA (λf2=>?_) (λ_=>?_)
    ·refine⟨_,rfl,.inl ⟨rfl,_,.of S⟩,_,rfl,_,rfl,(szl 2),λt2 e7=>?_⟩;refine nw e7 λH9 s9 e9=>?_;have v9:=br s9 v8;have b9:=b8.trans (But.of_same (p:=p) s9);have a8:=s9 _ _ S;have f9:=b1.same s9;have f0:=s9 _ _ a6;refine⟨lf,_,_,rfl,rfl,a8,ap (by omega),?_⟩;refine⟨_,_,_,_,_,fr++[.ref t2],L++[(U,y2)],rfl,af,?_,λe he=>?_,kz M (jm f2),by rw[BJ];show _+1<=_;omega,by rw[ah f3];exact f0,v9.upd (Ne.symm a9),b9.at a2⟩
     ·rw[BO];exact RepAll.append (aO (aL a8 But.upd) f9) (.cons (aL a8 But.upd (cg e9)) .nil)
     ·rcases BR.mp he with q | q
      ·exact r e q
      ·rw[Cb.mp q];exact⟨d0,e2,g1⟩
    ·exact⟨_,_,_,_,_,fr,L,rfl,S,b1,r,M,by omega,a6,v8,b8⟩
 ·rintro σ H3 ⟨o6,o7,o8,o9,a3,fr,L,rfl,X,W,r,M,c5,a4,v3,b3⟩;exact⟨_,rfl,k lf fr L H3 X W r M c5 a9 v3 b3⟩
def gH (us:LS) (ps:List (Str × Str)):Prop:=∀e∈ps,e.1∈us/\e.2∈us
def qd:Sp:=λvs H Q _=>∃(q us ks:_) (ts ws wn:List (Str × Str)) (knot c:_),vs=[.ref q,.str knot]/\Rep H (.ref q) (bx ks ts ws wn)/\Tre us ks/\TsP us ks ts/\WnF us ks wn/\(knot,c)∈ks/\ts.length<=200/\wn.length<=122 /\
 ∀(l:Addr) (refs:LV) (H':Hp),Same H H'->H l=none->H' l=some (.lst refs)->RepAll H' refs ((cH ks ts wn knot c).map aG)->(cH ks ts wn knot c).length<=100000->gH us (cH ks ts wn knot c)->Q (.ref l) H'
structure Fnd (H H':Hp) (lf:Addr) (us:LS) (fr:LV) (ps:List (Str × Str)) (n:Nat):Prop where
 f:H' lf=some (.lst fr)
 r:RepAll H' fr (ps.map aG)
 i:gH us ps
 l:ps.length<=n
 s:Same H H'
theorem Fnd.more {H H' H2:Hp}{z:Addr}{us:LS}{fr:LV}{ps:List (Str × Str)}{n m:Nat}(h:Fnd H H' z us fr ps n) (s:Same H' H2) (a:n<=m):Fnd H H2 z us fr ps m:=⟨s _ _ h.f,h.r.same s,h.i,BP h.l a,h.s.trans s⟩
theorem Fnd.app {H H':Hp}{z t:Addr}{us:LS}{fr:LV}{ps:List (Str × Str)}{n:Nat}{x y:Str}(h:Fnd H H' z us fr ps n) (c:H' t=some (.tup [.str x,.str y])) (d:x∈us) (a:y∈us) (f:H z=none):Fnd H (upd H' z (.lst (fr++[.ref t]))) z us (fr++[.ref t]) (ps++[(x,y)]) (n+1):=by
 refine⟨af,?_,λe b=>?_,by rw[BJ];have:=h.l;show _+1<=_;omega,bq h.s f⟩
 ·rw[BO];exact RepAll.append (aO (aL h.f But.upd) h.r) (.cons (aL h.f But.upd (cg c)) .nil)
 ·rcases BR.mp b with q | q
  ·exact h.i e q
  ·rw[Cb.mp q];exact⟨d,a⟩
theorem Fnd.len {H H':Hp}{z:Addr}{us:LS}{fr:LV}{ps:List (Str × Str)}{n:Nat}(h:Fnd H H' z us fr ps n):fr.length<=n:=by
 have:=h.r.len;rw[BA] at this;have:=h.l;omega
abbrev wds:LS:=["first","last"]
theorem yY {i:Nat}{x:V}(h:[V.str "first",V.str "last"][i]? = some x):∃z:Str,x=.str z/\wds[i]? = some z:=by
 have e:[V.str "first",V.str "last"]=List.map V.str wds:=rfl;rw[e] at h;obtain⟨z,b,a⟩:=bu h;exact⟨z,a.symm,b⟩
abbrev wW (c:LS) (wn:Prs) (w:Str):Prs:=(wL c wn w).flatMap (bY (decide (w="last")) c)
theorem wz {f:Addr}{fd:FuncData}(F:Fun K "_law_edges" "_law_edges" nF f fd) (B:Blt mg) (M:Cal P w K mg base 1 "_law_around" ["_law_knots"] ip) (I:Cal P w K mg base 2 "_law_parting" ["_law_around_here", "_law_one", "_law_other"] eF):FnOk P w K mg base CX0 3 f fd ["_law_house_here", "_law_knot"] qd := by
 refine F.ok1 ["_law_house_here","_law_knot","_law_some","_law_around_here","_law_found","_law_one","_law_other","_law_told","_law_word","_law_unit","_law_pair"] λnd H Q E hr h=>?_;obtain⟨q,us,ks,ts,ws,wn,g,c0,rfl,R,T,h0,WX,a5,tl,wl,k⟩:=h;have g0:=WX.ok;refine⟨_,(aa (cv (i:=2) nd rfl (Or.inr rfl) (px K hr (lH K rfl hr.units B (p1 (px K hr (pv 0) ac))) (pv 1)))
  (aa (pst 3 nd (pc M hr (p1 (px K hr (pv 0) ac))))
  (aa (pst 4 nd (bt bO))
  (aa (aZ PassesOwn.never rfl (aP K (px K hr (pv 0) ac)) (cj (n:=2) K rfl (aM (az (i:=5) nd rfl (Or.inl rfl)) (aM (az (i:=6) nd rfl (Or.inl rfl)) cm))) (aa (pst 7 nd (pc I hr (au (pv 3) (p2 (pv 5) (pv 6)))))
  (ae (aJ (PW.pt (cR (aj (bc hr.units) (px K hr (pv 7) ac) (pv 1) (av _)) (cA (aj (cO K hr.units) (bG oy (pv 7) (bE ac) cp) (pv 4) (by with_unfolding_all rfl))))) (ae (bh (dj K (pv 4) (p1 (bG oy (pv 7) (bE ac) cp))))) aF))))
  (aa (aZ PassesOwn.never rfl (aP K (be (p2 aw aw))) (az (i:=8) nd rfl (Or.inr rfl)) (ae (aZ PassesOwn.never rfl (bg K (lK (ak nF) ["_law_house_here","_law_knot","_law_some","_law_around_here","_law_found","_law_one","_law_other","_law_told","_law_word","_law_unit","_law_pair"] ["_law_sort","_law_unit"] [8,2] ["_law_sort","_law_unit","_law_word","_law_some"] rfl (aP K (px K hr (pv 0) ac)) (λ_ _ _ _ _=>(cj (n:=2) K rfl (aM (az (i:=0) (show (["_law_sort","_law_unit","_law_word","_law_some"]:LS).Nodup by decide) rfl (Or.inl rfl)) (aM (az (i:=1) (show (["_law_sort","_law_unit","_law_word","_law_some"]:LS).Nodup by decide) rfl (Or.inl rfl)) cm)))) (λ_ _ _ _ _=>(dP (PW.pt (cR (aj (bc hr.units) (pv 0) (pv 2) (av _)) (cA (aj (gx K hr.units) (pv 1) (pv 3) (by with_unfolding_all rfl))))))) (λ_ _ _ _ _=>(pv 1)))) (az (i:=9) nd rfl (Or.inl rfl)) (ae (aZ PassesOwn.never rfl (aP K (pv 2)) (az (i:=6) nd rfl (Or.inl rfl)) (aa (pst 10 nd (px K hr (bt (p2 (be (p2 (pv 9) (pv 6))) (be (p2 (pv 6) (pv 9))))) (xo B (p1 (bS (bc hr.units) (pv 8) aw (av _))))))
  (ae (aJ (PW.pt (cR (aj (cW hr.units) (pv 6) (pv 9) (av _)) (cA (aj (cO K hr.units) (pv 10) (pv 4) (by with_unfolding_all rfl))))) (ae (bh (dj K (pv 4) (p1 (pv 10))))) aF))))))))
  (ae (ai (pv 4)))))))),?_⟩
 have c9:∀ {L:List (Str × Str)},gH us L->∀e∈L,Nm e.1/\Nm e.2:=λh e he=>⟨T.nm _ (h e he).1,T.nm _ (h e he).2⟩
 have sz:200000<sizeLine:=by decide
 have i1:=T.len;obtain⟨q',a,b,c,d4,e0,hq,R1,R2,_,R4⟩:=ci R;cases e0;obtain⟨U,c7⟩:∃U:Str × LS,U=(g,c0):=⟨_,rfl⟩
 have g1:U.1=g:=by rw[c7]
 have h5:c0=U.2:=by rw[c7]
 rw[<- c7] at a5;rw[h5] at k;refine⟨_,rfl,.tup (.of hq) rfl (aD (iF R1 T λD dk hD g6=>?_))⟩;obtain⟨la,f6,c5⟩:=g6 U a5;rw[g1] at f6;have s1:=Same.new (o:=.dK dk) hD;refine⟨_,rfl,.dic (.inl ⟨dk,.inr g,.inl af,rfl,f6.symm⟩) ?_⟩;generalize upd H D (.dK dk)=H1 at s1 ⊢;refine⟨_,rfl,.tup (.of (s1 _ _ hq)) rfl ⟨a,us,ks,rfl,R1.same s1,T,λd c8 H2 s2 i7 hd ar=>?_⟩⟩;have f4:=s1.trans s2;refine⟨(szl 0),λlf b7=>?_⟩;have s3:=Same.new (o:=.lst []) b7;have b0:=f4.trans s3;have c6:H lf=none:=dE f4 b7;have g4:d≠lf:=ao hd b7;have f5:Fnd H (upd H2 lf (.lst [])) lf us [] [] 0:=⟨af,.nil,(λe he=>by cases he),BB _,b0⟩
 have d2:=s3 _ _ hd;generalize upd H2 lf (.lst [])=H3 at b0 f5 d2 ⊢;obtain⟨b',rb,e0,hb,d3⟩:=bo R2;cases e0;obtain⟨i5,g3,e0,d6,e9⟩:=bo R4;cases e0;have a7:=d3.len;have a6:=e9.len;rw[BA] at a7 a6;refine⟨_,rfl,.tup (.of (b0 _ _ hq)) rfl ⟨b,rfl,⟨_,.of (b0 _ _ hb)⟩,?_⟩⟩
 let d1:Nat->St->Hp->Prop:=λi X J=>∃(o5 W o7:Option V) (A:LV) (L:List (Str × Str)),X=[some (.ref q),some (.str g),some (.ref la),some (.ref d),some (.ref lf),o5,W,o7,none,none,none]/\Fnd H J lf us A L i/\J d=some (.dK c8)/\L=ba [] ((ts.take i).filterMap (cM ks g))
 refine bV (R:=Q) (xs:=rb) d1 ?_ ?_ ?_ ?_
 ·exact⟨none,none,none,[],[],rfl,f5,d2,rfl⟩
 ·rintro i X J hi ⟨o5,W,o7,A,L,rfl,l,_⟩;exact .of (l.s _ _ hb)
 ·rintro _ i x X H4 hx ⟨o5, W, o7, A, L, rfl, l, b4, Z⟩;obtain⟨e,ta,he,rfl,c1⟩:=bP d3 hx;have i3:=(BF.mp he).1;obtain⟨hu,hv,h6⟩:=h0 e (BG he);refine⟨ta,_,rfl,.of (l.s _ _ c1),rfl,_,_,rfl,_,_,rfl,rfl,?_⟩;refine⟨_,rfl,_,rfl,_,rfl,d,c8,us,ks,e.1,e.2,rfl,b4,ar,T,hu,hv,λy H5 s5 px=>?_⟩;cases hpo:bw ks e.1 e.2 with
  | none=>exact absurd hpo h6
  | some t3 =>
   obtain⟨kq,x1,y1⟩:=t3;rw[hpo] at px;obtain⟨t,rfl,ht⟩:=px;obtain⟨_,_,f7,d0,_⟩:=T.part hu hv hpo;have e7:=l.more s5 (BB _);have d7:=s5 _ _ b4;have eb:cM ks g e=if kq=g then some (x1,y1) else none:=by unfold cM;rw[hpo]
   have f2:(ts.take (i+1)).filterMap (cM ks g)=(ts.take i).filterMap (cM ks g)++(cM ks g e).toList:=by
    rw[BW,he,List.filterMap_append];cases h:cM ks g e <;> simp[h]
   have a9:ba [] ((ts.take (i+1)).filterMap (cM ks g))=ba L (if kq=g then some (x1,y1) else none:Option (Str × Str)).toList:=by rw[f2,eb,cX,<- Z]
   clear f2 eb;have b5:cD [V.str kq,V.str x1,V.str y1] (some 1) none=[V.str x1,V.str y1]:=rfl;refine⟨_,rfl,.tup (.of ht) rfl ⟨_,rfl,.sc rfl ⟨_,rfl,?_⟩⟩⟩;refine aA (λhq=>?_) (λhq=>?_)
   ·have hq:kq=g:=Classical.byContradiction λz=>by rw[if_neg (by decide),BL (λw=>z (V.str.inj w))] at hq;cases hq
    rw[if_pos hq] at a9;refine⟨_,rfl,_,rfl,t,_,rfl,.of ht,(λz=>absurd (show HT.sIx 3 0 (some 1)=0 from z.1) (by decide)),λt2 g2=>?_⟩;rw[b5];have s6:=Same.new (o:=.tup [V.str x1,V.str y1]) g2;have Y:=e7.more s6 (BB _);have d9:=Y.len;refine⟨_,rfl,.tr (d:=aG (x1,y1)) Y.f Y.r (cg af) (cV (c9 Y.i)) (eg ⟨T.nm _ f7,T.nm _ d0⟩) (by show 1<=16;decide) ⟨_,rfl,?_⟩⟩;have e6:=s6 _ _ ht;have c4:=s6 _ _ d7;generalize upd H5 t2 (.tup [V.str x1,V.str y1])=H6 at Y e6 c4 ⊢;refine aA (λr=>?_) (λr=>?_)
    ·have r:=jm r;refine⟨_,rfl,.inl ⟨rfl,_,.of Y.f⟩,_,rfl,_,rfl,t,_,rfl,.of e6,(λz=>absurd (show HT.sIx 3 0 (some 1)=0 from z.1) (by decide)),λt7 g8=>?_⟩;rw[b5];have s7:=Same.new (o:=.tup [V.str x1,V.str y1]) g8;have d8:=Y.more s7 (BB _);refine aD ⟨lf,_,_,rfl,rfl,d8.f,by omega,?_⟩;exact⟨_,_,_,_,_,rfl,d8.app af f7 d0 c6,by rw[ah g4];exact s7 _ _ c4,by rw[a9];exact(if_neg r).symm⟩
    ·have r:=qJ r;exact⟨_,_,_,A,L,rfl,Y.more (Same.refl _) (by omega),c4,by rw[a9];exact(if_pos r).symm⟩
   ·have hq:kq≠g:=λz=>hq (by rw[if_neg (by decide),z,BI rfl]);rw[if_neg hq] at a9;exact bM ⟨_,_,_,A,L,rfl,e7.more (Same.refl _) (by omega),d7,a9.symm⟩
 ·rintro X H4 ⟨o5, W, o7, A, L, rfl, l, _, Z⟩;rw[a7,BS (BB _)] at Z;refine⟨(szl 2),λtw h7=>?_⟩;refine nw h7 λH5 s5 p=>?_;have l:=l.more s5 (BB _);refine⟨tw,rfl,⟨_,.of p⟩,?_⟩;have d5:∀u∈U.2,u∈us:=λu hu=>T.isIn a5 hu;have i0:U.2.length<=60:=by
   have:=dy (bQ T a5) d5;omega
  let f9:Nat->St->Hp->Prop:=λi X J=>∃(o5 W o7 o8 o9 s:Option V) (A:LV) (L:List (Str × Str)),X=[some (.ref q),some (.str g),some (.ref la),some (.ref d),some (.ref lf),o5,W,o7,o8,o9,s]/\Fnd H J lf us A L (200+i * 7320)/\L=ba (ba [] (ts.filterMap (cM ks g))) ((wds.take i).flatMap (wW U.2 wn))/\J tw=some (.tup [V.str "first",V.str "last"])
  refine bV (R:=Q) (xs:=[V.str "first",V.str "last"]) f9 ?_ ?_ ?_ ?_
  ·exact⟨_,_,_,_,_,_,A,L,rfl,l.more (Same.refl _) (by omega),Z,p⟩
  ·rintro i X J hi ⟨o5,W,o7,o8,o9,s,A,L,rfl,_,_,p⟩;exact .of p
  ·rintro _ i x X H6 hx ⟨o5, W, o7, o8, o9, s, A, L, rfl, l, Z, p⟩;have i2:i<2:=(BF.mp hx).1;obtain⟨N,rfl,h4⟩:=yY hx;have f0:=l.f;refine⟨_,rfl,.tup (.of (l.s _ _ hq)) rfl ⟨d4,rfl,⟨_,.of (l.s _ _ d6)⟩,?_⟩⟩;refine dH g3 (λD2 j b1 b2 J=>∃(o0 o1:Option V) (zs:LS),b2=[o0,o1,some (.str N),some (.ref la)]/\b1=List.map V.str zs/\zs=wL U.2 (wn.take j) N/\zs.length<=j/\Same H6 J/\H6 D2=none) λD2 f3=>⟨?_,?_,?_,?_⟩
   ·exact⟨none,none,[],rfl,rfl,rfl,BB _,Same.new f3,f3⟩
   ·rintro j b1 b2 J _ ⟨o0,o1,zs,rfl,_,_,_,sm,_⟩ _;exact .of (sm _ _ (l.s _ _ d6))
   ·rintro j b1 b2 J v hv ⟨o0, o1, zs, rfl, rfl, a8, zl, sm, S⟩ O;obtain⟨e,ta,he,rfl,c1⟩:=bP e9 hv;have g5:=(BF.mp he).1;have sH:=l.s.trans sm;refine⟨ta,_,rfl,.of (sH _ _ c1),rfl,_,_,rfl,_,_,rfl,rfl,?_⟩;have a4:wL U.2 (wn.take (j+1)) N=wL U.2 (wn.take j) N++(if (decide (e.1=N)&&decide (e.2∈U.2))=true then [e.2] else []):=by
     unfold wL;rw[BW,he,CA,BO];congr 1;show List.map _ (List.filter _ [e])=_;rw[Cv,Dm]
     split <;> rfl
    refine⟨_,rfl,_,rfl,.sc rfl ⟨_,rfl,?_⟩⟩;refine aA (λhw=>?_) (λhw=>bM ?_)
    ·have hw:e.1=N:=Classical.byContradiction λz=>by rw[if_neg (by decide),BL (λw=>z (V.str.inj w))] at hw;cases hw
     rw[BI hw,Dx] at a4;refine⟨_,rfl,_,rfl,.seq (.inr (.of (sH _ _ c5))) rfl (fj _) ⟨_,rfl,?_⟩⟩;rw[if_neg (show ¬ false=true by decide),hH];refine aA (λhc=>?_) (λhc=>?_)
     ·rw[if_pos hc] at a4;exact⟨_,rfl,O,by rw[BA];exact ap (by omega),_,_,zs++[e.2],rfl,by rw[BO];rfl,by rw[a4,<- a8],by rw[BJ];show _+1<=_;omega,bq sm S,S⟩
     ·rw[if_neg hc,Cm] at a4;exact⟨O,_,_,zs,rfl,rfl,by rw[a4];exact a8,by omega,sm,S⟩
    ·have hw:e.1≠N:=λz=>hw (by rw[if_neg (by decide),z,BI rfl]);rw[BL hw,Bool.false_and,if_neg (by decide),Cm] at a4;exact⟨O,_,_,zs,rfl,rfl,by rw[a4];exact a8,by omega,sm,S⟩
   ·rintro b1 b2 H7 ⟨o0, o1, zs, rfl, rfl, c3, zl, sm, S⟩ O;rw[a6,BS (BB _)] at c3;have a8:∀z∈zs,z∈us:=λz hz=>by
     rw[c3] at hz;unfold wL at hz;obtain⟨e,he,rfl⟩:=BE.mp hz;exact(g0 e (Cj.mp he).1).2
    have l:=l.more sm (BB _);have p:=sm _ _ p;have g7:D2≠lf:=Ne.symm (ao f0 S);refine⟨D2,rfl,⟨_,.of O⟩,?_⟩;have i6:zs.length<=122:=by omega
    let e8:Nat->St->Hp->Prop:=λj X J=>∃(W o9 s:Option V) (A:LV) (a3:List (Str × Str)),X=[some (.ref q),some (.str g),some (.ref la),some (.ref d),some (.ref lf),o5,W,o7,some (.str N),o9,s]/\Fnd H J lf us A a3 (200+i * 7320+j * 60)/\a3=ba L ((zs.take j).flatMap (bY (decide (N="last")) U.2))/\J tw=some (.tup [V.str "first",V.str "last"])/\J D2=some (.lst (List.map V.str zs))
    refine dD (R:=Q) (xs:=List.map V.str zs) e8 ?_ ?_ ?_ ?_
    ·exact⟨_,_,_,A,L,rfl,l.more (Same.refl _) (by omega),rfl,p,O⟩
    ·rintro j X J hj ⟨W,o9,s,A,a3,rfl,_,_,_,C⟩;exact .of C
    ·rintro _ j x X H8 hx ⟨W, o9, s, A, a3, rfl, l, a2, p, C⟩;obtain⟨un,b8,rfl⟩:=bu hx;have g5:=(BF.mp b8).1;have b3:=a8 un (BG b8);refine⟨_,rfl,la,rfl,⟨_,.of (l.s _ _ c5)⟩,?_⟩
     let f1:Nat->St->Hp->Prop:=λm X J=>∃(W s:Option V) (A:LV) (a0:List (Str × Str)),X=[some (.ref q),some (.str g),some (.ref la),some (.ref d),some (.ref lf),o5,W,o7,some (.str N),some (.str un),s]/\Fnd H J lf us A a0 (200+i * 7320+j * 60+m)/\a0=ba a3 (bY (decide (N="last")) (U.2.take m) un)/\J tw=some (.tup [V.str "first",V.str "last"])/\J D2=some (.lst (List.map V.str zs))
     refine bV (R:=Q) (xs:=U.2.map V.str) f1 ?_ ?_ ?_ ?_
     ·exact⟨_,_,A,a3,rfl,l,rfl,p,C⟩
     ·rintro m X J hm ⟨W,s,A,a0,rfl,l,_⟩;exact .of (l.s _ _ c5)
     ·rintro _ m y X H9 hy ⟨W, s, A, a0, rfl, l, G, p, C⟩;obtain⟨ot,c2,rfl⟩:=bu hy;have i4:=(BF.mp c2).1;have b6:=d5 ot (BG c2);refine⟨_,rfl,_,rfl,(szl 2),λt1 h1=>?_⟩;refine nw h1 λHA sA e1=>?_;refine⟨_,rfl,_,rfl,(szl 2),λt2 h2=>?_⟩;refine nw h2 λHB sB e2=>?_;have e1:=sB _ _ e1;have b9:=sA.trans sB;refine⟨(szl 2),λl3 h3=>?_⟩;refine nw h3 λHC sC e3=>?_;have e1:=sC _ _ e1;have e2:=sC _ _ e2;have l:=l.more (b9.trans sC) (BB _);have p:=(b9.trans sC) _ _ p;have C:=(b9.trans sC) _ _ C;refine⟨_,rfl,.sc rfl ⟨_,rfl,.bl ?_⟩⟩;obtain⟨tp,x2,y2,h9,e4,e5,f8,h8⟩:∃tp x2 y2,atI [V.ref t1,V.ref t2] (if (if false=true then !decide (V.str N=V.str "last") else decide (V.str N=V.str "last"))=true then 1 else 0)=some (.ref tp)/\HC tp=some (.tup [V.str x2,V.str y2])/\x2∈us/\y2∈us/\(x2,y2)=(if (decide (N="last"))=true then (ot,un) else (un,ot)):=by
       have g9:(if false=true then !decide (V.str N=V.str "last") else decide (V.str N=V.str "last"))=decide (N="last"):=by
        rw[if_neg (by decide),Cu,decide_eq_true_iff,decide_eq_true_iff];exact⟨λz=>V.str.inj z,λz=>by rw[z]⟩
       rw[g9];by_cases hb:decide (N="last")=true
       ·rw[if_pos hb,if_pos hb];exact⟨t2,ot,un,rfl,e2,b6,b3,rfl⟩
       ·rw[if_neg hb,if_neg hb];exact⟨t1,un,ot,rfl,e1,b3,b6,rfl⟩
      refine .lst (.of e3) h9 ?_;have d9:=l.len;have a1:bY (decide (N="last")) (U.2.take (m+1)) un=bY (decide (N="last")) (U.2.take m) un++(if ot=un then [] else [(x2,y2)]):=by
       unfold bY;rw[BW,c2,CA,BO];congr 1;show List.map _ (List.filter _ [ot])=_;rw[Cv,Dm,h8];by_cases hz:ot=un
       ·rw[if_neg (by simpa using hz),if_pos hz];rfl
       ·rw[if_pos (by simpa using hz),if_neg hz];rfl
      refine⟨_,rfl,_,rfl,.sc rfl ⟨_,rfl,?_⟩⟩;refine aA (λhz=>?_) (λhz=>bM ?_)
      ·have hz:ot≠un:=λz=>by rw[if_pos rfl,z,BI rfl] at hz;cases hz
       rw[if_neg hz] at a1;refine⟨_,rfl,_,rfl,.tr (d:=aG (x2,y2)) l.f l.r (cg e4) (cV (c9 l.i)) (eg ⟨T.nm _ e5,T.nm _ f8⟩) (by show 1<=16;decide) ⟨_,rfl,?_⟩⟩;refine aA (λr=>?_) (λr=>?_)
       ·have r:=jm r;refine⟨_,rfl,.inl ⟨rfl,_,.of l.f⟩,_,rfl,aD ⟨lf,_,_,rfl,rfl,l.f,by omega,?_⟩⟩;exact⟨_,_,_,_,rfl,l.app e4 e5 f8 c6,by rw[a1,cX,<- G];exact(if_neg r).symm,by rw[ah (bK p l.f (by intro z;cases z))];exact p,by rw[ah g7];exact C⟩
       ·have r:=qJ r;exact⟨_,_,A,a0,rfl,l.more (Same.refl _) (by omega),by rw[a1,cX,<- G];exact(if_pos r).symm,p,C⟩
      ·have hz:ot=un:=Classical.byContradiction λz=>hz (by rw[if_pos rfl,BL (λw=>z (V.str.inj w))];rfl);rw[if_pos hz,Cm] at a1;exact⟨_,_,A,a0,rfl,l.more (Same.refl _) (by omega),by rw[a1];exact G,p,C⟩
     ·rintro X H9 ⟨W,s,A,a0,rfl,l,G,p,C⟩;rw[BA] at l G;rw[BS (BB _)] at G;refine⟨_,_,_,A,a0,rfl,l.more (Same.refl _) (by omega),?_,p,C⟩;rw[BW,b8,DD,cX,<- a2,G];congr 1;simp
    ·rintro X H8 ⟨W,o9,s,A,a3,rfl,l,a2,p,C⟩;rw[BA] at l a2;rw[BS (BB _)] at a2;refine⟨_,_,_,_,_,_,A,a3,rfl,l.more (Same.refl _) (by omega),?_,p⟩;rw[BW,h4,DD,cX,<- Z,a2,c3];congr 1;simp
  ·rintro X J ⟨o5,W,o7,o8,o9,s,A,L,rfl,l,Z,_⟩;have cn:=bQ T a5;have ev:L=cH ks ts wn g U.2:=by
    rw[Z];unfold cH;rw[cX,pW T WX a5 cn,pW T WX a5 cn];show ba _ (wW U.2 wn "first"++(wW U.2 wn "last"++[]))=_;rw[Cm]
    rfl
   have h2:=l.l;have h3:([V.str "first",V.str "last"]:LV).length=2:=rfl;subst ev;exact⟨_,rfl,k lf A J l.s c6 l.f l.r (by omega) l.i⟩
def WsR (ks:Kn) (ts wn ws:Prs):Prop:=∀e∈ws,∃k∈ks,∃x y,bw ks e.1 e.2=some (k.1,x,y)/\x∈k.2/\y∈k.2/\MG.Rch (Tie (cH ks ts wn k.1 k.2)) y x
def mf (K:W.Frag):Sp:=λvs H Q _=>∃(p a q un us ks:_) (ts ws wn:List (Str × Str)),vs=[.ref p,.ref q,.ref un]/\Pen K H p a/\Rep H (.ref q) (bx ks ts ws wn)/\Tre us ks/\TsP us ks ts/\WnF us ks wn/\ts.length<=200/\wn.length<=122/\H un=some (.lst (List.map V.str us))/\un≠p /\
 ∀(l:Addr) (refs:LV) (ps:List (Str × Str)) (H':Hp),H' l=some (.lst refs)->RepAll H' refs (ps.map aG)->gH us ps->ps.Nodup->WsR ks ts wn ps->ps.length<=6->l≠p->PenV H' p a->But p H H'->Q (.ref l) H'
theorem rh {f:Addr}{fd:FuncData}(F:Fun K "_law_waiting" "_law_waiting" nI f fd) (B:Blt mg) (c:Cal P w K mg base 1 "_law_draw" ["_law_pen_here", "_law_most"] (dX K)) (m:Cal P w K mg base 1 "_law_around" ["_law_knots"] ip) (l:Cal P w K mg base 2 "_law_parting" ["_law_around_here", "_law_one", "_law_other"] eF) (n:Cal P w K mg base 3 "_law_edges" ["_law_house_here", "_law_knot"] qd) (j:Cal P w K mg base 1 "_law_reached" ["_law_edges_here", "_law_one"] nB) :
    FnOk P w K mg base CX0 4 f fd ["_law_pen_here","_law_house_here","_law_units_here"] (mf K):=by
 refine F.ok1 ["_law_pen_here","_law_house_here","_law_units_here","_law_found","_law_k","_law_pair","_law_told"] λnd H Q E g h=>?_;obtain⟨p,a,q,un,A,ks,ts,ws,wn,rfl,hP,R,T,d9,f5,tl,wl,Y,a0,k⟩:=h;have v0:=hP.2;obtain⟨i8,f0⟩:=cG v0;have d7:=T.len;have I:(List.map V.str A).length=A.length:=BA ..;refine⟨_,(aa (pst 3 nd (bt bO))
  (aa (aZ PassesOwn.never rfl (cP rfl B.range (p1 (mX rfl B (p2 (aQ K B (p1 (pv 2))) (pc c g (p2 (pv 0) ac)))))) (az (i:=4) nd rfl (Or.inl rfl)) (aa (pst 5 nd (be (p2 (px K g (pv 2) (pc c g (p2 (pv 0) (aQ K B (p1 (pv 2)))))) (px K g (pv 2) (pc c g (p2 (pv 0) (aQ K B (p1 (pv 2)))))))))
  (aa (aJ (PW.pt (cR (aj eZ (aQ K B (p1 (px K g (pv 1) ac))) ac (av _)) (cA (aj (bc g.units) (pc c g (p2 (pv 0) ac)) ac (av _))))) (ae (pst 5 nd (yX K (px K g (px K g (pv 1) ac) (pc c g (p2 (pv 0) (aQ K B (p1 (px K g (pv 1) ac)))))) (bE (gn fG ac))))) aF)
  (aa (pst 6 nd (pc l g (au (pc m g (p1 (px K g (pv 1) ac))) (p2 (px K g (pv 5) ac) (px K g (pv 5) ac)))))
  (ae (aJ (PW.pt (cR (aj fX (pv 6) dY (av _)) (cA (aj (cO K g.units) (pv 5) (pv 3) (by with_unfolding_all rfl))))) (ae (aJ (aj (gx K g.units) (px K g (pv 6) ac) (pc j g (p2 (pc n g (p2 (pv 1) (px K g (pv 6) ac))) (px K g (pv 6) ac))) (by with_unfolding_all rfl)) (ae (bh (dj K (pv 3) (p1 (pv 5))))) aF)) aF))))))
  (ae (ai (pv 3))))),?_⟩
 refine⟨(szl 0),λC a2=>?_⟩;have a8:C≠p:=Ne.symm (v0.ne a2);have b1:But p H (upd H C (.lst [])):=(But.refl p H).at a2;have v1:PenV (upd H C (.lst [])) p a:=v0.upd (v0.ne a2);have e1:upd H C (.lst []) C=some (.lst []):=af;generalize upd H C (.lst [])=H1 at b1 v1 e1 ⊢;refine⟨_,rfl,_,_,rfl,Or.inl ⟨_,.of (b1 un _ a0 Y),rfl⟩,_,rfl,p,a,6,rfl,hP.but b1 v1,by decide,by decide,λr H2 i4 i7 v2 e2=>⟨_,_,rfl,_,rfl,?_⟩⟩;rw[I];obtain⟨cn,g3,i1⟩:∃cn:Nat,(if r<((A.length:Nat):Int) then r else ((A.length:Nat):Int))=(cn:Int)/\cn<=6/\cn<=A.length:=by
  split
  ·exact⟨r.toNat,by omega,by omega,by omega⟩
  ·exact⟨A.length,rfl,by omega,BB _⟩
 rw[g3];refine⟨by omega,by omega,?_⟩;rw[show ((cn:Nat):Int).toNat=cn from rfl];have f2:=But.of_eq e2;have b2:=b1.trans f2
 let c9:Nat->St->Hp->Prop:=λi σ D=>∃(o4 o5 o6:Option V) (W:LV) (u:List (Str × Str)),σ=[some (.ref p),some (.ref q),some (.ref un),some (.ref C),o4,o5,o6]/\D C=some (.lst W)/\RepAll D W (u.map aG)/\gH A u/\u.Nodup/\WsR ks ts wn u/\u.length<=i/\PenV D p a/\But p H D
 refine fB (R:=Q) c9 ?_ ?_ ?_
 ·exact⟨none,none,none,[],[],rfl,f2 C _ a8 e1,.nil,(λe X=>by cases X),CC,(λe X=>by cases X),BB _,v2,b2⟩
 ·rintro _ i σ H3 hi ⟨o4, o5, o6, W, u, rfl, b8, a3, M, a6, a4, f8, v3, b3⟩;have hi:i<cn:=hi;have h7:0<A.length:=by omega
  obtain⟨i6,g9⟩:=cG v3;have g1:∀e∈u,Nm e.1/\Nm e.2:=λe X=>⟨T.nm _ (M e X).1,T.nm _ (M e X).2⟩
  have d6:=a3.len;rw[BA] at d6;have d2:∀D,But p H3 D->D C=some (.lst W)/\RepAll D W (u.map aG):=λD b=>⟨b C _ a8 b8,aO (aL g9 b) a3⟩
  apply gi (J:=λσ HZ=>∃(t:Addr) (x y:Str),σ=[some (.ref p),some (.ref q),some (.ref un),some (.ref C),some (.int (0+(i:Nat):Int)),some (.ref t),o6]/\x∈A/\y∈A/\HZ t=some (.tup [.str x,.str y])/\PenV HZ p a/\But p H3 HZ)
  ·intro rest;refine⟨_,rfl,_,rfl,_,rfl,_,_,rfl,Or.inl ⟨_,.of (b3 un _ a0 Y),rfl⟩,p,a,_,rfl,hP.but b3 v3,by rw[I];omega,by rw[I];omega,λr4 H4 g7 h6 v4 e4=>?_⟩;have d5:=But.of_eq e4;have b4:=b3.trans d5;obtain⟨j1,rfl⟩:=Cc g7;rw[I] at h6;have d0:j1<A.length:=by omega
   refine .lst (.of (b4 un _ a0 Y)) (gL d0) ⟨_,rfl,_,rfl,_,rfl,_,_,rfl,Or.inl ⟨_,.of (b4 un _ a0 Y),rfl⟩,p,a,_,rfl,hP.but b4 v4,by rw[I];omega,by rw[I];omega,λr5 H5 f9 h4 v5 e5=>?_⟩;have e9:=d5.trans (But.of_eq e5);have b5:=b3.trans e9;obtain⟨j2,rfl⟩:=Cc f9;rw[I] at h4;have f1:j2<A.length:=by omega
   refine .lst (.of (b5 un _ a0 Y)) (gL f1) ⟨(szl 2),λt ht=>?_⟩;refine nw ht λH6 s6 e6=>?_;have v6:=br s6 v5;have N:=e9.trans (But.of_same (p:=p) s6);have hx:=ij d0;have hy:=ij f1;have b6:=b3.trans N;obtain⟨q',a1,g2,c1,d1,e0,Z,R1,R2,_⟩:=ci (iX f0 b6 R);cases e0;obtain⟨i0,rb,e0,c3,d3⟩:=bo R2;cases e0;have b0:=d3.len;rw[BA] at b0;refine⟨_,rfl,.tup (.of Z) rfl (aD ⟨_,_,rfl,Or.inr ⟨_,.of c3,rfl⟩,_,_,rfl,rfl,_,rfl,?_⟩)⟩;refine aA (λh=>?_) (λ_=>bM ?_)
   ·have h:(0:Int)<((rb.length:Nat):Int):=BX h;refine⟨_,rfl,p,a,2,rfl,hP.but b6 v6,by decide,by decide,λr7 H7 i3 i2 v7 e7=>.sc rfl ⟨_,rfl,?_⟩⟩;have U:=But.of_eq e7;have c2:=N.trans U;have b7:=b3.trans c2;obtain⟨i9,S⟩:=cG v6;refine aA (λ_=>?_) (λ_=>?_)
    ·refine⟨_,rfl,.tup (.of (cq S U Z)) rfl ⟨_,rfl,_,rfl,.tup (.of (cq S U Z)) rfl (aD ⟨_,_,rfl,Or.inr ⟨_,.of (cq S U c3),rfl⟩,aD ⟨p,a,_,rfl,hP.but b7 v7,by omega,by omega,λr8 H8 g4 i5 v8 e8=>?_⟩⟩)⟩⟩;obtain⟨j0,j4⟩:=cG v7;have d4:=But.of_eq e8;have e3:=U.trans d4;have g8:=c2.trans d4;obtain⟨j3,rfl⟩:=Cc g4;obtain⟨z,hz⟩:∃z,rb[j3]? = some z:=⟨_,BV (by omega)⟩
     obtain⟨e,te,X,rfl,g6⟩:=bP d3 hz;have d8:=d9 e (BG X);refine .tup (.of (cq S e3 c3)) (bj hz) ⟨_,rfl,_,rfl,te,_,_,rfl,rfl,.of (cq S e3 g6),λt9 h3=>?_⟩;have s9:=Same.new (o:=.tup [V.str e.2,V.str e.1]) h3;dsimp only[cF];exact rest _ _ ⟨t9,e.2,e.1,rfl,d8.2.1,d8.1,af,br s9 v8,g8.trans (But.of_same (p:=p) s9)⟩
    ·exact rest _ _ ⟨t,_,_,rfl,hx,hy,cq S U e6,v7,c2⟩
   ·exact rest _ _ ⟨t,_,_,rfl,hx,hy,e6,v6,N⟩
  ·rintro σ H6 ⟨t, x, y, rfl, hx, hy, a5, v6, N⟩;have b6:=b3.trans N;have R6:=iX f0 b6 R;obtain⟨a9,b9⟩:=d2 H6 N;obtain⟨q',a1,g2,c1,d1,e0,Z,R1,R2,_⟩:=ci R6;cases e0;refine⟨_,rfl,.tup (.of Z) rfl (aD ⟨a1,A,ks,rfl,R1,T,λd f6 H7 s7 j5 hd ar=>?_⟩)⟩;refine⟨_,rfl,.tup (.of (s7 _ _ a5)) rfl ⟨_,rfl,.tup (.of (s7 _ _ a5)) rfl (aD ⟨d,f6,A,ks,x,y,rfl,hd,ar,T,hx,hy,λv H8 s8 px=>?_⟩)⟩⟩;have G:=s7.trans s8;have c0:∀D (o:V),Same H6 D->∃(o4 o5 o6:Option V) (W:LV) (u:List (Str × Str)),[some (V.ref p),some (V.ref q),some (V.ref un),some (V.ref C),some (.int (0+(i:Nat):Int)),some (.ref t),some o]=[some (V.ref p),some (.ref q),some (.ref un),some (.ref C),o4,o5,o6]/\D C=some (.lst W)/\RepAll D W (u.map aG)/\gH A u/\u.Nodup/\WsR ks ts wn u/\u.length<=i+1/\PenV D p a/\But p H D:=λD o s =>
    ⟨_,_,_,W,u,rfl,s _ _ a9,b9.same s,M,a6,a4,by omega,br s v6,b6.trans (But.of_same (p:=p) s)⟩
   refine⟨_,rfl,.non ⟨_,rfl,?_⟩⟩;cases hpo:bw ks x y with
   | none =>
    rw[hpo] at px;cases px;exact bM (bM (c0 H8 _ G))
   | some t3 =>
    obtain⟨kq,x1,y1⟩:=t3;rw[hpo] at px;obtain⟨tt,rfl,c4⟩:=px;obtain⟨c7,h5,f3,c8,_⟩:=T.part hx hy hpo;refine dm ?_;refine⟨_,rfl,_,rfl,.tr (d:=aG (x,y)) (G _ _ a9) (b9.same G) (cg (G _ _ a5)) (cV g1) (eg ⟨T.nm _ hx,T.nm _ hy⟩) (by show 1<=16;decide) ⟨_,rfl,?_⟩⟩;refine aA (λg0=>?_) (λ_=>?_)
    ·obtain⟨kk, h2, c6⟩ := BE.mp (T.par_in f3).2;rw[c7] at c6;have L:(kq,kk.2)∈ks:=by rw[<- c6];exact h2
     refine⟨_,rfl,.tup (.of c4) rfl ⟨_,rfl,_,rfl,.tup (.of c4) rfl (aD ⟨q,A,ks,ts,ws,wn,kq,kk.2,rfl,R6.same G,T,d9,f5,L,tl,wl,λle re H9 s9 h8 h0 h1 _ f4=>?_⟩)⟩⟩;refine⟨_,rfl,.tup (.of (s9 _ _ c4)) rfl (aD ⟨le,re,A,_,y1,rfl,h0,h1,f4,c8,d7,λlr fs HA sA h9 f7 g5 _=>?_⟩)⟩;have O:=(G.trans s9).trans sA;refine .seq (.inl (.of f7)) rfl (fj _) ⟨_,rfl,?_⟩;rw[hH];refine aA (λc5=>?_) (λ_=>?_)
     ·have c5:x1 ∈ fs := by simpa using c5
      have a7:=O _ _ a9;refine⟨_,rfl,.inl ⟨rfl,_,.of a7⟩,_,rfl,aD ⟨C,_,_,rfl,rfl,a7,ap (by omega),?_⟩⟩;refine⟨_,_,_,W++[.ref t],u++[(x,y)],rfl,af,?_,λe X=>?_,kz a6 (jm g0),λe X=>?_,by rw[BJ];show _+1<=_;omega,(br O v6).upd (Ne.symm a8),(b6.trans (But.of_same (p:=p) O)).at a2⟩
      ·rw[BO];exact RepAll.append (aO (aL a7 But.upd) (b9.same O)) (.cons (aL a7 But.upd (cg (O _ _ a5))) .nil)
      ·rcases BR.mp X with w | w
       ·exact M e w
       ·rw[Cb.mp w];exact⟨hx,hy⟩
      ·rcases BR.mp X with w | w
       ·exact a4 e w
       ·rw[Cb.mp w];refine⟨(kq,kk.2),L,x1,y1,hpo,T.kid f3 (by rw[c7];exact L),T.kid c8 (by rw[h5];exact L),(g5 x1).mp c5⟩
     ·exact c0 HA _ O
    ·exact c0 H8 _ G
 ·rintro σ H3 ⟨o4,o5,o6,W,u,rfl,b8,a3,M,a6,a4,f8,v3,b3⟩;exact⟨_,rfl,k C W u H3 b8 a3 M a6 a4 (by omega) a8 v3 b3⟩
def qP (K:W.Frag):Sp:=λvs H Q _=>∃(p a un:_) (us:LS) (dp:Int),vs=[.ref p,.ref un,.int dp]/\Pen K H p a/\H un=some (.lst (List.map V.str us))/\un≠p/\us.Nodup/\(∀u∈us,Nm u)/\us.length<=60/\0<=dp /\
 ∀(q:Addr) (ks:Kn) (ts ws wn:List (Str × Str)) (H':Hp),Rep H' (.ref q) (bx ks ts ws wn)->Tre us ks->(ks.map (·.1)).head? = some ("":Str)->Dpt ks dp->TsOk us ks ts->ts.Nodup->gH us ws->ws.Nodup->WsR ks ts wn ws->WnX ks wn->(∀e∈wn,∃k∈ks,FX k e)->ts.length<=40->ws.length<=6->wn.length<=122->PenV H' p a->But p H H'->Q (.ref q) H'
theorem vE {f:Addr}{fd:FuncData}(F:Fun K "_law_house" "_law_house" tD f fd) (B:Blt mg) (j:Cal P w K mg base 1 "_law_draw" ["_law_pen_here","_law_most"] (dX K)) (i:Cal P w K mg base 2 "_law_tree" ["_law_pen_here","_law_names_here","_law_deep"] (uA K)) (c:Cal P w K mg base 2 "_law_wants" ["_law_pen_here","_law_knots"] (qa K)) (d:Cal P w K mg base 3 "_law_kept" ["_law_pen_here","_law_knots","_law_units_here","_law_many"] (uM K)) (b:Cal P w K mg base 4 "_law_waiting" ["_law_pen_here","_law_house_here","_law_units_here"] (mf K)) :
    FnOk P w K mg base CX0 5 f fd ["_law_pen_here","_law_units_here","_law_deep"] (qP K):=by
 refine F.ok1 ["_law_pen_here","_law_units_here","_law_deep","_law_knots","_law_wants_here","_law_ties","_law_house_here"] λnd H Q E W h=>?_;obtain⟨p,a,C,n,dp,rfl,D,q,m,d2,b6,U,a6,k⟩:=h;have v0:=D.2;have d0:(List.map V.str n).length=n.length:=BA ..;refine⟨_,(aa (pst 3 nd (pc i W (au (pv 0) (p2 (pv 1) (pv 2)))))
  (aa (pst 4 nd (pc c W (p2 (pv 0) (pv 3))))
  (aa (pst 5 nd (pc d W (au (pv 0) (au (pv 3) (p2 (pv 1) (pc j W (p2 (pv 0) (aH aK (mX rfl B (p2 ac (aH gE ac (aQ K B (p1 (pv 1)))))) ac))))))))
  (aa (pst 6 nd (be (au (pv 3) (au (cQ K B (p1 (pv 5))) (p2 (be bO) (cQ K B (p1 (pv 4))))))))
  (ae (ai (be (au (pv 3) (au (cQ K B (p1 (pv 5))) (p2 (cQ K B (p1 (pc b W (au (pv 0) (p2 (pv 6) (pv 1)))))) (cQ K B (p1 (pv 4))))))))))))),?_⟩
 refine⟨_,rfl,_,rfl,_,rfl,p,a,C,n,dp,rfl,D,q,m,d2,b6,U,a6,λA G H1 R1 T c7 b5 v1 b1=>?_⟩;refine⟨_,rfl,_,rfl,p,a,A,n,G,rfl,D.but b1 v1,R1,T,λlw rw wn H2 c9 c5 I M wl a3 v2 a4=>?_⟩;have b2:=b1.trans a4;obtain⟨e5,J⟩:=cG v1;obtain⟨d9,d6⟩:=cG v2;refine⟨_,rfl,_,rfl,_,rfl,_,rfl,_,rfl,_,_,rfl,Or.inl ⟨_,.of (b2 C _ m q),rfl⟩,_,_,rfl,rfl,.inl ⟨by decide,by decide⟩,_,_,rfl,.int ?_⟩;rw[d0];obtain⟨X,c1,e4⟩:∃X:Nat,(if 2 * ((n.length:Nat):Int)<40 then 2 * ((n.length:Nat):Int) else 40)+1=(X:Int)/\1<=X/\X<=41/\X<=2 * n.length+1:=by
  split
  ·exact⟨2 * n.length+1,by omega,by omega,by omega,by omega⟩
  ·exact⟨41,rfl,by decide,by decide,by omega⟩
 rw[c1];refine⟨p,a,_,rfl,D.but b2 v2,by omega,by omega,λr H3 a9 d8 v3 e3=>?_⟩;have y:=But.of_eq e3;have Y:=a4.trans y;have b3:=b2.trans y;obtain⟨S,rfl⟩:=Cc a9;refine⟨p,a,A,C,n,G,S,rfl,D.but b3 v3,eE J Y R1,T,b3 C _ m q,m,(λ_=>by omega),by omega,λlt rt ts H4 a1 R Z d3 tl e0 v4 z=>?_⟩;have O:=y.trans z;have c0:=Y.trans z;have b4:=b3.trans z;have R4:=eE J c0 R1;have u:=O lw _ a3 c9;have x:=aO (aL d6 O) c5;refine⟨_,rfl,_,rfl,lt,_,rfl,.of a1,λt1 h1=>?_⟩;refine nw h1 λH5 s5 e1=>?_;refine⟨(szl 0),λt2 h2=>?_⟩;refine nw h2 λH6 s6 e2=>?_;have e1:=s6 _ _ e1;have a0:=s5.trans s6;refine⟨_,rfl,lw,_,rfl,.of (a0 _ _ u),λt3 h3=>?_⟩;refine nw h3 λH7 s7 c2=>?_;have e1:=s7 _ _ e1;have e2:=s7 _ _ e2;have c3:=a0.trans s7;refine⟨(szl 4),λhh a7=>?_⟩;have s8:=Same.new (o:=.tup [V.ref A,V.ref t1,V.ref t2,V.ref t3]) a7;have e:=c3.trans s8;have RH:Rep (upd H7 hh (.tup [V.ref A,V.ref t1,V.ref t2,V.ref t3])) (.ref hh) (bx G ts [] wn) :=
  gQ af (R4.same e) (.tup (s8 _ _ e1) (R.same e)) (.tup (s8 _ _ e2) .nil) (.tup (s8 _ _ c2) (x.same e))
 generalize upd H7 hh (.tup [V.ref A,V.ref t1,V.ref t2,V.ref t3])=H8 at e RH ⊢;have v8:=br e v4;have b8:=b4.trans (But.of_same (p:=p) e);refine⟨_,rfl,_,rfl,lt,_,rfl,.of (e _ _ a1),λt9 h9=>?_⟩;refine nw h9 λH9 s9 e9=>?_;have v9:=br s9 v8;have b9:=b8.trans (But.of_same (p:=p) s9);have s:=e.trans s9;obtain⟨e6,t⟩:=cG v9;refine⟨_,rfl,_,rfl,_,rfl,p,a,hh,C,n,G,ts,[],wn,rfl,D.but b9 v9,RH.same s9,T,TsOk.p Z,WnX.toF T I M,by omega,wl,b9 C _ m q,m,λlx rx wx HA c6 b0 a2 c8 d5 d1 d7 vA l=>?_⟩;have bA:=b9.trans l;refine⟨lx,_,rfl,.of c6,λtB hB=>?_⟩;refine nw hB λHB v eB=>?_;have b7:=v _ _ (cq t l e9);have c4:=(eE t l (R4.same s)).same v;have d4:=(aO (aL t l) (R.same s)).same v;have N:=b0.same v;have L:=v _ _ (l lw _ a3 (s _ _ u));have a5:=(aO (aL t l) (x.same s)).same v;have vB:=br v vA;have bB:=bA.trans (But.of_same (p:=p) v);refine⟨_,rfl,lw,_,rfl,.of L,λtC hC=>?_⟩;have sC:=Same.new (o:=.tup rw) hC;refine⟨(szl 4),λhq a8=>?_⟩;have sD:=Same.new (o:=.tup [V.ref A,V.ref t9,V.ref tB,V.ref tC]) a8;have g:=sC.trans sD;refine k hq G ts wx wn _ (gQ af (c4.same g) (.tup (g _ _ b7) (d4.same g)) (.tup (g _ _ eB) (N.same g)) (.tup (sD _ _ af) (a5.same g))) T c7 b5 Z d3 a2 c8 d5 I M (by omega) d1 wl (br g vB) (bB.trans (But.of_same (p:=p) g))
def oJ:Option (Str × Str × Str)->PyData
 | none=>.none
 | some (k,x,y)=>.tuple [.str k,.str x,.str y]
theorem qR {H:Hp}{v:V}{o:Option (Str × Str × Str)}(h:jH H v o):Rep H v (oJ o):=by
 cases o with
 | none =>
  have h:v=.non:=h;rw[h];exact .non
 | some t =>
  obtain⟨q,rfl,a⟩:=h;exact .tup a (.cons (.str _) (.cons (.str _) (.cons (.str _) .nil)))
theorem uV {z:Str}(h:z=""∨Nm z):Sw (.str z) 82 0:=by
 rcases h with rfl | h
 ·exact⟨by decide +kernel,rfl,BB 0,by decide +kernel⟩
 ·exact Sw.nm h
theorem jF {ps:List (Str × Str)}{m:Nat}(h:∀e∈ps,Sw (.str e.1) 82 0/\Sw (.str e.2) 82 0) (c:ps.length<=m):Sw (dg ps) (3+m * 175) 2:=by
 have f:∀d∈ps.map aG,Sw d 173 1:=λd hd=>by
  obtain⟨e,a,rfl⟩:=BE.mp hd;refine(Sw.tuple (n:=82) (k:=0) λd hd=>?_).mono (by show 3+2 * (82+2)<=173;decide) (BB _);rcases BH.mp hd with rfl | hd
  ·exact(h e a).1
  ·rw[Cb.mp hd];exact(h e a).2
 have b:=Sw.tuple f;rw[BA] at b;exact b.mono (by have:=Nat.mul_le_mul_right 175 c;omega) (BB _)
inductive PlQ (H:Hp):V -> VK -> Prop
 | nm {a:Addr} {xs:LS} {Q:VK}:(H a=some (.lst (List.map V.str xs))∨H a=some (.tup (List.map V.str xs)))->xs.length<=1000 ->
     (∀d kvs H',Same H H'->H d=none->H' d=some (.dK kvs)->(∀s,(aI kvs (.inr s)).isSome=true ↔ s∈xs)->(∀s v,aI kvs (.inr s)=some v->∃j:Nat,v=.int j/\xs[j]? = some s)->(kvs.map (·.1)).Nodup->(∀k∈kvs.map (·.1),∃s∈xs,k=Sum.inr s)->Q (.ref d) H')->PlQ H (.ref a) Q
 | pr {a:Addr} {refs:LV} {ps:List (Str × Str)} {Q:VK}:(H a=some (.lst refs)∨H a=some (.tup refs))->RepAll H refs (ps.map aG)->ps.length<=100000 ->
     (∀d kvs H',Same H H'->H d=none->H' d=some (.dT kvs)->kvs.map (·.1)=(ba [] ps).map pK->Q (.ref d) H')->PlQ H (.ref a) Q
def gh:Sp:=λvs H Q _=>∃x,vs=[x]/\PlQ H x Q
structure PlN (H H':Hp) (d:Addr) (xs:LS) (i:Nat) (kvs:List (Key × V)):Prop where
 sm:Same H H'
 at_:H' d=some (.dK kvs)
 len:kvs.length<=i
 inn:∀s,(aI kvs (.inr s)).isSome=true ↔ s∈xs.take i
 ix:∀s v,aI kvs (.inr s)=some v->∃j:Nat,v=.int j/\xs[j]? = some s
 nd:(kvs.map (·.1)).Nodup
 ks:∀k∈kvs.map (·.1),∃s∈xs,k=Sum.inr s
theorem pk {kvs:List (Key × V)}{k:Key}{v:V}(h:(aI kvs k).isSome=true):(aS kvs k v).map (·.1)=kvs.map (·.1):=by
 unfold aS;rw[if_pos (by rw[dM];exact h),Cn];refine CZ λp _=>?_;show (if p.1=k then (p.1,v) else p).1=p.1
 split <;> rfl
theorem PlN.step {H H':Hp}{d p:Addr}{xs:LS}{i:Nat}{kvs:List (Key × V)}{t:Str}{o:HO}(h:PlN H H' d xs i kvs) (hd:H d=none) (g:H' p=none) (c:xs[i]? = some t) :
    PlN H (upd (upd H' p o) d (.dK (aS kvs (.inr t) (.int (i:Nat))))) d xs (i+1) (aS kvs (.inr t) (.int (i:Nat))):=by
 refine⟨?_,af,?_,?_,?_,?_,?_⟩
 ·intro b o f;rw[ah (ao f hd)];exact Same.new g _ _ (h.sm _ _ f)
 ·have:=bR kvs (.inr t) (V.int (i:Nat));have:=h.len;omega
 ·intro s;rw[cJ,BW,c,BR];by_cases q:s=t
  ·subst q;simp
  ·rw[if_neg (λz=>q (Sum.inr.inj z)),h.inn s];simp[q]
 ·intro s v e;rw[cJ] at e;by_cases q:s=t
  ·subst q;rw[if_pos rfl] at e;exact⟨i,(BD e).symm,c⟩
  ·rw[if_neg (λz=>q (Sum.inr.inj z))] at e;exact h.ix s v e
 ·cases q:aI kvs (.inr t) with
  | none=>exact qj _ h.nd q
  | some v=>rw[pk (by rw[q];rfl)];exact h.nd
 ·intro k a;cases q:aI kvs (.inr t) with
  | none =>
   rw[jL _ q,BO] at a;rcases BR.mp a with a | a
   ·exact h.ks k a
   ·have:k=Sum.inr t:=by simpa using a
    exact⟨t,BG c,this⟩
  | some v=>rw[pk (by rw[q];rfl)] at a;exact h.ks k a
theorem vZ {kvs:List (List Key × V)}{ds:Prs}(h:kvs.map (·.1)=ds.map pK) (e:Str × Str) (v:V):(aS kvs (pK e) v).map (·.1)=(if e ∈ ds then ds else ds ++ [e]).map pK := by
 have c:(kvs.any λp=>decide (p.1=pK e))=decide (e∈ds):=by
  rw[Cu,Dg,decide_eq_true_iff]
  constructor
  ·rintro⟨p,b,q⟩;have:p.1∈kvs.map (·.1):=BE.mpr ⟨p,b,rfl⟩;rw[h] at this;obtain⟨f,d,g⟩:=BE.mp this;have q:=BX q;rw[<- uC (g.trans q)];exact d
  ·intro a;have:pK e∈kvs.map (·.1):=by rw[h];exact BE.mpr ⟨e,a,rfl⟩
   obtain⟨p,b,g⟩:=BE.mp this;exact⟨p,b,BI g⟩
 unfold aS;by_cases a:e∈ds
 ·rw[if_pos (by rw[c];exact BI a),if_pos a,<- h,Cn];refine CZ λp _=>?_;show (if p.1=pK e then (p.1,v) else p).1=p.1
  split <;> rfl
 ·rw[if_neg (by rw[c];simpa using a),if_neg a,BO,BO,h];rfl
theorem gr {f:Addr}{fd:FuncData}(F:Fun K "places_of" "places_of" je f fd) (B:Blt mg):FnOk P w K mg base CX0 1 f fd ["things"] gh := by
 refine F.ok1 ["things","places","place","thing"] λT H Q E hr h=>?_;obtain⟨x,rfl,h⟩:=h;cases h with
 | @nm a xs _ z hl k =>
  refine⟨_,(aa (pst 1 T ew)
  (aa (aZ PassesOwn.never rfl (jT K rfl B.enumerate (p1 (pv 0))) (cj (n:=2) K rfl (aM (az (i:=2) T rfl (Or.inl rfl)) (aM (az (i:=3) T rfl (Or.inl rfl)) cm))) (ae (bU (pv 2) (ce (pv 1) (pv 3) (cC hr.units)))))
  (ae (ai (pv 1))))),?_⟩
  intro d hd;have J:=Same.new (o:=.dK []) hd;have start:PlN H (upd H d (.dK [])) d xs 0 []:=⟨J,af,BB _,(λs=>by simp[pj]),(λs v e=>by cases e),CC,(λk C=>by cases C)⟩
  rcases z with z | z
  ·refine⟨_,rfl,_,rfl,.lst (.of (J _ _ z)) ?_⟩
   let U:Nat->St->Hp->Prop:=λi m g=>∃q r c,m=[some (.ref a),some (.ref d),q,r]/\PlN H g d xs i c
   refine il (xs:=List.map V.str xs) U ?_ ?_ ?_ ?_
   ·exact⟨none,none,[],rfl,start⟩
   ·rintro i m g hi ⟨q,r,c,rfl,j⟩;exact .of (j.sm _ _ z)
   ·rintro i x m g p R ⟨q,r,c,rfl,j⟩ u;obtain⟨t,X,rfl⟩:=bu R;have N:=(BF.mp X).1;have y:d≠p:=ao j.at_ u;have:=j.len;refine⟨p,_,rfl,.of af,rfl,_,_,rfl,_,_,rfl,rfl,?_⟩;exact⟨_,rfl,_,rfl,_,rfl,.dic (DPut.k (k:=.inr t) (by rw[ah y];exact j.at_) (ap (by omega))) ⟨_,_,_,rfl,j.step hd u X⟩⟩
   ·rintro m g ⟨q,r,c,rfl,j⟩;have I:=j.inn;rw[BA,BS (BB _)] at I;exact⟨_,rfl,k d c g j.sm hd j.at_ I j.ix j.nd j.ks⟩
  ·refine⟨_,rfl,_,rfl,.tup (.of (J _ _ z)) ?_⟩
   let Z:Nat->St->Hp->Prop:=λi m g=>∃q r c,m=[some (.ref a),some (.ref d),q,r]/\PlN H g d xs i c
   refine mB (xs:=List.map V.str xs) Z ?_ ?_ ?_ ?_
   ·exact⟨none,none,[],rfl,start⟩
   ·rintro i m g hi ⟨q,r,c,rfl,j⟩;exact .of (j.sm _ _ z)
   ·rintro i x m g p R ⟨q,r,c,rfl,j⟩ u;obtain⟨t,X,rfl⟩:=bu R;have N:=(BF.mp X).1;have y:d≠p:=ao j.at_ u;have:=j.len;refine⟨p,_,rfl,.of af,rfl,_,_,rfl,_,_,rfl,rfl,?_⟩;exact⟨_,rfl,_,rfl,_,rfl,.dic (DPut.k (k:=.inr t) (by rw[ah y];exact j.at_) (ap (by omega))) ⟨_,_,_,rfl,j.step hd u X⟩⟩
   ·rintro m g ⟨q,r,c,rfl,j⟩;have I:=j.inn;rw[BA,BS (BB _)] at I;exact⟨_,rfl,k d c g j.sm hd j.at_ I j.ix j.nd j.ks⟩
 | @pr a refs ps _ z rp hps k =>
  have sz:200000<sizeLine:=by decide
  refine⟨_,(aa (pst 1 T ve)
  (aa (aZ PassesOwn.never rfl (jT K rfl B.enumerate (p1 (pv 0))) (cj (n:=2) K rfl (aM (az (i:=2) T rfl (Or.inl rfl)) (aM (az (i:=3) T rfl (Or.inl rfl)) cm))) (ae (bU (pv 2) (ce (pv 1) (pv 3) (cC hr.units)))))
  (ae (ai (pv 1))))),?_⟩
  have G:=rp.len;rw[BA] at G;intro d hd;have J:=Same.new (o:=.dT []) hd;have L:∀(i:Nat) (e:Str × Str) (S p:Addr) (g:Hp) (c:List (List Key × V)),Same H g->g d=some (.dT c)->c.length<=i->c.map (·.1)=(ba [] (ps.take i)).map pK->ps[i]? = some e->g p=none ->
      Same H (upd (upd g p (.tup [.int (i:Nat),.ref S])) d (.dT (aS c (pK e) (.int (i:Nat)))))/\(aS c (pK e) (V.int (i:Nat))).length<=i+1/\(aS c (pK e) (V.int (i:Nat))).map (·.1)=(ba [] (ps.take (i+1))).map pK:=by
   intro i e S p g c A C D l O u;have a0:=bR c (pK e) (V.int (i:Nat));refine⟨?_,by omega,?_⟩
   ·intro b o hb;rw[ah (ao hb hd)];exact Same.new u _ _ (A _ _ hb)
   ·rw[vZ l,BW,O,cX];rfl
  rcases z with z | z
  ·refine⟨_,rfl,_,rfl,.lst (.of (J _ _ z)) ?_⟩
   let W:Nat->St->Hp->Prop:=λi m g=>∃q r c,m=[some (.ref a),some (.ref d),q,r]/\Same H g/\g d=some (.dT c)/\c.length<=i/\c.map (·.1)=(ba [] (ps.take i)).map pK
   refine il (xs:=refs) W ?_ ?_ ?_ ?_
   ·exact⟨none,none,[],rfl,J,af,BB _,rfl⟩
   ·rintro i m g hi ⟨q,r,c,rfl,A,_⟩;exact .of (A _ _ z)
   ·rintro i x m g p R ⟨q,r,c,rfl,A,C,D,l⟩ u;obtain⟨e,S,O,rfl,M⟩:=bP (rp.same A) R;have N:=(BF.mp O).1;have y:d≠p:=ao C u;obtain⟨g1,g2,g3⟩:=L i e S p g c A C D l O u;refine⟨p,_,rfl,.of af,rfl,_,_,rfl,_,_,rfl,rfl,?_⟩;exact⟨_,rfl,_,rfl,_,rfl,.dic (DPut.t (k:=pK e) (by rw[ah y];exact C) (Same.new u _ _ M) (by omega)) ⟨_,_,_,rfl,g1,af,g2,g3⟩⟩
   ·rintro m g ⟨q,r,c,rfl,A,C,D,l⟩;rw[G,BS (BB _)] at l;exact⟨_,rfl,k d c g A hd C l⟩
  ·refine⟨_,rfl,_,rfl,.tup (.of (J _ _ z)) ?_⟩
   let Y:Nat->St->Hp->Prop:=λi m g=>∃q r c,m=[some (.ref a),some (.ref d),q,r]/\Same H g/\g d=some (.dT c)/\c.length<=i/\c.map (·.1)=(ba [] (ps.take i)).map pK
   refine mB (xs:=refs) Y ?_ ?_ ?_ ?_
   ·exact⟨none,none,[],rfl,J,af,BB _,rfl⟩
   ·rintro i m g hi ⟨q,r,c,rfl,A,_⟩;exact .of (A _ _ z)
   ·rintro i x m g p R ⟨q,r,c,rfl,A,C,D,l⟩ u;obtain⟨e,S,O,rfl,M⟩:=bP (rp.same A) R;have N:=(BF.mp O).1;have y:d≠p:=ao C u;obtain⟨g1,g2,g3⟩:=L i e S p g c A C D l O u;refine⟨p,_,rfl,.of af,rfl,_,_,rfl,_,_,rfl,rfl,?_⟩;exact⟨_,rfl,_,rfl,_,rfl,.dic (DPut.t (k:=pK e) (by rw[ah y];exact C) (Same.new u _ _ M) (by omega)) ⟨_,_,_,rfl,g1,af,g2,g3⟩⟩
   ·rintro m g ⟨q,r,c,rfl,A,C,D,l⟩;rw[G,BS (BB _)] at l;exact⟨_,rfl,k d c g A hd C l⟩
def mE:Sp:=λvs H Q _=>∃(a refs:_) (ps:Prs),vs=[.ref a]/\H a=some (.lst refs)/\RepAll H refs (ps.map aG)/\ps.length<=100000/\∀d kvs H',Same H H'->H d=none->H' d=some (.dT kvs)->kvs.map (·.1)=(ba [] ps).map pK->Q (.ref d) H'
theorem rB (c:LV) (H:Hp) (Q:VK) (E:XK) (h:oj c H Q E):gh c H Q E:=by
 obtain⟨a,o,rfl,j,f,k⟩:=h;exact⟨_,rfl,.nm (.inl j) f λd b i g l e m n _ _=>k d b i g l e m n⟩
theorem uL (c:LV) (H:Hp) (Q:VK) (E:XK) (h:mE c H Q E):gh c H Q E:=by
 obtain⟨a,b,g,rfl,e,d,f,k⟩:=h;exact⟨_,rfl,.pr (.inl e) d f k⟩
theorem tX:∀(ps acc:Prs),(acc++ps).Nodup->ba acc ps=acc++ps
 | [],acc,_=>by show acc=acc++[];rw[Cm]
 | x::ps,acc,h=>by
  have hn:x∉acc:=λz=>(CI.mp h).2.2 x z x (Cr ..) rfl;show (if x∈acc then ba acc ps else ba (acc++[x]) ps)=_;rw[if_neg hn,tX ps (acc++[x]) (by rw[Cp];exact h),Cp];rfl
inductive UnR (H:Hp) (Q:VK):V->Prop
 | nm {a:Addr} {ss:LS}:SqA H a (List.map V.str ss)->ss.length<=1000->ss.Nodup->UnR H Q (.ref a)
 | pr {a:Addr} {refs:LV} {ps:List (Str × Str)}:SqA H a refs->RepAll H refs (ps.map aG)->ps.length<=1000->ps.Nodup->UnR H Q (.ref a)
def jY:Sp:=λvs H Q _=>∃(q us ks ts ws wn:_) (k:Str × LS),vs=[.ref q,.str k.1]/\Rep H (.ref q) (bx ks ts ws wn)/\Tre us ks/\k∈ks/\∀l H',Same H H'->H l=none->H' l=some (.lst (List.map V.str k.2))->Q (.ref l) H'
theorem pE {f:Addr}{fd:FuncData}(F:Fun K "children" "children" lR f fd) (B:Blt mg):FnOk P w K mg base CX0 1 f fd ["house","knot"] jY:=by
 refine F.ok1 ["house","knot"] λz H Q E m h=>?_;obtain⟨q,x,y,J,G,A,r,rfl,R,T,n,k⟩:=h;refine⟨_,(ae (ai (fC K rfl B (p1 (px K m (lH K rfl m.units B (p1 (px K m (pv 0) ac))) (pv 1)))))),?_⟩;obtain⟨L,a,b,c,C,u,t,s,_⟩:=ci R;cases u;refine⟨_,rfl,.tup (.of t) rfl (aD (iF s T λD g v j=>?_))⟩;obtain⟨I,e,i⟩:=j r n;have d:=Same.new (o:=.dK g) v;refine⟨_,rfl,.dic (.inl ⟨g,.inr r.1,.inl af,rfl,e.symm⟩) ?_⟩;generalize upd H D (.dK g)=M at d ⊢;refine aD ⟨_,rfl,.seq (.inr (.of (d _ _ i))) λl p=>?_⟩;exact k l _ (d.trans (Same.new p)) (dE d p) af
def nT (ks:Kn) (e:Str × Str):PyData:=oJ (bw ks e.1 e.2)
theorem qw {H:Hp}{v:V}{o:Option (Str × Str × Str)}(h:Rep H v (oJ o)):jH H v o:=by
 cases o with
 | none =>
  have h:Rep H v .none:=h;cases h
  rfl
 | some t =>
  obtain⟨k,x,y⟩:=t;obtain⟨q,b,rfl,c,a⟩:=Rep.tupI h;have a:RepAll H b (List.map PyData.str [k,x,y]):=a;have e:=RepAll.strs a;subst e;exact⟨q,rfl,c⟩
theorem kM {H H':Hp}{p:Addr}{ys:LV}(a:H p=some (.lst ys)) (b:But p H H') {v:V}{o:Option (Str × Str × Str)}(h:Rep H v (oJ o)):Rep H' v (oJ o):=by
 have g:=qw h;refine qR ?_;cases o with
 | none=>exact g
 | some t=>obtain⟨q,e,c⟩:=g;exact⟨q,e,cq a b c⟩
def kW:Sp:=λvs H Q _=>∃(q us ks:_) (ts ws wn:Prs),vs=[.ref q]/\Rep H (.ref q) (bx ks ts ws wn)/\Tre us ks/\TsP us ks ts/\ts.length<=200/\∀l refs H',Same H H'->H l=none->H' l=some (.lst refs)->RepAll H' refs (ts.map (nT ks))->Q (.ref l) H'
theorem wa {f:Addr}{fd:FuncData}(F:Fun K "kept_partings" "kept_partings" gk f fd) (B:Blt mg) (r:Cal P w K mg base 1 "homes" ["house"] kP) (g:Cal P w K mg base 2 "parting_by" ["table","one","other"] eF):FnOk P w K mg base CX0 3 f fd ["house"] kW:=by
 refine F.ok1 ["house","table"] λnd H Q E C h=>?_;obtain⟨q,X,J,Z,ws,wn,rfl,R,T,U,tl,k⟩:=h;refine⟨_,(aa (cv (i:=1) nd rfl (Or.inr rfl) (pc r C (p1 (pv 0))))
  (ae (ai (bn (ak gk) ["house","table"] [1] "tie" ["table"] (aP K (px K C (pv 0) ac)) aT (pc g C (au (pv 1) (p2 (px K C (pv 0) ac) (px K C (pv 0) ac)))))))),?_⟩
 refine⟨_,rfl,q,X,J,Z,ws,wn,rfl,R,T,λd M H1 O a1 hd ar=>?_⟩;obtain⟨q',a,b,c,d4,W,hq,_,R2,_⟩:=ci (R.same O);cases W;obtain⟨b',rb,W,hb,G⟩:=bo R2;cases W;have o:=G.len;rw[BA] at o;refine⟨_,rfl,.tup (.of hq) rfl ⟨b,rfl,⟨_,.of hb⟩,?_⟩⟩;refine dH rb (λD j m p u=>∃(I:Option V),p=[I,some (.ref d)]/\RepAll u m ((Z.take j).map (nT J))/\Same H1 u/\H1 D=none) λD Y=>⟨?_,?_,?_,?_⟩
 ·exact⟨none,rfl,.nil,Same.new Y,Y⟩
 ·rintro j m p u _ ⟨I,rfl,_,t,_⟩ _;exact .of (t _ _ hb)
 ·rintro j m p u v hv ⟨I,rfl,y,t,s⟩ n;obtain⟨e,ta,N,rfl,z⟩:=bP G hv;have a0:=(BF.mp N).1;obtain⟨hu,L,_⟩:=U e (BG N);have A:=y.len;rw[BA,Ch] at A;refine eV ?_;refine⟨_,rfl,_,rfl,.tup (.of (t _ _ z)) rfl ⟨_,rfl,.tup (.of (t _ _ z)) rfl (aD ⟨d,M,X,J,e.1,e.2,rfl,t _ _ hd,ar,T,hu,L,λx H3 S px=>?_⟩)⟩⟩;have l:=S _ _ n;refine⟨l,ap (by omega),_,rfl,?_,bq (t.trans S) s,s⟩;rw[BW,N,BO];exact RepAll.append (aO (kM l But.upd) (y.same S)) (.cons (kM l But.upd (qR px)) .nil)
 ·rintro m p u ⟨I,rfl,y,t,s⟩ n;rw[o,BS (BB _)] at y;exact k D m u (O.trans t) (dE O s) n y
theorem vj:Nm "first":=by refine⟨by decide +kernel,by decide +kernel,?_⟩;decide +kernel
theorem yf:Nm "last":=by refine⟨by decide +kernel,by decide +kernel,?_⟩;decide +kernel
theorem jk {z:Str}(h:z="first"∨z="last"):Nm z:=by
 rcases h with rfl | rfl
 ·exact vj
 ·exact yf
def ol:Sp:=λvs H Q _=>∃(q l:_) (us c:LS) (ks ts ws wn word:_),vs=[.ref q,.ref l,.str word]/\Rep H (.ref q) (bx ks ts ws wn)/\Tre us ks/\wO us wn/\(word="first"∨word="last")/\H l=some (.lst (List.map V.str c))/\(∀u∈c,Nm u)/\c.length<=60/\∀D H',Same H H'->H D=none->H' D=some (.lst (List.map V.str (wU c wn word)))->Q (.ref D) H'
theorem sF {f:Addr}{fd:FuncData}(F:Fun K "wanted" "wanted" kO f fd) (B:Blt mg):FnOk P w K mg base CX0 1 f fd ["house", "row", "word"] ol := by
 refine F.ok1 ["house","row","word"] λnd H Q E Y h=>?_;obtain⟨q,l,us,c,ks,ts,ws,s,d,rfl,R,T,x,hw,S,L,cl,k⟩:=h;refine⟨_,(ae (ai (bn (ak kO) ["house","row","word"] [2,0] "child" ["word","house"] (bg K (pv 1)) (dP (aj (ya Y.units) (be (p2 (pv 1) (pv 0))) (px K Y (pv 2) ac) (by with_unfolding_all rfl))) (pv 0)))),?_⟩;obtain⟨q',a,b,c3,d4,N,hq,_,_,_,R4⟩:=ci R;cases N;obtain⟨a1,M,N,J,I⟩:=bo R4;cases N;have O:PyData.canLayAll0 (s.map aG)=true:=cV λe U=>⟨jk (x e U).1,T.nm _ (x e U).2⟩
 refine⟨_,rfl,l,rfl,⟨_,.of S⟩,?_⟩;refine cE (List.map V.str c) (λD j p o y=>∃(A:Option V),o=[A,some (.str d),some (.ref q)]/\p=List.map V.str (wU (c.take j) s d)/\Same H y/\H D=none) λD Z=>⟨?_,?_,?_,?_⟩
 ·exact⟨none,rfl,rfl,Same.new Z,Z⟩
 ·rintro j p o y _ ⟨A,rfl,_,z,_⟩ _;exact .of (z _ _ S)
 ·rintro j p o y v hv ⟨A,rfl,rfl,z,i⟩ g;obtain⟨u,G,rfl⟩:=bu hv;have a0:=(BF.mp G).1;have r:wU (c.take (j+1)) s d=wU (c.take j) s d++(if (decide ((d,u)∈s))=true then [u] else []):=by
   unfold wU;rw[BW,G,CA];congr 1;show List.filter _ [u]=_;rw[Cv,Dm]
  have X:(wU (c.take j) s d).length<=j:=by
   have:=CP (λu=>decide ((d,u)∈s)) (c.take j);rw[Ch] at this;unfold wU;omega
  dsimp only[cF];refine⟨_,rfl,_,rfl,(szl 2),λt ht=>?_⟩;refine nw ht λH2 W et=>?_;have m:=W _ _ g;have n:=z.trans W;refine⟨_,rfl,.tup (.of (n _ _ hq)) rfl ⟨d4,M,_,aG (d,u),rfl,n _ _ J,I.same n,cg et,O,eg (e:=(d,u)) ⟨jk hw,L u (BG G)⟩,(by show 1<=16;decide),_,rfl,?_⟩⟩;rw[if_neg (show ¬ false=true by decide),jR];refine aA (λC=>?_) (λC=>?_)
  ·rw[if_pos C] at r;exact⟨_,rfl,m,by rw[BA];exact ap (by omega),_,rfl,by rw[r,BO];rfl,bq n i,i⟩
  ·rw[if_neg C,Cm] at r;exact⟨m,_,rfl,by rw[r],n,i⟩
 ·rintro p o y ⟨A,rfl,rfl,z,i⟩ g;rw[BA,BS (BB _)] at g;exact k D y z i g
def mW (ks:Kn) (ts wn:Prs) (k:Str × LS):PyData:=.tuple [.tuple (k.2.map PyData.str),dg (cH ks ts wn k.1 k.2)]
theorem yc {H:Hp}{ks:Kn}{refs:LV}{ts:Prs}(a:RepAll H refs (ts.map (nT ks))) {j:Nat}{x:V}(b:refs[j]? = some x):∃e,ts[j]? = some e/\jH H x (bw ks e.1 e.2):=by
 obtain⟨d,hd,rd⟩:=a.get b;rw[BM] at hd;cases q:ts[j]? with
 | none=>rw[q] at hd;cases hd
 | some e =>
  rw[q] at hd;have hd:nT ks e=d:=BD hd;rw[<- hd] at rd;exact⟨e,rfl,qw rd⟩
theorem Fnd.ext {H H':Hp}{G:Addr}{us:LS}{fr z:LV}{ps I:Prs}{n m:Nat}(h:Fnd H H' G us fr ps n) (r:RepAll H' z (I.map aG)) (i:gH us I) (c:I.length<=m) (b:H G=none):Fnd H (upd H' G (.lst (fr++z))) G us (fr++z) (ps++I) (n+m):=by
 refine⟨af,?_,λe a=>?_,by rw[BJ];have:=h.l;omega,bq h.s b⟩
 ·rw[BO];exact RepAll.append (aO (aL h.f But.upd) h.r) (aO (aL h.f But.upd) r)
 ·rcases BR.mp a with q | q
  ·exact h.i e q
  ·exact i e q
theorem lZ (a:Bool) {c:LS}{j:Nat}{u ch:Str}(h:c[j]? = some ch):bY a (c.take (j+1)) u=bY a (c.take j) u++(if ch=u then [] else [if a then (ch,u) else (u,ch)]):=by
 unfold bY;rw[BW,h,CA,BO];congr 1;show List.map _ (List.filter _ [ch])=_;rw[Cv,Dm];by_cases b:ch=u
 ·rw[if_neg (by simpa using b),if_pos b];rfl
 ·rw[if_pos (by simpa using b),if_neg b];rfl
theorem iC (a:Bool) (c:LS) (u:Str):(bY a c u).length<=c.length:=by
 unfold bY;rw[BA];exact CP _ _
theorem jg {us:LS}(a:Bool) {c:LS}{u:Str}(g:∀z∈c,z∈us) (f:u∈us):gH us (bY a c u):=λe d=>by
 unfold bY at d;obtain⟨z,b,rfl⟩:=BE.mp d;have b:=g z (Cj.mp b).1;cases a
 ·exact⟨f,b⟩
 ·exact⟨b,f⟩
theorem kI (c:LS) (wn:Prs) (word:Str):(wU c wn word).length<=c.length:=by
 unfold wU;exact CP _ _
theorem mT {c:LS}{wn:Prs}{word u:Str}(h:u∈wU c wn word):u∈c:=by
 unfold wU at h;exact(Cj.mp h).1
theorem ug {H:Hp}{kvs:List (List Key × V)}{es:Prs}{z:LV}(a:kvs.map (·.1)=es.map pK) (d:z.length=kvs.length) (h:∀(i:Nat) (k:List Key × V), kvs[i]? = some k -> ∃q, z[i]? = some (V.ref q) /\ H q=some (.tup (k.1.map kV))):RepAll H z (es.map aG) := by
 induction es generalizing kvs z with
 | nil =>
  have:kvs=[]:=by simpa using a
  subst this;have:z=[]:=by simpa using d
  subst this;exact .nil
 | cons e es ih =>
  cases kvs with
  | nil=>simp at a
  | cons k kvs =>
   cases z with
   | nil=>simp at d
   | cons r z =>
    rw[BZ,BZ] at a;injection a with l g;obtain⟨q,b,f⟩:=h 0 k rfl;have b:r=.ref q:=BD b;subst b;rw[l] at f;exact .cons (cg f) (ih g (by simpa using d) λi j c=>h (i+1) j c)
theorem yL {us:LS}{ks:Kn}(T:Tre us ks) {ts:Prs}(f:TsP us ks ts) (a:Str):gH us (ts.filterMap (cM ks a)) := λe i => by
 obtain⟨z,b,q⟩:=Da.mp i;obtain⟨l,g,_⟩:=f z b;unfold cM at q;cases hpo:bw ks z.1 z.2 with
 | none=>rw[hpo] at q;cases q
 | some t3 =>
  obtain⟨h,j,k⟩:=t3;rw[hpo] at q;obtain⟨_,_,d,c,_⟩:=T.part l g hpo;have q:(if h=a then some (j,k) else none)=some e:=q;by_cases b:h=a
  ·rw[if_pos b] at q;rw[<- BD q];exact⟨d,c⟩
  ·rw[if_neg b] at q;cases q
def jE:Sp:=λvs H Q _=>∃(q lp us ks:_) (ts ws wn:Prs) (k:Str × LS) (refs:_),vs=[.ref q,.str k.1,.ref lp]/\Rep H (.ref q) (bx ks ts ws wn)/\Tre us ks/\TsP us ks ts/\WnF us ks wn/\k∈ks/\ts.length<=200/\H lp=some (.lst refs)/\RepAll H refs (ts.map (nT ks))/\∀x H',Same H H'->Rep H' x (mW ks ts wn k)->Q x H'
theorem sI {f:Addr}{fd:FuncData}(F:Fun K "view_by" "view_by" ia f fd) (B:Blt mg) (O:Cal P w K mg base 1 "children" ["house", "knot"] jY) (M:Cal P w K mg base 1 "wanted" ["house", "row", "word"] ol) (J:Cal P w K mg base 1 "places_of" ["things"] mE):FnOk P w K mg base CX0 2 f fd ["house", "knot", "partings"] jE := by
 refine F.ok1 ["house","knot","partings","row","pairs","unit"] λnd H Q E hr h=>?_;obtain⟨q,lp,us,Y,ts,ws,A,a,d6,rfl,R,T,d2,WX,b8,tl,c7,d1,k⟩:=h;have c2:=WX.ok;have f1:=T.len;have sz:200000<sizeLine:=by decide
 have S:∀u∈a.2,u∈us:=λu X=>T.isIn b8 X;have p:a.2.length<=60:=by
  have:=dy (bQ T b8) S;omega
 refine⟨_,(aa (pst 3 nd (pc O hr (p2 (pv 0) (pv 1))))
  (aa (hR (i:=4) nd rfl rfl (by rfl) (ak ia) ["house","knot","partings","row","pairs","unit"] ["part"] [1] ["part","knot"] rfl (bg K (pv 2)) (λ_ _ _ _ _=>(az (i:=0) (show (["part","knot"]:LS).Nodup by decide) rfl (Or.inl rfl))) (λ_ _ _ _ _=>(dP (aj (bc hr.units) (px K hr (pv 0) ac) (pv 1) (av _)))) (λ_ _ _ _ _=>(be (p2 (px K hr (pv 0) ac) (px K hr (pv 0) ac)))))
  (aa (aZ PassesOwn.never rfl (bg K (pc M hr (au (pv 0) (p2 (pv 3) aw)))) (az (i:=5) nd rfl (Or.inr rfl)) (ae (bh (gM K (pv 4) (p1 (bn (ak ia) ["house","knot","partings","row","pairs","unit"] [5] "child" ["unit"] (bg K (pv 3)) (dP (aj (cW hr.units) (pv 0) (pv 1) (av _))) (be (p2 (pv 1) (pv 0)))))))))
  (aa (aZ PassesOwn.never rfl (bg K (pc M hr (au (pv 0) (p2 (pv 3) aw)))) (az (i:=5) nd rfl (Or.inr rfl)) (ae (bh (gM K (pv 4) (p1 (bn (ak ia) ["house","knot","partings","row","pairs","unit"] [5] "child" ["unit"] (bg K (pv 3)) (dP (aj (cW hr.units) (pv 0) (pv 1) (av _))) (be (p2 (pv 0) (pv 1)))))))))
  (ae (ai (be (p2 (cQ K B (p1 (pv 3))) (xS rfl B (p1 (pc J hr (p1 (pv 4))))))))))))),?_⟩
 refine⟨_,rfl,_,rfl,q,us,Y,ts,ws,A,a,rfl,R,T,b8,λla H1 s1 f0 d4=>?_⟩;have b4:=d1.len;rw[BA] at b4;refine⟨_,rfl,lp,rfl,⟨_,.of (s1 _ _ c7)⟩,?_⟩;refine cE d6 (λD j g n s=>∃(W:Option V),n=[W,some (.str a.1)]/\RepAll s g (((ts.take j).filterMap (cM Y a.1)).map aG)/\g.length<=j/\Same H1 s/\H1 D=none) λZ c1=>⟨?_,?_,?_,?_⟩
 ·exact⟨none,rfl,.nil,BB _,Same.new c1,c1⟩
 ·rintro j g n s _ ⟨W,rfl,_,_,r,_⟩ _;exact .of (r _ _ (s1 _ _ c7))
 ·rintro j g n s v hv ⟨W, rfl, I, al, r, C⟩ c;obtain⟨e,he,pv⟩:=yc (d1.same (s1.trans r)) hv;have c5:=(BF.mp he).1;obtain⟨X,f4,e7⟩:=d2 e (BG he);cases hpo:bw Y e.1 e.2 with
  | none=>exact absurd hpo e7
  | some t3 =>
   obtain⟨kq,x1,y1⟩:=t3;rw[hpo] at pv;obtain⟨t,rfl,ht⟩:=pv;have eb:cM Y a.1 e=if kq=a.1 then some (x1,y1) else none:=by unfold cM;rw[hpo]
   have b1:(ts.take (j+1)).filterMap (cM Y a.1)=(ts.take j).filterMap (cM Y a.1)++(if kq=a.1 then some (x1,y1) else none:Option (Str × Str)).toList:=by
    rw[BW,he,List.filterMap_append,<- eb];cases h:cM Y a.1 e <;> simp[h]
   clear eb;dsimp only[cF];refine⟨_,rfl,.tup (.of ht) rfl ⟨_,rfl,.sc rfl ⟨_,rfl,?_⟩⟩⟩;refine aA (λhq=>?_) (λhq=>?_)
   ·have hq:kq=a.1:=Classical.byContradiction λz=>by rw[if_neg (by decide),BL (λw=>z (V.str.inj w))] at hq;cases hq
    rw[if_pos hq] at b1;refine⟨_,rfl,.tup (.of ht) rfl ⟨_,rfl,.tup (.of ht) rfl ⟨(szl 2),λt2 a1=>?_⟩⟩⟩;refine nw a1 λH2 st et=>?_;have b:=st _ _ c;have a4:=r.trans st;have a6:=I.same st;refine⟨b,ap (by omega),_,rfl,?_,by rw[BJ];show _+1<=_;omega,bq a4 C,C⟩;rw[b1,BO];exact RepAll.append (aO (aL b But.upd) a6) (.cons (aL b But.upd (cg et)) .nil)
   ·have hq:kq≠a.1:=λz=>hq (by rw[if_neg (by decide),z,BI rfl]);rw[if_neg hq] at b1;refine⟨c,_,rfl,?_,by omega,r,C⟩;rw[b1,show (none:Option (Str × Str)).toList=[] from rfl,Cm];exact I
 ·rintro g n H2 ⟨W, rfl, I, al, r, C⟩ c;rw[b4,BS (BB _)] at I;have s2:=s1.trans r;have d5:H Z=none:=dE s1 C;have b3:=r _ _ d4;have c6:la≠Z:=ao d4 C;have b9:Fnd H H2 Z us g (ts.filterMap (cM Y a.1)) 200:=by
   refine⟨c,I,λe he=>?_,?_,s2⟩
   ·exact yL T d2 _ e he
   ·exact BP (List.length_filterMap_le _ _) tl
  generalize e4:ts.filterMap (cM Y a.1)=bs at b9;refine⟨_,rfl,_,rfl,q,la,us,a.2,Y,ts,ws,A,"first",rfl,R.same s2,T,c2,(.inl rfl),b3,(λu X=>T.nm _ (S u X)),p,λD1 H3 s3 b6 hD=>?_⟩;have b7:=b9.more s3 (BB _);have nD:D1≠Z:=Ne.symm (ao b9.f b6);have a7:=s3 _ _ b3;refine⟨D1,rfl,⟨_,.of hD⟩,?_⟩
  let c3:Nat->St->Hp->Prop:=λi σ s=>∃(o5:Option V) (fr:LV),σ=[some (.ref q),some (.str a.1),some (.ref lp),some (.ref la),some (.ref Z),o5]/\Fnd H s Z us fr (bs++((wU a.2 A "first").take i).flatMap (bY false a.2)) (200+i * 60)/\s la=some (.lst (List.map V.str a.2))/\s D1=some (.lst (List.map V.str (wU a.2 A "first")))
  refine dD (R:=Q) (xs:=List.map V.str (wU a.2 A "first")) c3 ?_ ?_ ?_ ?_
  ·exact⟨_,_,rfl,by rw[Dl,List.flatMap_nil,Cm];exact b7,a7,hD⟩
  ·rintro i σ s hi ⟨o5,fr,rfl,_,_,hD⟩;exact .of hD
  ·rintro _ i x σ H4 hx ⟨o5, fr, rfl, U, y, b5⟩;obtain⟨u,X,rfl⟩:=bu hx;have c5:=(BF.mp X).1;have a2:=BP (kI a.2 A "first") p;have c0:=S u (mT (BG X));have c9:=U.len;refine⟨_,rfl,.inl ⟨rfl,_,.of U.f⟩,_,rfl,la,rfl,⟨_,.of y⟩,?_⟩;refine cE (List.map V.str a.2) (λD j g n s=>∃(W:Option V),n=[W,some (.str u)]/\RepAll s g ((bY false (a.2.take j) u).map aG)/\g.length<=j/\Same H4 s/\H4 D=none) λD a8=>⟨?_,?_,?_,?_⟩
   ·exact⟨none,rfl,.nil,BB _,Same.new a8,a8⟩
   ·rintro j g n s _ ⟨W,rfl,_,_,r,_⟩ _;exact .of (r _ _ y)
   ·rintro j g n s v hv ⟨W,rfl,I,al,r,l⟩ c;obtain⟨ch,a0,rfl⟩:=bu hv;have e3:=(BF.mp a0).1;have G:=lZ false (u:=u) a0;dsimp only[cF];refine⟨_,rfl,_,rfl,.sc rfl ⟨_,rfl,?_⟩⟩;refine aA (λL=>?_) (λL=>?_)
    ·have L:ch≠u:=λz=>by rw[if_pos rfl,z,BI rfl] at L;cases L
     rw[if_neg L] at G;refine⟨_,rfl,_,rfl,(szl 2),λt2 a1=>?_⟩;refine nw a1 λH5 st et=>?_;have b:=st _ _ c;have a4:=r.trans st;have a6:=I.same st;refine⟨b,ap (by omega),_,rfl,?_,by rw[BJ];show _+1<=_;omega,bq a4 l,l⟩;rw[G,BO];exact RepAll.append (aO (aL b But.upd) a6) (.cons (aL b But.upd (cg et)) .nil)
    ·have L:ch=u:=Classical.byContradiction λz=>L (by rw[if_pos rfl,BL (λw=>z (V.str.inj w))];rfl);rw[if_pos L,Cm] at G;exact⟨c,_,rfl,by rw[G];exact I,by omega,r,l⟩
   ·rintro g n H5 ⟨W,rfl,I,al,r,l⟩ c;rw[BA] at al;rw[BA,BS (BB _)] at I;have a5:=U.more r (BB _);have fx:=a5.ext (m:=60) I (jg false S c0) (BP (iC false a.2 u) p) d5;refine aD ⟨Z,D,_,_,rfl,rfl,a5.f,c,by omega,?_⟩;refine⟨_,fr++g,rfl,?_,by rw[ah c6];exact r _ _ y,by rw[ah nD];exact r _ _ b5⟩;have e:bs++((wU a.2 A "first").take (i+1)).flatMap (bY false a.2)=bs++((wU a.2 A "first").take i).flatMap (bY false a.2)++bY false a.2 u:=by
     rw[BW,X,DD,Cp];simp
    rw[e];exact fx.more (Same.refl _) (by omega)
  ·rintro σ H6 ⟨o5, f5, rfl, N, b2, _⟩;have a2:=BP (kI a.2 A "first") p;rw[BA,BS (BB _)] at N;have N:=N.more (m:=3800) (Same.refl _) (by omega);generalize e5:bs++(wU a.2 A "first").flatMap (bY false a.2)=fs at N;refine⟨_,rfl,_,rfl,q,la,us,a.2,Y,ts,ws,A,"last",rfl,R.same N.s,T,c2,(.inr rfl),b2,(λu X=>T.nm _ (S u X)),p,λD2 H3 s3 b6 hD=>?_⟩;have b7:=N.more s3 (BB _);have nD:D2≠Z:=Ne.symm (ao N.f b6);have a7:=s3 _ _ b2;refine⟨D2,rfl,⟨_,.of hD⟩,?_⟩
   let d7:Nat->St->Hp->Prop:=λi σ s=>∃(o5:Option V) (fr:LV),σ=[some (.ref q),some (.str a.1),some (.ref lp),some (.ref la),some (.ref Z),o5]/\Fnd H s Z us fr (fs++((wU a.2 A "last").take i).flatMap (bY true a.2)) (3800+i * 60)/\s la=some (.lst (List.map V.str a.2))/\s D2=some (.lst (List.map V.str (wU a.2 A "last")))
   refine dD (R:=Q) (xs:=List.map V.str (wU a.2 A "last")) d7 ?_ ?_ ?_ ?_
   ·exact⟨_,_,rfl,by rw[Dl,List.flatMap_nil,Cm];exact b7,a7,hD⟩
   ·rintro i σ s hi ⟨o5,fr,rfl,_,_,hD⟩;exact .of hD
   ·rintro _ i x σ H4 hx ⟨o5, fr, rfl, U, y, b5⟩;obtain⟨u,X,rfl⟩:=bu hx;have c5:=(BF.mp X).1;have a2:=BP (kI a.2 A "last") p;have c0:=S u (mT (BG X));have c9:=U.len;refine⟨_,rfl,.inl ⟨rfl,_,.of U.f⟩,_,rfl,la,rfl,⟨_,.of y⟩,?_⟩;refine cE (List.map V.str a.2) (λD j g n s=>∃(W:Option V),n=[W,some (.str u)]/\RepAll s g ((bY true (a.2.take j) u).map aG)/\g.length<=j/\Same H4 s/\H4 D=none) λD a8=>⟨?_,?_,?_,?_⟩
    ·exact⟨none,rfl,.nil,BB _,Same.new a8,a8⟩
    ·rintro j g n s _ ⟨W,rfl,_,_,r,_⟩ _;exact .of (r _ _ y)
    ·rintro j g n s v hv ⟨W,rfl,I,al,r,l⟩ c;obtain⟨ch,a0,rfl⟩:=bu hv;have e3:=(BF.mp a0).1;have G:=lZ true (u:=u) a0;dsimp only[cF];refine⟨_,rfl,_,rfl,.sc rfl ⟨_,rfl,?_⟩⟩;refine aA (λL=>?_) (λL=>?_)
     ·have L:ch≠u:=λz=>by rw[if_pos rfl,z,BI rfl] at L;cases L
      rw[if_neg L] at G;refine⟨_,rfl,_,rfl,(szl 2),λt2 a1=>?_⟩;refine nw a1 λH5 st et=>?_;have b:=st _ _ c;have a4:=r.trans st;have a6:=I.same st;refine⟨b,ap (by omega),_,rfl,?_,by rw[BJ];show _+1<=_;omega,bq a4 l,l⟩;rw[G,BO];exact RepAll.append (aO (aL b But.upd) a6) (.cons (aL b But.upd (cg et)) .nil)
     ·have L:ch=u:=Classical.byContradiction λz=>L (by rw[if_pos rfl,BL (λw=>z (V.str.inj w))];rfl);rw[if_pos L,Cm] at G;exact⟨c,_,rfl,by rw[G];exact I,by omega,r,l⟩
    ·rintro g n H5 ⟨W,rfl,I,al,r,l⟩ c;rw[BA] at al;rw[BA,BS (BB _)] at I;have a5:=U.more r (BB _);have fx:=a5.ext (m:=60) I (jg true S c0) (BP (iC true a.2 u) p) d5;refine aD ⟨Z,D,_,_,rfl,rfl,a5.f,c,by omega,?_⟩;refine⟨_,fr++g,rfl,?_,by rw[ah c6];exact r _ _ y,by rw[ah nD];exact r _ _ b5⟩;have e:fs++((wU a.2 A "last").take (i+1)).flatMap (bY true a.2)=fs++((wU a.2 A "last").take i).flatMap (bY true a.2)++bY true a.2 u:=by
      rw[BW,X,DD,Cp];simp
     rw[e];exact fx.more (Same.refl _) (by omega)
   ·rintro σ H7 ⟨o5,f3,rfl,a3,d0,_⟩;have a2:=BP (kI a.2 A "last") p;rw[BA,BS (BB _)] at a3;have a3:=a3.more (m:=7400) (Same.refl _) (by omega);have c8:cH Y ts A a.1 a.2=ba [] (fs++(wU a.2 A "last").flatMap (bY true a.2)):=by
     unfold cH;rw[e4,<- Cp,e5]
    generalize fs++(wU a.2 A "last").flatMap (bY true a.2)=ps at a3 c8;refine⟨_,rfl,la,_,rfl,.of d0,λl1 e6=>?_⟩;refine nw e6 λH8 s8 e8=>?_;have a9:=a3.more s8 (BB _);have pl:=a9.l;refine⟨_,rfl,aD ⟨Z,_,ps,rfl,a9.f,a9.r,by omega,λd d9 H9 s9 f6 hd e1=>?_⟩⟩;refine⟨d,d9,rfl,hd,λl2 rs e2 rl e9=>?_⟩;refine nw e2 λf2 d3 d8=>?_;have e0:=(ug e1 rl e9).same d3;have c4:=s9.trans d3;refine aD ⟨(szl 2),λt ht=>?_⟩;have b0:=Same.new (o:=.tup [V.ref l1,V.ref l2]) ht;refine k (.ref t) _ ((a9.s.trans c4).trans b0) ?_;unfold mW;rw[c8];exact .tup af (.cons (.tup (b0 _ _ (c4 _ _ e8)) (RepAll.of_strs _)) (.cons (.tup (b0 _ _ d8) (e0.same b0)) .nil))
theorem jM {α β:Type}{f:α->List β}{m:Nat}:∀ {l:List α},(∀x∈l,(f x).length<=m)->(l.flatMap f).length<=l.length * m
 | [],_=>Cg _
 | x::l,h=>by
  rw[List.flatMap_cons,BJ,BN];have h1:=h x (by simp);have h2:=jM (l:=l) λy hy=>h y (BQ _ hy);rw[Nat.add_mul];omega
def sW:Sp:=λvs H Q _=>∃(q us ks:_) (ts ws wn:Prs) (k:Str × LS),vs=[.ref q,.str k.1]/\Rep H (.ref q) (bx ks ts ws wn)/\Tre us ks/\TsP us ks ts/\WnF us ks wn/\k∈ks/\ts.length<=200/\∀x H',Same H H'->Rep H' x (mW ks ts wn k)->Q x H'
theorem yG {f:Addr}{fd:FuncData}(F:Fun K "view" "view" xi f fd) (B:Blt mg) (b:Cal P w K mg base 2 "view_by" ["house","knot","partings"] jE) (a:Cal P w K mg base 3 "kept_partings" ["house"] kW):FnOk P w K mg base CX0 4 f fd ["house","knot"] sW:=by
 refine F.ok1 ["house","knot"] λD H Q E p h=>?_;obtain⟨q,g,i,r,n,j,A,rfl,R,T,d,s,e,o,k⟩:=h;refine⟨_,(ae (ai (pc b p (au (pv 0) (p2 (pv 1) (pc a p (p1 (pv 0)))))))),?_⟩;refine⟨_,rfl,_,rfl,_,rfl,q,g,i,r,n,j,rfl,R,T,d,o,λl c G m z u t=>?_⟩;refine aD ⟨q,l,g,i,r,n,j,A,c,rfl,R.same m,T,d,s,e,o,u,t,λx y C v=>?_⟩;exact k x y (m.trans C) v
theorem ur {us:LS}{ks:Kn}(T:Tre us ks) {wn:Prs}(W:WnF us ks wn) {k:Str × LS}(d:k∈ks) {word:Str}(e:word="first"∨word="last"):(wU k.2 wn word).length<=1:=by
 have c:(wU k.2 wn word).Nodup:=(bQ T d).filter _;have one:∀x∈wU k.2 wn word,∀y∈wU k.2 wn word,x=y:=λx b y a=>by
  unfold wU at b a;rw[Cj,decide_eq_true_iff] at b a;exact W.alike T d b.1 a.1 b.2 a.2
 generalize wU k.2 wn word=l at one c
 match l with
 | []=>exact Cg _
 | [x]=>exact BB _
 | x::y::l =>
  have:=one x (by simp) y (by simp);rw[this,Cd] at c;exact absurd (by simp) c.1
theorem uj {us:LS}{ks:Kn}(T:Tre us ks) {ts wn:Prs}(W:WnF us ks wn) {k:Str × LS}(a:k∈ks) (j:ts.length<=200):(cH ks ts wn k.1 k.2).length<=401:=by
 have p:=dy (bQ T a) λu b=>T.isIn a b;have e:=T.len;unfold cH;have c:=gR (ts.filterMap (cM ks k.1)++((wU k.2 wn "first").flatMap (bY false k.2)++(wU k.2 wn "last").flatMap (bY true k.2))) [];rw[BJ,BJ] at c;have h:=List.length_filterMap_le (cM ks k.1) ts;have d:=jM (f:=bY false k.2) (l:=wU k.2 wn "first") (m:=60) λu _=>BP (iC _ k.2 u) (by omega);have n:=jM (f:=bY true k.2) (l:=wU k.2 wn "last") (m:=60) λu _=>BP (iC _ k.2 u) (by omega);have o:=ur T W a (word:="first") (.inl rfl);have i:=ur T W a (word:="last") (.inr rfl);have g:([]:Prs).length=0:=rfl;omega
theorem wv {us:LS}{ks:Kn}(T:Tre us ks) {k:Str × LS}(a:k∈ks) {u v x y:Str}(e:u∈us) (g:v∈us) (h:bw ks u v=some (k.1,x,y)):x∈k.2/\y∈k.2:=by
 obtain⟨f,c,d,b,_⟩:=T.part e g h;have a:(k.1,k.2)∈ks:=a;exact⟨T.kid d (by rw[f];exact a),T.kid b (by rw[c];exact a)⟩
theorem mI {us:LS}{ks:Kn}(T:Tre us ks) {ts wn:Prs}(d:TsP us ks ts) {k:Str × LS}(i:k ∈ ks):∀e ∈ cH ks ts wn k.1 k.2, e.1 ∈ k.2 /\ e.2 ∈ k.2 := λe a => by
 unfold cH at a;rw[ft,BR,BR] at a;rcases a with a | a | a | a
 ·cases a
 ·obtain⟨z, b, q⟩ := Da.mp a;obtain⟨c,f,_⟩:=d z b;unfold cM at q;cases hpo:bw ks z.1 z.2 with
  | none=>rw[hpo] at q;cases q
  | some t3 =>
   obtain⟨g,h,j⟩:=t3;rw[hpo] at q;have q:(if g=k.1 then some (h,j) else none)=some e:=q;by_cases b:g=k.1
   ·rw[if_pos b] at q;have q:=BD q;subst q;rw[b] at hpo;exact wv T i c f hpo
   ·rw[if_neg b] at q;cases q
 ·obtain⟨u,c,a⟩:=Cw.mp a;exact jg (us:=k.2) false (λz b=>b) (mT c) e a
 ·obtain⟨u,c,a⟩:=Cw.mp a;exact jg (us:=k.2) true (λz b=>b) (mT c) e a
theorem tZ {f:Addr}{fd:FuncData}{tk:Tok}(F:Fun K "is_name" "is_name" li f fd) (B:Blt mg) (T:mg "MOST_SIGNS"=some (.int 8 tk)):FnOk P w K mg base CX0 1 f fd ["thing"] fh := by
 refine F.ok1 ["thing"] λZ H Q E hr h=>?_;obtain⟨x,rfl,G,k⟩:=h;obtain⟨t,O,R,_⟩:=ki (K:=K) G;refine⟨_,(aa (aJ (bH (bI (eJ K "str" B (p2 (pv 0) (mP B))))) (ae (ai bN)) aF)
  (aa (aJ (PW.pt (dt (aj dO (aQ K B (p1 (pv 0))) ac (av _)) (cT (aj eZ (aQ K B (p1 (pv 0))) (eS (v:=.int 8) rfl T ⟨_,rfl⟩) (av _))))) (ae (ai bN)) aF)
  (ae (ai (dG rfl B (p1 (bn (ak li) ["thing"] [] "sign" [] (AF (pv 0)) aT (vy iZ iZ aw (pv 0) aw)))))))),?_⟩
 refine⟨_,rfl,x,t,_,rfl,O,R,_,rfl,?_⟩;refine aA (λA=>?_) (λA=>?_)
 ·have e:iS x=false:=by cases x <;> first | rfl | (simp[isS] at A)
  have q:=k H (Same.refl H);rw[e] at q;exact q
 ·obtain⟨z, rfl⟩:∃z, x=.str z := by cases x <;> first | exact⟨_, rfl⟩ | (simp[isS] at A)
  have m:z.length<=sizeLine:=by
   cases G with
   | str h=>exact h
  refine⟨_,rfl,_,_,rfl,⟨m,rfl⟩,.int ⟨_,rfl,?_⟩⟩;refine aA (λs=>?_) (λs=>?_)
  ·refine dm ?_;have q:=k H (Same.refl H);have s:(z.length:Int)<1:=BX s;have e:iS (.str z)=false:=by
    show (decide (1<=z.length)&&_)=false;rw[BL (by omega)];rfl
   rw[e] at q;exact q
  ·have s:¬ (z.length:Int)<1 := of_decide_eq_false (by simpa using s);refine⟨_,rfl,_,_,rfl,⟨m,rfl⟩,_,_,rfl,rfl,_,rfl,?_⟩;refine aA (λr=>?_) (λr=>?_)
   ·have q:=k H (Same.refl H);have r:(8:Int)<z.length:=BX r;have e:iS (.str z)=false:=by
     show (decide (1<=z.length)&&(decide (z.length<=8)&&_))=false;rw[BL (show ¬ z.length<=8 by omega),Bool.false_and,Bool.and_false]
    rw[e] at q;exact q
   ·have r:¬ (8:Int)<z.length := of_decide_eq_false (by simpa using r);have e:iS (.str z)=z.cps.toList.all cY:=by
     show (decide (1<=z.length)&&(decide (z.length<=8)&&_))=_;rw[BI (show 1<=z.length by omega),BI (show z.length<=8 by omega),Dx,Dx]
    refine⟨_,rfl,z,rfl,?_⟩
    let u:Addr->Nat->LV->St->Hp->Prop:=λD i g d l=>∃o,d=[o]/\g=(z.cps.toList.take i).map (λc=>V.bl (cY c))/\Same H l/\H D=none
    refine wP u λD J=>⟨⟨none,rfl,rfl,Same.new J,J⟩,?_,?_⟩
    ·rintro i g d l c N ⟨o, rfl, rfl, y, j⟩ a;refine eV ?_;have I:∀b:Bool,b=cY c->(l D=some (.lst ((z.cps.toList.take i).map (λc=>V.bl (cY c))))/\((z.cps.toList.take i).map (λc=>V.bl (cY c))).length<sizeLine /\
         (∃o,[some (V.str ⟨#[c]⟩)]=[o]/\(z.cps.toList.take i).map (λc=>V.bl (cY c))++[V.bl b]=(z.cps.toList.take (i+1)).map (λc=>V.bl (cY c))/\Same H (upd l D (.lst ((z.cps.toList.take i).map (λc=>V.bl (cY c))++[V.bl b])))/\H D=none)):=λb Y=>by
      refine⟨a,?_,_,rfl,?_,?_,j⟩
      ·rw[BA];refine ap ?_;have:=List.length_take_le' i z.cps.toList;have L:z.length<=8:=by omega
       have hl:z.cps.toList.length=z.length:=by simp[Str.length]
       omega
      ·rw[BW,N,BO,Y];rfl
      ·intro M S C;rw[ah (ao C j)];exact y M S C
     refine⟨_,rfl,.str ⟨_,rfl,?_⟩⟩;have W:(!decide ((⟨#[c]⟩:Str).cps.toList<("a":Str).cps.toList))=decide (97<=c):=by
      show (!decide ([c]<[97]))=_;rw[uJ];by_cases p:c<97
      ·rw[BI p,BL (by omega)];rfl
      ·rw[BL p,BI (by omega)];rfl
     have U:(!decide (("z":Str).cps.toList<(⟨#[c]⟩:Str).cps.toList))=decide (c<=122):=by
      show (!decide ([122]<[c]))=_;rw[uJ];by_cases p:122<c
      ·rw[BI p,BL (by omega)];rfl
      ·rw[BL p,BI (by omega)];rfl
     rw[W];refine aA (λn=>?_) (λn=>?_)
     ·refine .str (I _ ?_);rw[U];unfold cY;rw[n,Dx]
     ·refine I false ?_;unfold cY;have n:decide (97<=c)=false:=by simpa using n
      rw[n,Bool.false_and]
    ·rintro g d l ⟨o,rfl,rfl,y,j⟩ a;rw[BS (BB _)] at a;refine⟨D,z.cps.toList.map cY,rfl,by rw[Cn];exact a,?_⟩;have q:=k l y;rw[e] at q;have X:(z.cps.toList.map cY).all id=z.cps.toList.all cY:=by rw[List.all_map];rfl
     rw[X];exact q
theorem nmS {s:Str}(h:Nm s):s.length<=sizeLine:=Ci (ap (by have:=h.2.1;omega))
def qG:Sp:=λvs H Q _=>∃q ss ts x,vs=[q,x]/\Web H q ss ts/\Thg H x/\(∀a xs,x=.ref a->H a=some (.lst xs)->xs.length<=1000/\∀v∈xs,Thg H v)/\∀H',Same H H'->Q (.bl (rT H ss x)) H'
theorem wS {f:Addr}{fd:FuncData}(F:Fun K "lists_things" "lists_things" nj f fd) (B:Blt mg) (e:Cal P w K mg base 1 "places_of" ["things"] iW) (j:Cal P w K mg base 1 "is_name" ["thing"] fh):FnOk P w K mg base CX0 2 f fd ["web", "thing"] qG := by
 refine F.ok1 ["web","thing","places"] λnd H Q E L h=>?_;obtain⟨q,l,ts,x,rfl,W,N,R,k⟩:=h;obtain⟨t,ty,_,_,_,t4,_⟩:=ki (K:=K) N;refine⟨_,(aa (aJ (bH (bI (eJ K "list" B (p2 (pv 1) (uB B))))) (ae (ai bN)) aF)
  (aa (cv (i:=2) nd rfl (Or.inr rfl) (pc e L (p1 (px K L (pv 0) ac))))
  (ae (ai (dG rfl B (p1 (bn (ak nj) ["web","thing","places"] [2] "part" ["places"] (bg K (pv 1)) aT (dh (pc j L (p1 (pv 0))) (dZ (bS (gx K L.units) (pv 0) (pv 1) (by with_unfolding_all rfl))))))))))),?_⟩
 refine⟨_,rfl,x,t,_,rfl,ty,t4,_,rfl,?_⟩;refine aA (λr=>?_) (λr=>?_)
 ·have r:isL H x=false:=by simpa using r
  have q:=k H (Same.refl H);rw[nN r] at q;exact q
 ·have r:isL H x=true := by simpa using r
  obtain⟨b,m,rfl,u⟩:=lE r;obtain⟨a2,Y⟩:=R b m rfl u;rw[jG u] at k;obtain⟨q,a,c,ws,rfl,hq,ha,hc,rp⟩:=km W.rep;have a3:=W.len;refine⟨_,rfl,.tup (.of hq) rfl ⟨_,rfl,.nm (.inr ha) (by omega) λd O I J a1 hd S a4 _ _=>?_⟩⟩;refine⟨_,rfl,b,rfl,⟨_,.of (J _ _ u)⟩,?_⟩
  let A:Addr->Nat->LV->St->Hp->Prop:=λD i p n U=>∃o,n=[o,some (.ref d)]/\p=(m.take i).map (λv=>V.bl (eo l v))/\Same I U/\I D=none
  refine cE m A λD Z=>⟨?_,?_,?_,?_⟩
  ·exact⟨none,rfl,rfl,Same.new Z,Z⟩
  ·rintro i p n U _ ⟨o,rfl,_,C,_⟩ _;exact .of (C _ _ (J _ _ u))
  ·rintro i p n U x T ⟨o, rfl, rfl, C, s⟩ g;have a0:=(BF.mp T).1;have N:=((Y x (BG T)).same J).same C;refine eV ?_;refine⟨_,rfl,x,rfl,N,λM G=>⟨_,rfl,?_⟩⟩;have y:∀b:Bool,b=eo l x->M D=some (.lst ((m.take i).map λv=>V.bl (eo l v)))/\((m.take i).map λv=>V.bl (eo l v)).length<sizeLine /\
       ∃o,[some x,some (V.ref d)]=[o,some (.ref d)]/\((m.take i).map λv=>V.bl (eo l v))++[V.bl b]=(m.take (i+1)).map (λv=>V.bl (eo l v))/\Same I (upd M D (.lst (((m.take i).map λv=>V.bl (eo l v))++[V.bl b])))/\I D=none:=λb u=>by
    refine⟨G _ _ g,?_,_,rfl,?_,bq (C.trans G) s,s⟩
    ·rw[BA,Ch];exact ap (by omega)
    ·rw[BW,T,BO,u];rfl
   refine aA (λX=>?_) (λX=>?_)
   ·cases x with
    | str z =>
     refine⟨_,rfl,_,rfl,.dic (DGet.k (k:=.inr z) (G _ _ (C _ _ hd))) ?_⟩;refine y _ ?_;show (aI O (.inr z)).isSome=decide (z∈l);rw[Cu,S z,decide_eq_true_iff]
    | _=>cases X
   ·refine y false ?_;cases x with
    | str z =>
     show false=decide (z∈l);rw[BL];intro hz;exact X (isNm_iff.mpr (W.nm z hz))
    | _=>rfl
  ·rintro p n M ⟨o,rfl,rfl,G,s⟩ g;rw[BS (BB _)] at g;refine⟨D,m.map (eo l),rfl,by rw[Cn];exact g,?_⟩;have e4:(m.map (eo l)).all id=m.all (eo l):=by rw[List.all_map];rfl
   rw[e4];exact k M (J.trans G)
def gK:LV->LS
 | []=>[]
 | .str s::r=>s::gK r
 | _::r=>gK r
theorem ir:∀ws:LS,gK (List.map V.str ws)=ws
 | []=>rfl
 | w::ws=>by show w::gK (List.map V.str ws)=_;rw[ir ws]
def iQ (ss:LS) (ts:List (Str × Str)) (xs:LV):Bool :=
 xs.all (eo ss)&&(decide (xs.length=ss.length)&&(decide (gK xs).Nodup&&ts.all λe=>decide (MG.ix (gK xs) e.1<MG.ix (gK xs) e.2)))
def oz (H:Hp) (ss:LS) (ts:List (Str × Str)):V->Bool
 | .ref a=>match H a with
  | some (.lst xs)=>iQ ss ts xs
  | _=>false
 | _=>false
theorem jI {H:Hp}{ss:LS}{ts:List (Str × Str)}{a:Addr}{xs:LV}(h:H a=some (.lst xs)):oz H ss ts (.ref a)=iQ ss ts xs:=by
 show (match H a with | some (.lst xs)=>iQ ss ts xs | _=>false)=_;rw[h]
theorem wh {H:Hp}{ss:LS}{ts:List (Str × Str)}{x:V}(h:isL H x=false):oz H ss ts x=false := by
 cases x with
 | ref a =>
  show (match H a with | some (.lst xs)=>iQ ss ts xs | _=>false)=false
  split
  ·rename_i xs e
   rw[pd e] at h;cases h
  ·rfl
 | _=>rfl
theorem perm_of:∀ {ws ss:LS},ws.Nodup->ws.length=ss.length->(∀w∈ws,w∈ss)->ws.Perm ss
 | [],ss,_,hl,_=>by
  have:ss=[]:=List.length_eq_zero_iff.mp hl.symm;rw[this]
 | w::r,ss,nd,hl,hm=>by
  obtain⟨h1,h2⟩:=Cd.mp nd;have hw:=hm w (by simp);have p:=List.perm_cons_erase hw;have pl:=p.length_eq;rw[BN] at pl hl;have ih:=perm_of (ws:=r) (ss:=ss.erase w) h2 (by omega) λx hx=>(List.mem_erase_of_ne (λz:x=w=>h1 (z ▸ hx))).mpr (hm x (BQ _ hx));exact(List.Perm.cons w ih).trans p.symm
def mL:Sp:=λvs H Q _=>∃q ss ts x,vs=[.ref q,x]/\Web H (.ref q) ss ts/\Thg H x/\(∀a xs,x=.ref a->H a=some (.lst xs)->xs.length<=1000/\∀v∈xs,Thg H v)/\∀H',Same H H'->Q (.bl (oz H ss ts x)) H'
theorem pM {f:Addr}{fd:FuncData}(F:Fun K "is_order" "is_order" jJ f fd) (B:Blt mg) (n:Cal P w K mg base 1 "places_of" ["things"] iW) (m:Cal P w K mg base 2 "lists_things" ["web", "thing"] qG):FnOk P w K mg base CX0 3 f fd ["web", "thing"] mL := by
 refine F.ok1 ["web","thing","places"] λnd H Q E t h=>?_;obtain⟨q,r,I,x,rfl,W,tx,X,k⟩:=h;refine⟨_,(aa (aJ (bH (bI (pc m t (p2 (pv 0) (pv 1))))) (ae (ai bN)) aF)
  (aa (cv (i:=2) nd rfl (Or.inr rfl) (pc n t (p1 (pv 1))))
  (aa (aJ (PW.pt (dt (aj (cW t.units) (aQ K B (p1 (pv 1))) (aQ K B (p1 (px K t (pv 0) ac))) (av _)) (cT (aj (cW t.units) (uZ B (p1 (pv 2))) (aQ K B (p1 (px K t (pv 0) ac))) (av _))))) (ae (ai bN)) aF)
  (ae (ai (dG rfl B (p1 (bn (ak jJ) ["web","thing","places"] [2] "tie" ["places"] (aP K (px K t (pv 0) ac)) aT (bS dO (px K t (pv 1) (px K t (pv 0) ac)) (px K t (pv 1) (px K t (pv 0) ac)) (av _)))))))))),?_⟩
 refine⟨_,rfl,_,rfl,.ref q,r,I,x,rfl,W,tx,X,λH1 s1=>⟨_,rfl,?_⟩⟩;cases hl:rT H r x with
 | false =>
  refine dm ?_;have z:=k H1 s1;have e:oz H r I x=false:=by
   cases q:isL H x with
   | false=>exact wh q
   | true =>
    obtain⟨b,xs,rfl,O⟩:=lE q;rw[jG O] at hl;rw[jI O];unfold iQ;rw[hl];rfl
  rw[e] at z;exact z
 | true =>
  refine bM ?_;have a1:isL H x=true:=by
   cases q:isL H x with
   | false=>rw[nN q] at hl;cases hl
   | true=>rfl
  obtain⟨b,xs,rfl,O⟩:=lE a1;rw[jG O] at hl;obtain⟨a5,_⟩:=X b xs rfl O;obtain⟨g,rfl,b0⟩:=nO hl;rw[BA] at a5;have a2:oz H r I (.ref b)=(decide (g.length=r.length)&&(decide g.Nodup&&I.all λe=>decide (MG.ix g e.1<MG.ix g e.2))):=by
   rw[jI O];unfold iQ;rw[hl,ir,BA]
   rfl
  rw[a2] at k;obtain⟨q',a,c,a3,e0,hq,ha,hc,rp⟩:=km W.rep;cases e0;have N:=rp.len;rw[BA] at N;refine⟨_,rfl,_,rfl,.nm (.inl (s1 _ _ O)) a5 λd p H2 s2 b3 hd a4 b1 a7 a9=>?_⟩;have L:=qf a7 a9 a4;have l:=s1.trans s2;have z2:=k H2 l;refine⟨_,rfl,_,_,rfl,Or.inl ⟨_,.of (l _ _ O),rfl⟩,_,rfl,.tup (.of (l _ _ hq)) rfl ⟨_,_,rfl,Or.inr ⟨_,.of (l _ _ ha),rfl⟩,.sc rfl ⟨_,rfl,?_⟩⟩⟩;have a8:(List.map V.str g).length=g.length:=BA ..;have Y:(List.map V.str r).length=r.length:=BA ..;rw[a8,Y];refine aA (λJ=>?_) (λJ=>?_)
  ·have J:(!decide (V.int (g.length:Nat)=V.int (r.length:Nat)))=true:=J;have R:¬ g.length=r.length:=λz=>by rw[z,BI rfl] at J;cases J
   refine dm ?_;rw[BL R] at z2;exact z2
  ·have J:¬ (!decide (V.int (g.length:Nat)=V.int (r.length:Nat)))=true := J;have A:g.length=r.length:=Classical.byContradiction λz=>J (by rw[BL (λy=>z (by have:=V.int.inj y;omega))];rfl);rw[BI A,Dx] at k;have z2:=k H2 l;refine⟨_,rfl,d,p,rfl,hd,_,rfl,.tup (.of (l _ _ hq)) rfl ⟨_,_,rfl,Or.inr ⟨_,.of (l _ _ ha),rfl⟩,.sc rfl ⟨_,rfl,?_⟩⟩⟩;rw[Y];refine aA (λG=>?_) (λG=>?_)
   ·have G:(!decide (V.int (p.length:Nat)=V.int (r.length:Nat)))=true:=G;have R:¬ g.Nodup:=λz=>by
     have:=L.mpr z;rw[this,A,BI rfl] at G;cases G
    rw[BL R] at z2;exact z2
   ·have G:¬ (!decide (V.int (p.length:Nat)=V.int (r.length:Nat)))=true := G;have hk:p.length=r.length:=Classical.byContradiction λz=>G (by rw[BL (λy=>z (by have:=V.int.inj y;omega))];rfl);have T:g.Nodup:=L.mp (hk.trans A.symm);have pm:=perm_of T A b0;rw[BI T,Dx] at k;have b2:=W.few;have Z:∀z,z∈r->aI p (.inr z)=some (.int ((MG.ix g z:Nat):Int)):=λz hz=>by
     obtain⟨v,hv⟩:=CT.mp ((a4 z).mpr (pm.mem_iff.mpr hz));obtain⟨j,rfl,hj⟩:=b1 z v hv;rw[hv,MG.ix_at T hj]
    refine⟨_,rfl,.tup (.of (l _ _ hq)) rfl ⟨_,rfl,⟨_,.of (l _ _ hc)⟩,?_⟩⟩
    let a6:Addr->Nat->LV->St->Hp->Prop:=λD i u C H'=>∃o,C=[o,some (.ref d)]/\u=(I.take i).map (λe=>V.bl (decide (MG.ix g e.1<MG.ix g e.2)))/\Same H2 H'/\H2 D=none
    refine dH a3 a6 λD hD=>⟨?_,?_,?_,?_⟩
    ·exact⟨none,rfl,rfl,Same.new hD,hD⟩
    ·rintro i u C H' _ ⟨o,rfl,_,U,_⟩ _;exact .of (U _ _ (l _ _ hc))
    ·rintro i u C H' x hx ⟨o,rfl,rfl,U,S⟩ s;obtain⟨e,ta,he,rfl,a0⟩:=bP ((rp.same l).same U) hx;have a1:=(BF.mp he).1;have M:=W.inn e (BG he);refine eV ?_;refine⟨_,rfl,_,rfl,.tup (.of a0) rfl (.dic (.inl ⟨p,.inr e.1,.inl (U _ _ hd),rfl,(Z e.1 M.1).symm⟩) ⟨_,rfl,_,rfl,.tup (.of a0) rfl (.dic (.inl ⟨p,.inr e.2,.inl (U _ _ hd),rfl,(Z e.2 M.2).symm⟩) (.int ⟨s,by rw[BA,Ch];exact ap (by omega),_,rfl,?_,bq U S,S⟩))⟩)⟩;rw[BW,he,BO];show _++[V.bl (decide (((MG.ix g e.1:Nat):Int)<((MG.ix g e.2:Nat):Int)))]=_++[V.bl (decide (MG.ix g e.1<MG.ix g e.2))]
     have:decide (((MG.ix g e.1:Nat):Int)<((MG.ix g e.2:Nat):Int))=decide (MG.ix g e.1<MG.ix g e.2):=by
      rw[Cu,decide_eq_true_iff,decide_eq_true_iff];omega
     rw[this]
    ·rintro u C H3 ⟨o,rfl,rfl,s3,S⟩ s;rw[N,BS (BB _)] at s;refine⟨D,I.map (λe=>decide (MG.ix g e.1<MG.ix g e.2)),rfl,by rw[Cn];exact s,?_⟩;have e4:(I.map (λe=>decide (MG.ix g e.1<MG.ix g e.2))).all id=I.all λe=>decide (MG.ix g e.1<MG.ix g e.2):=by rw[List.all_map];rfl
     rw[e4];exact k H3 (l.trans s3)
theorem mS {H H':Hp}{a:Addr}{xs:LV}(h:SqA H a xs) (s:Same H H'):H' a=H a:=by
 rcases h with h | h <;> rw[h,s _ _ h]
theorem zf {K:W.Frag}{a:Addr}{xs:LV}{g:TG}{tb:TS}{D:Ends}{σ:St}{H0:Hp}(Pv:Nat -> St -> Hp -> Prop) (b:SqA H0 a xs) (e:Pv 0 σ H0) (f:∀i σ H, i <= xs.length -> Pv i σ H -> H a=H0 a)
    (d:∀i x σ H,xs[i]? = some x->Pv i σ H->g x σ H λσ2 H2=>tb { D with nx:=Pv (i+1),ct:=Pv (i+1),bk:=D.nx } σ2 H2) (hd:∀σ H,Pv xs.length σ H->D.nx σ H) :
    (∃xs,SqL K H0 a xs)/\(∃W:Nat->Nat->St->Hp->Prop,(∃m,W 0 m σ H0)/\∀i m σ H,W i m σ H ->
     ((Itl K a).stop i H/\D.nx σ H)∨((Itl K a).go i H/\∃N:St->Hp->Prop,(∀σ' H',N σ' H'->∃z,z<m/\W (i+1) z σ' H')/\∀x H',(Itl K a).yld i H x H'->g x σ H' λσ2 H2=>tb { D with nx:=N,ct:=N,bk:=D.nx } σ2 H2)) ∨
    (∃xs,SqT K H0 a xs)/\(∃W:Nat->Nat->St->Hp->Prop,(∃m,W 0 m σ H0)/\∀i m σ H,W i m σ H ->
     ((Itt K a).stop i H/\D.nx σ H)∨((Itt K a).go i H/\∃N:St->Hp->Prop,(∀σ' H',N σ' H'->∃z,z<m/\W (i+1) z σ' H')/\∀x H',(Itt K a).yld i H x H'->g x σ H' λσ2 H2=>tb { D with nx:=N,ct:=N,bk:=D.nx } σ2 H2)):=by
 rcases b with b | b
 ·exact .inl ⟨⟨xs,.of b⟩,pi Pv e (λi σ H c p=>.of ((f i σ H c p).trans b)) d hd⟩
 ·exact .inr ⟨⟨xs,.of b⟩,qg Pv e (λi σ H c p=>.of ((f i σ H c p).trans b)) d hd⟩
structure WebA (H:Hp) (v:V) (ss:LS) (ts:List (Str × Str)):Prop where
 rep:∃q a b xs,v=.ref q/\H q=some (.tup [.ref a,.ref b])/\SqA H a (List.map V.str ss)/\SqA H b xs/\RepAll H xs (ts.map aG)
 nd:ss.Nodup
 nm:∀s∈ss,Nm s
 len:ss.length<=60
 few:ts.length<=410
 inn:∀e∈ts,e.1∈ss/\e.2∈ss
theorem WebA.same {H H':Hp}{v:V}{ss:LS}{ts:List (Str × Str)}(h:WebA H v ss ts) (s:Same H H'):WebA H' v ss ts :=
 ⟨let ⟨q,a,b,g,e,d,f,i,c⟩:=h.rep;⟨q,a,b,g,e,s _ _ d,f.same s,i.same s,c.same s⟩,h.nd,h.nm,h.len,h.few,h.inn⟩
theorem webA {H:Hp}{v:V}{ss:LS}{ts:List (Str × Str)}(h:Web H v ss ts):WebA H v ss ts :=
 ⟨let ⟨q,a,b,g,e,d,f,i,c⟩:=km h.rep;⟨q,a,b,g,e,d,.inr f,.inr i,c⟩,h.nd,h.nm,h.len,BP h.few (by decide),h.inn⟩
def oo (rev:Bool):Sp:=λvs H Q _=>∃q ss ts s,vs=[q,.str s]/\WebA H q ss ts /\
 ∀l H',Same H H'->H l=none->H' l=some (.lst (List.map V.str (iD ss (if rev then kN ts else ts) s)))->Q (.ref l) H'
def jv (rev:Bool):Sp:=λvs H Q _=>∃q ss ts,vs=[q]/\WebA H q ss ts /\
 ∀d H',Same H H'->H d=none->Tab H' d ss (iD ss (if rev then kN ts else ts))->Q (.ref d) H'
theorem mM {ts:List (Str × Str)}{s t:Str}:t ∈ (ts.filter λe => decide (e.1=s)).map (λe => e.2) ↔ (s, t) ∈ (if false then kN ts else ts) := by
 rw[BE]
 constructor
 ·rintro⟨⟨x,y⟩,h,rfl⟩;have h:=Cj.mp h;have a:=BX h.2;subst a
  first
   | exact h.1
   | exact mem_flip.mpr h.1
 ·intro h
  first
   | exact⟨(s,t),Cj.mpr ⟨h,BI rfl⟩,rfl⟩
   | exact⟨(t,s),Cj.mpr ⟨mem_flip.mp h,BI rfl⟩,rfl⟩
theorem vd {f:Addr}{fd:FuncData}(F:Fun K "nexts" "nexts" kJ f fd) (B:Blt mg) (p:Cal P w K mg base 1 "places_of" ["things"] oj):FnOk P w K mg base CX0 2 f fd ["web", "one"] (oo false) := by
 refine F.ok1 ["web","one","found"] λnd H Q E L h=>?_;obtain⟨q,I,G,s,rfl,W,k⟩:=h;refine⟨_,(aa (cv (i:=2) nd rfl (Or.inr rfl) (pc p L (p1 (bn (ak kJ) ["web","one","found"] [1] "tie" ["one"] (lg K (px K L (pv 0) ac)) (dP (aj (bc L.units) (px K L (pv 0) ac) (pv 1) (av _))) (px K L (pv 0) ac)))))
  (ae (ai (bn (ak kJ) ["web","one","found"] [2] "thing" ["found"] (lg K (px K L (pv 0) ac)) (dP (aj (gx K L.units) (pv 0) (pv 1) (by with_unfolding_all rfl))) (pv 0))))),?_⟩
 obtain⟨q,a,b,xs,rfl,hq,ha,hb,rp⟩:=W.rep;have A:=rp.len;rw[BA] at A;refine⟨_,rfl,.tup (.of hq) rfl ⟨_,rfl,?_⟩⟩
 let S:Addr->Nat->LV->St->Hp->Prop:=λD i m n C=>∃o,n=[o,some (.str s)]/\m=((G.take i).filter λe=>decide (e.1=s)).map (λe=>V.str e.2)/\Same H C/\H D=none
 refine nQ xs S hb λD hD=>⟨?_,?_,?_,?_⟩
 ·exact⟨none,rfl,rfl,Same.new hD,hD⟩
 ·rintro i m n C _ ⟨o,rfl,_,u,_⟩ _;exact mS hb u
 ·rintro i m n C x J ⟨o, rfl, g, u, l⟩ j;obtain⟨d,hd,rd⟩:=(rp.same u).get J;rw[BM] at hd;obtain⟨e,X,rfl⟩:∃e,G[i]? = some e/\aG e=d:=by
   cases q:G[i]? with
   | none=>rw[q] at hd;cases hd
   | some e=>rw[q] at hd;exact⟨e,rfl,BD hd⟩
  obtain⟨ta,rfl,N⟩:=jh rd;have U:=(BF.mp X).1;refine⟨_,rfl,.tup (.of N) rfl ⟨_,rfl,.sc rfl ⟨_,rfl,?_⟩⟩⟩;refine aA (λr=>?_) (λr=>?_)
  ·have r:e.1=s:=V.str.inj (BX r);refine⟨_,rfl,.tup (.of N) rfl ⟨j,?_,_,rfl,?_,?_,l⟩⟩
   ·rw[g,BA];have T:=CP (λe:Str × Str=>decide (e.1=s)) (G.take i);rw[Ch] at T;have:=W.few;exact ap (by omega)
   ·rw[BW,X,g,CA,BO];simp[r]
   ·intro c o O;rw[ah (ao O l)];exact u _ _ O
  ·have r:¬ e.1=s:=λz=>r (BI (congrArg V.str z));refine⟨j,_,rfl,?_,u,l⟩;rw[BW,X,g,CA,BO];simp[r]
 ·rintro m n H1 ⟨o, rfl, g, s1, l⟩ j;rw[A,BS (BB _)] at g;have ea:m=List.map V.str ((G.filter λe=>decide (e.1=s)).map (λe=>e.2)):=by rw[g,Cn];rfl
  refine⟨D,_,rfl,by rw[<- ea];exact j,?_,?_⟩
  ·rw[BA];have T:=CP (λe:Str × Str=>decide (e.1=s)) G;have:=W.few;omega
  ·intro d v H2 s2 a0 hk Z a1;have y:=s1.trans s2;refine⟨_,rfl,.tup (.of (y _ _ hq)) rfl ⟨_,rfl,?_⟩⟩
   let R:Addr->Nat->LV->St->Hp->Prop:=λD i m n C=>∃o,n=[o,some (.ref d)]/\m=List.map V.str ((I.take i).filter λt=>(aI v (.inr t)).isSome)/\Same H2 C/\H2 D=none
   refine nQ (List.map V.str I) R (ha.same y) λD' M=>⟨?_,?_,?_,?_⟩
   ·exact⟨none,rfl,rfl,Same.new M,M⟩
   ·rintro i m n C _ ⟨o,rfl,_,u,_⟩ _;exact mS (ha.same y) u
   ·rintro i m n C x J ⟨o, rfl, g, u, l⟩ j;rw[BM] at J;obtain⟨t,Y,rfl⟩:∃t,I[i]? = some t/\V.str t=x:=by
     cases q:I[i]? with
     | none=>rw[q] at J;cases J
     | some e=>rw[q] at J;exact⟨e,rfl,BD J⟩
    have U:=(BF.mp Y).1;refine⟨_,rfl,_,rfl,.dic (DGet.k (k:=.inr t) (u _ _ hk)) ⟨_,rfl,?_⟩⟩;refine aA (λr=>?_) (λr=>?_)
    ·refine⟨_,rfl,j,?_,_,rfl,?_,?_,l⟩
     ·rw[g,BA];have T:=CP (λt:Str=>(aI v (.inr t)).isSome) (I.take i);rw[Ch] at T;have:=W.len;exact ap (by omega)
     ·have r:(aI v (.inr t)).isSome=true:=r;rw[BW,Y,g,CA,BO];simp[r]
     ·intro c o O;rw[ah (ao O l)];exact u _ _ O
    ·have r:¬ (aI v (.inr t)).isSome=true:=r;refine⟨j,_,rfl,?_,u,l⟩;rw[BW,Y,g,CA,BO];simp[r]
   ·rintro m n C ⟨o, rfl, g, u, l⟩ j;rw[BA,BS (BB _)] at g;refine k _ _ (y.trans u) ?_ ?_
    ·cases e:H D' with
     | none=>rfl
     | some o=>rw[y _ _ e] at l;cases l
    ·rw[j,g];have:(I.filter λt=>(aI v (.inr t)).isSome)=iD I (if false then kN G else G) s:=by
      unfold iD;refine List.filter_congr λt _=>?_;rw[Cu,Z t,mM,decide_eq_true_iff]
     rw[this]
theorem kH {f:Addr}{fd:FuncData}(F:Fun K "nexts_of_all" "nexts_of_all" ma f fd) (B:Blt mg) (m:Cal P w K mg base 2 "nexts" ["web", "one"] (oo false)):FnOk P w K mg base CX0 3 f fd ["web"] (jv false) := by
 refine F.ok1 ["web","table","thing"] λR H Q E N h=>?_;obtain⟨q,v,O,rfl,W,k⟩:=h;refine⟨_,(aa (pst 1 R ew)
  (aa (aZ PassesOwn.never rfl (lg K (px K N (pv 0) ac)) (az (i:=2) R rfl (Or.inl rfl)) (ae (bU (pc m N (p2 (pv 0) (pv 2))) (ce (pv 1) (pv 2) (cC N.units)))))
  (ae (ai (pv 1))))),?_⟩
 intro d hd;have W1:=W.same (Same.new (o:=.dK []) hd);obtain⟨q,a,b,xs,rfl,hq,L,hb,rp⟩:=W.rep;have G:=Same.new (o:=.dK []) hd;refine⟨_,rfl,.tup (.of (G _ _ hq)) rfl ⟨_,rfl,?_⟩⟩
 let y:Nat->St->Hp->Prop:=λi D p=>∃I g,D=[some (.ref q),some (.ref d),I]/\Same H p/\p d=some (.dK g)/\g.length<=i/\∀s∈v.take i,∃l,aI g (.inr s)=some (.ref l)/\p l=some (.lst (List.map V.str (iD v (if false then kN O else O) s)))
 refine zf (xs:=List.map V.str v) y (L.same G) ?_ ?_ ?_ ?_
 ·exact⟨none,[],rfl,G,af,BB _,λs n=>by simp at n⟩
 ·rintro i D p hi ⟨I,g,rfl,u,_⟩;exact(mS L u).trans (mS L G).symm
 ·rintro i x D p C ⟨I, g, rfl, u, M, Y, j⟩;rw[BM] at C;obtain⟨t,T,rfl⟩:∃t,v[i]? = some t/\V.str t=x:=by
   cases q:v[i]? with
   | none=>rw[q] at C;cases C
   | some e=>rw[q] at C;exact⟨e,rfl,BD C⟩
  have Z:=(BF.mp T).1;refine⟨_,rfl,_,rfl,.ref q,v,O,t,rfl,W.same u,λl H2 J hl A=>?_⟩;have r:=J _ _ M;have:=W.len;refine⟨_,rfl,_,rfl,.dic (DPut.k (k:=.inr t) r (ap (by omega))) ⟨_,_,rfl,?_,af,?_,?_⟩⟩
  ·intro c o S;rw[ah (ao S hd)];exact J _ _ (u _ _ S)
  ·have:=bR g (.inr t) (V.ref l);omega
  ·intro s n;rw[BW,T,BR] at n;by_cases q:s=t
   ·subst q;refine⟨l,by rw[cJ,if_pos rfl],?_⟩;rw[ah (bK A r (by intro z;cases z))];exact A
   ·rcases n with n | n
    ·obtain⟨X,e1,U⟩:=j s n;refine⟨X,by rw[cJ,if_neg (λz=>q (Sum.inr.inj z))];exact e1,?_⟩;rw[ah (bK (J _ _ U) r (by intro z;cases z))];exact J _ _ U
    ·exact absurd (by simpa using n) q
 ·rintro D p ⟨I,g,rfl,u,M,_,j⟩;rw[BA,BS (BB _)] at j;exact⟨_,rfl,k d p u hd ⟨g,M,j⟩⟩
structure Stp (H H':Hp) (ss:LS) (e:Addr) (look:Str->Option Nat) (kvs:List (Key × V)):Prop where
 sm:Same H H'
 at_:H' e=some (.dK kvs)
 lk:∀t,aI kvs (.inr t)=(look t).map λk:Nat=>V.int (k:Int)
 nd:(kvs.map (·.1)).Nodup
 ks:∀k∈kvs.map (·.1),∃t∈ss,k=Sum.inr t
theorem Stp.len {H H':Hp}{ss:LS}{e:Addr}{look:Str->Option Nat}{kvs:List (Key × V)}(h:Stp H H' ss e look kvs):kvs.length<=ss.length:=by
 have:=h.nd.length_le_of_subset (l₂:=ss.map (Sum.inr:Str->Key)) λk a=>by
  obtain⟨t,b,rfl⟩:=h.ks k a;exact BE.mpr ⟨t,b,rfl⟩
 simpa using this
theorem Stp.oth {H H':Hp}{ss:LS}{e b:Addr}{look:Str->Option Nat}{kvs:List (Key × V)}{o:HO}(h:Stp H H' ss e look kvs) (d:H b=none) (n:e≠b):Stp H (upd H' b o) ss e look kvs :=
 ⟨λc f a=>by rw[ah (ao a d)];exact h.sm _ _ a,by rw[ah n];exact h.at_,h.lk,h.nd,h.ks⟩
theorem Stp.put {H H':Hp}{ss:LS}{e:Addr}{look:Str -> Option Nat}{kvs:List (Key × V)}(h:Stp H H' ss e look kvs) (he:H e=none) {t:Str}(i:t ∈ ss) (g:look t=none) (k:Nat) :
    Stp H (upd H' e (.dK (aS kvs (.inr t) (.int (k:Int))))) ss e (λa=>if a=t then some k else look a) (aS kvs (.inr t) (.int (k:Int))):=by
 have f:aI kvs (.inr t)=none:=by rw[h.lk,g];rfl
 refine⟨λc j d=>by rw[ah (ao d he)];exact h.sm _ _ d,af,λu=>?_,qj _ h.nd f,λq b=>?_⟩
 ·rw[cJ];by_cases q:u=t
  ·subst q;rw[if_pos rfl];simp
  ·rw[if_neg (λz=>q (Sum.inr.inj z)),h.lk u];simp[q]
 ·rw[jL _ f,BO] at b;rcases BR.mp b with b | b
  ·exact h.ks q b
  ·have:q=Sum.inr t:=by simpa using b
   exact⟨t,i,this⟩
def pf:Sp:=λvs H Q _=>∃d st s ss f,vs=[.ref d,.ref st]/\H st=some (.lst [V.str s])/\Tab H d ss f/\s∈ss/\ss.length<=60/\(∀t∈ss,∀u∈f t,u∈ss) /\
 ∀e kvs H',Same H H'->H e=none->H' e=some (.dK kvs)->(∀t v,aI kvs (.inr t)=some v ↔ ∃k:Nat,v=.int k/\MG.Dst (Ner ss f) s k t)->Q (.ref e) H'
theorem vh {f:Addr}{fd:FuncData}(F:Fun K "steps_from" "steps_from" sO f fd) (B:Blt mg):FnOk P w K mg base CX0 1 f fd ["table", "starts"] pf := by
 refine F.ok1 ["table","starts","steps","start","edge","further","thing","near"] λnd H Q E hr h=>?_;obtain⟨d,st,s,I,Y,rfl,a6,T,hs,c9,b2,k⟩:=h;refine⟨_,(aa (pst 2 nd ew)
  (aa (aZ PassesOwn.never rfl (bg K (pv 1)) (az (i:=3) nd rfl (Or.inl rfl)) (ae (bU ac (ce (pv 2) (pv 3) (cC hr.units)))))
  (aa (pst 4 nd (fC K rfl B (p1 (pv 1))))
  (aa (gB PassesOwn.never (aj eZ (aQ K B (p1 (pv 4))) ac (av _)) (aa (pst 5 nd (bt bO))
  (aa (aZ PassesOwn.never rfl (bg K (pv 4)) (az (i:=6) nd rfl (Or.inl rfl)) (ae (aZ PassesOwn.never rfl (bg K (px K hr (pv 0) (pv 6))) (az (i:=7) nd rfl (Or.inl rfl)) (ae (aJ (aj (cO K hr.units) (pv 7) (pv 2) (by with_unfolding_all rfl)) (aa (bU (aH aK (px K hr (pv 2) (pv 6)) ac) (ce (pv 2) (pv 7) (cC hr.units)))
  (ae (bh (dj K (pv 5) (p1 (pv 7)))))) aF)))))
  (ae (pst 4 nd (pv 5))))))
  (ae (ai (pv 2))))))),?_⟩
 have b9:∀y,MG.Rch (Ner I Y) s y->y∈I:=λy r=>MG.Rch.closed (S:=λy=>y∈I) hs (λa b ha r=>b2 a ha b r.2) r;intro e he;have a4:st≠e:=ao a6 he;refine⟨_,rfl,st,rfl,⟨_,.of (by rw[ah a4];exact a6)⟩,?_⟩
 let b0:Nat->St->Hp->Prop:=λi O C=>∃o3 o4 N G o7,O=[some (.ref d),some (.ref st),some (.ref e),o3,o4,N,G,o7]/\C st=some (.lst [V.str s])/\(i=0->C=upd H e (.dK []))/\(i≠0->∃kvs,Stp H C I e (λa=>if a=s then some 0 else none) kvs)
 refine dD (R:=Q) (xs:=[V.str s]) b0 ?_ ?_ ?_ ?_
 ·exact⟨none,none,none,none,none,rfl,by rw[ah a4];exact a6,λ_=>rfl,λz=>absurd rfl z⟩
 ·rintro i O C hi ⟨o3,o4,N,G,o7,rfl,Z,_⟩;exact .of Z
 ·rintro _ i x O C W ⟨o3,o4,N,G,o7,rfl,Z,h2,_⟩;have hi:i<1:=(BF.mp W).1;have hi:i=0:=by omega
  subst hi;have W:V.str s=x:=BD W;subst W;have h2:=h2 rfl;subst h2;have h0:Stp H (upd (upd H e (.dK [])) e (.dK (aS [] (.inr s) (.int ((0:Nat):Int))))) I e (λa=>if a=s then some 0 else none) (aS [] (.inr s) (.int ((0:Nat):Int))) :=
   Stp.put (kvs:=[]) (look:=λ_=>none) ⟨Same.new he,af,λt=>rfl,CC,λk hk=>by cases hk⟩ he hs rfl 0
  refine⟨_,rfl,_,rfl,.dic (DPut.k (k:=.inr s) af (by show 0<sizeLine;decide)) ⟨_,_,_,_,_,rfl,by rw[ah a4];exact Z,λz=>absurd z (by omega),λ_=>⟨_,h0⟩⟩⟩
 rintro O H1 ⟨o3,o4,N,G,o7,rfl,b3,_,hS⟩;obtain⟨d2,h0⟩:=hS (by show 1≠0;omega);refine⟨_,rfl,_,rfl,.seq (.inl (.of b3)) λl0 a9=>?_⟩;have a5:H l0=none:=by
  cases q:H l0 with
  | none=>rfl
  | some o=>rw[h0.sm _ _ q] at a9;cases a9
 have Z:=h0.oth (o:=.lst [V.str s]) a5 (ao h0.at_ a9)
 let b4:Nat->St->Hp->Prop:=λm O C=>∃L U c kvs look o3 o4 N G,m+L=I.length/\O=[some (.ref d),some (.ref st),some (.ref e),o3,some (.ref U),o4,N,G]/\Stp H C I e look kvs/\H U=none/\C U=some (.lst (List.map V.str c))/\c.length<=60/\MG.Lev (Ner I Y) s L look c
 refine⟨b4,
  ⟨I.length,0,l0,[s],_,_,o3,N,G,o7,by omega,rfl,Z,a5,af,by show 1<=60;decide,MG.Lev.start λy=>rfl⟩,?_⟩
 rintro m O H2 ⟨L,U,c,kvs,look,o3,o4,N,G,hm,rfl,S,c8,A,d0,a3⟩;refine⟨_,rfl,_,_,rfl,Or.inl ⟨_,.of A,rfl⟩,_,_,rfl,rfl,_,rfl,?_⟩;refine aA (λX=>?_) (λX=>?_)
 ·have X:(0:Int)<((List.map V.str c).length:Nat) := BX X;rw[BA] at X;have hL:L<I.length:=by
   cases c with
   | nil=>simp at X
   | cons y r=>exact MG.Dst.lt b9 ((a3.edg y).mp (by simp))
  let c1:St->Hp->Prop:=λb8 C=>∃U c kvs look o3 o4 N G,b8=[some (.ref d),some (.ref st),some (.ref e),o3,some (.ref U),o4,N,G]/\Stp H C I e look kvs/\H U=none/\C U=some (.lst (List.map V.str c))/\c.length<=60/\MG.Lev (Ner I Y) s (L+1) look c
  refine⟨c1,
   λb8 C ⟨U,c,kvs,look,o3,o4,N,G,p⟩=>⟨m-1,by omega,L+1,U,c,kvs,look,o3,o4,N,G,by omega,p⟩,?_⟩
  refine⟨(szl 0),λlf u=>?_⟩;have a2:H lf=none:=by
   cases q:H lf with
   | none=>rfl
   | some o=>rw[S.sm _ _ q] at u;cases u
  have a8:U≠lf:=ao A u;have S1:=S.oth (o:=.lst []) a2 (ao S.at_ u);refine⟨_,rfl,U,rfl,⟨_,.of (by rw[ah a8];exact A)⟩,?_⟩
  let b7:Nat->St->Hp->Prop:=λi O C=>∃kvs look g N G,O=[some (.ref d),some (.ref st),some (.ref e),o3,some (.ref U),some (.ref lf),N,G]/\Stp H C I e look kvs/\C U=some (.lst (List.map V.str c))/\C lf=some (.lst (List.map V.str g))/\g.Nodup/\(∀t∈g,t∈I)/\MG.Mid (Ner I Y) s L look g (λz y=>z∈c.take i/\Ner I Y z y)
  refine dD (R:=Q) (xs:=List.map V.str c) b7 ?_ ?_ ?_ ?_
  ·exact⟨kvs,look,[],N,G,rfl,S1,by rw[ah a8];exact A,af,CC,(λt ht=>by cases ht),a3.mid.wk λa b h=>by simp at h⟩
  ·rintro i O C hi ⟨kvs,look,g,N,G,rfl,S,A,_⟩;exact .of A
  ·rintro _ i x O C W ⟨kvs, look, g, N, G, rfl, S, A, u, M, J, D⟩;rw[BM] at W;obtain⟨z,hz,rfl⟩:∃z,c[i]? = some z/\V.str z=x:=by
    cases q:c[i]? with
    | none=>rw[q] at W;cases W
    | some e=>rw[q] at W;exact⟨e,rfl,BD W⟩
   have dz:=(a3.edg z).mp (BG hz);have a7:=b9 z dz.rch;obtain⟨c3,hd,ht⟩:=T;obtain⟨l,el,hl⟩:=ht z a7;have c5:=S.sm _ _ hl;refine⟨_,rfl,_,rfl,.dic (.inl ⟨c3,.inr z,.inl (S.sm _ _ hd),rfl,el.symm⟩) ⟨l,rfl,⟨_,.of c5⟩,?_⟩⟩
   let b1:Nat->St->Hp->Prop:=λj O C=>∃kvs look g G,O=[some (.ref d),some (.ref st),some (.ref e),o3,some (.ref U),some (.ref lf),some (.str z),G]/\Stp H C I e look kvs/\C U=some (.lst (List.map V.str c))/\C lf=some (.lst (List.map V.str g))/\g.Nodup/\(∀t∈g,t∈I)/\MG.Mid (Ner I Y) s L look g (λa y=>(a∈c.take i/\Ner I Y a y)∨(a=z/\y∈(Y z).take j))
   refine dD (R:=Q) (xs:=List.map V.str (Y z)) b1 ?_ ?_ ?_ ?_
   ·exact⟨kvs,look,g,G,rfl,S,A,u,M,J,D.wk λa b h=>by simpa using h⟩
   ·rintro j O C hj ⟨kvs,look,g,G,rfl,S,_⟩;exact .of (S.sm _ _ hl)
   ·rintro _ j x O C W ⟨kvs, look, g, G, rfl, S, A, u, M, J, D⟩;rw[BM] at W;obtain⟨y,hy,rfl⟩:∃y,(Y z)[j]? = some y/\V.str y=x:=by
     cases q:(Y z)[j]? with
     | none=>rw[q] at W;cases W
     | some e=>rw[q] at W;exact⟨e,rfl,BD W⟩
    have c0:=BG hy;have b5:=b2 z a7 y c0;have a1:∀a b,((a∈c.take i/\Ner I Y a b)∨(a=z/\b∈(Y z).take (j+1)))->((a∈c.take i/\Ner I Y a b)∨(a=z/\b∈(Y z).take j))∨(a=z/\b=y):=by
     intro a b h;rcases h with h | ⟨Z,h2⟩
     ·exact .inl (.inl h)
     ·rw[BW,hy,BR] at h2;rcases h2 with h2 | h2
      ·exact .inl (.inr ⟨Z,h2⟩)
      ·exact .inr ⟨Z,by simpa using h2⟩
    refine⟨_,rfl,_,rfl,.dic (DGet.k (k:=.inr y) S.at_) ⟨_,rfl,?_⟩⟩;rw[S.lk y];refine aA (λX=>?_) (λX=>?_)
    ·have X:¬ (look y).isSome=true := by simpa using X
     have hn:look y=none:=by simpa using X
     have c7:aI kvs (.inr z)=some (V.int (L:Int)):=by rw[S.lk,D.cmp z L (BB _) dz];rfl
     refine⟨_,rfl,_,rfl,.dic (.inl ⟨kvs,.inr z,.inl S.at_,rfl,c7.symm⟩) (.int ?_)⟩;have d1:=S.len;refine⟨_,rfl,_,rfl,.dic (DPut.k (k:=.inr y) S.at_ (ap (by omega))) ?_⟩;have S':=S.put he b5 hn (L+1);have c6:U≠e:=bK A S.at_ (by intro z;cases z);have a0:lf≠e:=bK u S.at_ (by intro z;cases z);refine⟨_,rfl,.inl ⟨rfl,_,.of (by rw[ah a0];exact u)⟩,?_⟩;have c4:g.length<=I.length:=M.length_le_of_subset J;refine⟨_,rfl,lf,_,_,rfl,rfl,by rw[ah a0];exact u,by rw[BA];exact ap (by omega),?_⟩;refine⟨_,_,g++[y],_,rfl,S'.oth a2 (Ne.symm a0),?_,?_,?_,?_,(D.add (z:=z) (y:=y) dz ⟨a7,c0⟩ hn λa=>rfl).wk a1⟩
     ·rw[ah a8,ah c6];exact A
     ·rw[af,BO];rfl
     ·rw[CI];refine⟨M,by simp,λa ha b hb=>?_⟩;have:b=y:=by simpa using hb
      subst this;rintro rfl;rw[(D.fur a ha).2] at hn;cases hn
     ·intro t ht;rcases BR.mp ht with ht | ht
      ·exact J t ht
      ·have:t=y:=by simpa using ht
       rw[this];exact b5
    ·have X:(look y).isSome=true:=by
        cases q:look y with
        | none=>rw[q] at X;exact absurd rfl X
        | some v=>rfl
     exact⟨kvs,look,g,_,rfl,S,A,u,M,J,(D.skip (z:=z) X).wk a1⟩
   ·rintro O C ⟨kvs,look,g,G,rfl,S,A,u,M,J,D⟩;rw[BA,BS (BB _)] at D;refine⟨kvs,look,g,_,_,rfl,S,A,u,M,J,D.wk λa b h=>?_⟩;obtain⟨Z,h2⟩:=h;rw[BW,hz,BR] at Z;rcases Z with Z | Z
    ·exact .inl ⟨Z,h2⟩
    ·have:a=z:=by simpa using Z
     subst this;exact .inr ⟨rfl,h2.2⟩
  ·rintro O C ⟨kvs,look,g,N,G,rfl,S,A,u,M,J,D⟩;rw[BA,BS (BB _)] at D;have c4:g.length<=I.length:=M.length_le_of_subset J;exact⟨_,rfl,lf,g,kvs,look,_,_,_,_,rfl,S,a2,u,by omega,D.next a3.edg λz y hz r=>⟨hz,r⟩⟩
 ·have c2:c=[] := by
     cases c with
     | nil=>rfl
     | cons y r=>exact absurd (BI (by simp)) X
  subst c2;have b6:=a3.done;refine⟨_,rfl,k e kvs H2 S.sm he S.at_ λt v=>?_⟩;rw[S.lk t]
  constructor
  ·intro q;cases q2:look t with
   | none=>rw[q2] at q;cases q
   | some n =>
    rw[q2] at q;exact⟨n,(BD q).symm,(b6 t n).mp q2⟩
  ·rintro⟨n,rfl,dn⟩;rw[(b6 t n).mpr dn];rfl
theorem bf {D:Ends}{σ:St}{H:Hp}(h:D.nx σ H):xh D σ H:=h
theorem bT {i:Nat}{v:V}{σ:St}{H:Hp}{Q:St->Hp->Prop}(h:Q (σ.set i (some v)) H):cF i v σ H Q:=h
structure FrH (us:LS) (ks:Kn) (ts ws wn:Prs):Prop where
 T:Tre us ks
 hdn:(ks.map (·.1)).head? = some ("":Str)
 dpt:Dpt ks 6
 tp:TsP us ks ts
 wp:TsP us ks ws
 nd:(ts++ws).Nodup
 wf:WnF us ks wn
 tl:(ts++ws).length<=200
 wl:wn.length<=122
theorem oQ {u:Str}(h:Nm u):u≠"":=λz=>by have:=h.1;rw[z] at this;exact absurd this (by decide)
theorem sY {ks:Kn}(knd:(aB ks).Nodup) {k:Str × LS}{u:Str}(a:k∈ks) (b:u∈k.2):aX ks u=k.1:=by
 unfold aX;cases h:ks.find? (λk=>decide (u∈k.2)) with
 | none=>exact absurd (BI b) (List.find?_eq_none.mp h k a)
 | some k' =>
  have d:=List.mem_of_find?_eq_some h;have c:u∈k'.2:=by simpa using List.find?_some h
  rw[fk knd a d b c];rfl
def cw (ks:Kn):Nat->Str->Bool
 | 0,_=>false
 | n+1,g=>decide (g∈aB ks)&&(decide (aX ks g="")||cw ks n (aX ks g))
def dpC (ks:Kn):Nat->Str->Nat
 | 0,_=>0
 | n+1,g=>if aX ks g="" then 1 else dpC ks n (aX ks g)+1
theorem iB {ks:Kn}:∀ {n:Nat}{g:Str}, cw ks n g=true -> g ∈ aB ks /\ dpC ks n g <= n /\ ∀m, n <= m -> dpC ks m g=dpC ks n g
 | 0,_,h=>by cases h
 | n+1,g,h=>by
  unfold cw at h;rw[Co,Bool.or_eq_true,decide_eq_true_iff,decide_eq_true_iff] at h;obtain⟨h1,h2⟩:=h;by_cases z:aX ks g=""
  ·refine⟨h1,by unfold dpC;rw[if_pos z];omega,λm hm=>?_⟩;obtain⟨m',rfl⟩:∃m',m=m'+1:=⟨m-1,by omega⟩
   unfold dpC;rw[if_pos z,if_pos z]
  ·obtain⟨_,i2,i3⟩:=iB (h2.resolve_left z);refine⟨h1,by unfold dpC;rw[if_neg z];omega,λm hm=>?_⟩;obtain⟨m',rfl⟩:∃m',m=m'+1:=⟨m-1,by omega⟩
   unfold dpC;rw[if_neg z,if_neg z,i3 m' (by omega)]
theorem yR {ks:Kn}(knd:(aB ks).Nodup) (E:(ks.map (·.1)).Nodup) (w:(ks.map (·.1)).head? = some ("":Str)) (nm:∀u ∈ aB ks, Nm u) (q:(aB ks).length <= 60) (p:∀k ∈ ks, k.1="" ∨ cw ks 6 k.1=true):∃us, Tre us ks /\ Dpt ks 6 := by
 have g:∀k∈ks,∀u∈k.2,(k.1=""/\dpC ks 7 u=1)∨(k.1≠""/\k.1∈aB ks/\dpC ks 7 u=dpC ks 7 k.1+1/\dpC ks 7 k.1<=6):=λk d u f=>by
  have e:aX ks u=k.1:=sY knd d f;have y:dpC ks 7 u=if k.1="" then 1 else dpC ks 6 k.1+1:=by rw[<- e];rfl
  by_cases z:k.1=""
  ·exact .inl ⟨z,by rw[y,if_pos z]⟩
  ·obtain⟨v,o,n⟩:=iB ((p k d).resolve_left z);exact .inr ⟨z,v,by rw[y,if_neg z,n 7 (by omega)],by rw[n 7 (by omega)];exact o⟩
 obtain⟨us,m⟩:∃us,us=(aB ks).mergeSort (λa b=>decide (dpC ks 7 a<=dpC ks 7 b)):=⟨_,rfl⟩
 have i:us.Perm (aB ks):=m ▸ List.mergeSort_perm ..;have x:us.Pairwise λa b=>dpC ks 7 a<=dpC ks 7 b:=by
  rw[m];refine(List.pairwise_mergeSort (λa b c v o=>?_) (λa b=>?_) _).imp λh=>BX h
  ·exact BI (BP (BX v) (BX o))
  ·rw[Bool.or_eq_true,decide_eq_true_iff,decide_eq_true_iff];omega
 have r:us.Nodup:=i.nodup_iff.mpr knd;have T:Tre us ks := by
  refine⟨i.symm,r,λu f=>nm u (i.mem_iff.mp f),by rw[i.length_eq];exact q,List.mem_of_head? w,E,λk d=>?_,λk d u f=>?_⟩
  ·rcases p k d with z | z
   ·exact .inl z
   ·exact .inr (i.mem_iff.mpr (iB z).1)
  ·rcases g k d u f with⟨z, _⟩ | ⟨_, B, e, _⟩
   ·exact .inl z
   ·refine .inr ?_;have l:=i.mem_iff.mpr B;have j:=i.mem_iff.mpr (Cw.mpr ⟨k,d,f⟩);have G:MG.ix us k.1≠MG.ix us u:=λz=>by rw[MG.ix_inj l j z] at e;omega
    by_cases D:MG.ix us k.1<MG.ix us u
    ·exact D
    ·have F:=MG.ix_lt l;have C:=MG.ix_lt j;have:=List.pairwise_iff_getElem.mp x (MG.ix us u) (MG.ix us k.1) C F (by omega);rw[(BF.mp (MG.at_ix j)).2,(BF.mp (MG.at_ix l)).2] at this;omega
 refine⟨us,T,λs=>if s="" then 0 else dpC ks 7 s,rfl,λk d u f _=>?_,λk d=>?_⟩
 ·have t:=oQ (nm u (Cw.mpr ⟨k,d,f⟩));show (if u="" then 0 else dpC ks 7 u)=(if k.1="" then 0 else dpC ks 7 k.1)+1;rw[if_neg t];rcases g k d u f with⟨z,e⟩ | ⟨z,_,e,_⟩
  ·rw[if_pos z,e]
  ·rw[if_neg z,e]
 ·show (((if k.1="" then 0 else dpC ks 7 k.1):Nat):Int) <= 6;rcases p k d with z | z
  ·rw[if_pos z];decide
  ·by_cases A:k.1=""
   ·rw[if_pos A];decide
   ·obtain⟨_,o,n⟩:=iB z;rw[if_neg A,n 7 (by omega)];omega
theorem nX {us:LS}{ks:Kn}(T:Tre us ks) {d:Str -> Nat}(du:∀k ∈ ks, ∀u ∈ k.2, u ∈ ks.map (·.1) -> d u=d k.1+1):∀ {n:Nat}{g:Str}, g ∈ us -> g ∈ ks.map (·.1) -> d g <= n -> cw ks n g=true
 | n,g,hg,hn,hd=>by
  obtain⟨kn,hkn,e⟩:=BE.mp (T.par_in hg).2;have hgk:g∈kn.2:=T.kid hg (by rw[<- e];exact hkn);have up:=du kn hkn g hgk hn;have e:kn.1=aX ks g:=e
  match n,hd with
  | 0,hd=>omega
  | n+1,hd =>
   unfold cw;rw[Co,Bool.or_eq_true,decide_eq_true_iff,decide_eq_true_iff];refine⟨T.perm.mem_iff.mpr hg,?_⟩;rcases (T.par_in hg).1 with z | z
   ·exact .inl z
   ·exact .inr (nX T du z (T.par_in hg).2 (by rw[<- e];omega))
def aY (p:Prop):Bool:=@decide p (Classical.propDecidable p)
theorem dU {p:Prop}(h:p):aY p=true:=by unfold aY;exact @decide_eq_true p (Classical.propDecidable p) h
theorem cN {p:Prop}(h:¬ p):aY p=false:=by unfold aY;exact @decide_eq_false p (Classical.propDecidable p) h
theorem dec_iff {p:Prop}:aY p=true ↔ p:=⟨λh=>Classical.byContradiction λz=>(by rw[cN z] at h;cases h),dU⟩
theorem df {p:Prop}{b:Bool}(h:b=true ↔ p):b=aY p:=by rw[Cu,dec_iff];exact h
theorem ib {α:Type}{p:α->Prop}{l:List α}:(l.map λx=>aY (p x)).all id=aY (∀x∈l,p x):=by
 refine df ?_;rw[CD];exact⟨λh x a=>dec_iff.mp (h _ (BE.mpr ⟨x,a,rfl⟩)),λh b c=>by obtain⟨x,a,rfl⟩:=BE.mp c;exact dU (h x a)⟩
theorem dN {n:Nat}(h:n<=8000000):n<sizeLine:=Nat.lt_of_le_of_lt h (by decide)
def xw:Sp:=λvs H Q _=>∃(a:_) (xs:LS),vs=[.ref a]/\H a=some (.lst (List.map V.str xs))/\xs.length<=8000000/\∀d kvs H',Same H H'->H' d=some (.dK kvs)->(∀s,(aI kvs (.inr s)).isSome=true ↔ s∈xs)->(kvs.map (·.1)).Nodup->(∀k∈kvs.map (·.1),∃s∈xs,k=Sum.inr s)->Q (.ref d) H'
theorem Al {f:Addr}{fd:FuncData}(F:Fun K "places_of" "places_of" je f fd) (B:Blt mg):FnOk P w K mg base CX0 1 f fd ["things"] xw:=by
 refine F.ok1 ["things","places","place","thing"] λu H Q E L h=>?_;obtain⟨a,xs,rfl,C,M,k⟩:=h;refine⟨_,(aa (pst 1 u ew)
  (aa (aZ PassesOwn.never rfl (jT K rfl B.enumerate (p1 (pv 0))) (cj (n:=2) K rfl (aM (az (i:=2) u rfl (Or.inl rfl)) (aM (az (i:=3) u rfl (Or.inl rfl)) cm))) (ae (bU (pv 2) (ce (pv 1) (pv 3) (cC L.units)))))
  (ae (ai (pv 1))))),?_⟩
 intro d hd;have z:=Same.new (o:=.dK []) hd;have start:PlN H (upd H d (.dK [])) d xs 0 []:=⟨z,af,BB _,(λs=>by simp[pj]),(λs v e=>by cases e),CC,(λk J=>by cases J)⟩
 refine⟨_,rfl,_,rfl,.lst (.of (z _ _ C)) ?_⟩
 let g:Nat->St->Hp->Prop:=λi m l=>∃q r c,m=[some (.ref a),some (.ref d),q,r]/\PlN H l d xs i c
 refine il (xs:=List.map V.str xs) g ?_ ?_ ?_ ?_
 ·exact⟨none,none,[],rfl,start⟩
 ·rintro i m l N ⟨q,r,c,rfl,b⟩;exact .of (b.sm _ _ C)
 ·rintro i x m l p I ⟨q,r,c,rfl,b⟩ A;obtain⟨t,D,rfl⟩:=bu I;have G:=(BF.mp D).1;have y:d≠p:=ao b.at_ A;have:=b.len;refine⟨p,_,rfl,.of af,rfl,_,_,rfl,_,_,rfl,rfl,?_⟩;exact⟨_,rfl,_,rfl,_,rfl,.dic (DPut.k (k:=.inr t) (by rw[ah y];exact b.at_) (dN (by omega))) ⟨_,_,_,rfl,b.step hd A D⟩⟩
 ·rintro m l ⟨q,r,c,rfl,b⟩;have j:=b.inn;rw[BA,BS (BB _)] at j;exact⟨_,rfl,k d c l b.sm b.at_ j b.nd b.ks⟩
def op:Sp:=λvs H Q _=>∃(a:_) (ss:LS),vs=[.ref a]/\H a=some (.lst (List.map V.str ss))/\ss.length<=8000000/\∀H',Same H H'->Q (.bl (aY ss.Nodup)) H'
theorem yM {f:Addr}{fd:FuncData}(F:Fun K "are_unlike" "are_unlike" kS f fd) (B:Blt mg) (b:Cal P w K mg base 1 "places_of" ["things"] xw):FnOk P w K mg base CX0 2 f fd ["things"] op := by
 refine F.ok1 ["things"] λs H Q E o h=>?_;obtain⟨a,g,rfl,n,i,k⟩:=h;refine⟨_,(ae (ai (bS (bc o.units) (uZ B (p1 (pc b o (p1 (pv 0))))) (aQ K B (p1 (pv 0))) (av _)))),?_⟩;refine⟨_,rfl,a,g,rfl,n,i,λd c p m hd l j q=>⟨d,c,rfl,hd,_,rfl,_,g.length,rfl,?_,.sc rfl ?_⟩⟩
 ·have:=(SqA.same (.inl n) m).len (K:=K);rw[BA] at this;exact this
 ·have e:=qf j q l;have r:decide (V.int (c.length:Nat)=V.int (g.length:Nat))=aY g.Nodup:=by
   rw[Cu,decide_eq_true_iff,dec_iff,<- e];exact⟨λz=>Int.ofNat.inj (V.int.inj z),λz=>by rw[z]⟩
  show Q (.bl (decide (V.int (c.length:Nat)=V.int (g.length:Nat)))) p;rw[r];exact k p m
def qM (xs:LV) (bl:List Bool) (H:Hp) (te:TE) (rest:St):Prop:=∀(i:Nat) (x:V) (b:Bool),xs[i]? = some x->bl[i]? = some b->∀H' Q,Same H H'->(∀H2,Same H' H2->Q (.bl b) H2)->te (some x::rest) H' Q
theorem fe {te:TE}{l:Addr}{xs:LV}{fr:List Nat}{σ rest:St}{H:Hp}{Q:VK}(f:List Bool) (u:f.length=xs.length) (r:H l=some (.tup xs)) (t:dS 1 fr σ=none::rest) (v:xs.length<=8000000) (n:qM xs f H te rest) (k:∀H',Same H H'->Q (.bl (f.all id)) H') :
    cS 1 fr (cF 0) iU te (Itt K l) σ H λx H1=>io σ H1 λys H2=>oU (x::ys) H2 Q:=by
 let g:Addr->Nat->LV->St->Hp->Prop:=λD i d c H'=>∃o,c=o::rest/\d=(f.take i).map V.bl/\Same H H'/\H D=none
 refine dH xs g λD q=>⟨?_,?_,?_,?_⟩
 ·exact⟨none,t,rfl,Same.new q,q⟩
 ·rintro i d c H' _ ⟨o,rfl,_,j,_⟩ _;exact .of (j _ _ r)
 ·rintro i d c H' x p ⟨o,rfl,rfl,j,e⟩ a;have s:=(BF.mp p).1;obtain⟨b,h⟩:∃b,f[i]? = some b:=⟨_,BV (by omega)⟩
  refine eV ?_;refine n i x b p h H' _ j λH2 m=>?_;exact⟨m _ _ a,by rw[BA,Ch];exact dN (by omega),_,rfl,by rw[BW,h,BO];rfl,bq (j.trans m) e,e⟩
 ·rintro d c H2 ⟨o,rfl,rfl,m,e⟩ a;rw[<- u,BS (BB _)] at a;exact⟨D,f,rfl,a,k H2 m⟩
theorem iE {te:TE}{l:Addr}{xs:LV}{fr:List Nat}{σ rest:St}{H:Hp}{Q:VK}(f:List Bool) (u:f.length=xs.length) (r:H l=some (.lst xs)) (t:dS 1 fr σ=none::rest) (v:xs.length<=8000000) (n:qM xs f H te rest) (k:∀H',Same H H'->Q (.bl (f.all id)) H') :
    cS 1 fr (cF 0) iU te (Itl K l) σ H λx H1=>io σ H1 λys H2=>oU (x::ys) H2 Q:=by
 let g:Addr->Nat->LV->St->Hp->Prop:=λD i d c H'=>∃o,c=o::rest/\d=(f.take i).map V.bl/\Same H H'/\H D=none
 refine cE xs g λD q=>⟨?_,?_,?_,?_⟩
 ·exact⟨none,t,rfl,Same.new q,q⟩
 ·rintro i d c H' _ ⟨o,rfl,_,j,_⟩ _;exact .of (j _ _ r)
 ·rintro i d c H' x p ⟨o,rfl,rfl,j,e⟩ a;have s:=(BF.mp p).1;obtain⟨b,h⟩:∃b,f[i]? = some b:=⟨_,BV (by omega)⟩
  refine eV ?_;refine n i x b p h H' _ j λH2 m=>?_;exact⟨m _ _ a,by rw[BA,Ch];exact dN (by omega),_,rfl,by rw[BW,h,BO];rfl,bq (j.trans m) e,e⟩
 ·rintro d c H2 ⟨o,rfl,rfl,m,e⟩ a;rw[<- u,BS (BB _)] at a;exact⟨D,f,rfl,a,k H2 m⟩
theorem oa {n:Nat}:(List.replicate n true).all id=true:=by rw[CD];exact λb a=>(List.mem_replicate.mp a).2
theorem jK {te:TE}{l:Addr}{xs:LV}{fr:List Nat}{σ rest:St}{H:Hp}{Q:VK}(d:H l=some (.tup xs)) (j:dS 1 fr σ=none::rest) (g:xs.length<=8000000) (a:∀(i:Nat) (x:V),xs[i]? = some x->∀H' Q,Same H H'->(∀H2,Same H' H2->Q (.bl true) H2)->te (some x::rest) H' Q) (k:∀H',Same H H'->Q (.bl true) H') :
    cS 1 fr (cF 0) iU te (Itt K l) σ H λx H1=>io σ H1 λys H2=>oU (x::ys) H2 Q:=by
 refine fe (List.replicate xs.length true) (List.length_replicate ..) d j g (λi x b e m H' Q h q=>?_) λH' c=>?_
 ·have f:b=true:=(List.mem_replicate.mp (BG m)).2;subst f;exact a i x e H' Q h q
 ·rw[oa];exact k H' c
theorem wc {te:TE}{l:Addr}{xs:LV}{fr:List Nat}{σ rest:St}{H:Hp}{Q:VK}(d:H l=some (.lst xs)) (j:dS 1 fr σ=none::rest) (g:xs.length<=8000000) (a:∀(i:Nat) (x:V),xs[i]? = some x->∀H' Q,Same H H'->(∀H2,Same H' H2->Q (.bl true) H2)->te (some x::rest) H' Q) (k:∀H',Same H H'->Q (.bl true) H') :
    cS 1 fr (cF 0) iU te (Itl K l) σ H λx H1=>io σ H1 λys H2=>oU (x::ys) H2 Q:=by
 refine iE (List.replicate xs.length true) (List.length_replicate ..) d j g (λi x b e m H' Q h q=>?_) λH' c=>?_
 ·have f:b=true:=(List.mem_replicate.mp (BG m)).2;subst f;exact a i x e H' Q h q
 ·rw[oa];exact k H' c
structure PF (ks:Kn) (ts ws wn:Prs):Prop where
 hd:∃c kr,ks=(("":Str),c)::kr/\∀k∈kr,Nm k.1
 kd:∀k∈ks,∀u∈k.2,Nm u
 pn:∀e∈ts++ws,Nm e.1/\Nm e.2
 wt:∀e∈wn,(e.1="first"∨e.1="last")/\Nm e.2
 l1:(aB ks).length<=6000000
 l2:ks.length<=6000000
 l3:(ts++ws).length<=6000000
 l4:wn.length<=6000000
def nE (ks:Kn) (ts ws wn:Prs):Prop:=∃us,FrH us ks ts ws wn
def lP (ks:Kn):Prop:=(aB ks).length<=60/\(aB ks).Nodup/\(ks.map (·.1)).Nodup
theorem zG {ks:Kn}{k:Str × LS}(a:k∈ks):k.2.length<=(aB ks).length:=by
 have:=(DI (L:=ks.map (·.2)) (BE.mpr ⟨k,a,rfl⟩)).length_le;rw[<- List.flatMap_def] at this;exact this
def qe:Sp:=λvs H Q _=>∃(ta la n:_) (c:LS),vs=[.ref ta]/\H ta=some (.tup [.str n,.ref la])/\H la=some (.tup (List.map V.str c))/\(∀u∈c,Nm u)/\c.length<=8000000/\∀H',Same H H'->Q (.bl true) H'
theorem rA {f:Addr}{fd:FuncData}(F:Fun K "is_knot" "is_knot" kQ f fd) (B:Blt mg) (a:Cal P w K mg base 1 "is_name" ["thing"] fh):FnOk P w K mg base CX0 2 f fd ["knot"] qe:=by
 refine F.ok1 ["knot"] λv H Q E e h=>?_;obtain⟨s,m,n,c,rfl,b,d,l,t,k⟩:=h;refine⟨_,(aa (aJ (PW.pt (dt (bH (bI (eJ K "tuple" B (p2 (pv 0) (fO B))))) (cT (aj (cW e.units) (aQ K B (p1 (pv 0))) ac (av _))))) (ae (ai bN)) aF)
  (aa (aJ (PW.pt (dt (bH (bI (eJ K "str" B (p2 (px K e (pv 0) ac) (mP B))))) (cT (bH (bI (eJ K "tuple" B (p2 (px K e (pv 0) ac) (fO B)))))))) (ae (ai bN)) aF)
  (ae (ai (dG rfl B (p1 (bn (ak kQ) ["knot"] [] "child" [] (aP K (px K e (pv 0) ac)) aT (pc a e (p1 (pv 0)))))))))),?_⟩
 refine⟨_,rfl,_,_,true,rfl,.tup b,rfl,_,rfl,bM ?_⟩;refine⟨_,rfl,_,_,rfl,Or.inr ⟨_,.of b,rfl⟩,.sc rfl ⟨_,rfl,aA (λh=>absurd h (by show ¬ (!decide (V.int 2=V.int 2))=true;decide)) λ_=>bf ?_⟩⟩;refine⟨_,rfl,.tup (.of b) rfl ⟨_,_,true,rfl,.str _,rfl,_,rfl,bM ?_⟩⟩;refine⟨_,rfl,.tup (.of b) rfl ⟨_,_,true,rfl,.tup d,rfl,_,rfl,bM (bf ?_)⟩⟩;refine⟨_,rfl,.tup (.of b) rfl ⟨m,rfl,⟨_,.of d⟩,?_⟩⟩;refine jK d rfl (by rw[BA];omega) (λi x o y Q z q=>?_) k;obtain⟨u,g,rfl⟩:=bu o;have j:=BG g;refine⟨_,rfl,_,rfl,.str (nmS (l u j)),λp r=>?_⟩;rw[isNm_iff.mpr (l u j)];exact q p r
def mZ:Sp:=λvs H Q _=>∃a ks,vs=[.ref a]/\Rep H (.ref a) (cZ ks)/\(aB ks).length<=8000000/\∀l H',Same H H'->H l=none->H' l=some (.lst (List.map V.str (aB ks)))->Q (.ref l) H'
theorem ub {f:Addr}{fd:FuncData}(F:Fun K "units_in" "units_in" oC f fd) (B:Blt mg):FnOk P w K mg base CX0 1 f fd ["knots"] mZ := by
 refine F.ok1 ["knots","units","knot"] λu H Q E N h=>?_;obtain⟨a,d,rfl,R,T,k⟩:=h;refine⟨_,(aa (pst 1 u (bt bO))
  (aa (aZ PassesOwn.never rfl (aP K (pv 0)) (az (i:=2) u rfl (Or.inl rfl)) (ae (bh (ml K (pv 1) (p1 (px K N (pv 2) ac))))))
  (ae (ai (pv 1))))),?_⟩
 obtain⟨W,m,M,z,t⟩:=cz R;cases M;have y:=t.len;rw[BA] at y;refine⟨szl 0,λl s=>?_⟩;refine nw s λX v G=>?_;refine bT ?_;dsimp only;refine⟨_,rfl,a,rfl,⟨_,.of (v _ _ z)⟩,?_⟩
 let n:Nat->St->Hp->Prop:=λi p j=>∃o,p=[some (.ref a),some (.ref l),o]/\Same H j/\j l=some (.lst (List.map V.str (aB (d.take i))))
 refine bV (R:=Q) (xs:=m) n ?_ ?_ ?_ ?_
 ·exact⟨none,rfl,v,G⟩
 ·rintro i p j S ⟨o,rfl,g,_⟩;exact .of (g _ _ z)
 ·rintro _ i x p j J ⟨o,rfl,g,c⟩;obtain⟨A,O,I,L,rfl,q,r⟩:=cu t J;have C:aB (d.take (i+1))=aB (d.take i)++A.2:=fY L;have U:(aB (d.take i)).length+A.2.length<=8000000:=by
   have e:aB d=aB (d.take (i+1))++aB (d.drop (i+1)):=by rw[<- ff,CL]
   have:=congrArg List.length e;rw[C,BJ,BJ] at this;omega
  refine bT ?_;refine⟨_,rfl,.inl ⟨rfl,_,.of c⟩,_,rfl,.tup (.of (g _ _ q)) rfl (aD ⟨l,I,_,_,rfl,rfl,c,.of (g _ _ r),by rw[BA,BA];exact Ci (dN (by omega)),?_⟩)⟩;refine⟨_,rfl,λb o D=>?_,?_⟩
  ·rw[ah (ao D s)];exact g _ _ D
  ·rw[C,BO];exact af
 ·rintro p j ⟨o,rfl,g,c⟩;rw[y,BS (BB _)] at c;exact⟨_,rfl,k l j g s c⟩
def pT:Sp:=λvs H Q _=>∃(a:_) (ks:Kn) (c0 kr:_),vs=[.ref a]/\Rep H (.ref a) (cZ ks)/\ks=(("":Str),c0)::kr/\(∀k∈kr,Nm k.1)/\(∀k∈ks,∀u∈k.2,Nm u)/\(aB ks).length<=6000000/\ks.length<=6000000/\∀H',Same H H'->Q (.bl (aY (lP ks))) H'
theorem vk {f:Addr}{fd:FuncData}{tk:Tok}(F:Fun K "are_knots" "are_knots" fV f fd) (B:Blt mg) (TU:mg "MOST_UNITS"=some (.int 60 tk)) (m:Cal P w K mg base 1 "is_name" ["thing"] fh) (l:Cal P w K mg base 2 "is_knot" ["knot"] qe) (g:Cal P w K mg base 1 "units_in" ["knots"] mZ) (b:Cal P w K mg base 2 "are_unlike" ["things"] op):FnOk P w K mg base CX0 3 f fd ["knots"] pT := by
 refine F.ok1 ["knots","groups","units"] λnd H Q E s h=>?_;obtain⟨a,ks,U,r,rfl,R,rfl,J,a9,a6,l2,k⟩:=h;refine⟨_,(aa (aJ (PW.pt (dt (aj (bc s.units) (aQ K B (p1 (pv 0))) ac (av _)) (cT (bH (bI (dG rfl B (p1 (bn (ak fV) ["knots","groups","units"] [] "knot" [] (aP K (pv 0)) aT (pc l s (p1 (pv 0))))))))))) (ae (ai bN)) aF)
  (aa (hR (i:=1) nd rfl rfl (by rfl) (ak fV) ["knots","groups","units"] ["knot"] [] ["knot"] rfl (aP K (bG ji (pv 0) (bE ac) cp)) (λ_ _ _ _ _=>(az (i:=0) (show (["knot"]:LS).Nodup by decide) rfl (Or.inl rfl))) (λ_ _ _ _ _=>aT) (λ_ _ _ _ _=>(px K s (pv 0) ac)))
  (aa (aJ (PW.pt (dt (aj (cW s.units) (px K s (px K s (pv 0) ac) ac) aw (av _)) (cT (bH (bI (dG rfl B (p1 (bn (ak fV) ["knots","groups","units"] [] "group" [] (bg K (pv 1)) aT (pc m s (p1 (pv 0))))))))))) (ae (ai bN)) aF)
  (aa (pst 2 nd (pc g s (p1 (pv 0))))
  (ae (ai (dh (bS iZ (aQ K B (p1 (pv 2))) (eS (v:=.int 60) rfl TU ⟨_,rfl⟩) (av _)) (dh (pc b s (p1 (pv 2))) (dZ (pc b s (p1 (pv 1)))))))))))),?_⟩
 obtain⟨a',d,e0,ha,rp⟩:=cz R;cases e0;have rl:=rp.len;rw[BA] at rl;rw[BN] at rl;rw[BN] at l2;refine⟨_,rfl,_,_,rfl,Or.inr ⟨_,.of ha,rfl⟩,.sc rfl ⟨_,rfl,aA (λh=>by
  have h:V.int ((d.length:Nat):Int)=V.int 0:=BX h;have:=V.int.inj h;omega) λ_=>?_⟩⟩
 refine⟨_,rfl,a,rfl,⟨_,.of ha⟩,?_⟩;refine jK ha rfl (by omega) (λi x hi t Q I q=>?_) λH1 s1=>⟨_,rfl,bM (bf ?_)⟩
 ·obtain⟨kn,ta,la,hk,rfl,O,a4⟩:=cu rp hi;have X:=BG hk;exact⟨_,rfl,ta,la,kn.1,kn.2,rfl,I _ _ O,I _ _ a4,a9 kn X,(by have:=zG X;omega),q⟩
 refine⟨_,rfl,_,rfl,a,d,rfl,s1 _ _ ha,λp1 H2 s2 M=>?_⟩;have ec:cD d (some 1) none=d.drop 1:=gg d 1;rw[ec] at M;have a1:=s1.trans s2;have a3:∀n∈r.map (·.1),Nm n:=λn G=>by
  obtain⟨k',W,rfl⟩:=BE.mp G;exact J k' W
 refine⟨p1,rfl,⟨_,.of M⟩,?_⟩
 let a2:Addr->Nat->LV->St->Hp->Prop:=λD i A C t=>∃o,C=[o]/\A=List.map V.str ((r.map (·.1)).take i)/\Same H2 t/\H2 D=none
 refine dH (d.drop 1) a2 λD hD=>⟨?_,?_,?_,?_⟩
 ·exact⟨none,rfl,rfl,Same.new hD,hD⟩
 ·rintro i A C t _ ⟨o,rfl,_,I,_⟩ _;exact .of (I _ _ M)
 ·rintro i A C t x hx ⟨o,rfl,rfl,I,T⟩ c;rw[Dv] at hx;obtain⟨kn,ta,la,hk,rfl,O,a4⟩:=cu rp hx;rw[show 1+i=i+1 by omega,DJ] at hk;have b4:=(BF.mp hk).1;refine eV ?_;refine⟨_,rfl,.tup (.of (I _ _ (a1 _ _ O))) rfl ⟨c,?_,_,rfl,?_,bq I T,T⟩⟩
  ·rw[BA,Ch,BA];exact dN (by omega)
  ·rw[BW,BM,hk,BO];rfl
 ·rintro A C H3 ⟨o, rfl, rfl, s3, T⟩ c;have c:H3 D=some (.lst (List.map V.str (r.map (·.1)))):=by
   rw[BS (by rw[BA,CB];omega)] at c;exact c
  refine bT ?_;dsimp only;have L:=a1.trans s3;obtain⟨a7,b3,b5,a8,a5,a0,b1⟩:=cu rp (show d[0]? = some (d[0]'(by omega)) from BV (by omega));have e0:a7=(("":Str),U):=(BD a8).symm;subst e0;refine⟨_,rfl,.tup (.of (L _ _ ha)) (bj (j:=0) (BV (by omega))) ?_⟩;rw[a5];refine .tup (.of (L _ _ a0)) rfl (.sc rfl ⟨_,rfl,aA (λh=>absurd h (by show ¬ (!decide (V.str ""=V.str ""))=true;simp)) λ_=>?_⟩);refine⟨_,rfl,D,rfl,⟨_,.of c⟩,?_⟩;refine wc c rfl (by rw[BA,BA];omega) (λi x hx t Q I q=>?_) λH4 s4=>⟨_,rfl,bM (bf ?_)⟩
  ·obtain⟨u,b0,rfl⟩:=bu hx;have hu:=BG b0;refine⟨_,rfl,_,rfl,.str (nmS (a3 u hu)),λH2 s2=>?_⟩;rw[isNm_iff.mpr (a3 u hu)];exact q H2 s2
  have Z:=L.trans s4;refine⟨_,rfl,a,_,rfl,R.same Z,by omega,λlu H5 s5 b2 S=>?_⟩;refine bT ?_;dsimp only;have top:lP ((("":Str),U)::r) ↔ (aB ((("":Str),U)::r)).length<=60/\(aB ((("":Str),U)::r)).Nodup/\(r.map (·.1)).Nodup:=by
   unfold lP;rw[BZ,Cd];exact⟨λz=>⟨z.1,z.2.1,z.2.2.2⟩,λz=>⟨z.1,z.2.1,λw=>(by obtain⟨k',W,e⟩:=BE.mp w;exact oQ (J k' W) e),z.2.2⟩⟩
  have N:∀t (p:Prop),Same H5 t->(p ↔ lP ((("":Str),U)::r))->Q (.bl (aY p)) t:=λt p s' e=>by
   rw[show aY p=aY (lP ((("":Str),U)::r)) from df (dec_iff.trans e)];exact k t ((Z.trans s5).trans s')
  generalize aB ((("":Str),U)::r)=uu at S a6 top;refine⟨_,rfl,_,_,rfl,Or.inl ⟨_,.of S,rfl⟩,.int ?_⟩;rw[BA];refine⟨_,rfl,aA (λy=>?_) (λy=>?_)⟩
  ·have y:((uu.length:Nat):Int)<=60:=BX y;refine⟨_,rfl,lu,uu,rfl,S,by omega,λH6 s6=>⟨_,rfl,aA (λG=>?_) (λG=>?_)⟩⟩
   ·have G:=dec_iff.mp G;refine⟨_,rfl,D,r.map (·.1),rfl,(s5.trans s6) _ _ (s4 _ _ c),by rw[BA];omega,λH7 s7=>?_⟩;exact N H7 _ (s6.trans s7) ⟨λz=>top.mpr ⟨by omega,G,z⟩,λz=>(top.mp z).2.2⟩
   ·have:=N H6 uu.Nodup s6 ⟨λz=>absurd (dec_iff.mpr z) G,λz=>(top.mp z).2.1⟩;rw[cN (λz=>G (dec_iff.mpr z))] at this;exact this
  ·have Y:¬ uu.length<=60:=λz=>y (BI (by omega));have:=N H5 (uu.length<=60) (Same.refl _) ⟨λz=>absurd z Y,λz=>(top.mp z).1⟩;rw[cN Y] at this;exact this
def KI (kvs:List (Key × V)) (us:LS):Prop:=∀z,aI kvs z≠none->∃u∈us,z=.inr u
theorem KI.nil {us:LS}:KI [] us:=λz h=>absurd rfl h
theorem KI.put {kvs:List (Key × V)}{us:LS}{u:Str}{v:V}(h:KI kvs us) (b:u∈us):KI (aS kvs (.inr u) v) us:=λz a=>by
 by_cases q:z=.inr u
 ·exact⟨u,b,q⟩
 ·rw[cJ,if_neg q] at a;exact h z a
def ArG (kvs:List (Key × V)) (ks:Kn):Prop:=(∀u∈aB ks,aI kvs (.inr u)=some (.str (aX ks u)))/\∀u,u∉aB ks->aI kvs (.inr u)=none
theorem ArG.some_ {kvs:List (Key × V)}{ks:Kn}(h:ArG kvs ks) (u:Str):(aI kvs (.inr u)).isSome=decide (u∈aB ks):=by
 by_cases z:u∈aB ks
 ·rw[h.1 u z,BI z];rfl
 ·rw[h.2 u z,BL z];rfl
theorem ArG.k {kvs:List (Key × V)}{us:LS}{ks:Kn}(h:ArG kvs ks) (T:Tre us ks):ArK kvs us ks:=λu a=>h.1 u (T.perm.mem_iff.mpr a)
def nJ:Sp:=λvs H Q _=>∃q ks ts ws wn,vs=[.ref q]/\Rep H (.ref q) (bx ks ts ws wn)/\(aB ks).Nodup/\(aB ks).length<=60/\∀d kvs H',Same H H'->H d=none->H' d=some (.dK kvs)->ArG kvs ks->Q (.ref d) H'
theorem uN {f:Addr}{fd:FuncData}(F:Fun K "homes" "homes" oV f fd) (B:Blt mg):FnOk P w K mg base CX0 1 f fd ["house"] nJ := by
 refine F.ok1 ["house","table","knot","child"] λU H Q E N h=>?_;obtain⟨q,I,ts,ws,wn,rfl,R,L,X,k⟩:=h;refine⟨_,(aa (pst 1 U ew)
  (aa (aZ PassesOwn.never rfl (aP K (px K N (pv 0) ac)) (az (i:=2) U rfl (Or.inl rfl)) (ae (aZ PassesOwn.never rfl (aP K (px K N (pv 2) ac)) (az (i:=3) U rfl (Or.inl rfl)) (ae (bU (px K N (pv 2) ac) (ce (pv 1) (pv 3) (cC N.units)))))))
  (ae (ai (pv 1))))),?_⟩
 obtain⟨q',a,b,c,d4,Y,hq,R1,_⟩:=ci R;cases Y;obtain⟨a',M,Y,ha,Z⟩:=cz R1;cases Y;have A:=Z.len;rw[BA] at A;intro d hd;have W:=Same.new (o:=.dK []) hd;refine⟨_,rfl,.tup (.of (W _ _ hq)) rfl ⟨a,rfl,⟨_,.of (W _ _ ha)⟩,?_⟩⟩
 let J:Nat->St->Hp->Prop:=λi p m=>∃T n g,p=[some (.ref q),some (.ref d),T,n]/\ArN H m d I i 0 g/\KI g (aB I)
 refine bV (R:=Q) (xs:=M) J ?_ ?_ ?_ ?_
 ·exact⟨none,none,[],rfl,⟨W,af,Cg _,(λk C=>by simp at C),λk _ u r=>by simp at r⟩,KI.nil⟩
 ·rintro i p m hi ⟨T,n,g,rfl,l,s⟩;exact .of (l.sm _ _ ha)
 ·rintro _ i x p m hx ⟨T,n,g,rfl,l,s⟩;obtain⟨kn,ta,la,C,rfl,D,G⟩:=cu Z hx;refine⟨_,rfl,.tup (.of (l.sm _ _ D)) rfl ⟨la,rfl,⟨_,.of (l.sm _ _ G)⟩,?_⟩⟩
  let O:Nat->St->Hp->Prop:=λj p m=>∃n g,p=[some (.ref q),some (.ref d),some (.ref ta),n]/\ArN H m d I i j g/\KI g (aB I)
  refine bV (R:=Q) (xs:=kn.2.map V.str) O ?_ ?_ ?_ ?_
  ·exact⟨n,g,rfl,l,s⟩
  ·rintro j p m hj ⟨n,g,rfl,l,s⟩;exact .of (l.sm _ _ G)
  ·rintro _ j y p m hy ⟨n,g,rfl,l,s⟩;obtain⟨u,r,rfl⟩:=bu hy;have N:=l.room C (BF.mp r).1 X;exact⟨_,rfl,.tup (.of (l.sm _ _ D)) rfl ⟨_,rfl,_,rfl,.dic (DPut.k (k:=.inr u) l.at_ (ap (by omega))) ⟨_,_,rfl,l.put hd L C r,s.put ((Cw.mpr ⟨kn,BG C,BG r⟩))⟩⟩⟩
  ·rintro p m ⟨n,g,rfl,l,s⟩;rw[BA] at l;exact⟨_,_,g,rfl,l.next C rfl,s⟩
 ·rintro p m ⟨T, n, g, rfl, l, s⟩;have ag:ArG g I:=⟨λu r=>by
   obtain⟨kk,S,t⟩:=Cw.mp r;rw[sY L S t];exact l.old kk (by rw[A,BS (BB _)];exact S) u t,λu r=>by
   cases z:aI g (.inr u) with
   | none=>rfl
   | some v =>
    obtain⟨u',t,e⟩:=s (.inr u) (by rw[z];intro w;cases w);have e:u=u':=by injection e
    exact absurd (e ▸ t) r⟩
  exact⟨_,rfl,k d g m l.sm hd l.at_ ag⟩
def oA:Sp:=λvs H Q _=>∃d kvs ks g,vs=[.ref d,.str g]/\H d=some (.dK kvs)/\ArG kvs ks/\∀H',Same H H'->Q (.bl (cw ks 6 g)) H'
theorem uG {f:Addr}{fd:FuncData}{tk:Tok}(F:Fun K "is_below_top" "is_below_top" js f fd) (B:Blt mg) (A:mg "MOST_WITHIN"=some (.int 6 tk)):FnOk P w K mg base CX0 1 f fd ["table", "group"] oA := by
 refine F.ok1 ["table","group","knot","turn"] λq H Q E s h=>?_;obtain⟨d,r,a,g,rfl,hd,t,k⟩:=h;refine⟨_,(aa (pst 2 q (pv 1))
  (aa (aZ PassesOwn.never rfl (cP rfl B.range (p1 (eS (v:=.int 6) rfl A ⟨_,rfl⟩))) (az (i:=3) q rfl (Or.inl rfl)) (aa (aJ (aj (cO K s.units) (pv 2) (pv 0) (by with_unfolding_all rfl)) (ae (ai bN)) aF)
  (aa (pst 2 q (px K s (pv 0) (pv 2)))
  (ae (aJ (aj (bc s.units) (pv 2) aw (av _)) (ae (ai bN)) aF)))))
  (ae (ai bN)))),?_⟩
 refine⟨_,rfl,?_⟩;refine bT ?_;dsimp only;refine⟨_,rfl,by decide,by decide,?_⟩
 let l:Nat->St->Hp->Prop:=λi p j=>∃(x:Str) (o:Option V),p=[some (.ref d),some (.str g),some (.str x),o]/\cw a 6 g=cw a (6-i) x/\Same H j
 refine fB (R:=Q) l ⟨g,none,rfl,rfl,Same.refl _⟩ ?_ ?_
 ·rintro _ i p j u ⟨x, o, rfl, e, b⟩;have u:i<6:=u;obtain⟨n,y⟩:∃n,6-i=n+1:=⟨6-i-1,by omega⟩
  rw[y] at e;refine⟨_,rfl,_,rfl,.dic (DGet.k (k:=.inr x) (b _ _ hd)) ⟨_,rfl,?_⟩⟩;rw[t.some_ x];by_cases c:x∈aB a
  ·refine aA (λh => absurd h (by simp[c])) λ_ => bf ?_;refine⟨_,rfl,_,rfl,.dic (.inl ⟨r,.inr x,.inl (b _ _ hd),rfl,(t.1 x c).symm⟩) ?_⟩;refine bT ?_;refine⟨_,rfl,.sc rfl ⟨_,rfl,?_⟩⟩;by_cases z:aX a x=""
   ·refine aA (λ_=>?_) (λh=>absurd (by simp[z]) h);have m:cw a (n+1) x=true:=by unfold cw;rw[BI c,BI z];rfl
    have:=k j b;rw[e,m] at this;exact this
   ·refine aA (λh=>absurd h (by simp[z])) (λ_=>bf ?_);have m:cw a (n+1) x=cw a n (aX a x):=by
     show (decide (x∈aB a)&&(decide (aX a x="")||cw a n (aX a x)))=_;rw[BI c,BL z];rfl
    exact⟨aX a x,_,rfl,by rw[e,m,show 6-(i+1)=n by omega],b⟩
  ·refine aA (λ_=>?_) (λh=>absurd (by simp[c]) h);have m:cw a (n+1) x=false:=by unfold cw;rw[BL c];rfl
   have:=k j b;rw[e,m] at this;exact this
 ·rintro p j ⟨x,o,rfl,e,b⟩;have e:cw a 6 g=cw a 0 x:=e;have:=k j b;rw[e] at this;exact this
def oW:Sp:=λvs H Q _=>∃(d ta kvs ks:_) (e:Str × Str),vs=[.ref d,.ref ta]/\H d=some (.dK kvs)/\ArG kvs ks/\H ta=some (.tup [.str e.1,.str e.2])/\Nm e.1/\Nm e.2/\∀H',Same H H'->Q (.bl (aY (e.1∈aB ks/\e.2∈aB ks))) H'
theorem sL {f:Addr}{fd:FuncData}(F:Fun K "is_tie_among" "is_tie_among" oK f fd) (B:Blt mg) (a:Cal P w K mg base 1 "is_name" ["thing"] fh):FnOk P w K mg base CX0 2 f fd ["places", "tie"] oW := by
 refine F.ok1 ["places","tie"] λM H Q E n h=>?_;obtain⟨d,v,m,g,e,rfl,hd,y,c,I,G,k⟩:=h;obtain⟨t,C,_,_,_,_,o⟩:=ki (K:=K) (Thg.tup c);rw[tQ c] at o;refine⟨_,(aa (aJ (PW.pt (dt (bH (bI (eJ K "tuple" B (p2 (pv 1) (fO B))))) (cT (aj (cW n.units) (aQ K B (p1 (pv 1))) ac (av _))))) (ae (ai bN)) aF)
  (ae (ai (dG rfl B (p1 (bn (ak oK) ["places","tie"] [0] "end" ["places"] (aP K (pv 1)) aT (dh (pc a n (p1 (pv 0))) (dZ (bS (gx K n.units) (pv 0) (pv 1) (by with_unfolding_all rfl)))))))))),?_⟩
 refine⟨_,rfl,_,t,_,rfl,C,o,_,rfl,?_⟩;refine aA (λh=>absurd h (by decide)) (λ_=>?_);refine⟨_,rfl,_,_,rfl,Or.inr ⟨_,.of c,rfl⟩,.sc rfl ⟨_,rfl,?_⟩⟩;refine aA (λh=>absurd h (by show ¬ (!decide (V.int 2=V.int 2))=true;decide)) (λ_=>?_);refine⟨_,rfl,v,rfl,⟨_,.of c⟩,?_⟩;refine fe [decide (e.1∈aB g),decide (e.2∈aB g)] rfl c rfl (by show 2<=8000000;decide) (λi x b l j r Q L q=>?_) λr A=>?_
 ·obtain⟨z,rfl,p,J⟩:∃z,x=.str z/\Nm z/\b=decide (z∈aB g):=by
     match i,l,j with
     | 0,l,j=>exact⟨e.1,(BD l).symm,I,(BD j).symm⟩
     | 1,l,j=>exact⟨e.2,(BD l).symm,G,(BD j).symm⟩
  refine⟨_,rfl,_,rfl,.str (nmS p),λs u=>⟨_,rfl,?_⟩⟩;rw[isNm_iff.mpr p];refine dm ?_;refine⟨_,rfl,_,rfl,.dic (DGet.k (k:=.inr z) (u _ _ (L _ _ hd))) ?_⟩;show Q (.bl (aI m (.inr z)).isSome) s;rw[y.some_ z,<- J];exact q s u
 ·have D:[decide (e.1∈aB g),decide (e.2∈aB g)].all id=aY (e.1∈aB g/\e.2∈aB g):=df (by simp);rw[D];exact k r A
theorem sr:∀(ps acc:Prs), (ba acc ps).length=acc.length+ps.length -> acc.Nodup -> (acc ++ ps).Nodup
 | [],acc,_,h=>by rw[Cm];exact h
 | x :: xs, acc, e, h => by
  have e:(if x∈acc then ba acc xs else ba (acc++[x]) xs).length=acc.length+(xs.length+1):=e;by_cases z:x∈acc
  ·rw[if_pos z] at e;have:=gR xs acc;omega
  ·rw[if_neg z] at e;have h2:(acc++[x]).Nodup:=by
    rw[CI];exact⟨h,by simp,λa ha b hb w=>z (by rw[<- Cb.mp hb,<- w];exact ha)⟩
   have:=sr xs (acc++[x]) (by rw[e,BJ];show _=acc.length+1+xs.length;omega) h2;rw[Cp] at this;exact this
def oG:Sp:=λvs H Q _=>∃(a refs:_) (ps:Prs),vs=[.ref a]/\SqA H a refs/\RepAll H refs (ps.map aG)/\ps.length<=1000/\∀H',Same H H'->Q (.bl (aY ps.Nodup)) H'
theorem zi {f:Addr}{fd:FuncData}(F:Fun K "are_unlike" "are_unlike" kS f fd) (B:Blt mg) (b:Cal P w K mg base 1 "places_of" ["things"] gh):FnOk P w K mg base CX0 2 f fd ["things"] oG := by
 refine F.ok1 ["things"] λu H Q E q h=>?_;obtain⟨a,c,i,rfl,o,m,p,k⟩:=h;refine⟨_,(ae (ai (bS (bc q.units) (zq B (p1 (pc b q (p1 (pv 0))))) (aQ K B (p1 (pv 0))) (av _)))),?_⟩;have j:=m.len;rw[BA] at j;refine⟨_,rfl,_,rfl,?_⟩;refine .pr o m (by omega) λd g r n t hd l=>⟨d,g,rfl,hd,_,rfl,_,c.length,rfl,?_,.sc rfl ?_⟩
 ·exact(SqA.same o n).len (K:=K)
 ·have e:g.length=(ba [] i).length := by
     have:=congrArg List.length l;rw[BA,BA] at this;exact this
  have s:decide (V.int (g.length:Nat)=V.int (c.length:Nat))=aY i.Nodup:=by
   refine df ?_;rw[decide_eq_true_iff]
   constructor
   ·intro z;have z:g.length=c.length:=Int.ofNat.inj (V.int.inj z);have:=sr i [] (by rw[<- e,z,j];show i.length=0+i.length;omega) CC;exact this
   ·intro z;have:ba [] i=i:=tX i [] z;rw[e,this,j]
  show Q (.bl (decide (V.int (g.length:Nat)=V.int (c.length:Nat)))) r;rw[s];exact k r n
def rn (us:LS) (ks:Kn) (ps:Prs):Prop:=TsP us ks ps/\ps.Nodup/\ps.length<=200
def qc:Sp:=λvs H Q _=>∃(d t kvs us ks refs:_) (ps:Prs),vs=[.ref d,.ref t]/\H d=some (.dK kvs)/\ArG kvs ks/\Tre us ks/\H t=some (.tup refs)/\RepAll H refs (ps.map aG)/\(∀e∈ps,Nm e.1/\Nm e.2)/\ps.length<=6000000/\∀H',Same H H'->Q (.bl (aY (rn us ks ps))) H'
theorem vo {f:Addr}{fd:FuncData}{tk:Tok}(F:Fun K "are_house_ties" "are_house_ties" fc f fd) (B:Blt mg) (TT:mg "MOST_TIES"=some (.int 200 tk)) (a:Cal P w K mg base 2 "is_tie_among" ["places", "tie"] oW) (c:Cal P w K mg base 2 "are_unlike" ["things"] oG) (g:Cal P w K mg base 2 "parting_by" ["table", "one", "other"] eF):FnOk P w K mg base CX0 3 f fd ["table", "ties"] qc := by
 refine F.ok1 ["table","ties"] λnd H Q E L h=>?_;obtain⟨d,t,J,O,j,p,s,rfl,hd,ar,T,D,R,X,pl,k⟩:=h;have rl:=R.len;rw[BA] at rl;have I:∀ {u:Str},u∈aB j ↔ u∈O:=λ{u}=>T.perm.mem_iff;have Y:∀G,Same H G->¬ rn O j s->Q (.bl false) G:=λG s' n=>by
  have:=k G s';rw[cN n] at this;exact this
 refine⟨_,(aa (aJ (PW.pt (dt (aj eZ (aQ K B (p1 (pv 1))) (eS (v:=.int 200) rfl TT ⟨_,rfl⟩) (av _)) (cT (bH (bI (dG rfl B (p1 (bn (ak fc) ["table","ties"] [0] "tie" ["table"] (aP K (pv 1)) aT (pc a L (p2 (pv 1) (pv 0))))))))))) (ae (ai bN)) aF)
  (ae (ai (dh (pc c L (p1 (pv 1))) (dZ (dG rfl B (p1 (bn (ak fc) ["table","ties"] [0] "tie" ["table"] (aP K (pv 1)) aT (bS fX (pc g L (au (pv 1) (p2 (px K L (pv 0) ac) (px K L (pv 0) ac)))) dY (av _)))))))))),?_⟩
 refine⟨_,rfl,_,_,rfl,Or.inr ⟨_,.of D,rfl⟩,_,_,rfl,rfl,_,rfl,aA (λh=>?_) λy=>?_⟩
 ·have h:(200:Int)<((p.length:Nat):Int):=BX h;exact dm (Y H (Same.refl _) λz=>by have:=z.2.2;omega)
 have y:¬ (200:Int)<((p.length:Nat):Int):=λz=>y (BI z);refine⟨_,rfl,t,rfl,⟨_,.of D⟩,?_⟩;refine fe (s.map λe=>aY (e.1∈aB j/\e.2∈aB j)) (by rw[BA];omega) D rfl (by omega) (λi x b W N G Q M q=>?_) λH1 U=>⟨_,rfl,?_⟩
 ·obtain⟨e,Z,l,rfl,C⟩:=bP R W;rw[BM,l] at N;cases BD N;have w:=X e (BG l);exact⟨_,rfl,_,rfl,d,Z,J,j,e,rfl,M _ _ hd,ar,M _ _ C,w.1,w.2,q⟩
 rw[ib];by_cases m:∀e∈s,e.1∈aB j/\e.2∈aB j
 ·rw[dU m];refine bM (bf ?_);refine⟨_,rfl,t,p,s,rfl,.inr (U _ _ D),R.same U,by omega,λH2 s2=>⟨_,rfl,?_⟩⟩;have o:=U.trans s2;by_cases r:s.Nodup
  ·rw[dU r];refine dm ?_;refine⟨_,rfl,t,rfl,⟨_,.of (o _ _ D)⟩,?_⟩;refine fe (s.map λe=>aY (bw j e.1 e.2≠none)) (by rw[BA];omega) (o _ _ D) rfl (by omega) (λi x b W N G Q M q=>?_) λH3 s3=>?_
   ·obtain⟨e,Z,l,rfl,C⟩:=bP R W;rw[BM,l] at N;cases BD N;have w:=m e (BG l);have A:=M _ _ (o _ _ C);refine⟨_,rfl,_,rfl,.tup (.of A) rfl ⟨_,rfl,.tup (.of A) rfl (aD ⟨d,J,O,j,e.1,e.2,rfl,M _ _ (o _ _ hd),ar.k T,T,I.mp w.1,I.mp w.2,λv S s4 px=>.non ?_⟩)⟩⟩;cases hpo:bw j e.1 e.2 with
    | none =>
     rw[hpo] at px;cases px;have:Q (.bl (aY (bw j e.1 e.2≠none))) S:=q S s4;rw[cN (λz=>z hpo)] at this;rw[if_pos rfl,BI (rfl:V.non=V.non)];exact this
    | some t3 =>
     obtain⟨kq,x1,y1⟩:=t3;rw[hpo] at px;obtain⟨tt,rfl,a0⟩:=px;have:Q (.bl (aY (bw j e.1 e.2≠none))) S:=q S s4;rw[dU (by rw[hpo];intro z;cases z)] at this;rw[if_pos rfl,BL (show ¬ V.ref tt=V.non from λz=>V.noConfusion z)];exact this
   ·rw[ib];have e:aY (∀e∈s,bw j e.1 e.2≠none)=aY (rn O j s):=df (dec_iff.trans ⟨λz=>⟨λe l=>⟨I.mp (m e l).1,I.mp (m e l).2,z e l⟩,r,by omega⟩,λz e l=>(z.1 e l).2.2⟩);rw[e];exact k H3 (o.trans s3)
  ·rw[cN r];exact bM (Y H2 o λz=>r z.2.1)
 ·rw[cN m];exact dm (Y H1 U λz=>m λe l=>⟨I.mpr (z.1 e l).1,I.mpr (z.1 e l).2.1⟩)
def mr:Sp:=λvs H Q _=>∃(d ta kvs ks:_) (e:Str × Str),vs=[.ref d,.ref ta]/\H d=some (.dK kvs)/\ArG kvs ks/\H ta=some (.tup [.str e.1,.str e.2])/\(e.1="first"∨e.1="last")/\Nm e.2/\∀H',Same H H'->Q (.bl (aY (e.2∈aB ks))) H'
theorem rK {f W:Addr}{fd:FuncData}(F:Fun K "is_want" "is_want" qQ f fd) (B:Blt mg) (TO:mg "WORDS"=some (.ref W)) (p:∀H,SqT K H W [.str "first",.str "last"]) (b:Cal P w K mg base 1 "is_name" ["thing"] fh):FnOk P w K mg base CX0 2 f fd ["table","want"] mr:=by
 refine F.ok1 ["table","want"] λs H Q E c h=>?_;obtain⟨d,r,i,m,e,rfl,hd,o,a,q,g,k⟩:=h;refine⟨_,(aa (aJ (PW.pt (dt (bH (bI (eJ K "tuple" B (p2 (pv 1) (fO B))))) (cT (aj (cW c.units) (aQ K B (p1 (pv 1))) ac (av _))))) (ae (ai bN)) aF)
  (aa (aJ (PW.pt (dt (bH (bI (eJ K "str" B (p2 (px K c (pv 1) ac) (mP B))))) (cT (aj (cO K c.units) (px K c (pv 1) ac) (eS (v:=.ref W) rfl TO rfl) (by with_unfolding_all rfl))))) (ae (ai bN)) aF)
  (ae (ai (dh (pc b c (p1 (px K c (pv 1) ac))) (dZ (bS (gx K c.units) (px K c (pv 1) ac) (pv 0) (by with_unfolding_all rfl)))))))),?_⟩
 refine⟨_,rfl,_,_,true,rfl,.tup a,rfl,_,rfl,bM ?_⟩;refine⟨_,rfl,_,_,rfl,Or.inr ⟨_,.of a,rfl⟩,.sc rfl ⟨_,rfl,aA (λh=>absurd h (by show ¬ (!decide (V.int 2=V.int 2))=true;decide)) λ_=>bf ?_⟩⟩;refine⟨_,rfl,.tup (.of a) rfl ⟨_,_,true,rfl,.str _,rfl,_,rfl,bM ?_⟩⟩;refine⟨_,rfl,.tup (.of a) rfl (.seq (xs:=List.map V.str ["first","last"]) (.inr (p H)) rfl (fj _) ⟨_,rfl,?_⟩)⟩;rw[hH];have j:e.1∈(["first","last"]:LS):=by rcases q with h | h <;> rw[h] <;> simp
 refine aA (λh=>absurd j (by simpa using h)) λ_=>bf ?_;refine⟨_,rfl,.tup (.of a) rfl (aD ⟨_,rfl,.str (nmS g),λn l=>?_⟩)⟩;rw[isNm_iff.mpr g];refine⟨_,rfl,dm ?_⟩;refine⟨_,rfl,.tup (.of (l _ _ a)) rfl ⟨_,rfl,.dic (DGet.k (k:=.inr e.2) (l _ _ hd)) ?_⟩⟩;show Q (.bl (aI i (Sum.inr e.2)).isSome) n;rw[o.some_ e.2,show decide (e.2∈aB m)=aY (e.2∈aB m) from df decide_eq_true_iff];exact k n l
def qm:Sp:=λvs H Q _=>∃(d t kvs us ks refs:_) (wn:Prs),vs=[.ref d,.ref t]/\H d=some (.dK kvs)/\ArG kvs ks/\Tre us ks/\H t=some (.tup refs)/\RepAll H refs (wn.map aG)/\(∀e∈wn,(e.1="first"∨e.1="last")/\Nm e.2)/\wn.length<=6000000/\∀H',Same H H'->Q (.bl (aY (WnF us ks wn))) H'
theorem wB {f:Addr}{fd:FuncData}(F:Fun K "are_wants" "are_wants" fW f fd) (B:Blt mg) (v:Cal P w K mg base 2 "is_want" ["table","want"] mr) (g:Cal P w K mg base 2 "are_unlike" ["things"] op) (j:Cal P w K mg base 2 "are_unlike" ["things"] oG):FnOk P w K mg base CX0 3 f fd ["table","wants"] qm:=by
 refine F.ok1 ["table","wants","units"] λnd H Q E U h=>?_;obtain⟨d,t,Z,us,M,O,A,rfl,hd,ar,T,Y,rp,N,wl,k⟩:=h;have rl:=rp.len;rw[BA] at rl;have mu:∀ {u:Str},u∈aB M ↔ u∈us:=λ{u}=>T.perm.mem_iff;have no:∀s,Same H s->¬ WnF us M A->Q (.bl false) s:=λs s' n=>by
  have:=k s s';rw[cN n] at this;exact this
 refine⟨_,(aa (aJ (bH (bI (dG rfl B (p1 (bn (ak fW) ["table","wants","units"] [0] "want" ["table"] (aP K (pv 1)) aT (pc v U (p2 (pv 1) (pv 0)))))))) (ae (ai bN)) aF)
  (aa (hR (i:=2) nd rfl rfl (by rfl) (ak fW) ["table","wants","units"] ["want"] [] ["want"] rfl (aP K (pv 1)) (λ_ _ _ _ _=>(az (i:=0) (show (["want"]:LS).Nodup by decide) rfl (Or.inl rfl))) (λ_ _ _ _ _=>aT) (λ_ _ _ _ _=>(px K U (pv 0) ac)))
  (ae (ai (dh (pc g U (p1 (pv 2))) (dZ (pc j U (p1 (bn (ak fW) ["table","wants","units"] [0] "want" ["table"] (aP K (pv 1)) aT (be (p2 (px K U (pv 0) ac) (px K U (pv 1) (px K U (pv 0) ac))))))))))))),?_⟩
 refine⟨_,rfl,t,rfl,⟨_,.of Y⟩,?_⟩;refine fe (A.map λe=>aY (e.2∈aB M)) (by rw[BA];omega) Y rfl (by omega) (λi x b hx hb s Q y q=>?_) λH1 X=>⟨_,rfl,?_⟩
 ·obtain⟨e,ta,m,rfl,G⟩:=bP rp hx;rw[BM,m] at hb;cases BD hb;have w:=N e (BG m);exact⟨_,rfl,_,rfl,d,ta,Z,M,e,rfl,y _ _ hd,ar,y _ _ G,w.1,w.2,q⟩
 rw[ib];by_cases L:∀e∈A,e.2∈aB M
 case neg =>
  rw[cN L];exact dm (no H1 X λz=>L λe m=>mu.mpr (z.ok e m).2)
 rw[dU L];refine bM (bf ?_);have W:∀e∈A,(e.1="first"∨e.1="last")/\e.2∈us:=λe m=>⟨(N e m).1,mu.mp (L e m)⟩
 refine⟨_,rfl,t,rfl,⟨_,.of (X _ _ Y)⟩,?_⟩
 let a1:Addr->Nat->LV->St->Hp->Prop:=λD i c l s=>∃o,l=[o]/\c=List.map V.str ((A.map (·.2)).take i)/\Same H1 s/\H1 D=none
 refine dH O a1 λD hD=>⟨?_,?_,?_,?_⟩
 ·exact⟨none,rfl,rfl,Same.new hD,hD⟩
 ·rintro i c l s _ ⟨o,rfl,_,y,_⟩ _;exact .of (y _ _ (X _ _ Y))
 ·rintro i c l s x hx ⟨o,rfl,rfl,y,p⟩ a;obtain⟨e,ta,m,rfl,G⟩:=bP rp hx;have a3:=(BF.mp m).1;refine eV ?_;refine⟨_,rfl,.tup (.of (y _ _ (X _ _ G))) rfl ⟨a,?_,_,rfl,?_,bq y p,p⟩⟩
  ·rw[BA,Ch,BA];exact dN (by omega)
  ·rw[BW,BM,m,BO];rfl
 rintro c l H2 ⟨o,rfl,rfl,s2,p⟩ a;have a:H2 D=some (.lst (List.map V.str (A.map (·.2)))):=by
  rw[BS (by rw[BA];omega)] at a;exact a
 refine bT ?_;dsimp only;refine⟨_,rfl,D,A.map (·.2),rfl,a,by rw[BA];omega,λH3 s3=>⟨_,rfl,?_⟩⟩;by_cases I:(A.map (·.2)).Nodup
 case neg =>
  rw[cN I];exact bM (no H3 ((X.trans s2).trans s3) λz=>I z.un)
 rw[dU I];refine dm ?_;have a5:A.length<=60:=by
  have:=dy I (λu hu=>by obtain⟨e,m,z⟩:=BE.mp hu;exact z ▸ (W e m).2);rw[BA] at this;have:=T.len;omega
 have C:=(X.trans s2).trans s3;refine⟨_,rfl,t,rfl,⟨_,.of (C _ _ Y)⟩,?_⟩
 let a2:Addr->Nat->LV->St->Hp->Prop:=λD i c l s=>∃o,l=[o,some (.ref d)]/\RepAll s c (((A.map λe=>(e.1,aX M e.2)).take i).map aG)/\Same H3 s/\H3 D=none
 refine dH O a2 λD2 a0=>⟨?_,?_,?_,?_⟩
 ·exact⟨none,rfl,.nil,Same.new a0,a0⟩
 ·rintro i c l s _ ⟨o,rfl,_,y,_⟩ _;exact .of (y _ _ (C _ _ Y))
 ·rintro i c l s x hx ⟨o,rfl,J,y,p⟩ a;obtain⟨e,ta,m,rfl,G⟩:=bP rp hx;have a3:=(BF.mp m).1;have w:=W e (BG m);have al:=J.len;rw[BA,Ch,BA] at al;have R:=y _ _ (C _ _ G);refine eV ?_;refine⟨_,rfl,.tup (.of R) rfl ⟨_,rfl,_,rfl,.tup (.of R) rfl (.dic (.inl ⟨Z,.inr e.2,.inl (y _ _ (C _ _ hd)),rfl,((ar.k T) e.2 w.2).symm⟩) (aD ⟨szl 2,λtq a4=>?_⟩))⟩⟩;refine nw a4 λH4 s4 e4=>?_;have r:=s4 _ _ a;refine⟨r,dN (by omega),_,rfl,?_,bq (y.trans s4) p,p⟩;rw[BW,BM,m,BO];exact RepAll.append (aO (aL r But.upd) (J.same s4)) (.cons (aL r But.upd (cg e4)) .nil)
 rintro c l H4 ⟨o,rfl,J,s4,p⟩ S;rw[BS (by rw[BA];omega)] at J;refine aD ⟨D2,c,_,rfl,.inl S,J,by rw[BA];omega,λH5 s5=>?_⟩;have e:aY (A.map λe=>(e.1,aX M e.2)).Nodup=aY (WnF us M A):=df (dec_iff.trans ⟨λz=>⟨W,I,z⟩,λz=>z.wd⟩);rw[e];exact k H5 ((C.trans s4).trans s5)
theorem hA {us z:LS}{ks:Kn}(T:Tre us ks) (a:Tre z ks) {u:Str}:u∈us ↔ u∈z:=(T.perm.mem_iff.symm).trans a.perm.mem_iff
def nL:Sp:=λvs H Q _=>∃q ks ts ws wn,vs=[.ref q]/\Rep H (.ref q) (bx ks ts ws wn)/\PF ks ts ws wn/\∀H',Same H H'->Q (.bl (aY (nE ks ts ws wn))) H'
theorem tT {f:Addr}{fd:FuncData}(F:Fun K "is_frame" "is_frame" iy f fd) (B:Blt mg) (r:Cal P w K mg base 3 "are_knots" ["knots"] pT) (L:Cal P w K mg base 1 "homes" ["house"] nJ) (j:Cal P w K mg base 1 "is_below_top" ["table", "group"] oA) (g:Cal P w K mg base 3 "are_house_ties" ["table", "ties"] qc) (p:Cal P w K mg base 3 "are_wants" ["table", "wants"] qm):FnOk P w K mg base CX0 4 f fd ["thing"] nL := by
 refine F.ok1 ["thing","table"] λnd H Q E y h=>?_;obtain⟨q,m,ts,ws,wn,rfl,R,G,k⟩:=h;obtain⟨q',a,b,c,d4,J,I,R1,R2,R3,R4⟩:=ci R;cases J;obtain⟨b',rb,J,hb,a1⟩:=bo R2;cases J;obtain⟨c',rc,J,hc,a6⟩:=bo R3;cases J;obtain⟨d',rd,J,a3,a5⟩:=bo R4;cases J;obtain⟨a',ra,J,ha,b0⟩:=cz R1;cases J;obtain⟨c0,kr,D,a8⟩:=G.hd;have a7:(m.map (·.1)).head? = some ("":Str):=by rw[D];rfl
 have l2:=G.l2;have l3:=G.l3;rw[BJ] at l3;have rl:=b0.len;rw[BA] at rl;have b6:∀u∈aB m,Nm u:=λu hu=>by obtain⟨o,l,h⟩:=Cw.mp hu;exact G.kd o l u h
 have no:∀Z,Same H Z->¬ nE m ts ws wn->Q (.bl false) Z:=λZ s' n=>by
  have:=k Z s';rw[cN n] at this;exact this
 refine⟨_,(aa (aJ (PW.pt (dt (bH (bI (eJ K "tuple" B (p2 (pv 0) (fO B))))) (cT (aj (cW y.units) (aQ K B (p1 (pv 0))) ac (av _))))) (ae (ai bN)) aF)
  (aa (aJ (PW.pt (dt (bH (bI (dG rfl B (p1 (bn (ak iy) ["thing","table"] [] "part" [] (aP K (pv 0)) aT (eJ K "tuple" B (p2 (pv 0) (fO B)))))))) (cT (bH (bI (pc r y (p1 (px K y (pv 0) ac)))))))) (ae (ai bN)) aF)
  (aa (cv (i:=1) nd rfl (Or.inr rfl) (pc L y (p1 (pv 0))))
  (aa (aJ (bH (bI (dG rfl B (p1 (bn (ak iy) ["thing","table"] [1] "knot" ["table"] (aP K (bG ji (px K y (pv 0) ac) (bE ac) cp)) aT (pc j y (p2 (pv 1) (px K y (pv 0) ac)))))))) (ae (ai bN)) aF)
  (ae (ai (dh (pc g y (p2 (pv 1) (aH gG (px K y (pv 0) ac) (px K y (pv 0) ac)))) (dZ (pc p y (p2 (pv 1) (px K y (pv 0) ac))))))))))),?_⟩
 refine⟨_,rfl,_,_,true,rfl,.tup I,rfl,_,rfl,bM ?_⟩;refine⟨_,rfl,_,_,rfl,Or.inr ⟨_,.of I,rfl⟩,.sc rfl ⟨_,rfl,aA (λh=>absurd h (by show ¬ (!decide (V.int 4=V.int 4))=true;decide)) λ_=>bf ?_⟩⟩;refine⟨_,rfl,q,rfl,⟨_,.of I⟩,?_⟩;refine jK I rfl (by show 4<=8000000;decide) (λi x hi Z Q sm qq=>?_) λH1 s1=>⟨_,rfl,bM ?_⟩
 ·have hx:=BG hi;obtain⟨z,zs,rfl,hz⟩:∃z zs,x=.ref z/\H z=some (.tup zs):=by
   simp only[BH,CM,or_false] at hx;rcases hx with rfl | rfl | rfl | rfl
   ·exact⟨_,_,rfl,ha⟩
   ·exact⟨_,_,rfl,hb⟩
   ·exact⟨_,_,rfl,hc⟩
   ·exact⟨_,_,rfl,a3⟩
  exact⟨_,rfl,_,_,true,rfl,.tup (sm _ _ hz),rfl,qq Z (Same.refl _)⟩
 refine⟨_,rfl,.tup (.of (s1 _ _ I)) rfl (aD ⟨a,m,c0,kr,rfl,R1.same s1,D,a8,G.kd,G.l1,l2,λH2 s2=>⟨_,rfl,?_⟩⟩)⟩;have X:=s1.trans s2;by_cases M:lP m
 case neg =>
  rw[cN M];exact dm (no H2 X λ⟨N,z⟩=>M ⟨by rw[z.T.perm.length_eq];exact z.T.len,z.T.knd,z.T.kn⟩)
 rw[dU M];refine bM (bf ?_);obtain⟨a2,a0,kn⟩:=M;refine⟨_,rfl,q,m,ts,ws,wn,rfl,R.same X,a0,a2,λd S H3 s3 b9 hd ar=>?_⟩;refine bT ?_;dsimp only;have O:=X.trans s3;refine⟨_,rfl,.tup (.of (O _ _ I)) rfl ⟨_,rfl,a,ra,rfl,O _ _ ha,λp1 H4 s4 U=>?_⟩⟩;have ec:cD ra (some 1) none=ra.drop 1:=gg ra 1;rw[ec] at U;have a4:=O.trans s4;have C:=s4 _ _ hd;refine⟨p1,rfl,⟨_,.of U⟩,?_⟩;have b7:((m.drop 1).map λo=>cw m 6 o.1)=(m.drop 1).map λo=>aY (cw m 6 o.1=true):=by
  congr 1
  funext o
  exact df Iff.rfl
 refine fe ((m.drop 1).map λo=>cw m 6 o.1) (by rw[BA,CB,CB,rl]) U rfl (by rw[CB];omega) (λi x bb hi a9 Z Q sm qq=>?_) λH5 s5=>⟨_,rfl,?_⟩
 ·rw[Dv] at hi;obtain⟨b3,ta,la,hk,rfl,b2,b8⟩:=cu b0 hi;rw[BM,Dv,hk] at a9;cases BD a9;exact⟨_,rfl,_,rfl,.tup (.of (sm _ _ (a4 _ _ b2))) rfl (aD ⟨d,S,m,b3.1,rfl,sm _ _ C,ar,qq⟩)⟩
 have v:=a4.trans s5;rw[b7,ib];by_cases cl:∀o∈m.drop 1,cw m 6 o.1=true
 case neg =>
  rw[cN cl];refine dm (no H5 v λ⟨N,z⟩=>cl λo l=>?_);obtain⟨dd,d0,du,dl⟩:=z.dpt;have W:=List.mem_of_mem_drop l;have g1:o.1∈N:=(z.T.sub o W).resolve_left λw=>by
   rw[D] at l;exact oQ (a8 o l) w
  have:=dl o W;exact nX z.T du g1 (BE.mpr ⟨o,W,rfl⟩) (by omega)
 rw[dU cl];refine bM (bf ?_);obtain⟨N,T,b1⟩:=yR a0 kn a7 b6 a2 λo l=>by
  rw[D] at l;rcases BH.mp l with rfl | l
  ·exact .inl rfl
  ·exact .inr (cl o (by rw[D];exact l))
 have bl:=a1.len;have b5:=a6.len;have dl:=a5.len;rw[BA] at bl b5 dl;have l4:=G.l4;refine⟨_,rfl,_,rfl,.tup (.of (v _ _ I)) rfl ⟨_,rfl,.tup (.of (v _ _ I)) rfl ⟨b,c,_,_,rfl,rfl,v _ _ hb,v _ _ hc,Ci (dN (by omega)),λtu H6 s6 e6=>aD ?_⟩⟩⟩;have Y:=v.trans s6;refine⟨d,tu,S,N,m,rb++rc,ts++ws,rfl,(s5.trans s6) _ _ C,ar,T,e6,by rw[BO];exact RepAll.append (a1.same Y) (a6.same Y),G.pn,by rw[BJ];omega,λH7 s7=>⟨_,rfl,?_⟩⟩;have A:=Y.trans s7;by_cases s:rn N m (ts++ws)
 case neg =>
  rw[cN s];refine bM (no H7 A λ⟨b4,z⟩=>s ⟨λe t=>?_,z.nd,z.tl⟩);rcases BR.mp t with t | t
  ·have:=z.tp e t;exact⟨(hA T z.T).mpr this.1,(hA T z.T).mpr this.2.1,this.2.2⟩
  ·have:=z.wp e t;exact⟨(hA T z.T).mpr this.1,(hA T z.T).mpr this.2.1,this.2.2⟩
 rw[dU s];refine dm ?_;refine⟨_,rfl,_,rfl,.tup (.of (A _ _ I)) rfl (aD ⟨d,d4,S,N,m,rd,wn,rfl,((s5.trans s6).trans s7) _ _ C,ar,T,A _ _ a3,a5.same A,G.wt,by omega,λH8 s8=>?_⟩)⟩;have e:aY (WnF N m wn)=aY (nE m ts ws wn):=by
  refine df (dec_iff.trans ⟨λz=>⟨N,T,a7,b1,λe t=>s.1 e (CH _ t),λe t=>s.1 e (Cy _ t),s.2.1,z,s.2.2,?_⟩,λ⟨b4,z⟩=>⟨λe t=>⟨(z.wf.ok e t).1,(hA T z.T).mpr (z.wf.ok e t).2⟩,z.wf.un,z.wf.wd⟩⟩);have:=dy z.un (λu hu=>by obtain⟨e,t,w⟩:=BE.mp hu;exact w ▸ (z.ok e t).2);rw[BA] at this;have:=T.len;omega
 rw[e];exact k H8 (A.trans s8)
theorem iw {us:LS}{ks:Kn}(T:Tre us ks) {k z:Str × LS}(b:k∈ks) (a:z∈ks) (e:k.1=z.1):k=z:=sw T.kn b a e
theorem nq {us:LS}{ks:Kn}(T:Tre us ks) {ts wn:Prs}(b:TsP us ks ts) (W:WnF us ks wn) {k:Str × LS}(a:k∈ks) (d:ts.length<=200) {H:Hp}{v:V}(r:Rep H v (mW ks ts wn k)):Web H v k.2 (cH ks ts wn k.1 k.2) :=
 ⟨r,bQ T a,λs e=>T.nm s (T.isIn a e),BP (dy (bQ T a) λu c=>T.isIn a c) T.len,uj T W a d,mI T b a⟩
def Fw1 (ks:Kn) (ts wn:Prs) (k:Str × LS):Prop:=∀e∈cH ks ts wn k.1 k.2,MG.ix k.2 e.1<MG.ix k.2 e.2
def FwH (ks:Kn) (ts wn:Prs):Prop:=∀k∈ks,Fw1 ks ts wn k
def GdH (ks:Kn) (ts wn ws:Prs):Prop:=FwH ks ts wn/\WsR ks ts wn ws
theorem Ae (ks:Kn) (ts wn:Prs):(ks.map λk=>aY (Fw1 ks ts wn k)).all id=aY (FwH ks ts wn):=by
 rw[Cu,dec_iff,CD]
 constructor
 ·intro h k a;exact dec_iff.mp (h _ (BE.mpr ⟨k,a,rfl⟩))
 ·intro h b c;obtain⟨k,a,rfl⟩:=BE.mp c;exact dU (h k a)
def oB:Sp:=λvs H Q _=>∃q us ks ts ws wn,vs=[.ref q]/\Rep H (.ref q) (bx ks ts ws wn)/\FrH us ks ts ws wn/\∀H',Same H H'->Q (.bl (aY (FwH ks ts wn))) H'
theorem ul {f:Addr}{fd:FuncData}(F:Fun K "keeps_ties" "keeps_ties" iq f fd) (B:Blt mg) (d:Cal P w K mg base 3 "kept_partings" ["house"] kW) (j:Cal P w K mg base 2 "view_by" ["house", "knot", "partings"] jE) (g:Cal P w K mg base 3 "is_order" ["web", "thing"] mL):FnOk P w K mg base CX0 4 f fd ["house"] oB := by
 refine F.ok1 ["house","partings"] λnd H Q E p h=>?_;obtain⟨q,Z,o,y,ws,C,rfl,R,G,k⟩:=h;have T:=G.T;have tl:=G.tl;rw[BJ] at tl;obtain⟨q',a,b,c,d4,J,hq,R1,R2,R3,R4⟩:=ci R;cases J;obtain⟨a',ra,J,ha,D⟩:=cz R1;cases J;have rl:=D.len;rw[BA] at rl;have a1:=T.few;refine⟨_,(aa (cv (i:=1) nd rfl (Or.inr rfl) (pc d p (p1 (pv 0))))
  (ae (ai (dG rfl B (p1 (bn (ak iq) ["house","partings"] [0,1] "knot" ["house","partings"] (aP K (px K p (pv 0) ac)) aT (pc g p (p2 (pc j p (au (pv 1) (p2 (px K p (pv 0) ac) (pv 2)))) (fC K rfl B (p1 (px K p (pv 0) ac))))))))))),?_⟩
 refine⟨_,rfl,q,Z,o,y,ws,C,rfl,R,T,G.tp,by omega,λlp rp H1 s a0 N U=>?_⟩;refine bT ?_;dsimp only;refine⟨_,rfl,.tup (.of (s _ _ hq)) rfl ⟨a,rfl,⟨_,.of (s _ _ ha)⟩,?_⟩⟩;refine fe (o.map λk=>aY (Fw1 o y C k)) (by rw[BA];omega) (s _ _ ha) rfl (by omega) (λi x bb hi A H' Q X qq=>?_) λH2 s2=>by rw[Ae];exact k H2 (s.trans s2)
 obtain⟨m,ta,la,hk,rfl,z,Y⟩:=cu D hi;have t:=BG hk;rw[BM,hk] at A;cases BD A;have n:=s.trans X;refine⟨_,rfl,_,rfl,.tup (.of (n _ _ z)) rfl ⟨_,rfl,q,lp,Z,o,y,ws,C,m,rp,rfl,R.same n,T,G.tp,G.wf,t,by omega,X _ _ N,U.same X,λx H3 s3 rx=>?_⟩⟩;have r:=n.trans s3;refine⟨_,rfl,.tup (.of (r _ _ z)) rfl (aD ⟨_,rfl,.seq (.inr (.of (r _ _ Y))) λl hl=>aD ?_⟩)⟩;refine nw hl λH4 s4 O=>?_;have W:=(nq T G.tp G.wf t (by omega) rx).same s4;obtain⟨xq,_,_,_,rfl,_⟩:=km W.rep;have kl:=W.len;have L:iQ m.2 (cH o y C m.1 m.2) (List.map V.str m.2)=aY (Fw1 o y C m):=by
  unfold iQ;rw[ir,Cu,dec_iff,Co,Co,Co,CD,CD,decide_eq_true_iff,decide_eq_true_iff]
  constructor
  ·rintro⟨_,_,_,h⟩ e S;exact BX (h e S)
  ·intro h;refine⟨λv M=>?_,BA ..,W.nd,λe S=>BI (h e S)⟩;obtain⟨u,I,rfl⟩:=BE.mp M;exact BI I
 refine⟨xq,m.2,_,.ref l,rfl,W,.lst O,λa xs e h=>?_,λH5 s5=>?_⟩
 ·cases e;rw[O] at h;cases h;refine⟨by rw[BA];omega,λv M=>?_⟩;obtain⟨u,I,rfl⟩:=BE.mp M;exact .str (nmS (W.nm u I))
 ·rw[jI O,L];exact qq H5 ((s3.trans s4).trans s5)
def uF:Sp:=λvs H Q _=>∃q us ks ts ws wn u v,vs=[.ref q,.str u,.str v]/\Rep H (.ref q) (bx ks ts ws wn)/\Tre us ks/\u∈us/\v∈us/\∀x H',Same H H'->jH H' x (bw ks u v)->Q x H'
theorem yr {f:Addr}{fd:FuncData}(F:Fun K "parting" "parting" ow f fd) (B:Blt mg) (b:Cal P w K mg base 1 "homes" ["house"] kP) (a:Cal P w K mg base 2 "parting_by" ["table","one","other"] eF):FnOk P w K mg base CX0 3 f fd ["house","one","other"] uF:=by
 refine F.ok1 ["house","one","other"] λA H Q E i h=>?_;obtain⟨q,e,g,t,r,l,u,v,rfl,R,T,o,p,k⟩:=h;refine⟨_,(ae (ai (pc a i (au (pc b i (p1 (pv 0))) (p2 (pv 1) (pv 2)))))),?_⟩;refine⟨_,rfl,q,e,g,t,r,l,rfl,R,T,λd c C n z hd j=>?_⟩;exact⟨_,rfl,_,rfl,d,c,e,g,u,v,rfl,hd,j,T,o,p,λx m y s=>k x m (n.trans y) s⟩
theorem qC {s r:TS}{D:Ends}{σ:St}{H:Hp}(Inv:St->Hp->Prop) (b:∀σ' H',Inv σ' H'->r D σ' H') (a:∀N:St->Hp->Prop,(∀σ' H',Inv σ' H'->N σ' H')->s { D with nx:=N } σ H):vY s r D σ H:=a _ b
def TbW (H:Hp) (tb:Addr) (ks:Kn) (ts wn:Prs) (kv:List (Key × V)):Prop:=∀(n:Str) (v:V),aI kv (.inr n)=some v->∃(k:Str × LS) (d:Addr),k∈ks/\k.1=n/\v=.ref d/\d≠tb/\Tab H d k.2 (iD k.2 (cH ks ts wn k.1 k.2))
theorem TbW.same {H H':Hp}{tb:Addr}{ks:Kn}{ts wn:Prs}{z:List (Key × V)}(h:TbW H tb ks ts wn z) (s:Same H H'):TbW H' tb ks ts wn z:=λn v e=>let ⟨k,d,a,b,c,x,t⟩:=h n v e;⟨k,d,a,b,c,x,t.same s⟩
theorem pz {H:Hp}{a b:Addr}{o:HO}(h:H b=some o) (g:H a=none):a≠b:=λz=>by rw[z,h] at g;cases g
theorem mz {H:Hp}{tb d:Addr}{ss:LS}{f:Str->LS}{I G:List (Key × V)}(h:Tab H d ss f) (a:H tb=some (.dK I)) (n:d≠tb):Tab (upd H tb (.dK G)) d ss f:=by
 obtain⟨b,hd,e⟩:=h;refine⟨b,by rw[ah n];exact hd,λs i=>?_⟩;obtain⟨l,g,c⟩:=e s i;exact⟨l,g,by rw[ah (bK c a (by intro z;cases z))];exact c⟩
theorem yU {c:LS}{es:Prs}(d:∀e∈es,e.1∈c/\e.2∈c) {x y:Str}(h:MG.Rch (Tie es) x y):MG.Rch (Ner c (iD c es)) x y :=
 MG.Rch.map id (λa b r=>⟨(d _ r).1,Cj.mpr ⟨(d _ r).2,BI r⟩⟩) h
theorem AO {us:LS}{ks:Kn}(T:Tre us ks) {ts wn:Prs}{e:Str × Str}{ws:Prs}{z:Str × LS}{G I:Str}(c:z∈ks) (g:bw ks e.1 e.2=some (z.1,G,I)) (h:WsR ks ts wn ws) (he:e∈ws):MG.Rch (Tie (cH ks ts wn z.1 z.2)) I G:=by
 obtain⟨k,b,j,l,a,_,_,r⟩:=h e he;rw[g] at a;obtain⟨i,d⟩:=Prod.mk.inj (BD a);obtain⟨d,f⟩:=Prod.mk.inj d;have:=iw T c b i;subst this;rw[d,f];exact r
theorem zh {c:LS}{es:Prs}{x y:Str}(h:MG.Rch (Ner c (iD c es)) x y):MG.Rch (Tie es) x y:=MG.Rch.map id (λa b r=>by
 have:=(Cj.mp (show b∈iD c es a from r.2)).2;exact(BX this:(a,b)∈es)) h
def nz:Sp:=λvs H Q _=>∃q us ks ts ws wn,vs=[.ref q]/\Rep H (.ref q) (bx ks ts ws wn)/\FrH us ks ts ws wn/\∀H',Same H H'->Q (.bl (aY (WsR ks ts wn ws))) H'
theorem tS {f:Addr}{fd:FuncData}(F:Fun K "keeps_waiting" "keeps_waiting" iH f fd) (B:Blt mg) (C:Cal P w K mg base 3 "parting" ["house", "one", "other"] uF) (a9:Cal P w K mg base 4 "view" ["house", "knot"] sW) (g:Cal P w K mg base 3 "nexts_of_all" ["web"] (jv false)) (j:Cal P w K mg base 1 "steps_from" ["table", "starts"] pf):FnOk P w K mg base CX0 5 f fd ["house"] nz := by
 refine F.ok1 ["house","tables","tie","part"] λnd H Q E l h=>?_;obtain⟨q,us,U,ts,ws,wn,rfl,R,G,k⟩:=h;have T:=G.T;have tl:=G.tl;rw[BJ] at tl;obtain⟨q',a,b,c,d4,e0,hq,R1,R2,R3,R4⟩:=ci R;cases e0;obtain⟨c',rc,e0,hc,c2⟩:=bo R3;cases e0;have rl:=c2.len;rw[BA] at rl;refine⟨_,(aa (pst 1 nd ew)
  (aa (aZ PassesOwn.never rfl (aP K (px K l (pv 0) ac)) (az (i:=2) nd rfl (Or.inl rfl)) (aa (pst 3 nd (pc C l (au (pv 0) (p2 (px K l (pv 2) ac) (px K l (pv 2) ac)))))
  (aa (aJ (aj (cO K l.units) (px K l (pv 3) ac) (pv 1) (by with_unfolding_all rfl)) (ae (bU (pc g l (p1 (pc a9 l (p2 (pv 0) (px K l (pv 3) ac))))) (ce (pv 1) (px K l (pv 3) ac) (cC l.units)))) aF)
  (ae (aJ (aj (cO K l.units) (px K l (pv 3) ac) (pc j l (p2 (px K l (pv 1) (px K l (pv 3) ac)) (bt (p1 (px K l (pv 3) ac))))) (by with_unfolding_all rfl)) (ae (ai bN)) aF)))))
  (ae (ai bN)))),?_⟩
 intro tb c5;have s0:=Same.new (o:=.dK []) c5;refine⟨_,rfl,.tup (.of (s0 _ _ hq)) rfl ⟨c,rfl,⟨_,.of (s0 _ _ hc)⟩,?_⟩⟩
 let b6:Nat->St->Hp->Prop:=λi σ O=>∃(o2 o3:Option V) (kv:List (Key × V)),σ=[some (.ref q),some (.ref tb),o2,o3]/\Same H O/\O tb=some (.dK kv)/\kv.length<=i/\TbW O tb U ts wn kv/\WsR U ts wn (ws.take i)
 refine bV (R:=Q) (xs:=rc) b6 ⟨none,none,[],rfl,s0,af,BB _,(λn v e=>by cases e),λe he=>by cases he⟩ ?_ ?_ ?_
 ·rintro i σ O hi ⟨o2,o3,kv,rfl,sm,_⟩;exact .of (sm _ _ hc)
 ·rintro _ i x σ H1 hx ⟨o2, o3, kv, rfl, s1, b9, kl, tw, wr⟩;obtain⟨e,ta,he,rfl,b8⟩:=bP c2 hx;have d6:=(BF.mp he).1;have em:=BG he;have w:=G.wp e em;obtain⟨p,r,L,y1,hp,a0,Y⟩:∃p∈U,∃L y1,bw U e.1 e.2=some (p.1,L,y1)/\L∈p.2/\y1∈p.2:=by
   cases hpo:bw U e.1 e.2 with
   | none=>exact absurd hpo w.2.2
   | some t3 =>
    obtain⟨kq,L,y1⟩:=t3;obtain⟨b5,d3,a0,Y,_⟩:=T.part w.1 w.2.1 hpo;obtain⟨p,r,X⟩:=BE.mp (T.par_in a0).2;rw[b5] at X;have a7:(p.1,p.2)∈U:=r;exact⟨p,r,L,y1,by rw[X],T.kid a0 (by rw[b5,<- X];exact a7),T.kid Y (by rw[d3,<- X];exact a7)⟩
  refine bT ?_;refine⟨_,rfl,_,rfl,.tup (.of (s1 _ _ b8)) rfl ⟨_,rfl,.tup (.of (s1 _ _ b8)) rfl (aD ⟨q,us,U,ts,ws,wn,e.1,e.2,rfl,R.same s1,T,w.1,w.2.1,λv H2 s2 px=>?_⟩)⟩⟩;rw[hp] at px;obtain⟨tt,rfl,I⟩:=px;have b0:=s1.trans s2;have y:=s2 _ _ b9;have b3:=tw.same s2;refine bT ?_;dsimp only;refine qC (λc4 O=>∃s,c4=[some (.ref q),some (.ref tb),some (.ref ta),some (.ref tt)]/\Same H O/\O tt=some (.tup [.str p.1,.str L,.str y1])/\O tb=some (.dK s)/\s.length<=i+1/\TbW O tb U ts wn s/\(aI s (.inr p.1)).isSome=true) ?_ ?_
  ·rintro c4 H3 ⟨s, rfl, s3, M, a6, c8, b4, hs⟩;obtain⟨v,W⟩:=CT.mp hs;obtain⟨k',d,J,ek,rfl,b1,b2⟩:=b4 _ v W;have:=iw T J r ek;subst this;have b7:=mI T G.tp (wn:=wn) J;refine⟨_,rfl,.tup (.of M) rfl ⟨_,rfl,_,rfl,.tup (.of M) rfl (.dic (.inl ⟨s,.inr k'.1,.inl a6,rfl,W.symm⟩) ⟨_,rfl,.tup (.of M) rfl ⟨szl 1,λd0 c1=>aD ?_⟩⟩)⟩⟩;refine nw c1 λH4 s4 e4=>?_;have c3:k'.2.length<=60:=BP (dy (bQ T J) λu hu=>T.isIn J hu) T.len;refine⟨d,d0,y1,k'.2,_,rfl,e4,b2.same s4,Y,c3,λt _ u hu=>(Cj.mp hu).1,λde c7 H5 s5 d5 d1 c0=>?_⟩;refine .dic (DGet.k (k:=.inr L) d1) ⟨_,rfl,?_⟩;have Z:=s4.trans s5;refine aA (λh=>?_) (λh=>?_)
   ·have nr:¬ WsR U ts wn ws:=λz=>by
       obtain⟨m,a8⟩:=(yU b7 (AO T J hp z em)).dst;have:=(c0 L (.int m)).mpr ⟨m,rfl,a8⟩;rw[this] at h;exact absurd h (by simp)
    have:=k H5 (s3.trans Z);rw[cN nr] at this;exact this
   ·obtain⟨v,W⟩:=CT.mp (Option.isSome_iff_ne_none.mpr (show aI c7 (.inr L)≠none by simpa using h));obtain⟨m,_,a8⟩:=(c0 L v).mp W;refine bf ⟨_,_,s,rfl,s3.trans Z,Z _ _ a6,c8,b4.same Z,?_⟩;rw[BW,he];intro e' S;rcases BR.mp S with S | S
    ·exact wr e' S
    ·have:e'=e:=by simpa using S
     subst this;exact⟨k',J,L,y1,hp,a0,Y,zh a8.rch⟩
  ·intro N hN;refine⟨_,rfl,.tup (.of I) rfl ⟨_,rfl,.dic (DGet.k (k:=.inr p.1) y) ⟨_,rfl,?_⟩⟩⟩;refine aA (λh=>?_) (λh=>bf (hN _ _ ⟨kv,rfl,b0,I,y,by omega,b3,?_⟩))
   ·refine⟨_, rfl, _, rfl, .tup (.of I) rfl (aD ⟨q, us, U, ts, ws, wn, p, rfl, R.same b0, T, G.tp, G.wf, r, by omega, λvw H3 s3 rv => aD ?_⟩)⟩;refine⟨vw,p.2,_,rfl,webA (nq T G.tp G.wf r (by omega) rv),λdn H4 s4 c6 b2=>?_⟩;have D:=s3.trans s4;have c9:=b0.trans D;have A:=D _ _ y;have b1:dn≠tb:=pz (s3 _ _ y) c6;have fr:H tb=none:=c5;have pl:=bR kv (.inr p.1) (V.ref dn);refine⟨_,rfl,_,rfl,.tup (.of (D _ _ I)) rfl (.dic (DPut.k (k:=.inr p.1) A (ap (by omega))) (hN _ _ ⟨_,rfl,λb o hb=>?_,?_,af,by omega,λn v W=>?_,?_⟩))⟩
    ·rw[ah (ao hb fr)];exact c9 _ _ hb
    ·rw[ah (bK (D _ _ I) A (by intro z;cases z))];exact D _ _ I
    ·rw[cJ] at W;by_cases z:n=p.1
     ·subst z;rw[if_pos rfl] at W;exact⟨p,dn,r,rfl,(BD W).symm,b1,mz b2 A b1⟩
     ·rw[if_neg (λq=>z (by injection q))] at W;obtain⟨k2,d2,a1,a2,a3,a4,a5⟩:=b3 n v W;exact⟨k2,d2,a1,a2,a3,a4,mz (a5.same D) A a4⟩
    ·rw[cJ,if_pos rfl];rfl
   ·exact Option.isSome_iff_ne_none.mpr (by simpa using h)
 ·rintro σ O ⟨o2,o3,kv,rfl,sm,_,_,_,wr⟩;rw[rl,BS (BB _)] at wr;have:=k O sm;rw[dU wr] at this;exact this
def gY (ks:Kn) (ts ws wn:Prs):Prop:=nE ks ts ws wn/\GdH ks ts wn ws
def iL:Sp:=λvs H Q _=>∃q ks ts ws wn,vs=[.ref q]/\Rep H (.ref q) (bx ks ts ws wn)/\PF ks ts ws wn/\∀H',Same H H'->Q (.bl (aY (gY ks ts ws wn))) H'
theorem rZ {f:Addr}{fd:FuncData}(F:Fun K "is_house" "is_house" oH f fd) (B:Blt mg) (c:Cal P w K mg base 4 "is_frame" ["thing"] nL) (b:Cal P w K mg base 4 "keeps_ties" ["house"] oB) (a:Cal P w K mg base 5 "keeps_waiting" ["house"] nz):FnOk P w K mg base CX0 6 f fd ["thing"] iL:=by
 refine F.ok1 ["thing"] λy H Q E o h=>?_;obtain⟨q,d,l,i,g,rfl,R,r,k⟩:=h;refine⟨_,(ae (ai (dh (pc c o (p1 (pv 0))) (dh (pc b o (p1 (pv 0))) (dZ (pc a o (p1 (pv 0)))))))),?_⟩;refine⟨_,rfl,q,d,l,i,g,rfl,R,r,λv n=>⟨_,rfl,?_⟩⟩;by_cases m:nE d l i g
 case neg =>
  rw[cN m];have:=k v n;rw[cN λz=>m z.1] at this;exact bM this
 rw[dU m];refine dm ?_;obtain⟨p,G⟩:=id m;refine⟨_,rfl,q,p,d,l,i,g,rfl,R.same n,G,λs x=>⟨_,rfl,?_⟩⟩;have j:=n.trans x;refine aA (λh=>?_) (λh=>?_)
 ·refine⟨_,rfl,q,p,d,l,i,g,rfl,R.same j,G,λu t=>?_⟩;have h:=dec_iff.mp h;have e:aY (WsR d l g i)=aY (gY d l i g):=df (dec_iff.trans ⟨λz=>⟨m,h,z⟩,λz=>z.2.2⟩);rw[e];exact k u (j.trans t)
 ·have z:¬ gY d l i g:=λz=>h (dU z.2.1);have:=k s j;rw[cN z] at this;exact this
abbrev vJ:LS:=["OrderError","NoText","NoHouse"]
abbrev rm:LS:=["OrderError","NoText","NoHouse"]
def iN (ec:Str->Addr):Sp:=λvs H Q E=>∃(a b c d:Addr) (ra rb rc rd:LV) (ks:Kn) (ts ws wn:Prs),vs=[.ref a,.ref b,.ref c,.ref d]/\SqA H a ra/\SqA H b rb/\SqA H c rc/\SqA H d rd/\RepAll H ra (ks.map cU)/\RepAll H rb (ts.map aG)/\RepAll H rc (ws.map aG)/\RepAll H rd (wn.map aG)/\PF ks ts ws wn /\
 (gY ks ts ws wn->∀q H',Same H H'->Rep H' (.ref q) (bx ks ts ws wn)->Q (.ref q) H')/\(¬ gY ks ts ws wn->∀H',Same H H'->E (.ref (ec "NoHouse")) none H')
theorem jW {f:Addr}{fd:FuncData}{ec:Str -> Addr}(F:Fun K "house_of" "house_of" iA f fd) (B:Blt mg) (Er:Errs K mg base ec vJ rm) (p:Cal P w K mg base 6 "is_house" ["thing"] iL):FnOk P w K mg base (CX1 P w) 7 f fd ["knots", "ties", "waiting", "wants"] (iN ec) := by
 refine F.ok2 ["knots","ties","waiting","wants","parts","house"] λnd H Q E hr h=>?_;obtain⟨a,b,c,d,N,T,S,rd,ks,ts,ws,wn,rfl,ha,hb,hc,hd,b4,a7,b1,b0,G,k,k0⟩:=h;refine⟨_,(aa (pst 4 nd (bt (au (pv 0) (au (pv 1) (p2 (pv 2) (pv 3))))))
  (aa (aJ (bH (bI (dG rfl B (p1 (bn (ak iA) ["knots","ties","waiting","wants","parts","house"] [] "part" [] (bg K (pv 4)) aT (zQ K "list" "tuple" B (p2 (pv 0) (be (p2 (uB B) (fO B)))))))))) (ae (mF Er (by decide) (by decide) rfl (p1 aw))) aF)
  (aa (pst 5 nd (cQ K B (p1 (bn (ak iA) ["knots","ties","waiting","wants","parts","house"] [] "part" [] (bg K (pv 4)) aT (zF K B (p1 (pv 0)))))))
  (aa (aJ (bH (bI (pc p hr (p1 (pv 5))))) (ae (mF Er (by decide) (by decide) rfl (p1 aw))) aF)
  (ae (ai (pv 5))))))),?_⟩
 refine⟨_,rfl,_,rfl,_,rfl,_,rfl,szl 4,λlp a8=>?_⟩;refine nw a8 λH1 s1 e1=>?_;refine bT ?_;dsimp only;have b2:∀x∈[V.ref a,V.ref b,V.ref c,V.ref d],∃z g,x=.ref z/\SqA H z g:=λx q=>by
  simp only[BH,CM,or_false] at q;rcases q with rfl | rfl | rfl | rfl
  ·exact⟨_,_,rfl,ha⟩
  ·exact⟨_,_,rfl,hb⟩
  ·exact⟨_,_,rfl,hc⟩
  ·exact⟨_,_,rfl,hd⟩
 refine⟨_,rfl,lp,rfl,⟨_,.of e1⟩,?_⟩;refine iE [true,true,true,true] rfl e1 rfl (by show 4<=8000000;decide) (λi x b hi a4 L Q J qq=>?_) λH2 s2=>⟨_,rfl,bM (bf ?_)⟩
 ·obtain⟨z,g,rfl,I⟩:=b2 x (BG hi);obtain rfl:b=true:=by simpa using BG a4
  refine⟨_,rfl,szl 2,λtp a9=>?_⟩;refine nw a9 λn v e3=>aD ?_;rcases SqA.same (SqA.same (SqA.same I s1) J) v with I | I
  ·exact⟨_,tp,_,true,rfl,e3,.lst I,rfl,qq n v⟩
  ·exact⟨_,tp,_,true,rfl,e3,.tup I,rfl,qq n v⟩
 have Y:=s1.trans s2;refine⟨_,rfl,lp,rfl,⟨_,.of (s2 _ _ e1)⟩,?_⟩;have a5:∀(j:Nat) (x:V),[V.ref a,V.ref b,V.ref c,V.ref d][j]? = some x->∃z r,x=.ref z/\[N,T,S,rd][j]? = some r/\SqA H z r:=λj x q=>by
  match j,q with
  | 0,q=>exact⟨a,N,(BD q).symm,rfl,ha⟩
  | 1,q=>exact⟨b,T,(BD q).symm,rfl,hb⟩
  | 2,q=>exact⟨c,S,(BD q).symm,rfl,hc⟩
  | 3,q=>exact⟨d,rd,(BD q).symm,rfl,hd⟩
 let a0:Addr->Nat->LV->St->Hp->Prop:=λD i A C L=>∃(o:Option V) (g:List Addr),C=[o]/\A=g.map V.ref/\g.length=i/\(∀(j:Nat) (z:Addr),g[j]? = some z->∃r,[N,T,S,rd][j]? = some r/\L z=some (.tup r))/\Same H2 L/\H2 D=none
 refine cE [V.ref a,V.ref b,V.ref c,V.ref d] a0 λD hD=>⟨?_,?_,?_,?_⟩
 ·exact⟨none,[],rfl,rfl,rfl,(λj z h=>by cases h),Same.new hD,hD⟩
 ·rintro i A C L _ ⟨o,g,rfl,_,_,_,J,_⟩ _;exact .of (J _ _ (s2 _ _ e1))
 ·rintro i A C L x q ⟨o, g, rfl, rfl, zl, s, J, y⟩ m;have b5:i<4:=(BF.mp q).1;obtain⟨z,r,rfl,hr,I⟩:=a5 i x q;have X:∀(z:Addr) (n:Hp), Same L n -> n z=some (.tup r) -> ∀(j:Nat) (M:Addr), (g ++ [z])[j]? = some M -> ∃r, [N, T, S, rd][j]? = some r /\ upd n D (.lst (g.map V.ref ++ [V.ref z])) M=some (.tup r) := λz n v b3 j M O => by
   have a3:=v _ _ m;have cs:∃r,[N,T,S,rd][j]? = some r/\n M=some (.tup r):=by
    by_cases h:j<g.length
    ·rw[Db h] at O;obtain⟨r',a1,a2⟩:=s j M O;exact⟨r',a1,v _ _ a2⟩
    ·rw[Dq (by omega)] at O;have hl:=(BF.mp O).1;have hl:j-g.length<1:=hl;have ej:j=i:=by omega
     subst ej;rw[show j-g.length=0 by omega] at O;have:z=M:=BD O;subst this;exact⟨r,hr,b3⟩
   obtain⟨r',a1,a2⟩:=cs;exact⟨r',a1,by rw[ah (bK a2 a3 (by intro z;cases z))];exact a2⟩
  have sz:(g.map V.ref).length<sizeLine:=by rw[BA];exact ap (by omega)
  have t:=SqA.same (SqA.same I Y) J;refine eV ?_;refine⟨_,rfl,_,rfl,?_⟩;rcases t with t | t
  ·refine .lst (.of t) λl hl=>?_;refine nw hl λn v e3=>?_;exact⟨v _ _ m,sz,_,g++[l],rfl,by rw[BO];rfl,by rw[BJ];show g.length+1=_;omega,X l n v e3,bq (J.trans v) y,y⟩
  ·exact .tup (.of t) ⟨m,sz,_,g++[z],rfl,by rw[BO];rfl,by rw[BJ];show g.length+1=_;omega,X z L (Same.refl _) t,bq J y,y⟩
 ·rintro A C n ⟨o,g,rfl,rfl,zl,s,v,y⟩ m;obtain⟨z1,U,Z,W,rfl⟩:∃z1 U Z W,g=[z1,U,Z,W]:=by
   match g,zl with
   | [z1,U,Z,W],_=>exact⟨_,_,_,_,rfl⟩
  have h1:n z1=some (.tup N):=by obtain⟨r,e,h⟩:=s 0 z1 rfl;rw[BD e];exact h
  have h2:n U=some (.tup T):=by obtain⟨r,e,h⟩:=s 1 U rfl;rw[BD e];exact h
  have h3:n Z=some (.tup S):=by obtain⟨r,e,h⟩:=s 2 Z rfl;rw[BD e];exact h
  have h4:n W=some (.tup rd):=by obtain⟨r,e,h⟩:=s 3 W rfl;rw[BD e];exact h
  refine aD ⟨D,_,rfl,.of m,λhq a6=>?_⟩;refine nw a6 λH4 s4 e4=>?_;refine bT ?_;dsimp only;have u:=(Y.trans v).trans s4;have R:Rep H4 (.ref hq) (bx ks ts ws wn):=gQ e4 (.tup (s4 _ _ h1) (b4.same u)) (.tup (s4 _ _ h2) (a7.same u)) (.tup (s4 _ _ h3) (b1.same u)) (.tup (s4 _ _ h4) (b0.same u));refine⟨_,rfl,hq,ks,ts,ws,wn,rfl,R,G,λH5 s5=>⟨_,rfl,?_⟩⟩;by_cases gd:gY ks ts ws wn
  ·rw[dU gd];refine bM (bf ?_);exact⟨_,rfl,k gd hq H5 (u.trans s5) (R.same s5)⟩
  ·rw[cN gd];refine dm ?_;exact⟨by show 1<=sizeLine;decide,k0 gd H5 (u.trans s5)⟩
def Gs (G:V->Hp->Prop):Prop:=∀(H H':Hp) (D:Addr) (acc:LV) (y:V),G y H->H D=some (.lst acc)->But D H H'->y≠.ref D->G y H'
theorem tV {d:PyData}(h:∀ {H H':Hp}{p:Addr}{ys:LV},H p=some (.lst ys)->But p H H'->∀ {v:V},Rep H v d->Rep H' v d):Gs λy H=>Rep H y d:=λ_ _ _ _ _ g hd b _=>h hd b g
theorem Bv {x:V}:Gs λy _=>y=x:=λ_ _ _ _ _ g _ _ _=>g
def Pts {α:Type}(G:α->V->Hp->Prop) (H:Hp) (refs:LV) (rows:List α):Prop:=refs.length=rows.length/\∀(i:Nat) (y:V) (r:α),refs[i]? = some y->rows[i]? = some r->G r y H
theorem Pts.rep {α:Type}{f:α->PyData}{H:Hp}:∀ {refs:LV}{rows:List α},Pts (λr y H=>Rep H y (f r)) H refs rows->RepAll H refs (rows.map f)
 | [],[],_=>.nil
 | [],r::rows,h=>by cases h.1
 | x::refs,[],h=>by cases h.1
 | x::refs,r::rows,h=>.cons (h.2 0 x r rfl rfl) (Pts.rep (refs:=refs) (rows:=rows) ⟨Nat.succ.inj h.1,λi y q a b=>h.2 (i+1) y q a b⟩)
theorem Pts.add {α:Type}{G:α->V->Hp->Prop}{H H':Hp}{D:Addr}{refs I:LV}{rows:List α}{y:V}{r:α}(d:∀r,Gs (G r)) (h:Pts G H refs rows) (k:∀y∈refs,y≠.ref D) (hd:H D=some (.lst I)) (b:But D H H') (g:G r y H) (j:y≠.ref D):Pts G H' (refs++[y]) (rows++[r]):=by
 refine⟨by rw[BJ,BJ,h.1];rfl,λi z q a c=>?_⟩;have l:=h.1;by_cases f:i<refs.length
 ·rw[Db f] at a;rw[Db (by omega)] at c;exact d q H H' D I z (h.2 i z q a c) hd b (k z (BG a))
 ·rw[Dq (by omega)] at a;rw[Dq (by omega)] at c;have e:=(BF.mp a).1;have e:i-refs.length<1:=e;have m:i-refs.length=0:=by omega
  rw[m] at a;rw[show i-rows.length=0 by omega] at c;have a:y=z:=BD a;have c:r=q:=BD c;subst a;subst c;exact d _ H H' D I y g hd b j
theorem mv {α:Type}{G:α -> V -> Hp -> Prop}(v:∀r, Gs (G r)) (t:∀r y H H', Same H H' -> G r y H -> G r y H') {H:Hp}{p:α -> Bool}{tc:TT}{te:TE}{rest:St}{rows:List α}{D:Addr}{i:Nat}{I:LV}{x:V}{r:α}{H':Hp}
    (w:rows[i]? = some r) (A:i<=8000000)
    (f:∀H' (T:V->Hp->Prop) (E:Hp->Prop),Same H H'->(p r=true->∀y H2,Same H' H2->G r y H2->(∀D I,H' D=some (.lst I)->y≠.ref D)->T y H2)->(p r=false->∀H2,Same H' H2->E H2)->tc (some x::rest) H' λb J=>if b=true then te (some x::rest) J T else E J)
    (pv:Pts G H' I ((rows.take i).filter p)) (k:∀y∈I,y≠.ref D) (m:Same H H') (e:H D=none) (c:H' D=some (.lst I)) (B:I.length<=i) :
    tc (some x::rest) H' λb J=>if b=true then te (some x::rest) J λy O=>O D=some (.lst I)/\I.length<sizeLine/\(∃o,(some x::rest:St)=o::rest/\Pts G (upd O D (.lst (I++[y]))) (I++[y]) ((rows.take (i+1)).filter p)/\(∀z∈I++[y],z≠.ref D)/\Same H (upd O D (.lst (I++[y])))/\H D=none/\(I++[y]).length<=i+1)
     else J D=some (.lst I)/\(∃o,(some x::rest:St)=o::rest/\Pts G J I ((rows.take (i+1)).filter p)/\(∀z∈I,z≠.ref D)/\Same H J/\H D=none/\I.length<=i+1):=by
 have s:rows.take (i+1)=rows.take i++[r]:=by rw[BW,w];rfl
 refine f H' _ _ m (λl y H2 d g u=>?_) (λl H2 d=>?_)
 ·have n:=u D I c;refine⟨d _ _ c,dN (by omega),some x,rfl,?_,λz h=>?_,bq (m.trans d) e,e,by rw[BJ];show I.length+1<=i+1;omega⟩
  ·rw[s,CA,show [r].filter p=[r] by rw[Cv,Dm,if_pos l]];exact Pts.add v ⟨pv.1,λj z q a b=>t q z _ _ d (pv.2 j z q a b)⟩ k (d _ _ c) But.upd g n
  ·rcases BR.mp h with h | h
   ·exact k z h
   ·rw[Cb.mp h];exact n
 ·refine⟨d _ _ c,some x,rfl,?_,k,m.trans d,e,by omega⟩;rw[s,CA,show [r].filter p=[] by rw[Cv,Dm,l];rfl,Cm];exact⟨pv.1,λj z q a b=>t q z _ _ d (pv.2 j z q a b)⟩
theorem lF {α:Type}{G:α->V->Hp->Prop}(w:∀r,Gs (G r)) (C:∀r y H H',Same H H'->G r y H->G r y H') {p:α->Bool}{tc:TT}{te:TE}{fr:List Nat}{σ rest:St}{H:Hp}{Q:VK}{a:Addr}{I:LV}{rows:List α}
    (v:H a=some (.tup I)) (B:dS 1 fr σ=none::rest) (t:I.length=rows.length) (L:I.length<=8000000)
    (f:∀(i:Nat) (x:V) (r:α),I[i]? = some x->rows[i]? = some r->∀H' (T:V->Hp->Prop) (E:Hp->Prop),Same H H'->(p r=true->∀y H2,Same H' H2->G r y H2->(∀D z,H' D=some (.lst z)->y≠.ref D)->T y H2)->(p r=false->∀H2,Same H' H2->E H2)->tc (some x::rest) H' λb J=>if b=true then te (some x::rest) J T else E J)
    (k:∀D refs H',Same H H'->H D=none->H' D=some (.lst refs)->Pts G H' refs (rows.filter p)->Q (.ref D) H') :
    cS 1 fr (cF 0) tc te (Itt K a) σ H Q:=by
 let g:Addr->Nat->LV->St->Hp->Prop:=λD i z d H'=>∃o,d=o::rest/\Pts G H' z ((rows.take i).filter p)/\(∀y∈z,y≠.ref D)/\Same H H'/\H D=none/\z.length<=i
 refine dH I g λD q=>⟨?_,?_,?_,?_⟩
 ·exact⟨none,B,⟨rfl,λi y r h=>by cases h⟩,(λy s=>by cases s),Same.new q,q,BB _⟩
 ·rintro i z d H' _ ⟨o,rfl,_,_,j,_⟩ _;exact .of (j _ _ v)
 ·rintro i z d H' x m ⟨o,rfl,pv,l,j,e,A⟩ c;have u:=(BF.mp m).1;obtain⟨r,n⟩:∃r,rows[i]? = some r:=⟨_,BV (by omega)⟩
  exact mv w C n (by omega) (f i x r m n) pv l j e c A
 ·rintro z d H2 ⟨o,rfl,pv,l,F,e,_⟩ c;rw[t,BS (BB _)] at pv;exact k D z H2 F e c pv
theorem hO {α:Type}{G:α->V->Hp->Prop}(w:∀r,Gs (G r)) (C:∀r y H H',Same H H'->G r y H->G r y H') {p:α->Bool}{tc:TT}{te:TE}{fr:List Nat}{σ rest:St}{H:Hp}{Q:VK}{a:Addr}{I:LV}{rows:List α}
    (v:H a=some (.lst I)) (B:dS 1 fr σ=none::rest) (t:I.length=rows.length) (L:I.length<=8000000)
    (f:∀(i:Nat) (x:V) (r:α),I[i]? = some x->rows[i]? = some r->∀H' (T:V->Hp->Prop) (E:Hp->Prop),Same H H'->(p r=true->∀y H2,Same H' H2->G r y H2->(∀D z,H' D=some (.lst z)->y≠.ref D)->T y H2)->(p r=false->∀H2,Same H' H2->E H2)->tc (some x::rest) H' λb J=>if b=true then te (some x::rest) J T else E J)
    (k:∀D refs H',Same H H'->H D=none->H' D=some (.lst refs)->Pts G H' refs (rows.filter p)->Q (.ref D) H') :
    cS 1 fr (cF 0) tc te (Itl K a) σ H Q:=by
 let g:Addr->Nat->LV->St->Hp->Prop:=λD i z d H'=>∃o,d=o::rest/\Pts G H' z ((rows.take i).filter p)/\(∀y∈z,y≠.ref D)/\Same H H'/\H D=none/\z.length<=i
 refine cE I g λD q=>⟨?_,?_,?_,?_⟩
 ·exact⟨none,B,⟨rfl,λi y r h=>by cases h⟩,(λy s=>by cases s),Same.new q,q,BB _⟩
 ·rintro i z d H' _ ⟨o,rfl,_,_,j,_⟩ _;exact .of (j _ _ v)
 ·rintro i z d H' x m ⟨o,rfl,pv,l,j,e,A⟩ c;have u:=(BF.mp m).1;obtain⟨r,n⟩:∃r,rows[i]? = some r:=⟨_,BV (by omega)⟩
  exact mv w C n (by omega) (f i x r m n) pv l j e c A
 ·rintro z d H2 ⟨o,rfl,pv,l,F,e,_⟩ c;rw[t,BS (BB _)] at pv;exact k D z H2 F e c pv
theorem hX {α:Type}{f:α->PyData}:∀(r:α) (y:V) (H H':Hp),Same H H'->Rep H y (f r)->Rep H' y (f r):=λ_ _ _ _ s h=>h.same s
theorem kj {σ:St}{H:Hp}{A B:Hp->Prop}(h:A H):iU σ H λb z=>if b=true then A z else B z:=by
 show (if true=true then A H else B H);rw[if_pos rfl];exact h
theorem fw {α:Type}(l:List α):l.filter (λ_=>true)=l:=List.filter_eq_self.mpr λ_ _=>rfl
def dI (r:LS):PyData:=.tuple (r.map .str)
theorem fM {H:Hp}{a:Addr}{r:LS}(h:H a=some (.tup (List.map V.str r))):Rep H (.ref a) (dI r):=.tup h (RepAll.of_strs r)
theorem uh {H:Hp}{v:V}{r:LS}(h:Rep H v (dI r)):∃a,v=.ref a/\H a=some (.tup (List.map V.str r)):=by
 obtain⟨q,d,rfl,b,c⟩:=Rep.tupI h;have e:=RepAll.strs c;subst e;exact⟨q,rfl,b⟩
theorem jw {r:LS}{H H':Hp}{p:Addr}{ys:LV}(d:H p=some (.lst ys)) (b:But p H H') {v:V}(h:Rep H v (dI r)):Rep H' v (dI r):=by
 obtain⟨a,rfl,c⟩:=uh h;exact fM (cq d b c)
theorem iO {r:LS}:Gs λy H=>Rep H y (dI r):=tV λa b _ h=>jw a b h
theorem xM {H:Hp}{refs:LV}{rows:List (LS)}(c:RepAll H refs (rows.map dI)) {j:Nat}{x:V}(e:refs[j]? = some x):∃r a,rows[j]? = some r/\x=.ref a/\H a=some (.tup (List.map V.str r)):=by
 obtain⟨d,hd,rd⟩:=c.get e;rw[BM] at hd;cases q:rows[j]? with
 | none=>rw[q] at hd;cases hd
 | some r =>
  rw[q] at hd;have hd:dI r=d:=BD hd;rw[<- hd] at rd;obtain⟨a,f,b⟩:=uh rd;exact⟨r,a,rfl,f,b⟩
def fH (k:Str × LS):LS:="top"::k.2
def dA (k:Str × LS):LS:="group"::k.1::k.2
def eU (e:Str × Str):LS:=["tie",e.1,e.2]
def dW (e:Str × Str):LS:=["wait",e.1,e.2]
def eM (e:Str × Str):LS:=[e.1,e.2]
def mR (kr:Kn) (ts ws wn:Prs):List (LS):=kr.map dA++(ts.map eU++(ws.map dW++wn.map eM))
def aR (ks:Kn) (ts ws wn:Prs):List (LS):=(ks.take 1).map fH++mR (ks.drop 1) ts ws wn
def di (r:LS):Str:=Txt.join " " r
def bZ (rows:List (LS)):Str:=Txt.join "\n" (rows.map di)
structure RowsOk (rows:List (LS)):Prop where
 ne:∀r∈rows,r≠[]
 nm:∀r∈rows,∀w∈r,Nm w
 len:∀r∈rows,r.length<=62
 few:rows.length<=400
theorem jr {r:LS}(h:∀w∈r,Nm w) (d:r.length<=62):(r.map (·.length)).sum+r.length * (" ":Str).length<=1000:=by
 have c:=kY (n:=8) r λy a=>(h y a).2.1;have b:(" ":Str).length=1:=by decide
 rw[b];omega
theorem ze {r:LS}(h:∀w∈r,Nm w) (a:r.length<=62):(di r).length<=1000:=BP (im _ _) (jr h a)
theorem jO {rows:List (LS)}(R:RowsOk rows):((rows.map di).map (·.length)).sum+(rows.map di).length * ("\n":Str).length<=500000:=by
 have c:=kY (n:=1000) (rows.map di) λy b=>by
  obtain⟨r,a,rfl⟩:=BE.mp b;exact ze (R.nm r a) (R.len r a)
 have d:("\n":Str).length=1:=by decide
 have e:=R.few;rw[BA] at c ⊢;rw[d];omega
theorem uK {rows:List (LS)}(R:RowsOk rows):(bZ rows).length<=500000:=BP (im _ _) (jO R)
theorem sR {r:LS}(h:∀w∈r,Nm w) (n:r≠[]):Txt.split (di r) " "=r:=by
 unfold di;rw[eQ,ph];exact SP.split_join 32 (by decide) _ n λw a=>(h w a).free (by decide)
theorem pF {rows:List (LS)}(R:RowsOk rows) (n:rows≠[]):Txt.split (bZ rows) "\n"=rows.map di:=by
 unfold bZ;rw[eQ,tG];refine SP.split_join 10 (by decide) _ (by simpa using n) λw b=>?_;obtain⟨r,c,rfl⟩:=BE.mp b;unfold di;rw[eQ,PyProof.Rows.mem_join];rintro (⟨t,d,a⟩ | ⟨_,a⟩)
 ·exact(R.nm r c t d).free (by decide) a
 ·exact absurd a (by decide)
theorem Av:Nm "top":=by refine⟨by decide +kernel,by decide +kernel,?_⟩;decide +kernel
theorem xa:Nm "group":=by refine⟨by decide +kernel,by decide +kernel,?_⟩;decide +kernel
theorem zZ:Nm "tie":=by refine⟨by decide +kernel,by decide +kernel,?_⟩;decide +kernel
theorem yb:Nm "wait":=by refine⟨by decide +kernel,by decide +kernel,?_⟩;decide +kernel
theorem ku {us:LS}{ks:Kn}(T:Tre us ks) (a:(ks.map (·.1)).head? = some ("":Str)):∃c kr,ks=(("":Str),c)::kr/\∀k∈kr,k.1∈us:=by
 match ks,a,T with
 | [],a,T=>cases a
 | (n,c)::kr,a,T =>
  have e:n="":=BD a;subst e;refine⟨c,kr,rfl,λk d=>(T.sub k (BQ _ d)).resolve_left λz=>?_⟩;have b:=T.kn;rw[BZ,Cd] at b;exact b.1 (BE.mpr ⟨k,d,z⟩)
theorem jo {us:LS}{ks:Kn}{ts ws wn:Prs}(G:FrH us ks ts ws wn):RowsOk (aR ks ts ws wn) := by
 have T:=G.T;obtain⟨c,p,rfl,n⟩:=ku T G.hdn;have i:=G.wf.ok;have m:=T.few;have v:=G.tl;have y:=G.wl;have f:∀r∈aR ((("":Str),c)::p) ts ws wn,r≠[]/\(∀w∈r,Nm w)/\r.length<=62:=λr a=>by
  have h:∀k∈((("":Str),c)::p),(∀u∈k.2,Nm u)/\k.2.length<=60:=λk h=>⟨λu o=>T.nm u (T.isIn h o),BP (dy (bQ T h) λu o=>T.isIn h o) T.len⟩
  have j:∀ {w:Str} {e:Str × Str},Nm w->Nm e.1->Nm e.2->([w,e.1,e.2]:LS)≠[]/\(∀x∈([w,e.1,e.2]:LS),Nm x)/\([w,e.1,e.2]:LS).length<=62:=λ{w e} s t q=>by
   refine⟨by simp,λx g=>?_,by show 3<=62;decide⟩;simp only[BH,CM,or_false] at g;rcases g with rfl | rfl | rfl
   ·exact s
   ·exact t
   ·exact q
  unfold aR mR at a;simp only[List.take_succ_cons,Dl,List.drop_succ_cons,List.drop_zero,BR,BZ,List.map_nil,Cb] at a;rcases a with rfl | a | a | a | a
  ·have:=h _ (Cr ..);refine⟨by unfold fH;simp,λw b=>?_,by unfold fH;rw[BN];have:=this.2;omega⟩;rcases BH.mp b with rfl | b
   ·exact Av
   ·exact this.1 w b
  ·obtain⟨k,l,rfl⟩:=BE.mp a;have:=h k (BQ _ l);refine⟨by unfold dA;simp,λw b=>?_,by unfold dA;rw[BN,BN];have:=this.2;omega⟩;rcases BH.mp b with rfl | b
   ·exact xa
   rcases BH.mp b with rfl | b
   ·exact T.nm _ (n k l)
   ·exact this.1 w b
  ·obtain⟨e,d,rfl⟩:=BE.mp a;exact j zZ (T.nm _ (G.tp e d).1) (T.nm _ (G.tp e d).2.1)
  ·obtain⟨e,d,rfl⟩:=BE.mp a;exact j yb (T.nm _ (G.wp e d).1) (T.nm _ (G.wp e d).2.1)
  ·obtain⟨e,d,rfl⟩:=BE.mp a;refine⟨by unfold eM;simp,λx g=>?_,by show 2<=62;decide⟩;have g:x∈[e.1,e.2]:=g;simp only[BH,CM,or_false] at g;rcases g with rfl | rfl
   ·exact jk (i e d).1
   ·exact T.nm _ (i e d).2
 refine⟨λr a=>(f r a).1,λr a=>(f r a).2.1,λr a=>(f r a).2.2,?_⟩;unfold aR mR;rw[BN] at m;rw[BJ] at v;simp only[List.take_succ_cons,Dl,List.drop_succ_cons,List.drop_zero,BJ,BA,BN,Df];omega
theorem ic {H' H2:Hp}{p:Addr}{xs:LV}(s:Same H' H2) (e:H2 p=some (.tup xs)):∀(D:Addr) (G:LV),H' D=some (.lst G)->V.ref p≠.ref D:=λD G a z=>by
 have:=s _ _ a;cases z;rw[e] at this;cases this
theorem Pts.eq {α:Type}{f:α->V}{H:Hp}:∀ {refs:LV}{rows:List α},Pts (λr y _=>y=f r) H refs rows->refs=rows.map f
 | [],[],_=>rfl
 | [],r::rows,h=>by cases h.1
 | x::refs,[],h=>by cases h.1
 | x::refs,r::rows,h=>by
  rw[BZ,<- Pts.eq (f:=f) (refs:=refs) (rows:=rows) (H:=H) ⟨Nat.succ.inj h.1,λi y q a b=>h.2 (i+1) y q a b⟩,<- h.2 0 x r rfl rfl]
structure RL (H0 H:Hp) (L:Addr) (refs:LV) (rows:List (LS)):Prop where
 at_:H L=some (.lst refs)
 rp:RepAll H refs (rows.map dI)
 same:Same H0 H
 free:H0 L=none
theorem RL.ext {H0 H H2:Hp}{L:Addr}{refs z:LV}{rows rows':List (LS)}(h:RL H0 H L refs rows) (s:Same H H2) (f:RepAll H2 z (rows'.map dI)):RL H0 (upd H2 L (.lst (refs++z))) L (refs++z) (rows++rows'):=by
 have e:=s _ _ h.at_;refine⟨af,?_,λb o d=>?_,h.free⟩
 ·rw[BO];have c:∀ {l:List (LS)} {a:LV},RepAll H2 a (l.map dI)->RepAll (upd H2 L (.lst (refs++z))) a (l.map dI):=λ{l a} r=>aO (jw e But.upd) r;exact RepAll.append (c (h.rp.same s)) (c f)
 ·rw[ah (ao d h.free)];exact s _ _ (h.same _ _ d)
theorem lq {H0 H:Hp}{L:Addr}{refs:LV}{rows:List (LS)}(h:RL H0 H L refs rows):refs.length=rows.length:=by
 have:=h.rp.len;rw[BA] at this;exact this
def kX:Sp:=λvs H Q _=>∃q us ks ts ws wn,vs=[.ref q]/\Rep H (.ref q) (bx ks ts ws wn)/\FrH us ks ts ws wn/\∀H',Same H H'->Q (.str (bZ (aR ks ts ws wn))) H'
theorem wR {f:Addr}{fd:FuncData}(F:Fun K "show_house" "show_house" eP f fd) (B:Blt mg):FnOk P w K mg base CX0 1 f fd ["house"] kX := by
 refine F.ok1 ["house","rows"] λnd H Q E X h=>?_;obtain⟨q,us,ks,W,Z,wn,rfl,R,G,k⟩:=h;have RO:=jo G;have T:=G.T;have tl:=G.tl;rw[BJ] at tl;have b4:=G.wl;have b2:=T.few;obtain⟨c,N,rfl,b7⟩:=ku T G.hdn;obtain⟨q',a,b,c3,d4,U,hq,R1,R2,R3,R4⟩:=ci R;cases U;obtain⟨a',ra,U,ha,a1⟩:=cz R1;cases U;obtain⟨b',rb,U,hb,a3⟩:=bo R2;cases U;obtain⟨c',rc,U,hc,a6⟩:=bo R3;cases U;obtain⟨d',rd,U,hd,a5⟩:=bo R4;cases U;have al:=a1.len;have bl:=a3.len;have cl:=a6.len;have dl:=a5.len;rw[BA] at al bl cl dl;rw[BN] at al b2;obtain⟨x0,a7⟩:∃x,ra[0]? = some x:=⟨_,BV (by omega)⟩
 obtain⟨kn,ta,la,hk,rfl,b0,b3⟩:=cu a1 a7;have hk:((("":Str),c))=kn:=BD hk;subst hk;have ck:c.length<=60:=BP (dy (bQ T (Cr ..)) λu hu=>T.isIn (Cr ..) hu) T.len;refine⟨_,(aa (pst 1 nd (bt (p1 (aH gG (be (p1 aw)) (px K X (px K X (px K X (pv 0) ac) ac) ac)))))
  (aa (bh (gM K (pv 1) (p1 (bn (ak eP) ["house","rows"] [] "knot" [] (aP K (bG ji (px K X (pv 0) ac) (bE ac) cp)) aT (aH gG (be (p2 aw (px K X (pv 0) ac))) (px K X (pv 0) ac))))))
  (aa (bh (gM K (pv 1) (p1 (bn (ak eP) ["house","rows"] [] "tie" [] (aP K (px K X (pv 0) ac)) aT (aH gG (be (p1 aw)) (pv 0))))))
  (aa (bh (gM K (pv 1) (p1 (bn (ak eP) ["house","rows"] [] "tie" [] (aP K (px K X (pv 0) ac)) aT (aH gG (be (p1 aw)) (pv 0))))))
  (aa (bh (ml K (pv 1) (p1 (px K X (pv 0) ac))))
  (ae (ai (eG K aw (p1 (bn (ak eP) ["house","rows"] [] "row" [] (bg K (pv 1)) aT (yk K aw (p1 (pv 0))))))))))))),?_⟩
 refine⟨szl 1,λt1 a9=>?_⟩;refine nw a9 λH1 s1 e1=>?_;refine⟨_,rfl,.tup (.of (s1 _ _ hq)) rfl (.tup (.of (s1 _ _ ha)) (bj (j:=0) a7) (.tup (.of (s1 _ _ b0)) rfl ⟨t1,la,_,_,rfl,rfl,e1,s1 _ _ b3,by rw[BA];exact Ci (ap (by show 1+c.length<=1000;omega)),λt2 H2 s2 e2=>aD ⟨szl 1,λL hL=>?_⟩⟩))⟩;refine nw hL λH3 s3 e3=>?_;have a2:=(s1.trans s2).trans s3;have s:RL H H3 L [V.ref t2] [fH ((("":Str),c))]:=⟨e3,.cons (fM (s3 _ _ e2)) .nil,a2,dE (s1.trans s2) hL⟩
 clear s1 s2 s3 a2 e1 e2 e3 a9 hL;generalize [V.ref t2]=r0 at s ⊢;refine bT ?_;dsimp only;refine⟨_,rfl,.inl ⟨rfl,_,.of s.at_⟩,?_⟩;refine⟨_,rfl,.tup (.of (s.same _ _ hq)) rfl ⟨_,rfl,a,ra,rfl,s.same _ _ ha,λp1 H4 s4 S=>?_⟩⟩;have ec:cD ra (some 1) none=ra.drop 1:=gg ra 1;rw[ec] at S;refine⟨p1,rfl,⟨_,.of S⟩,?_⟩;refine lF (G:=λr y H=>Rep H y (dI (dA r))) (λr=>iO) hX (p:=λ_=>true) (rows:=N) S rfl (by rw[CB];omega) (by rw[CB];omega) (λi x r hx v H' T' E' sm C no=>?_) λD d H5 s5 I g l=>?_
 ·rw[Dv] at hx;obtain⟨kn,b6,b1,hk,rfl,a0,a8⟩:=cu a1 hx;rw[Nat.add_comm,DJ,v] at hk;cases BD hk;have sA:=(s.same.trans s4).trans sm;have rk:r.2.length<=60:=by
   have hm:r∈(("":Str),c)::N:=BQ _ (BG v);exact BP (dy (bQ T hm) λu hu=>T.isIn hm hu) T.len
  refine kj ⟨_,rfl,.tup (.of (sA _ _ a0)) rfl (aD ⟨szl 2,λt ht=>?_⟩)⟩;refine nw ht λH6 s6 e6=>?_;refine⟨_,rfl,.tup (.of (s6 _ _ (sA _ _ a0))) rfl ⟨t,b1,_,_,rfl,rfl,e6,s6 _ _ (sA _ _ a8),by rw[BA];exact Ci (ap (by show 2+r.2.length<=1000;omega)),λt7 H7 J e7=>?_⟩⟩;exact C rfl _ H7 (s6.trans J) (fM e7) (ic (s6.trans J) e7)
 rw[fw] at l;have a4:=l.rep;have l5:=l.1;refine aD ⟨L,D,r0,d,rfl,rfl,(s4.trans s5) _ _ s.at_,g,Ci (ap (by rw[lq s];show 1+d.length<=1000;omega)),?_⟩;have m:=s.ext (rows':=N.map dA) (s4.trans s5) (by rw[Cn];exact a4);generalize upd H5 L (.lst (r0++d))=H6 at m ⊢;generalize r0++d=r1 at m ⊢;clear s a4 l l5 s4 s5 g I S;have l1:=lq m;rw[BJ,BA] at l1;have l1:r1.length=1+N.length:=l1;refine⟨_,rfl,.inl ⟨rfl,_,.of m.at_⟩,?_⟩;refine⟨_,rfl,.tup (.of (m.same _ _ hq)) rfl ⟨b,rfl,⟨_,.of (m.same _ _ hb)⟩,?_⟩⟩;refine lF (G:=λr y H=>Rep H y (dI (eU r))) (λr=>iO) hX (p:=λ_=>true) (rows:=W) (m.same _ _ hb) rfl bl (by omega) (λi x r hx v H' T' E' sm C no=>?_) λD d H7 J I g l=>?_
 ·obtain⟨e,tb,Y,rfl,O⟩:=bP a3 hx;rw[v] at Y;cases BD Y;refine kj ⟨szl 1,λt ht=>?_⟩;refine nw ht λH8 s8 e8=>?_;refine⟨_,rfl,t,tb,_,_,rfl,rfl,e8,s8 _ _ ((m.same.trans sm) _ _ O),szl 3,λt9 H9 s9 e9=>?_⟩;exact C rfl _ H9 (s8.trans s9) (fM e9) (ic (s8.trans s9) e9)
 rw[fw] at l;have M:=l.rep;have l7:=l.1;refine aD ⟨L,D,r1,d,rfl,rfl,J _ _ m.at_,g,Ci (ap (by omega)),?_⟩;have n:=m.ext (rows':=W.map eU) J (by rw[Cn];exact M);have l2:(r1++d).length=1+N.length+W.length:=by rw[BJ];omega
 generalize upd H7 L (.lst (r1++d))=H8 at n ⊢;generalize r1++d=r2 at n l2 ⊢;clear m M l l7 J g I l1;refine⟨_,rfl,.inl ⟨rfl,_,.of n.at_⟩,?_⟩;refine⟨_,rfl,.tup (.of (n.same _ _ hq)) rfl ⟨c3,rfl,⟨_,.of (n.same _ _ hc)⟩,?_⟩⟩;refine lF (G:=λr y H=>Rep H y (dI (dW r))) (λr=>iO) hX (p:=λ_=>true) (rows:=Z) (n.same _ _ hc) rfl cl (by omega) (λi x r hx v H' T' E' sm C no=>?_) λD d H7 J I g l=>?_
 ·obtain⟨e,tb,Y,rfl,O⟩:=bP a6 hx;rw[v] at Y;cases BD Y;refine kj ⟨szl 1,λt ht=>?_⟩;refine nw ht λH8 s8 e8=>?_;refine⟨_,rfl,t,tb,_,_,rfl,rfl,e8,s8 _ _ ((n.same.trans sm) _ _ O),szl 3,λt9 H9 s9 e9=>?_⟩;exact C rfl _ H9 (s8.trans s9) (fM e9) (ic (s8.trans s9) e9)
 rw[fw] at l;have M:=l.rep;have l7:=l.1;refine aD ⟨L,D,r2,d,rfl,rfl,J _ _ n.at_,g,Ci (ap (by omega)),?_⟩;have o:=n.ext (rows':=Z.map dW) J (by rw[Cn];exact M);have l3:(r2++d).length=1+N.length+W.length+Z.length:=by rw[BJ];omega
 generalize upd H7 L (.lst (r2++d))=H9 at o ⊢;generalize r2++d=r3 at o l3 ⊢;clear n M l l7 J g I l2;refine⟨_,rfl,.inl ⟨rfl,_,.of o.at_⟩,?_⟩;refine⟨_,rfl,.tup (.of (o.same _ _ hq)) rfl (aD ⟨L,d4,_,_,rfl,rfl,o.at_,.of (o.same _ _ hd),Ci (ap (by omega)),?_⟩)⟩;have A:=o.ext (rows':=wn.map eM) (Same.refl _) (by rw[Cn];exact a5.same o.same);have l4:(r3++rd).length=1+N.length+W.length+Z.length+wn.length:=by rw[BJ];omega
 generalize upd H9 L (.lst (r3++rd))=HA at A ⊢;generalize r3++rd=r4 at A l4 ⊢;clear o l3;have er:[fH ((("":Str),c))]++N.map dA++W.map eU++Z.map dW++wn.map eM=aR ((("":Str),c)::N) W Z wn:=by
  unfold aR mR;simp
 rw[er] at A;refine⟨rfl,_,rfl,L,rfl,⟨_,.of A.at_⟩,?_⟩;refine hO (G:=λr y _=>y=V.str (di r)) (λr=>Bv) (λ_ _ _ _ _ h=>h) (p:=λ_=>true) A.at_ rfl (lq A) (by omega) (λi x r hx v H' T' E' sm C no=>?_) λD d H7 J I g l=>?_
 ·obtain⟨r',tb,Y,rfl,O⟩:=xM A.rp hx;rw[v] at Y;cases BD Y;have hm:=BG v;exact kj ⟨rfl,_,rfl,_,_,r,rfl,rfl,.of (sm _ _ O),BP (jr (RO.nm r hm) (RO.len r hm)) (by decide),C rfl _ H' (Same.refl _) rfl λD b5 _ z=>by cases z⟩
 rw[fw] at l;have e:=l.eq;rw[e] at g;have e2:List.map (λr=>V.str (di r)) (aR ((("":Str),c)::N) W Z wn)=List.map V.str ((aR ((("":Str),c)::N) W Z wn).map di):=by rw[Cn];rfl
 rw[e2] at g;exact aD ⟨_,_,_,rfl,rfl,g,BP (jO RO) (by decide),k H7 (A.same.trans J)⟩
def wdsH:LS:=["top","group","tie","wait","first","last"]
def loB (w:Str):Nat:=if w="top" then 0 else if w="group" then 1 else if w="tie"∨w="wait" then 2 else 1
def hiB (w:Str):Option Nat:=if w="top"∨w="group" then none else some (loB w)
def tuB (w:Str):Nat:=if w="top" then 0 else if w="group" then 1 else if w="tie" then 2 else if w="wait" then 3 else 4
def vR:Option Nat->V
 | none=>.non
 | some n=>.int (n:Int)
theorem gP (xs:LV) (k:Nat):cD xs (some (k:Int)) none=xs.drop k:=gg xs k
structure RowB (w:Str) (ns:LS):Prop where
 wd:w∈wdsH
 lo:loB w<=ns.length
 hi:∀m,hiB w=some m->ns.length<=m
 nm:∀n∈ns,Nm n
def BndV (K:W.Frag) (w:Str) (v:V):Prop:=(w∉wdsH/\v=.non)∨(w∈wdsH/\∃b,v=.ref b/\∀H,SqT K H b [.int (loB w:Int),vR (hiB w)])
def sJ (K:W.Frag):Sp:=λvs H Q _=>∃(l v w:_) (ns:LS),vs=[.ref l,v]/\H l=some (.lst (List.map V.str (w::ns)))/\BndV K w v/\ns.length<=8000000/\(∀n∈ns,n.length<=8000000)/\∀H',Same H H'->Q (.bl (aY (RowB w ns))) H'
theorem yn {f:Addr}{fd:FuncData}(F:Fun K "has_names" "has_names" iY f fd) (B:Blt mg) (c:Cal P w K mg base 1 "is_name" ["thing"] fh):FnOk P w K mg base CX0 2 f fd ["words", "bounds"] (sJ K) := by
 refine F.ok1 ["words","bounds"] λnd H Q E G h=>?_;obtain⟨l,v,x,a,rfl,A,bv,nl,X,k⟩:=h;have D:(List.map V.str (x::a)).length=a.length+1:=by rw[BA,BN]
 have S:∀e,Same H e->¬ RowB x a->Q (.bl false) e:=λe L n=>by
  have:=k e L;rw[cN n] at this;exact this
 refine⟨_,(aa (aJ (PW.pt (dt (aj oY (pv 1) dY (av _)) (cT (aj dO (aH nM (aQ K B (p1 (pv 0))) ac) (px K G (pv 1) ac) (av _))))) (ae (ai bN)) aF)
  (aa (aJ (PW.pt (cR (aj fX (px K G (pv 1) ac) dY (av _)) (cA (aj eZ (aH nM (aQ K B (p1 (pv 0))) ac) (px K G (pv 1) ac) (av _))))) (ae (ai bN)) aF)
  (ae (ai (dG rfl B (p1 (bn (ak iY) ["words","bounds"] [] "word" [] (bg K (bG (fK K) (pv 0) (bE ac) cp)) aT (pc c G (p1 (pv 0)))))))))),?_⟩
 rcases bv with⟨nx,rfl⟩ | ⟨hx,b,rfl,j⟩
 ·refine⟨_,rfl,.non ⟨_,rfl,aA (λ_=>dm ?_) (λh=>absurd (by simp) h)⟩⟩;exact S H (Same.refl _) λz=>nx z.wd
 refine⟨_,rfl,.non ⟨_,rfl,aA (λh=>absurd h (by simp)) λ_=>?_⟩⟩;refine⟨_,rfl,_,_,rfl,Or.inl ⟨_,.of A,rfl⟩,_,_,rfl,rfl,_,rfl,.tup (j H) rfl (.int ⟨_,rfl,aA (λh=>?_) λT=>bf ?_⟩)⟩
 ·have h:=BX h;rw[D] at h;exact S H (Same.refl _) λz=>by have:=z.lo;omega
 have lo:loB x<=a.length:=by
  by_cases z:loB x<=a.length
  ·exact z
  ·exact absurd (BI (by rw[D];omega)) T
 have r:(∀m,hiB x=some m->a.length<=m)->∀e,Same H e->Q (.bl ((a.map λn=>aY (Nm n)).all id)) e:=λhi e L=>by
  rw[ib,show aY (∀n∈a,Nm n)=aY (RowB x a) from df (dec_iff.trans ⟨λz=>⟨hx,lo,hi,z⟩,λz=>z.nm⟩)];exact k e L
 obtain⟨o,C⟩:∃o,o=hiB x:=⟨_,rfl⟩
 rw[<- C] at j;have s:∀(z:Str),iS (.str z)=aY (Nm z):=λz=>df isNm_iff;cases o with
 | none =>
  refine⟨_,rfl,.tup (j H) rfl (.non ⟨_,rfl,aA (λh=>absurd h (by decide)) λ_=>bM (bf ?_)⟩)⟩;refine⟨_,rfl,_,rfl,.lst (.of A) λR J=>?_⟩;rw[show cD (List.map V.str (x::a)) (some 1) none=List.map V.str a from gP _ 1];refine nw J λH3 N y=>⟨R,rfl,⟨_,.of y⟩,?_⟩
  refine iE (a.map λn=>aY (Nm n)) (by rw[BA,BA]) y rfl (by rw[BA];omega) (λi z Z O d e Y sm q=>?_) λI M=>r (λm g=>by rw[<- C] at g;cases g) I (N.trans M);obtain⟨u,p,rfl⟩:=bu O;rw[BM,p] at d;cases BD d;refine⟨_,rfl,_,rfl,.str (Ci (dN (X u (BG p)))),λU W=>?_⟩;rw[s u];exact q U W
 | some m =>
  refine⟨_,rfl,.tup (j H) rfl (.non ⟨_,rfl,aA (λ_=>?_) λh=>absurd (by simp[vR]) h⟩)⟩;refine⟨_,rfl,_,_,rfl,Or.inl ⟨_,.of A,rfl⟩,_,_,rfl,rfl,_,rfl,.tup (j H) rfl ⟨_,_,rfl,rfl,_,rfl,aA (λh=>?_) λg=>bf ?_⟩⟩
  ·have h:((m:Nat):Int)<(((List.map V.str (x::a)).length:Nat):Int)-1:=BX h;rw[D] at h;exact S H (Same.refl _) λz=>by have:=z.hi m C.symm;omega
  have g:a.length<=m:=by
   by_cases z:a.length<=m
   ·exact z
   ·refine absurd (BI ?_) g;show ((m:Nat):Int)<(((List.map V.str (x::a)).length:Nat):Int)-1;rw[D];omega
  refine⟨_,rfl,_,rfl,.lst (.of A) λR J=>?_⟩;rw[show cD (List.map V.str (x::a)) (some 1) none=List.map V.str a from gP _ 1];refine nw J λH3 N y=>⟨R,rfl,⟨_,.of y⟩,?_⟩
  refine iE (a.map λn=>aY (Nm n)) (by rw[BA,BA]) y rfl (by rw[BA];omega) (λi z Z O d e Y sm q=>?_) λI M=>r (λm' t=>by rw[<- C] at t;cases t;exact g) I (N.trans M);obtain⟨u,p,rfl⟩:=bu O;rw[BM,p] at d;cases BD d;refine⟨_,rfl,_,rfl,.str (Ci (dN (X u (BG p)))),λU W=>?_⟩;rw[s u];exact q U W
structure BT (P:Program) (w:World) (K:W.Frag) (DB DT:Addr) (vb vt:List (Key × Value)):Prop where
 kb:KD P w K DB vb
 kt:KD P w K DT vt
 b:∀x∈wdsH,∃a,valueAt vb (.inr x)=some (.ref a)/\∀H,SqT K H a [.int (loB x:Int),vR (hiB x)]
 nb:∀x,x∉wdsH->valueAt vb (.inr x)=none
 t:∀x∈wdsH,∃tk,valueAt vt (.inr x)=some (.int (tuB x:Int) tk)
def FlO (a:Option Str) (x:Str):Prop:=match a with
 | none=>x="top"
 | some a=>x≠"top"/\tuB a<=tuB x
def vg:Option Str->V
 | none=>.non
 | some a=>.str a
def mo:Sp:=λvs H Q _=>∃a x,vs=[vg a,.str x]/\(∀y,a=some y->y∈wdsH)/\x∈wdsH/\Q (.bl (aY (FlO a x))) H
theorem rj {f I G:Addr}{O J:List (Key × Value)}{fd:FuncData}(F:Fun K "follows" "follows" nK f fd) (B:Blt mg) (TT:mg "TURNS"=some (.ref G)) (b:BT P w K I G O J):FnOk P w K mg base CX0 1 f fd ["ahead", "word"] mo := by
 refine F.ok1 ["ahead","word"] λm H Q E c h=>?_;obtain⟨a,x,rfl,j,e,k⟩:=h;have KT:=b.kt;refine⟨_,(aa (aJ (aj oY (pv 0) dY (av _)) (ae (ai (bS (bc c.units) (pv 1) aw (av _)))) aF)
  (ae (ai (dh (bS (cW c.units) (pv 1) aw (av _)) (dZ (bS iZ (gU (xr KT) (eS (v:=.ref G) rfl TT rfl) (pv 0) (λ_ _=>rfl)) (gU (xr KT) (eS (v:=.ref G) rfl TT rfl) (pv 1) (λ_ _=>rfl)) (av _))))))),?_⟩
 cases a with
 | none =>
  refine⟨_,rfl,.non ⟨_,rfl,aA (λ_=>?_) (λh=>absurd (by decide) h)⟩⟩;refine⟨_,rfl,.sc rfl ?_⟩;show Q (.bl (decide (V.str x=V.str "top"))) H;rw[show decide (V.str x=V.str "top")=aY (FlO none x) from df (decide_eq_true_iff.trans ⟨λz=>V.str.inj z,λz=>congrArg V.str z⟩)];exact k
 | some a =>
  refine⟨_,rfl,.non ⟨_,rfl,aA (λh=>absurd h (by simp[vg])) (λ_=>bf ?_)⟩⟩;obtain⟨l,g⟩:=b.t a (j a rfl);obtain⟨d,i⟩:=b.t x e;refine⟨_,rfl,.sc rfl ⟨_,rfl,?_⟩⟩;by_cases nx:x="top"
  ·refine aA (λh=>absurd h (by simp[nx])) (λ_=>?_);rw[cN (λz:FlO (some a) x=>z.1 nx)] at k;exact k
  ·refine aA (λ_=>?_) (λh=>absurd (by simpa using nx) h);refine⟨_,rfl,.inr a,_,.int (tuB a:Int),rfl,rfl,g,⟨l,rfl⟩,_,rfl,.inr x,_,.int (tuB x:Int),rfl,rfl,i,⟨d,rfl⟩,.int ?_⟩;show Q (.bl (decide ((tuB a:Int)<=(tuB x:Int)))) H;rw[show decide ((tuB a:Int)<=(tuB x:Int))=aY (FlO (some a) x) from df (decide_eq_true_iff.trans ⟨λz=>⟨nx,by omega⟩,λz=>by have:=z.2;omega⟩)];exact k
def LL (H:Hp) (rl:Addr) (rows:List (LS)):Prop:=∃refs,H rl=some (.lst refs)/\Pts (λr y H=>∃l,y=.ref l/\H l=some (.lst (List.map V.str r))) H refs rows
theorem LL.same {H H':Hp}{z:Addr}{rows:List (LS)}(h:LL H z rows) (s:Same H H'):LL H' z rows:=by
 obtain⟨c,f,d,g⟩:=h;exact⟨c,s _ _ f,d,λi y r a b=>let ⟨l,e,j⟩:=g i y r a b;⟨l,e,s _ _ j⟩⟩
def hd (r:LS):Str:=r.headD ""
def fL (rows:List (LS)) (i:Nat):Prop:=∃x ns,rows[i]? = some (x::ns)/\RowB x ns/\FlO (if i=0 then none else some (hd (rows.getD (i-1) []))) x
structure Wds (rows:List (LS)):Prop where
 ne:∀r∈rows,r≠[]
 l1:∀r∈rows,r.length<=6000000
 l2:∀r∈rows,∀w∈r,w.length<=6000000
 l3:rows.length<=6000000
def nk:Sp:=λvs H Q _=>∃(rl:_) (rows:List (LS)),vs=[.ref rl]/\LL H rl rows/\Wds rows/\(∀n,n<rows.length->(∀i,i<n->fL rows i)->¬ fL rows n->∀H',Same H H'->Q (.int (n:Int)) H')/\((∀i,i<rows.length->fL rows i)->∀H',Same H H'->Q .non H')
theorem uz {f DB DT:Addr}{vb vt:List (Key × Value)}{fd:FuncData}(F:Fun K "first_wrong_row" "first_wrong_row" hZ f fd) (B:Blt mg) (TB:mg "BOUNDS"=some (.ref DB)) (D:BT P w K DB DT vb vt) (d:Cal P w K mg base 2 "has_names" ["words", "bounds"] (sJ K)) (m:Cal P w K mg base 1 "follows" ["ahead", "word"] mo):FnOk P w K mg base CX0 3 f fd ["rows"] nk := by
 refine F.ok1 ["rows","ahead","number","row"] λnd H Q E hr h=>?_;obtain⟨rl,c,rfl,L,W,k1,k0⟩:=h;have KB:=D.kb;obtain⟨a0,O,Y,a2⟩:=L;refine⟨_,(aa (pst 1 nd dY)
  (aa (aZ PassesOwn.never rfl (vq K rfl B.enumerate (p1 (pv 0))) (cj (n:=2) K rfl (aM (az (i:=2) nd rfl (Or.inl rfl)) (aM (az (i:=3) nd rfl (Or.inl rfl)) cm))) (aa (aJ (PW.pt (dt (bH (bI (pc d hr (p2 (pv 3) (vQ KB (eS (v:=.ref DB) rfl TB rfl) (px K hr (pv 3) ac) (by constructor <;> rfl)))))) (cT (bH (bI (pc m hr (p2 (pv 1) (px K hr (pv 3) ac)))))))) (ae (ai (pv 2))) aF)
  (ae (pst 1 nd (px K hr (pv 3) ac)))))
  (ae (ai dY)))),?_⟩
 refine⟨_,rfl,rl,rfl,⟨_,.of O⟩,?_⟩
 let S:Nat->St->Hp->Prop:=λi σ q=>∃(a:Option Str) (o2 o3:Option V),σ=[some (.ref rl),some (vg a),o2,o3]/\Same H q/\a=(if i=0 then none else some (hd (c.getD (i-1) [])))/\∀j,j<i->fL c j
 refine il (xs:=a0) S ?_ ?_ ?_ ?_
 ·exact⟨none,_,_,rfl,Same.refl _,rfl,λj z=>by omega⟩
 ·rintro i σ q hi ⟨a,o2,o3,rfl,T,_⟩;exact .of (T _ _ O)
 ·rintro i x σ q p hx ⟨a, o2, o3, rfl, T, ea, J⟩ hp;have a4:=(BF.mp hx).1;obtain⟨r,g⟩:∃r,c[i]? = some r:=⟨_,BV (by omega)⟩
  have u:=BG g;obtain⟨l,rfl,hl⟩:=a2 i x r hx g;obtain⟨y,s,rfl⟩:∃y s,r=y::s:=DK (W.ne r u);have w1:=W.l1 _ u;rw[BN] at w1;have w2:∀n∈s,n.length<=8000000:=λn hn=>BP (W.l2 _ u n (BQ _ hn)) (by decide);have A:∀q,Same H q->¬ fL c i->Q (.int (i:Int)) q:=λq s' n=>k1 i (by omega) J n q s';refine⟨p,_,rfl,.of af,rfl,_,_,rfl,_,_,rfl,rfl,?_⟩;refine nw hp λH3 k _=>?_;have k:=T.trans k;have o:=k _ _ hl;have at0:atI (List.map V.str (y::s)) 0=some (.str y):=bj (j:=0) rfl;by_cases t:y∈wdsH
  case neg =>
   refine⟨_,rfl,rfl,_,rfl,.lst (.of o) at0 ⟨.inr y,rfl,λv Z=>(by rw[D.nb y t] at Z;cases Z),λ_=>aD ⟨l,.non,y,s,rfl,o,.inl ⟨t,rfl⟩,by omega,w2,λH4 N=>⟨_,rfl,?_⟩⟩⟩⟩;rw[cN λz:RowB y s=>t z.wd];refine aA (λ_=>dm ?_) (λh=>absurd (by decide) h);refine⟨_,rfl,A H4 (k.trans N) λ⟨x',C,e,M,_⟩=>?_⟩;rw[g] at e;obtain⟨U,e2⟩:=List.cons.inj (BD e);subst U;subst e2;exact t M.wd
  obtain⟨b,R,sq⟩:=D.b y t;refine⟨_,rfl,rfl,_,rfl,.lst (.of o) at0 ⟨.inr y,rfl,λv Z=>?_,λz=>by rw[R] at z;cases z⟩⟩;rw[R] at Z;cases BD Z;refine⟨.ref b,rfl,aD ⟨l,.ref b,y,s,rfl,o,.inr ⟨t,b,rfl,sq⟩,by omega,w2,λH4 N=>⟨_,rfl,?_⟩⟩⟩;have X:=N _ _ o;by_cases M:RowB y s
  case neg =>
   rw[cN M];refine aA (λ_=>dm ?_) (λh=>absurd (by decide) h);refine⟨_,rfl,A H4 (k.trans N) λ⟨x',C,e,G,_⟩=>?_⟩;rw[g] at e;obtain⟨U,e2⟩:=List.cons.inj (BD e);subst U;subst e2;exact M G
  rw[dU M];refine aA (λh=>absurd h (by decide)) (λ_=>?_);have am:∀z,a=some z->z∈wdsH:=λz I=>by
   rw[ea] at I;by_cases i0:i=0
   ·rw[if_pos i0] at I;cases I
   ·rw[if_neg i0] at I;obtain⟨x',C,e,G,_⟩:=J (i-1) (by omega);have:hd (c.getD (i-1) [])=x':=by rw[Cs,e];rfl
    rw[this] at I;cases I;exact G.wd
  refine⟨_,rfl,_,rfl,.lst (.of X) at0 (aD ⟨a,y,rfl,am,t,⟨_,rfl,?_⟩⟩)⟩;by_cases fo:FlO a y
  case neg =>
   rw[cN fo];refine aA (λ_=>?_) (λh=>absurd (by decide) h);refine⟨_,rfl,A H4 (k.trans N) λ⟨x',C,e,_,a1⟩=>?_⟩;rw[g] at e;obtain⟨U,e2⟩:=List.cons.inj (BD e);subst U;rw[<- ea] at a1;exact fo a1
  rw[dU fo];refine aA (λh=>absurd h (by decide)) (λ_=>bf ?_);refine⟨_,rfl,.lst (.of X) at0 ⟨some y,_,_,rfl,k.trans N,?_,λj hj=>?_⟩⟩
  ·rw[if_neg (by omega),show i+1-1=i by omega,Cs,g];rfl
  ·by_cases a3:j<i
   ·exact J j a3
   ·have:j=i:=by omega
    subst this;exact⟨y,s,g,M,by rw[<- ea];exact fo⟩
 ·rintro σ q ⟨a,o2,o3,rfl,T,_,J⟩;rw[Y] at J;exact k0 J q T
def uR:Sp:=λvs H Q _=>∃(rl:_) (rows:List (LS)) (word:_),vs=[.ref rl,.str word]/\LL H rl rows/\(∀r∈rows,r≠[])/\rows.length<=6000000/\∀D acc H',Same H H'->H' D=some (.lst acc)->RepAll H' acc ((rows.filter λr=>decide (hd r=word)).map λr=>dI (r.drop 1))->Q (.ref D) H'
theorem xI {f:Addr}{fd:FuncData}(F:Fun K "behind_word" "behind_word" gX f fd) (B:Blt mg):FnOk P w K mg base CX0 1 f fd ["rows", "word"] uR := by
 refine F.ok1 ["rows","word"] λnd H Q E C h=>?_;obtain⟨T,rows,a,rfl,L,U,O,k⟩:=h;obtain⟨z,c,g,s⟩:=L;refine⟨_,(ae (ai (bn (ak gX) ["rows","word"] [1] "row" ["word"] (bg K (pv 0)) (dP (aj (bc C.units) (px K C (pv 0) ac) (pv 1) (av _))) (cQ K B (p1 (bG (fK K) (pv 0) (bE ac) cp)))))),?_⟩;refine⟨_,rfl,T,rfl,⟨_,.of c⟩,?_⟩;refine hO (G:=λr y H=>Rep H y (dI (r.drop 1))) (λr=>iO) hX (p:=λr=>decide (hd r=a)) (rows:=rows) c rfl g (by omega) (λi x r X m Y T' E' sm o no=>?_) λD q R J a0 d u=>?_
 ·obtain⟨l,rfl,S⟩:=s i x r X m;obtain⟨y,n,rfl⟩:∃y n,r=y::n:=DK (U r (BG m));have b:=sm _ _ S;have at0:atI (List.map V.str (y::n)) 0=some (.str y):=bj (j:=0) rfl;refine⟨_,rfl,.lst (.of b) at0 ⟨_,rfl,.sc rfl ⟨_,rfl,?_⟩⟩⟩;by_cases e:y=a
  ·subst e;refine aA (λ_=>?_) (λh=>absurd (BI rfl) h);refine⟨_,rfl,_,rfl,.lst (.of b) λZ N=>?_⟩;rw[show cD (List.map V.str (y::n)) (some 1) none=List.map V.str n from gP _ 1];refine nw N λH3 A e3=>aD ⟨Z,_,rfl,.of e3,λt W=>?_⟩;refine nw W λM v I=>?_;exact o (BI rfl) _ M (A.trans v) (fM I) (ic (A.trans v) I)
  ·refine aA (λh=>absurd (V.str.inj (BX h)) e) (λ_=>?_);exact no (BL e) Y (Same.refl _)
 ·exact k D q R J d u.rep
theorem sE {α:Type}{t:α -> Nat}:∀ {l:List α}, l.Pairwise (λa b => t a <= t b) -> (∀a ∈ l, 1 <= t a /\ t a <= 4) -> l=l.filter (λa => decide (t a=1)) ++ (l.filter (λa => decide (t a=2)) ++ (l.filter (λa => decide (t a=3)) ++ l.filter (λa => decide (t a=4))))
 | [],_,_=>rfl
 | a::l,pw,h=>by
  obtain⟨p1,p2⟩:=List.pairwise_cons.mp pw;have ih:=sE p2 λb hb=>h b (BQ _ hb);have ha:=h a (Cr ..);have none:∀n,n<t a->l.filter (λb=>decide (t b=n))=[]:=λn hn=>by
   rw[List.filter_eq_nil_iff];intro b hb z;have:=p1 b hb;have:=BX z;omega
  have:t a=1∨t a=2∨t a=3∨t a=4:=by omega
  rcases this with e | e | e | e
  ·simp only[Cv,e];simpa using ih
  ·have n1:=none 1 (by omega);simp only[Cv,e];rw[n1] at ih ⊢;simpa using ih
  ·have n1:=none 1 (by omega);have n2:=none 2 (by omega);simp only[Cv,e];rw[n1,n2] at ih ⊢;simpa using ih
  ·have n1:=none 1 (by omega);have n2:=none 2 (by omega);have n3:=none 3 (by omega);simp only[Cv,e];rw[n1,n2,n3] at ih ⊢;simpa using ih
theorem zo {α:Type}{t:α->Nat}{l:List α}(h:∀(i:Nat) (a b:α),l[i]? = some a->l[i+1]? = some b->t a<=t b):l.Pairwise λa b=>t a<=t b:=by
 rw[List.pairwise_iff_getElem];intro i j e c f;obtain⟨d,rfl⟩:∃d,j=i+1+d:=⟨j-i-1,by omega⟩
 induction d with
 | zero=>exact h i _ _ (BV e) (BV c)
 | succ d ih =>
  have hd:i+1+d<l.length:=by omega
  exact BP (ih hd (by omega)) (h (i+1+d) _ _ (BV hd) (BV c))
def krP (rows:List (LS)):Kn:=(rows.filter λr=>decide (hd r="group")).map λr=>(r.getD 1 "",r.drop 2)
def prP (word:Str) (rows:List (LS)):Prs:=(rows.filter λr=>decide (hd r=word)).map λr=>(r.getD 1 "",r.getD 2 "")
def wnP (rows:List (LS)):Prs:=(rows.filter λr=>decide (hd r∈(["first","last"]:LS))).map λr=>(hd r,r.getD 1 "")
def ksP (rows:List (LS)):Kn:=("",(rows.getD 0 []).drop 1)::krP rows
theorem iV:∀x∈wdsH,x≠"top"->1<=tuB x/\tuB x<=4/\(tuB x=1 ↔ x="group")/\(tuB x=2 ↔ x="tie")/\(tuB x=3 ↔ x="wait")/\(tuB x=4 ↔ x∈(["first","last"]:LS)):=by decide +kernel
theorem qW {rows:List (LS)}(X:rows ≠ []) (H:∀i, i<rows.length -> fL rows i):rows=aR (ksP rows) (prP "tie" rows) (prP "wait" rows) (wnP rows) := by
 obtain⟨M,rest,rfl⟩:=DK X;obtain⟨L,d,E,U,B⟩:=H 0 (by simp);have B:L="top":=B;subst B;have E:M=("top":Str)::d:=BD E;subst E;have v:∀(i:Nat) (r:LS),rest[i]? = some r->∃x j,r=x::j/\RowB x j/\x≠"top"/\tuB (hd (((("top":Str)::d)::rest).getD i []))<=tuB x:=λi r k=>by
  have N:=(BF.mp k).1;obtain⟨x,j,e,m,f⟩:=H (i+1) (by rw[BN];omega);have e:rest[i]? = some (x::j):=e;rw[k] at e;have f:x≠"top"/\tuB (hd (((("top":Str)::d)::rest).getD i []))<=tuB x:=f;exact⟨x,j,BD e,m,f.1,f.2⟩
 have u:∀r∈rest,∃x j,r=x::j/\RowB x j/\x≠"top":=λr k=>by
  obtain⟨i,T⟩:=CG k;obtain⟨x,j,a,b,c,_⟩:=v i r T;exact⟨x,j,a,b,c⟩
 have O:rest.Pairwise λa b=>tuB (hd a)<=tuB (hd b):=zo (t:=λr=>tuB (hd r)) λi a b S K=>by
  obtain⟨x,j,rfl,_,_,J⟩:=v (i+1) b K;have:((("top":Str)::d)::rest).getD (i+1) []=a:=by rw[Cs,DJ,S];rfl
  rw[this] at J;exact J
 have Z:∀r∈rest,1<=tuB (hd r)/\tuB (hd r)<=4:=λr k=>by
  obtain⟨x,j,rfl,m,nx⟩:=u r k;have:=iV x m.wd nx;exact⟨this.1,this.2.1⟩
 have G:=sE (t:=λr=>tuB (hd r)) O Z;have o:∀(n:Nat) (p:Str->Prop) [DecidablePred p],(∀x∈wdsH,x≠"top"->(tuB x=n ↔ p x))->¬ p "top"->rest.filter (λr=>decide (tuB (hd r)=n))=((("top":Str)::d)::rest).filter λr=>decide (p (hd r)):=λn p _ h D=>by
  rw[Cv,if_neg (show ¬ decide (p (hd (("top":Str)::d)))=true from λz=>D (BX z))];refine List.filter_congr λr k=>?_;obtain⟨x,j,rfl,m,nx⟩:=u r k;exact decide_eq_decide.mpr (h x m.wd nx)
 have Q:=o 1 (λx=>x="group") (λx s nx=>(iV x s nx).2.2.1) (by decide);have s2:=o 2 (λx=>x="tie") (λx s nx=>(iV x s nx).2.2.2.1) (by decide);have V:=o 3 (λx=>x="wait") (λx s nx=>(iV x s nx).2.2.2.2.1) (by decide);have P:=o 4 (λx=>x∈(["first","last"]:LS)) (λx s nx=>(iV x s nx).2.2.2.2.2) (by decide);rw[Q,s2,V,P] at G;have q:∀(p:Str->Prop) [DecidablePred p],¬ p "top"->∀r∈((("top":Str)::d)::rest).filter (λr=>decide (p (hd r))),∃x j,r=x::j/\RowB x j/\p x:=λp _ D r k=>by
  rw[Cj,decide_eq_true_iff] at k;obtain⟨k,I⟩:=k;rcases BH.mp k with rfl | k
  ·exact absurd I D
  ·obtain⟨x,j,rfl,m,_⟩:=u r k;exact⟨x,j,rfl,m,I⟩
 have A:∀ {C:Type} {g:LS->C} {f:C->LS} {l:List (LS)},(∀r∈l,f (g r)=r)->(l.map g).map f=l:=λ{C g f l} h=>by
  rw[Cn];exact(CZ h).trans (List.map_id _)
 have y:∀ {j:LS} {w:Str},hiB w=some 2->loB w=2->RowB w j->∃a b,j=[a,b]:=λ{j w} F h2 m=>by
  have:=m.lo;have:=m.hi 2 F
  match j,(by omega:j.length=2) with
  | [a,b],_=>exact⟨a,b,rfl⟩
 have W:(krP ((("top":Str)::d)::rest)).map dA=((("top":Str)::d)::rest).filter λr=>decide (hd r="group"):=A λr k=>by
  obtain⟨x,j,rfl,m,rfl⟩:=q (λx=>x="group") (by decide) r k;have:=m.lo
  match j,this with
  | a::c,_=>rfl
  | [],z=>exact absurd z (by decide)
 have Y:(prP "tie" ((("top":Str)::d)::rest)).map eU=((("top":Str)::d)::rest).filter λr=>decide (hd r="tie"):=A λr k=>by
  obtain⟨x,j,rfl,m,rfl⟩:=q (λx=>x="tie") (by decide) r k;obtain⟨a,b,rfl⟩:=y (by decide) (by decide) m
  rfl
 have R:(prP "wait" ((("top":Str)::d)::rest)).map dW=((("top":Str)::d)::rest).filter λr=>decide (hd r="wait"):=A λr k=>by
  obtain⟨x,j,rfl,m,rfl⟩:=q (λx=>x="wait") (by decide) r k;obtain⟨a,b,rfl⟩:=y (by decide) (by decide) m
  rfl
 have g4:(wnP ((("top":Str)::d)::rest)).map eM=((("top":Str)::d)::rest).filter λr=>decide (hd r∈(["first","last"]:LS)):=A λr k=>by
  obtain⟨x,j,rfl,m,s⟩:=q (λx=>x∈(["first","last"]:LS)) (by decide) r k;have F:loB x=1/\hiB x=some 1:=by
   simp only[BH,CM,or_false] at s;rcases s with rfl | rfl <;> decide
  have:=m.lo;have:=m.hi 1 F.2
  match j,(by omega:j.length=1) with
  | [a],_=>rfl
 have e:aR (ksP ((("top":Str)::d)::rest)) (prP "tie" ((("top":Str)::d)::rest)) (prP "wait" ((("top":Str)::d)::rest)) (wnP ((("top":Str)::d)::rest))=(("top":Str)::d)::((krP ((("top":Str)::d)::rest)).map dA++((prP "tie" ((("top":Str)::d)::rest)).map eU++((prP "wait" ((("top":Str)::d)::rest)).map dW++(wnP ((("top":Str)::d)::rest)).map eM))):=rfl;rw[e,W,Y,R,g4,<- G]
theorem jN:(" ":Str)=SP.one 32:=ph
theorem fQ:("\n":Str)=SP.one 10:=tG
def bp (ys:LS):Nat:=(ys.map (·.length)).sum
theorem bW (x:Str) (r:LS):bp (x::r)=x.length+bp r:=rfl
theorem rW (c:Nat) (x y:Str) (r:LS):(Str.join (SP.one c) (x::y::r)).length=x.length+1+(Str.join (SP.one c) (y::r)).length:=by
 have h:=congrArg List.length (SP.join_signs c x y r);rw[BJ,BN] at h;have e:∀s:Str,s.length=s.cps.toList.length:=λs=>by rw[CQ];rfl
 rw[e,e x,e (Str.join (SP.one c) (y::r)),h];omega
theorem wX (c:Nat) (x:Str):Str.join (SP.one c) [x]=x:=rfl
theorem jD (c:Nat):∀ {ws:LS},ws≠[]->(Str.join (SP.one c) ws).length+1=bp ws+ws.length
 | [],h=>absurd rfl h
 | [x],_=>by rw[wX,bW];show x.length+1=x.length+0+1;omega
 | x::y::r,_=>by
  have:=jD c (ws:=y::r) (by simp);rw[rW,bW,BN];omega
theorem fm {c:Nat}{z:Str}:z.length+1=bp (Txt.split z (SP.one c))+(Txt.split z (SP.one c)).length:=by
 rw[<- jD c (SP.split_ne _ _),StrLaws.join_split]
theorem ig:∀ {ws:LS}{w:Str},w∈ws->w.length<=bp ws
 | x::r,w,h=>by
  rw[bW];rcases BH.mp h with rfl | h
  ·omega
  ·have:=ig h;omega
theorem gA {c:Nat}{z:Str}:(Txt.split z (SP.one c)).length<=z.length+1:=by have:=fm (c:=c) (z:=z);omega
theorem gw {c:Nat}{z w:Str}(h:w∈Txt.split z (SP.one c)):w.length<=z.length:=by
 have:=fm (c:=c) (z:=z);have:=ig h;have:0<(Txt.split z (SP.one c)).length:=DE.mpr (SP.split_ne _ _);omega
def aN (z:Str):List (LS):=(Txt.split z "\n").map λl=>Txt.split l " "
def Tot (rows:List (LS)):Nat:=(rows.map (·.length)).sum
theorem Tot.cons (r:LS) (rows:List (LS)):Tot (r::rows)=r.length+Tot rows:=rfl
theorem sK:∀ls:LS,Tot (ls.map λl=>Txt.split l " ")<=bp ls+ls.length
 | []=>BB _
 | x::r=>by
  rw[BZ,Tot.cons,bW,BN];have:=sK r;have:(Txt.split x " ").length<=x.length+1:=by rw[jN];exact gA
  omega
theorem xH (z:Str):Tot (aN z)<=z.length+1:=by
 have:=sK (Txt.split z "\n");have e:z.length+1=bp (Txt.split z "\n")+(Txt.split z "\n").length:=by rw[fQ];exact fm
 rw[e];exact this
theorem jC (z:Str):aN z≠[]:=λh=>SP.split_ne z ("\n":Str) (List.map_eq_nil_iff.mp h)
theorem mh (z:Str):(aN z).length<=z.length+1:=by
 unfold aN;rw[BA,fQ];exact gA
theorem jc {z:Str}{r:LS}(h:r∈aN z):∃l∈Txt.split z "\n",r=Txt.split l " ":=by
 obtain⟨l,a,e⟩:=BE.mp h;exact⟨l,a,e.symm⟩
theorem Bl {z:Str}(d:z.length<=5000000):Wds (aN z):=by
 refine⟨λr a=>?_,λr a=>?_,λr a u c=>?_,?_⟩
 ·obtain⟨l,_,rfl⟩:=jc a;exact SP.split_ne _ _
 ·obtain⟨l,b,rfl⟩:=jc a;rw[fQ] at b;have:=gw b;have:(Txt.split l " ").length<=l.length+1:=by rw[jN];exact gA
  omega
 ·obtain⟨l,b,rfl⟩:=jc a;rw[fQ] at b;rw[jN] at c;have:=gw b;have:=gw c;omega
 ·have:=mh z;omega
def eK (rows:List (LS)):Prop:=∀i,i<rows.length->fL rows i
def FBr (rows:List (LS)) (n:Nat):Prop:=n<rows.length/\(∀i,i<n->fL rows i)/\¬ fL rows n
theorem ef {rows:List (LS)}(g:eK rows) {r:LS}(c:r∈rows):∃x ns,r=x::ns/\RowB x ns:=by
 obtain⟨i,a⟩:=CG c;obtain⟨x,ns,e,b,_⟩:=g i (BF.mp a).1;rw[a] at e;exact⟨x,ns,BD e,b⟩
theorem oT:∀l:List (LS), (aB ((l.filter λr => decide (hd r="group")).map λr => (r.getD 1 "", r.drop 2))).length <= Tot l
 | []=>BB _
 | r::l=>by
  have ih:=oT l;rw[Tot.cons,Cv]
  split
  ·rw[BZ];show (r.drop 2++aB _).length<=_;rw[BJ,CB];omega
  ·omega
theorem ni {α:Type}(p q:α -> Bool) (h:∀a, p a=true -> q a=true -> False):∀l:List α, (l.filter p).length+(l.filter q).length <= l.length
 | []=>BB _
 | a::l=>by
  have ih:=ni p q h l;rw[Cv,Cv,BN]
  split
  ·rename_i hp
   rw[if_neg λz=>h a hp z,BN];omega
  ·split
   ·rw[BN];omega
   ·omega
theorem nV {rows:List (LS)}(L:rows ≠ []) (g:eK rows) (H:Tot rows <= 6000000) (v:rows.length <= 6000000):PF (ksP rows) (prP "tie" rows) (prP "wait" rows) (wnP rows) := by
 have F:∀ {j:LS} {w:Str},hiB w=some 2->loB w=2->RowB w j->∃a b,j=[a,b]:=λ{j w} o A h=>by
  have:=h.lo;have:=h.hi 2 o
  match j,(by omega:j.length=2) with
  | [a,b],_=>exact⟨a,b,rfl⟩
 have n:∀(f:Str),hiB f=some 2->loB f=2->∀e∈prP f rows,Nm e.1/\Nm e.2:=λf o A e l=>by
  obtain⟨r,i,rfl⟩:=BE.mp l;rw[Cj,decide_eq_true_iff] at i;obtain⟨x,j,rfl,h⟩:=ef g i.1;have B:x=f:=i.2;subst B;obtain⟨a,b,rfl⟩:=F o A h;exact⟨h.nm a (by simp),h.nm b (by simp)⟩
 have I:∀k∈krP rows,Nm k.1/\∀u∈k.2,Nm u:=λk m=>by
  obtain⟨r,i,rfl⟩:=BE.mp m;rw[Cj,decide_eq_true_iff] at i;obtain⟨x,j,rfl,h⟩:=ef g i.1;have B:x="group":=i.2;subst B;have t:=h.lo
  match j,t,h with
  | a::c,_,h=>exact⟨h.nm a (by simp),λu s=>h.nm u (BQ _ s)⟩
  | [],z,_=>exact absurd z (by decide)
 obtain⟨K,rest,rfl⟩:=DK L;obtain⟨J,d,E,C,y⟩:=g 0 (by simp);have y:J="top":=y;subst y;have E:K=("top":Str)::d:=BD E;subst E;refine⟨⟨d,krP ((("top":Str)::d)::rest),rfl,λk m=>(I k m).1⟩,λk m u s=>?_,λe l=>?_,λe l=>?_,?_,?_,?_,?_⟩
 ·rcases BH.mp m with rfl | m
  ·exact C.nm u s
  ·exact(I k m).2 u s
 ·rcases BR.mp l with l | l
  ·exact n "tie" (by decide) (by decide) e l
  ·exact n "wait" (by decide) (by decide) e l
 ·obtain⟨r,i,rfl⟩:=BE.mp l;rw[Cj,decide_eq_true_iff] at i;obtain⟨x,j,rfl,h⟩:=ef g i.1;have D:x∈(["first","last"]:LS):=i.2;simp only[BH,CM,or_false] at D;have G:loB x=1:=by rcases D with rfl | rfl <;> decide
  have t:=h.lo;rw[G] at t;refine⟨D,?_⟩
  match j,t,h with
  | a::c,_,h=>exact h.nm a (by simp)
 ·show (d++aB (krP ((("top":Str)::d)::rest))).length<=_;have e:krP ((("top":Str)::d)::rest)=krP rest:=by
   unfold krP;rw[Cv,if_neg (by show ¬ decide (("top":Str)="group")=true;decide)]
  rw[e,BJ];have:=oT rest;have:(aB (krP rest)).length<=Tot rest:=this;rw[Tot.cons,BN] at H;omega
 ·show (krP ((("top":Str)::d)::rest)).length+1<=_;have e:krP ((("top":Str)::d)::rest)=krP rest:=by
   unfold krP;rw[Cv,if_neg (by show ¬ decide (("top":Str)="group")=true;decide)]
  rw[e];have:=CP (λr=>decide (hd r=("group":Str))) rest;have N:(krP rest).length=(rest.filter λr=>decide (hd r=("group":Str))).length:=BA ..;rw[BN] at v;omega
 ·rw[BJ];have o:(prP "tie" ((("top":Str)::d)::rest)).length=(((("top":Str)::d)::rest).filter λr=>decide (hd r=("tie":Str))).length:=BA ..;have A:(prP "wait" ((("top":Str)::d)::rest)).length=(((("top":Str)::d)::rest).filter λr=>decide (hd r=("wait":Str))).length:=BA ..;have M:=ni (λr=>decide (hd r=("tie":Str))) (λr=>decide (hd r=("wait":Str))) (λa p q=>by
   have p:=BX p;have q:=BX q;rw[p] at q;exact absurd q (by decide)) ((("top":Str)::d)::rest)
  omega
 ·have o:(wnP ((("top":Str)::d)::rest)).length=(((("top":Str)::d)::rest).filter λr=>decide (hd r∈(["first","last"]:LS))).length:=BA ..;have:=CP (λr=>decide (hd r∈(["first","last"]:LS))) ((("top":Str)::d)::rest);omega
def jq (K:W.Frag) (fl:Str):Sp:=λvs H Q _=>∃e C v,vs=[.ref e,v]/\H e=some (dF e C none)/\XSet K C fl/\∀d,H d=none->Q .non (upd (upd H d (.xd [(fl,v)])) e (dF e C (some d)))
theorem pH {E:XK}{C e:Addr}{G:Str}{v:V}{H1:Hp}(Z:XSet K C G) (he:H1 e=none) (k:∀d H',Same H1 H'->H1 d=none->H' d=some (.xd [(G,v)])->E (.ref C) (some d) H') :
    jq K G [.ref e,v] (upd H1 e (dF e C none)) (λv H2=>v=.non/\∃dd,H2 e=some (dF e C dd)/\E (.ref C) dd (del H2 e)) E0:=by
 refine⟨e,C,v,rfl,af,Z,λd hd=>⟨rfl,some d,af,?_⟩⟩;have a:d≠e:=λz=>by rw[z,af] at hd;cases hd
 rw[ah a] at hd;refine k d _ (λb o f=>?_) hd ?_
 ·have c:b≠e:=ao f he;rw[oO c,ah c,ah (ao f hd),ah c];exact f
 ·rw[oO a,ah a,af]
theorem yF {f:Addr}{fd:FuncData}(F:Fun K "__init__" "NoText.__init__" eX f fd) (B:Blt mg):FnOk P w K mg base CX0 1 f fd ["self","line"] (jq K "line"):=by
 refine F.ok1 ["self","line"] λg H Q E c h=>?_;obtain⟨e,C,v,rfl,a,Z,k⟩:=h;refine⟨_,(ae (zk (pv 0) (pv 1) rfl)),?_⟩;refine⟨_,rfl,_,rfl,e,C,rfl,a,Z,λd hd b=>?_⟩;exact k d hd
def kZ (ec:Str->Addr):Sp:=λvs H Q E=>∃z:Str,vs=[.str z]/\z.length<=5000000 /\
 (eK (aN z)->gY (ksP (aN z)) (prP "tie" (aN z)) (prP "wait" (aN z)) (wnP (aN z))->∀q H',Same H H'->Rep H' (.ref q) (bx (ksP (aN z)) (prP "tie" (aN z)) (prP "wait" (aN z)) (wnP (aN z)))->Q (.ref q) H') /\
 (eK (aN z)->¬ gY (ksP (aN z)) (prP "tie" (aN z)) (prP "wait" (aN z)) (wnP (aN z))->∀H',Same H H'->E (.ref (ec "NoHouse")) none H') /\
 ∀(n:Nat) d H',FBr (aN z) n->Same H H'->H d=none->H' d=some (.xd [("line",.int n)])->E (.ref (ec "NoText")) (some d) H'
theorem zO {r:LS}:Gs λy H=>∃l,y=.ref l/\H l=some (.lst (List.map V.str r)):=λ_ _ D _ y h _ b n=>let ⟨l,e,a⟩:=h;⟨l,e,b l _ (λz=>n (by rw[e,z])) a⟩
theorem ye {k:Str × LS}:Gs λy H=>Rep H y (cU k):=tV λa b _ h=>fT a b h
theorem xV {H':Hp}{l:Addr}(h:H' l=none):∀(D:Addr) (G:LV),H' D=some (.lst G)->V.ref l≠.ref D:=λD G a z=>by
 cases z;rw[h] at a;cases a
theorem xL {rows:List (LS)}(g:eK rows):((rows.filter λr=>decide (hd r∈(["first","last"]:LS))).map λr=>dI r)=(wnP rows).map aG:=by
 unfold wnP;rw[Cn];refine CZ λr b=>?_;rw[Cj,decide_eq_true_iff] at b;obtain⟨x,d,rfl,c⟩:=ef g b.1;have e:x∈(["first","last"]:LS):=b.2;have f:loB x=1/\hiB x=some 1:=by
  simp only[BH,CM,or_false] at e;rcases e with rfl | rfl <;> decide
 have:=c.lo;have:=c.hi 1 f.2
 match d,(by omega:d.length=1) with
 | [a],_=>rfl
theorem qI {rows:List (LS)}(g:eK rows) {word:Str}(h:hiB word=some 2) (i:loB word=2):((rows.filter λr=>decide (hd r=word)).map λr=>dI (r.drop 1))=(prP word rows).map aG:=by
 unfold prP;rw[Cn];refine CZ λr c=>?_;rw[Cj,decide_eq_true_iff] at c;obtain⟨x,e,rfl,d⟩:=ef g c.1;have f:x=word:=c.2;subst f;have:=d.lo;have:=d.hi 2 h
 match e,(by omega:e.length=2) with
 | [a,b],_=>rfl
theorem ou {f W:Addr}{fd:FuncData}{ec:Str->Addr}(F:Fun K "read_house" "read_house" fz f fd) (B:Blt mg) (TO:mg "WORDS"=some (.ref W)) (KW:∀H,SqT K H W [.str "first",.str "last"]) (u:MkI P w K mg base 1 "NoText" (ec "NoText") ["self","line"] (jq K "line")) (Z:XSet K (ec "NoText") "line") (b:Cal P w K mg base 3 "first_wrong_row" ["rows"] nk) (a:Cal P w K mg base 1 "behind_word" ["rows","word"] uR) (C:CalX P w K mg base 7 "house_of" ["knots","ties","waiting","wants"] (iN ec)):FnOk P w K mg base (CX1 P w) 8 f fd ["text"] (kZ ec):=by
 refine F.ok2 ["text","rows","wrong","knots","wants"] λnd H Q E M h=>?_;obtain⟨z,rfl,hz,kg,kn,kw⟩:=h;have W0:=Bl hz;have d2:=xH z;have a3:=W0.l3;have b0:=jC z;have d3:8000002<=sizeLine:=by decide
 have d0:(Txt.split z "\n").length<=z.length+1:=by rw[fQ];exact gA
 have b6:∀l∈Txt.split z "\n",l.length<=z.length:=λl T=>by rw[fQ] at T;exact gw T
 have er:aN z=(Txt.split z "\n").map λl=>Txt.split l " ":=rfl;have O:(aN z).length=(Txt.split z "\n").length:=by rw[er,BA]
 refine⟨_,(aa (aJ (bH (bI (eJ K "str" B (p2 (pv 0) (mP B))))) (ae (mC u (M.mono (by decide)) rfl (p1 ac))) aF)
  (aa (hR (i:=1) nd rfl rfl (by rfl) (ak fz) ["text","rows","wrong","knots","wants"] ["line"] [] ["line"] rfl (bg K (gu K (pv 0) (p1 aw))) (λ_ _ _ _ _=>(az (i:=0) (show (["line"]:LS).Nodup by decide) rfl (Or.inl rfl))) (λ_ _ _ _ _=>aT) (λ_ _ _ _ _=>(gu K (pv 0) (p1 aw))))
  (aa (pst 2 nd (pc b M (p1 (pv 1))))
  (aa (aJ (aj fX (pv 2) dY (av _)) (ae (mC u (M.mono (by decide)) rfl (p1 (pv 2)))) aF)
  (aa (pst 3 nd (aH aK (bt (p1 (be (p2 aw (cQ K B (p1 (bG (fK K) (px K M (pv 1) ac) (bE ac) cp))))))) (bn (ak fz) ["text","rows","wrong","knots","wants"] [] "row" [] (bg K (pv 1)) (dP (aj (bc M.units) (px K M (pv 0) ac) aw (av _))) (be (p2 (px K M (pv 0) ac) (cQ K B (p1 (bG (fK K) (pv 0) (bE ac) cp))))))))
  (aa (hR (i:=4) nd rfl rfl (by rfl) (ak fz) ["text","rows","wrong","knots","wants"] ["row"] [] ["row"] rfl (bg K (pv 1)) (λ_ _ _ _ _=>(az (i:=0) (show (["row"]:LS).Nodup by decide) rfl (Or.inl rfl))) (λ_ _ _ _ _=>(dP (aj (gx K M.units) (px K M (pv 0) ac) (eS (v:=.ref W) rfl TO rfl) (by with_unfolding_all rfl)))) (λ_ _ _ _ _=>(cQ K B (p1 (pv 0)))))
  (ae (ai (xP C (M.mono (by decide)) rfl (au (pv 3) (au (pc a M (p2 (pv 1) aw)) (p2 (pc a M (p2 (pv 1) aw)) (pv 4))))))))))))),?_⟩
 refine⟨_,rfl,_,_,true,rfl,.str _,rfl,_,rfl,bM (bf ?_)⟩;refine⟨_,rfl,rfl,_,_,rfl,rfl,by decide,by omega,λl1 h1=>?_⟩;refine nw h1 λH1 s1 e1=>?_;refine⟨l1,rfl,⟨_,.of e1⟩,?_⟩;refine hO (G:=λr y H=>∃l,y=.ref l/\H l=some (.lst (List.map V.str r))) (λr=>zO) (λr y H H' s h=>let ⟨l,e,T⟩:=h;⟨l,e,s _ _ T⟩) (p:=λ_=>true) (rows:=aN z) e1 rfl (by rw[BA,O]) (by rw[BA];omega) (λi x r hx m H' T' E' sm X no=>?_) λD Y H2 s2 c4 c o=>?_
 ·rw[er,BM] at m;obtain⟨l0,U,rfl⟩:=bu hx;rw[U] at m;cases BD m;have:=b6 l0 (BG U);refine kj ⟨_,rfl,rfl,_,_,rfl,rfl,by decide,by omega,λl T=>?_⟩;exact X rfl _ _ (Same.new T) ⟨l,rfl,af⟩ (xV T)
 rw[fw] at o;clear er O;generalize aN z=rows at *;have I:LL H2 D rows:=⟨Y,c,o⟩
 clear o c c4 e1 h1;have a5:=s1.trans s2;clear s1 s2;refine⟨_,rfl,D,rows,rfl,I,W0,λn hn fl nf H3 s3=>?_,λg H3 s3=>?_⟩
 ·have N:=a5.trans s3;refine bT ?_;dsimp only;refine⟨_,rfl,.non ⟨_,rfl,aA (λ_=>?_) (λh=>absurd rfl h)⟩⟩;refine⟨_,rfl,(szl 1),λe8 c1=>?_⟩;exact pH Z c1 λd H8 s8 c7 c0=>kw n d H8 ⟨hn,fl,nf⟩ (N.trans s8) (dE N c7) c0
 have I:=I.same s3;have N:=a5.trans s3;clear a5 s3;have G0:=nV b0 g (by omega) a3;have kg:=kg g;have kn:=kn g;clear kw;obtain⟨k,r0⟩:∃k,rows[0]? = some (("top":Str)::k):=by
  obtain⟨x0,k,e0,_,f0⟩:=g 0 (DE.mpr b0);have f0:x0="top":=f0;subst f0;exact⟨k,e0⟩
 have ek:ksP rows=(("":Str),k)::krP rows:=by
  unfold ksP;rw[Cs,r0];rfl
 have d4:k.length<=6000000:=by
  have:=W0.l1 _ (BG r0);rw[BN] at this;omega
 refine bT ?_;dsimp only;refine⟨_,rfl,.non ⟨_,rfl,aA (λh=>absurd h (by decide)) λ_=>bf ?_⟩⟩;obtain⟨Y,hD,c9,A⟩:=id I;obtain⟨x0,a4⟩:∃x,Y[0]? = some x:=⟨_,BV (by have:=(BF.mp r0).1;omega)⟩
 obtain⟨l0,rfl,U⟩:=A 0 x0 _ a4 r0;refine⟨_,rfl,.lst (.of hD) (bj (j:=0) a4) ⟨_,rfl,.lst (.of U) λl3 h3=>?_⟩⟩;rw[show cD (List.map V.str (("top":Str)::k)) (some 1) none=List.map V.str k from gP _ 1];refine nw h3 λH4 s4 e4=>aD ⟨l3,_,rfl,.of e4,λt0 a9=>?_⟩;refine nw a9 λH5 s5 e5=>aD ⟨szl 2,λt1 b5=>?_⟩;refine nw b5 λH6 s6 e6=>aD ⟨szl 1,λk0 b1=>?_⟩;refine nw b1 λH7 s7 e7=>?_;have a1:=(s4.trans s5).trans (s6.trans s7);have R0:RepAll H7 [V.ref t1] [cU ((("":Str),k))]:=.cons (.tup (s7 _ _ e6) (.cons (.str _) (.cons (.tup ((s6.trans s7) _ _ e5) (RepAll.of_strs k)) .nil))) .nil;have I:=I.same a1;have a7:=N.trans a1;clear s4 s5 s6 s7 e4 e5 e6 h3 a9 b5 b1 hD A U a4 N a1;obtain⟨b9,hD,S,A⟩:=id I;refine⟨_,rfl,D,rfl,⟨_,.of hD⟩,?_⟩;refine hO (G:=λr y H=>Rep H y (cU (r.getD 1 "",r.drop 2))) (λr=>ye) (hX (f:=λr:LS=>cU (r.getD 1 "",r.drop 2))) (p:=λr=>decide (hd r="group")) (rows:=rows) hD rfl S (by omega) (λi x r hx m H' T' E' sm X no=>?_) λD2 a0 H8 s8 b2 c o=>?_
 ·obtain⟨l, rfl, T⟩ := A i x r hx m;obtain⟨y,ns,rfl,RB⟩:=ef g (BG m);have J:=sm _ _ T;have at0:atI (List.map V.str (y::ns)) 0=some (.str y):=bj (j:=0) rfl;refine⟨_,rfl,.lst (.of J) at0 (.sc rfl ⟨_,rfl,?_⟩)⟩;by_cases e:y="group"
  ·subst e;refine aA (λ_=>?_) (λh=>absurd (by simp) h);obtain⟨n,c',rfl⟩:∃n c',ns=n::c':=by
    have:=RB.lo;rw[show loB "group"=1 by decide] at this
    match ns,this with
    | n::c',_=>exact⟨n,c',rfl⟩
   refine⟨_,rfl,.lst (.of J) (bj (j:=1) rfl) ⟨_,rfl,_,rfl,.lst (.of J) λl4 h4=>?_⟩⟩;rw[show cD (List.map V.str (("group":Str)::n::c')) (some 2) none=List.map V.str c' from gP _ 2];refine nw h4 λHA sA eA=>aD ⟨l4,_,rfl,.of eA,λt ht=>?_⟩;refine nw ht λHB sB eB=>aD ⟨szl 2,λt2 b7=>?_⟩;refine nw b7 λHC sC eC=>?_;exact X (BI rfl) _ HC ((sA.trans sB).trans sC) (.tup eC (.cons (.str _) (.cons (.tup (sC _ _ eB) (RepAll.of_strs c')) .nil))) (ic ((sA.trans sB).trans sC) eC)
  ·refine aA (λh=>absurd (V.str.inj (BX h)) e) (λ_=>?_);exact no (BL e) H' (Same.refl _)
 have RG:RepAll H8 a0 ((krP rows).map cU):=by
  have:=o.rep;unfold krP;rw[Cn];exact this
 have b4:=RG.len;rw[BA] at b4;have d1:(krP rows).length<=6000000:=by
  have e2:(krP rows).length=(rows.filter λr=>decide (hd r=("group":Str))).length:=BA ..;have:=CP (λr=>decide (hd r=("group":Str))) rows;omega
 refine .lst (s8 _ _ e7) c (Ci (dN (by show 1+a0.length<=8000000;omega))) λkl a8=>?_;refine nw a8 λH9 s9 e9=>?_;have RK:RepAll H9 ([V.ref t1]++a0) ((ksP rows).map cU):=by
  rw[ek];exact RepAll.append ((R0.same s8).same s9) (RG.same s9)
 generalize [V.ref t1]++a0=kf at e9 RK;have I:=(I.same s8).same s9;have c5:=(a7.trans s8).trans s9;clear o RG R0 c b2 a8 s8 s9 e7 A hD a7 S b4;refine bT ?_;dsimp only;obtain⟨c2,hD,a2,A⟩:=id I;refine⟨_,rfl,D,rfl,⟨_,.of hD⟩,?_⟩;refine hO (G:=λr y H=>Rep H y (dI r)) (λr=>iO) hX (p:=λr=>decide (hd r∈(["first","last"]:LS))) (rows:=rows) hD rfl a2 (by omega) (λi x r hx m H' T' E' sm X no=>?_) λD3 wr HA sA c8 c o=>?_
 ·obtain⟨l,rfl,T⟩:=A i x r hx m;obtain⟨y,ns,rfl,RB⟩:=ef g (BG m);have J:=sm _ _ T;have at0:atI (List.map V.str (y::ns)) 0=some (.str y):=bj (j:=0) rfl;refine⟨_,rfl,.lst (.of J) at0 (.seq (xs:=List.map V.str ["first","last"]) (.inr (KW H')) rfl (fj _) ⟨_,rfl,?_⟩)⟩;rw[hH];refine aA (λh=>?_) (λh=>?_)
  ·refine⟨_,rfl,l,_,rfl,.of J,λt ht=>?_⟩;refine nw ht λHB sB eB=>?_;exact X h _ HB sB (fM eB) (ic sB eB)
  ·exact no (BL (show y∉(["first","last"]:LS) by simpa using h)) H' (Same.refl _)
 have RW:RepAll HA wr ((wnP rows).map aG):=by
  have:=o.rep;rw[xL g] at this;exact this
 have I:=I.same sA;have e9:=sA _ _ e9;have RK:=RK.same sA;have b3:=c5.trans sA;have a6:∀r∈rows,r≠[]:=W0.ne;refine bT ?_;dsimp only;refine⟨_,rfl,_,rfl,D,rows,"tie",rfl,I,a6,a3,λD4 rt HB sB b8 RT=>?_⟩;have RT:RepAll HB rt ((prP "tie" rows).map aG):=by
  rw[qI g (by decide) (by decide)] at RT;exact RT
 refine⟨_,rfl,D,rows,"wait",rfl,I.same sB,a6,a3,λD5 rv HC sC c6 RV=>?_⟩;have RV:RepAll HC rv ((prP "wait" rows).map aG):=by
  rw[qI g (by decide) (by decide)] at RV;exact RV
 have L:=sB.trans sC;refine⟨_,rfl,kl,D4,D5,D3,kf,rt,rv,wr,_,_,_,_,rfl,.inl (L _ _ e9),.inl (sC _ _ b8),.inl c6,.inl (L _ _ c),RK.same L,RT.same sC,RV,RW.same L,G0,λgd q H' s' R=>?_,λc3 H' s'=>?_⟩
 ·exact kg gd q H' ((b3.trans L).trans s') R
 ·exact kn c3 H' ((b3.trans L).trans s')
theorem oF {us:LS}{ks:Kn}(T:Tre us ks) {ts wn:Prs}(o:TsOk us ks ts) (W:WnX ks wn) {k:Str × LS}(p:k ∈ ks):∀e ∈ cH ks ts wn k.1 k.2, MG.ix k.2 e.1<MG.ix k.2 e.2 := λe a => by
 have i:=bQ T p;have h:∀ {b u:Str},u∈wU k.2 wn b->FL k (b,u)/\u∈k.2:=λ{b u} c=>by
  unfold wU at c;rw[Cj,decide_eq_true_iff] at c;obtain⟨D,r,f⟩:=W.at_ _ c.2;have:=fk T.knd p r c.1 f.mem;rw[this];exact⟨f,this ▸ c.1⟩
 have n:("first":Str)≠"last":=by decide
 unfold cH at a;rw[ft,BR,BR] at a;rcases a with a | a | a | a
 ·cases a
 ·obtain⟨z,l,q⟩:=Da.mp a;obtain⟨c,A,_,t,s,x,y,B,_,_,_,_,w⟩:=o z l;unfold cM at q;rw[B] at q;have q:(if t.1=k.1 then some (x,y) else none)=some e:=q;by_cases l:t.1=k.1
  ·rw[if_pos l] at q;have q:=BD q;subst q;have:=iw T s p l;subst this;exact w
  ·rw[if_neg l] at q;cases q
 ·obtain⟨u,c,a⟩:=Cw.mp a;obtain⟨f,j⟩:=h c;obtain⟨v,d,g⟩:=BE.mp a;have g:(u,v)=e:=g;subst g;rw[Cj,decide_eq_true_iff] at d;rcases f with⟨_,f⟩ | ⟨f,_⟩
  ·have m:k.2[0]? = some u:=by rw[<- List.head?_eq_getElem?];exact f
   have:=(Dk (BF.mp m).1 i).mp (m.trans (MG.at_ix j).symm);have C:MG.ix k.2 v≠MG.ix k.2 u:=λz=>d.2 (MG.ix_inj d.1 j z);show MG.ix k.2 u<MG.ix k.2 v;omega
  ·exact absurd f n
 ·obtain⟨u,c,a⟩:=Cw.mp a;obtain⟨f,j⟩:=h c;obtain⟨v,d,g⟩:=BE.mp a;have g:(v,u)=e:=g;subst g;rw[Cj,decide_eq_true_iff] at d;rcases f with⟨f,_⟩ | ⟨_,f⟩
  ·exact absurd f (Ne.symm n)
  ·have m:k.2[k.2.length-1]? = some u:=by rw[<- List.getLast?_eq_getElem?];exact f
   have:=(Dk (BF.mp m).1 i).mp (m.trans (MG.at_ix j).symm);have C:MG.ix k.2 v≠MG.ix k.2 u:=λz=>d.2 (MG.ix_inj d.1 j z);have w:=MG.ix_lt d.1;show MG.ix k.2 v<MG.ix k.2 u;omega
theorem yK {es:Prs}{c:LS}(h:∀e∈es,MG.ix c e.1<MG.ix c e.2) {x y:Str}(r:MG.Rch (Tie es) x y):MG.ix c x<=MG.ix c y :=
 r.closed (S:=λz=>MG.ix c x<=MG.ix c z) (BB _) λ_ _ a t=>BP a (Ci (h _ t))
theorem vp {us:LS}{ks:Kn}{ts ws wn:Prs}{dp:Int}(T:Tre us ks) (p:(ks.map (·.1)).head? = some ("":Str)) (t:Dpt ks dp) (B:dp<=6) (c:TsOk us ks ts) (l:ts.Nodup) (h:gH us ws) (q:ws.Nodup) (f:WsR ks ts wn ws) (W:WnX ks wn) (o:∀e∈wn,∃k∈ks,FX k e) (K:ts.length<=40) (I:ws.length<=6) (C:wn.length<=122):FrH us ks ts ws wn/\GdH ks ts wn ws:=by
 refine⟨⟨T,p,?_,c.p,λe i=>?_,?_,WnX.toF T W o,by rw[BJ];omega,C⟩,λk g=>oF T c W g,f⟩
 ·obtain⟨d,F,w,u⟩:=t;exact⟨d,F,w,λk g=>Int.le_trans (u k g) B⟩
 ·obtain⟨k,_,x,y,j,_⟩:=f e i;exact⟨(h e i).1,(h e i).2,by rw[j];intro z;cases z⟩
 ·rw[CI];refine⟨l,q,λa D b v z=>?_⟩;subst z;obtain⟨_,_,_,G,s,x,y,j,_,_,_,_,J⟩:=c a D;obtain⟨k,g,L,H,m,_,_,r⟩:=f a v;obtain⟨A,n⟩:=Prod.mk.inj (BD (j.symm.trans m));obtain⟨n,E⟩:=Prod.mk.inj n;subst n E;have:=iw T s g A;subst this;have:=yK (oF T c W g) r;omega
theorem zB {us:LS}{ks:Kn}{ts ws wn:Prs}(G:FrH us ks ts ws wn):Shw (bx ks ts ws wn) := by
 have T:=G.T;have g:=G.tl;rw[BJ] at g;have r:ts.length<=200:=by omega
 have y:ws.length<=200:=by omega
 have v:=G.wl;have nmS:∀ {z:Str},z∈us->Sw (.str z) 82 0:=λh=>uV (.inr (T.nm _ h));have t:Sw (cZ ks) 620000 3 := by
  have s:∀d ∈ ks.map cU, Sw d 10107 2 := λd hd => by
   obtain⟨k,f,rfl⟩:=BE.mp hd;have b:∀u∈k.2,u∈us:=λu c=>T.isIn f c;have x:=dy (bQ T f) b;have:=T.len;refine(Sw.tuple (n:=5050) (k:=1) λd hd=>?_).mono (by show 3+2 * (5050+2)<=10107;decide) (BB _);rcases BH.mp hd with rfl | hd
   ·refine(uV ?_).mono (by decide) (by decide);rcases T.sub k f with w | w
    ·exact .inl w
    ·exact .inr (T.nm _ w)
   ·rw[Cb.mp hd];have q:∀d∈k.2.map PyData.str,Sw d 82 0:=λd hd=>by
     obtain⟨u,c,rfl⟩:=BE.mp hd;exact nmS (b u c)
    have:=Sw.tuple q;rw[BA] at this;exact this.mono (by omega) (BB _)
  have:=Sw.tuple s;have l:=T.few;rw[BA] at this;exact this.mono (by omega) (BB _)
 have j:∀ {z:Str},(z="first"∨z="last")->Sw (.str z) 82 0:=λh=>by
  rcases h with rfl | rfl
  ·exact⟨by decide +kernel,rfl,BB 0,by decide +kernel⟩
  ·exact⟨by decide +kernel,rfl,BB 0,by decide +kernel⟩
 have p:=jF (ps:=ts) (m:=200) (λe a=>⟨nmS (G.tp e a).1,nmS (G.tp e a).2.1⟩) r;have i:=jF (ps:=ws) (m:=200) (λe a=>⟨nmS (G.wp e a).1,nmS (G.wp e a).2.1⟩) (by omega);have o:=jF (ps:=wn) (m:=200) (λe a=>⟨j (G.wf.ok e a).1,nmS (G.wf.ok e a).2⟩) (by omega);refine(Sw.tuple (n:=620000) (k:=3) λd hd=>?_).shw (by decide) (BP (show 3+4 * (620000+2)<=3000000 by decide) (by decide));rcases BH.mp hd with rfl | hd
 ·exact t
 ·rcases BH.mp hd with rfl | hd
  ·exact p.mono (by decide) (by decide)
  ·rcases BH.mp hd with rfl | hd
   ·exact i.mono (by decide) (by decide)
   ·rw[Cb.mp hd];exact o.mono (by decide) (by decide)
def xF (K:W.Frag):Sp:=λvs H Q _=>∃p a,vs=[.ref p]/\Pen K H p a/\∀l ss H',ss.length<=60->ss.Nodup->(∀s∈ss,Nm s)->H' l=some (.lst (List.map V.str ss))->H l=none->l≠p->PenV H' p a->But p H H'->Q (.ref l) H'
theorem zv {f:Addr}{fd:FuncData}(F:Fun K "_law_units" "_law_units" uS f fd) (B:Blt mg) (b:Cal P w K mg base 1 "_law_draw" ["_law_pen_here", "_law_most"] (dX K)) (c:Cal P w K mg base 2 "_law_names" ["_law_pen_here", "_law_many"] (qT K)):FnOk P w K mg base CX0 3 f fd ["_law_pen_here"] (xF K) := by
 refine F.ok1 ["_law_pen_here","_law_many"] λG H Q E e h=>?_;obtain⟨p,a,rfl,l,k⟩:=h;refine⟨_,(aa (pst 1 G (pc b e (p2 (pv 0) ac)))
  (aa (aJ (aj (bc e.units) (pc b e (p2 (pv 0) ac)) ac (av _)) (ae (pst 1 G (px K e (bt (p2 (pc b e (p2 (pv 0) ac)) ac)) (pc b e (p2 (pv 0) ac))))) aF)
  (ae (ai (pc c e (p2 (pv 0) (pv 1))))))),?_⟩
 refine⟨_,rfl,p,a,15,rfl,l,by decide,by decide,λr2 H2 Z a3 Y e2=>?_⟩;have O:=But.of_eq e2;apply gi (J:=λC M=>∃m:Nat,C=[some (.ref p),some (.int (m:Int))]/\m<=60/\PenV M p a/\But p H M)
 ·intro rest;refine⟨_,rfl,p,a,8,rfl,l.but O Y,by decide,by decide,λr3 H3 a1 T o e3=>.sc rfl ⟨_,rfl,?_⟩⟩;have d:=O.trans (But.of_eq e3);refine aA (λ_=>?_) (λ_=>?_)
  ·refine⟨_,rfl,p,a,25,rfl,l.but d o,by decide,by decide,λr4 D y a4 n e4=>⟨szl 2,λL g=>?_⟩⟩;have W:=d.trans (But.of_eq e4);have s:L≠p:=Ne.symm (n.ne g);refine nw g λH5 A ed=>?_;have X:=br A n;have I:=W.trans (But.of_same (p:=p) A);refine⟨_,rfl,p,a,2,rfl,l.but I X,by decide,by decide,λq H6 a2 a0 U N=>?_⟩;have b6:=I.trans (But.of_eq N);obtain⟨m,z,u⟩:∃m:Nat,atI [V.int r4,V.int 24] q=some (.int (m:Int))/\m<=60:=by
    obtain⟨m,rfl⟩:=Cc y;have:q=0∨q=1:=by omega
    rcases this with rfl | rfl
    ·exact⟨m,rfl,by omega⟩
    ·exact⟨24,rfl,by decide⟩
   refine .lst (.of ((N L s).trans ed)) z ?_;exact rest _ _ ⟨m,rfl,u,U,b6⟩
  ·obtain⟨m,z⟩:=Cc (show 0<=r2 by omega);rw[z];exact rest _ _ ⟨m,rfl,by omega,o,d⟩
 ·rintro C H3 ⟨m,rfl,j,o,d⟩;refine⟨_,rfl,_,rfl,p,a,m,rfl,l.but d o,j,λun S D R x r t h0 i n v=>?_⟩;exact k un S D (by omega) x r t (d.free i h0) i n (d.trans v)
theorem gv (c:LS) (kr:Kn) (ts ws wn:Prs):aR ((("":Str),c)::kr) ts ws wn=[fH ((("":Str),c))]++(kr.map dA++(ts.map eU++(ws.map dW++wn.map eM))):=rfl
structure TL (H0 H:Hp) (L:Addr) (rows:List (LS)):Prop where
 at_:H L=some (.lst (List.map V.str (rows.map di)))
 same:Same H0 H
 free:H0 L=none
theorem TL.add {H0 H H2:Hp}{L:Addr}{rows:List (LS)}{r:LS}{z:Str}(h:TL H0 H L rows) (s:Same H H2) (e:z=di r):TL H0 (upd H2 L (.lst (List.map V.str (rows.map di)++[V.str z]))) L (rows++[r]):=by
 refine⟨?_,λb o a=>?_,h.free⟩
 ·rw[af,BO,BO,e];rfl
 ·rw[ah (ao a h.free)];exact s _ _ (h.same _ _ a)
theorem TL.len {H0 H:Hp}{L:Addr}{rows:List (LS)}(h:rows.length<=400):(List.map V.str (rows.map di)).length<sizeLine:=by rw[BA,BA];exact ap (by omega)
theorem row2 (a b:Str):a++(" ":Str)++b=di [a,b]:=by unfold di;rw[eQ];rfl
theorem row3 (a b c:Str):a++(" ":Str)++b++(" ":Str)++c=di [a,b,c]:=by
 unfold di;rw[eQ,ph];apply SP.str_eq;rw[SP.join_signs,SP.join_signs,PyProof.Rows.cps_toList_append,PyProof.Rows.cps_toList_append,PyProof.Rows.cps_toList_append,PyProof.Rows.cps_toList_append,Cp,Cp,Cp]
 rfl
def uO:Sp:=λvs H Q _=>∃q us ks ts ws wn,vs=[.ref q]/\Rep H (.ref q) (bx ks ts ws wn)/\FrH us ks ts ws wn/\∀H',Same H H'->Q (.str (bZ (aR ks ts ws wn))) H'
theorem yC {f:Addr}{fd:FuncData}(F:Fun K "_law_text" "_law_text" xp f fd) (B:Blt mg):FnOk P w K mg base CX0 1 f fd ["_law_house_here"] uO:=by
 refine F.ok1 ["_law_house_here","_law_knots","_law_ties","_law_waiting_here","_law_wants_here","_law_lines","_law_name","_law_some","_law_word","_law_pairs","_law_one","_law_other"] λJ H Q E hr h=>?_;obtain⟨q,us,ks,M,Z,wn,rfl,R,G,k⟩:=h;have RO:=jo G;have T:=G.T;have tl:=G.tl;rw[BJ] at tl;have d9:=G.wl;have c9:=T.few;obtain⟨c,U,rfl,f1⟩:=ku T G.hdn;have d8:=RO.few;obtain⟨q',a,b,c3,d4,e0,hq,R1,R2,R3,R4⟩:=ci R;cases e0;obtain⟨a',ra,e0,ha,a2⟩:=cz R1;cases e0;obtain⟨b',rb,e0,hb,a7⟩:=bo R2;cases e0;obtain⟨c',rc,e0,hc,b0⟩:=bo R3;cases e0;obtain⟨d',rd,e0,b8,a9⟩:=bo R4;cases e0;have al:=a2.len;have bl:=a7.len;have cl:=b0.len;have dl:=a9.len;rw[BA] at al bl cl dl;rw[BN] at al c9;have d5:∀e∈M,Nm e.1/\Nm e.2:=λe D=>⟨T.nm _ (G.tp e D).1,T.nm _ (G.tp e D).2.1⟩
 have c5:∀e∈Z,Nm e.1/\Nm e.2:=λe D=>⟨T.nm _ (G.wp e D).1,T.nm _ (G.wp e D).2.1⟩
 have a4:=G.wf.ok;have c4:∀e∈wn,Nm e.1/\Nm e.2:=λe D=>⟨jk (a4 e D).1,T.nm _ (a4 e D).2⟩
 obtain⟨x0,b4⟩:∃x,ra[0]? = some x:=⟨_,BV (by omega)⟩
 obtain⟨kn,ta,la,hk,rfl,c7,d2⟩:=cu a2 b4;have hk:((("":Str),c))=kn:=BD hk;subst hk;have ck:∀r∈(("":Str),c)::U,r.2.length<=60/\∀u∈r.2,Nm u:=λr hm=>⟨BP (dy (bQ T hm) λu hu=>T.isIn hm hu) T.len,λu hu=>T.nm u (T.isIn hm hu)⟩
 have c0:=ck _ (Cr ..);have I:(" ":Str).length=1:=by decide
 refine⟨_,(aa (bU (pv 0) (cj (n:=4) K rfl (aM (az (i:=1) J rfl (Or.inl rfl)) (aM (az (i:=2) J rfl (Or.inl rfl)) (aM (az (i:=3) J rfl (Or.inl rfl)) (aM (az (i:=4) J rfl (Or.inl rfl)) cm))))))
  (aa (pst 5 J (bt (p1 (eG K aw (p1 (aH aK (bt (p1 aw)) (fC K rfl B (p1 (px K hr (px K hr (pv 1) ac) ac)))))))))
  (aa (aZ PassesOwn.never rfl (aP K (bG ji (pv 1) (bE ac) cp)) (cj (n:=2) K rfl (aM (az (i:=6) J rfl (Or.inl rfl)) (aM (az (i:=7) J rfl (Or.inl rfl)) cm))) (ae (bh (dj K (pv 5) (p1 (eG K aw (p1 (aH aK (bt (p2 aw (pv 6))) (fC K rfl B (p1 (pv 7)))))))))))
  (aa (aZ PassesOwn.never rfl (aP K (be (p2 (be (p2 aw (pv 2))) (be (p2 aw (pv 3)))))) (cj (n:=2) K rfl (aM (az (i:=8) J rfl (Or.inl rfl)) (aM (az (i:=9) J rfl (Or.inl rfl)) cm))) (ae (aZ PassesOwn.never rfl (aP K (pv 9)) (cj (n:=2) K rfl (aM (az (i:=10) J rfl (Or.inl rfl)) (aM (az (i:=11) J rfl (Or.inl rfl)) cm))) (ae (bh (dj K (pv 5) (p1 (aH aK (aH aK (aH aK (aH aK (pv 8) aw) (pv 10)) aw) (pv 11)))))))))
  (aa (aZ PassesOwn.never rfl (aP K (pv 4)) (cj (n:=2) K rfl (aM (az (i:=8) J rfl (Or.inl rfl)) (aM (az (i:=10) J rfl (Or.inl rfl)) cm))) (ae (bh (dj K (pv 5) (p1 (aH aK (aH aK (pv 8) aw) (pv 10)))))))
  (ae (ai (eG K aw (p1 (pv 5)))))))))),?_⟩
 refine⟨_,rfl,q,_,rfl,.of hq,rfl,_,_,rfl,_,_,rfl,_,_,rfl,_,_,rfl,rfl,?_⟩;refine⟨rfl,szl 1,λl1 h1=>?_⟩;refine nw h1 λH1 s1 e1=>?_;refine⟨_,rfl,.tup (.of (s1 _ _ ha)) (bj (j:=0) b4) (.tup (.of (s1 _ _ c7)) rfl (aD ⟨_,rfl,.seq (.inr (.of (s1 _ _ d2))) λl2 h2=>?_⟩))⟩;refine nw h2 λH2 s2 e2=>?_;refine .lst (s2 _ _ e1) e2 (by show 1+(List.map V.str c).length<=sizeLine;rw[BA];exact Ci (ap (by have:c.length<=60:=c0.1;omega))) λl3 h3=>?_;refine nw h3 λH3 s3 e3=>?_;have e3:H3 l3=some (.lst (List.map V.str (fH ((("":Str),c))))):=e3;have tm:=RO.nm _ (Cr ..);have a5:=RO.len _ (Cr ..);refine aD ⟨_,_,_,rfl,rfl,e3,BP (jr tm a5) (by decide),aD ⟨szl 1,λt a1=>?_⟩⟩;refine nw a1 λH4 s4 e4=>?_;have y:TL H H4 t [fH ((("":Str),c))]:=⟨e4,((s1.trans s2).trans s3).trans s4,dE ((s1.trans s2).trans s3) a1⟩
 clear e1 e2 e3 e4 s1 s2 s3 s4 h1 h2 h3 a1 tm a5;refine bT ?_;dsimp only;refine⟨_,rfl,_,rfl,a,ra,rfl,y.same _ _ ha,λp1 H5 s5 O=>?_⟩;have ec:cD ra (some 1) none=ra.drop 1:=gg ra 1;rw[ec] at O;have y:TL H H5 t [fH ((("":Str),c))]:=⟨s5 _ _ y.at_,y.same.trans s5,y.free⟩
 have a8:p1≠t:=bK O y.at_ (by intro z;cases z);refine⟨p1,rfl,⟨_,.of O⟩,?_⟩
 let a6:Nat->St->Hp->Prop:=λi v m=>∃o6 o7,v=[some (.ref q),some (.ref a),some (.ref b),some (.ref c3),some (.ref d4),some (.ref t),o6,o7,none,none,none,none]/\TL H m t ([fH ((("":Str),c))]++(U.take i).map dA)/\m p1=some (.tup (ra.drop 1))
 refine bV (R:=Q) (xs:=ra.drop 1) a6 ⟨none,none,rfl,y,O⟩ ?_ ?_ ?_
 ·rintro i v m hi ⟨o6,o7,rfl,_,X⟩;exact .of X
 ·rintro _ i x v m N ⟨o6,o7,rfl,d,X⟩;rw[Dv] at N;obtain⟨kn,S,e5,hk,rfl,C,b5⟩:=cu a2 N;rw[Nat.add_comm,DJ] at hk;have hm:=BG hk;have e9:=(BF.mp hk).1;have kk:=ck kn (BQ _ hm);have c2:=d.same _ _ C;have b3:=d.same _ _ b5;refine⟨S,_,rfl,.of c2,rfl,_,_,rfl,_,_,rfl,rfl,?_⟩;refine⟨_,rfl,.inl ⟨rfl,_,.of d.at_⟩,rfl,_,rfl,szl 2,λl1 h1=>?_⟩;refine nw h1 λH1 s1 e1=>?_;refine⟨_,rfl,_,rfl,.seq (.inr (.of (s1 _ _ b3))) λl2 h2=>?_⟩;refine nw h2 λH2 s2 e2=>?_;refine .lst (s2 _ _ e1) e2 (by show 2+(List.map V.str kn.2).length<=sizeLine;rw[BA];exact Ci (ap (by have:=kk.1;omega))) λl3 h3=>?_;refine nw h3 λH3 s3 e3=>?_;have e3:H3 l3=some (.lst (List.map V.str (dA kn))):=e3;have a0:=(s1.trans s2).trans s3;have hg:dA kn∈aR ((("":Str),c)::U) M Z wn:=by
   rw[gv];exact Cy _ (CH _ (BE.mpr ⟨kn,hm,rfl⟩))
  refine aD ⟨_,_,_,rfl,rfl,e3,BP (jr (RO.nm _ hg) (RO.len _ hg)) (by decide),aD ⟨t,_,_,rfl,rfl,a0 _ _ d.at_,TL.len (H0:=H) (H:=H) (L:=t) (by rw[BJ,BA,Ch];show 1+_<=400;omega),?_⟩⟩;refine⟨_,_,rfl,?_,by rw[ah a8];exact a0 _ _ X⟩;have:=d.add (r:=dA kn) (z:=Txt.join " " (dA kn)) a0 rfl;rw[Cp] at this;rw[BW,hk,BO (l₁:=U.take i)];exact this
 rintro v H5 ⟨o6,o7,rfl,d,_⟩;have el:(ra.drop 1).length=U.length:=by rw[CB];omega
 rw[el,BS (BB _)] at d;have b6:([fH ((("":Str),c))]++U.map dA).length=1+U.length:=by rw[BJ,BA];rfl
 have re:=gv c U M Z wn;rw[<- Cp] at re;generalize ([fH ((("":Str),c))]++U.map dA)=A at d b6 re;clear el O a8 y ec s5;refine⟨_,rfl,szl 2,λt1 h1=>?_⟩;refine nw h1 λH6 s6 e6=>?_;refine⟨_,rfl,szl 2,λt2 h2=>?_⟩;refine nw h2 λH7 s7 e7=>?_;refine aD ⟨szl 2,λt3 h3=>?_⟩;refine nw h3 λH8 s8 e8=>?_;have a3:=(s6.trans s7).trans s8;have d:TL H H8 t A:=⟨a3 _ _ d.at_,d.same.trans a3,d.free⟩
 obtain⟨Tt,eT⟩:∃Tt:Hp->Prop,Tt=λm=>m t1=some (.tup [.str "tie",.ref b])/\m t2=some (.tup [.str "wait",.ref c3])/\m t3=some (.tup [.ref t1,.ref t2]):=⟨_,rfl⟩
 have T8:Tt H8:=by rw[eT];exact⟨(s7.trans s8) _ _ e6,s8 _ _ e7,e8⟩
 have Tu:∀ {m:Hp} {xs ys:LV},Tt m->m t=some (.lst xs)->Tt (upd m t (.lst ys)):=λ{m xs ys} h hl=>by
  rw[eT] at h ⊢;exact⟨by rw[ah (bK h.1 hl (by intro z;cases z))];exact h.1,by rw[ah (bK h.2.1 hl (by intro z;cases z))];exact h.2.1,by rw[ah (bK h.2.2 hl (by intro z;cases z))];exact h.2.2⟩
 obtain⟨s,p0,p1,p2⟩:∃s:Nat->List (LS),s 0=A/\s 1=A++M.map eU/\s 2=A++M.map eU++Z.map dW:=⟨λi=>if i=0 then A else if i=1 then A++M.map eU else A++M.map eU++Z.map dW,rfl,rfl,rfl⟩
 refine⟨t3,rfl,⟨_,.of e8⟩,?_⟩
 let c1:Nat->St->Hp->Prop:=λi v m=>∃Y o9 l p,v=[some (.ref q),some (.ref a),some (.ref b),some (.ref c3),some (.ref d4),some (.ref t),o6,o7,Y,o9,l,p]/\TL H m t (s i)/\Tt m
 refine bV (R:=Q) (xs:=[V.ref t1,V.ref t2]) c1 ⟨none,none,none,none,rfl,by rw[p0];exact d,T8⟩ ?_ ?_ ?_
 ·rintro i v m hi ⟨Y,o9,l,p,rfl,_,W⟩;rw[eT] at W;exact .of W.2.2
 ·rintro _ i x v m N ⟨Y, o9, l, p, rfl, d, W⟩;obtain⟨o,tx,pb,rq,ps,rfl,d3,b7,c8,f0,d1,d6,d7,d0⟩:∃(o:Str) (tx pb:Addr) (rq:LV) (ps:Prs),x=.ref tx/\m tx=some (.tup [.str o,.ref pb])/\H pb=some (.tup rq)/\RepAll H rq (ps.map aG)/\o.length<=8/\(∀e∈ps,Nm e.1/\Nm e.2)/\s (i+1)=s i++ps.map (λe=>[o,e.1,e.2])/\(s i).length+ps.length<=400/\rq.length=ps.length:=by
   rw[eT] at W
   match i,N with
   | 0,N =>
    cases BD N;exact⟨"tie",t1,b,rb,M,rfl,W.1,hb,a7,by decide,d5,by rw[p0,p1];rfl,by rw[p0];omega,bl⟩
   | 1,N =>
    cases BD N;exact⟨"wait",t2,c3,rc,Z,rfl,W.2.1,hc,b0,by decide,c5,by rw[p1,p2];rfl,by rw[p1,BJ,BA];omega,cl⟩
  refine⟨tx,_,rfl,.of d3,rfl,_,_,rfl,_,_,rfl,rfl,?_⟩;refine⟨_,rfl,pb,rfl,⟨_,.of (d.same _ _ b7)⟩,?_⟩
  let b1:Nat->St->Hp->Prop:=λj v m=>∃l p,v=[some (.ref q),some (.ref a),some (.ref b),some (.ref c3),some (.ref d4),some (.ref t),o6,o7,some (.str o),some (.ref pb),l,p]/\TL H m t (s i++(ps.take j).map λe=>[o,e.1,e.2])/\Tt m
  refine bV (R:=Q) (xs:=rq) b1 ⟨l,p,rfl,by rw[Dl,List.map_nil,Cm];exact d,W⟩ ?_ ?_ ?_
  ·rintro j v m hj ⟨l,p,rfl,g,_⟩;exact .of (g.same _ _ b7)
  ·rintro _ j x v m N ⟨l,p,rfl,g,W⟩;obtain⟨e,S,D,rfl,C⟩:=bP c8 N;have c6:=(BF.mp D).1;have n:=d1 e (BG D);have n1:=n.1.2.1;have n2:=n.2.2.1;refine⟨S,_,rfl,.of (g.same _ _ C),rfl,_,_,rfl,_,_,rfl,rfl,?_⟩;refine⟨_,rfl,.inl ⟨rfl,_,.of g.at_⟩,_,rfl,.str (Ci (ap (by rw[I];omega))) ⟨_,rfl,.str (Ci (ap (by rw[Str.length_append,I];omega))) (.str (Ci (ap (by rw[Str.length_append,Str.length_append,I];omega))) ⟨_,rfl,.str (Ci (ap (by rw[Str.length_append,Str.length_append,Str.length_append,I];omega))) ⟨t,_,_,rfl,rfl,g.at_,TL.len (H0:=H) (H:=H) (L:=t) (by rw[BJ,BA,Ch];omega),?_⟩⟩)⟩⟩;refine⟨_,_,rfl,?_,Tu W g.at_⟩;have:=g.add (r:=[o,e.1,e.2]) (Same.refl _) (row3 o e.1 e.2);rw[Cp] at this;rw[BW,D,BO (l₁:=ps.take j)];exact this
  ·rintro v m ⟨l,p,rfl,g,W⟩;rw[d0,BS (BB _),<- d6] at g;exact⟨_,_,_,_,rfl,g,W⟩
 rintro v H9 ⟨Y,o9,l,p,rfl,d,_⟩;have d:TL H H9 t (s 2):=d;rw[p2] at d;have b9:(A++M.map eU++Z.map dW).length=1+U.length+M.length+Z.length:=by rw[BJ,BJ,BA,BA];omega
 rw[<- Cp,<- Cp] at re;generalize A++M.map eU++Z.map dW=A2 at d b9 re;refine⟨_,rfl,d4,rfl,⟨_,.of (d.same _ _ b8)⟩,?_⟩
 let b2:Nat->St->Hp->Prop:=λj v m=>∃Y l,v=[some (.ref q),some (.ref a),some (.ref b),some (.ref c3),some (.ref d4),some (.ref t),o6,o7,Y,o9,l,p]/\TL H m t (A2++(wn.take j).map eM)
 refine bV (R:=Q) (xs:=rd) b2 ⟨Y,l,rfl,by rw[Dl,List.map_nil,Cm];exact d⟩ ?_ ?_ ?_
 ·rintro j v m hj ⟨Y,l,rfl,g⟩;exact .of (g.same _ _ b8)
 ·rintro _ j x v m N ⟨Y,l,rfl,g⟩;obtain⟨e,S,D,rfl,C⟩:=bP a9 N;have c6:=(BF.mp D).1;have n:=c4 e (BG D);have n1:=n.1.2.1;have n2:=n.2.2.1;refine⟨S,_,rfl,.of (g.same _ _ C),rfl,_,_,rfl,_,_,rfl,rfl,?_⟩;refine⟨_,rfl,.inl ⟨rfl,_,.of g.at_⟩,_,rfl,.str (Ci (ap (by rw[I];omega))) ⟨_,rfl,.str (Ci (ap (by rw[Str.length_append,I];omega))) ⟨t,_,_,rfl,rfl,g.at_,TL.len (H0:=H) (H:=H) (L:=t) (by rw[BJ,BA,Ch];omega),?_⟩⟩⟩;refine⟨_,_,rfl,?_⟩;have:=g.add (r:=eM e) (Same.refl _) (row2 e.1 e.2);rw[Cp] at this;rw[BW,D,BO (l₁:=wn.take j)];exact this
 ·rintro v m ⟨Y,l,rfl,g⟩;rw[dl,BS (BB _)] at g;have re:aR ((("":Str),c)::U) M Z wn=A2++wn.map eM:=re;rw[<- re] at g;exact⟨rfl,_,rfl,_,_,_,rfl,rfl,g.at_,BP (jO RO) (by decide),k _ g.same⟩
def su (K:W.Frag):Sp:=λvs H Q _=>∃p a,vs=[.ref p]/\Pen K H p a/\∀(z:Str) H',z.length<=1->PenV H' p a->But p H H'->Q (.str z) H'
theorem uf {xs:List Nat}{m:Nat}{r:Int}(d:xs.length=m) (b:0<=r) (e:r<m):∃c,atI xs r=some c:=by
 obtain⟨j,rfl⟩:=Cc b;have a:j<xs.length:=by omega
 exact⟨xs[j],bj (BV a)⟩
theorem eI {H H':Hp}{p a:Addr}(s:Same H H') (v:PenV H p a):PenV H' p a:=by
 obtain⟨i,n,b,r⟩:=v;exact⟨i,n,s _ _ b,r⟩
theorem uy {xs:LV}{m:Nat}{r:Int}(c:xs.length=m) (b:0<=r) (d:r<m):∃x,atI xs r=some x/\x∈xs:=by
 obtain⟨j,rfl⟩:=Cc b;have a:j<xs.length:=by omega
 exact⟨xs[j],bj (BV a),CK a⟩
theorem xQ {f:Addr}{fd:FuncData}(F:Fun K "_law_sign" "_law_sign" xt f fd) (B:Blt mg) (b:Cal P w K mg base 1 "_law_draw" ["_law_pen_here","_law_most"] (dX K)):FnOk P w K mg base CX0 2 f fd ["_law_pen_here"] (su K):=by
 refine F.ok1 ["_law_pen_here","_law_signs"] λv H Q E c h=>?_;obtain⟨p,a,rfl,e,k⟩:=h;refine⟨_,(aa (pst 1 v aw)
  (ae (ai (px K c (bt (p2 (px K c (pv 1) (pc b c (p2 (pv 0) ac))) (px K c aw (pc b c (p2 (pv 0) ac))))) (pc b c (p2 (pv 0) ac)))))),?_⟩
 refine⟨_,rfl,_,rfl,p,a,95,rfl,e,by decide,by decide,λY z y I D U=>?_⟩;have r:But p H z:=But.of_eq U;obtain ⟨t,M⟩:=uf (m:=95) (xs:=(" !\"#$&'()*+,-./0123456789:;<=>?@ABCDEFGHIJKLMNOPQRSTUVWXYZ[\\]^_`abcdefghijklmnopqrstuvwxyz{|}~\n" : Str).cps.toList) (by decide +kernel) y I;refine .str (by decide +kernel) M ?_;refine⟨_,rfl,p,a,4,rfl,e.but r D,by decide,by decide,λZ H2 G d n L=>?_⟩;have O:=r.trans (But.of_eq L);obtain⟨u,A⟩:=uf (m:=4) (xs:=(" \nab":Str).cps.toList) (by decide +kernel) G d;refine .str (by decide +kernel) A ?_;refine aD ⟨(szl 2),λl i=>?_⟩;refine nw i λX o N=>?_;have C:l≠p:=Ne.symm (n.ne i);have R:=eI o n;have q:=O.trans (But.of_same o);refine⟨_,rfl,p,a,2,rfl,e.but q R,by decide,by decide,λW V T S j s=>?_⟩;obtain⟨x,J,mx⟩:=uy (m:=2) (xs:=[.str ⟨#[t]⟩,.str ⟨#[u]⟩]) rfl T S;have g:=q.trans (But.of_eq s);refine .lst (.of ((s l C).trans N)) J ?_;rcases BH.mp mx with rfl | mx
 ·exact k _ _ (BB 1) j g
 ·rw[Cb.mp mx];exact k _ _ (BB 1) j g
theorem lD:∀(ws:LS) (i:Nat) (w:Str),bp (ws.set i w)<=bp ws+w.length
 | [],i,w=>by cases i <;> exact Cg _
 | x::r,0,w=>by rw[List.set_cons_zero,bW,bW];omega
 | x::r,i+1,w=>by
  rw[List.set_cons_succ,bW,bW];have:=lD r i w;omega
theorem fg (ws:LS) (i:Nat) (w:Str):(List.map V.str ws).set i (.str w)=List.map V.str (ws.set i w):=by rw[List.map_set]
theorem sum_append (a b:LS):bp (a++b)=bp a+bp b:=by unfold bp;rw[BO,List.sum_append]
theorem tz (l:LS) (i:Nat):bp (l.eraseIdx i) <= bp l := by
 rw[DM,sum_append];have h:=congrArg bp (CL i l);rw[sum_append] at h;have a:bp (l.drop (i+1))<=bp (l.drop i):=by
  cases c:l.drop i with
  | nil=>rw[<- List.drop_drop,c];exact BB _
  | cons x r =>
   rw[<- List.drop_drop,c];show bp r<=_;rw[bW];omega
 omega
theorem qt (l:LS) (k:Nat) (x:Str):bp (l.take k++x::l.drop k)=bp l+x.length:=by
 rw[sum_append,bW];have h:=congrArg bp (CL k l);rw[sum_append] at h;omega
theorem pV {α:Type}(l:List α) (k:Nat) (x:α):(l.take k++x::l.drop k).length=l.length+1:=by
 have h:=congrArg List.length (CL k l);rw[BJ] at h;rw[BJ,BN];omega
theorem qh (l:LS) (k:Nat) (x:Str):(List.map V.str l).take k++V.str x::(List.map V.str l).drop k=List.map V.str (l.take k++x::l.drop k):=by
 rw[BO,BZ,CY,Dw]
theorem si (l:LS) (k:Nat):(List.map V.str l).eraseIdx k=List.map V.str (l.eraseIdx k):=by
 rw[DM,DM,BO,CY,Dw]
theorem ii:∀(l:LS) (i:Nat) (w x:Str),l[i]? = some x->bp (l.set i w)+x.length=bp l+w.length
 | [],i,w,x,h=>by simp at h
 | y::r,0,w,x,h=>by
  have h:y=x:=by simpa using h
  rw[List.set_cons_zero,bW,bW,h];omega
 | y::r,i+1,w,x,h=>by
  rw[List.set_cons_succ,bW,bW];have:=ii r i w x (by simpa using h);omega
theorem join_le (l:LS):(Txt.join "\n" l).length<=bp l+l.length:=by
 have h:=im "\n" l;have a:("\n":Str).length=1:=by decide +kernel
 rw[a] at h;show _<=(l.map (·.length)).sum+_;omega
def sU (K:W.Frag):Sp:=λvs H Q _=>∃(p a:_) (z:Str),vs=[.ref p,.str z]/\Pen K H p a/\z.length<=2200000/\∀(z':Str) H',z'.length<=2 * z.length+10->PenV H' p a->But p H H'->Q (.str z') H'
theorem xU {f:Addr}{fd:FuncData}(F:Fun K "_law_bent" "_law_bent" xA f fd) (B:Blt mg) (b:Cal P w K mg base 1 "_law_draw" ["_law_pen_here", "_law_most"] (dX K)) (r:Cal P w K mg base 2 "_law_sign" ["_law_pen_here"] (su K)):FnOk P w K mg base CX0 3 f fd ["_law_pen_here", "_law_text_here"] (sU K) := by
 refine F.ok1 ["_law_pen_here","_law_text_here","_law_kind","_law_at","_law_new","_law_lines","_law_one","_law_other","_law_words","_law_some"] λnd H Q E d h=>?_;obtain⟨p,a,z,rfl,hP,hz,k⟩:=h;have f8:8000002<=sizeLine:=by decide
 refine⟨_,(aa (pst 2 nd (pc b d (p2 (pv 0) ac)))
  (aa (pst 3 nd (pc b d (p2 (pv 0) (aH aK (aQ K B (p1 (pv 1))) ac))))
  (aa (aJ (aj dO (pv 2) ac (av _)) (aa (pst 4 nd (px K d (bt (au (pc r d (p1 (pv 0))) (p2 aw (pc r d (p1 (pv 0)))))) (pv 2)))
  (ae (ai (aH aK (aH aK (bG (fK K) (pv 1) cp (bE (pv 3))) (pv 4)) (bG (fK K) (pv 1) (bE (aH aK (pv 3) (xo B (p1 (bS eZ (pv 2) ac (av _)))))) cp))))) aF)
  (aa (pst 5 nd (gu K (pv 1) (p1 aw)))
  (aa (pst 6 nd (pc b d (p2 (pv 0) (aQ K B (p1 (pv 5))))))
  (aa (pst 7 nd (pc b d (p2 (pv 0) (aQ K B (p1 (pv 5))))))
  (aa (pst 8 nd (gu K (px K d (pv 5) (pv 6)) (p1 aw)))
  (aa (pst 9 nd (gu K (px K d (pv 5) (pv 7)) (p1 aw)))
  (aa (aJ (aj (bc d.units) (pv 2) ac (av _)) (ae (bh (AT K (pv 5) (p1 (pv 6))))) (ae (aJ (aj (bc d.units) (pv 2) ac (av _)) (ae (bh (fi K (pv 5) (p2 (pv 7) (px K d (pv 5) (pv 6)))))) (ae (aJ (aj (bc d.units) (pv 2) ac (av _)) (ae (bU (be (p2 (px K d (pv 5) (pv 7)) (px K d (pv 5) (pv 6)))) (cj (n:=2) K rfl (aM (ce (pv 5) (pv 6) (cC d.units)) (aM (ce (pv 5) (pv 7) (cC d.units)) cm))))) (ae (aJ (aj (bc d.units) (pv 2) ac (av _)) (aa (bU (px K d (pv 9) (pc b d (p2 (pv 0) (aQ K B (p1 (pv 9)))))) (ce (pv 8) (pc b d (p2 (pv 0) (aQ K B (p1 (pv 8))))) (cC d.units)))
  (ae (bU (eG K aw (p1 (pv 8))) (ce (pv 5) (pv 6) (cC d.units))))) (ae (aJ (aj (bc d.units) (pv 2) ac (av _)) (aa (bh (fi K (pv 8) (p2 (pc b d (p2 (pv 0) (aH aK (aQ K B (p1 (pv 8))) ac))) (px K d (pv 9) (pc b d (p2 (pv 0) (aQ K B (p1 (pv 9)))))))))
  (ae (bU (eG K aw (p1 (pv 8))) (ce (pv 5) (pv 6) (cC d.units))))) (aa (bU (px K d (bt (au aw (au aw (au aw (au aw (au aw (au aw (p2 aw aw bJ bJ) bJ) bJ) bJ) bJ) bJ) bJ)) (pc b d (p2 (pv 0) ac))) (ce (pv 8) ac (cC d.units)))
  (ae (bU (eG K aw (p1 (pv 8))) (ce (pv 5) (pv 6) (cC d.units))))))))))))))
  (ae (ai (eG K aw (p1 (pv 5)))))))))))))),?_⟩
 refine⟨_,rfl,p,a,9,rfl,hP,by decide,by decide,λkd H1 k0 k1 v1 e1=>?_⟩;have b1:But p H H1:=But.of_eq e1;refine⟨_,rfl,_,rfl,_,_,rfl,⟨by omega,rfl⟩,.int (aD ⟨p,a,_,rfl,hP.but b1 v1,by omega,by omega,λf6 H2 a0 a1 v2 e2=>?_⟩)⟩;have b2:=b1.trans (But.of_eq e2);obtain⟨ja,rfl⟩:=Cc a0;refine⟨_,rfl,.int ⟨_,rfl,aA (λh3=>?_) (λ_=>?_)⟩⟩
 ·have h3:kd<3:=BX h3;refine⟨_,rfl,aD ⟨p,a,rfl,hP.but b2 v2,λz1 H3 l1 v3 b3=>?_⟩⟩;refine⟨_,rfl,aD ⟨p,a,rfl,hP.but (b2.trans b3) v3,λz2 H4 l2 v4 b4=>aD ⟨(szl 3),λl hl=>?_⟩⟩⟩;refine nw hl λH5 s5 e5=>?_;obtain⟨x,hx,mx⟩:=uy (m:=3) (xs:=[.str z1,.str "",.str z2]) rfl k0 h3;obtain⟨nw,rfl,nl⟩:∃nw:Str,x=.str nw/\nw.length<=1:=by
   simp only[BH,CM,or_false] at mx;rcases mx with rfl | rfl | rfl
   ·exact⟨z1,rfl,l1⟩
   ·exact⟨"",rfl,by decide⟩
   ·exact⟨z2,rfl,l2⟩
  refine⟨_,rfl,.lst (.of e5) hx ?_⟩;have c1:=Txt.slice_le z none (some (ja:Int));have sl:(Txt.slice z none (some (ja:Int))++nw).length<=z.length+1:=by rw[bL];omega
  refine⟨_,rfl,_,rfl,_,rfl,.str (by omega) ⟨_,rfl,.str (by rw[<- bL];omega) ⟨_,rfl,_,rfl,_,rfl,_,_,rfl,rfl,aD ⟨_,rfl,.bl (.int ⟨_,rfl,.str (by omega) ?_⟩)⟩⟩⟩⟩;generalize (some ((ja:Int)+if decide (0<kd)=true then 1 else 0))=lo;have c2:=Txt.slice_le z lo none;refine .str (by omega) (k _ H5 (by rw[bL];omega) (eI s5 v4) (((b2.trans b3).trans b4).trans (But.of_same s5)))
 refine⟨_,rfl,rfl,_,_,rfl,rfl,by decide,by omega,λl hl=>?_⟩;have f3:z.length+1=bp (Txt.split z "\n")+(Txt.split z "\n").length:=by rw[fQ];exact fm
 have c8:∀l∈Txt.split z "\n",l.length<=z.length:=λl hl=>by rw[fQ] at hl;exact gw hl
 have d5:Txt.split z "\n"≠[]:=SP.split_ne _ _;refine nw hl λH3 s3 e3=>?_;have g:l≠p:=Ne.symm (v2.ne hl);have T:H l=none:=b2.free g hl;generalize Txt.split z "\n"=c at *;have v3:=eI s3 v2;have b3:=b2.trans (But.of_same s3);have f2:0<c.length:=DE.mpr d5;have N:(List.map V.str c).length=c.length:=BA ..;refine⟨_,rfl,_,rfl,_,_,rfl,Or.inl ⟨_,.of e3,rfl⟩,aD ⟨p,a,_,rfl,hP.but b3 v3,by rw[N];omega,by rw[N];omega,λone H4 o0 o1 v4 e4=>?_⟩⟩;have c3:=(e4 l g).trans e3;have b4:=b3.trans (But.of_eq e4);refine⟨_,rfl,_,rfl,_,_,rfl,Or.inl ⟨_,.of c3,rfl⟩,aD ⟨p,a,_,rfl,hP.but b4 v4,by rw[N];omega,by rw[N];omega,λe0 H5 p0 p1 v5 e5=>?_⟩⟩;have a5:=(e5 l g).trans c3;have b5:=b4.trans (But.of_eq e5);obtain⟨e,rfl⟩:=Cc o0;obtain⟨y,rfl⟩:=Cc p0;have A:e<c.length:=by rw[N] at o1;omega
 have a6:y<c.length:=by rw[N] at p1;omega
 have a4:atI (List.map V.str c) ((e:Nat):Int)=some (.str c[e]):=bj (by rw[BM,BV A];rfl);have b0:atI (List.map V.str c) ((y:Nat):Int)=some (.str c[y]):=bj (by rw[BM,BV a6];rfl);have n1:=c8 _ (CK A);have a3:c[e]? = some c[e]:=BV A;have c5:c[y]? = some c[y]:=BV a6;have n2:=c8 _ (CK a6);generalize c[e]=R at a4 n1 a3;generalize c[y]=G at b0 n2 c5;clear e4 e5 e3 c3 o0 o1 p0 p1 v3 v4 b3 b4 s3 k0 k1 e1 e2 a1 a0;have M:∀(i:LS) (j:Nat),j<i.length->ixN (List.map V.str i).length (j:Int)=some j:=λi j h=>by
  unfold ixN;rw[if_pos (by omega),if_pos (by rw[BA];omega),Dd]
 have f5:R.length<=bp c:=ig (BG a3);have f4:G.length<=bp c:=ig (BG c5);refine⟨_,rfl,_,rfl,.lst (.of a5) a4 ⟨rfl,R,_,rfl,rfl,by decide,by omega,λD X=>?_⟩⟩;have f7:R.length+1=bp (Txt.split R " ")+(Txt.split R " ").length:=by rw[jN];exact fm
 have f0:Txt.split R " "≠[]:=SP.split_ne _ _;refine nw X λH6 s6 e6=>?_;have C:D≠p:=Ne.symm (v5.ne X);have c4:D≠l:=λz=>by rw[z,a5] at X;cases X
 have a7:H D=none:=b5.free C X;generalize Txt.split R " "=i at *;have l6:=s6 _ _ a5;have v6:=eI s6 v5;have b6:=b5.trans (But.of_same s6);refine⟨_,rfl,_,rfl,.lst (.of l6) b0 ⟨rfl,G,_,rfl,rfl,by decide,by omega,λlu a9=>?_⟩⟩;have d2:∀w∈Txt.split G " ",w.length<=G.length:=λw hw=>by rw[jN] at hw;exact gw hw
 have f9:(Txt.split G " ").length<=G.length+1:=by rw[jN];exact gA
 have d4:Txt.split G " "≠[]:=SP.split_ne _ _;refine nw a9 λH7 s7 e7=>?_;have c6:lu≠p:=Ne.symm (v6.ne a9);generalize Txt.split G " "=us at *;have l7:=s7 _ _ l6;have w7:=s7 _ _ e6;have v7:=eI s7 v6;have b7:=b6.trans (But.of_same s7);have Y:(List.map V.str us).length=us.length:=BA ..;have I:(List.map V.str i).length=i.length:=BA ..;have f1:0<us.length:=DE.mpr d4;have c7:0<i.length:=DE.mpr f0;have d3:(" ":Str).length=1:=by decide +kernel
 have d8:("\n":Str).length=1:=by decide +kernel
 clear s6 s7 e6 l6 v6 b6 X a9 a5 v5 b5;apply gi (J:=λσ HZ=>∃L:LS,σ=[some (.ref p),some (.str z),some (.int kd),some (.int (ja:Int)),none,some (.ref l),some (.int (e:Int)),some (.int (y:Int)),some (.ref D),some (.ref lu)]/\HZ l=some (.lst (List.map V.str L))/\bp L+L.length<=2 * z.length+10/\PenV HZ p a/\But p H HZ)
 ·intro rest;have a2:∀(H9:Hp) (u:LS) (nw:Str),H9 D=some (.lst (List.map V.str u))->H9 l=some (.lst (List.map V.str c))->bp u<=bp i+nw.length->u.length<=i.length+1->nw.length<=z.length+5->((u.map (·.length)).sum+u.length * (" ":Str).length<=16777216)/\(bp (c.set e (Txt.join " " u))+(c.set e (Txt.join " " u)).length<=2 * z.length+10):=λH9 u nw _ _ h1 h2 h3=>by
   have q6:(u.map (·.length)).sum=bp u:=rfl;have q5:=im " " u;have q7:=ii c e (Txt.join " " u) R a3;rw[q6,d3] at q5;rw[q6,d3,CU];omega
  refine⟨_,rfl,.sc rfl ⟨_,rfl,aA (λ_=>?_) (λ_=>?_)⟩⟩
  ·refine⟨_,rfl,.inl ⟨rfl,_,.of l7⟩,_,rfl,aD ⟨l,_,_,e,_,rfl,rfl,l7,by omega,by omega,(lQ (M c e A)).1,by rw[BM,a3];rfl,?_⟩⟩;rw[si];have q1:=tz c e;have q2:(c.eraseIdx e).length<=c.length:=List.length_eraseIdx_le ..;have q3:bp (c.eraseIdx e)+(c.eraseIdx e).length<=2 * z.length+10:=by omega
   dsimp only;exact rest _ _ ⟨_,rfl,af,q3,v7.upd (Ne.symm g),b7.at T⟩
  refine⟨_,rfl,.sc rfl ⟨_,rfl,aA (λ_=>?_) (λ_=>?_)⟩⟩
  ·refine⟨_,rfl,.inl ⟨rfl,_,.of l7⟩,_,rfl,_,rfl,_,rfl,.lst (.of l7) a4 (aD ⟨l,_,_,y,_,rfl,rfl,rfl,l7,by rw[N];omega,by rw[N];omega,?_⟩)⟩;rw[qh];have q3:bp (c.take y++R::c.drop y)+(c.take y++R::c.drop y).length<=2 * z.length+10:=by rw[qt,pV];omega
   dsimp only;exact rest _ _ ⟨_,rfl,af,q3,v7.upd (Ne.symm g),b7.at T⟩
  refine⟨_,rfl,.sc rfl ⟨_,rfl,aA (λ_=>?_) (λ_=>?_)⟩⟩
  ·refine⟨_,rfl,_,rfl,.lst (.of l7) b0 ⟨_,rfl,_,rfl,.lst (.of l7) a4 (aD ⟨(szl 2),λt ht=>?_⟩)⟩⟩;refine nw ht λH8 s8 U=>?_;have el:=s8 _ _ l7;have v8:=eI s8 v7;have b8:=b7.trans (But.of_same s8);refine⟨t,_,rfl,.of U,rfl,_,_,rfl,⟨_,rfl,_,rfl,.lst (j:=e) el (M c e A) ?_⟩⟩;rw[fg];refine⟨_,_,rfl,⟨_,rfl,_,rfl,.lst (j:=y) af (M (c.set e G) y (by rw[CU];exact a6)) ?_⟩⟩;rw[fg];have g3:(c.set e G)[y]? = some G:=by
    rw[List.getElem?_set];by_cases q:e=y
    ·rw[if_pos q,if_pos A]
    ·rw[if_neg q];exact c5
   have q1:=ii c e G R a3;have q2:=ii (c.set e G) y R G g3;have q3:((c.set e G).set y R).length=c.length:=by rw[CU,CU]
   have q4:bp ((c.set e G).set y R)+((c.set e G).set y R).length<=2 * z.length+10:=by omega
   exact⟨rfl,rest _ _ ⟨_,rfl,af,q4,(v8.upd (Ne.symm g)).upd (Ne.symm g),(b8.at T).at T⟩⟩
  refine⟨_,rfl,.sc rfl ⟨_,rfl,aA (λ_=>?_) (λ_=>?_)⟩⟩
  ·refine⟨_,rfl,_,rfl,_,rfl,_,_,rfl,Or.inl ⟨_,.of e7,rfl⟩,aD ⟨p,a,_,rfl,hP.but b7 v7,by rw[Y];omega,by rw[Y];omega,λr8 H8 c0 c1 v8 U=>?_⟩⟩;obtain⟨Z,rfl⟩:=Cc c0;have a8:Z<us.length:=by rw[Y] at c1;omega
   have b8:=b7.trans (But.of_eq U);have n8:=d2 _ (CK a8);refine .lst (.of ((U lu c6).trans e7)) (v:=.str us[Z]) (bj (by rw[BM,BV a8];rfl)) ?_;generalize us[Z]=nw at n8;have l8:=(U l g).trans l7;have w8:=(U D C).trans w7;refine⟨_,rfl,_,rfl,_,rfl,_,_,rfl,Or.inl ⟨_,.of w8,rfl⟩,aD ⟨p,a,_,rfl,hP.but b8 v8,by rw[I];omega,by rw[I];omega,λr9 H9 d0 d1 v9 W=>?_⟩⟩;obtain⟨O,rfl⟩:=Cc d0;have S:O<i.length:=by rw[I] at d1;omega
   have b9:=b8.trans (But.of_eq W);have l9:=(W l g).trans l8;have w9:=(W D C).trans w8;refine .lst (j:=O) w9 (M i O S) ?_;rw[fg];have lA:upd H9 D (.lst (List.map V.str (i.set O nw))) l=some (.lst (List.map V.str c)):=by rw[ah (Ne.symm c4)];exact l9
   obtain⟨g1,g2⟩:=a2 _ (i.set O nw) nw af lA (lD i O nw) (by rw[CU];omega) (by omega);refine⟨rfl,_,rfl,aD ⟨" ",D,i.set O nw,rfl,rfl,af,g1,?_⟩⟩;refine⟨_,rfl,_,rfl,.lst (j:=e) lA (M c e A) ?_⟩;rw[fg];exact rest _ _ ⟨_,rfl,af,g2,(v9.upd (Ne.symm C)).upd (Ne.symm g),(b9.at a7).at T⟩
  refine⟨_,rfl,.sc rfl ⟨_,rfl,aA (λ_=>?_) (λ_=>?_)⟩⟩
  ·refine⟨_,rfl,.inl ⟨rfl,_,.of w7⟩,_,rfl,_,rfl,_,_,rfl,Or.inl ⟨_,.of w7,rfl⟩,.int (aD ⟨p,a,_,rfl,hP.but b7 v7,by rw[I];omega,by rw[I];omega,λr8 H8 c0 c1 v8 U=>?_⟩)⟩;obtain⟨Z,rfl⟩:=Cc c0;have a8:Z<=i.length:=by rw[I] at c1;omega
   have b8:=b7.trans (But.of_eq U);have l8:=(U l g).trans l7;have w8:=(U D C).trans w7;have u8:=(U lu c6).trans e7;refine⟨_,rfl,_,rfl,_,rfl,_,_,rfl,Or.inl ⟨_,.of u8,rfl⟩,aD ⟨p,a,_,rfl,hP.but b8 v8,by rw[Y];omega,by rw[Y];omega,λr9 H9 d0 d1 v9 W=>?_⟩⟩;obtain⟨O,rfl⟩:=Cc d0;have S:O<us.length:=by rw[Y] at d1;omega
   have b9:=b8.trans (But.of_eq W);have l9:=(W l g).trans l8;have w9:=(W D C).trans w8;have n9:=d2 _ (CK S);refine .lst (.of ((W lu c6).trans u8)) (v:=.str us[O]) (bj (by rw[BM,BV S];rfl)) ?_;generalize us[O]=nw at n9;refine aD ⟨D,_,_,Z,_,rfl,rfl,rfl,w9,by rw[I];omega,by rw[I];omega,?_⟩;rw[qh];have lA:upd H9 D (.lst (List.map V.str (i.take Z++nw::i.drop Z))) l=some (.lst (List.map V.str c)):=by rw[ah (Ne.symm c4)];exact l9
   obtain⟨g1,g2⟩:=a2 _ (i.take Z++nw::i.drop Z) nw af lA (by rw[qt];exact BB _) (by rw[pV];exact BB _) (by omega);refine⟨rfl,_,rfl,aD ⟨" ",D,i.take Z++nw::i.drop Z,rfl,rfl,af,g1,?_⟩⟩;refine⟨_,rfl,_,rfl,.lst (j:=e) lA (M c e A) ?_⟩;rw[fg];exact rest _ _ ⟨_,rfl,af,g2,(v9.upd (Ne.symm C)).upd (Ne.symm g),(b9.at a7).at T⟩
  ·refine⟨(szl 8),λlz c9=>?_⟩;have s8:=Same.new (o:=.lst (List.map V.str ["top","group","tie","wait","first","last","","Top"])) c9;have U:upd H7 lz (.lst (List.map V.str ["top","group","tie","wait","first","last","","Top"])) lz=some (.lst (List.map V.str ["top","group","tie","wait","first","last","","Top"])):=af;have d6:lz≠p:=Ne.symm (v7.ne c9);have l8:=s8 _ _ l7;have w8:=s8 _ _ w7;have v8:=eI s8 v7;have b8:=b7.trans (But.of_same s8);generalize h8:upd H7 lz (.lst (List.map V.str ["top","group","tie","wait","first","last","","Top"]))=H8 at s8 U l8 w8 v8 b8;have d7:upd H7 lz (.lst [V.str "top",V.str "group",V.str "tie",V.str "wait",V.str "first",V.str "last",V.str "",V.str "Top"])=H8:=h8;rw[d7];refine⟨_,rfl,p,a,8,rfl,hP.but b8 v8,by decide,by decide,λr9 H9 d0 d1 v9 W=>?_⟩;obtain⟨O,rfl⟩:=Cc d0;have b9:=b8.trans (But.of_eq W);have l9:=(W l g).trans l8;have w9:=(W D C).trans w8;have S:O<(["top","group","tie","wait","first","last","","Top"]:LS).length:=by show O<8;omega
   have n9:(["top","group","tie","wait","first","last","","Top"]:LS)[O].length<=5:=(show ∀s∈(["top","group","tie","wait","first","last","","Top"]:LS),s.length<=5 by decide +kernel) _ (CK S);refine .lst (.of ((W lz d6).trans U)) (v:=.str (["top","group","tie","wait","first","last","","Top"]:LS)[O]) (bj (by rw[BM,BV S];rfl)) ?_;generalize (["top","group","tie","wait","first","last","","Top"]:LS)[O]=nw at n9;refine⟨_,rfl,.lst (j:=0) w9 (M i 0 c7) ?_⟩;rw[fg];have lA:upd H9 D (.lst (List.map V.str (i.set 0 nw))) l=some (.lst (List.map V.str c)):=by rw[ah (Ne.symm c4)];exact l9
   obtain⟨g1,g2⟩:=a2 _ (i.set 0 nw) nw af lA (lD i 0 nw) (by rw[CU];omega) (by omega);refine⟨rfl,_,rfl,aD ⟨" ",D,i.set 0 nw,rfl,rfl,af,g1,?_⟩⟩;refine⟨_,rfl,_,rfl,.lst (j:=e) lA (M c e A) ?_⟩;rw[fg];exact rest _ _ ⟨_,rfl,af,g2,(v9.upd (Ne.symm C)).upd (Ne.symm g),(b9.at a7).at T⟩
 ·rintro σ H9 ⟨L,rfl,d9,bd,v9,b9⟩;have jl:=join_le L;refine⟨rfl,_,rfl,aD ⟨"\n",l,L,rfl,rfl,d9,?_,k _ _ (by omega) v9 b9⟩⟩;rw[d8];show bp L+L.length * 1<=_;omega
theorem FnOk.down {k:Nat}{f:Addr}{fd:FuncData}{ps:LS}{sp:Sp}(F:FnOk P w K mg base (CX1 P w) k f fd ps sp):FnOk P w K mg base CX0 k f fd ps (λG H Q _ => sp G H Q λ_ _ _ => False) :=
 ⟨λG H Q E h=>F.len G H Q _ h,λA b s H c d G Q E m g n i j=>codeAny_mono (F.run A b s H c d G Q (λ_ _ _=>False) m g n i j) λr o h=>by
  cases r with
  | ok fl=>cases fl <;> exact h
  | error e =>
   obtain⟨a,l,p,B,q,_,_,_,_,_,_,_,_,_,_,z⟩:=h;exact z.elim⟩
theorem za {X:Cx}(K:W.Frag) {e:Expr}{ta:TE}{f:Str}{pos:Pos}(he:PE X e ta) (b:attributeBase e f X.env (eval e X.env)=eval e X.env) (a:X.K=K:=by rfl):PE X (.Attribute e f pos) (xE K ta f):=by
 subst a;exact yS he b
theorem ua {α:Type}{R:α->α->Prop}:∀ {l:List α},(∀a∈l,∀b∈l,R a b)->l.Pairwise R
 | [],_=>.nil
 | a::l,h=>.cons (λb hb=>h a (Cr ..) b (BQ _ hb)) (ua λa ha b hb=>h a (BQ _ ha) b (BQ _ hb))
theorem eY {α:Type}{f:α->LS}{p:LS->Bool}{l:List α}(h:∀a∈l,p (f a)=false):(l.map f).filter p=[]:=by
 rw[List.filter_eq_nil_iff];intro r c;obtain⟨a,b,rfl⟩:=BE.mp c;rw[h a b];decide
theorem ky {α:Type}{f:α->LS}{p:LS->Bool}{l:List α}(h:∀a∈l,p (f a)=true):(l.map f).filter p=l.map f:=by
 rw[List.filter_eq_self];intro r c;obtain⟨a,b,rfl⟩:=BE.mp c;exact h a b
theorem flt {c:LS}{kr:Kn}{ts ws wn:Prs}(p:LS->Bool) (h:p (fH ((("":Str),c)))=false):(aR ((("":Str),c)::kr) ts ws wn).filter p=(kr.map dA).filter p++((ts.map eU).filter p++((ws.map dW).filter p++(wn.map eM).filter p)):=by
 rw[gv,CA,CA,CA,CA,Cv,Dm,h]
 rfl
theorem tJ {c:LS}{kr:Kn}{ts ws wn:Prs}(n:∀e∈wn,e.1="first"∨e.1="last"):(aR ((("":Str),c)::kr) ts ws wn).filter (λr=>decide (hd r="group"))=kr.map dA:=by
 rw[flt _ (BL (show ("top":Str)≠"group" by decide)),ky λk _=>BI rfl,eY λk _=>BL (show ("tie":Str)≠"group" by decide),eY λk _=>BL (show ("wait":Str)≠"group" by decide),eY λe a=>BL (show e.1≠("group":Str) by rcases n e a with z | z <;> rw[z] <;> decide)];simp
theorem yu {c:LS}{kr:Kn}{ts ws wn:Prs}(n:∀e∈wn,e.1="first"∨e.1="last"):(aR ((("":Str),c)::kr) ts ws wn).filter (λr=>decide (hd r="tie"))=ts.map eU:=by
 rw[flt _ (BL (show ("top":Str)≠"tie" by decide)),eY λk _=>BL (show ("group":Str)≠"tie" by decide),ky λk _=>BI rfl,eY λk _=>BL (show ("wait":Str)≠"tie" by decide),eY λe a=>BL (show e.1≠("tie":Str) by rcases n e a with z | z <;> rw[z] <;> decide)];simp
theorem wb {c:LS}{kr:Kn}{ts ws wn:Prs}(n:∀e∈wn,e.1="first"∨e.1="last"):(aR ((("":Str),c)::kr) ts ws wn).filter (λr=>decide (hd r="wait"))=ws.map dW:=by
 rw[flt _ (BL (show ("top":Str)≠"wait" by decide)),eY λk _=>BL (show ("group":Str)≠"wait" by decide),eY λk _=>BL (show ("tie":Str)≠"wait" by decide),ky λk _=>BI rfl,eY λe a=>BL (show e.1≠("wait":Str) by rcases n e a with z | z <;> rw[z] <;> decide)];simp
theorem vK {c:LS}{kr:Kn}{ts ws wn:Prs}(n:∀e∈wn,e.1="first"∨e.1="last"):(aR ((("":Str),c)::kr) ts ws wn).filter (λr=>decide (hd r∈(["first","last"]:LS)))=wn.map eM:=by
 rw[flt _ (BL (show ("top":Str)∉(["first","last"]:LS) by decide)),eY λk _=>BL (show ("group":Str)∉(["first","last"]:LS) by decide),eY λk _=>BL (show ("tie":Str)∉(["first","last"]:LS) by decide),eY λk _=>BL (show ("wait":Str)∉(["first","last"]:LS) by decide),ky λe a=>BI (show e.1∈(["first","last"]:LS) by rcases n e a with z | z <;> rw[z] <;> decide)];simp
structure Fol (rows:List (LS)):Prop where
 top:∀r,rows[0]? = some r->hd r="top"
 pw:rows.Pairwise λa b=>hd b≠"top"/\tuB (hd a)<=tuB (hd b)
 rb:∀r∈rows,∃x ns,r=x::ns/\RowB x ns
 few:rows.length<=400
theorem zp {us:LS}{c:LS}{kr:Kn}{ts ws wn:Prs}(u:RowsOk (aR ((("":Str), c) :: kr) ts ws wn)) (n:∀e ∈ wn, e.1="first" ∨ e.1="last"):Fol (aR ((("":Str), c) :: kr) ts ws wn) := by
 have t:∀r∈kr.map dA,hd r≠"top"/\tuB (hd r)=1:=λr f=>by obtain⟨k,_,rfl⟩:=BE.mp f;exact⟨by show ("group":Str)≠"top";decide,by show tuB "group"=1;decide⟩
 have s:∀r∈ts.map eU,hd r≠"top"/\tuB (hd r)=2:=λr f=>by obtain⟨k,_,rfl⟩:=BE.mp f;exact⟨by show ("tie":Str)≠"top";decide,by show tuB "tie"=2;decide⟩
 have p:∀r∈ws.map dW,hd r≠"top"/\tuB (hd r)=3:=λr f=>by obtain⟨k,_,rfl⟩:=BE.mp f;exact⟨by show ("wait":Str)≠"top";decide,by show tuB "wait"=3;decide⟩
 have o:∀r∈wn.map eM,hd r≠"top"/\tuB (hd r)=4:=λr f=>by
  obtain⟨e,v,rfl⟩:=BE.mp f;show e.1≠("top":Str)/\tuB e.1=4;rcases n e v with z | z <;> rw[z] <;> decide
 have one:∀ {l:List (LS)} {m:Nat},(∀r∈l,hd r≠"top"/\tuB (hd r)=m)->l.Pairwise λa b=>hd b≠"top"/\tuB (hd a)<=tuB (hd b):=λ{l m} h=>ua λa i b d=>⟨(h b d).1,by rw[(h a i).2,(h b d).2];exact BB _⟩
 refine⟨λr f=>?_,?_,λr f=>?_,u.few⟩
 ·have f:some (fH ((("":Str),c)))=some r:=f;cases f
  rfl
 ·rw[gv];refine DL.mpr ⟨List.pairwise_singleton _ _,DL.mpr ⟨one t,DL.mpr ⟨one s,DL.mpr ⟨one p,one o,?_⟩,?_⟩,?_⟩,?_⟩
  ·intro a i b d;exact⟨(o b d).1,by rw[(p a i).2,(o b d).2];decide⟩
  ·intro a i b d;rcases BR.mp d with d | d
   ·exact⟨(p b d).1,by rw[(s a i).2,(p b d).2];decide⟩
   ·exact⟨(o b d).1,by rw[(s a i).2,(o b d).2];decide⟩
  ·intro a i b d;rcases BR.mp d with d | d
   ·exact⟨(s b d).1,by rw[(t a i).2,(s b d).2];decide⟩
   rcases BR.mp d with d | d
   ·exact⟨(p b d).1,by rw[(t a i).2,(p b d).2];decide⟩
   ·exact⟨(o b d).1,by rw[(t a i).2,(o b d).2];decide⟩
  ·intro a i b d;rw[Cb.mp i];refine⟨?_,by show tuB "top"<=_;exact Cg _⟩;rcases BR.mp d with d | d
   ·exact(t b d).1
   rcases BR.mp d with d | d
   ·exact(s b d).1
   rcases BR.mp d with d | d
   ·exact(p b d).1
   ·exact(o b d).1
 ·have q:=u.nm r f;have j:=u.len r f;rw[gv] at f;rcases BR.mp f with f | f
  ·rw[Cb.mp f] at q j ⊢;have j:c.length+1<=62:=j;exact⟨"top",c,rfl,by decide,Cg _,(λm z=>by have z:hiB "top"=some m:=z;exact absurd z (by rw[show hiB "top"=none by decide];intro z;cases z)),λw g=>q w (BQ _ g)⟩
  rcases BR.mp f with f | f
  ·obtain⟨k,_,rfl⟩:=BE.mp f;unfold dA at q j;rw[BN] at j;refine⟨"group",k.1::k.2,rfl,by decide,?_,(λm z=>absurd z (by rw[show hiB "group"=none by decide];intro z;cases z)),λw g=>q w (BQ _ g)⟩;rw[show loB "group"=1 by decide,BN];omega
  rcases BR.mp f with f | f
  ·obtain⟨k,_,rfl⟩:=BE.mp f;exact⟨"tie",[k.1,k.2],rfl,by decide,(show 2<=2 from BB _),(λm z=>by rw[show hiB "tie"=some 2 by decide] at z;cases BD z;exact BB _),λw g=>q w (BQ _ g)⟩
  rcases BR.mp f with f | f
  ·obtain⟨k,_,rfl⟩:=BE.mp f;exact⟨"wait",[k.1,k.2],rfl,by decide,(show 2<=2 from BB _),(λm z=>by rw[show hiB "wait"=some 2 by decide] at z;cases BD z;exact BB _),λw g=>q w (BQ _ g)⟩
  ·obtain⟨e,v,rfl⟩:=BE.mp f;have g:=n e v;refine⟨e.1,[e.2],rfl,by rcases g with z | z <;> rw[z] <;> decide,(by show loB e.1<=1;rcases g with z | z <;> rw[z] <;> decide),(λm z=>?_),λw g=>q w (BQ _ g)⟩;have:hiB e.1=some 1:=by rcases g with z | z <;> rw[z] <;> decide
   rw[this] at z;cases BD z;exact BB _
theorem Fol.good {rows:List (LS)}(F:Fol rows):eK rows:=λi d=>by
 obtain⟨r,a⟩:∃r,rows[i]? = some r:=⟨_,BV d⟩
 obtain⟨x,g,rfl,f⟩:=F.rb r (BG a);refine⟨x,g,a,f,?_⟩;cases i with
 | zero=>exact F.top _ a
 | succ j =>
  have b:j<rows.length:=by omega
  have c:=List.pairwise_iff_getElem.mp F.pw j (j+1) b d (by omega);rw[(BF.mp a).2] at c;rw[if_neg (by omega)];have e:rows.getD (j+1-1) []=rows[j]:=by rw[show j+1-1=j by omega,Cs,BV b];rfl
  rw[e];exact c
theorem ik {α β:Type}{f:α->β}{g:β->α}{l:List α}(h:∀a,g (f a)=a):(l.map f).map g=l:=by
 rw[Cn];exact(CZ λa _=>h a).trans (List.map_id _)
theorem pD {c:LS}{kr:Kn}{ts ws wn:Prs}(n:∀e ∈ wn, e.1="first" ∨ e.1="last") :
    ksP (aR ((("":Str),c)::kr) ts ws wn)=(("":Str),c)::kr/\prP "tie" (aR ((("":Str),c)::kr) ts ws wn)=ts/\prP "wait" (aR ((("":Str),c)::kr) ts ws wn)=ws/\wnP (aR ((("":Str),c)::kr) ts ws wn)=wn:=by
 refine⟨?_,?_,?_,?_⟩
 ·have e:krP (aR ((("":Str),c)::kr) ts ws wn)=kr:=by
     unfold krP;rw[tJ n];exact ik λk=>rfl
  unfold ksP;rw[e]
  rfl
 ·unfold prP;rw[yu n];exact ik λk=>rfl
 ·unfold prP;rw[wb n];exact ik λk=>rfl
 ·unfold wnP;rw[vK n];exact ik λk=>rfl
theorem pJ {rows:List (LS)}(R:RowsOk rows) (n:rows≠[]):aN (bZ rows)=rows:=by
 unfold aN;rw[pF R n,Cn];exact(CZ λr a=>sR (R.nm r a) (R.ne r a)).trans (List.map_id _)
theorem yZ (z:Str):bZ (aN z)=z:=by
 unfold bZ aN;rw[Cn];have e:(Txt.split z "\n").map (di ∘ λl=>Txt.split l " ")=Txt.split z "\n":=(CZ λl _=>by
  show Txt.join " " (Txt.split l " ")=l;rw[eQ,jN,StrLaws.join_split]).trans (List.map_id _)
 rw[e,eQ,fQ,StrLaws.join_split]
def HsZ (rows:List (LS)):Prop:=gY (ksP rows) (prP "tie" rows) (prP "wait" rows) (wnP rows)
theorem yp {us:LS}{ks:Kn}{ts ws wn:Prs}(G:FrH us ks ts ws wn) (D:GdH ks ts wn ws):aN (bZ (aR ks ts ws wn))=aR ks ts ws wn/\eK (aR ks ts ws wn)/\ksP (aR ks ts ws wn)=ks/\prP "tie" (aR ks ts ws wn)=ts/\prP "wait" (aR ks ts ws wn)=ws/\wnP (aR ks ts ws wn)=wn/\HsZ (aR ks ts ws wn):=by
 have d:=jo G;obtain⟨c,kr,rfl,i⟩:=ku G.T G.hdn;have a:∀e∈wn,e.1="first"∨e.1="last":=λe h=>(G.wf.ok e h).1;have b:aR ((("":Str),c)::kr) ts ws wn≠[]:=by rw[gv];simp
 obtain⟨p1,p2,g,f⟩:=pD (c:=c) (kr:=kr) (ts:=ts) (ws:=ws) a;refine⟨pJ d b,(zp (us:=us) d a).good,p1,p2,g,f,?_⟩;unfold HsZ;rw[p1,p2,g,f];exact⟨⟨us,G⟩,D⟩
def LRh (z:Str) (r:V):Prop:=(eK (aN z)/\HsZ (aN z)/\r=.int (-1))∨(eK (aN z)/\¬ HsZ (aN z)/\r=.int (-2))∨∃n:Nat,r=.int n/\FBr (aN z) n
def lM:Sp:=λvs H Q _=>∃z:Str,vs=[.str z]/\z.length<=5000000/\∀r H',Same H H'->LRh z r->Q r H'
theorem wy {f:Addr}{fd:FuncData}{I:Str->Addr}(F:Fun K "_law_line" "_law_line" xz f fd) (B:Blt mg) (m:Errs K mg base I vJ rm) (J:∃bm,XAt base (I "NoHouse") bm/\bm.contains (.type "BaseException")=true/\(Value.ref (I "NoHouse")::bm).contains (.ref (I "NoText"))=false) (G:XGet K (I "NoText") "line") (b:CalX P w K mg base 8 "read_house" ["text"] (kZ I)):FnOk P w K mg base CX0 9 f fd ["_law_text_here"] lM:=by
 refine F.ok1 ["_law_text_here","_law_line_here","e"] λl H Q E M h=>?_;obtain⟨z,rfl,D,k⟩:=h;obtain⟨p,u,t,_⟩:=m.at_ "NoText" (by decide);obtain⟨r,c,j,y⟩:=J;refine⟨_,(aa (pst 1 l (gn fG ac))
  (aa (yh (i:=2) (λ_ _ _=>(ae (bh (yd b (M.mono (by decide)) rfl (p1 (pv 0)))))) rfl rfl rfl (m.b "NoText" (by decide)) u t rfl (m.b "NoHouse" (by decide)) c j l rfl rfl (λ_ _=>(ae (pst 1 l (za K (pv 2) rfl)))) (λ_ _=>(ae (pst 1 l (gn fG ac)))))
  (ae (ai (pv 1))))),?_⟩
 refine⟨_,rfl,?_⟩;refine⟨_,rfl,aD ⟨rfl,z,rfl,D,λg A q x e _=>?_,λg C x e=>?_,λn d x L e O hd=>?_⟩⟩
 ·exact⟨_,rfl,k _ _ e (.inl ⟨g,A,rfl⟩)⟩
 ·exact⟨I "NoHouse",r,rfl,c,.inr ⟨y,by simp,⟨_,rfl,⟨_,rfl,k _ _ e (.inr (.inl ⟨g,C,rfl⟩))⟩⟩⟩⟩
 ·refine⟨I "NoText",p,rfl,u,.inl ⟨by simp,λa v=>?_⟩⟩;have N:=e.trans (Same.new (o:=nA a (I "NoText") (some d)) v);have s:d≠a:=ao hd v;refine⟨_,rfl,a,I "NoText",d,_,.int n,rfl,af,by rw[ah s];exact hd,rfl,m.f "NoText" (by decide),G,?_⟩;exact⟨_,rfl,k _ _ N (.inr (.inr ⟨n,rfl,L⟩))⟩
theorem iT {rows:List (LS)}{m i:Nat}(h:i<m):fL (rows.take m) i ↔ fL rows i:=by
 have e:∀j,j<m->(rows.take m)[j]? = rows[j]?:=λj b=>by rw[List.getElem?_take,if_pos b]
 unfold fL;rw[e i h];by_cases a:i=0
 ·rw[if_pos a,if_pos a]
 ·rw[if_neg a,if_neg a,Cs,Cs,e (i-1) (by omega)]
theorem rQ {rows:List (LS)}{m:Nat}(h:∀i,i<m->fL rows i):eK (rows.take m):=λi a=>by
 rw[Ch] at a;exact(iT (by omega)).mpr (h i (by omega))
def qz:Sp:=λvs H Q _=>∃z:Str,vs=[.str z]/\z.length<=5000000/\∀H',Same H H'->Q (.bl true) H'
theorem yD {H:Hp}{t:Str}{Q:VK}(q:Q (.bl true) H):EqR false H (.str t) (.str t) Q:=.sc rfl (by rw[if_neg (by decide),BI rfl];exact q)
abbrev qy (ec:Str->Addr):Sp:=λvs H Q _=>kZ ec vs H Q λ_ _ _=>False
abbrev wG (ec:Str->Addr):Sp:=λvs H Q _=>iN ec vs H Q λ_ _ _=>False
theorem wC {f:Addr}{fd:FuncData}{ec:Str->Addr}(F:Fun K "_law_right" "_law_right" sS f fd) (B:Blt mg) (c:Cal P w K mg base 9 "_law_line" ["_law_text_here"] lM) (s:Cal P w K mg base 8 "read_house" ["text"] (qy ec)) (t:Cal P w K mg base 1 "show_house" ["house"] kX) (u:Cal P w K mg base 6 "is_house" ["thing"] iL) (v:Cal P w K mg base 7 "house_of" ["knots","ties","waiting","wants"] (wG ec)):FnOk P w K mg base CX0 10 f fd ["_law_text_here"] qz:=by
 refine F.ok1 ["_law_text_here","_law_line_here","_law_house_here","_law_anew","_law_lines"] λnd H Q E p h=>?_;obtain⟨z,rfl,hz,k⟩:=h;have b9:8000002<=sizeLine:=by decide
 refine⟨_,(aa (pst 1 nd (pc c p (p1 (pv 0))))
  (aa (aJ (aj (bc p.units) (pv 1) (gn fG ac) (av _)) (ae (ai bN)) aF)
  (aa (aJ (aj (bc p.units) (pv 1) (gn fG ac) (av _)) (aa (pst 2 nd (pc s p (p1 (pv 0))))
  (aa (pst 3 nd (pc v p (au (fC K rfl B (p1 (px K p (pv 2) ac))) (au (fC K rfl B (p1 (px K p (pv 2) ac))) (p2 (fC K rfl B (p1 (px K p (pv 2) ac))) (fC K rfl B (p1 (px K p (pv 2) ac))))))))
  (ae (ai (dh (bS (bc p.units) (pc t p (p1 (pv 2))) (pv 0) (av _)) (dh (bS oY (pc u p (p1 (pv 2))) bN (av _)) (dZ (bS (bc p.units) (tP p.gd p.units B (p1 (pv 3))) (tP p.gd p.units B (p1 (pv 2))) (av _))))))))) aF)
  (aa (pst 4 nd (gu K (pv 0) (p1 aw)))
  (aa (aJ (PW.pt (dt (bI (eJ K "bool" B (p2 (pv 1) (zN B)))) (dt (bH (bI (eJ K "int" B (p2 (pv 1) (AZ B))))) (cT (bH (vS iZ dO ac (pv 1) (aQ K B (p1 (pv 4))))))))) (ae (ai bN)) aF)
  (aa (aJ (PW.pt (cR (aj eZ (pv 1) ac (av _)) (cA (aj xx (pc c p (p1 (eG K aw (p1 (bG (fK K) (pv 4) cp (bE (pv 1))))))) ac (av _))))) (ae (ai bN)) aF)
  (ae (ai (bS (bc p.units) (pc c p (p1 (eG K aw (p1 (bG (fK K) (pv 4) cp (bE (aH aK (pv 1) ac))))))) (pv 1) (av _)))))))))),?_⟩
 refine⟨_,rfl,aD ⟨z,rfl,hz,λr H1 s1 D=>?_⟩⟩;rcases D with⟨g,hh,rfl⟩ | ⟨g,nh,rfl⟩ | ⟨i,rfl,fb⟩
 ·refine⟨_,rfl,_,rfl,.sc rfl ⟨_,rfl,aA (λh=>absurd h (by decide)) (λ_=>bf ?_)⟩⟩;refine⟨_,rfl,_,rfl,.sc rfl ⟨_,rfl,aA (λ_=>?_) (λh=>absurd (by decide) h)⟩⟩;have G0:=nV (jC z) g (by have:=xH z;omega) (by have:=mh z;omega);have ez:bZ (aR (ksP (aN z)) (prP "tie" (aN z)) (prP "wait" (aN z)) (wnP (aN z)))=z:=by rw[<- qW (jC z) g];exact yZ z
  have I:=hh;obtain⟨⟨us,G⟩,GD⟩:=hh;refine⟨_,rfl,aD ⟨z,rfl,hz,λ_ _ q H2 s2 R2=>?_,λ_ nh=>absurd I nh,λn d H' fb=>absurd (g n fb.1) fb.2.2⟩⟩;have S:=zB G;generalize ksP (aN z)=T at *;generalize prP "tie" (aN z)=U at *;generalize prP "wait" (aN z)=X at *;generalize wnP (aN z)=W at *;have I:gY T U X W:=⟨⟨us,G⟩,GD⟩
  obtain⟨q',a,b,c3,d4,C,hq,R1,a8,R3,R4⟩:=ci R2;cases C;obtain⟨a',ra,C,ha,b6⟩:=cz R1;cases C;obtain⟨b',rb,C,hb,a7⟩:=bo a8;cases C;obtain⟨c',rc,C,hc,b0⟩:=bo R3;cases C;obtain⟨d',rd,C,b2,a9⟩:=bo R4;cases C;refine⟨_,rfl,.tup (.of hq) rfl (aD ⟨_,rfl,.seq (.inr (.of ha)) λl1 h1=>?_⟩)⟩;refine nw h1 λH3 Y e3=>?_;refine⟨_,rfl,.tup (.of (Y _ _ hq)) rfl (aD ⟨_,rfl,.seq (.inr (.of (Y _ _ hb))) λl2 h2=>?_⟩)⟩;refine nw h2 λH4 s4 e4=>?_;have J:=Y.trans s4;refine⟨_,rfl,.tup (.of (J _ _ hq)) rfl (aD ⟨_,rfl,.seq (.inr (.of (J _ _ hc))) λl3 h3=>?_⟩)⟩;refine nw h3 λH5 M e5=>?_;have L:=J.trans M;refine⟨_,rfl,.tup (.of (L _ _ hq)) rfl (aD ⟨_,rfl,.seq (.inr (.of (L _ _ b2))) λl4 h4=>aD ?_⟩)⟩;refine nw h4 λH6 s6 e6=>?_;have A:=L.trans s6;refine⟨l1,l2,l3,l4,ra,rb,rc,rd,T,U,X,W,rfl,.inl ((s4.trans (M.trans s6)) _ _ e3),.inl ((M.trans s6) _ _ e4),.inl (s6 _ _ e5),.inl e6,b6.same A,a7.same A,b0.same A,a9.same A,G0,λ_ q2 H7 s7 R7=>?_,λb1=>absurd I b1⟩;have a1:=A.trans s7;refine⟨_,rfl,q,us,T,U,X,W,rfl,R2.same a1,G,λH8 s8=>⟨_,rfl,.sc rfl ?_⟩⟩;have b3:decide (V.str (bZ (aR T U X W))=V.str z)=true:=BI (by rw[ez]);refine⟨_,rfl,?_⟩;show (if decide (V.str (bZ (aR T U X W))=V.str z)=true then _ else _);rw[b3,if_pos rfl];have a0:=a1.trans s8;refine⟨_,rfl,q,T,U,X,W,rfl,R2.same a0,G0,λH9 s9=>?_⟩;rw[dU I];refine .bl ⟨_,rfl,dm ?_⟩;have a4:=a0.trans s9;have kk:=k _ ((s1.trans s2).trans a4);exact⟨_,rfl,aD ⟨_,rfl,.tr (R7.same (s8.trans s9)) S.sb S.hd S.dp S.ln ⟨_,rfl,aD ⟨_,rfl,.tr (R2.same a4) S.sb S.hd S.dp S.ln (yD kk)⟩⟩⟩⟩
 ·refine⟨_,rfl,_,rfl,.sc rfl ⟨_,rfl,aA (λ_=>?_) (λh=>absurd (by decide) h)⟩⟩;exact k _ s1
 ·have no:∀m:Nat, ¬ decide (V.int ((i:Nat):Int)=V.int (-(m:Int)-1))=true := λm h => by
     have:=V.int.inj (BX h);omega
  refine⟨_,rfl,_,rfl,.sc rfl ⟨_,rfl,aA (λh=>absurd h (no 1)) (λ_=>bf ?_)⟩⟩;refine⟨_,rfl,_,rfl,.sc rfl ⟨_,rfl,aA (λh=>absurd h (no 0)) (λ_=>bf ?_)⟩⟩;refine⟨_,rfl,rfl,_,_,rfl,rfl,by decide,by omega,λl hl=>?_⟩;have b7:z.length+1=bp (Txt.split z "\n")+(Txt.split z "\n").length:=by rw[fQ];exact fm
  have b5:∀l∈Txt.split z "\n",(10:Nat)∉l.cps.toList:=λl hl=>by rw[fQ] at hl;exact SP.split_free z 10 (by decide) l hl
  refine nw hl λH2 s2 e2=>?_;obtain⟨b8,Z,a6⟩:=fb;have er:aN z=(Txt.split z "\n").map λl=>Txt.split l " ":=rfl;generalize aN z=x at *;generalize Txt.split z "\n"=o at *;have rl:x.length=o.length:=by rw[er,BA]
  have a3:(List.map V.str o).length=o.length:=BA ..;have jn:∀m,1<=m->m<=o.length->(Txt.join "\n" (o.take m)).length<=5000000/\aN (Txt.join "\n" (o.take m))=x.take m/\((o.take m).map (·.length)).sum+(o.take m).length * ("\n":Str).length<=16777216:=λm h1 h2=>by
   have q4:("\n":Str).length=1:=by decide +kernel
   have q6:bp (o.take m)<=bp o:=by
    have h:=congrArg bp (CL m o);rw[sum_append] at h;omega
   have q7:(o.take m).length=m:=by rw[Ch];omega
   have ne:o.take m≠[]:=λz=>by rw[z] at q7;simp at q7;omega
   have q8:=jD 10 ne;rw[q7] at q8;refine⟨by rw[eQ,fQ];omega,?_,by rw[q4,q7];show bp (o.take m)+m * 1<=_;omega⟩;unfold aN;rw[eQ,fQ,SP.split_join 10 (by decide) _ ne λw hw=>b5 w (List.mem_of_mem_take hw),er,CY]
  obtain⟨tt,ty,_,t2,t3,_⟩:=ki (K:=K) (H:=H2) (Thg.int (i:Int));refine⟨_,rfl,_,tt,_,rfl,ty,t3,_,rfl,aA (λh=>by cases h) (λ_=>?_)⟩;refine⟨_,rfl,_,tt,_,rfl,ty,t2,_,rfl,aA (λh=>by cases h) (λ_=>?_)⟩;refine⟨_,rfl,.int ⟨_,rfl,aA (λ_=>?_) (λh=>absurd (BI (by omega)) h)⟩⟩;refine⟨_,rfl,_,_,rfl,Or.inl ⟨_,.of e2,rfl⟩,.int ⟨_,rfl,aA (λh=>?_) (λ_=>?_)⟩⟩
  ·exfalso;have h:¬ (i:Int)<((List.map V.str o).length:Nat):=by simpa using h
   rw[a3] at h;omega
  have a5:∀m,m<=o.length->cD (List.map V.str o) none (some ((m:Nat):Int))=List.map V.str (o.take m):=λm hm=>by rw[yq _ _ (by rw[a3];exact hm),CY]
  have b4:=s1.trans s2;refine bf ?_;dsimp only;refine qC (λσ H'=>σ=[some (.str z),some (.int (i:Int)),none,none,some (.ref l)]/\Same H2 H') ?rest λN hN=>?_
  case rest =>
   rintro σ H3 ⟨rfl,Y⟩;obtain⟨j1,j2,j3⟩:=jn (i+1) (by omega) (by omega);refine⟨rfl,_,rfl,_,rfl,.int ⟨_,rfl,.lst (.of (Y _ _ e2)) λlc R=>?_⟩⟩;rw[show ((i:Nat):Int)+1=((i+1:Nat):Int) by omega,a5 (i+1) (by omega)];refine aD ⟨"\n",lc,o.take (i+1),rfl,rfl,af,j3,aD ⟨_,rfl,j1,λr H5 M D=>?_⟩⟩;have y:¬ eK (x.take (i+1)):=λg=>a6 ((iT (by omega)).mp (g i (by rw[Ch];omega)));have O:r=.int (i:Int) := by
    unfold LRh at D;rw[j2] at D;rcases D with⟨g,_⟩ | ⟨g,_⟩ | ⟨j,rfl,f1,f2,f3⟩
    ·exact absurd g y
    ·exact absurd g y
    ·have hj:j=i:=by
        rw[Ch] at f1;by_cases q:j<i
        ·exact absurd ((iT (by omega)).mpr (Z j q)) f3
        ·omega
     rw[hj]
   subst O;refine⟨_,rfl,.sc rfl ?_⟩;show Q (.bl (decide (V.int (i:Int)=V.int (i:Int)))) _;rw[BI rfl];exact k _ (((b4.trans Y).trans (Same.new R)).trans M)
  refine⟨_,rfl,_,_,rfl,rfl,_,rfl,aA (λh=>?_) (λ_=>bM (hN _ _ ⟨rfl,Same.refl _⟩))⟩;have h:0<i:=by
   have:(0:Int)<(i:Int):=BX h;omega
  obtain⟨j1,j2,j3⟩:=jn i h (by omega);refine⟨rfl,_,rfl,_,rfl,_,rfl,.lst (.of e2) λlc R=>?_⟩;rw[a5 i (by omega)];refine aD ⟨"\n",lc,o.take i,rfl,rfl,af,j3,aD ⟨_,rfl,j1,λr H5 M D=>?_⟩⟩;have gd:eK (x.take i):=rQ Z;have O:r=.int (-1)∨r=.int (-2):=by
   unfold LRh at D;rw[j2] at D;rcases D with⟨_,_,e⟩ | ⟨_,_,e⟩ | ⟨j,_,f1,_,f3⟩
   ·exact .inl e
   ·exact .inr e
   ·exact absurd (gd j f1) f3
  have a2:=hN _ _ ⟨rfl,(Same.new R).trans M⟩;rcases O with rfl | rfl
  ·exact⟨_,_,rfl,rfl,_,rfl,bM a2⟩
  ·exact⟨_,_,rfl,rfl,_,rfl,bM a2⟩
def lnB:Nat->Nat
 | 0=>500000
 | n+1=>2 * lnB n+10
def mU (K:W.Frag):Sp:=λvs H Q _=>∃(a:_) (ns:List Int),vs=[.ref a]/\SqL K H a (ns.map V.int)/\∀H',Q (.bl true) H'
theorem zI {f:Addr}{fd:FuncData}{ec:Str -> Addr}(F:Fun K "law" "law" oZ f fd) (B:Blt mg) (t:Cal P w K mg base 1 "_law_pen" ["_law_script"] (xn K)) (b:Cal P w K mg base 1 "_law_draw" ["_law_pen_here", "_law_most"] (dX K)) (e:Cal P w K mg base 3 "_law_units" ["_law_pen_here"] (xF K)) (g:Cal P w K mg base 5 "_law_house" ["_law_pen_here", "_law_units_here", "_law_deep"] (qP K)) (r:Cal P w K mg base 1 "_law_text" ["_law_house_here"] uO)
    (s:Cal P w K mg base 3 "_law_bent" ["_law_pen_here","_law_text_here"] (sU K)) (m:Cal P w K mg base 10 "_law_right" ["_law_text_here"] qz) (o:Cal P w K mg base 9 "_law_line" ["_law_text_here"] lM) (c:Cal P w K mg base 8 "read_house" ["text"] (qy ec)) (l:Cal P w K mg base 1 "show_house" ["house"] kX):FnOk P w K mg base CX0 11 f fd ["_law_script"] (mU K):=by
 refine F.ok1 ["_law_script","_law_pen_here","_law_house_here","_law_text_here","_law_k","_law_bent_here","_law_j"] λS H Q E u h=>?_;obtain⟨a,ns,rfl,hS,k⟩:=h;refine⟨_,(aa (pst 1 S (pc t u (p1 (pv 0))))
  (aa (pst 2 S (pc g u (au (pv 1) (p2 (pc e u (p1 (pv 1))) (aH aK ac (pc b u (p2 (pv 1) ac)))))))
  (aa (pst 3 S (pc r u (p1 (pv 2))))
  (aa (aZ PassesOwn.never rfl (cP rfl B.range (p1 (aH aK ac (pc b u (p2 (pv 1) ac))))) (az (i:=4) S rfl (Or.inl rfl)) (aa (pst 5 S (pv 3))
  (aa (aZ PassesOwn.never rfl (cP rfl B.range (p1 (aH aK ac (pc b u (p2 (pv 1) ac))))) (az (i:=6) S rfl (Or.inl rfl)) (ae (pst 5 S (pc s u (p2 (pv 1) (pv 5))))))
  (ae (aJ (bH (bI (pc m u (p1 (pv 5))))) (ae (ai bN)) aF)))))
  (ae (ai (dh (bS (bc u.units) (pc o u (p1 (pv 3))) (gn fG ac) (av _)) (dZ (bS (bc u.units) (pc l u (p1 (pc c u (p1 (pv 3))))) (pv 3) (av _)))))))))),?_⟩
 refine⟨_,rfl,a,ns,rfl,hS,λp H1 A=>?_⟩;refine⟨_,rfl,_,rfl,p,a,rfl,A,λun us H2 a5 c7 c4 Y a8 b4 v2 b2=>?_⟩;refine⟨_,rfl,p,a,6,rfl,A.but b2 v2,by decide,by decide,λr3 H3 d1 d0 v3 e3=>.int ?_⟩;have N:=But.of_eq e3;have b3:=b2.trans N;refine aD ⟨p,a,un,us,_,rfl,A.but b3 v3,N un _ b4 Y,b4,c7,c4,a5,by omega,λq x y D C H4 R T c6 a3 a7 b0 a6 a9 b5 W a2 tl wl nl v4 a4=>?_⟩;obtain⟨G,GD⟩:=vp T c6 a3 (by omega) a7 b0 a6 a9 b5 W a2 tl wl nl;have b1:=A.but (b3.trans a4) v4;obtain⟨ez,v,p1,p2,p3,p4,I⟩:=yp G GD;have L:=uK (jo G);refine⟨_,rfl,q,us,x,y,D,C,rfl,R,G,λH5 s5=>?_⟩;have v5:=eI s5 v4;have M:=b1.but (But.of_same s5) v5;clear Y a8 v2 v3 v4 b2 b3 N a4 A b1 R a7 a6 b5 W a2 a3 b0 a9 s5;have c3:bZ (aR x y D C)=bZ (aN (bZ (aR x y D C))):=by rw[ez]
 rw[<- ez] at v I;have pq:ksP (aN (bZ (aR x y D C)))=x/\prP "tie" (aN (bZ (aR x y D C)))=y/\prP "wait" (aN (bZ (aR x y D C)))=D/\wnP (aN (bZ (aR x y D C)))=C:=by rw[ez];exact⟨p1,p2,p3,p4⟩
 clear ez p1 p2 p3 p4;generalize c9:bZ (aR x y D C)=z at L v I c3 pq;refine⟨_,rfl,p,a,7,rfl,M,by decide,by decide,λr6 H6 a0 a1 v6 e6=>.int ?_⟩;obtain⟨j6,rfl⟩:=Cc a0;have b6:But p H5 H6:=But.of_eq e6;refine⟨_,rfl,by omega,by omega,?_⟩;rw[show (6+((j6:Nat):Int)).toNat=6+j6 by omega]
 let Z:Nat->St->Hp->Prop:=λi O X=>∃o4 o5 J,O=[some (.ref a),some (.ref p),some (.ref q),some (.str z),o4,o5,J]/\PenV X p a/\But p H5 X
 refine fB (R:=Q) Z ⟨none,none,none,rfl,v6,b6⟩ ?_ ?_
 ·rintro _ i O H7 hi ⟨o4,o5,J,rfl,v7,b7⟩;refine⟨_,rfl,?_⟩;refine⟨_,rfl,p,a,3,rfl,M.but b7 v7,by decide,by decide,λr8 H8 c0 c1 v8 e8=>.int ?_⟩;obtain⟨j8,rfl⟩:=Cc c0;have b8:=b7.trans (But.of_eq e8);refine⟨_,rfl,by omega,by omega,?_⟩;rw[show (1+((j8:Nat):Int)).toNat=1+j8 by omega]
  let c2:Nat->St->Hp->Prop:=λj O X=>∃(U:Str) (J:Option V),O=[some (.ref a),some (.ref p),some (.ref q),some (.str z),some (.int (0+(i:Nat))),some (.str U),J]/\U.length<=lnB j/\PenV X p a/\But p H5 X
  refine fB (R:=Q) c2 ⟨z,J,rfl,L,v8,b8⟩ ?_ ?_
  ·rintro _ j O H9 hj ⟨U,J,rfl,bz,v9,b9⟩;have l2:lnB j<=2200000:=(show ∀j,j<3->lnB j<=2200000 by decide) j (by omega);refine⟨_,rfl,_,rfl,aD ⟨p,a,U,rfl,M.but b9 v9,BP bz l2,λc5 HA hz vA bA=>?_⟩⟩;exact⟨c5,_,rfl,BP hz (Nat.add_le_add_right (Nat.mul_le_mul_left 2 bz) 10),vA,b9.trans bA⟩
  ·rintro O H9 ⟨U,J,rfl,bz,v9,b9⟩;have l3:lnB (1+j8)<=5000000:=(show ∀j,j<4->lnB j<=5000000 by decide) (1+j8) (by omega)
   refine⟨_,rfl,aD ⟨U,rfl,BP bz l3,λHA sA=>⟨_,rfl,bM ?_⟩⟩⟩;exact⟨_,_,_,rfl,eI sA v9,b9.trans (But.of_same sA)⟩
 ·rintro O H7 ⟨o4,o5,J,rfl,v7,b7⟩;refine⟨_,rfl,aD ⟨z,rfl,by omega,λr8 H8 s8 lr=>?_⟩⟩;have c8:r8=.int (-1):=by
   rcases lr with⟨_,_,h⟩ | ⟨_,h,_⟩ | ⟨n,_,f1,_,f3⟩
   ·exact h
   ·exact absurd I h
   ·exact absurd (v n f1) f3
  subst c8;refine⟨_,rfl,.sc rfl ⟨_,rfl,?_⟩⟩;refine aA (λ_=>?_) (λh=>absurd (by decide) h);refine⟨_,rfl,aD ⟨z,rfl,by omega,λ_ _ q2 H9 s9 R9=>?_,λ_ nh=>absurd I nh,λn d X fb=>absurd (v n fb.1) fb.2.2⟩⟩;rw[pq.1,pq.2.1,pq.2.2.1,pq.2.2.2] at R9;refine aD ⟨q2,us,x,y,D,C,rfl,R9,G,λHA sA=>⟨_,rfl,.sc rfl ?_⟩⟩;show Q (.bl (decide (V.str (bZ (aR x y D C))=V.str z))) _;rw[c9,BI rfl];exact k _
theorem gN {K:W.Frag}{a:Addr}{od:Option Addr}{us:LW}{n:Nat}{z:Array (Option Value)}{xs:LV}(l:K.lookup a=some ⟨.type "tuple",od,.seq us.toArray n,z⟩) (b:us.length<=1000) (r:Vals xs us):∀H,SqT K H a xs:=λH =>
 .inr ⟨_,us.toArray,n,l,rfl,rfl,by rw[BY];exact BP b (by decide),by rw[List.toList_toArray];exact r⟩
structure EntV where
 x:Str
 t:Tok
 v:Value
def EntV.e (P:Params) (e:EntV):DictEntry:=⟨PyData.keyHash P e.x,.str e.x e.t,e.v⟩
def EntV.kv (e:EntV):Key × Value:=(.inr e.x,e.v)
theorem qF {P:Program}{w:World}{K:W.Frag}{z:Addr}{ep:Nat}(l:List EntV) (h:K.lookup z=some ⟨.type "dict",none,.dict (l.map (EntV.e w.params)).toArray ep,#[]⟩) (f:(z==sysModules)=false) (d:(l.map (·.x)).Nodup):KD P w K z (l.map EntV.kv):=by
 refine⟨f,_,_,ep,h,⟨rfl,rfl,rfl⟩,rfl,λe c=>?_,?_,?_⟩
 ·have c:e∈l.map (EntV.e w.params):=by simpa using c
  obtain⟨q,_,rfl⟩:=BE.mp c;exact⟨.inr q.x,gZ _ _ _ _,rfl⟩
 ·rw[List.toList_toArray];clear h d
  induction l with
  | nil=>exact .nil
  | cons q r ih=>exact .cons (gZ _ _ _ _) rfl ih
 ·rw[Cn];have e:l.map ((·.1) ∘ EntV.kv)=(l.map (·.x)).map (Sum.inr:Str->Key):=by rw[Cn];rfl
  rw[e];exact List.Pairwise.map _ (λa b n q=>n (Sum.inr.inj q)) d
theorem dB {e:EntV}:∀ {l:List EntV}{i:Nat},(l.map (·.x)).Nodup->l[i]? = some e->valueAt (l.map EntV.kv) (.inr e.x)=some e.v
 | [],_,_,h=>by simp at h
 | q::l,0,_,h=>by
  have h:q=e:=by simpa using h
  subst h;unfold valueAt EntV.kv;rw[BZ,CN];simp
 | q::l,i+1,nd,h=>by
  rw[BZ,Cd] at nd;have h:l[i]? = some e:=by simpa using h
  have ne:q.x≠e.x:=λz=>nd.1 (z ▸ BE.mpr ⟨e,BG h,rfl⟩);have ih:=dB nd.2 h;rw[<- ih];unfold valueAt;rw[BZ,CN];have:decide ((EntV.kv q).1=(Sum.inr e.x:Key))=false:=BL λz=>ne (Sum.inr.inj z);simp only[this]
theorem nG {x:Str}:∀ {l:List EntV},x∉l.map (·.x)->valueAt (l.map EntV.kv) (.inr x)=none
 | [],_=>rfl
 | q::l,h=>by
  rw[BZ,BH,not_or] at h;have ih:=nG (l:=l) h.2;rw[<- ih];unfold valueAt;rw[BZ,CN];have:decide ((EntV.kv q).1=(Sum.inr x:Key))=false:=BL λz=>h.1 (Sum.inr.inj z).symm;simp only[this]
theorem AW {P:Program}{w:World}{K:W.Frag}{DB DT:Addr}{d6 d0:Nat}{Y a0 a7 a4 a2 a3 b1 b6 b3 b4 b2 b5 a1 a9 a5 a8 b0 a6 c4 c0 d4 c9 d1 c3 d7 c8 b8 d2:Tok}{J z G I U O:Addr}{d3 e6 b9 e1 c6 e3:Option Addr}{e5 e7 c1 d9 c2 c7:Nat}{d8 b7 c5 d5 e4 e2:Array (Option Value)}(n:K.lookup DB=some ⟨.type "dict",none,.dict ([⟨PyData.keyHash w.params "top",.str "top" Y,.ref J⟩,⟨PyData.keyHash w.params "group",.str "group" a0,.ref z⟩,⟨PyData.keyHash w.params "tie",.str "tie" a7,.ref G⟩,⟨PyData.keyHash w.params "wait",.str "wait" a4,.ref I⟩,⟨PyData.keyHash w.params "first",.str "first" a2,.ref U⟩,⟨PyData.keyHash w.params "last",.str "last" a3,.ref O⟩]:List DictEntry).toArray d6,#[]⟩) (g:(DB==sysModules)=false) (k:K.lookup DT=some ⟨.type "dict",none,.dict ([⟨PyData.keyHash w.params "top",.str "top" b1,.int 0 a1⟩,⟨PyData.keyHash w.params "group",.str "group" b6,.int 1 a9⟩,⟨PyData.keyHash w.params "tie",.str "tie" b3,.int 2 a5⟩,⟨PyData.keyHash w.params "wait",.str "wait" b4,.int 3 a8⟩,⟨PyData.keyHash w.params "first",.str "first" b2,.int 4 b0⟩,⟨PyData.keyHash w.params "last",.str "last" b5,.int 4 a6⟩]:List DictEntry).toArray d0,#[]⟩) (d:(DT==sysModules)=false) (m:K.lookup J=some ⟨.type "tuple",d3,.seq ([.int 0 c4,.none]:LW).toArray e5,d8⟩) (o:K.lookup z=some ⟨.type "tuple",e6,.seq ([.int 1 c0,.none]:LW).toArray e7,b7⟩) (c:K.lookup G=some ⟨.type "tuple",b9,.seq ([.int 2 d4,.int 2 d7]:LW).toArray c1,c5⟩) (h:K.lookup I=some ⟨.type "tuple",e1,.seq ([.int 2 c9,.int 2 c8]:LW).toArray d9,d5⟩) (j:K.lookup U=some ⟨.type "tuple",c6,.seq ([.int 1 d1,.int 1 b8]:LW).toArray c2,e4⟩) (f:K.lookup O=some ⟨.type "tuple",e3,.seq ([.int 1 c3,.int 1 d2]:LW).toArray c7,e2⟩) :
    ∃vb vt,BT P w K DB DT vb vt:=by
 have a:wdsH.Nodup:=by decide +kernel
 refine⟨_,_,qF [⟨"top",Y,.ref J⟩,⟨"group",a0,.ref z⟩,⟨"tie",a7,.ref G⟩,⟨"wait",a4,.ref I⟩,⟨"first",a2,.ref U⟩,⟨"last",a3,.ref O⟩] n g a,qF [⟨"top",b1,.int 0 a1⟩,⟨"group",b6,.int 1 a9⟩,⟨"tie",b3,.int 2 a5⟩,⟨"wait",b4,.int 3 a8⟩,⟨"first",b2,.int 4 b0⟩,⟨"last",b5,.int 4 a6⟩] k d a,λx b=>?_,λx b=>nG (l:=[⟨"top",Y,.ref J⟩,⟨"group",a0,.ref z⟩,⟨"tie",a7,.ref G⟩,⟨"wait",a4,.ref I⟩,⟨"first",a2,.ref U⟩,⟨"last",a3,.ref O⟩]) b,λx b=>?_⟩
 ·unfold wdsH at b;simp only[BH,CM,or_false] at b;rcases b with rfl | rfl | rfl | rfl | rfl | rfl
  ·exact⟨J,dB (e:=⟨"top",Y,.ref J⟩) (i:=0) a rfl,by rw[show loB "top"=0 by decide,show hiB "top"=none by decide];exact gN m (Do rfl) (.cons ⟨_,rfl⟩ (.cons rfl .nil))⟩
  ·exact⟨z,dB (e:=⟨"group",a0,.ref z⟩) (i:=1) a rfl,by rw[show loB "group"=1 by decide,show hiB "group"=none by decide];exact gN o (Do rfl) (.cons ⟨_,rfl⟩ (.cons rfl .nil))⟩
  ·exact⟨G,dB (e:=⟨"tie",a7,.ref G⟩) (i:=2) a rfl,by rw[show loB "tie"=2 by decide,show hiB "tie"=some 2 by decide];exact gN c (Do rfl) (.cons ⟨_,rfl⟩ (.cons ⟨_,rfl⟩ .nil))⟩
  ·exact⟨I,dB (e:=⟨"wait",a4,.ref I⟩) (i:=3) a rfl,by rw[show loB "wait"=2 by decide,show hiB "wait"=some 2 by decide];exact gN h (Do rfl) (.cons ⟨_,rfl⟩ (.cons ⟨_,rfl⟩ .nil))⟩
  ·exact⟨U,dB (e:=⟨"first",a2,.ref U⟩) (i:=4) a rfl,by rw[show loB "first"=1 by decide,show hiB "first"=some 1 by decide];exact gN j (Do rfl) (.cons ⟨_,rfl⟩ (.cons ⟨_,rfl⟩ .nil))⟩
  ·exact⟨O,dB (e:=⟨"last",a3,.ref O⟩) (i:=5) a rfl,by rw[show loB "last"=1 by decide,show hiB "last"=some 1 by decide];exact gN f (Do rfl) (.cons ⟨_,rfl⟩ (.cons ⟨_,rfl⟩ .nil))⟩
 ·unfold wdsH at b;simp only[BH,CM,or_false] at b;rcases b with rfl | rfl | rfl | rfl | rfl | rfl
  ·exact⟨a1,by rw[show tuB "top"=0 by decide];exact dB (e:=⟨"top",b1,.int 0 a1⟩) (i:=0) a rfl⟩
  ·exact⟨a9,by rw[show tuB "group"=1 by decide];exact dB (e:=⟨"group",b6,.int 1 a9⟩) (i:=1) a rfl⟩
  ·exact⟨a5,by rw[show tuB "tie"=2 by decide];exact dB (e:=⟨"tie",b3,.int 2 a5⟩) (i:=2) a rfl⟩
  ·exact⟨a8,by rw[show tuB "wait"=3 by decide];exact dB (e:=⟨"wait",b4,.int 3 a8⟩) (i:=3) a rfl⟩
  ·exact⟨b0,by rw[show tuB "first"=4 by decide];exact dB (e:=⟨"first",b2,.int 4 b0⟩) (i:=4) a rfl⟩
  ·exact⟨a6,by rw[show tuB "last"=4 by decide];exact dB (e:=⟨"last",b5,.int 4 a6⟩) (i:=5) a rfl⟩
theorem so (m:LV) (H:Hp) (Q:VK) (E:XK) (h:iW m H Q E):gh m H Q E := by
 obtain⟨x,rfl,h⟩:=h;cases h with
 | nm a b k=>exact⟨_,rfl,.nm a b k⟩
 | @pr a refs ps _ h1 h2 h3 k =>
  refine⟨_,rfl,.pr h1 h2 (by omega) λd c r o p s l=>k d c r o p s λe=>?_⟩;rw[<- dM,Dg]
  constructor
  ·rintro⟨f,i,q⟩;have q:=BX q;have g:f.1∈(ba [] ps).map pK:=by rw[<- l];exact BE.mpr ⟨f,i,rfl⟩
   obtain⟨u,j,t⟩:=BE.mp g;have:=uC (t.trans q);subst this;rcases (ft _ _ _).mp j with z | z
   ·cases z
   ·exact z
  ·intro n;have g:pK e∈c.map (·.1):=by rw[l];exact BE.mpr ⟨e,(ft _ _ _).mpr (.inr n),rfl⟩
   obtain⟨f,i,q⟩:=BE.mp g;exact⟨f,i,BI q⟩
theorem ar1 {us:LW}(h:us.length=1):∃a,us=[a]:=List.length_eq_one_iff.mp h
theorem ar2 {us:LW}(h:us.length=2):∃z G,us=[z,G]:=by
 obtain⟨z,t,rfl⟩:=DN h;obtain⟨G,rfl⟩:=ar1 (Nat.succ.inj h);exact⟨z,G,rfl⟩
theorem ar3 {us:LW}(h:us.length=3):∃G I z,us=[G,I,z]:=by
 obtain⟨G,t,rfl⟩:=DN h;obtain⟨I,z,rfl⟩:=ar2 (Nat.succ.inj h);exact⟨G,I,z,rfl⟩
theorem ar4 {us:LW}(h:us.length=4):∃G I z J,us=[G,I,z,J]:=by
 obtain⟨G,t,rfl⟩:=DN h;obtain⟨I,z,J,rfl⟩:=ar3 (Nat.succ.inj h);exact⟨G,I,z,J,rfl⟩
structure FH (K:W.Frag) (mg:Str->Option Value) (n:Str) (st:Stmt) (f:Addr) (fd:FuncData):Prop where
 F:Fun K n n st f fd
 g:mg n=some (.ref f)
theorem fh_mk {K:W.Frag}{h:Heap}{mg:Str->Option Value}{n:Str}{st:Stmt}{f:Addr}{od I:Option Addr}{U:Array (Option Value)}{Y kV J O z ct:Value}(X:K.In h) (G:h.Ns mainGlobals mg) (a:W.nsIn K mainGlobals n=some (some (.ref f)))
    (l:K.lookup f=some ⟨Y,od,.func (W.fnOf n n (dR st) (bX st) (ak st) .none kV J O I z ct),U⟩) (c:W.codeIn K z n=true) (k:W.keepIn K (.ref f)=true) :
    FH K mg n st f (W.fnOf n n (dR st) (bX st) (ak st) .none kV J O I z ct):=⟨sZ l c k,W.mg_of X G a⟩
section
variable {K:W.Frag}{mg:Str->Option Value}{n:Str}{st:Stmt}{f:Addr}{fd:FuncData}{r:Nat}{sp:Sp}
theorem FH.cl (h:FH K mg n st f fd) (l:W.OpenLaw) (w:World) (a:Heap) {ps:LS}(o:FnOk l.prog w K mg a CX0 r f fd ps sp) (b:∀(kV z J:Value) (I:Option Addr) (G ct:Value) (us:LW),us.length=ps.length->bindArgs (W.fnOf n n (dR st) (bX st) (ak st) .none kV z J I G ct) ⟨us,[]⟩=pure (ps.zip us):=by intro _ _ _ _ _ _ us hl;first | (obtain⟨_,rfl⟩:=ar1 hl;rfl) | (obtain⟨_,_,rfl⟩:=ar2 hl;rfl) | (obtain⟨_,_,_,rfl⟩:=ar3 hl;rfl) | (obtain⟨_,_,_,_,rfl⟩:=ar4 hl;rfl)):Cal l.prog w K mg a r n ps sp:=⟨_,_,o,h.g,h.F.kp,h.F.binds b⟩
theorem FH.cx (h:FH K mg n st f fd) (l:W.OpenLaw) (w:World) (a:Heap) {ps:LS}(o:FnOk l.prog w K mg a (CX1 l.prog w) r f fd ps sp) (b:∀(kV z J:Value) (I:Option Addr) (G ct:Value) (us:LW),us.length=ps.length->bindArgs (W.fnOf n n (dR st) (bX st) (ak st) .none kV z J I G ct) ⟨us,[]⟩=pure (ps.zip us):=by intro _ _ _ _ _ _ us hl;first | (obtain⟨_,rfl⟩:=ar1 hl;rfl) | (obtain⟨_,_,rfl⟩:=ar2 hl;rfl) | (obtain⟨_,_,_,rfl⟩:=ar3 hl;rfl) | (obtain⟨_,_,_,_,rfl⟩:=ar4 hl;rfl)):CalX l.prog w K mg a r n ps sp:=⟨_,_,o,h.g,h.F.kp,h.F.binds b⟩
end
theorem all_mk {l:W.OpenLaw}{w:World}{K:W.Frag}{h:Heap}{mg:Str->Option Value}{fa f1 f2 f3 f4 f5 f6 f7 f8 f9 r6 z1 z5 z4 N0 H3 o7 v1 M4 F7 D2 I3 p5 u7 r4 G9 L3 L8 G6 C3 N5 t0 z9 I4 t8 u0 O2 F4 p6 t2 I6 O0 y5 r7 s1 B0 p8 E1 D7 t5 I1 B8 z7 K7 J3 H5 y8:Addr}{d1 d2 d3 d4 d5 d6 d7 d8 d9 w7 J7 z3 p7 w8 F2 K8 C4 s8 B5 J2 I5 K6 v0 q9 E5 v3 C6 N6 x7 F6 B6 M0 E6 q4 v8 v2 x8 G1 J1 x4 N9 t9 E8 w0 s4 G4 C5 J8 z0 A5 H8 o8 J4 s2 r5 H0:FuncData}(X:K.In h) (G:h.Ns mainGlobals mg) (y7:mg "law"=some (.ref fa))
    (h1:FH K mg "is_name" li f1 d1)
    (h2:FH K mg "children" lR f2 d2)
    (h3:FH K mg "parting" ow f3 d3)
    (h4:FH K mg "homes" oV f4 d4)
    (h5:FH K mg "parting_by" ka f5 d5)
    (h6:FH K mg "line_down" mJ f6 d6)
    (h7:FH K mg "nexts" kJ f7 d7)
    (h8:FH K mg "places_of" je f8 d8)
    (h9:FH K mg "are_unlike" kS f9 d9)
    (g8:FH K mg "is_tie_among" oK r6 w7)
    (i2:FH K mg "lists_things" nj z1 J7)
    (n2:FH K mg "is_frame" iy z5 z3)
    (l8:FH K mg "are_knots" fV z4 p7)
    (j0:FH K mg "is_knot" kQ N0 w8)
    (i6:FH K mg "units_in" oC H3 F2)
    (m3:FH K mg "is_below_top" js o7 K8)
    (n7:FH K mg "are_house_ties" fc v1 C4)
    (l9:FH K mg "are_wants" fW M4 s8)
    (l0:FH K mg "is_want" qQ F7 B5)
    (l2:FH K mg "nexts_of_all" ma D2 J2)
    (i3:FH K mg "steps_from" sO I3 I5)
    (g4:FH K mg "is_order" jJ p5 K6)
    (k2:FH K mg "view" xi u7 v0)
    (j8:FH K mg "kept_partings" gk r4 q9)
    (k5:FH K mg "view_by" ia G9 E5)
    (j9:FH K mg "wanted" kO L3 v3)
    (g0:FH K mg "house_of" iA L8 C6)
    (n8:FH K mg "is_house" oH G6 N6)
    (h0:FH K mg "keeps_ties" iq C3 x7)
    (j1:FH K mg "keeps_waiting" iH N5 F6)
    (m4:FH K mg "has_names" iY t0 B6)
    (n1:FH K mg "show_house" eP z9 M0)
    (e9:FH K mg "read_house" fz I4 E6)
    (j3:FH K mg "first_wrong_row" hZ t8 q4)
    (o5:FH K mg "follows" nK u0 v8)
    (n4:FH K mg "behind_word" gX O2 v2)
    (k8:FH K mg "_law_pen" zW F4 x8)
    (m5:FH K mg "_law_draw" xD p6 G1)
    (m1:FH K mg "_law_names" dw t2 J1)
    (j2:FH K mg "_law_tree" ry I6 x4)
    (k3:FH K mg "_law_around" qA O0 N9)
    (j6:FH K mg "_law_path" xG y5 t9)
    (n5:FH K mg "_law_parting" ju r7 E8)
    (l5:FH K mg "_law_edges" nF s1 w0)
    (i9:FH K mg "_law_reached" nS B0 s4)
    (k9:FH K mg "_law_wants" uU p8 G4)
    (n0:FH K mg "_law_kept" xf E1 C5)
    (j4:FH K mg "_law_waiting" nI D7 J8)
    (k0:FH K mg "_law_house" tD t5 z0)
    (l6:FH K mg "_law_units" uS I1 A5)
    (n9:FH K mg "_law_text" xp B8 H8)
    (l4:FH K mg "_law_sign" xt z7 o8)
    (k7:FH K mg "_law_bent" xA K7 J4)
    (i1:FH K mg "_law_line" xz J3 s2)
    (l1:FH K mg "_law_right" sS H5 r5)
    (n6:FH K mg "law" oZ y8 H0)
    (B:Blt mg) (m7:mg "zip"=none)
    {B2:Tok} (y1:W.nsIn K mainGlobals "MOST_SIGNS"=some (some (.int 8 B2)))
    {H7:Tok} (y2:W.nsIn K mainGlobals "MOST_UNITS"=some (some (.int 60 H7)))
    {G5:Tok} (y3:W.nsIn K mainGlobals "MOST_WITHIN"=some (some (.int 6 G5)))
    {I9:Tok} (y4:W.nsIn K mainGlobals "MOST_TIES"=some (some (.int 200 I9)))
    {J z I:Addr} (r1:W.nsIn K mainGlobals "OrderError"=some (some (.ref J))) (r2:W.nsIn K mainGlobals "NoText"=some (some (.ref z))) (r3:W.nsIn K mainGlobals "NoHouse"=some (some (.ref I)))
    (en:W.specialIn K (.builtin "object.__class__") "__get__"=some (some (.builtin "getset_descriptor.__get__"))) (et:W.takesIn K (.builtin "object.__class__")=some true) (ev:W.nsIn K mainGlobals "ValueError"=some none)
    {N1:Addr} {A3 e7 M6:LW} {w4 q1:Str} {D9 M9:Bool} {N7:LS} {u5:Option Bool} {x6:Option Addr} {z2 B9 B7 G0 p0:Option Value}
    (o1:K.lookup J=some (excClassObj w4 q1 J N1 A3 e7 D9 N7 M6 M9 u5 x6 z2 B9 B7 G0 p0 "ValueError.__new__"))
    (u1:W.nsOkIn K N1=true) (L5:W.nsIn K N1 "__init__"=some none) (A4:W.tailIn K [.type "ValueError",.type "Exception",.type "BaseException",.type "object"] e7=true)
    (s0:W.findIn K (.ref J) "__getattribute__"=some (some (.builtin "BaseException.__getattribute__"))) (J6:W.findIn K (.ref J) "__getattr__"=some none) (C1:W.findIn K (.ref J) "__class__"=some (some (.builtin "object.__class__")))
    (O5:W.mroIn K J (.type "object")=some true) (L1:W.mroIn K J (.type "BaseException")=some true) (v4:(W.clsIn K J).isSome=true)
    (p1:e7.contains (.type "BaseException")=true) (G7:(Value.ref J::e7).contains (.ref J)=true) (w1:W.kitOne K (.ref J) (.type "ValueError")=some true)
    {N2:Addr} {I8 e5 s3:LW} {H9 q2:Str} {I2 z6:Bool} {K4:LS} {K1:Option Bool} {L6:Option Addr} {w5 N4 g2 o6 E9:Option Value}
    (o2:K.lookup z=some (excClassObj H9 q2 z N2 I8 e5 I2 K4 s3 z6 K1 L6 w5 N4 g2 o6 E9 "ValueError.__new__"))
    {g3:Addr} {l7 n3:Option Addr} {l3:Array (Option Value)} {i5 k4 g7 g1 i8:Value}
    (u2:W.nsOkIn K N2=true) (y0:W.nsIn K N2 "__init__"=some (some (.ref g3))) (x0:W.tailIn K bmV e5=true)
    (j5:K.lookup g3=some ⟨.type "function",l7,.func (W.fnOf "__init__" "NoText.__init__" (dR eX) (bX eX) (ak eX) .none i5 k4 g7 n3 g1 i8),l3⟩) (F9:W.codeIn K g1 "NoText.__init__"=true) (K0:W.keepIn K (.ref g3)=true) (g2:W.keepIn K (.ref z)=true)
    (r8:W.findIn K (.ref z) "__setattr__"=some (some (.builtin "object.__setattr__"))) (D1:(W.clsIn K z).any (λcd=>mY cd.mro)=true) (M1:W.findIn K (.ref z) "line"=some none) (i0:W.hasDictIn K z=true)
    (A0:W.findIn K (.ref z) "__getattribute__"=some (some (.builtin "BaseException.__getattribute__"))) (w9:W.findIn K (.ref z) "__getattr__"=some none) (O4:W.findIn K (.ref z) "__class__"=some (some (.builtin "object.__class__")))
    (i7:W.mroIn K z (.type "object")=some true) (w6:W.mroIn K z (.type "BaseException")=some true) (t1:(W.clsIn K z).isSome=true)
    (p2:e5.contains (.type "BaseException")=true) (H2:(Value.ref z::e5).contains (.ref J)=true) (w2:W.kitOne K (.ref z) (.type "ValueError")=some true)
    (m0:W.kitOne K (.ref z) (.ref J)=some true) (m2:W.kitOne K (.ref z) (.ref z)=some true) (k6:W.kitOne K (.ref z) (.ref I)=some false)
    {N3:Addr} {G3 d0 C7:LW} {C0 q3:Str} {r9 p9:Bool} {B3:LS} {O1:Option Bool} {B4:Option Addr} {u4 I0 F3 A1 v9:Option Value}
    (o3:K.lookup I=some (excClassObj C0 q3 I N3 G3 d0 r9 B3 C7 p9 O1 B4 u4 I0 F3 A1 v9 "ValueError.__new__"))
    (u3:W.nsOkIn K N3=true) (r0:W.nsIn K N3 "__init__"=some none) (L4:W.tailIn K [.type "ValueError",.type "Exception",.type "BaseException",.type "object"] d0=true)
    (F0:W.findIn K (.ref I) "__getattribute__"=some (some (.builtin "BaseException.__getattribute__"))) (D3:W.findIn K (.ref I) "__getattr__"=some none) (H1:W.findIn K (.ref I) "__class__"=some (some (.builtin "object.__class__")))
    (y9:W.mroIn K I (.type "object")=some true) (M2:W.mroIn K I (.type "BaseException")=some true) (L2:(W.clsIn K I).isSome=true)
    (p3:d0.contains (.type "BaseException")=true) (u6:(Value.ref I::d0).contains (.ref J)=true) (w3:W.kitOne K (.ref I) (.type "ValueError")=some true)
    (m9:W.kitOne K (.ref I) (.ref J)=some true) (m8:W.kitOne K (.ref I) (.ref z)=some false) (o4:W.kitOne K (.ref I) (.ref I)=some true)
    {aW:Addr} {s6:Option Addr} {v5 t3:Tok} {nW:Nat} {y6:Array (Option Value)} (gW:W.nsIn K mainGlobals "WORDS"=some (some (.ref aW))) (lW:K.lookup aW=some ⟨.type "tuple",s6,.seq ([.str "first" v5,.str "last" t3]:LW).toArray nW,y6⟩)
    {DB DT:Addr} {L9 K3:Nat} {o9 I7 M5 E7 D5 L0 E2 M3 E4 s9 E3 F1 x5 M8 z8 M7 u8 A2 q5 p4 s7 x9 K5 J0 t4 K2 v7 D6:Tok} {j7 g5 g6 i4 o0 m6:Addr} {K9 A9 H6 t7 q7 N8:Option Addr} {O3 B1 C2 A7 C8 D0:Nat} {F5 H4 q6 L7 u9 F8:Array (Option Value)} (J5:W.nsIn K mainGlobals "BOUNDS"=some (some (.ref DB))) (J9:W.nsIn K mainGlobals "TURNS"=some (some (.ref DT)))
    (A8:K.lookup DB=some ⟨.type "dict",none,.dict ([⟨PyData.keyHash w.params "top",.str "top" o9,.ref j7⟩,⟨PyData.keyHash w.params "group",.str "group" I7,.ref g5⟩,⟨PyData.keyHash w.params "tie",.str "tie" M5,.ref g6⟩,⟨PyData.keyHash w.params "wait",.str "wait" E7,.ref i4⟩,⟨PyData.keyHash w.params "first",.str "first" D5,.ref o0⟩,⟨PyData.keyHash w.params "last",.str "last" L0,.ref m6⟩]:List DictEntry).toArray L9,#[]⟩) (D4:(DB==sysModules)=false)
    (A6:K.lookup DT=some ⟨.type "dict",none,.dict ([⟨PyData.keyHash w.params "top",.str "top" E2,.int 0 x5⟩,⟨PyData.keyHash w.params "group",.str "group" M3,.int 1 M8⟩,⟨PyData.keyHash w.params "tie",.str "tie" E4,.int 2 z8⟩,⟨PyData.keyHash w.params "wait",.str "wait" s9,.int 3 M7⟩,⟨PyData.keyHash w.params "first",.str "first" E3,.int 4 u8⟩,⟨PyData.keyHash w.params "last",.str "last" F1,.int 4 A2⟩]:List DictEntry).toArray K3,#[]⟩) (q0:(DT==sysModules)=false)
    (G2:K.lookup j7=some ⟨.type "tuple",K9,.seq ([.int 0 q5,.none]:LW).toArray O3,F5⟩)
    (G8:K.lookup g5=some ⟨.type "tuple",A9,.seq ([.int 1 p4,.none]:LW).toArray B1,H4⟩)
    (v6:K.lookup g6=some ⟨.type "tuple",H6,.seq ([.int 2 s7,.int 2 t4]:LW).toArray C2,q6⟩)
    (D8:K.lookup i4=some ⟨.type "tuple",t7,.seq ([.int 2 x9,.int 2 K2]:LW).toArray A7,L7⟩)
    (t6:K.lookup o0=some ⟨.type "tuple",q7,.seq ([.int 1 K5,.int 1 v7]:LW).toArray C8,u9⟩)
    (C9:K.lookup m6=some ⟨.type "tuple",N8,.seq ([.int 1 J0,.int 1 D6]:LW).toArray D0,F8⟩)
    (q8:(Value.ref I::d0).contains (.ref z)=false)
    : ∃fd:FuncData,(∀(s:Shared) (v:Value),BindsTo s fd ⟨[v],[]⟩ [("_law_script",v)])/\∀base:Heap,K.In base->base.Ns mainGlobals mg->FnOk l.prog w K mg base CX0 11 fa fd ["_law_script"] (mU K):=by
 have e:=y7.symm.trans n6.g;cases e;have b0:=W.mg_of X G y1;have b5:=W.mg_of X G y2;have S:=W.mg_of X G y3;have c0:=W.mg_of X G y4;have k1:=n6.F;obtain⟨_,_,kV,dc,pm,an,cd,ct,_,rfl,_,_⟩:=k1.ex;refine⟨W.fnOf "law" "law" (dR oZ) (bX oZ) (ak oZ) .none kV dc pm an cd ct,λs v=>.of_eq rfl,λbase XB GB=>?_⟩;have eN:(["OrderError","NoText","NoHouse"]:LS).Nodup:=by decide +kernel
 have eO:fv ([("OrderError",J),("NoText",z),("NoHouse",I)]:List (Str × Addr)) "OrderError"=J:=hV (ps:=[("OrderError",J),("NoText",z),("NoHouse",I)]) eN ("OrderError",J) (.head _);have Er:Errs K mg base (fv ([("OrderError",J),("NoText",z),("NoHouse",I)]:List (Str × Addr))) vJ rm:=zd (ps:=[("OrderError",J),("NoText",z),("NoHouse",I)]) (cs:=[("OrderError",J),("NoText",z),("NoHouse",I)]) eN (bi (.head _) (bi (.tail _ (.head _)) (bi (.tail _ (.tail _ (.head _))) fF))) (bi (W.mg_of X G r1) (bi (W.mg_of X G r2) (bi (W.mg_of X G r3) fF))) (bi ⟨s0,J6,C1,en,et,O5,L1,v4⟩ (bi ⟨A0,w9,O4,en,et,i7,w6,t1⟩ (bi ⟨F0,D3,H1,en,et,y9,M2,L2⟩ fF))) (show ("OrderError":Str)∈rm by decide +kernel) (bi (λh=>absurd rfl h) (bi (λ_=>(bi (m0.trans (congrArg some (show true=(("OrderError":Str)==("NoText":Str)||("OrderError":Str)==("OrderError":Str)) by decide +kernel))) (bi (m2.trans (congrArg some (show true=(("NoText":Str)==("NoText":Str)||("NoText":Str)==("OrderError":Str)) by decide +kernel))) (bi (k6.trans (congrArg some (show false=(("NoHouse":Str)==("NoText":Str)||("NoHouse":Str)==("OrderError":Str)) by decide +kernel))) fF)))) (bi (λ_=>(bi (m9.trans (congrArg some (show true=(("OrderError":Str)==("NoHouse":Str)||("OrderError":Str)==("OrderError":Str)) by decide +kernel))) (bi (m8.trans (congrArg some (show false=(("NoText":Str)==("NoHouse":Str)||("NoText":Str)==("OrderError":Str)) by decide +kernel))) (bi (o4.trans (congrArg some (show true=(("NoHouse":Str)==("NoHouse":Str)||("NoHouse":Str)==("OrderError":Str)) by decide +kernel))) fF)))) fF))) (bi w1 (bi w2 (bi w3 fF))) (bi ⟨e7,kF XB o1,p1,(by rw[eO];exact G7)⟩ (bi ⟨e5,kF XB o2,p2,(by rw[eO];exact H2)⟩ (bi ⟨d0,kF XB o3,p3,(by rw[eO];exact u6)⟩ fF))) (W.mg_none_of X G ev) (bi (λ_=>ud XB (W.mg_of X G r1) o1 u1 L5 A4) (bi (λh=>absurd (show ("NoText":Str)∈(["NoText","Ring","NoUnit"]:LS) by decide) h) (bi (λ_=>ud XB (W.mg_of X G r3) o3 u3 r0 L4) fF)));have a4:=sZ (st:=eX) j5 F9 K0;have e3:=a4.binds (ps:=["self","line"]) λ_ _ _ _ _ _ us hl=>by obtain⟨_,_,rfl⟩:=ar2 hl;rfl
 have y:fv ([("OrderError",J),("NoText",z),("NoHouse",I)]:List (Str × Addr)) "NoText"=z:=hV (ps:=[("OrderError",J),("NoText",z),("NoHouse",I)]) eN ("NoText",z) (.tail _ (.head _));have t:XSet K (fv ([("OrderError",J),("NoText",z),("NoHouse",I)]:List (Str × Addr)) "NoText") "line":=y.symm ▸ ⟨r8,D1,M1,i0,i7⟩;have e8:XGet K (fv ([("OrderError",J),("NoText",z),("NoHouse",I)]:List (Str × Addr)) "NoText") "line":=⟨t.na,t.hd⟩
 have c1:MkI l.prog w K mg base 1 "NoText" (fv ([("OrderError",J),("NoText",z),("NoHouse",I)]:List (Str × Addr)) "NoText") ["self","line"] (jq K "line"):=y.symm ▸ ⟨_,_,zj XB (W.mg_of X G r2) o2 u2 y0 x0 j5,g2,yF a4 B,e3⟩;have KW:=gN (xs:=[V.str "first",V.str "last"]) lW (Do rfl) (.cons ⟨_,rfl⟩ (.cons ⟨_,rfl⟩ .nil));have TO:=W.mg_of X G gW;have E0:=W.mg_of X G J5;have s5:=W.mg_of X G J9;obtain⟨_,_,g9⟩:=AW (P:=l.prog) (w:=w) A8 D4 A6 q0 G2 G8 v6 D8 t6 C9;have c7:fv ([("OrderError",J),("NoText",z),("NoHouse",I)]:List (Str × Addr)) "NoHouse"=I:=hV (ps:=[("OrderError",J),("NoText",z),("NoHouse",I)]) eN ("NoHouse",I) (.tail _ (.tail _ (.head _)));have NQ:∃bm,XAt base (fv ([("OrderError",J),("NoText",z),("NoHouse",I)]:List (Str × Addr)) "NoHouse") bm/\bm.contains (.type "BaseException")=true/\(Value.ref (fv ([("OrderError",J),("NoText",z),("NoHouse",I)]:List (Str × Addr)) "NoHouse")::bm).contains (.ref (fv ([("OrderError",J),("NoText",z),("NoHouse",I)]:List (Str × Addr)) "NoText"))=false:=by rw[c7,y];exact⟨d0,kF XB o3,p3,q8⟩
 have b8:=k8.cl l w base (zu k8.F B);have a:=m5.cl l w base (yi m5.F B);have U:=m1.cl l w base (vU m1.F B a);have f:=k3.cl l w base (tI k3.F B);have a6:=j6.cl l w base (zm j6.F B);have c:=n5.cl l w base (vc n5.F B a6);have c2:=h4.cl l w base (vn h4.F B);have b2:=h6.cl l w base (xN h6.F B);have g:=h5.cl l w base (rF h5.F B m7 b2);have e1:=h3.cl l w base (yr h3.F B c2 g);have b6:=j2.cl l w base (yo j2.F B a);have Y:=k9.cl l w base (vm k9.F B a);have H:=i9.cl l w base (tL i9.F B);have b1:=n0.cl l w base (xR n0.F B a f c);have O:=l5.cl l w base (wz l5.F B f c);have D:=j4.cl l w base (rh j4.F B a f c O H);have Q:=k0.cl l w base (vE k0.F B a b6 Y b1 D);have a7:=h8.cl l w base (gr h8.F B);have Z:=h8.cl l w base ((gr h8.F B).imp rB);have a0:=h8.cl l w base ((gr h8.F B).imp uL);have q:=h8.cl l w base ((gr h8.F B).imp so);have c4:=h2.cl l w base (pE h2.F B);have i:=j8.cl l w base (wa j8.F B c2 g);have e4:=j9.cl l w base (sF j9.F B);have M:=k5.cl l w base (sI k5.F B c4 e4 a0);have f0:=k2.cl l w base (yG k2.F B M i);have b:=h1.cl l w base (tZ h1.F B b0);have F:=i2.cl l w base (wS i2.F B q b);have c3:=g4.cl l w base (pM g4.F B q F);have e6:=h7.cl l w base (vd h7.F B Z);have E:=l2.cl l w base (kH l2.F B e6);have R:=i3.cl l w base (vh i3.F B);have a3:=h8.cl l w base (Al h8.F B);have n:=h9.cl l w base (yM h9.F B a3);have j:=h9.cl l w base (zi h9.F B a7);have e0:=j0.cl l w base (rA j0.F B b);have b9:=i6.cl l w base (ub i6.F B);have b4:=l8.cl l w base (vk l8.F B b5 b e0 b9 n);have e2:=h4.cl l w base (uN h4.F B);have L:=m3.cl l w base (uG m3.F B S);have C:=g8.cl l w base (sL g8.F B b);have x:=n7.cl l w base (vo n7.F B c0 C j g);have c8:=l0.cl l w base (rK l0.F B TO KW b);have a9:=l9.cl l w base (wB l9.F B c8 n j);have c6:=n2.cl l w base (tT n2.F B b4 e2 L x a9);have a2:=h0.cl l w base (ul h0.F B i M c3);have A:=j1.cl l w base (tS j1.F B e1 f0 E R);have m:=n8.cl l w base (rZ n8.F B c6 a2 A);have u:=g0.cx l w base (jW g0.F B Er m);have c5:=g0.cl l w base (FnOk.down (jW g0.F B Er m));have b3:=m4.cl l w base (yn m4.F B b);have c9:=o5.cl l w base (rj o5.F B s5 g9);have d:=j3.cl l w base (uz j3.F B E0 g9 b3 c9);have k:=n4.cl l w base (xI n4.F B);have N:=e9.cx l w base (ou e9.F B TO KW c1 t d k u);have o:=e9.cl l w base (FnOk.down (ou e9.F B TO KW c1 t d k u));have p:=n1.cl l w base (wR n1.F B);have T:=l6.cl l w base (zv l6.F B a U);have b7:=n9.cl l w base (yC n9.F B);have a8:=l4.cl l w base (xQ l4.F B a);have a5:=k7.cl l w base (xU k7.F B a a8);have r:=i1.cl l w base (wy i1.F B Er NQ e8 N);have a1:=l1.cl l w base (wC l1.F B r o p m c5);exact zI k1 B b8 a T Q b7 a5 a1 r o p
theorem walk {l:W.OpenLaw}{q:Program}{G:LS}{O:(Str -> Option Value) -> Heap -> Prop}{I:World -> Heap -> Prop}{d:DefRec}{K:Params -> W.Frag}(g:l.most=some 63) (b:d.params.defaults=[])
    (e:∀(w:World) (h:Heap),I w h->(K w.params).In h)
    (F:∀(w:World) (mg:Str->Option Value) (J:Addr) (h:Heap),(K w.params).In h->h.Ns mainGlobals mg->mg d.name=some (.ref J) ->
     ∃fd:FuncData,(∀(s:Shared) (u:Value),BindsTo s fd ⟨[u],[]⟩ [("_law_script",u)])/\∀base:Heap,(K w.params).In base->base.Ns mainGlobals mg->FnOk l.prog w (K w.params) mg base CX0 11 J fd ["_law_script"] (mU (K w.params))) :
    W.WalkO q G O I l.row.toRowW d [] (λf U=>PySem.call f U) :=
 L2.walk_of (n:=63) (k:=11) (x:="_law_script") (CX:=λ_=>CX0) (sp:=λw=>mU (K w.params)) g (by decide) b ⟨rfl,by decide,by decide,rfl⟩ e F (λ_ _ a c j _ i=>⟨a,c,rfl,i,λ_=>rfl⟩) λ_ _ _ _ _ z=>z
end
end K77
open PySem PySem.W PyProof.Rows
set_option maxRecDepth 100000 in
set_option maxHeartbeats 0 in
theorem PySem.Challenge.cw_orderkeep_k77_whole_bent_texts_of_houses_holds : PySem.Challenge.rw_orderkeep_k77_whole_bent_texts_of_houses.Holds := by
 w_on;o_law;k_head;(case hw=>w_witness2)
 k_fill
 refine K77.walk (l:=PySem.Challenge.rw_orderkeep_k77_whole_bent_texts_of_houses) rfl rfl (λw h Y=>W.kIn_of Y) ?F
 case F =>
  intro w mg fa h KX G hmg;refine' K77.all_mk KX G hmg (K77.fh_mk KX G ?_ ?_ ?_ ?_) (K77.fh_mk KX G ?_ ?_ ?_ ?_) (K77.fh_mk KX G ?_ ?_ ?_ ?_) (K77.fh_mk KX G ?_ ?_ ?_ ?_) (K77.fh_mk KX G ?_ ?_ ?_ ?_) (K77.fh_mk KX G ?_ ?_ ?_ ?_) (K77.fh_mk KX G ?_ ?_ ?_ ?_) (K77.fh_mk KX G ?_ ?_ ?_ ?_) (K77.fh_mk KX G ?_ ?_ ?_ ?_) (K77.fh_mk KX G ?_ ?_ ?_ ?_) (K77.fh_mk KX G ?_ ?_ ?_ ?_) (K77.fh_mk KX G ?_ ?_ ?_ ?_) (K77.fh_mk KX G ?_ ?_ ?_ ?_) (K77.fh_mk KX G ?_ ?_ ?_ ?_) (K77.fh_mk KX G ?_ ?_ ?_ ?_) (K77.fh_mk KX G ?_ ?_ ?_ ?_) (K77.fh_mk KX G ?_ ?_ ?_ ?_) (K77.fh_mk KX G ?_ ?_ ?_ ?_) (K77.fh_mk KX G ?_ ?_ ?_ ?_) (K77.fh_mk KX G ?_ ?_ ?_ ?_) (K77.fh_mk KX G ?_ ?_ ?_ ?_) (K77.fh_mk KX G ?_ ?_ ?_ ?_) (K77.fh_mk KX G ?_ ?_ ?_ ?_) (K77.fh_mk KX G ?_ ?_ ?_ ?_) (K77.fh_mk KX G ?_ ?_ ?_ ?_) (K77.fh_mk KX G ?_ ?_ ?_ ?_) (K77.fh_mk KX G ?_ ?_ ?_ ?_) (K77.fh_mk KX G ?_ ?_ ?_ ?_) (K77.fh_mk KX G ?_ ?_ ?_ ?_) (K77.fh_mk KX G ?_ ?_ ?_ ?_) (K77.fh_mk KX G ?_ ?_ ?_ ?_) (K77.fh_mk KX G ?_ ?_ ?_ ?_) (K77.fh_mk KX G ?_ ?_ ?_ ?_) (K77.fh_mk KX G ?_ ?_ ?_ ?_) (K77.fh_mk KX G ?_ ?_ ?_ ?_) (K77.fh_mk KX G ?_ ?_ ?_ ?_) (K77.fh_mk KX G ?_ ?_ ?_ ?_) (K77.fh_mk KX G ?_ ?_ ?_ ?_) (K77.fh_mk KX G ?_ ?_ ?_ ?_) (K77.fh_mk KX G ?_ ?_ ?_ ?_) (K77.fh_mk KX G ?_ ?_ ?_ ?_) (K77.fh_mk KX G ?_ ?_ ?_ ?_) (K77.fh_mk KX G ?_ ?_ ?_ ?_) (K77.fh_mk KX G ?_ ?_ ?_ ?_) (K77.fh_mk KX G ?_ ?_ ?_ ?_) (K77.fh_mk KX G ?_ ?_ ?_ ?_) (K77.fh_mk KX G ?_ ?_ ?_ ?_) (K77.fh_mk KX G ?_ ?_ ?_ ?_) (K77.fh_mk KX G ?_ ?_ ?_ ?_) (K77.fh_mk KX G ?_ ?_ ?_ ?_) (K77.fh_mk KX G ?_ ?_ ?_ ?_) (K77.fh_mk KX G ?_ ?_ ?_ ?_) (K77.fh_mk KX G ?_ ?_ ?_ ?_) (K77.fh_mk KX G ?_ ?_ ?_ ?_) (K77.fh_mk KX G ?_ ?_ ?_ ?_) (K77.fh_mk KX G ?_ ?_ ?_ ?_) ⟨W.mg_none_of KX G ?_,W.mg_none_of KX G ?_,W.mg_none_of KX G ?_,W.mg_none_of KX G ?_,W.mg_none_of KX G ?_,W.mg_none_of KX G ?_,W.mg_none_of KX G ?_,W.mg_none_of KX G ?_,W.mg_none_of KX G ?_,W.mg_none_of KX G ?_,W.mg_none_of KX G ?_,W.mg_none_of KX G ?_,W.mg_none_of KX G ?_,W.mg_none_of KX G ?_,W.mg_none_of KX G ?_⟩ (W.mg_none_of KX G ?_) ?_ ?_ ?_ ?_ ?_ ?_ ?_ ?_ ?_ ?_ ?_ ?_ ?_ ?_ ?_ ?_ ?_ ?_ ?_ ?_ ?_ ?_ ?_ ?_ ?_ ?_ ?_ ?_ ?_ ?_ ?_ ?_ ?_ ?_ ?_ ?_ ?_ ?_ ?_ ?_ ?_ ?_ ?_ ?_ ?_ ?_ ?_ ?_ ?_ ?_ ?_ ?_ ?_ ?_ ?_ ?_ ?_ ?_ ?_ ?_ ?_ ?_ ?_ ?_ ?_ ?_ ?_ ?_ ?_ ?_ ?_ ?_ ?_ ?_ ?_ ?_ ?_ ?_
  all_goals try k_is
  all_goals try kernel_rfl
  all_goals exact rfl
end
