import PyProof.Rows.All
import Wide.All
import OpenK.AllK
import Wide.FinOn
import Lean
import PyProof.EqAt
import PyProof.EqKinds
import PyProof.TupleCall
import PyProof.Rows.SumAny
import PyProof.StationsW
import PyProof.ExcClass3
import OpenK.KOwn
import KE.KTryDeep
import KE.KIsAll
import PyProof.ExcAttrAll.ValueError
import PyProof.ExcBaseAll.ValueError
import PyProof.InstStoreFacts
import PyProof.RulesTry
import PyProof.Rows.SortStr
import PyProof.TupleOfSeq
import KE.KxWritten
import PyProof.Conv_bool
import KE.KStrOpen
import PyProof.Rows.FStr
import PyProof.SetRoads
import PyProof.DictKinds
import PyProof.Rows.Range3
import PyProof.FactsAll.tuple_2
import PyProof.CollectIter
import PyProof.TupleOfGen
import KE.KSortTup
import PyProof.StrOps
import PyProof.StrLawsIn
import PyProof.AttrMissHeap
import KE.KDictOf
import PyProof.StrOps2
import PyProof.DictWalks
import KE.KDictList
import PyProof.Rows.ZipGen
import PySem.Challenge.RW_orderkeep_k06_texts_of_no_webs
namespace PySem.W.Fast
def tw10670776978931911137:=Nat
def tw7993648082040922621:=Nat
def tw13835821135295084885:=Nat
def tw7648678115254463564:=Nat
def tw9680216292432736150:=Nat
def tw17497372226380652366:=Nat
def tw6426435760381218388:=Nat
def tw3238696678580824818:=Nat
def tw12734254375186132936:=Nat
def tw15336639833957368648:=Nat
def tw16629024026693629340:=Nat
def tw992273537625039552:=Nat
def tw1791808548938360952:=Nat
def tw14243054392099834937:=Nat
def tw10650320055183252690:=Nat
def tw12791246007614602007:=Nat
def tw13130664812920531961:=Nat
def tw11171900533835945591:=Nat
def tw5877581967659439361:=Nat
def tw7037103906129211805:=Nat
def tw17107551040259892176:=Nat
def tw16820724142798551860:=Nat
def tw2614419027419466250:=Nat
def tw13285526094143071523:=Nat
def tw18257476994691202883:=Nat
def tw11736552677723982627:=Nat
def tw2227191419922981531:=Nat
def tw5176046672758856465:=Nat
def tw16138212654074676268:=Nat
def tw440663979674777297:=Nat
def tw16393167605102855501:=Nat
def tw16520653396332819022:=Nat
def tw7868301361155335191:=Nat
def tw16641693958103139415:=Nat
def tw16905432981829682635:=Nat
def tw362537471051129923:=Nat
def tw11715961382859588144:=Nat
def tw958453761324436135:=Nat
def tw11579716355096446810:=Nat
def tw15402685099420665367:=Nat
def tw11336195303150075437:=Nat
def tw6144904473209038357:=Nat
def tw4212698755164707199:=Nat
def tw5256078097029208023:=Nat
def tw5052346130279565579:=Nat
def tw2389206225884429474:=Nat
def tw4541631669392423672:=Nat
def tw15300826115802388865:=Nat
def tw9038944272889623837:=Nat
def tw8860525926254043566:=Nat
def tw13700041481017647844:=Nat
def tw12649625927139170017:=Nat
def tw16501906449002192961:=Nat
def tw10818636003711467858:=Nat
def tw5130606947333210300:=Nat
def tw14487846880513503694:=Nat
def tw2231464869111056701:=Nat
def tw33932464434003623:=Nat
def tw368656451142657917:=Nat
def tw6586687728415269210:=Nat
def tw13305899291772582369:=Nat
def tw11336205352937071851:=Nat
def tw3300072624184723150:=Nat
def tw14167803652000554930:=Nat
def tw4818502194998047457:=Nat
def tw3494682174849313671:=Nat
def tw14577232857854423069:=Nat
def tw629269351795612986:=Nat
def tw4855452731925467790:=Nat
def tw9839993709314245240:=Nat
def tw13907212345681284091:=Nat
def tw10570927155530045088:=Nat
def tw10445868421519467330:=Nat
def tw12041287097718933786:=Nat
def tw9208900856721051651:=Nat
def tw17551789932861572424:=Nat
def tw14137689164380319164:=Nat
def tw14053484731072510131:=Nat
def tw2026714281291990159:=Nat
def tw12861672396285416023:=Nat
def tw1454183303272234673:=Nat
def tw15045023536733490890:=Nat
def tw4743867908440532030:=Nat
def tw15882813382859247625:=Nat
def tw7488764733606142777:=Nat
def tw4563161429404037835:=Nat
def tw16702819477781203634:=Nat
def tw4063039253399377941:=Nat
def tw13506039995714156174:=Nat
def tw18290302881379445577:=Nat
def tw16564437931129452796:=Nat
def tw4159739415171125535:=Nat
def tw2310811252403691598:=Nat
def tw13195921677577269464:=Nat
def tw6062531866996752161:=Nat
def tw4459909212489995517:=Nat
def tw1241706313184288536:=Nat
def tw17203132645035400569:=Nat
def tw4279766507234598546:=Nat
def tw3290167613653851475:=Nat
def tw4143094562866450554:=Nat
def tw15061887399550577798:=Nat
def tw16733256035323509557:=Nat
def tw16617774643035823720:=Nat
def tw17275300655024868886:=Nat
def tw12859940427806177369:=Nat
def tw6828700403569911037:=Nat
def tw3323556472981702072:=Nat
def tw16758006371650873604:=Nat
def tw1640236267738554124:=Nat
def tw1280104452111946768:=Nat
def tw12091942045592232708:=Nat
def tw3694799282325150394:=Nat
def tw12057120272868068511:=Nat
def tw1832759560021957112:=Nat
def tw641795384612931711:=Nat
def tw5736665561205259800:=Nat
def tw17488506007145283494:=Nat
def tw9379981473532211222:=Nat
def tw10213528792374301804:=Nat
def tw3361949327673699280:=Nat
def tw7656318550150376937:=Nat
def tw2427214963968877568:=Nat
def tw5482050639112085095:=Nat
def tw12708372497404704679:=Nat
def tw15834913760046935887:=Nat
def tw13622239988068840333:=Nat
def tw3093816249693086184:=Nat
def tw7380562483011572160:=Nat
def tw15455053667086111688:=Nat
def tw13666422178286022495:=Nat
def tw2582797127938844119:=Nat
def tw10994549729059892508:=Nat
def tw3977031220815298488:=Nat
def tw208038019954059057:=Nat
def tw14741116915384595890:=Nat
def tw10240501215015955269:=Nat
def tw5257880392013387517:=Nat
def tw674084817217846737:=Nat
def tw8458580149554919578:=Nat
def tw6515059562729618792:=Nat
def tw2143157556850638791:=Nat
def tw13929112125791277595:=Nat
def tw13317661837527610081:=Nat
def tw6606096820359162456:=Nat
def tw2986191027457010649:=Nat
def tw14766242447542931752:=Nat
def tw14717172755532475476:=Nat
def tw5566852850685994481:=Nat
def tw4668789824018439806:=Nat
def tw14385591172715922894:=Nat
def tw16225275412543522625:=Nat
def tw11360285653254553250:=Nat
def tw11514996030712832561:=Nat
def tw3443700752160180219:=Nat
def tw11956557813115577647:=Nat
def tw15249248976017846185:=Nat
def tw581541101267437341:=Nat
def tw5040266112293202909:=Nat
def tw14897036051158795729:=Nat
def tw2853926771240223999:=Nat
def tw4619670562018216621:=Nat
def tw12493116912274457658:=Nat
def tw10032428242945161689:=Nat
def tw4027448690306170400:=Nat
def tw16812290356817335982:=Nat
def tw10249367560419191378:=Nat
def tw12460730452181660196:=Nat
def tw11187840752342152419:=Nat
def tw9858634644399042549:=Nat
def tw7329614811356936196:=Nat
def tw10980799362715737447:=Nat
def tw1717326849989313812:=Nat
def tw7246500905436315441:=Nat
def tw6240813328601250891:=Nat
def tw12226038996520807407:=Nat
def tw1798918200259793175:=Nat
def tw2190896288229506249:=Nat
def tw3249616376275111985:=Nat
def tw6067085761428268492:=Nat
def tw6178944755757209785:=Nat
def tw13060703348656164044:=Nat
def tw6800538048724401170:=Nat
def tw9373200419311439216:=Nat
def tw8414861994089019023:=Nat
def tw1421507884903563541:=Nat
def tw3945831874566963741:=Nat
def tw2214199800769883353:=Nat
def tw9756345977352308158:=Nat
def tw4245071176281741119:=Nat
def tw3683090080096027039:=Nat
def tw12387056829644334640:=Nat
def tw12490846231757863048:=Nat
def tw7091140437591823024:=Nat
def tw2551753219281443452:=Nat
def tw8850963252578824792:=Nat
def tw8999181954454466622:=Nat
def tw14564401150637023633:=Nat
def tw7171303092066271155:=Nat
def tw14320217668015032732:=Nat
def tw5883819571483700177:=Nat
def tw13510951471189599579:=Nat
def tw3855712853789875186:=Nat
def tw4399595707454768610:=Nat
def tw14354114944174949890:=Nat
def tw17190676439713839921:=Nat
def tw4791282894182476057:=Nat
def tw13145958589567008306:=Nat
def tw8888308723736970161:=Nat
def tw14849711466570197158:=Nat
def tw5725257773446923324:=Nat
def tw7855967124543273121:=Nat
def tw3824192313362393556:=Nat
def tw2005867988983292519:=Nat
def tw2610927860093337153:=Nat
def tw13574246982981697955:=Nat
def tw7738813703317832489:=Nat
def tw7327346078145391662:=Nat
def tw14340013477241328798:=Nat
def tw14648701908350712566:=Nat
def tw5183254423605835972:=Nat
def tw5406560409985838983:=Nat
def tw10581807632991177870:=Nat
def tw14874664602488857320:=Nat
def tw12084761355394280656:=Nat
def tw16989770806783274703:=Nat
def tw16241137093755751533:=Nat
def tw12201785380849703222:=Nat
def tw13449248012121851735:=Nat
def tw1218880594128088233:=Nat
def tw5583145658155577436:=Nat
def tw11693335879736607728:=Nat
def tw12536234625802705297:=Nat
def tw18006739608895396740:=Nat
def tw10096656782347141324:=Nat
def tw2170362198644402972:=Nat
def tw1185818160824233546:=Nat
def tw12647986543375885036:=Nat
def tw5796215414971509579:=Nat
def tw1124014249510962239:=Nat
def tw1794243246267808930:=Nat
def tw6445282817993819823:=Nat
def tw8045140424297164351:=Nat
def tw6541592558755506290:=Nat
def tw9415113627557933834:=Nat
def tw15441851553155222923:=Nat
def tw3265413279460585025:=Nat
def tw13339076330373365352:=Nat
def tw10323968392419660589:=Nat
def tw11562837539636629873:=Nat
def tw6248018246365532601:=Nat
def tw8829788394048426592:=Nat
def tw1037050007600999443:=Nat
def tw6485234063676758308:=Nat
def tw3490149702974448741:=Nat
def tw6395598076852943459:=Nat
def tw6386680924642332371:=Nat
def tw13075860524062712206:=Nat
def tw3233775357901557176:=Nat
def tw12961042216883975303:=Nat
def tw1417323542903043759:=Nat
def tw6583932138431871689:=Nat
def tw3149417308349895918:=Nat
def tw11986423690577697580:=Nat
def tw12086550388570193906:=Nat
def tw8627886997834135090:=Nat
def tw9505666834294133533:=Nat
def tw321360583337784404:=Nat
def tw10589869613761466550:=Nat
def tw10923320048665155363:=Nat
def tw6264361914243366078:=Nat
def tw13686156831534177426:=Nat
def tw4533692033988317292:=Nat
def tw9687136798934091659:=Nat
def tw17971736234190731351:=Nat
def tw1531844062906842970:=Nat
def tw2443142592944822913:=Nat
def tw4627898164656305647:=Nat
def tw2381171205005988891:=Nat
def tw15024159281741388478:=Nat
def tw921547629271644188:=Nat
def tw704927150927350411:=Nat
def tw6160483198483878774:=Nat
def tw12175117954580768947:=Nat
def tw7393746009786792809:=Nat
def tw12532235351120570570:=Nat
def tw6504469852208247993:=Nat
def tw4755302558866194086:=Nat
def tw9498950110085520217:=Nat
def tw9428705676584731961:=Nat
def tw9518189950291870320:=Nat
def tw6784164310585127402:=Nat
def tw3036528872453096800:=Nat
def tw11692949484805220798:=Nat
def tw6726637067148051956:=Nat
def tw8174994141731313728:=Nat
def tw12600798861685354805:=Nat
def tw12768442030917012098:=Nat
def tw15590735640078078439:=Nat
def tw11512597482667436970:=Nat
def tw8073561997047229152:=Nat
def tw2416088015059321788:=Nat
def tw884898901335368644:=Nat
def tw11212970507391409616:=Nat
def tw6024119924489144261:=Nat
def tw17550937466052373467:=Nat
def tw931833306973259820:=Nat
def tw5036277849314895169:=Nat
def tw18404213942886061341:=Nat
def tw3610195438581235616:=Nat
def tw15052154901677093959:=Nat
def tw15373349051844500454:=Nat
def tw791086903683122716:=Nat
def tw5193145320157915036:=Nat
def tw16840464148147259331:=Nat
def tw4404138519224611798:=Nat
def tw13475775849899145607:=Nat
def tw4067313977825668692:=Nat
def tw539227552393581060:=Nat
def tw16410688342544028240:=Nat
def tw7610209794770748246:=Nat
def tw2347577099440166836:=Nat
def tw226372735934203928:=Nat
def tw12255347559565856732:=Nat
def tw6517552130947523065:=Nat
def tw7547198678485001618:=Nat
def tw433422113915409512:=Nat
def tw14582371013977420521:=Nat
def tw11648746166144813558:=Nat
def tw9802097367442945169:=Nat
def tw10284585915095251785:=Nat
def tw12593266020012716497:=Nat
def tw18395707058166754072:=Nat
def tw3733990993158899404:=Nat
def tw14664595294842495070:=Nat
def tw15766645926880252852:=Nat
def tw16994939826806129922:=Nat
def tw1847379825845339990:=Nat
def tw3427435391650039341:=Nat
def tw15966402312691543311:=Nat
def tw6346676339226556457:=Nat
def tw13022591531861169507:=Nat
def tw10324198875324728303:=Nat
def tw40945542590931134:=Nat
def tw706540476337031395:=Nat
def tw10367951096655555577:=Nat
def tw747605863899056078:=Nat
def tw13506478198047578208:=Nat
def tw13268573462996165423:=Nat
def tw12031542603542677912:=Nat
def tw7014535267670070120:=Nat
def tw1174147168264298044:=Nat
def tw9695165811729951711:=Nat
def tw2941633385377858481:=Nat
def tw3955680121295549485:=Nat
def tw6760174803002950533:=Nat
def tw2171050057261313653:=Nat
def tw16459242831614958844:=Nat
def tw2423276900902559903:=Nat
def tw18140667473303785865:=Nat
def tw14733541836780718693:=Nat
def tw12115326900892778498:=Nat
def tw12419555516417651400:=Nat
def tw3898885011921119447:=Nat
def tw5243363517715651637:=Nat
def tw17930134617523825303:=Nat
def tw15470280805070429586:=Nat
def tw1805844614859694372:=Nat
def tw10114729861527425085:=Nat
def tw12341496063335527251:=Nat
def tw8572901063795638452:=Nat
def tw2967047954044823336:=Nat
def tw13545991119411998946:=Nat
def tw10449969660250068113:=Nat
def tw6054549621806539025:=Nat
def tw7006339134843550359:=Nat
def tw17735326414757446843:=Nat
def tw8491253904985272892:=Nat
def tw416757312406619043:=Nat
def tw6166787464185940723:=Nat
def tw227279421970101068:=Nat
def tw6403162300198016384:=Nat
def tw11763887789723878508:=Nat
def tw16732599901937753707:=Nat
def tw13756485166265359715:=Nat
def tw8800079114838227834:=Nat
def tw17660064443003977501:=Nat
def tw15077708306915095345:=Nat
def tw9710658177448744450:=Nat
def tw2610016572162179453:=Nat
def tw12151955294277015473:=Nat
def tw6053832015546864339:=Nat
def tw7508887273153361614:=Nat
def tw14174307251843365430:=Nat
def tw6705398297676271530:=Nat
def tw10424569307405832367:=Nat
def tw12261660213051066375:=Nat
def tw15350116970392740423:=Nat
def tw161821104612090103:=Nat
def tw13922651187772189008:=Nat
def tw13742046820149146774:=Nat
def tw940707532196000828:=Nat
def tw16900172285416920473:=Nat
def tw10989563206241565110:=Nat
def tw161114957763515342:=Nat
def tw11846708012827349583:=Nat
def tw10972822864538165290:=Nat
def tw4602595208228339262:=Nat
def tw1252166146863528499:=Nat
def tw1301414076970766020:=Nat
def tw2993180631398799722:=Nat
def tw972230869230759279:=Nat
def tw5359689654219435187:=Nat
def tw14395736298342331573:=Nat
def tw10472373544144962390:=Nat
def tw1412893496640101846:=Nat
def tw730213668828269029:=Nat
def tw14047474488355366832:=Nat
def tw2795219585733691855:=Nat
def tw6119362032096832119:=Nat
def tw7780164779744726945:=Nat
def tw3468696804679782391:=Nat
def tw9387527203890109544:=Nat
def tw16144865591487883791:=Nat
def tw2849276454277539049:=Nat
def tw15964219843100759570:=Nat
def tw1638390335894602289:=Nat
def tw9187296339757692505:=Nat
def tw1281961505361096299:=Nat
def tw7665920540649724067:=Nat
def tw15346930967212847610:=Nat
def tw16827388730699232681:=Nat
def tw5332032966079656454:=Nat
def tw9426360350854259737:=Nat
def tw4038502921124067368:=Nat
def tw5760961952605212483:=Nat
def tw14795925372041520233:=Nat
def tw11246972082148409484:=Nat
def tw16503733924790272764:=Nat
def tw11910527742821643244:=Nat
def tw13243904256111638462:=Nat
def tw1904508673672029044:=Nat
def tw7590321052797813216:=Nat
def tw16325245213064320407:=Nat
def tw1097918263665701765:=Nat
def tw2833796483612137267:=Nat
def tw13260865687162885129:=Nat
def tw6639089371199758466:=Nat
def tw18158315278156578688:=Nat
def tw16914097702080905526:=Nat
def tw15915045036965735595:=Nat
def tw9639402654576550695:=Nat
def tw4719265157189616788:=Nat
def tw2525726506361865385:=Nat
def tw10650022589291520872:=Nat
def tw7003915662719820240:=Nat
def tw845541979999682841:=Nat
def tw8169784756740798553:=Nat
def tw2352253709968536379:=Nat
def tw5367891508070894552:=Nat
def tw15582630614482351996:=Nat
def tw15419100392218267141:=Nat
def tw11338130942791339088:=Nat
def tw3243455747221211486:=Nat
def tw4795784371040311447:=Nat
def tw10065696956813582214:=Nat
def tw94893684139409927:=Nat
def tw14143808859852688434:=Nat
def tw12559147094776187735:=Nat
end PySem.W.Fast
section
open PySem PySem.Spec PyProof.Rows
abbrev me:=@wpAny_bind
abbrev ua:=@Nat.le_refl
abbrev ub:=@List.length_map
abbrev uc:=@wpAny_pure
abbrev ud:=@Heap.lt_size
abbrev ue:=@Option.some.inj
abbrev uf:=@List.mem_cons
abbrev ug:=@decide_eq_true
abbrev uh:=@List.getElem?_eq_some_iff
abbrev ui:=@Heap.get?_push_of_some
abbrev uj:=@List.size_toArray
abbrev uk:=@List.map_append
abbrev um:=@Nat.ne_of_lt
abbrev uo:=@Nat.le_trans
abbrev ur:=@List.mem_cons_of_mem
abbrev ut:=@decide_eq_false
abbrev uu:=@Nat.zero_le
abbrev uv:=@List.length_cons
abbrev uw:=@Heap.get?_push_size
abbrev ux:=@of_decide_eq_true
abbrev uy:=@List.getElem?_eq_getElem
abbrev uz:=@Bool.false_ne_true
abbrev uA:=@List.length_append
abbrev uB:=@List.take_of_length_le
abbrev uC:=@List.getElem?_map
abbrev uD:=@List.mem_map
abbrev uE:=@List.mem_singleton
abbrev uF:=@List.mem_append
abbrev uG:=@List.map_cons
abbrev uH:=@Int.eq_ofNat_of_zero_le
abbrev uI:=@Nat.lt_of_lt_of_le
abbrev uJ:=@List.take_add_one
abbrev uK:=@wpAny_field
abbrev uL:=@Bool.eq_iff_iff
abbrev uM:=@List.length_take
abbrev uN:=@List.mem_of_getElem?
abbrev uO:=@Nat.le_of_lt
abbrev uP:=@Bool.and_eq_true
abbrev uQ:=@List.lookup_cons
abbrev uR:=@wpAny_mono
abbrev uS:=@List.mem_append_right
abbrev uT:=@List.length_range
abbrev uU:=@wpAny_holding
abbrev uV:=@List.getElem_mem
abbrev uW:=@List.all_eq_true
abbrev uX:=@List.getD_eq_getElem?_getD
abbrev uY:=@Nat.lt_irrefl
abbrev uZ:=@List.mem_cons_self
abbrev u0:=@List.append_nil
abbrev u4:=@List.nodup_cons
abbrev u5:=@List.nodup_nil
abbrev u6:=@List.map_map
abbrev u7:=@Heap.get?_update_other
abbrev u8:=@List.length_set
abbrev u9:=@List.any_cons
abbrev va:=@Int.emod_nonneg
abbrev vb:=@wpAny_Call_Name_kw
abbrev vc:=@Option.isSome_iff_exists
abbrev vd:=@List.getElem?_append_right
abbrev ve:=@List.find?_cons
abbrev vf:=@List.append_assoc
abbrev vg:=@wpAny_setField_rec
abbrev vh:=@Bool.true_and
abbrev vi:=@List.map_take
abbrev vj:=@List.getElem?_append_left
abbrev vk:=@Int.toNat_natCast
abbrev vm:=@List.length_drop
abbrev vn:=@Heap.get?_update_self
abbrev vo:=@Bool.false_eq_true
abbrev vp:=@Int.emod_lt_of_pos
abbrev vq:=@Array.getElem?_eq_some_iff
abbrev vr:=@List.nodup_append
abbrev vt:=@List.take_succ_cons
abbrev vv:=@Heap.get?_none_of_le
abbrev vw:=@List.mem_append_left
abbrev vx:=@List.length_replicate
abbrev vy:=@Nat.mul_le_mul_right
abbrev vz:=@Nat.div_lt_of_lt_mul
abbrev vC:=@List.eraseIdx_eq_take_drop_succ
end
noncomputable section
set_option autoImplicit true
set_option Elab.async false
set_option linter.all false
set_option maxRecDepth 100000
namespace L2
open PySem PySem.Spec PyProof.Rows
abbrev _root_.LS:=List Str
abbrev _root_.LW:=List Value
abbrev _root_.QS:=Value->Shared->Prop
abbrev _root_.MS:=Str->Option Value
abbrev _root_.AO_:=List (Addr × Obj)
abbrev _root_.OV:=Option Value
abbrev Key:=Sum Int Str
def fM:Key->Value->Bool
 | .inl k,v=>Value.isInt k v
 | .inr x,v=>Value.isStrOf x v
def keyH (w:World):Key->Int
 | .inl k=>hashInt k
 | .inr x=>hashStr w x
theorem bg:∀ {k:Key}{v:Value},fM k v=true->(∃i t,k=Sum.inl i/\v=Value.int i t)∨(∃x t,k=Sum.inr x/\v=Value.str x t)
 | .inl i,v,h=>by
  obtain⟨t,e⟩:=Value.isInt_shape (k:=i) (v:=v) h;exact .inl ⟨i,t,rfl,e⟩
 | .inr x,v,h=>by
  obtain⟨t,e⟩:=Value.isStrOf_shape (x:=x) (v:=v) h;exact .inr ⟨x,t,rfl,e⟩
theorem lG (i:Int) (t:Tok):fM (.inl i) (.int i t)=true:=by simp[fM,Value.isInt]
theorem mj (x:Str) (t:Tok):fM (.inr x) (.str x t)=true:=by simp[fM,Value.isStrOf]
theorem rK (a b:Int):decide ((Sum.inl a:Key)=Sum.inl b)=(a==b):=by
 by_cases e:a=b
 ·subst e;simp
 ·have h:¬ (Sum.inl a:Key)=Sum.inl b:=λq=>e (Sum.inl.inj q);rw[ut h];exact(beq_eq_false_iff_ne.mpr e).symm
theorem rY (a b:Str):decide ((Sum.inr a:Key)=Sum.inr b)=decide (a=b):=by
 by_cases e:a=b
 ·subst e;simp
 ·have h:¬ (Sum.inr a:Key)=Sum.inr b:=λq=>e (Sum.inr.inj q);rw[ut h,ut e]
theorem ry (a:Int) (b:Str):decide ((Sum.inl a:Key)=Sum.inr b)=false:=ut (λq=>nomatch q)
theorem sg (a:Str) (b:Int):decide ((Sum.inr a:Key)=Sum.inl b)=false:=ut (λq=>nomatch q)
def bv (prog:Program) (w:World):PySem.KeyKind prog w Key where
 is:=fM
 hash:=keyH w
 inj:=λv a b ha hb=>by
  rcases bg ha with⟨i,t,rfl,rfl⟩ | ⟨x,t,rfl,rfl⟩
  ·rcases bg hb with⟨j,u,rfl,e⟩ | ⟨y,u,rfl,e⟩
   ·injection e with e1 _;rw[e1]
   ·exact nomatch e
  ·rcases bg hb with⟨j,u,rfl,e⟩ | ⟨y,u,rfl,e⟩
   ·exact nomatch e
   ·injection e with e1 _;rw[e1]
 byValue:=λk v h=>by rcases bg h with⟨i,t,rfl,rfl⟩ | ⟨x,t,rfl,rfl⟩ <;> rfl
 pyHash:=λhv h=>by
  rcases bg hv with⟨i,t,rfl,rfl⟩ | ⟨x,t,rfl,rfl⟩
  ·exact wpAny_pyHash_int h
  ·exact wpAny_pyHash_str h
 eqBool:=λhu hv h=>by
  rcases bg hu with⟨i,t,rfl,rfl⟩ | ⟨x,t,rfl,rfl⟩
  ·rcases bg hv with⟨j,u,rfl,rfl⟩ | ⟨y,u,rfl,rfl⟩
   ·rw[rK] at h;exact wpAny_eqBool_int h
   ·rw[ry] at h;exact SeqAt.EqAt.int_str i t y u _ _ _ _ h
  ·rcases bg hv with⟨j,u,rfl,rfl⟩ | ⟨y,u,rfl,rfl⟩
   ·rw[sg] at h;exact SeqAt.EqAt.str_int x t j u _ _ _ _ h
   ·rw[rY] at h;exact wpAny_eqBool_str h
 «strs»:=λk x t v h=>by
  rcases bg h with⟨i,u,rfl,e⟩ | ⟨y,u,rfl,e⟩
  ·exact nomatch e
  ·injection e with e1 _;subst e1;cases v <;> rfl
theorem jH (prog:Program) (w:World) (i:Int) (t:Tok):(bv prog w).is (.inl i) (.int i t)=true:=lG i t
theorem jB (prog:Program) (w:World) (x:Str) (t:Tok):(bv prog w).is (.inr x) (.str x t)=true:=mj x t
inductive V where
 | non | bl (b:Bool) | int (i:Int) | str (x:Str) | byt (b:Array UInt8) | flt (b:UInt64) | ref (a:Addr) | ty (n:String)
 deriving DecidableEq
abbrev _root_.LV:=List V
abbrev _root_.KV_:=List (Key × V)
def RelV:V->Value->Prop
 | .non,u=>u=Value.none
 | .bl b,u=>u=Value.bool b
 | .int i,u=>∃t,u=Value.int i t
 | .str x,u=>∃t,u=Value.str x t
 | .byt b,u=>∃t,u=Value.bytes b t
 | .flt b,u=>∃t,u=Value.float b t
 | .ref a,u=>u=Value.ref a
 | .ty n,u=>u=Value.type n
abbrev Vals:LV->LW->Prop:=Paired RelV
theorem Vals.length (r:Vals xs us):xs.length=us.length:=Paired.length r
theorem Vals.get:∀ {xs:LV}{us:LW}{i:Nat}{x:V},Vals xs us->xs[i]? = some x->∃u,us[i]? = some u/\RelV x u
 | _,_,_,_,.nil,e=>by simp at e
 | _,_,0,_,.cons r _,e=>by simp at e;subst e;exact⟨_,rfl,r⟩
 | _,_,i+1,x,.cons _ t,e=>by
  obtain⟨u,h1,h2⟩:=Vals.get (i:=i) (x:=x) t (by simpa using e);exact⟨u,by simpa using h1,h2⟩
theorem Vals.set (r:RelV x u):∀ {xs:LV}{us:LW}(i:Nat),Vals xs us->Vals (xs.set i x) (us.set i u)
 | _,_,_,.nil=>.nil
 | _,_,0,.cons _ t=>.cons r t
 | _,_,i+1,.cons q t=>.cons q (Vals.set r i t)
theorem Vals.append:∀ {xs ys:LV}{us ws:LW},Vals xs us->Vals ys ws->Vals (xs++ys) (us++ws)
 | _,_,_,_,.nil,s=>s
 | _,_,_,_,.cons r t,s=>.cons r (Vals.append t s)
theorem Vals.take:∀ {xs:LV}{us:LW}(n:Nat),Vals xs us->Vals (xs.take n) (us.take n)
 | _,_,0,_=>.nil
 | _,_,_+1,.nil=>.nil
 | _,_,n+1,.cons r t=>.cons r (Vals.take n t)
theorem Vals.drop:∀ {xs:LV}{us:LW}(n:Nat),Vals xs us->Vals (xs.drop n) (us.drop n)
 | _,_,0,r=>r
 | _,_,_+1,.nil=>.nil
 | _,_,n+1,.cons _ t=>Vals.drop n t
def RelO:Option V->OV->Prop
 | some v,some u=>RelV v u
 | none,none=>True
 | _,_=>False
def KV:List (κ × V)->List (κ × Value)->Prop:=Paired λ(p:κ × V) (q:κ × Value)=>p.1=q.1/\RelV p.2 q.2
def kV:Key->V
 | .inl i=>.int i
 | .inr x=>.str x
inductive HO where
    | lst (xs:LV)
    | tup (xs:LV)
    | dK (kvs:KV_) | dT (kvs:List (List Key × V))
    | set (S:Int->Bool) (n:Nat)
    | ins (C dx:Addr) (fs:List (Str × V))
    | own (x:Addr)
    | xd (fs:List (Str × V))
    | met (f x:Addr)
    | rng (lo hi:Int)
    | frz (o:Obj) (u:HO)
    | tbl (ps:Array Value)
    | ext (φ:Heap->Prop)
abbrev Hp:=Addr->Option HO
def upd (H:Hp) (a:Addr) (o:HO):Hp:=λb=>if b=a then some o else H b
theorem ah:upd H a o a=some o:=by unfold upd;rw[if_pos rfl]
theorem aj (h:b≠a):upd H a o b=H b:=by unfold upd;rw[if_neg h]
theorem qr:upd (upd H a o) a u=upd H a u:=by
 funext b;unfold upd;split <;> rfl
theorem pz {H:Hp}{a b:Addr}{o u:HO}(h:H a=some o) (h':H b=some u) (d:o≠u):a≠b:=by
 intro e;subst e;rw[h] at h';exact d (ue h')
theorem ak {H:Hp}{a b:Addr}{o:HO}(h:H a=some o) (h':H b=none):a≠b:=by
 intro e;subst e;rw[h] at h';cases h'
def TupN (h:Heap) (a:Addr) (items:Array Value):Prop:=∃o,h.get? a=some o/\o.cls=.type "tuple"/\∃n,o.data=.seq items n/\o.dict=none
theorem TupN.tup (x:TupN h a items):IsTup h a items:=let ⟨o,e,c,n,d,_⟩:=x;⟨o,e,c,n,d⟩
theorem TupN.new (h:Heap) (items:Array Value):TupN (h.push { cls:=.type "tuple",data:=.seq items }) h.objs.size items:=⟨_,uw _ rfl,rfl,_,rfl,rfl⟩
section
variable (P:Program) (w:World)
def ObjOk (H:Hp) (h:Heap) (a:Addr):HO -> Prop
 | .lst xs=>xs.length<=sizeLine/\∃(its:LW) (n:Nat),Vals xs its/\h.get? a=some { cls:=.type "list",data:=.seq its.toArray n }
 | .tup xs=>xs.length<=sizeLine/\∃its:LW,Vals xs its/\TupN h a its.toArray
 | .dK kvs=>kvs.length<=sizeLine/\(a==sysModules)=false/\∃vs,KV kvs vs/\h.DictOf (bv P w) a vs
 | .dT kvs=>kvs.length<=sizeLine/\(a==sysModules)=false/\∃xs:List (List Key × Addr × Value),
     Paired (λ(p:List Key × V) (q:List Key × Addr × Value)=>p.1=q.1/\H q.2.1=some (.tup (p.1.map kV))/\RelV p.2 q.2.2) kvs xs /\
     ∃o es ep,h.get? a=some o/\o.ExactDict/\o.data=.dict es ep/\es.toList=xs.map (entryOfKey (tupleKind (bv P w)))/\(xs.map (·.1)).Nodup
 | .set S n=>h.SetOf (intKind P w) a S n
 | .ins C dx fs=>H dx=some (.own a)/\fs.length<=1000/\dx≠a/\h.get? a=some (W.instObj C dx) /\
     ∃mA,h.Ns1 dx mA/\(∀f,RelO (fs.lookup f) (mA f))/\PySem.Within mA (fs.map (·.1))
 | .own _=>∃o,h.get? a=some o
 | .xd fs=>∃mA,h.Ns1 a mA/\∀f,RelO (fs.lookup f) (mA f)
 | .rng lo hi=>∃t u v,h.get? a=some { cls:=.type "range",data:=.fields #[.int lo t,.int hi u,.int 1 v] }
 | .frz o u=>h.get? a=some o/\ObjOk H h a u
 | .tbl ps=>h.get? a=some { cls:=.none,data:=.fields ps }
 | .met f x=>h.get? a=some (W.methodObj (.ref f) (.ref x))
 | .ext φ=>φ h/\(∃o,h.get? a=some o)/\∀h1 h2:Heap,φ h1->(∀o,h1.get? a=some o->h2.get? a=some o)->φ h2
def HOk (H:Hp) (h:Heap):Prop:=∀a o,H a=some o->ObjOk P w H h a o
end
section
variable {P:Program}{w:World}{H H':Hp}{h h':Heap}{a:Addr}{o:HO}
theorem ObjOk.lt (x:ObjOk P w H h a o):a<h.objs.size:=by
 cases o with
 | lst xs=>obtain⟨_,_,_,_,e⟩:=x;exact ud e
 | tup xs=>obtain⟨_,_,_,p⟩:=x;exact p.tup.lt
 | dK kvs=>obtain⟨_,_,_,_,o,_,_,e,_⟩:=x;exact ud e
 | dT kvs=>obtain⟨_,_,_,_,o,_,_,e,_⟩:=x;exact ud e
 | set S n=>obtain⟨o,_,_,_,e,_⟩:=x;exact ud e
 | ins C dx fs=>obtain⟨_,_,_,e,_⟩:=x;exact ud e
 | own y=>obtain⟨_,e⟩:=x;exact ud e
 | xd fs=>obtain⟨_,⟨_,_,_,e,_⟩,_⟩:=x;exact ud e
 | rng lo hi=>obtain⟨_,_,_,e⟩:=x;exact ud e
 | frz ob u=>obtain⟨e,_⟩:=x;exact ud e
 | tbl ps=>exact ud (show h.get? a=some _ from x)
 | met f y=>exact ud (show h.get? a=some _ from x)
 | ext φ=>obtain⟨_,⟨_,e⟩,_⟩:=x;exact ud e
theorem Paired.mapP:∀ {l₁:List α}{l₂:List β},Paired F l₁ l₂->(∀a b,F a b->G a b)->Paired G l₁ l₂
 | _,_,.nil,_=>.nil
 | _,_,.cons r t,f=>.cons (f _ _ r) (Paired.mapP t f)
theorem ObjOk.stay (x:ObjOk P w H h a o) (k:∀b u,(b=a∨H b=some (.own a))->h.get? b=some u->h'.get? b=some u)
    (B:∀b,H b=some (.own a)->H' b=some (.own a)) (E:∀b xs,H b=some (.tup xs)->H' b=some (.tup xs)):ObjOk P w H' h' a o:=by
 induction o with
 | lst xs=>obtain⟨z,l,n,r,e⟩:=x;exact⟨z,l,n,r,k _ _ (.inl rfl) e⟩
 | tup xs=>obtain⟨z,l,r,g,e,c⟩:=x;exact⟨z,l,r,g,k _ _ (.inl rfl) e,c⟩
 | dK kvs=>obtain⟨z,y,G,r,g,i,j,e,c⟩:=x;exact⟨z,y,G,r,g,i,j,k _ _ (.inl rfl) e,c⟩
 | dT kvs =>
  obtain⟨z,y,xs,r,g,i,j,e,c⟩:=x;exact⟨z,y,xs,Paired.mapP r λp q z=>⟨z.1,E _ _ z.2.1,z.2.2⟩,g,i,j,k _ _ (.inl rfl) e,c⟩
 | set S n=>obtain⟨g,i,j,t,e,c⟩:=x;exact⟨g,i,j,t,k _ _ (.inl rfl) e,c⟩
 | ins C dx fs =>
  obtain⟨d,z,D,e,m,⟨s,i,j,F,c⟩,r⟩:=x;exact⟨B _ d,z,D,k _ _ (.inl rfl) e,m,⟨s,i,j,k _ _ (.inr d) F,c⟩,r⟩
 | own y=>obtain⟨g,e⟩:=x;exact⟨g,k _ _ (.inl rfl) e⟩
 | xd fs=>obtain⟨m,⟨s,i,j,e,c⟩,r⟩:=x;exact⟨m,⟨s,i,j,k _ _ (.inl rfl) e,c⟩,r⟩
 | rng lo hi=>obtain⟨t,u,v,e⟩:=x;exact⟨t,u,v,k _ _ (.inl rfl) e⟩
 | frz g u ih=>obtain⟨e,q⟩:=x;exact⟨k _ _ (.inl rfl) e,ih q⟩
 | tbl ps =>
  have e:h.get? a=some { cls:=.none,data:=.fields ps }:=x;show h'.get? a=some { cls:=.none,data:=.fields ps };exact k a _ (.inl rfl) e
 | met f y =>
  have e:h.get? a=some (W.methodObj (.ref f) (.ref y)):=x;show h'.get? a=some (W.methodObj (.ref f) (.ref y));exact k a _ (.inl rfl) e
 | ext φ=>obtain⟨p,⟨o,e⟩,A⟩:=x;exact⟨A _ _ p λo q=>k _ _ (.inl rfl) q,⟨o,k _ _ (.inl rfl) e⟩,A⟩
theorem HOk.lt (x:HOk P w H h) (e:H a=some o):a<h.objs.size:=(x a o e).lt
theorem HOk.fresh (x:HOk P w H h) (e:h.objs.size<=a):H a=none:=by
 cases q:H a with
 | none=>rfl
 | some u=>exact absurd (uI (x.lt q) e) (uY _)
theorem HOk.kept (x:HOk P w H h) (k:∀b u,h.get? b=some u->h'.get? b=some u):HOk P w H h':=λa o e =>
 (x a o e).stay (λb u _ q=>k b u q) (λ_ q=>q) λ_ _ q=>q
theorem HOk.laid (x:HOk P w H h) (k:∀b u,h.get? b=some u->h'.get? b=some u) (i:h.objs.size<=a) (d:ObjOk P w (upd H a o) h' a o):HOk P w (upd H a o) h':=λb u e=>by
 have g:=x.fresh i;by_cases f:b=a
 ·subst f;rw[ah] at e;cases e;exact d
 ·rw[aj f] at e;exact(x b u e).stay (λc v _ q=>k c v q) (λc q=>by rw[aj (ak q g)];exact q) λc j q=>by rw[aj (ak q g)];exact q
end
def Rd (H:Hp) (a:Addr) (u:HO):Prop:=H a=some u∨∃o,H a=some (.frz o u)
theorem Rd.ok (r:Rd H a u) (x:HOk P w H h):ObjOk P w H h a u:=by
 rcases r with r | ⟨o,r⟩
 ·exact x a u r
 ·obtain⟨_,q⟩:=x a _ r;exact q
def Mut:Option HO->Prop
 | some (.lst _)=>True
 | some (.dK _)=>True
 | some (.dT _)=>True
 | some (.set _ _)=>True
 | some (.ins _ _ _)=>True
 | some (.ext _)=>True
 | _=>False
section
variable {P:Program}{w:World}{H:Hp}{h h':Heap}{x e:Addr}{o':HO}
theorem HOk.write (p:HOk P w H h) (i:Mut (H x)) (he:e=x ∨ H e=some (.own x)) (k:∀b u, b ≠ e -> h.get? b=some u -> h'.get? b=some u) (n:∃u, h'.get? e=some u)
    (m:ObjOk P w (upd H x o') h' x o'):HOk P w (upd H x o') h':=λb u q=>by
 have d:∀c y,H c=some (.own y)->c≠x:=λc y r z=>by subst z;rw[r] at i;exact i
 have f:∀c j,H c=some (.tup j)->c≠x:=λc j r z=>by subst z;rw[r] at i;exact i
 by_cases g:b=x
 ·subst g;rw[ah] at q;cases q;exact m
 ·rw[aj g] at q;by_cases a:b=e
  ·have o:H b=some (.own x):=by
      rcases he with z | z
      ·exact absurd (a.trans z) g
      ·rw[a];exact z
   rw[q] at o;cases o;obtain⟨v,s⟩:=n;exact⟨v,by rw[a];exact s⟩
  ·refine(p b u q).stay (λc v l r=>k c v ?_ r) (λc r=>by rw[aj (d c b r)];exact r) λc j r=>by rw[aj (f c j r)];exact r
   rcases l with rfl | l
   ·exact a
   ·rintro rfl;rcases he with z | z
    ·exact d c b l z
    ·rw[l] at z;cases z;exact g rfl
end
structure Un (fs ex:List Addr) (H H':Hp) (h h':Heap):Prop where
 keep:∀b o,h.get? b=some o->H b=none->b∉fs->b∉ex->h'.get? b=some o
 slot:∀b o,h.get? b=some o->H b=none->b∈fs->b∉ex->∃sl,h'.get? b=some { o with slots:=sl }
 free:∀b o,h.get? b=some o->H b=none->b∉ex->H' b=none
 there:∀b o,h.get? b=some o->b∉ex->∃o',h'.get? b=some o'
 tups:∀b xs,H b=some (.tup xs)->H' b=some (.tup xs)
 frzs:∀b o u,H b=some (.frz o u)->H' b=some (.frz o u)
 tbls:∀b ps,H b=some (.tbl ps)->∃more,H' b=some (.tbl (ps++more))
section
variable {fs fs' ex ex':List Addr}{H H1 H2:Hp}{h h1 h2 h':Heap}{a x e:Addr}{o:HO}
theorem Un.any (u:Un fs ex H H1 h h1) (q:h.get? b=some i) (n:H b=none) (c:b∉ex):∃sl,h1.get? b=some { i with slots:=sl }:=by
 by_cases a:b∈fs
 ·exact u.slot b i q n a c
 ·exact⟨i.slots,u.keep b i q n a c⟩
theorem Un.kept (k:∀b u,h.get? b=some u->h'.get? b=some u):Un fs ex H H h h' :=
 ⟨λb a q _ _ _=>k b a q,λb a q _ _ _=>⟨a.slots,k b a q⟩,λ_ _ _ n _=>n,λb a q _=>⟨a,k b a q⟩,λ_ _ q=>q,λ_ _ _ q=>q,λ_ c q=>⟨#[],by rw[q];simp⟩⟩
theorem Un.refl:Un fs ex H H h h:=Un.kept λ_ _ q=>q
theorem Un.laid (k:∀b u,h.get? b=some u->h'.get? b=some u) (hp:h.objs.size<=a) (hn:H a=none):Un fs ex H (upd H a o) h h' where
 keep:=λb u q _ _ _=>k b u q
 slot:=λb u q _ _ _=>⟨u.slots,k b u q⟩
 free:=λb u q n _=>by rw[aj (um (uI (ud q) hp))];exact n
 there:=λb u q _=>⟨u,k b u q⟩
 tups:=λb xs q=>by rw[aj (ak q hn)];exact q
 frzs:=λb u xs q=>by rw[aj (ak q hn)];exact q
 tbls:=λb ps q=>⟨#[],by rw[aj (ak q hn),q];simp⟩
theorem Un.write (c:Mut (H x)) (he:e=x∨H e=some (.own x)) (k:∀b u,b≠e->h.get? b=some u->h'.get? b=some u) (f:∃u,h'.get? e=some u):Un fs ex H (upd H x o) h h':=by
 have g:∀b,H b=none->b≠x:=λb n z=>by subst z;rw[n] at c;exact c
 have i:∀b,H b=none->b≠e:=λb n z=>by
  subst z;rcases he with r | r
  ·exact g b n r
  ·rw[n] at r;cases r
 have d:∀b u,H b=some u->¬ Mut (some u)->b≠x:=λb u q l z=>by subst z;rw[q] at c;exact l c
 refine⟨λb u q n _ _=>k b u (i b n) q,λb u q n _ _=>⟨u.slots,k b u (i b n) q⟩,λb u q n _=>by rw[aj (g b n)];exact n,λb u q _=>?_,
  λb j q=>by rw[aj (d b _ q λz=>z)];exact q,λb u j q=>by rw[aj (d b _ q λz=>z)];exact q,λb m q=>⟨#[],by rw[aj (d b _ q λz=>z),q];simp⟩⟩
 by_cases a:b=e
 ·subst a;exact f
 ·exact⟨u,k b u a q⟩
end
def trk (h:Heap) (H:Hp):List Addr:=(List.range h.objs.size).filter λa=>(H a).isSome
def eG (h:Heap) (H:Hp):Heap:=W.hideAll h (trk h H)
theorem ms (h:Heap) (H:Hp):(eG h H).objs.size=h.objs.size:=W.hideAll_size _ _
theorem oQ (e:h.get? b=some o) (n:H b=none):(eG h H).get? b=some o :=
 W.hideAll_get _ e λa=>by
  have q:(H b).isSome=true:=(List.mem_filter.mp a).2;rw[n] at q;simp at q
theorem qp (e:(eG h H).get? b=some o):h.get? b=some o/\H b=none:=by
 have a:h.get? b=some o:=W.of_hideAll (trk h H) e;refine⟨a,?_⟩;cases q:H b with
 | none=>rfl
 | some x =>
  have c:b∈trk h H:=List.mem_filter.mpr ⟨List.mem_range.mpr (ud a),by simp[q]⟩;have z:(eG h H).get? b=none:=W.hideAll_none (trk h H) c;rw[z] at e;cases e
def qI (g h:Heap) (L:Addr):AO_:=(List.range h.objs.size).filterMap λa=>if a=L∨(g.get? a).isSome=true then none else (h.get? a).map λo=>(a,o)
def aQ (g h:Heap) (L d:Addr):AO_:=(qI g h L).filter λp=>decide (p.1≠d)
structure Mod (K:W.Frag) (mg:MS) (base:Heap):Prop where
 kin:K.In base
 glob:base.Ns mainGlobals mg
 blt:∃mb,base.Ns builtinsNs mb/\∀x:Str,x≠"__name__"->mb x=bootBuiltins x
 nolimit:base.NoLimit
structure Cx where
 prog:Program
 w:World
 K:W.Frag
 mg:MS
 base:Heap
 A:Around
 N:LS
 s₀:Shared
 H₀:Hp
 env:Env
 outer:List Env
 stack:List Env
 ex:List Addr
 fn:Str->Bool
 calm:Bool
 pn:AO_
 xe:QS
def frs (l:List Env):List Addr:=l.filterMap (·.frame)
abbrev Cx.fs (X:Cx):List Addr:=frs X.outer
def Vis (sc:Scope) (x:Str):Prop:=sc.names.lookup x=some .local∨sc.names.lookup x=some .cell∨sc.names.lookup x=some .free
def Loc (sc:Scope) (x:Str):Prop:=sc.names.lookup x=some .local∨sc.names.lookup x=some .cell
def Look (env:Env) (h:Heap) (m:MS) (x:Str) (u:Value):Prop :=
 (env.kindOf x=some .local/\m x=some u)∨((env.kindOf x=some .cell∨env.kindOf x=some .free)/\∃c,env.cells.lookup x=some c/\h.IsCell c (some u))
structure Cx.Ok (X:Cx):Prop where
 mod:Mod X.K X.mg X.base
 kind:X.env.scope.kind=.function
 glob:X.env.globals=mainGlobals
 blt:X.env.builtins=builtinsNs
 above:X.s₀.heap.objs.size<=X.env.locals
 inj:∀x y c,X.env.cells.lookup x=some c->X.env.cells.lookup y=some c->x=y
 has:∀x,(X.env.kindOf x=some .cell∨X.env.kindOf x=some .free)->∃c,X.env.cells.lookup x=some c
 cab:∀x c,X.fn x=true->X.env.cells.lookup x=some c->X.s₀.heap.objs.size<=c
 hd:X.calm=true->X.A.handled=none
 frames:X.A.frames=some X.stack
 stk:X.stack=X.outer∨(X.stack=X.env::X.outer/\X.env.frame=some X.env.locals)
 exf:∀b∈X.ex,b≠X.env.locals/\∀x c,X.env.cells.lookup x=some c->c≠b
 bs:∀b o,X.base.get? b=some o->X.s₀.heap.get? b=some o/\X.H₀ b=none
 bsz:X.base.objs.size<=X.s₀.heap.objs.size
 noex:∀b o,X.base.get? b=some o->b∉X.ex
 exfs:∀b∈X.ex,b∉X.fs
 funs:X.s₀.heap.FunFrames X.base X.outer
 frf:∀b∈X.fs,X.H₀ b=none
structure Inv (X:Cx) (pins:AO_) (σ:List (Option V)) (H:Hp) (s:Shared):Prop where
 ok:X.Ok
 os:s.os=X.s₀.os
 bare:AllBare s.gens
 base:Un X.fs X.ex X.H₀ H X.s₀.heap s.heap
 loc:∃m,s.heap.Ns X.env.locals m/\∀(i:Nat) (x:Str) (v:V),X.N[i]? = some x->σ[i]? = some (some v)->Vis X.env.scope x->∃u,RelV v u/\Look X.env s.heap m x u
 cell:∀x c,X.env.cells.lookup x=some c->∃v,s.heap.IsCell c v
 free:H X.env.locals=none
 freeC:∀x c,X.env.cells.lookup x=some c->H c=none
 pin:∀p∈X.pn++pins,s.heap.get? p.1=some p.2/\H p.1=none/\p.1≠X.env.locals/\p.1∉X.fs/\∀v,p.2.data≠.cell v
 hok:HOk X.prog X.w H s.heap
 len:σ.length=X.N.length
section
variable {X:Cx}{pins:AO_}{σ:List (Option V)}{H H':Hp}{s:Shared}{h':Heap}
theorem Cx.Ok.nofr (c:X.Ok) (e:X.base.get? b=some o):b∉X.fs:=λa=>by
 have:=(c.funs.mem a).1;rw[e] at this;cases this
theorem Inv.bs (I:Inv X pins σ H s):∀b o,X.base.get? b=some o->s.heap.get? b=some o/\H b=none:=λb o e =>
 ⟨I.base.keep b o (I.ok.bs b o e).1 (I.ok.bs b o e).2 (I.ok.nofr e) (I.ok.noex b o e),I.base.free b o (I.ok.bs b o e).1 (I.ok.bs b o e).2 (I.ok.noex b o e)⟩
theorem Inv.bk (I:Inv X pins σ H s):∀b o,X.base.get? b=some o->s.heap.get? b=some o:=λb o e=>(I.bs b o e).1
theorem Inv.mod (I:Inv X pins σ H s):Mod X.K X.mg X.base:=I.ok.mod
theorem Inv.kIn (I:Inv X pins σ H s):X.K.In s.heap:=I.ok.mod.kin.keeps I.bk
theorem Inv.lt (I:Inv X pins σ H s):X.env.locals<s.heap.objs.size:=let ⟨_,a,_⟩:=I.loc;a.lt
theorem Inv.sz (I:Inv X pins σ H s):X.s₀.heap.objs.size<=s.heap.objs.size:=uo I.ok.above (uO I.lt)
theorem Inv.nofs (I:Inv X pins σ H s) (h:s.heap.objs.size<=a):a∉X.fs:=λb=>by
 obtain⟨_,o,c,_⟩:=I.ok.funs.mem b;exact absurd (uI (ud c) (uo I.sz h)) (uY _)
theorem Inv.cne (I:Inv X pins σ H s):∀x c,X.env.cells.lookup x=some c->c≠X.env.locals:=λx c e z=>by
 obtain⟨v,o,f,d⟩:=I.cell x c e;obtain⟨m,⟨g,h,i,a,b,_⟩,_⟩:=I.loc;rw[z,a] at f;cases f;rw[b] at d;cases d
theorem Inv.funs (I:Inv X pins σ H s):s.heap.FunFrames X.base X.outer := by
 have f:∀(l:List Env),(∀b∈frs l,b∈X.fs)->X.s₀.heap.FunFrames X.base l->s.heap.FunFrames X.base l:=by
  intro l
  induction l with
  | nil=>intro _ _;trivial
  | cons env r ih =>
   intro g n;obtain⟨m,⟨L,o,c,i,k,j⟩,h⟩:=n;have a:L∈X.fs:=g L (by unfold frs;rw[List.filterMap_cons,c];exact uZ);obtain⟨p,e⟩:=I.base.slot L o k (I.ok.frf L a) a λz=>I.ok.exfs L z a;exact⟨m,⟨L,_,c,i,e,j⟩,ih (λb d=>g b (by unfold frs;rw[List.filterMap_cons,c];exact ur _ d)) h⟩
 exact f X.outer (λ_ d=>d) I.ok.funs
theorem Inv.stack (I:Inv X pins σ H s):s.heap.FunFrames X.base X.stack:=by
 rcases I.ok.stk with e | ⟨e,a⟩
 ·rw[e];exact I.funs
 ·rw[e];obtain⟨m,b,_⟩:=I.loc;refine .cons (by rw[I.ok.kind];decide) a b ?_ I.funs;exact vv (uo I.ok.bsz I.ok.above)
theorem Inv.stkSub (I:Inv X pins σ H s):∀b∈frs X.stack,b∈X.env.locals::X.fs:=λb a=>by
 rcases I.ok.stk with e | ⟨e,c⟩
 ·rw[e] at a;exact ur _ a
 ·rw[e] at a;unfold frs at a;rw[List.filterMap_cons,c] at a;exact a
theorem Inv.stkFree (I:Inv X pins σ H s):∀b∈frs X.stack,H b=none:=λb a=>by
 rcases uf.mp (I.stkSub b a) with e | a
 ·rw[e];exact I.free
 ·obtain⟨_,o,c,_⟩:=I.ok.funs.mem a;exact I.base.free b o c (I.ok.frf b a) λz=>I.ok.exfs b z a
theorem Inv.step {g':Array GenState}{t':Nat}{d':Drawn}{ch:List Addr}(I:Inv X pins σ H s)
    (j:∀b∈ch,(b∈X.ex∨X.s₀.heap.objs.size<=b)/\b≠X.env.locals/\(∀x c,X.env.cells.lookup x=some c->c≠b)/\∀p∈X.pn++pins,p.1≠b)
    (t:∀b o,b≠X.env.locals->b∉X.fs->b∉ch->s.heap.get? b=some o->H b=none->h'.get? b=some o)
    (A:∀b o,b≠X.env.locals->b∈X.fs->b∉ch->s.heap.get? b=some o->H b=none->∃sl,h'.get? b=some { o with slots:=sl }) (f:∀b o,b∉ch->s.heap.get? b=some o->H b=none->H' b=none)
    (B:∀b o,b∉ch->s.heap.get? b=some o->∃o',h'.get? b=some o')
    (J:∀b xs,H b=some (.tup xs)->H' b=some (.tup xs)) (E:∀b o u,H b=some (.frz o u)->H' b=some (.frz o u)) (F:∀b ps,H b=some (.tbl ps)->∃G,H' b=some (.tbl (ps++G)))
    (ns:∀m,s.heap.Ns X.env.locals m->h'.Ns X.env.locals m) (O:HOk X.prog X.w H' h') (Z:AllBare g') :
    Inv X pins σ H' { s with heap:=h',gens:=g',drawn:=d',toks:=t' }:=by
 have L:∀b o,X.s₀.heap.get? b=some o->b≠X.env.locals:=λb o e=>um (uI (ud e) I.ok.above);have w:∀b o,X.s₀.heap.get? b=some o->b∉X.ex->b∉ch:=λb o e a C=>by
  rcases (j b C).1 with z | z
  ·exact a z
  ·exact absurd (uI (ud e) z) (uY _)
 have h:∀x c,X.env.cells.lookup x=some c->∀v,s.heap.IsCell c v->h'.IsCell c v:=λx c e v ⟨o,D,M⟩=>by
  have g:c∉ch:=λz=>(j c z).2.2.1 x c e rfl;by_cases Q:c∈X.fs
  ·obtain⟨sl,q⟩:=A c o (I.cne x c e) Q g D (I.freeC x c e);exact⟨_,q,M⟩
  ·exact⟨o,t c o (I.cne x c e) Q g D (I.freeC x c e),M⟩
 refine⟨I.ok,I.os,Z,⟨λb o e n C a=>?_,λb o e n C a=>?_,λb o e n a=>?_,λb o e a=>?_,λb xs e=>J b xs (I.base.tups b xs e),λb o xs e=>E b o xs (I.base.frzs b o xs e),λb ps e=>?_⟩,?_,λx c e=>?_,?_,λx c e=>?_,λp S=>?_,O,I.len⟩
 ·exact t b o (L b o e) C (w b o e a) (I.base.keep b o e n C a) (I.base.free b o e n a)
 ·obtain⟨sl,y⟩:=I.base.slot b o e n C a;obtain⟨N,K⟩:=A b _ (L b o e) C (w b o e a) y (I.base.free b o e n a);exact⟨N,K⟩
 ·obtain⟨o',y⟩:=I.base.there b o e a;exact f b o' (w b o e a) y (I.base.free b o e n a)
 ·obtain⟨o',y⟩:=I.base.there b o e a;exact B b o' (w b o e a) y
 ·obtain⟨T,y⟩:=I.base.tbls b ps e;obtain⟨W,K⟩:=F b _ y;exact⟨T++W,by rw[K,Array.append_assoc]⟩
 ·obtain⟨m,U,Y⟩:=I.loc;refine⟨m,ns m U,λi x v y K V=>?_⟩;obtain⟨u,r,l⟩:=Y i x v y K V;refine⟨u,r,?_⟩;rcases l with l | ⟨k,c,e,z⟩
  ·exact .inl l
  ·exact .inr ⟨k,c,e,h x c e _ z⟩
 ·obtain⟨v,z⟩:=I.cell x c e;exact⟨v,h x c e v z⟩
 ·obtain⟨m,⟨o,_,_,D,_⟩,_⟩:=I.loc;exact f _ o (λz=>(j _ z).2.1 rfl) D I.free
 ·obtain⟨v,o,D,M⟩:=I.cell x c e;exact f c o (λz=>(j c z).2.2.1 x c e rfl) D (I.freeC x c e)
 ·obtain⟨e,n,P,R,d⟩:=I.pin p S;have g:p.1∉ch:=λz=>(j p.1 z).2.2.2 p S rfl;exact⟨t p.1 p.2 P R g e n,f p.1 p.2 g e n,P,R,d⟩
theorem Inv.un {t':Nat}(I:Inv X pins σ H s) (u:Un X.fs [] H H' s.heap h') (f:HOk X.prog X.w H' h'):Inv X pins σ H' { s with heap:=h',toks:=t' }:=by
 obtain⟨m,⟨o,l,p,h,r⟩,_⟩:=id I.loc;obtain⟨v,j⟩:=u.any h I.free (by simp);exact I.step (g':=s.gens) (d':=s.drawn) (ch:=[]) (λ_ z=>nomatch z) (λb o _ d _ e n=>u.keep b o e n d (by simp)) (λb o _ d _ e n=>u.slot b o e n d (by simp)) (λb o _ e n=>u.free b o e n (by simp)) (λb o _ e=>u.there b o e (by simp)) u.tups u.frzs u.tbls (λq k=>by
  obtain⟨t,g,c,a,i⟩:=k;rw[h] at a;cases a;exact⟨_,g,c,j,i⟩) f I.bare
theorem Inv.call {g':Array GenState}{t':Nat}{d':Drawn}{ch:List Addr}(I:Inv X pins σ H s) (u:Un (frs X.stack) ch H H' s.heap h') (i:HOk X.prog X.w H' h') (v:AllBare g')
    (d:∀b∈ch,(b∈X.ex∨X.s₀.heap.objs.size<=b)/\b≠X.env.locals/\(∀x c,X.env.cells.lookup x=some c->c≠b)/\∀p∈X.pn++pins,p.1≠b) :
    Inv X pins σ H' { s with heap:=h',gens:=g',drawn:=d',toks:=t' }:=by
 obtain⟨m,⟨o,w,y,k,r⟩,_⟩:=id I.loc;obtain⟨C,h⟩:=u.any k I.free λz=>(d _ z).2.1 rfl;exact I.step (ch:=ch) d (λb o h t a e n=>u.keep b o e n (λz=>(uf.mp (I.stkSub b z)).elim h t) a) (λb o _ _ a e n=>u.any e n a) (λb o a e n=>u.free b o e n a) (λb o a e=>u.there b o e a) u.tups u.frzs u.tbls (λA q=>by
  obtain⟨B,j,g,f,l⟩:=q;rw[k] at f;cases f;exact⟨_,j,g,h,l⟩) i v
theorem Inv.turned {t':Nat}(I:Inv X pins σ H s) (k:∀b o,b≠i->s.heap.get? b=some o->h'.get? b=some o) (h:H i=none) (f:i≠X.env.locals)
    (g:i∈X.ex∨X.s₀.heap.objs.size<=i) (w:∀x c,X.env.cells.lookup x=some c->c≠i) (B:∀p∈X.pn++pins,p.1≠i):Inv X pins σ H { s with heap:=h',toks:=t' }:=by
 have d:∀b u,H b=some u->b≠i:=λb u e z=>by rw[z,h] at e;cases e
 refine I.step (g':=s.gens) (d':=s.drawn) (ch:=[i]) (λb A=>?_) (λb o _ _ a e _=>k b o (λz=>a (by simp[z])) e) (λb o _ _ a e _=>⟨o.slots,k b o (λz=>a (by simp[z])) e⟩) (λ_ _ _ _ n=>n)
  (λb o a e=>⟨o,k b o (λz=>a (by simp[z])) e⟩) (λ_ _ e=>e) (λ_ _ _ e=>e) (λb C e=>⟨#[],by rw[e];simp⟩) (λm l=>?_) (λb u e=>?_) I.bare
 ·have e:b=i:=by simpa using A
  subst e;exact⟨g,f,w,B⟩
 ·obtain⟨o,t,y,j,r⟩:=l;exact⟨o,t,y,k _ o (Ne.symm f) j,r⟩
 ·refine(I.hok b u e).stay (λc v a q=>k c v ?_ q) (λ_ q=>q) λ_ _ q=>q;rcases a with z | z
  ·rw[z];exact d b u e
  ·exact d c _ z
theorem Inv.tok (I:Inv X pins σ H s) (t:Nat):Inv X pins σ H { s with toks:=t }:=I.un (h':=s.heap) (t':=t) Un.refl I.hok
theorem Inv.kept (I:Inv X pins σ H s) (k:∀b u,s.heap.get? b=some u->h'.get? b=some u):Inv X pins σ H { s with heap:=h',toks:=t' }:=I.un (Un.kept k) (I.hok.kept k)
theorem Inv.laid (I:Inv X pins σ H s) (k:∀b u,s.heap.get? b=some u->h'.get? b=some u) (d:s.heap.objs.size<=a) (c:ObjOk X.prog X.w (upd H a o) h' a o) :
    Inv X pins σ (upd H a o) { s with heap:=h',toks:=t' }:=I.un (Un.laid k d (I.hok.fresh d)) (I.hok.laid k d c)
theorem Inv.write (I:Inv X pins σ H s) (d:Mut (H x)) (he:e=x∨H e=some (.own x)) (k:∀b u,b≠e->s.heap.get? b=some u->h'.get? b=some u) (a:∃u,h'.get? e=some u)
    (c:ObjOk X.prog X.w (upd H x o) h' x o):Inv X pins σ (upd H x o) { s with heap:=h',toks:=t' }:=I.un (Un.write d he k a) (I.hok.write d he k a c)
theorem Inv.pins_of (I:Inv X pins σ H s) (h:∀p∈pins',s.heap.get? p.1=some p.2/\H p.1=none/\p.1≠X.env.locals/\p.1∉X.fs/\∀v,p.2.data≠.cell v):Inv X pins' σ H s :=
 ⟨I.ok,I.os,I.bare,I.base,I.loc,I.cell,I.free,I.freeC,λp a=>(uF.mp a).elim (λz=>I.pin p (vw _ z)) (h p),I.hok,I.len⟩
theorem fU {N:LS}(e:N.Nodup) {i j:Nat}{x:Str}(a:N[i]? = some x) (b:N[j]? = some x):i=j:=by
 obtain⟨g,d⟩:=uh.mp a;obtain⟨f,c⟩:=uh.mp b;exact(List.getElem_inj e).mp (d.trans c.symm)
theorem hZ {M:Model}{i:Nat}{x:Str}{Q:Unit -> Shared -> Prop}(I:Inv X pins σ H s) (hN:X.N.Nodup) (R:X.N[i]? = some x) (w:Loc X.env.scope x) (r:RelV v u)
    (h:∀s',Inv X pins (σ.set i (some v)) H s'->(∃a,Heap.SameBut a s.heap s'.heap/\(a=X.env.locals∨X.env.cells.lookup x=some a))->Q () s') (hf:X.fn x=true∨X.env.scope.names.lookup x=some .local:=by first | exact .inl rfl | exact .inr rfl | assumption):wpAny M A (storeName X.env x u) Q E s:=by
 obtain⟨m,Z,hl⟩:=id I.loc;have T:(X.env.scope.kind==.class||(X.env.scope.kind==.module&&X.env.locals != X.env.globals))=false:=by rw[I.ok.kind];rfl
 have F:i<σ.length:=by rw[I.len];exact(uh.mp R).1
 have L:=I.cne;have g:∀ {a:Addr} {N:Heap},(∃o,s.heap.get? a=some o/\H a=none)->Heap.SameBut a s.heap N->HOk X.prog X.w H N:=λ{a N} ha f b ob e=>by
  obtain⟨_,_,B⟩:=ha;refine(I.hok b ob e).stay (λc V t q=>(f.2 c ?_).trans q) (λ_ q=>q) λ_ _ q=>q;rintro rfl;rcases t with rfl | t
  ·rw[B] at e;cases e
  ·rw[B] at t;cases t
 rcases w with D | D
 ·refine wpAny_storeName_local D Z (λN a0 f => ?_) T;obtain⟨oL,_,_,a1,_⟩:=id Z;refine h _ ⟨I.ok,I.os,I.bare,⟨λb o e n G w=>?_,λb o e n G w=>?_,I.base.free,λb o e w=>?_,I.base.tups,I.base.frzs,I.base.tbls⟩,⟨_,a0,λj y v' l C e3=>?_⟩,λy c e=>?_,I.free,I.freeC,λp hp=>?_,g ⟨oL,a1,I.free⟩ f,by simpa using I.len⟩ ⟨_,f,.inl rfl⟩
  ·exact(f.2 b (um (uI (ud e) I.ok.above))).trans (I.base.keep b o e n G w)
  ·obtain⟨sl,l⟩:=I.base.slot b o e n G w;exact⟨sl,(f.2 b (um (uI (ud e) I.ok.above))).trans l⟩
  ·obtain⟨o',l⟩:=I.base.there b o e w;exact⟨o',(f.2 b (um (uI (ud e) I.ok.above))).trans l⟩
  ·by_cases J:j=i
   ·subst J;rw[R] at l;cases l;rw[List.getElem?_set_self F] at C;cases C;exact⟨u,r,.inl ⟨D,by simp⟩⟩
   ·rw[List.getElem?_set_ne (Ne.symm J)] at C;obtain⟨u',r',q⟩:=hl j y v' l C e3;refine⟨u',r',?_⟩;rcases q with⟨k,e⟩ | ⟨k,c,e,z⟩
    ·refine .inl ⟨k,?_⟩;have:y≠x:=λe=>J (fU hN l (e ▸ R));simp[this,e]
    ·exact .inr ⟨k,c,e,z.sameBut f (L y c e)⟩
  ·obtain⟨V,z⟩:=I.cell y c e;exact⟨V,z.sameBut f (L y c e)⟩
  ·obtain⟨e,n,W,nf,d⟩:=I.pin p hp;exact⟨(f.2 p.1 W).trans e,n,W,nf,d⟩
 ·have K:X.fn x=true := by
     rcases hf with z | z
     ·exact z
     ·rw[z] at D;cases D
  obtain⟨c,t⟩:=I.ok.has x (.inl D);obtain⟨V,z⟩:=I.cell x c t;refine wpAny_storeName_cell I.ok.kind D t z (λN P f=>?_);obtain⟨oc,O,S⟩:=id z;refine h { s with heap:=N } ⟨I.ok,I.os,I.bare,⟨λb o e n G w=>?_,λb o e n G w=>?_,I.base.free,λb o e w=>?_,I.base.tups,I.base.frzs,I.base.tbls⟩,⟨m,Z.sameBut f (Ne.symm (L x c t)),λj y v' l C e3=>?_⟩,λy Y e=>?_,I.free,I.freeC,λp hp=>?_,g ⟨oc,O,I.freeC x c t⟩ f,by simpa using I.len⟩ ⟨c,f,.inr t⟩
  ·exact(f.2 b (um (uI (ud e) (I.ok.cab x c K t)))).trans (I.base.keep b o e n G w)
  ·obtain⟨sl,l⟩:=I.base.slot b o e n G w;exact⟨sl,(f.2 b (um (uI (ud e) (I.ok.cab x c K t)))).trans l⟩
  ·obtain⟨o',l⟩:=I.base.there b o e w;exact⟨o',(f.2 b (um (uI (ud e) (I.ok.cab x c K t)))).trans l⟩
  ·by_cases J:j=i
   ·subst J;rw[R] at l;cases l;rw[List.getElem?_set_self F] at C;cases C;exact⟨u,r,.inr ⟨.inl D,c,t,P⟩⟩
   ·rw[List.getElem?_set_ne (Ne.symm J)] at C;obtain⟨u',r',q⟩:=hl j y v' l C e3;refine⟨u',r',?_⟩;rcases q with q | ⟨k,Y,e,z'⟩
    ·exact .inl q
    ·refine .inr ⟨k,Y,e,z'.sameBut f ?_⟩;rintro rfl;exact J (fU hN l (I.ok.inj _ _ _ e t ▸ R))
  ·by_cases U:Y=c
   ·subst U;exact⟨_,P⟩
   ·obtain⟨w2,z2⟩:=I.cell y Y e;exact⟨w2,z2.sameBut f U⟩
  ·obtain⟨e,n,W,nf,d⟩:=I.pin p hp;refine⟨(f.2 p.1 ?_).trans e,n,W,nf,d⟩;intro q;rw[q,O] at e;have q':oc=p.2:=ue e;exact d V (by rw[<- q'];exact S)
theorem fV (I:Inv X pins σ H s) (e:X.N.Nodup) (a:X.N[i]? = some x) (b:Loc X.env.scope x) (r:RelV v u)
    (h:∀s',Inv X pins (σ.set i (some v)) H s'->Q () s') (c:X.fn x=true∨X.env.scope.names.lookup x=some .local:=by first | exact .inl rfl | exact .inr rfl | assumption):wpAny M A (storeName X.env x u) Q E s :=
 hZ I e a b r (λs' d _=>h s' d) c
theorem Inv.call' (I:Inv X pins σ H s) (h:s'.os=s.os) (u:Un (frs X.stack) ch H H' s.heap s'.heap) (d:HOk X.prog X.w H' s'.heap) (g:AllBare s'.gens)
    (a:∀b∈ch,(b∈X.ex∨X.s₀.heap.objs.size<=b)/\b≠X.env.locals/\(∀x c,X.env.cells.lookup x=some c->c≠b)/\∀p∈X.pn++pins,p.1≠b):Inv X pins σ H' s':=by
 obtain⟨i,g',d',t',f⟩:=s';have e:f=s.os:=h;subst e;exact I.call (g':=g') (t':=t') (d':=d') u d g a
end
abbrev XK:=Value->Option Addr->Hp->Prop
abbrev St:=List (Option V)
abbrev _root_.SH:=St->Hp->Prop
abbrev VK:=V->Hp->Prop
abbrev TE:=St->Hp->VK->Prop
abbrev TT:=St->Hp->(Bool->Hp->Prop)->Prop
abbrev TA:=St->Hp->(LV->Hp->Prop)->Prop
structure Ends where
 nx:SH
 rt:VK
 bk:SH:=λ_ _=>False
 ct:SH:=λ_ _=>False
abbrev TS:=Ends->SH
def EP (X:Cx) (pins:AO_) (σ:St) (Q:VK) (u:Value) (s':Shared):Prop:=∃v H',Inv X pins σ H' s'/\RelV v u/\Q v H'
def TP (X:Cx) (pins:AO_) (σ:St) (Q:Bool->Hp->Prop) (b:Bool) (s':Shared):Prop:=∃H',Inv X pins σ H' s'/\Q b H'
def AP (X:Cx) (pins:AO_) (σ:St) (Q:LV->Hp->Prop) (us:LW) (s':Shared):Prop:=∃vs H',Inv X pins σ H' s'/\Vals vs us/\Q vs H'
def SP (X:Cx) (pins:AO_) (D:Ends) (f:Flow) (s':Shared):Prop :=
 match f with
 | .next=>∃σ' H',Inv X pins σ' H' s'/\D.nx σ' H'
 | .brk=>∃σ' H',Inv X pins σ' H' s'/\D.bk σ' H'
 | .cont=>∃σ' H',Inv X pins σ' H' s'/\D.ct σ' H'
 | .ret u=>∃v σ' H',Inv X pins σ' H' s'/\RelV v u/\D.rt v H'
def PE (X:Cx) (e:Expr) (t:TE):Prop :=
 ∀(pins:AO_) (s:Shared) (σ:St) (H:Hp) (Q:VK),Inv X pins σ H s->t σ H Q->wpAny (model X.prog X.w) X.A (eval e X.env) (EP X pins σ Q) X.xe s
def PT (X:Cx) (e:Expr) (t:TT):Prop :=
 ∀(pins:AO_) (s:Shared) (σ:St) (H:Hp) (Q:Bool->Hp->Prop),Inv X pins σ H s->t σ H Q->wpAny (model X.prog X.w) X.A (isTrue e X.env (eval e X.env)) (TP X pins σ Q) X.xe s
def PW (X:Cx) (e:Expr) (t:TT):Prop :=
 ∀(whole:Sem Value) (pins:AO_) (s:Shared) (σ:St) (H:Hp) (Q:Bool->Hp->Prop),Inv X pins σ H s->t σ H Q->wpAny (model X.prog X.w) X.A (isTrue e X.env whole) (TP X pins σ Q) X.xe s
theorem PW.pt (h:PW X e t):PT X e t:=h _
def PA (X:Cx) (es:List Expr) (t:TA):Prop :=
 ∀(pos:Pos) (pins:AO_) (s:Shared) (σ:St) (H:Hp) (Q:LV->Hp->Prop),Inv X pins σ H s->t σ H Q->wpAny (model X.prog X.w) X.A (spliced (backTo pos (starEach es X.env))) (AP X pins σ Q) X.xe s
def PS (X:Cx) (st:Stmt) (t:TS):Prop :=
 ∀(pins:AO_) (s:Shared) (σ:St) (H:Hp) (D:Ends),Inv X pins σ H s->t D σ H->wpAny (model X.prog X.w) X.A (exec st X.env) (SP X pins D) X.xe s
def PSs (X:Cx) (st:List Stmt) (t:TS):Prop :=
 ∀(pins:AO_) (s:Shared) (σ:St) (H:Hp) (D:Ends),Inv X pins σ H s->t D σ H->wpAny (model X.prog X.w) X.A (execs st X.env) (SP X pins D) X.xe s
theorem thn (h:wpAny M A t Q E s) (b:∀a s,Q a s->i a s):wpAny M A t i E s:=uR h b λ_ _ x=>x
section
variable {X:Cx}
def qY (i:Nat):TE:=λσ H Q=>∃v,σ[i]? = some (some v)/\Q v H
def tC (v:V):TE:=λ_ H Q=>Q v H
theorem qR (t:X.N[i]? = some x) (o:Vis X.env.scope x) (g:(x==("__debug__":Str))=false:=by decide) (j:(x==("__classdict__":Str))=false:=by decide):PE X (.Name x pos) (qY i):=by
 intro f s q H Q I h;obtain⟨v,e,h⟩:=h;obtain⟨m,n,w⟩:=I.loc;obtain⟨u,r,l⟩:=w i x v t e o;have d:EP X f q Q u s:=⟨v,H,I,r,h⟩
 rcases l with⟨b,p⟩ | ⟨b,c,k,a⟩
 ·exact wpAny_Name (wpAny_loadName_local I.ok.kind b n p d) g
 ·rcases b with b | b
  ·exact wpAny_Name (wpAny_loadName_cell I.ok.kind b k a d) g
  ·exact wpAny_Name (wpAny_loadName_free I.ok.kind b k a d j) g
theorem ag {i j pos}:PE X (.Constant (.int i) j pos) (tC (.int i)):=λ_ _ _ H _ I h=>wpAny_Constant_int ⟨.int i,H,I.tok _,⟨_,rfl⟩,h⟩
theorem bR {b j pos}:PE X (.Constant (.bool b) j pos) (tC (.bl b)):=λ_ _ _ H _ I h=>Constant_bool ⟨.bl b,H,I,rfl,h⟩
theorem cb {j pos}:PE X (.Constant .none j pos) (tC .non):=λ_ _ _ H _ I h=>Constant_none ⟨.non,H,I,rfl,h⟩
theorem ar {x j pos}:PE X (.Constant (.str x) j pos) (tC (.str x)):=λ_ _ _ H _ I h=>Calls.Constant_str ⟨.str x,H,I.tok _,⟨_,rfl⟩,h⟩
def Gl (X:Cx) (x:Str):Prop:=X.env.kindOf x=some .globalImplicit
theorem ef (I:Inv X pins σ H s) (a:Gl X x) (c:X.mg x=some u) (h:Q u s)
    (b:(x==("__debug__":Str))=false:=by decide):wpAny (model X.prog X.w) X.A (eval (.Name x pos) X.env) Q E s :=
 Calls.Name_function_global I.ok.kind a (Calls.loadGlobal_global (by rw[I.ok.glob];exact I.mod.glob.keeps I.bk) c h) b
theorem dE (I:Inv X pins σ H s) (f:Gl X x) (b:X.mg x=none) (a:bootBuiltins x=some u) (h:Q u s)
    (e:x≠"__name__":=by decide) (g:(x==("__debug__":Str))=false:=by decide):wpAny (model X.prog X.w) X.A (eval (.Name x pos) X.env) Q E s:=by
 obtain⟨i,d,c⟩:=I.mod.blt;exact Calls.Name_function_global I.ok.kind f (Calls.loadGlobal_builtin (by rw[I.ok.glob];exact I.mod.glob.keeps I.bk) b (by rw[I.ok.blt];exact d.keeps I.bk) ((c x e).trans a) h) g
theorem aO (b:Gl X x) (a:X.mg x=some u) (r:RelV v u) (c:(x==("__debug__":Str))=false:=by decide):PE X (.Name x pos) (tC v) :=
 λ_ _ _ H _ I h=>ef I b a ⟨v,H,I,r,h⟩ c
theorem dv (d:Gl X x) (b:X.mg x=none) (a:bootBuiltins x=some u) (r:RelV v u) (c:x≠"__name__":=by decide) (e:(x==("__debug__":Str))=false:=by decide):PE X (.Name x pos) (tC v) :=
 λ_ _ _ H _ I h=>dE I d b a ⟨v,H,I,r,h⟩ c e
variable {a b:Expr}{ta tb:TE}{pos:Pos}
def tB (t:TE):TT:=λσ H Q=>t σ H λx H1=>∃c,x=.bl c/\Q c H1
theorem aP (h:PE X e t) (he:∀i,isTrue e X.env i=(do let v ← i;standAt e.pos;holding [v] (truthy v)):=by intro _;rfl):PT X e (tB t):=by
 intro a s g H Q I c;refine isTrue_plain (thn (h a s g H _ I c) λv l ⟨x,f,j,b,k⟩=>?_) (he _);obtain⟨d,rfl,q⟩:=k;cases b;exact wpAny_truthy_bool ⟨f,j,q⟩
variable {tA tB':TT}{aQ:List Expr}
def tAnd (t u:TT):TT:=λσ H Q=>t σ H λc H1=>if c=true then u σ H1 Q else Q false H1
def tOr (t u:TT):TT:=λσ H Q=>t σ H λc H1=>if c=true then Q true H1 else u σ H1 Q
def tNot (t:TT):TT:=λσ H Q=>t σ H λc H1=>Q (!c) H1
theorem fN (d:PT X a tA):PW X (.BoolOp .And [a] pos) tA:=by
 intro i b s f H Q I h;refine isTrue_and (thn (d b s f H Q I h) λc g e=>?_);cases c with
 | true=>exact isTrue_and_nil e
 | false=>exact e
theorem bH (d:PT X a tA):PW X (.BoolOp .Or [a] pos) tA:=by
 intro i b s f H Q I h;refine isTrue_or (thn (d b s f H Q I h) λc g e=>?_);cases c with
 | false=>exact isTrue_or_nil e
 | true=>exact e
theorem gz (k:PT X a tA) (j:PW X (.BoolOp .And (b::aQ) pos) tB'):PW X (.BoolOp .And (a::b::aQ) pos) (tAnd tA tB'):=by
 intro m d s f H Q I h;refine isTrue_and (thn (k d s f H _ I h) λc l ⟨e,g,i⟩=>?_);cases c with
 | true=>exact j m d l f e Q g i
 | false=>exact⟨e,g,i⟩
theorem bt (k:PT X a tA) (j:PW X (.BoolOp .Or (b::aQ) pos) tB'):PW X (.BoolOp .Or (a::b::aQ) pos) (tOr tA tB'):=by
 intro m d s f H Q I h;refine isTrue_or (thn (k d s f H _ I h) λc l ⟨e,g,i⟩=>?_);cases c with
 | true=>exact⟨e,g,i⟩
 | false=>exact j m d l f e Q g i
theorem aT (d:PT X a tA):PT X (.UnaryOp .Not a pos) (tNot tA):=by
 intro b s f H Q I h;exact isTrue_not (d b s f H (λc e=>Q (!c) e) I h)
def t0 (ta tb:TE):TE:=λσ H Q=>ta σ H λx H1=>∃c,x=.bl c/\if c=true then tb σ H1 Q else Q (.bl false) H1
def sZ (ta:TE):TE:=λσ H Q=>ta σ H λx H1=>∃c,x=.bl c/\Q (.bl (!c)) H1
theorem cA {i}(h:PE X a t):PE X (.BoolOp i [a] pos) t:=λb s d H Q I c=>BoolOp_one (h b s d H Q I c)
theorem cw (l:PE X a ta) (k:PE X (.BoolOp .And (b::aQ) pos) tb):PE X (.BoolOp .And (a::b::aQ) pos) (t0 ta tb):=by
 intro d s g H Q I h;refine BoolOp_and (thn (l d s g H _ I h) λv m ⟨x,f,i,j,e⟩=>?_);obtain⟨c,rfl,e⟩:=e;cases j;refine wpAny_truthy_bool ?_;cases c with
 | true=>exact k d m g f Q i e
 | false=>exact⟨.bl false,f,i,rfl,e⟩
theorem rA (f:PE X a ta):PE X (.UnaryOp .Not a pos) (sZ ta):=by
 intro b s i H Q I h;refine UnaryOp_ (thn (f b s i H _ I h) λv k ⟨x,g,j,e,d⟩=>?_);obtain⟨c,rfl,d⟩:=d;cases e;exact not_of (wpAny_truthy_bool ⟨.bl (!c),g,j,rfl,d⟩)
end
def SqL (K:W.Frag) (H:Hp) (a:Addr) (xs:LV):Prop :=
 Rd H a (.lst xs) ∨
  ∃(o:Obj) (its:Array Value) (n:Nat),K.lookup a=some o/\o.cls=.type "list"/\o.dict=none/\o.data=.seq its n/\its.size<=sizeLine/\Vals xs its.toList
def SqT (K:W.Frag) (H:Hp) (a:Addr) (xs:LV):Prop :=
 Rd H a (.tup xs) ∨
  ∃(o:Obj) (its:Array Value) (n:Nat),K.lookup a=some o/\o.cls=.type "tuple"/\o.data=.seq its n/\its.size<=sizeLine/\Vals xs its.toList
def absV:Value->Option V
 | .none=>some .non
 | .bool b=>some (.bl b)
 | .int i _=>some (.int i)
 | .str x _=>some (.str x)
 | .bytes b _=>some (.byt b)
 | .float b _=>some (.flt b)
 | .ref a=>some (.ref a)
 | .type n=>some (.ty n)
 | _=>none
theorem RelV.abs (r:RelV x u):absV u=some x:=by
 cases x with
 | non=>cases r;rfl
 | bl _=>cases r;rfl
 | int _=>obtain⟨t,rfl⟩:=r;rfl
 | str _=>obtain⟨t,rfl⟩:=r;rfl
 | byt _=>obtain⟨t,rfl⟩:=r;rfl
 | flt _=>obtain⟨t,rfl⟩:=r;rfl
 | ref _=>cases r;rfl
 | ty _=>cases r;rfl
theorem RelV.inj (r:RelV x u) (q:RelV y u):x=y:=ue (r.abs.symm.trans q.abs)
theorem Vals.inj:∀ {xs ys:LV}{us:LW},Vals xs us->Vals ys us->xs=ys
 | _,_,_,.nil,.nil=>rfl
 | _,_,_,.cons r t,.cons r' t'=>by rw[r.inj r',Vals.inj t t']
section
variable {X:Cx}{pins:AO_}{σ:St}{H:Hp}{s:Shared}{a:Addr}{xs ys:LV}
theorem SqL.of {K:W.Frag}(h:H a=some (.lst xs)):SqL K H a xs:=.inl (.inl h)
theorem SqT.of {K:W.Frag}(h:H a=some (.tup xs)):SqT K H a xs:=.inl (.inl h)
theorem Inv.list (I:Inv X pins σ H s) (h:SqL X.K H a xs):∃its:LW,Vals xs its/\PlainL s.heap a its.toArray/\xs.length<=sizeLine:=by
 rcases h with h | ⟨o,its,n,b,c,d,f,g,r⟩
 ·obtain⟨z,its,n,r,e⟩:=h.ok I.hok;exact⟨its,r,⟨_,n,e,rfl,rfl,rfl⟩,z⟩
 ·refine⟨its.toList,r,⟨o,n,I.kIn a o b,c,d,by simpa using f⟩,?_⟩;have e:=r.length;simp only[Array.length_toList] at e;omega
theorem Inv.tuple (I:Inv X pins σ H s) (h:SqT X.K H a xs):∃its:LW,Vals xs its/\IsTup s.heap a its.toArray/\xs.length<=sizeLine:=by
 rcases h with h | ⟨o,its,n,b,c,d,f,r⟩
 ·obtain⟨z,its,r,p⟩:=h.ok I.hok;exact⟨its,r,p.tup,z⟩
 ·refine⟨its.toList,r,⟨o,I.kIn a o b,c,n,by simpa using d⟩,?_⟩;have e:=r.length;simp only[Array.length_toList] at e;omega
theorem Inv.list_inj (I:Inv X pins σ H s) (h:SqL X.K H a xs) (h':SqL X.K H a ys):xs=ys:=by
 obtain⟨c,r,⟨o,n,e,_,_,d⟩,_⟩:=I.list h;obtain⟨b,j,⟨k,l,f,_,_,g⟩,_⟩:=I.list h';rw[e] at f;cases f;rw[d] at g;injection g with i _;have:c=b:=by simpa using congrArg Array.toList i
 subst this;exact r.inj j
theorem Inv.tuple_inj (I:Inv X pins σ H s) (h:SqT X.K H a xs) (h':SqT X.K H a ys):xs=ys:=by
 obtain⟨c,r,⟨o,e,_,n,d⟩,_⟩:=I.tuple h;obtain⟨b,j,⟨k,f,_,l,g⟩,_⟩:=I.tuple h';rw[e] at f;cases f;rw[d] at g;injection g with i _;have:c=b:=by simpa using congrArg Array.toList i
 subst this;exact r.inj j
end
abbrev Cx.wish (X:Cx) (E:QS):Cx:={ X with xe:=E }
abbrev Cx.nox (X:Cx):Cx:=X.wish λ_ _=>False
theorem Cx.Ok.wish {X:Cx}(a:X.Ok) (E:QS):(X.wish E).Ok :=
 ⟨a.mod,a.kind,a.glob,a.blt,a.above,a.inj,a.has,a.cab,a.hd,a.frames,a.stk,a.exf,a.bs,a.bsz,a.noex,a.exfs,a.funs,a.frf⟩
theorem Cx.Ok.unwish {X:Cx}{E:QS}(a:(X.wish E).Ok):X.Ok :=
 ⟨a.mod,a.kind,a.glob,a.blt,a.above,a.inj,a.has,a.cab,a.hd,a.frames,a.stk,a.exf,a.bs,a.bsz,a.noex,a.exfs,a.funs,a.frf⟩
section
variable {X:Cx}{pins:AO_}{σ:St}{H:Hp}{s:Shared}{E:QS}
theorem Inv.wish (I:Inv X pins σ H s) (E:QS):Inv (X.wish E) pins σ H s:=⟨I.ok.wish E,I.os,I.bare,I.base,I.loc,I.cell,I.free,I.freeC,I.pin,I.hok,I.len⟩
theorem Inv.unwish (I:Inv (X.wish E) pins σ H s):Inv X pins σ H s:=⟨I.ok.unwish,I.os,I.bare,I.base,I.loc,I.cell,I.free,I.freeC,I.pin,I.hok,I.len⟩
theorem SP.unwish (h:SP (X.wish E) pins D f s'):SP X pins D f s':=by
 cases f with
 | next=>obtain⟨a,b,I,q⟩:=h;exact⟨a,b,I.unwish,q⟩
 | brk=>obtain⟨a,b,I,q⟩:=h;exact⟨a,b,I.unwish,q⟩
 | cont=>obtain⟨a,b,I,q⟩:=h;exact⟨a,b,I.unwish,q⟩
 | ret u=>obtain⟨v,a,b,I,r,q⟩:=h;exact⟨v,a,b,I.unwish,r,q⟩
theorem PSs.nox {st:List Stmt}{t:TS}(h:PSs X.nox st t):PSs X st t:=λa s c H D I b =>
 uR (h a s c H D (I.wish _) b) (λ_ _ q=>q.unwish) λ_ _ z=>False.elim z
end
section
variable {X:Cx}{st:Stmt}{aQ:List Stmt}{t u:TS}{e:Expr}{te:TE}{pos:Pos}
def ph:TS:=λD σ H=>D.nx σ H
def nG (t u:TS):TS:=λD σ H=>t { D with nx:=u D } σ H
theorem ay:PSs X [] ph:=λ_ _ a H _ I h=>wpAny_execs_nil ⟨a,H,I,h⟩
theorem af (i:PS X st t) (d:PSs X aQ u):PSs X (st::aQ) (nG t u):=by
 intro a s g H D I h;refine wpAny_execs_cons (thn (i a s g H { D with nx:=u D } I h) λf c q=>?_);cases f with
 | next =>
  obtain⟨b,j,e,q⟩:=q;exact d a c b j D e q
 | ret v=>exact q
 | brk=>exact q
 | cont=>exact q
theorem ai (c:PS X st t):PSs X [st] t:=by
 intro a s b H D I h;refine wpAny_execs_cons (thn (c a s b H D I h) λf d q=>?_);cases f with
 | next=>exact wpAny_execs_nil q
 | ret v=>exact q
 | brk=>exact q
 | cont=>exact q
theorem Inv.quiet (I:Inv X pins σ H s):interactive X.env=false:=by simp[interactive,I.ok.kind]
def tW (te:TE):TS:=λD σ H=>te σ H λ_ H1=>D.nx σ H1
theorem cm (he:PE X e te) (g:swapsWith e none pos.line X.env=pure false:=by rfl):PS X (.Expr e pos) (tW te):=by
 intro a s b H D I h;exact wpAny_Expr_any (thn (he a s b H _ I h) λv j ⟨x,c,d,i,f⟩=>⟨b,c,d,f⟩) I.quiet g
def tRet (te:TE):TS:=λD σ H=>te σ H D.rt
theorem av (he:PE X e te):PS X (.Return (some e) pos) (tRet te):=by
 intro a s b H D I h;exact wpAny_Return_some (thn (he a s b H _ I h) λv i ⟨x,d,f,c,g⟩=>⟨x,b,d,f,c,g⟩)
def tIfS (c:TT) (t u:TS):TS:=λD σ H=>c σ H λb H1=>if b=true then t D σ H1 else u D σ H1
theorem aD (n:PT X c tc) (m:PSs X a t) (l:PSs X b u):PS X (.If c a b pos) (tIfS tc t u):=by
 intro e s f H D I h;refine wpAny_If (thn (n e s f H _ I h) λd g ⟨i,j,k⟩=>?_);cases d with
 | true=>exact m e g f i D j k
 | false=>exact l e g f i D j k
def mG:TS:=λ_ _ _=>False
theorem bZ:PS X st mG:=λ_ _ _ _ _ _ h=>h.elim
theorem ii:PSs X i mG:=λ_ _ _ _ _ _ h=>h.elim
end
abbrev TG:=V->St->Hp->(SH)->Prop
abbrev TGs:=LV->St->Hp->(SH)->Prop
def PG (X:Cx) (target:Expr) (t:TG):Prop :=
 ∀(pins:AO_) (s:Shared) (σ:St) (H:Hp) (v:V) (u:Value) (Q:SH),Inv X pins σ H s->RelV v u->t v σ H Q ->
  wpAny (model X.prog X.w) X.A (assign target X.env u) (λ_ s'=>∃σ' H',Inv X pins σ' H' s'/\Q σ' H') X.xe s
def PGs (X:Cx) (ts:List Expr) (t:TGs):Prop :=
 ∀(pins:AO_) (s:Shared) (σ:St) (H:Hp) (vs:LV) (us:LW) (Q:SH),Inv X pins σ H s->Vals vs us->t vs σ H Q ->
  wpAny (model X.prog X.w) X.A (assignInOrder ((assignEach ts X.env).map (·.2)) us) (λ_ s'=>∃σ' H',Inv X pins σ' H' s'/\Q σ' H') X.xe s
abbrev sS:=V->V->V->Hp->(Hp->Prop)->Prop
def oa (X:Cx) (t:sS):Prop :=
 ∀(pins:AO_) (s:Shared) (σ:St) (H:Hp) (o i v:V) (ov iv u:Value) (Q:Hp->Prop),Inv X pins σ H s->RelV o ov->RelV i iv->RelV v u->t o i v H Q ->
  wpAny (model X.prog X.w) X.A (setItem ov iv u) (λ_ s'=>∃H',Inv X pins σ H' s'/\Q H') X.xe s
section
variable {X:Cx}{pos:Pos}
def fD (i:Nat):TG:=λv σ H Q=>Q (σ.set i (some v)) H
theorem aR (f:X.N.Nodup) (b:X.N[i]? = some x) (c:Loc X.env.scope x) (d:X.fn x=true∨X.env.scope.names.lookup x=some .local:=by first | exact .inl rfl | exact .inr rfl | assumption):PG X (.Name x pos) (fD i):=by
 intro a s j H v u Q I r h;exact wpAny_assign_Name (fV I f b c r (λg e=>⟨_,H,e,h⟩) d)
def gNil:TGs:=λvs σ H Q=>vs=[]/\Q σ H
def tY (t:TG) (u:TGs):TGs:=λvs σ H Q=>∃v r,vs=v::r/\t v σ H λσ' H'=>u r σ' H' Q
theorem cL:PGs X [] gNil:=by
 intro a s b H c d Q I r h;obtain⟨e,h⟩:=h;subst e;cases r;exact assignInOrder_nil ⟨b,H,I,h⟩
theorem ba (d:PG X e t) (g:PGs X es u)
    (l:(assignEach (e::es) X.env).map (·.2)=assign e X.env::(assignEach es X.env).map (·.2):=by rfl):PGs X (e::es) (tY t u):=by
 intro a s i H p o Q I r h;obtain⟨v,n,m,h⟩:=h;subst m;cases r with
 | cons r rr =>
  rw[l];refine assignInOrder_cons (thn (d a s i H _ _ _ I r h) λ_ f ⟨b,c,j,k⟩=>?_);exact g a f b c _ _ Q j rr k
def qU (K:W.Frag) (n:Nat) (t:TGs):TG:=λv σ H Q=>∃a xs,v=.ref a/\SqT K H a xs/\xs.length=n/\t xs σ H Q
theorem rW (y:X.calm=true) (h:PGs X es t)
    (l:(assignEach es X.env).length=n:=by rfl) (f:(assignEach es X.env).findIdx? (·.1)=none:=by rfl):PG X (.Tuple es k pos) (qU X.K n t):=by
 intro c s g H v u Q I r d;obtain⟨a,j,A,B,z,d⟩:=d;subst A;cases r;obtain⟨q,i,x,C⟩:=I.tuple B;refine assign_Tuple_tuple (I.ok.hd y) x (by simp[l,<- z,i.length]) f λm w=>?_;have p:Inv X c g H { s with heap:=m }:=I.kept (t':=s.toks) λb o e=>w b o (um (ud e)) e;exact h c _ g H j _ Q p (by simpa using i) d
def gSub (to ti:TE) (t:sS):TG:=λv σ H Q=>to σ H λo H1=>ti σ H1 λi H2=>t o i v H2 λH3=>Q σ H3
theorem bT (g:PE X o to) (j:PE X i J) (A:oa X t)
    (B:∀v,assign (.Subscript o i pos) X.env v=(do
     let z ← holding [v] (eval o X.env)
     let G ← holding [v,z] (eval i X.env)
     standAt pos
     holding [v,z,G] (setItem z G v)
     release [v,z,G] []):=by intro _;rfl):PG X (.Subscript o i pos) (gSub to J t):=by
 intro a s b H v u Q I r h;rw[B];refine me (uU (thn (g a s b H _ I h) λz k ⟨x,e,l,q,m⟩=>?_));refine me (uU (thn (j a k b e _ l m) λG D ⟨y,p,f,d,c⟩=>?_));refine me (wpAny_standAt (me (uU (thn (A a D b p x y v z G u _ f q d r c) λ_ E ⟨n,C,w⟩=>?_))));exact wpAny_release ⟨b,n,C,w⟩
def nA (te:TE) (g:TG):TS:=λD σ H=>te σ H λx H1=>g x σ H1 D.nx
theorem cg (he:PE X e te) (n:PG X tg g) (m:swapsWithSole [tg] e pos.line X.env=pure false:=by rfl) (i:swappedStores [tg] e X.env=pure none:=by rfl)
    (d:(assignEach [tg] X.env).map (·.2)=[assign tg X.env]:=by rfl):PS X (.Assign [tg] e pos) (nA te g):=by
 intro a s b H D I h;refine wpAny_Assign_stores (thn (he a s b H _ I h) λv f ⟨x,c,j,l,k⟩=>?_) m i;rw[d];exact thn (n a f b c x v _ j l k) λ_ o q=>q
theorem aq (n:X.N.Nodup) (d:X.N[i]? = some x) (m:Loc X.env.scope x) (he:PE X e te) (o:swapsWith e (some (.Name x z)) pos.line X.env=pure false:=by rfl) (f:X.fn x=true∨X.env.scope.names.lookup x=some .local:=by first | exact .inl rfl | exact .inr rfl | assumption) :
    PS X (.Assign [.Name x z] e pos) (nA te (fD i)):=by
 intro a s g H D I h;refine wpAny_Assign_Name (thn (he a s g H _ I h) λv p ⟨y,b,j,l,k⟩=>?_) o;exact fV j n d m l (λq c=>⟨_,b,c,k⟩) f
end
structure It where
 go:Nat->Hp->Prop
 yld:Nat->Hp->V->Hp->Prop
 stop:Nat->Hp->Prop
def cK (X:Cx) (pins:AO_) (H:Hp) (b:Addr):Prop :=
 H b=none/\b≠X.env.locals/\b∉X.fs/\(b∈X.ex∨X.s₀.heap.objs.size<=b)/\(∀x c,X.env.cells.lookup x=some c->c≠b)/\∀p∈X.pn++pins,p.1≠b
theorem Inv.fpOk (I:Inv X pins σ H s) (a:s.heap.objs.size<=b) (d:H' b=none):cK X pins H' b:=by
 refine⟨d,Nat.ne_of_gt (uI I.lt a),I.nofs a,.inr (uo I.sz a),λx c e z=>?_,λp f z=>?_⟩
 ·obtain⟨v,q⟩:=I.cell x c e;exact absurd (uI q.lt (by rw[z];exact a)) (uY _)
 ·exact absurd (uI (ud (I.pin p f).1) (by rw[z];exact a)) (uY _)
structure Turn (P:Program) (w:World) (K:W.Frag) (tg:Expr) (J:It) (fp:List Addr) (it:Addr) (tn:Nat -> Heap -> Prop):Prop where
 mem:it∈fp
 obj:∀i h,tn i h->∀b∈fp,∃o,h.get? b=some o/\∀v,o.data≠.cell v
 keep:∀i h h',tn i h->(∀b∈fp,∀o,h.get? b=some o->h'.get? b=some o)->tn i h'
 item:∀(X:Cx),X.prog=P->X.w=w->X.K=K->X.calm=true->∀(i:Nat) (pins:AO_) (s:Shared) (σ:St) (H:Hp) (E:QS),Inv X pins σ H s->(∀b∈fp,cK X pins H b)->tn i s.heap->J.go i H ->
  wpAny (model P w) X.A (pyNext (.ref it)) (λr s1=>∃u,r=some u /\
   wpAny (model P w) X.A (letOwnedTupleGo tg (.ref it) u) (λ_ s2=>∃x H',Inv X pins σ H' s2/\RelV x u/\J.yld i H x H'/\tn (i+1) s2.heap/\∀b∈fp,H' b=none) E s1) E s
 done:∀(X:Cx),X.prog=P->X.w=w->X.K=K->X.calm=true->∀(i:Nat) (pins:AO_) (s:Shared) (σ:St) (H:Hp) (E:QS),Inv X pins σ H s->(∀b∈fp,cK X pins H b)->tn i s.heap->J.stop i H ->
  wpAny (model P w) X.A (pyNext (.ref it)) (λr s1=>r=none/\Inv X pins σ H s1) E s
 self:∀(A:Around) (i:Nat) (s:Shared) (Q:QS) (E:QS),tn i s.heap->Q (.ref it) s->wpAny (model P w) A (pyIter (.ref it)) Q E s
abbrev TI:=St->Hp->(It->Hp->Prop)->Prop
def PIE (X:Cx) (pins:AO_) (σ:St) (tg:Expr) (R:It->Hp->Prop) (itv:Value) (s2:Shared):Prop :=
 ∃(it:Addr) (fp:List Addr) (tn:Nat->Heap->Prop) (J:It) (H':Hp),itv=.ref it/\Inv X pins σ H' s2/\Turn X.prog X.w X.K tg J fp it tn/\tn 0 s2.heap/\(∀b∈fp,cK X pins H' b)/\R J H'
def PI (X:Cx) (tg iter:Expr) (wi:TI):Prop :=
 ∀(pins:AO_) (s:Shared) (σ:St) (H:Hp) (R:It->Hp->Prop),Inv X pins σ H s->wi σ H R ->
  wpAny (model X.prog X.w) X.A (eval iter X.env) (λv s1=>wpAny (model X.prog X.w) X.A (pyIter v) (PIE X pins σ tg R) X.xe s1) X.xe s
theorem iy (e:s.heap.get? i=some o) (b:o.cls=.type n) (d:o.data=.fields z)
    (c:["enumerate","zip","dict_itemiterator","dict_reverseitemiterator","odict_iterator","itertools.zip_longest","itertools.pairwise"].contains n=false) (a:Q () s):wpAny M A (letOwnedTupleGo tg (.ref i) u) Q E s:=by
 unfold letOwnedTupleGo;cases tg <;> first
  | exact uc a
  | (cases u <;> first
      | exact uc a
      | (refine me (wpAny_load e ?_)
         rw[b,d];show wpAny M A (if (["enumerate","zip","dict_itemiterator","dict_reverseitemiterator","odict_iterator","itertools.zip_longest","itertools.pairwise"].contains n&&z[0]?==some (rawInt _))=true then _ else _) Q E s;rw[if_neg (by intro h;rw[c,Bool.false_and] at h;cases h)];exact uc a))
def Itl (K:W.Frag) (a:Addr):It :=
 ⟨λi H=>∃xs x,SqL K H a xs/\xs[i]? = some x,λi H x H'=>H'=H/\∀xs,SqL K H a xs->xs[i]? = some x,λi H=>∃xs,SqL K H a xs/\xs.length<=i⟩
def Itt (K:W.Frag) (a:Addr):It :=
 ⟨λi H=>∃xs x,SqT K H a xs/\xs[i]? = some x,λi H x H'=>H'=H/\∀xs,SqT K H a xs->xs[i]? = some x,λi H=>∃xs,SqT K H a xs/\xs.length<=i⟩
def Itr (lo:Int) (n:Nat):It:=⟨λi _=>i<n,λi H x H'=>H'=H/\x=.int (lo+i),λi _=>n<=i⟩
theorem hR {P:Program}{w:World}{K:W.Frag}{tg:Expr}(a it:Addr):Turn P w K tg (Itl K a) [it] it (λi h=>h.IsListIter it a i) where
 mem:=by simp
 obj:=λi h st b hb=>by
  have e:b=it:=by simpa using hb
  subst e;obtain⟨o,e,c,d⟩:=st;exact⟨o,e,λv z=>by rw[d] at z;cases z⟩
 keep:=λi h h' st k=>st.at λo e=>k it (by simp) o e
 item:=by
  intro X hP hw hK hc i pins s σ H E I hf st hg;subst hP hw hK;obtain⟨xs,x,hq,hx⟩:=hg;obtain⟨its,rv,p,hz⟩:=I.list hq;obtain⟨u,hu,ru⟩:=rv.get hx;obtain⟨f0,f1,f2,f3,f4,f5⟩:=hf it (by simp);refine wpAny_pyNext_list_item st p.isList (x:=u) (by simpa using hu) λh' st' sb=>?_;have I1:Inv X pins σ H { s with heap:=h' }:=I.turned (t':=s.toks) (λb o hb e=>(sb.2 b hb).trans e) f0 f1 f3 f4 f5;obtain⟨o,e,c,d⟩:=id st';exact⟨u,rfl,iy (s:={ s with heap:=h' }) e c d (by decide) ⟨x,H,I1,ru,⟨rfl,λys hy=>by rw[I.list_inj hy hq];exact hx⟩,st',λb hb=>(hf b hb).1⟩⟩
 done:=by
  intro X hP hw hK hc i pins s σ H E I hf st hg;subst hP hw hK;obtain⟨xs,hq,hx⟩:=hg;obtain⟨its,rv,p,hz⟩:=I.list hq;obtain⟨f0,f1,f2,f3,f4,f5⟩:=hf it (by simp);have hl:=rv.length;exact wpAny_pyNext_list_end (I.ok.hd hc) st p.isList (by simp;omega) λh' eb=>⟨rfl,I.turned (t':=s.toks) (λb o hb e=>eb b o hb e) f0 f1 f3 f4 f5⟩
 self:=λ_ _ _ _ _ st h=>wpAny_pyIter_listiter st h
theorem kS {P:Program}{w:World}{K:W.Frag}{tg:Expr}(a it:Addr):Turn P w K tg (Itt K a) [it] it (λi h=>h.IsTupleIter it a i) where
 mem:=by simp
 obj:=λi h st b hb=>by
  have e:b=it:=by simpa using hb
  subst e;obtain⟨o,e,c,d⟩:=st;exact⟨o,e,λv z=>by rw[d] at z;cases z⟩
 keep:=λi h h' st k=>st.at λo e=>k it (by simp) o e
 item:=by
  intro X hP hw hK hc i pins s σ H E I hf st hg;subst hP hw hK;obtain⟨xs,x,hq,hx⟩:=hg;obtain⟨its,rv,p,hz⟩:=I.tuple hq;obtain⟨u,hu,ru⟩:=rv.get hx;obtain⟨f0,f1,f2,f3,f4,f5⟩:=hf it (by simp);refine wpAny_pyNext_tuple_item st (show s.heap.IsTuple a its.toArray from p) (x:=u) (by simpa using hu) λh' st' sb=>?_;have I1:Inv X pins σ H { s with heap:=h' }:=I.turned (t':=s.toks) (λb o hb e=>(sb.2 b hb).trans e) f0 f1 f3 f4 f5;obtain⟨o,e,c,d⟩:=id st';exact⟨u,rfl,iy (s:={ s with heap:=h' }) e c d (by decide) ⟨x,H,I1,ru,⟨rfl,λys hy=>by rw[I.tuple_inj hy hq];exact hx⟩,st',λb hb=>(hf b hb).1⟩⟩
 done:=by
  intro X hP hw hK hc i pins s σ H E I hf st hg;subst hP hw hK;obtain⟨xs,hq,hx⟩:=hg;obtain⟨its,rv,p,hz⟩:=I.tuple hq;obtain⟨f0,f1,f2,f3,f4,f5⟩:=hf it (by simp);have hl:=rv.length;exact wpAny_pyNext_tuple_end (I.ok.hd hc) st (show s.heap.IsTuple a its.toArray from p) (by simp;omega) λh' eb=>⟨rfl,I.turned (t':=s.toks) (λb o hb e=>eb b o hb e) f0 f1 f3 f4 f5⟩
 self:=λ_ _ _ _ _ st h=>wpAny_pyIter_tupleiter st h
theorem lb {P:Program}{w:World}{K:W.Frag}{tg:Expr}(it:Addr) (lo:Int) (n:Nat):Turn P w K tg (Itr lo n) [it] it (λi h => IsRangeIter h it (lo+(i:Nat) * 1) ((n:Int)-(i:Nat)) 1) where
 mem:=by simp
 obj:=λi h st b hb=>by
  have e:b=it:=by simpa using hb
  subst e;exact⟨_,st,λv z=>by
   have z':Data.fields _=Data.cell v:=z;cases z'⟩
 keep:=λi h h' st k=>k it (by simp) _ st
 item:=by
  intro X hP hw hK hc i pins s σ H E I hf st hg;subst hP hw hK;obtain⟨f0,f1,f2,f3,f4,f5⟩:=hf it (by simp);have W:=Walks.range (prog:=X.prog) (w:=X.w) (I.ok.hd hc) it lo 1 n;refine W.item i s _ _ hg st λv h' tk hv st' kk=>?_;obtain⟨t,rfl⟩:=hv;have I1:Inv X pins σ H { s with heap:=h',toks:=tk }:=I.turned (λb o hb e=>kk b o (by simpa using hb) e) f0 f1 f3 f4 f5;refine⟨_,rfl,iy (s:={ s with heap:=h',toks:=tk }) (n:="range_iterator") st' rfl rfl (by decide) ⟨.int (lo+i),H,I1,⟨t,?_⟩,⟨rfl,rfl⟩,st',λb hb=>(hf b hb).1⟩⟩;rw[Int.mul_one]
 done:=by
  intro X hP hw hK hc i pins s σ H E I hf st hg;subst hP hw hK;obtain⟨f0,f1,f2,f3,f4,f5⟩:=hf it (by simp);exact wpAny_pyNext_range_end (I.ok.hd hc) st (by have:n<=i:=hg;omega) λh' eb=>⟨rfl,I.turned (t':=s.toks) (λb o hb e=>eb b o hb e) f0 f1 f3 f4 f5⟩
 self:=λ_ _ _ _ _ st h=>wpAny_pyIter_rangeiter st h
section
variable {X:Cx}{tg:Expr}
def pd (K:W.Frag) (tl:TE):TI:=λσ H R=>tl σ H λx H1=>∃a,x=.ref a/\(∃xs,SqL K H1 a xs)/\R (Itl K a) H1
def sF (K:W.Frag) (tl:TE):TI:=λσ H R=>tl σ H λx H1=>∃a,x=.ref a/\(∃xs,SqT K H1 a xs)/\R (Itt K a) H1
theorem pL {l:Expr}{tl:TE}(r:PE X l tl):PI X tg l (pd X.K tl):=by
 intro c s i H R I h;refine thn (r c s i H _ I h) λv d ⟨x,g,f,m,j⟩=>?_;obtain⟨a,e,⟨u,t⟩,q⟩:=j;subst e;cases m;obtain⟨k,w,p,y⟩:=f.list t;refine wpAny_pyIter_list p.isList ?_;refine⟨d.heap.objs.size,[d.heap.objs.size],_,_,g,rfl,f.kept (t':=d.toks) λb o e=>ui _ e,hR a _,⟨_,uw _ rfl,rfl,rfl⟩,λb n=>?_,q⟩;have e:b=d.heap.objs.size:=by simpa using n
 subst e;exact f.fpOk (ua _) (f.hok.fresh (ua _))
theorem rN {l:Expr}{tl:TE}(r:PE X l tl):PI X tg l (sF X.K tl):=by
 intro c s j H R I h;refine thn (r c s j H _ I h) λv d ⟨x,i,f,m,k⟩=>?_;obtain⟨a,e,⟨u,t⟩,q⟩:=k;subst e;cases m;obtain⟨g,w,p,y⟩:=f.tuple t;refine wpAny_pyIter_tuple (show d.heap.IsTuple a g.toArray from p) ?_;refine⟨d.heap.objs.size,[d.heap.objs.size],_,_,i,rfl,f.kept (t':=d.toks) λb o e=>ui _ e,kS a _,⟨_,uw _ rfl,rfl,rfl⟩,λb n=>?_,q⟩;have e:b=d.heap.objs.size:=by simpa using n
 subst e;exact f.fpOk (ua _) (f.hok.fresh (ua _))
theorem nN {R:It->Hp->Prop}{lo hi:Int}{tk:Nat}(I:Inv X pins σ H s) (h:-(2 ^ 62)<=lo) (g:lo<2 ^ 62) (f:-(2 ^ 62)<=hi) (j:hi<2 ^ 62)
    (q:R (Itr lo (hi-lo).toNat) H):wpAny (model X.prog X.w) X.A (pyIter (.ref s.heap.objs.size)) (PIE X pins σ tg R) E { s with heap:=s.heap.push { cls:=.type "range",data:=.fields #[.int lo t,.int hi u,.int 1 v] },toks:=tk }:=by
 refine wpAny_pyIter_range (IsRange.new ..) (small_one h g f j) ?_;have a:Inv X pins σ H { s with heap:=s.heap.push { cls:=.type "range",data:=.fields #[.int lo t,.int hi u,.int 1 v] },toks:=tk }:=I.kept λb o e=>ui _ e;refine⟨(s.heap.push { cls:=.type "range",data:=.fields #[.int lo t,.int hi u,.int 1 v] }).objs.size,[(s.heap.push { cls:=.type "range",data:=.fields #[.int lo t,.int hi u,.int 1 v] }).objs.size],_,_,H,rfl,
  a.kept (t':=tk) λb o e=>ui _ e,lb _ lo (hi-lo).toNat,?_,λb c=>?_,q⟩
 ·have i:lo+((0:Nat):Int) * 1=lo:=by simp
  have d:(((hi-lo).toNat:Nat):Int)-((0:Nat):Int)=Builtin.Range.rangeSize lo hi 1:=by rw[rangeSize_one];split <;> omega
  show IsRangeIter _ _ (lo+((0:Nat):Int) * 1) ((((hi-lo).toNat:Nat):Int)-((0:Nat):Int)) 1;rw[i,d];exact uw _ rfl
 ·have e:b=(s.heap.push { cls:=.type "range",data:=.fields #[.int lo t,.int hi u,.int 1 v] }).objs.size:=by simpa using c
  subst e;exact a.fpOk (ua _) (a.hok.fresh (ua _))
def t9 (ta:TA):TI:=λσ H R=>ta σ H λvs H1=>∃j:Int,vs=[.int j]/\-(2 ^ 62)<=j/\j<2 ^ 62/\R (Itr 0 j.toNat) H1
theorem bX (n:Gl X "range") (f:X.mg "range"=none) (m:PA X [a] ta) (l:starEach [a] X.env=[(false,eval a X.env)]:=by rfl):PI X tg (.Call (.Name "range" p) [a] [] pos) (t9 ta):=by
 intro b s g H R I h;refine Call_ (dE I n f boot_range (PyProof.Rows.callWith_type1 (thn (m pos b s g H _ I h) λv u ⟨w,o,i,k,c⟩=>?_) l rfl));obtain⟨j,e,c,d,q⟩:=c;subst e;cases k with
 | cons r rr =>
  cases rr;obtain⟨t,rfl⟩:=r;exact call_range_1 (nN i (by omega) (by omega) c d (by simpa using q))
def tFor (wi:TI) (g:TG) (tb:TS):TS:=λD σ H=>wi σ H λJ H1=>∃W:Nat->Nat->SH,(∃m,W 0 m σ H1)/\∀i m σ H,W i m σ H ->
 (J.stop i H/\D.nx σ H)∨(J.go i H/\∃N:SH,(∀σ' H',N σ' H'->∃m',m'<m/\W (i+1) m' σ' H')/\∀x H',J.yld i H x H'->g x σ H' λσ2 H2=>tb { D with nx:=N,ct:=N,bk:=D.nx } σ2 H2)
def fw (fp:List Addr) (h:Heap):AO_:=fp.filterMap λb=>(h.get? b).map λo=>(b,o)
theorem dr (a:b∈i) (e:h.get? b=some o):(b,o)∈fw i h:=List.mem_filterMap.mpr ⟨b,a,by rw[e];rfl⟩
theorem mR (d:p∈fw i h):p.1∈i/\h.get? p.1=some p.2:=by
 obtain⟨b,a,e⟩:=List.mem_filterMap.mp d;cases q:h.get? b with
 | none=>rw[q] at e;cases e
 | some o =>
  rw[q] at e;have c:(b,o)=p:=ue e;subst c;exact⟨a,q⟩
theorem Inv.pinned (I:Inv X pins σ H s) (h:∀b∈i,cK X pins H b) (l:∀b∈i,∃o,s.heap.get? b=some o/\∀v,o.data≠.cell v):Inv X (pins++fw i s.heap) σ H s :=
 I.pins_of λp k=>(uF.mp k).elim (λz=>I.pin p (uS _ z)) λz=>by
  obtain⟨a,e⟩:=mR z;obtain⟨j,g,f,_⟩:=h p.1 a;obtain⟨o,c,d⟩:=l p.1 a;rw[e] at c;cases c;exact⟨e,j,g,f,d⟩
theorem Inv.unpinned (I:Inv X (pins++i) σ H s):Inv X pins σ H s:=I.pins_of λp a=>I.pin p (uS _ (vw _ a))
theorem ce (F:PassesOwn (model X.prog X.w) X.A X.env X.xe) (hc:X.calm=true) (hi:PI X tg iter wi) (hg:PG X tg g) (l:PSs X O tb)
    (hs:∀x,foldedSetIterable iter X.env x=pure x:=by intro _;rfl):PS X (.For tg iter O [] pos) (tFor wi g tb):=by
 intro a s σ H D I h;refine wpAny_For (thn (hi a s σ H _ I h) λv s1 h1=>thn h1 λa0 s2 h2=>?_) hs;obtain⟨it,A,tn,J,H2,e,I2,T,U,Z,W,⟨m0,w0⟩,E⟩:=h2;subst e;have k:∀ {H':Hp},(∀b∈A,H' b=none)->∀b∈A,cK X a H' b:=λhn b l=>⟨hn b l,(Z b l).2⟩
 refine codeAny_forLoop_any (λn s'=>∃i σ' H',Inv X a σ' H' s'/\tn i s'.heap/\(∀b∈A,H' b=none)/\W i n σ' H') ?_ m0 ⟨0,σ,H2,I2,U,λb l=>(Z b l).1,w0⟩;rintro n V ⟨i,j,L,Y,G,z,w3⟩;rcases E i n j L w3 with⟨C,qn⟩ | ⟨go,N,hN,K⟩
 ·refine wpAny_passesOwn F (thn (T.done X rfl rfl rfl hc i a V j L X.xe Y (k z) G C) λr s4 ⟨M,I4⟩=>?_);subst M;exact wpAny_execs_nil ⟨j,L,I4,qn⟩
 ·refine wpAny_passesOwn F (thn (T.item X rfl rfl rfl hc i a V j L X.xe Y (k z) G go) λr s4 ⟨u,M,h4⟩=>?_);subst M;refine wpAny_passesOwn F (thn h4 λ_ s5 ⟨x,H5,I5,r5,y5,y,Q⟩=>?_);have S:=I5.pinned (k Q) (T.obj _ _ y);refine wpAny_passesOwn F (thn (hg _ s5 j H5 x u _ S r5 (K x H5 y5)) λ_ s6 ⟨R,H6,I6,q6⟩=>?_);refine wpAny_passesOwn F (thn (l _ s6 R H6 _ I6 q6) λf P w=>?_);have q:∀ {c:St} {p:Hp},Inv X (a++fw A s5.heap) c p P->N c p->∃m,m<n/\∃i σ' H',Inv X a σ' H' P/\tn i P.heap/\(∀b∈A,H' b=none)/\W i m σ' H':=λ{c p} t B=>by
   obtain⟨m',hm,w7⟩:=hN c p B;refine⟨m',hm,i+1,c,p,t.unpinned,T.keep _ _ _ y λb l o e=>(t.pin (b,o) (uS _ (uS _ (dr l e)))).1,λb l=>?_,w7⟩;obtain⟨o,e,d⟩:=T.obj _ _ y b l;exact(t.pin (b,o) (uS _ (uS _ (dr l e)))).2.1
  cases f with
  | next=>obtain⟨c,p,t,B⟩:=w;exact q t B
  | cont=>obtain⟨c,p,t,B⟩:=w;exact q t B
  | brk=>obtain⟨c,p,t,w⟩:=w;exact⟨c,p,t.unpinned,w⟩
  | ret v=>obtain⟨x7,c,p,t,r7,w⟩:=w;exact⟨x7,c,p,t.unpinned,r7,w⟩
end
theorem eR {K:W.Frag}{a:Addr}{xs:LV}{g:TG}{tb:TS}{D:Ends}{σ:St}{H:Hp}(Pv:Nat -> St -> Hp -> Prop) (k:Pv 0 σ H) (j:∀i σ H, i <= xs.length -> Pv i σ H -> SqL K H a xs)
    (h:∀i x σ H,xs[i]? = some x->Pv i σ H->g x σ H λσ2 H2=>tb { D with nx:=Pv (i+1),ct:=Pv (i+1),bk:=D.nx } σ2 H2) (d:∀σ H,Pv xs.length σ H->D.nx σ H) :
    ∃W:Nat->Nat->SH,(∃m,W 0 m σ H)/\∀i m σ H,W i m σ H ->
     ((Itl K a).stop i H/\D.nx σ H)∨((Itl K a).go i H/\∃N:SH,(∀σ' H',N σ' H'->∃z,z<m/\W (i+1) z σ' H')/\∀x H',(Itl K a).yld i H x H'->g x σ H' λσ2 H2=>tb { D with nx:=N,ct:=N,bk:=D.nx } σ2 H2):=by
 refine⟨λi m σ H=>m=xs.length-i/\i<=xs.length/\Pv i σ H,⟨xs.length,by simp,uu _,k⟩,?_⟩;rintro i m σ H ⟨rfl,c,p⟩;have q:=j i σ H c p;by_cases b:i<xs.length
 ·refine .inr ⟨⟨xs,xs[i],q,by simp[b]⟩,Pv (i+1),λσ' H' f=>⟨xs.length-(i+1),by omega,rfl,b,f⟩,λx H' y=>?_⟩;obtain⟨e,y⟩:=y;subst e;exact h i x σ _ (y xs q) p
 ·have e:i=xs.length:=by omega
  subst e;exact .inl ⟨⟨xs,q,ua _⟩,d σ H p⟩
theorem fu {lo:Int}{n:Nat}{g:TG}{tb:TS}{D:Ends}{σ:St}{H:Hp}(Pv:Nat -> St -> Hp -> Prop) (f:Pv 0 σ H)
    (d:∀i σ H,i<n->Pv i σ H->g (.int (lo+i)) σ H λσ2 H2=>tb { D with nx:=Pv (i+1),ct:=Pv (i+1),bk:=D.nx } σ2 H2) (b:∀σ H,Pv n σ H->D.nx σ H) :
    ∃W:Nat->Nat->SH,(∃m,W 0 m σ H)/\∀i m σ H,W i m σ H ->
     ((Itr lo n).stop i H/\D.nx σ H)∨((Itr lo n).go i H/\∃N:SH,(∀σ' H',N σ' H'->∃z,z<m/\W (i+1) z σ' H')/\∀x H',(Itr lo n).yld i H x H'->g x σ H' λσ2 H2=>tb { D with nx:=N,ct:=N,bk:=D.nx } σ2 H2):=by
 refine⟨λi m σ H=>m=n-i/\i<=n/\Pv i σ H,⟨n,by simp,uu _,f⟩,?_⟩;rintro i m σ H ⟨rfl,h,p⟩;by_cases a:i<n
 ·refine .inr ⟨a,Pv (i+1),λσ' H' c=>⟨n-(i+1),by omega,rfl,a,c⟩,λx H' y=>?_⟩;obtain⟨e,y⟩:=y;subst e y;exact d i σ _ a p
 ·have e:i=n:=by omega
  subst e;exact .inl ⟨ua _,b σ H p⟩
abbrev R2:=V->V->Hp->VK->Prop
def OpR (X:Cx) (f:Value->Value->Sem Value) (r:R2):Prop :=
 ∀(pins:AO_) (s:Shared) (σ:St) (H:Hp) (x y:V) (v u:Value) (Q:VK),Inv X pins σ H s->RelV x v->RelV y u->r x y H Q ->
  wpAny (model X.prog X.w) X.A (f v u) (EP X pins σ Q) X.xe s
def UnR (X:Cx) (f:Value->Sem Value) (r:V->Hp->VK->Prop):Prop :=
 ∀(pins:AO_) (s:Shared) (σ:St) (H:Hp) (x:V) (v:Value) (Q:VK),Inv X pins σ H s->RelV x v->r x H Q ->
  wpAny (model X.prog X.w) X.A (f v) (EP X pins σ Q) X.xe s
def bK (X:Cx) (f:Value) (r:LV->Hp->VK->Prop):Prop :=
 ∀(pins:AO_) (s:Shared) (σ:St) (H:Hp) (xs:LV) (us:LW) (Q:VK),Inv X pins σ H s->Vals xs us->r xs H Q ->
  wpAny (model X.prog X.w) X.A (call f us) (EP X pins σ Q) X.xe s
def tOp (r:R2) (ta tb:TE):TE:=λσ H Q=>ta σ H λx H1=>tb σ H1 λy H2=>r x y H2 Q
def tUn (r:V->Hp->VK->Prop) (ta:TE):TE:=λσ H Q=>ta σ H λx H1=>r x H1 Q
def rI (C:Int->Int->Prop) (g:Int->Int->V):R2:=λx y H Q=>∃i j,x=.int i/\y=.int j/\C i j/\Q (g i j) H
def rI0 (g:Int->Int->V):R2:=λx y H Q=>∃i j,x=.int i/\y=.int j/\Q (g i j) H
def rU (g:Int->V):V->Hp->VK->Prop:=λx H Q=>∃i,x=.int i/\Q (g i) H
section
variable {X:Cx}{a b c:Expr}{ta tb tc:TE}{pos:Pos}
theorem nH (j:PE X a ta) (e:PE X b tb) {R:V->V->Hp->Prop}(I:Inv X pins σ H s)
    (h:ta σ H λx H1=>tb σ H1 λy H2=>R x y H2) {f:Value->Value->Sem Value}
    (l:∀v u G x y H2,Inv X pins σ H2 G->RelV x v->RelV y u->R x y H2->wpAny (model X.prog X.w) X.A (f v u) Q X.xe G) :
    wpAny (model X.prog X.w) X.A (eval a X.env) (λv z=>wpAny (model X.prog X.w) X.A (eval b X.env) (λu i=>wpAny (model X.prog X.w) X.A (f v u) Q X.xe i) X.xe z) X.xe s:=by
 refine thn (j pins s σ H _ I h) λv k ⟨x,H1,m,c,o⟩=>?_;refine thn (e pins k σ H1 _ m o) λu G ⟨y,H2,n,g,d⟩=>?_;exact l v u G x y H2 n c g d
theorem aA {i:Operator}{r:R2}(e:OpR X (binaryOp i) r) (m:PE X a ta) (k:PE X b tb):PE X (.BinOp a i b pos) (tOp r ta tb):=by
 intro c s f H Q I h;exact wpAny_BinOp (nH m k I h λv u n x y j d g l q=>e c n f j x y v u Q d g l q)
theorem tE (k:UnR X (unaryOp z) r) (e:PE X a ta):PE X (.UnaryOp z a pos) (tUn r ta):=by
 intro b s c H Q I h;exact UnaryOp_ (thn (e b s c H _ I h) λv f ⟨x,g,i,d,j⟩=>k b f c g x v Q i d j)
theorem opI {f:Value->Value->Sem Value}{C:Int->Int->Prop}{g:Int->Int->Int}
    (a:∀(i j:Int) (t u:Tok) (s:Shared) (Q:QS) (E:QS),C i j->Q (.int (g i j) s.toks) { s with toks:=s.toks+1 }->wpAny (model X.prog X.w) X.A (f (.int i t) (.int j u)) Q E s) :
    OpR X f (rI C λi j=>.int (g i j)):=by
 intro b s l H x y v u Q I k c h;obtain⟨i,j,rfl,rfl,e,q⟩:=h;obtain⟨t,rfl⟩:=k;obtain⟨d,rfl⟩:=c;exact a i j t d s _ _ e ⟨.int (g i j),H,I.tok _,⟨_,rfl⟩,q⟩
theorem opI0 {f:Value->Value->Sem Value}{g:Int->Int->Int}
    (a:∀(i j:Int) (t u:Tok) (s:Shared) (Q:QS) (E:QS),Q (.int (g i j) s.toks) { s with toks:=s.toks+1 }->wpAny (model X.prog X.w) X.A (f (.int i t) (.int j u)) Q E s) :
    OpR X f (rI0 λi j=>.int (g i j)):=by
 intro b s k H x y v u Q I e c h;obtain⟨i,j,rfl,rfl,q⟩:=h;obtain⟨t,rfl⟩:=e;obtain⟨d,rfl⟩:=c;exact a i j t d s _ _ ⟨.int (g i j),H,I.tok _,⟨_,rfl⟩,q⟩
theorem kO {f:Value->Value->Sem Value}{g:Int->Int->Bool}
    (a:∀(i j:Int) (t u:Tok) (s:Shared) (Q:QS) (E:QS),Q (.bool (g i j)) s->wpAny (model X.prog X.w) X.A (f (.int i t) (.int j u)) Q E s) :
    OpR X f (rI0 λi j=>.bl (g i j)):=by
 intro b s k H x y v u Q I e c h;obtain⟨i,j,rfl,rfl,q⟩:=h;obtain⟨t,rfl⟩:=e;obtain⟨d,rfl⟩:=c;exact a i j t d s _ _ ⟨.bl (g i j),H,I,rfl,q⟩
def CDiv (i j:Int):Prop:=0<j/\j<1073741824
def CPow (i j:Int):Prop:=0<=j/\j<=1000000/\i.natAbs<2 ^ 64
def CMul (i j:Int):Prop:=(-(2 ^ 64)<i/\i<2 ^ 64)∨(-(2 ^ 64)<j/\j<2 ^ 64)
theorem CMul.ok (h:CMul i j):IntMulOk i j:=by
 rcases h with⟨b,a⟩ | ⟨b,a⟩
 ·exact .of_left (intBits_le_64 b a)
 ·exact .of_right (intBits_le_64 b a)
theorem rZ:OpR X (binaryOp .Add) (rI0 λi j=>.int (i+j)):=opI0 λ_ _ _ _ _ _ _ q=>add_int q
theorem cU:OpR X (binaryOp .Mult) (rI CMul λi j=>.int (i * j)):=opI λ_ _ _ _ _ _ _ a q=>mul_int q a.ok
theorem ek:OpR X (binaryOp .FloorDiv) (rI CDiv λi j=>.int (i / j)):=opI λi j _ _ _ _ _ a q=>by
 have c:(0:Int)<j:=a.1;have b:j<1073741824:=a.2;exact floordiv_int (by omega) (by rw[Int.fdiv_eq_ediv_of_nonneg i (by omega)];exact q) (.inl (PyProof.noPylong_small (by omega)))
theorem bF:OpR X (binaryOp .Mod) (rI (λ_ j=>0<j) λi j=>.int (i % j)):=opI λi j _ _ _ _ _ a q=>by
 have b:(0:Int)<j:=a;exact mod_int' (by omega) (by rw[Int.fmod_eq_emod_of_nonneg i (by omega)];exact q)
theorem sV:OpR X (binaryOp .Pow) (rI CPow λi j=>.int (i ^ j.toNat)):=opI λ_ _ _ _ _ _ _ a q=>pow_int_small a.1 a.2.1 a.2.2 q
theorem unI {f:Value->Sem Value}{g:Int->Int}
    (a:∀(i:Int) (t:Tok) (s:Shared) (Q:QS) (E:QS),Q (.int (g i) s.toks) { s with toks:=s.toks+1 }->wpAny (model X.prog X.w) X.A (f (.int i t)) Q E s) :
    UnR X f (rU λi=>.int (g i)):=by
 intro b s d H x v Q I c h;obtain⟨i,rfl,q⟩:=h;obtain⟨t,rfl⟩:=c;exact a i t s _ _ ⟨.int (g i),H,I.tok _,⟨_,rfl⟩,q⟩
theorem sj:UnR X (unaryOp .USub) (rU λi=>.int (-i)):=unI λ_ _ _ _ _ q=>neg_int q
end
def nO:V->V->Bool
 | .non,.non=>true | .non,.int _=>true | .int _,.non=>true | .non,.bl _=>true | .bl _,.non=>true | .non,.str _=>true | .str _,.non=>true
 | .int _,.int _=>true | .bl _,.bl _=>true | .str _,.str _=>true | .byt _,.byt _=>true
 | .int _,.str _=>true | .str _,.int _=>true | .bl _,.str _=>true | .str _,.bl _=>true
 | _,_=>false
def rEq:R2:=λx y H Q=>nO x y=true/\Q (.bl (decide (x=y))) H
def rNe:R2:=λx y H Q=>nO x y=true/\Q (.bl (!decide (x=y))) H
theorem ka:decide (V.int i=V.int j)=(i==j):=by
 rw[uL];simp
theorem lV:decide (V.bl i=V.bl j)=(i==j):=by
 rw[uL];simp
theorem kq:decide (V.str i=V.str j)=(i==j):=by
 rw[uL];simp
theorem ky:decide (V.byt i=V.byt j)=(i.toList==j.toList):=by
 rw[uL];cases i;cases j;simp
section
variable {X:Cx}{a b c:Expr}{ta tb tc:TE}{pos:Pos}
theorem aK (I:Inv X pins σ H s) (q:Q (.bl k) H) (e:k=i):EP X pins σ Q (.bool i) s:=by
 subst e;exact⟨.bl k,H,I,rfl,q⟩
theorem tU:OpR X (compareOp .Eq) rEq:=by
 intro e s f H x y v u Q I d a h;obtain⟨c,q⟩:=h;cases x with
 | non =>
  cases d;cases y with
  | non=>cases a;exact PySem.EqNone.eq_none_none (aK I q (by simp))
  | bl j=>cases a;exact PySem.EqNone.eq_none_bool (aK I q (by simp))
  | int j=>obtain⟨b,rfl⟩:=a;exact PySem.EqNone.eq_none_int (aK I q (by simp))
  | str j=>obtain⟨b,rfl⟩:=a;exact PySem.EqNone.eq_none_str (aK I q (by simp))
  | _=>exact absurd (show false=true from c) uz
 | bl i =>
  cases d;cases y with
  | non=>cases a;exact PySem.EqNone.eq_bool_none (aK I q (by simp))
  | bl j=>cases a;exact eq_bool (aK I q lV)
  | str j=>obtain⟨b,rfl⟩:=a;exact PySem.EqMixed.eq_bool_str (aK I q (by simp))
  | _=>exact absurd (show false=true from c) uz
 | int i =>
  obtain⟨t,rfl⟩:=d;cases y with
  | non=>cases a;exact PySem.EqNone.eq_int_none (aK I q (by simp))
  | int j=>obtain⟨b,rfl⟩:=a;exact eq_int (aK I q ka)
  | str j=>obtain⟨b,rfl⟩:=a;exact PySem.EqMixed.eq_int_str (aK I q (by simp))
  | _=>exact absurd (show false=true from c) uz
 | str i =>
  obtain⟨t,rfl⟩:=d;cases y with
  | non=>cases a;exact PySem.EqNone.eq_str_none (aK I q (by simp))
  | bl j=>cases a;exact PySem.EqMixed.eq_str_bool (aK I q (by simp))
  | int j=>obtain⟨b,rfl⟩:=a;exact PySem.EqMixed.eq_str_int (aK I q (by simp))
  | str j=>obtain⟨b,rfl⟩:=a;exact eq_str (aK I q kq)
  | _=>exact absurd (show false=true from c) uz
 | byt i =>
  obtain⟨t,rfl⟩:=d;cases y with
  | byt j=>obtain⟨b,rfl⟩:=a;exact W.eq_bytes (aK I q ky)
  | _=>exact absurd (show false=true from c) uz
 | _=>cases y <;> exact absurd (show false=true from c) uz
theorem tw:OpR X (compareOp .NotEq) rNe:=by
 intro e s f H x y v u Q I d a h;obtain⟨c,q⟩:=h;cases x with
 | non =>
  cases d;cases y with
  | non=>cases a;exact PySem.EqNone.ne_none_none (aK I q (by simp))
  | bl j=>cases a;exact PySem.EqNone.ne_none_bool (aK I q (by simp))
  | int j=>obtain⟨b,rfl⟩:=a;exact PySem.EqNone.ne_none_int (aK I q (by simp))
  | str j=>obtain⟨b,rfl⟩:=a;exact PySem.EqNone.ne_none_str (aK I q (by simp))
  | _=>exact absurd (show false=true from c) uz
 | bl i =>
  cases d;cases y with
  | non=>cases a;exact PySem.EqNone.ne_bool_none (aK I q (by simp))
  | bl j=>cases a;exact ne_bool (aK I q (congrArg not lV))
  | str j=>obtain⟨b,rfl⟩:=a;exact PySem.EqMixed.ne_bool_str (aK I q (by simp))
  | _=>exact absurd (show false=true from c) uz
 | int i =>
  obtain⟨t,rfl⟩:=d;cases y with
  | non=>cases a;exact PySem.EqNone.ne_int_none (aK I q (by simp))
  | int j=>obtain⟨b,rfl⟩:=a;exact ne_int (aK I q (congrArg not ka))
  | str j=>obtain⟨b,rfl⟩:=a;exact PySem.EqMixed.ne_int_str (aK I q (by simp))
  | _=>exact absurd (show false=true from c) uz
 | str i =>
  obtain⟨t,rfl⟩:=d;cases y with
  | non=>cases a;exact PySem.EqNone.ne_str_none (aK I q (by simp))
  | bl j=>cases a;exact PySem.EqMixed.ne_str_bool (aK I q (by simp))
  | int j=>obtain⟨b,rfl⟩:=a;exact PySem.EqMixed.ne_str_int (aK I q (by simp))
  | str j=>obtain⟨b,rfl⟩:=a;exact ne_str (aK I q (congrArg not kq))
  | _=>exact absurd (show false=true from c) uz
 | byt i =>
  obtain⟨t,rfl⟩:=d;cases y with
  | byt j=>obtain⟨b,rfl⟩:=a;exact W.ne_bytes (aK I q (congrArg not ky))
  | _=>exact absurd (show false=true from c) uz
 | _=>cases y <;> exact absurd (show false=true from c) uz
theorem tH:OpR X (compareOp .Lt) (rI0 λi j=>.bl (decide (i<j))):=kO λ_ _ _ _ _ _ _ q=>lt_int q
theorem tZ:OpR X (compareOp .LtE) (rI0 λi j=>.bl (decide (i<=j))):=kO λ_ _ _ _ _ _ _ q=>le_int q
theorem eS:OpR X (compareOp .Gt) (rI0 λi j=>.bl (decide (j<i))):=kO λ_ _ _ _ _ _ _ q=>gt_int q
theorem tz:OpR X (compareOp .GtE) (rI0 λi j=>.bl (decide (j<=i))):=kO λ_ _ _ _ _ _ _ q=>ge_int q
theorem mm:OpR X (compareOp .Lt) (λx y H Q=>∃i j,x=.str i/\y=.str j/\Q (.bl (decide (i.cps.toList<j.cps.toList))) H):=by
 intro a s d H x y v u Q I c b h;obtain⟨i,j,rfl,rfl,q⟩:=h;obtain⟨t,rfl⟩:=c;obtain⟨e,rfl⟩:=b;exact lt_str (aK I q rfl)
theorem rk:OpR X (compareOp .Is) (λx y H Q=>y=.non/\Q (.bl (decide (x=.non))) H):=by
 intro a s d H x y v u Q I b c h;obtain⟨rfl,q⟩:=h;cases c;refine is_none_gen (aK I q ?_);cases x <;> first
  | (cases b;rfl)
  | (obtain⟨t,rfl⟩:=b;rfl)
theorem pP:OpR X (compareOp .IsNot) (λx y H Q=>y=.non/\Q (.bl (!decide (x=.non))) H):=by
 intro a s d H x y v u Q I b c h;obtain⟨rfl,q⟩:=h;cases c;refine isnot_none_gen (aK I q ?_);cases x <;> first
  | (cases b;rfl)
  | (obtain⟨t,rfl⟩:=b;rfl)
theorem ax (b:Expr) (h:i≠.In:=by decide) (c:i≠.NotIn:=by decide):behindInMarks i b=false:=by
 have d:(i==CmpOp.In)=false:=by cases i <;> first | rfl | exact absurd rfl h
 have a:(i==CmpOp.NotIn)=false:=by cases i <;> first | rfl | exact absurd rfl c
 cases b <;> simp[behindInMarks,d,a]
theorem bV {i:CmpOp}{r:R2}(e:OpR X (compareOp i) r) (n:PE X a ta) (l:PE X b tb) (f:behindInMarks i b=false):PE X (.Compare a [i] [b] pos) (tOp r ta tb):=by
 intro c s g H Q I h;exact wpAny_Compare1 (nH n l I h λv u o x y k d j m q=>e c o g k x y v u Q d j m q) f
def tR (t:TE):TT:=λσ H Q=>t σ H λx H'=>∃k,x=.bl k/\Q k H'
theorem au (o:OpR X (compareOp i) r) (F:PE X a ta) (D:PE X b tb) (q:behindInMarks i b=false):PT X (.Compare a [i] [b] pos) (tR (tOp r ta tb)):=by
 intro d s f H Q I h;refine wpAny_isTrue_Compare1 (thn (F d s f H _ I h) λv p ⟨x,l,t,C,w⟩=>thn (D d p f l _ t w) λu J ⟨y,B,m,j,g⟩ =>
  thn (o d J f B x y v u _ m C j g) λc K ⟨z,A,G,n,k,e,E⟩=>?_) q
 subst e;cases n;exact wpAny_truthy_bool ⟨A,G,E⟩
def rS (r r':R2) (ta tb tc:TE):TE:=λσ H Q=>ta σ H λx H1=>tb σ H1 λy H2=>r x y H2 λz H3=>∃k,z=.bl k /\
 (if k=true then tc σ H3 λw' H4=>r' y w' H4 Q else Q (.bl false) H3)
theorem iV (B:OpR X (compareOp G) r) (j:OpR X (compareOp i) J) (S:PE X a ta) (M:PE X b tb) (P:PE X c tc)
    (D:lastMarks [G,i] [b,c]=false:=by with_unfolding_all rfl):PE X (.Compare a [G,i] [b,c] pos) (rS r J ta tb tc):=by
 intro f s g H Q I h;refine Compare_chain (thn (S f s g H _ I h) λv C ⟨x,q,E,L,F⟩=>chain_link (thn (M f C g q _ E F) λu T ⟨y,K,t,l,p⟩ =>
  thn (B f T g K x y v u _ t L l p) λd O ⟨z,m,o,A,k,e,n⟩=>?_)) D
 subst e;cases A;refine wpAny_truthy_bool ?_;cases k with
 | false=>exact ite_ff ⟨.bl false,m,o,rfl,n⟩
 | true=>exact ite_tt (chain_last (thn (P f O g m _ o n) λY U ⟨V,R,W,w,N⟩=>j f U g R y V u Y Q W l w N))
theorem eg:(sizeLine:Nat)<2 ^ 63:=by rw[sizeLine_eq];decide
theorem lv:OpR X (binaryOp .Add) (λx y H Q=>∃i j,x=.str i/\y=.str j/\i.length+j.length<=sizeLine/\Q (.str (i++j)) H):=by
 intro a s f H x y v u Q I d c h;obtain⟨i,j,rfl,rfl,b,q⟩:=h;obtain⟨t,rfl⟩:=d;obtain⟨e,rfl⟩:=c;exact add_str (λe g=>⟨.str (i++j),H,I.tok _,⟨_,rfl⟩,q⟩) b
theorem bL (r:Vals [x] us):∃u,us=[u]/\RelV x u:=by
 cases r with
 | cons r1 r2=>cases r2;exact⟨_,rfl,r1⟩
theorem eU (r:Vals [x,y] us):∃u i,us=[u,i]/\RelV x u/\RelV y i:=by
 cases r with
 | cons r1 r2 =>
  cases r2 with
  | cons r3 r4=>cases r4;exact⟨_,_,rfl,r1,r3⟩
theorem oy:bK X (.builtin "abs") (λxs H Q=>∃i,xs=[.int i]/\Q (.int (if i<0 then -i else i)) H):=by
 intro a s b H xs c Q I r h;obtain⟨i,rfl,q⟩:=h;obtain⟨u,rfl,t,rfl⟩:=bL r;exact call_abs_int λu d=>⟨.int (if i<0 then -i else i),H,I.tok _,⟨_,rfl⟩,q⟩
theorem lY (c:X.calm=true):bK X (.builtin "min") (λxs H Q=>∃i j,xs=[.int i,.int j]/\Q (.int (if j<i then j else i)) H):=by
 intro b s e H xs g Q I r h;obtain⟨i,j,rfl,q⟩:=h;obtain⟨u,f,rfl,⟨t,rfl⟩,⟨l,rfl⟩⟩:=eU r;refine min_two_ints (I.ok.hd c) λm d k=>⟨_,H,I.kept k,?_,q⟩
 by_cases a:j<i
 ·rw[if_pos a,if_pos a];exact⟨_,rfl⟩
 ·rw[if_neg a,if_neg a];exact⟨_,rfl⟩
theorem ij:bK X (.type "int") (λxs H Q=>(∃i,xs=[.int i]/\Q (.int i) H)∨∃k,xs=[.bl k]/\Q (.int (if k then 1 else 0)) H):=by
 intro a s c H xs d Q I r h;rcases h with⟨i,rfl,q⟩ | ⟨k,rfl,q⟩
 ·obtain⟨u,rfl,t,rfl⟩:=bL r;exact call_int_int ⟨.int i,H,I,⟨_,rfl⟩,q⟩
 ·obtain⟨u,rfl,b⟩:=bL r;cases b;exact call_int_bool ⟨.int (if k then 1 else 0),H,I.tok _,⟨_,rfl⟩,q⟩
def oK (K:W.Frag) (x:V) (H:Hp) (n:Nat):Prop :=
 match x with
 | .str y=>y.length<=sizeLine/\n=y.length
 | .byt y=>y.size<=sizeLine/\n=y.size
 | .ref p=>(∃xs,SqL K H p xs/\n=xs.length)∨∃xs,SqT K H p xs/\n=xs.length
 | _=>False
theorem oB:bK X (.builtin "len") (λxs H Q => ∃x n, xs=[x] /\ oK X.K x H n /\ Q (.int n) H) := by
 intro j s m H xs o Q I r h;obtain⟨x,n,rfl,e,q⟩:=h;obtain⟨u,rfl,f⟩:=bL r;have w:=eg;have v:sizeLine=16777216:=sizeLine_eq;cases x with
 | str y =>
  obtain⟨t,rfl⟩:=f;obtain⟨k,b⟩:y.length<=sizeLine/\n=y.length:=e;subst b;exact len_str (by omega) ⟨.int _,H,I.tok _,⟨_,rfl⟩,q⟩
 | byt y =>
  obtain⟨t,rfl⟩:=f;obtain⟨k,b⟩:y.size<=sizeLine/\n=y.size:=e;subst b;exact W.len_bytes (by omega) ⟨.int _,H,I.tok _,⟨_,rfl⟩,q⟩
 | ref p =>
  cases f;have b:(∃xs,SqL X.K H p xs/\n=xs.length)∨∃xs,SqT X.K H p xs/\n=xs.length:=e;rcases b with⟨xs,i,b⟩ | ⟨xs,i,b⟩
  ·subst b;obtain⟨g,d,c,l⟩:=I.list i;have a:=d.length;exact Calls.call_len_list c.isList (by simp only[uj];omega) ⟨.int xs.length,H,I.tok _,⟨_,by simp only[uj];rw[a]⟩,q⟩
  ·subst b;obtain⟨g,d,c,l⟩:=I.tuple i;have a:=d.length;exact len_tuple c (by simp only[uj];omega) ⟨.int xs.length,H,I.tok _,⟨_,by simp only[uj];rw[a]⟩,q⟩
 | _=>exact(show False from e).elim
end
structure ObjM (h:Heap) (x dx C:Addr) (mA:MS):Prop where
 obj:h.get? x=some (W.instObj C dx)
 ns:h.Ns1 dx mA
 ne:dx≠x
theorem hX {h:Heap}{dx:Addr}{i:Str -> OV}(n:h.Ns1 dx i):∃od, h.get? dx=some od /\ ∀name, W.lookIn name od=some (i name) := by
 obtain⟨o,c,m,l,j,d,_,g⟩:=n;refine⟨o,l,λname=>?_⟩;have e:=g name;unfold nsFind findBy at e;rw[<- Array.find?_toList] at e;unfold W.lookIn;rw[j];dsimp only
 split
 ·rename_i y q
  rw[q] at e;exact congrArg some e
 ·rename_i q
  rw[q] at e;have a:c.toList.any (·.refKey)=false:=by
   rw[List.any_eq_false];intro y f;obtain⟨z,t,b⟩:=d y (Array.mem_toList_iff.mp f);simp[DictEntry.refKey,b]
  have k:¬ c.toList.any (·.refKey)=true:=by rw[a];exact uz
  rw[if_neg k];exact congrArg some e
theorem ObjM.look (I:ObjM h x dx C i):∃od,W.InstAt h x (W.instObj C dx) C (some od)/\∀name,W.lookIn name od=some (i name) :=
 let ⟨od,b,a⟩:=hX I.ns
 ⟨od,⟨I.obj,rfl,rfl,b⟩,a⟩
theorem RelO.some_of (r:RelO (some v) o):∃u,o=some u/\RelV v u:=by
 cases o with
 | none=>exact(show False from r).elim
 | some u=>exact⟨u,rfl,r⟩
theorem lI (r:RelV v u):W.handedIn u=true:=by
 cases v with
 | non=>cases (show u=Value.none from r);rfl
 | bl b=>cases (show u=Value.bool b from r);rfl
 | int i=>obtain⟨t,e⟩:=(show ∃t,u=Value.int i t from r);cases e;rfl
 | str x=>obtain⟨t,e⟩:=(show ∃t,u=Value.str x t from r);cases e;rfl
 | byt b=>obtain⟨t,e⟩:=(show ∃t,u=Value.bytes b t from r);cases e;rfl
 | flt b=>obtain⟨t,e⟩:=(show ∃t,u=Value.float b t from r);cases e;rfl
 | ref a=>cases (show u=Value.ref a from r);rfl
 | ty n=>cases (show u=Value.type n from r);rfl
section
variable {P:Program}{w:World}{H H':Hp}{h h':Heap}{a C dx:Addr}{fs fs':List (Str × V)}
theorem jV (b:HOk P w H h) (e:H a=some (.ins C dx fs)):∃i,ObjM h a dx C i/\(∀f,RelO (fs.lookup f) (i f))/\PySem.Within i (fs.map (·.1))/\fs.length<=1000/\H dx=some (.own a):=by
 obtain⟨d,z,g,c,i,n,r,q⟩:=(show ObjOk P w H h a (.ins C dx fs) from b a _ e)
 exact⟨i,⟨c,n,g⟩,r,q,z,d⟩
end
structure Cls (K:W.Frag) (C:Addr):Prop where
 pg:W.plainGet K C Str.empty=true
 hd:W.hasDictIn K C=true
 po:W.plainOver K C=true
 sa:W.findIn K (.ref C) "__setattr__"=some (some (.builtin "object.__setattr__"))
theorem Cls.get {K:W.Frag}{C:Addr}(c:Cls K C) (f:Str):W.plainGet K C f=true:=c.pg
section
variable {X:Cx}{pins:AO_}{σ:St}{H:Hp}{s:Shared}{a C dx:Addr}{fs:List (Str × V)}{f:Str}{v:V}{A:Around}{E:QS}
theorem qw (a:attributeBase e f env (eval e env)=eval e env)
    (h:wpAny (model prog w) A (eval e env) (λo i=>wpAny (model prog w) A (getAttr o f true) Q E i) E s):wpAny (model prog w) A (eval (.Attribute e f pos) env) Q E s :=
 Attribute_any_ h (by rw[arm_eval_Attribute,a])
end
section
variable {X:Cx}{pins:AO_}{σ:St}{H:Hp}{s:Shared}{A:Around}{E:QS}{Q:QS}{c:Value}{b:Bool}
inductive TyOf (K:W.Frag) (H:Hp):V -> Value -> Prop where
 | non:TyOf K H .non (.type "NoneType")
 | bl (x:Bool):TyOf K H (.bl x) (.type "bool")
 | int (i:Int):TyOf K H (.int i) (.type "int")
 | str (x:Str):TyOf K H (.str x) (.type "str")
 | flt (x:UInt64):TyOf K H (.flt x) (.type "float")
 | lst {a:Addr} {xs:LV} (e:H a=some (.lst xs)):TyOf K H (.ref a) (.type "list")
 | frz {a:Addr} {o:Obj} {xs:LV} (e:H a=some (.frz o (.lst xs))):TyOf K H (.ref a) (.type "list")
 | tup {a:Addr} {xs:LV} (e:H a=some (.tup xs)):TyOf K H (.ref a) (.type "tuple")
 | dK {a:Addr} {kvs:KV_} (e:H a=some (.dK kvs)):TyOf K H (.ref a) (.type "dict")
 | dT {a:Addr} {kvs:List (List Key × V)} (e:H a=some (.dT kvs)):TyOf K H (.ref a) (.type "dict")
 | ins {a C dx:Addr} {fs:List (Str × V)} (e:H a=some (.ins C dx fs)) (cl:Cls K C) (ha:W.findIn K (.ref C) "__class__"=some (some (.builtin "object.__class__")))
     (hn:W.specialIn K (.builtin "object.__class__") "__get__"=some (some (.builtin "getset_descriptor.__get__"))) (htk:W.takesIn K (.builtin "object.__class__")=some true)
     (hm:W.mroIn K C (.type "object")=some true):TyOf K H (.ref a) (.ref C)
theorem mX (I:Inv X pins σ H s) (d:RelV x u) (l:TyOf X.K H x t) (e:W.kitOne X.K t c=some b) (h:∀tk,Q (.bool b) { s with toks:=tk }) :
    wpAny (model X.prog X.w) A (call (.builtin "isinstance") [u,c]) Q E s:=by
 cases l with
 | non=>cases (show u=Value.none from d);exact W.kia_one W.kitx_none I.kIn True.intro e (λz=>nomatch z) h
 | bl y=>cases (show u=Value.bool y from d);exact W.kia_one W.kitx_bool I.kIn True.intro e (λz=>nomatch z) h
 | int i=>obtain⟨t,q⟩:=(show ∃t,u=Value.int i t from d);cases q;exact W.kia_one W.kitx_int I.kIn True.intro e (λz=>nomatch z) h
 | str y=>obtain⟨t,q⟩:=(show ∃t,u=Value.str y t from d);cases q;exact W.kia_one W.kitx_str I.kIn True.intro e (λz=>nomatch z) h
 | flt y=>obtain⟨t,q⟩:=(show ∃t,u=Value.float y t from d);cases q;exact W.kia_one W.kitx_float I.kIn True.intro e (λz=>nomatch z) h
 | @lst a g ea =>
  cases (show u=Value.ref a from d);obtain⟨_,_,n,_,f⟩:=(show ObjOk X.prog X.w H s.heap a (.lst g) from I.hok a _ ea)
  exact W.kia_one W.kitx_list I.kIn ⟨_,f,rfl⟩ e (λz=>nomatch z) h
 | @frz a ob g ea =>
  cases (show u=Value.ref a from d);obtain⟨_,_,_,n,_,f⟩:=(show ObjOk X.prog X.w H s.heap a (.frz ob (.lst g)) from I.hok a _ ea)
  exact W.kia_one W.kitx_list I.kIn ⟨_,f,rfl⟩ e (λz=>nomatch z) h
 | @tup a g ea =>
  cases (show u=Value.ref a from d);obtain⟨_,_,_,p⟩:=(show ObjOk X.prog X.w H s.heap a (.tup g) from I.hok a _ ea)
  obtain⟨o,f,j,_⟩:=p;exact W.kia_one W.kitx_tuple I.kIn ⟨o,f,j⟩ e (λz=>nomatch z) h
 | @dK a kvs ea =>
  cases (show u=Value.ref a from d);obtain⟨_,_,w,_,p⟩:=(show ObjOk X.prog X.w H s.heap a (.dK kvs) from I.hok a _ ea)
  obtain⟨o,k,m,f,j,_⟩:=p;exact W.kia_one W.kitx_dict I.kIn ⟨o,f,j.1⟩ e (λz=>nomatch z) h
 | @dT a kvs ea =>
  cases (show u=Value.ref a from d);obtain⟨_,_,g,_,o,k,m,f,j,_⟩:=(show ObjOk X.prog X.w H s.heap a (.dT kvs) from I.hok a _ ea)
  exact W.kia_one W.kitx_dict I.kIn ⟨o,f,j.1⟩ e (λz=>nomatch z) h
 | @ins a C dx fs ea cl ha hn htk hm =>
  cases (show u=Value.ref a from d);obtain⟨v,O,_⟩:=jV I.hok ea;obtain⟨r,J,_⟩:=O.look;exact W.kia_one (W.kitx_own (cl.get _) cl.hd ha hn htk hm) I.kIn J e (λz=>nomatch z) h
end
structure Room (k:Nat) (A:Around):Prop where
 hd:A.handled=none
 dp:A.depth+3 * k+5<recursionLimit
 un:A.units+16 * k+200<cLine
 gd:A.guards=some []
theorem Room.mono (r:Room k A) (h:j<=k):Room j A:=⟨r.hd,by have:=r.dp;omega,by have:=r.un;omega,r.gd⟩
theorem Room.deeper (r:Room (k+1) A) (env:Env):Room k (A.deeper env) :=
 ⟨r.hd,by have:=r.dp;show A.depth+1+3 * k+5<_;omega,by have:=r.un;show A.units+3+16 * k+200<_;omega,r.gd⟩
theorem ll {A:Around}{C:Addr}{us:LW}{i:List (Str × Value)}:(A.under (.builtin "type.__call__" ⟨.ref C::us,i⟩)).depth=A.depth+1:=by
 first | rfl | simp[Around.under,Code.weight,Code.isCreation,Code.isGuard,Code.isCaller,Code.frames,Code.isFrame,guardIds]
theorem kT {A:Around}{C:Addr}{us:LW}{i:List (Str × Value)}:(A.under (.builtin "type.__call__" ⟨.ref C::us,i⟩)).units=A.units+1:=by
 first | rfl | simp[Around.under,Code.cUnits,Code.frames,Code.isFrame]
theorem Room.make (r:Room (k+1) A) (C:Addr) (us:LW) (a:List (Str × Value)):Room k (A.under (.builtin "type.__call__" ⟨.ref C::us,a⟩)) :=
 ⟨r.hd,by have:=r.dp;rw[ll];omega,by have:=r.un;rw[kT];omega,by first | exact r.gd | (simp[Around.under,Code.isGuard,guardIds];exact r.gd)⟩
theorem Room.depth (r:Room k A):A.depth<recursionLimit:=by have:=r.dp;omega
theorem Room.units (r:Room k A):A.units+64<cLine:=by have:=r.un;omega
def dR:TA:=λ_ H Q=>Q [] H
def aV (ta:TE) (tr:TA):TA:=λσ H Q=>ta σ H λx H1=>tr σ H1 λxs H2=>Q (x::xs) H2
section
variable {X:Cx}{e:Expr}{es:List Expr}{te:TE}{t:TA}{pos:Pos}
theorem ae:PA X [] dR:=λ_ _ _ _ H Q I h=>Calls.spliced_nil ⟨[],H,I,.nil,h⟩
theorem ac (r:PE X e te) (i:PA X es t) (q:starEach (e::es) X.env=(false,eval e X.env)::starEach es X.env:=by rfl):PA X (e::es) (aV te t):=by
 intro b a s c H Q I h;rw[q];show wpAny _ _ (spliced ((false,eval e X.env)::backTo b (starEach es X.env))) _ _ s;refine Calls.spliced_cons (thn (r a s c H _ I h) λu l ⟨x,j,m,p,n⟩=>?_);exact thn (i b a l c j _ m n) λv w ⟨g,o,k,f,d⟩=>⟨x::g,o,k,.cons p f,d⟩
def oD (t:TA):TE:=λσ H Q=>t σ H λxs H1=>xs.length<=sizeLine/\∀p,H1 p=none->Q (.ref p) (upd H1 p (.tup xs))
def jc (t:TA):TE:=λσ H Q=>t σ H λxs H1=>xs.length<=sizeLine/\∀p,H1 p=none->Q (.ref p) (upd H1 p (.lst xs))
theorem bc {i}(h:PA X es t):PE X (.Tuple es i pos) (oD t):=by
 intro a s k H Q I m;refine wpAny_Tuple_spliced (thn (h pos a s k H _ I m) λl c ⟨g,d,f,r,z,q⟩=>⟨by rw[<- r.length];exact z,?_⟩);have j:d c.heap.objs.size=none:=f.hok.fresh (ua _);refine⟨.ref c.heap.objs.size,upd d c.heap.objs.size (.tup g),f.laid (t':=c.toks) (λb u e=>ui _ e) (ua _) ?_,rfl,q _ j⟩;exact⟨z,l,r,⟨_,uw _ rfl,rfl,_,rfl,rfl⟩⟩
theorem aZ (h:PA X es t):PE X (.List es pos) (jc t):=by
 intro a s j H Q I l;refine wpAny_List_spliced (thn (h pos a s j H _ I l) λk c ⟨g,d,f,r,z,q⟩=>⟨by rw[<- r.length];exact z,?_⟩);have i:d c.heap.objs.size=none:=f.hok.fresh (ua _);refine⟨.ref c.heap.objs.size,upd d c.heap.objs.size (.lst g),f.laid (t':=c.toks) (λb u e=>ui _ e) (ua _) ?_,rfl,q _ i⟩;exact⟨z,k,0,r,uw _ rfl⟩
end
abbrev Sp:=LV->Hp->VK->XK->Prop
abbrev CXT:=List Env->Hp->Shared->XK->QS
structure Env0 (P:Program) (w:World) (K:W.Frag) (mg:MS) (base:Heap) (A:Around) (outer:List Env) (s:Shared) (H:Hp):Prop where
 frames:A.frames=some outer
 mod:Mod K mg base
 bs:∀b o,base.get? b=some o->s.heap.get? b=some o/\H b=none
 bsz:base.objs.size<=s.heap.objs.size
 funs:s.heap.FunFrames base outer
 frf:∀b∈frs outer,H b=none
 hok:HOk P w H s.heap
 bare:AllBare s.gens
def CE (outer:List Env) (P:Program) (w:World) (H:Hp) (s:Shared) (Q:VK) (u:Value) (s':Shared):Prop :=
 ∃v H',s'.os=s.os/\AllBare s'.gens/\Un (frs outer) [] H H' s.heap s'.heap/\HOk P w H' s'.heap/\RelV v u/\Q v H'
def CR (CX:CXT) (outer:List Env) (P:Program) (w:World) (H:Hp) (s:Shared) (Q:VK) (E:XK) (r:Result) (s':Shared):Prop :=
 match r with
 | .ok (.ret u)=>CE outer P w H s Q u s'
 | .ok _=>False
 | .error e=>CX outer H s E e s'
structure FnOk (P:Program) (w:World) (K:W.Frag) (mg:MS) (base:Heap) (CX:CXT) (k:Nat) (f:Addr) (fd:FuncData) (ps:LS) (sp:Sp):Prop where
 len:∀vs H Q E,sp vs H Q E->vs.length=ps.length
 run:∀(A:Around) (outer:List Env) (s:Shared) (H:Hp) (args:Args) (us:LW) (vs:LV) (Q:VK) (E:XK),Room k A->Env0 P w K mg base A outer s H->BindsTo s fd args (ps.zip us)->Vals vs us->sp vs H Q E ->
  codeAny (model P w) A (.call (.ref f) args) (CR CX outer P w H s Q E) s
theorem Env0.make {P:Program}{w:World}{K:W.Frag}{mg:MS}{base:Heap}{A:Around}{i:List Env}{s:Shared}{H:Hp}(e:Env0 P w K mg base A i s H) (C:Addr) (us:LW) (a:List (Str × Value)) :
    Env0 P w K mg base (A.under (.builtin "type.__call__" ⟨.ref C::us,a⟩)) i s H:=⟨by first | exact e.frames | (simpa [Around.under,Code.envs,Code.isFrame,pushEnvs] using e.frames),e.mod,e.bs,e.bsz,e.funs,e.frf,e.hok,e.bare⟩
section
variable {X:Cx}{pins:AO_}{σ:St}{H:Hp}{s s':Shared}
theorem Inv.env0 (I:Inv X pins σ H s):Env0 X.prog X.w X.K X.mg X.base X.A X.stack s H :=
 ⟨I.ok.frames,I.ok.mod,I.bs,uo I.ok.bsz I.sz,I.stack,I.stkFree,I.hok,I.bare⟩
theorem Inv.after (I:Inv X pins σ H s) (h:CE X.stack X.prog X.w H s Q u s'):EP X pins σ Q u s':=by
 obtain⟨v,k,i,a,j,c,r,q⟩:=h;obtain⟨f,g,d,t,e⟩:=s';obtain rfl:e=s.os:=i;exact⟨v,k,I.call (h':=f) (g':=g) (d':=d) (t':=t) (ch:=[]) j c a (λb z=>absurd z (by simp)),r,q⟩
end
def py (sp:Sp) (dvs:LV) (E:XK) (t:TA):TE:=λσ H Q=>t σ H λvs H1=>sp (vs++dvs) H1 Q E
def Binds (K:W.Frag) (fd:FuncData) (ps:LS) (ds:LW):Prop :=
 ∀(s:Shared) (us:LW),K.In s.heap->(us++ds).length=ps.length->BindsTo s fd ⟨us,[]⟩ (ps.zip (us++ds))
theorem Binds.all {K:W.Frag}{fd:FuncData}{ps:LS}(h:∀us:LW,us.length=ps.length->bindArgs fd ⟨us,[]⟩=pure (ps.zip us)):Binds K fd ps []:=λs us _ a=>by
 rw[u0] at a ⊢;exact .of_eq (h us a)
def iY (CX:CXT) (X:Cx) (E:XK):Prop:=∀(pins:AO_) (σ:St) (H:Hp) (s:Shared) (e:Value) (s':Shared),Inv X pins σ H s->CX X.stack H s E e s'->X.xe e s'
section
variable {X:Cx}{CX:CXT}{k:Nat}{f C:Addr}{fd:FuncData}{ps:LS}{sp:Sp}{dvs:LV}{ds:LW}{E:XK}{x m:Str}{p pos apos:Pos}{e o:Expr}{es:List Expr}{ta:TE}{t:TA}
theorem qZ (F:FnOk X.prog X.w X.K X.mg X.base CX k f fd ps sp) (g:Room k X.A) (c:Binds X.K fd ps ds) (l:Vals dvs ds) (d:iY CX X E)
    (I:Inv X pins σ H s) (r:Vals i us) (h:sp (i++dvs) H Q E):wpAny (model X.prog X.w) X.A (call (.ref f) us) (EP X pins σ Q) X.xe s:=by
 have b:Vals (i++dvs) (us++ds):=r.append l;have m:(us++ds).length=ps.length:=by rw[<- b.length];exact F.len _ _ _ _ h
 refine wpAny_call (codeAny_mono (F.run X.A X.stack s H ⟨us,[]⟩ (us++ds) (i++dvs) Q E g I.env0 (c s us I.kIn m) b h) λr j a=>?_);cases r with
 | error e=>exact d pins σ H s e j I a
 | ok fl =>
  cases fl with
  | ret u=>exact I.after a
  | next=>exact False.elim a
  | brk=>exact False.elim a
  | cont=>exact False.elim a
theorem qd (F:FnOk X.prog X.w X.K X.mg X.base CX k f fd ps sp) (c:Room k X.A) (o:Gl X x) (g:X.mg x=some (.ref f)) (i:W.keepIn X.K (.ref f)=true) (l:Binds X.K fd ps ds) (d:Vals dvs ds) (m:iY CX X E)
    (n:PA X (e::es) t) (hdb:(x==("__debug__":Str))=false:=by decide) (he:starEach (e::es) X.env=(false,eval e X.env)::starEach es X.env:=by rfl) (hpl:(backTo pos (starEach es X.env)).any (·.1)=false:=by rfl) :
    PE X (.Call (.Name x p) (e::es) [] pos) (py sp dvs E t):=by
 intro a s j H Q I h;refine vb (ef I o g ?_ hdb);refine W.callWith_K (h₀:=X.base) I.ok.mod.kin i (thn (n pos a s j H _ I h) λw v ⟨y,u,b,r,q⟩=>⟨b.kIn,?_⟩) he hpl;exact qZ F c l d m b r q
end
structure FnScope (N P:LS) (sc:Scope):Prop where
 kind:sc.kind=.function
 co:sc.isCoroutine=false
 gen:sc.isGenerator=false
 nd:N.Nodup
 pre:N.take P.length=P
 par:∀x∈P,sc.names.lookup x=some .local∨sc.names.lookup x=some .cell
 nofree:∀y∈sc.names,y.2≠.free
theorem ir {kindOf:Str -> Option NameKind}{x:Str}:∀ {binds:List (Str × Value)}{m:Str -> OV}, (∀v, (x, v) ∉ binds) -> bindL kindOf binds m x=m x
 | [],_,_=>rfl
 | (n,v)::r,m,h=>by
  unfold bindL;rw[ir λw hw=>h w (ur _ hw)]
  split
  ·have:x≠n:=by rintro rfl;exact h v uZ
   simp[this]
  ·rfl
theorem io {kindOf:Str -> Option NameKind}{x:Str}:∀ {binds:List (Str × Value)}{m:Str -> OV}, (∀v, (x, v) ∉ binds) -> bindC kindOf binds m x=m x
 | [],_,_=>rfl
 | (n,v)::r,m,h=>by
  unfold bindC;rw[io λw hw=>h w (ur _ hw)]
  split
  ·rfl
  ·have:x≠n:=by rintro rfl;exact h v uZ
   simp[this]
theorem hW {kindOf:Str->Option NameKind}{x:Str}:∀ {P:LS}{vs:LW}{i:Nat}{m:MS},P.Nodup->P[i]? = some x->vs[i]? = some v->kindOf x=some .local ->
    bindL kindOf (P.zip vs) m x=some v
 | [],_,_,_,_,h,_,_=>by simp at h
 | _::_,[],_,_,_,_,h,_=>by simp at h
 | p::P,w::vs,0,m,nd,h1,h2,hk=>by
  simp at h1 h2;subst h1;subst h2;show bindL kindOf ((p,w)::P.zip vs) m p=_;unfold bindL;rw[ir λv hv=>(u4.mp nd).1 (List.of_mem_zip hv).1,if_pos hk];simp
 | p::P,w::vs,i+1,m,nd,h1,h2,hk=>by
  show bindL kindOf ((p,w)::P.zip vs) m x=_;unfold bindL;exact hW (i:=i) (u4.mp nd).2 (by simpa using h1) (by simpa using h2) hk
theorem il {kindOf:Str->Option NameKind}{x:Str}:∀ {P:LS}{vs:LW}{i:Nat}{m:MS},P.Nodup->P[i]? = some x->vs[i]? = some v->kindOf x≠some .local ->
    bindC kindOf (P.zip vs) m x=some v
 | [],_,_,_,_,h,_,_=>by simp at h
 | _::_,[],_,_,_,_,h,_=>by simp at h
 | p::P,w::vs,0,m,nd,h1,h2,hk=>by
  simp at h1 h2;subst h1;subst h2;show bindC kindOf ((p,w)::P.zip vs) m p=_;unfold bindC;rw[io λv hv=>(u4.mp nd).1 (List.of_mem_zip hv).1,if_neg hk];simp
 | p::P,w::vs,i+1,m,nd,h1,h2,hk=>by
  show bindC kindOf ((p,w)::P.zip vs) m x=_;unfold bindC;exact il (i:=i) (u4.mp nd).2 (by simpa using h1) (by simpa using h2) hk
def bQ (N:LS) (vs:LV):St:=vs.map some++List.replicate (N.length-vs.length) none
def bq (CX:CXT) (P:Program) (w:World) (K:W.Frag) (mg:MS) (base:Heap) (N:LS) (qual:Str) (scope:Scope) (f:Addr) (cd:Value) (A:Around) (outer:List Env) (s:Shared) (H:Hp) (E:XK):Cx where
 prog:=P
 w:=w
 K:=K
 mg:=mg
 base:=base
 A:=A.deeper (envOfC qual scope s.heap.objs.size f cd)
 N:=N
 s₀:=s
 H₀:=H
 env:=envOfC qual scope s.heap.objs.size f cd
 outer:=outer
 stack:=envOfC qual scope s.heap.objs.size f cd::outer
 ex:=[]
 calm:=true
 fn:=λ_=>true
 pn:=[]
 xe:=λe s'=>wpAny (model P w) (A.deeper (envOfC qual scope s.heap.objs.size f cd)) (leaving (envOfC qual scope s.heap.objs.size f cd) e) (λ_ s''=>CX outer H s E e s'') (λe' s''=>CX outer H s E e' s'') s'
theorem jo {i:Scope}{n:Nat}{x:Str}(h:i.names.lookup x=some .cell):∃c,(cellsFrom n i.names []).lookup x=some c:=by
 have q:=W.cellsFrom_some i.names n [] (.inl h);exact vc.mp q
theorem lK {CX:CXT}{P:Program}{w:World}{K:W.Frag}{mg:Str -> OV}{base:Heap}{N ps:LS}{I:Str}{scope:Scope}{f:Addr}{O:Value}{A:Around}{G:List Env}{s U:Shared}{H:Hp}{E:XK}{us:LW}{J:LV}
    (S:FnScope N ps scope) (L:A.handled=none) (g:Env0 P w K mg base A G s H) (T:J.length=ps.length) (r:Vals J us)
    (x:InCallC s s.heap.objs.size (bindL (envOfC I scope s.heap.objs.size f O).kindOf (ps.zip us) λ_=>none) (cellsFrom (s.heap.objs.size+1) scope.names []) (bindC (envOfC I scope s.heap.objs.size f O).kindOf (ps.zip us) λ_=>none) U) :
    Inv (bq CX P w K mg base N I scope f O A G s H E) [] (bQ N J) H U:=by
 have F:ps.length<=N.length:=by have:=congrArg List.length S.pre;rw[uM] at this;omega
 obtain⟨t,X,rfl,C⟩:=x.done;have l:∀b:Addr,b∉(bq CX P w K mg base N I scope f O A G s H E).ex:=λb z=>absurd (show b∈([]:List Addr) from z) (by simp);refine⟨⟨g.mod,S.kind,rfl,rfl,ua _,λy z c t d=>?_,λy j=>?_,λy c _ h=>?_,λ_=>L,Around.frames_deeper g.frames,.inr ⟨rfl,rfl⟩,λb z=>absurd z (l b),g.bs,g.bsz,λb _ _=>l b,λb z=>absurd z (l b),g.funs,g.frf⟩,
  rfl,g.bare,Un.kept C,⟨_,x.toInCall.ns,λi y v t d R=>?_⟩,λy c h=>⟨_,x.cell y c h⟩,g.hok.fresh (ua _),λy c h=>?_,λp m=>absurd (show p∈([]:AO_) from m) (by simp),g.hok.kept C,?_⟩
 ·exact name_of_addr x.apart (PySem.mem_of_lookup t) (PySem.mem_of_lookup d)
 ·have j:scope.names.lookup y=some .cell∨scope.names.lookup y=some .free:=j;rcases j with j | j
  ·exact jo j
  ·exact absurd rfl (S.nofree _ (PySem.mem_of_lookup j))
 ·exact uO (x.above y c (PySem.mem_of_lookup h))
 ·have B:i<J.length := by
     unfold bQ at d;by_cases B:i<J.length
     ·exact B
     ·rw[vd (by simpa using B)] at d;rw[List.getElem?_replicate] at d
      split at d <;> cases d
  have Q:J[i]? = some v:=by
   unfold bQ at d;rw[vj (by simpa using B),uC] at d;cases e:J[i]? with
   | none=>rw[e] at d;cases d
   | some a=>rw[e] at d;cases d;rfl
  obtain⟨u,D,M⟩:=r.get Q;have m:ps[i]? = some y:=by rw[<- S.pre,List.getElem?_take_of_lt (by omega)];exact t
  have o:ps.Nodup:=by rw[<- S.pre];exact S.nd.sublist (List.take_sublist _ _)
  refine⟨u,M,?_⟩;rcases S.par y (uN m) with k | k
  ·exact .inl ⟨k,hW o m D k⟩
  ·obtain⟨c,e⟩:=jo (n:=s.heap.objs.size+1) k;refine .inr ⟨.inl k,c,e,?_⟩;have q:=x.cell y c e;rw[il o m D (by show scope.names.lookup y≠_;rw[k];decide)] at q;exact q
 ·exact g.hok.fresh (uO (x.above y c (PySem.mem_of_lookup h)))
 ·unfold bQ;show _=N.length;rw[uA,ub,vx];omega
theorem pA {CX:CXT}{P:Program}{w:World}{K:W.Frag}{mg:Str -> OV}{base:Heap}{k:Nat}{f:Addr}{name z:Str}{O:Arguments}{U:List Stmt}{scope:Scope}{dV kV a0 pm G ct oc:Value}{an od:Option Addr}
    {a1:Array (OV)} {N ps:LS} {sp:Sp} (lk:K.lookup f=some ⟨oc,od,.func (W.fnOf name z O U scope dV kV a0 pm an G ct),a1⟩) (D:W.codeIn K G z=true) (S:FnScope N ps scope)
    (j:∀Y H Q E,sp Y H Q E->Y.length=ps.length)
    (d:∀(A:Around) (i:List Env) (s:Shared) (H:Hp) (Y:LV) (Q:VK) (E:XK),Room k (A.deeper (envOfC z scope s.heap.objs.size f G))->sp Y H Q E ->
     ∃t,PSs (bq CX P w K mg base N z scope f G A i s H E) U t/\t { nx:=λ_ H'=>Q .non H',rt:=Q } (bQ N Y) H) :
    FnOk P w K mg base CX (k+1) f (W.fnOf name z O U scope dV kV a0 pm an G ct) ps sp:=by
 refine⟨j,λA i s H R X Y Q E p h Z r l=>?_⟩;have hl:=j _ _ _ _ l;have M:K.In s.heap:=h.mod.kin.keeps λb o e=>(h.bs b o e).1;have C:s.heap.NoLimit:=h.mod.nolimit.keeps λb o e=>(h.bs b o e).1;have c:∀y∈ps.zip X,scope.names.lookup y.1=some .local∨(scope.names.lookup y.1=some .cell/\((cellsFrom (s.heap.objs.size+1) scope.names []).lookup y.1).isSome=true):=λ⟨n,v⟩ hy=>by
  rcases S.par n (List.of_mem_zip hy).1 with q | q
  ·exact .inl q
  ·exact .inr ⟨q,W.cellsFrom_some _ _ _ (.inl q)⟩
 refine codeAny_call_function p.depth (M _ _ lk) rfl S.co S.gen rfl (W.codeRec_of M D) (Z _ _ _ _ ?_);refine wpAny_newFunctionEnv_cells S.kind c λT he L x=>?_;subst he;refine⟨C.keeps x.toInCall.keep,codeAny_func ?_⟩;obtain⟨t,ht,hq⟩:=d A i s H Y Q E (p.deeper _) l;have I:Inv (bq CX P w K mg base N z scope f G A i s H E) [] (bQ N Y) H L:=lK S p.hd h hl r x;refine uR (ht [] L (bQ N Y) H _ I hq) (λfl B g=>?_) λe B g=>g;have m:∀ {a:St} {H':Hp} {v:V} {u:Value},Inv (bq CX P w K mg base N z scope f G A i s H E) [] a H' B->RelV v u->Q v H'->CE i P w H s Q u B :=
  λ{a H' v u} J F q=>⟨v,H',J.os,J.bare,J.base,J.hok,F,q⟩
 cases fl with
 | ret u =>
  obtain⟨v,a,H',J,F,q⟩:=g;exact m J F q
 | next =>
  obtain⟨a,H',J,q⟩:=g;exact m (v:=V.non) (u:=Value.none) J rfl q
 | brk =>
  obtain⟨_,_,_,q⟩:=g;exact False.elim q
 | cont =>
  obtain⟨_,_,_,q⟩:=g;exact False.elim q
section
variable {X:Cx}{x:Str}{p pos:Pos}{e:Expr}{es:List Expr}{t:TA}{id T:String}{r:LV->Hp->VK->Prop}
def tCB (r:LV->Hp->VK->Prop) (t:TA):TE:=λσ H Q=>t σ H λvs H1=>r vs H1 Q
theorem bJ (n:bK X (.builtin id) r) (q:Gl X x) (i:X.mg x=none) (f:bootBuiltins x=some (.builtin id)) (o:PA X (e::es) t) (d:x≠"__name__":=by decide) (hdb:(x==("__debug__":Str))=false:=by decide)
    (he:starEach (e::es) X.env=(false,eval e X.env)::starEach es X.env:=by rfl) (hpl:(backTo pos (starEach es X.env)).any (·.1)=false:=by rfl):PE X (.Call (.Name x p) (e::es) [] pos) (tCB r t):=by
 intro a s b H Q I h;refine vb (dE I q i f ?_ d hdb);exact PyProof.Rows.callWith_builtin1 (thn (o pos a s b H _ I h) λl g ⟨u,c,j,m,k⟩=>n a g b c u l Q j m k) he hpl
theorem dh (n:bK X (.type T) r) (q:Gl X x) (i:X.mg x=none) (f:bootBuiltins x=some (.type T)) (o:PA X (e::es) t) (d:x≠"__name__":=by decide) (hdb:(x==("__debug__":Str))=false:=by decide)
    (he:starEach (e::es) X.env=(false,eval e X.env)::starEach es X.env:=by rfl) (hpl:(backTo pos (starEach es X.env)).any (·.1)=false:=by rfl):PE X (.Call (.Name x p) (e::es) [] pos) (tCB r t):=by
 intro a s b H Q I h;refine vb (dE I q i f ?_ d hdb);exact PyProof.Rows.callWith_type1 (thn (o pos a s b H _ I h) λl g ⟨u,c,j,m,k⟩=>n a g b c u l Q j m k) he hpl
end
end L2
namespace HT
open PySem PyProof.Rows
section
open PySem.SeqAt
open PySem.AutoSeq1 (wpAny_loadPart')
open PySem.MeetsSeq PySem.MeetsSeq2 PySem.MeetsSeq3
end
section
variable {prog:Program}{w:World}{A:Around}{E:QS}{s:Shared}
def sIx (n d:Nat):Option Int->Nat
 | none=>d
 | some v=>if v<0 then (v+(n:Int)).toNat else min v.toNat n
theorem sIx_none (n d:Nat):sIx n d none=d:=rfl
theorem sIx_nat (n d k:Nat):sIx n d (some (k:Int))=min k n:=by
 show (if (k:Int)<0 then ((k:Int)+(n:Int)).toNat else min (k:Int).toNat n)=min k n;rw[if_neg (by omega),vk]
end
end HT
namespace L2
open PySem PySem.Spec PyProof.Rows
abbrev TO:=St->Hp->(Option Int->Hp->Prop)->Prop
def PO (X:Cx) (e:Option Expr) (t:TO):Prop :=
 ∀(pins:AO_) (s:Shared) (σ:St) (H:Hp) (Q:Option Int->Hp->Prop),Inv X pins σ H s->t σ H Q ->
  wpAny (model X.prog X.w) X.A (evalPart e X.env) (λu s'=>∃o H',Inv X pins σ H' s'/\IsPart u o/\Q o H') X.xe s
def qh:TO:=λ_ H Q=>Q none H
def sY (t:TE):TO:=λσ H Q=>t σ H λx H1=>∃i,x=.int i/\Q (some i) H1
section
variable {X:Cx}{e:Expr}{te:TE}{lo hi:Option Expr}{tl th:TO}{pos p2:Pos}
theorem bS:PO X none qh:=by
 intro a s b H Q I h;rw[evalPart_none];exact uc ⟨none,H,I,.none,h⟩
theorem br (h:PE X e te):PO X (some e) (sY te):=by
 intro a s f H Q I c;rw[evalPart_some];refine thn (h a s f H _ I c) λu k ⟨x,d,g,b,j⟩=>?_;obtain⟨i,rfl,q⟩:=j;obtain⟨t,rfl⟩:=b;exact⟨some i,d,g,.int i t,q⟩
def SlR (X:Cx) (r:V->Option Int->Option Int->Hp->VK->Prop):Prop :=
 ∀(pins:AO_) (s:Shared) (σ:St) (H:Hp) (x:V) (v vl vu:Value) (lo hi:Option Int) (sl:Addr) (Q:VK),Inv X pins σ H s->RelV x v->s.heap.IsSliceOf sl vl vu .none->IsPart vl lo->IsPart vu hi->r x lo hi H Q ->
  ∃T id,typeLookup (.type T) "__getitem__"=pure (some (.builtin id))/\s.TypeIs v T/\wpAny (model X.prog X.w) X.A (getItem v (.ref sl)) (EP X pins σ Q) X.xe s
def tSl (r:V->Option Int->Option Int->Hp->VK->Prop) (te:TE) (tl th:TO):TE:=λσ H Q=>te σ H λx H1=>tl σ H1 λl H2=>th σ H2 λu H3=>r x l u H3 Q
theorem bp (m:SlR X r) (he:PE X e te) (E:PO X lo tl) (G:PO X hi th):PE X (.Subscript e (.Slice lo hi none p2) pos) (tSl r te tl th):=by
 intro a s d H Q I h;refine Subscript_ (thn (he a s d H _ I h) λv w ⟨x,n,y,B,z⟩=>?_);refine wpAny_Slice (thn (E a w d n _ y z) λf J ⟨l,A,o,k,j⟩=>thn (G a J d A _ o j) λg c ⟨u,i,F,t,D⟩=>?_);rw[evalPart_none];refine uc ?_;have L:Inv X a d i { c with heap:=c.heap.push { cls:=.type "slice",data:=.fields #[f,g,.none] } }:=F.kept (t':=c.toks) λb N q=>ui _ q;obtain⟨T,M,p,C,K⟩:=m a { c with heap:=c.heap.push { cls:=.type "slice",data:=.fields #[f,g,.none] } } d i x v f g l u c.heap.objs.size Q L B (Heap.IsSliceOf.new ..) k t D;show wpAny (model X.prog X.w) X.A (subscriptTail e (.Slice lo hi none p2) v (.ref c.heap.objs.size)) (EP X a d Q) X.xe { c with heap:=c.heap.push { cls:=.type "slice",data:=.fields #[f,g,.none] } };exact tail_any (ops:=[.ref c.heap.objs.size,v]) C p K (by with_unfolding_all rfl)
def dk (xs:LV) (lo hi:Option Int):LV:=(xs.drop (HT.sIx xs.length 0 lo)).take (HT.sIx xs.length xs.length hi-HT.sIx xs.length 0 lo)
theorem jI (xs:LV) (b a:Option Int):(dk xs b a).length<=xs.length:=by
 unfold dk;rw[uM,vm];omega
end
def ixN (n:Nat) (i:Int):Option Nat:=if 0<=i then (if i<n then some i.toNat else none) else if -(n:Int)<=i then some (i+n).toNat else none
def atI {α:Type}(xs:List α) (i:Int):Option α:=(ixN xs.length i).bind λj=>xs[j]?
theorem fG (h:ixN n i=some j):seqIndex? i n=some j /\ j<n /\ -(n:Int) <= i /\ i<n := by
 unfold ixN at h;by_cases b:0<=i
 ·rw[if_pos b] at h;by_cases a:i<n
  ·rw[if_pos a] at h;have e:i.toNat=j:=ue h;exact⟨by rw[seqIndex_of b a,e],by omega,by omega,a⟩
  ·rw[if_neg a] at h;cases h
 ·rw[if_neg b] at h;by_cases a:-(n:Int)<=i
  ·rw[if_pos a] at h;have e:(i+n).toNat=j:=ue h;exact⟨by rw[seqIndex_neg (by omega) a,e],by omega,a,by omega⟩
  ·rw[if_neg a] at h;cases h
theorem gS (h:atI xs i=some v):∃j,seqIndex? i xs.length=some j/\xs[j]? = some v/\j<xs.length/\-(xs.length:Int)<=i/\i<xs.length:=by
 unfold atI at h;cases e:ixN xs.length i with
 | none=>rw[e] at h;cases h
 | some j =>
  rw[e] at h;obtain⟨d,b,a,c⟩:=fG e;exact⟨j,d,h,b,a,c⟩
theorem aN {α:Type}{xs:List α}{j:Nat}{v:α}(h:xs[j]? = some v):atI xs (j:Int)=some v:=by
 have a:j<xs.length:=(uh.mp h).1;have e:ixN xs.length (j:Int)=some j:=by
  unfold ixN;rw[if_pos (by omega),if_pos (by omega)];simp
 unfold atI;rw[e];exact h
def jO (b:Expr):Prop:=∀o i,subscripted b false o i=operate [o,i] (getItem o i)
def IxR (X:Cx) (r:R2):Prop :=
 ∀(value slice:Expr) (pins:AO_) (s:Shared) (σ:St) (H:Hp) (x y:V) (v u:Value) (Q:VK),Inv X pins σ H s->RelV x v->RelV y u->r x y H Q ->
  subscripted slice false v u=operate [v,u] (getItem v u)->wpAny (model X.prog X.w) X.A (subscriptTail value slice v u) (EP X pins σ Q) X.xe s
def MtR (X:Cx) (id:String) (r:V->LV->Hp->VK->Prop):Prop :=
 ∀(pins:AO_) (s:Shared) (σ:St) (H:Hp) (x:V) (xs:LV) (v:Value) (us:LW) (Q:VK),Inv X pins σ H s->RelV x v->Vals xs us->r x xs H Q ->
  wpAny (model X.prog X.w) X.A (call (.builtin id) (v::us)) (EP X pins σ Q) X.xe s
section
variable {X:Cx}{a b:Expr}{ta tb:TE}{pos:Pos}
theorem aB (d:IxR X r) (m:PE X a ta) (j:PE X b tb) (l:jO b):PE X (.Subscript a b pos) (tOp r ta tb):=by
 intro c s f H Q I h;exact Subscript_ (nH m j I h λv u n x y i e g k q=>d a b c n f i x y v u Q e g k q (l _ _))
def rIxL (K:W.Frag):R2:=λx y H Q=>∃p xs i v,x=.ref p/\y=.int i/\SqL K H p xs/\atI xs i=some v/\Q v H
def rIxT (K:W.Frag):R2:=λx y H Q=>∃p xs i v,x=.ref p/\y=.int i/\SqT K H p xs/\atI xs i=some v/\Q v H
def rIxS:R2:=λx y H Q=>∃z i c,x=.str z/\y=.int i/\z.length<=sizeLine/\atI z.cps.toList i=some c/\Q (.str ⟨#[c]⟩) H
theorem pV:IxR X (rIxL X.K) := by
 intro f g a s n H x y v u Q I D F h o;obtain⟨p,M,i,z,rfl,rfl,L,K,q⟩:=h;cases D;obtain⟨t,rfl⟩:=F;obtain⟨e,r,d,P⟩:=I.list L;obtain⟨j,c,C,O,E,G⟩:=gS K;obtain⟨w,m,k⟩:=r.get C;have J:=r.length;have N:=eg;have b:EP X a n Q w s:=⟨z,H,I,k,q⟩
 by_cases A:0<=i
 ·have l:i.toNat=j:=by
     rw[seqIndex_of A G] at c;exact ue c
  exact item_listR d.isList A (by omega) (by rw[l];simpa using m) b o
 ·have l:(i+(e.toArray.size:Int)).toNat=j:=by
     rw[seqIndex_neg (by omega) E] at c;rw[uj,<- J];exact ue c
  exact subscriptTail_builtinR (x:=w) d.isList.typeIs slot_list_getitem.lookup
   (wpAny_getItem_list_neg (Q:=λr B=>r=w/\EP X a n Q r B) d.isList (by omega) (by rw[uj] <;> omega) (by omega) (by rw[l];simpa using m) ⟨rfl,b⟩) o
theorem sL:IxR X (rIxT X.K):=by
 intro b c a s g H x y v u Q I o B h C;obtain⟨p,G,i,z,rfl,rfl,F,E,q⟩:=h;cases o;obtain⟨t,rfl⟩:=B;obtain⟨A,r,f,N⟩:=I.tuple F;obtain⟨j,l,n,M,K,L⟩:=gS E;obtain⟨w,m,d⟩:=r.get n;have D:=r.length;have J:=eg;have e:EP X a g Q w s:=⟨z,H,I,d,q⟩
 exact subscriptTail_builtinR (x:=w) f.typeIs slot_tuple_getitem.lookup
  (getItem_tuple (j:=j) (Q:=λr k=>r=w/\EP X a g Q r k) f (by omega) (by omega) (by rw[uj,<- D];exact l) (by simpa using m) ⟨rfl,e⟩) C
theorem rP:IxR X rIxS:=by
 intro a b d s B H x y v u Q I g l h n;obtain⟨z,i,c,rfl,rfl,E,p,q⟩:=h;obtain⟨t,rfl⟩:=g;obtain⟨C,rfl⟩:=l;obtain⟨j,e,f,D,k,m⟩:=gS p;have o:z.cps.toList.length=z.length:=by simp[Str.length]
 rw[o] at e k m;have A:=eg;exact tail_any (typeIs_str s z t) slot_str_getitem.lookup (getItem_str (c:=c) (by
  have w:decide (i < -(2 ^ 63:Int))=false:=ut (by omega);have r:decide (i ≥ 2 ^ 63)=false:=ut (by omega);rw[w,r,Bool.or_false]) (by rw[e];simpa using f) ⟨.str ⟨#[c]⟩,H,I.tok _,⟨_,rfl⟩,q⟩) n
theorem lh (its:LW) (n j:Nat) (u:Value):Obj.mapSeq (·.setIfInBounds j u) { cls:=.type "list",data:=.seq its.toArray n }={ cls:=.type "list",data:=.seq (its.set j u).toArray n }:=by
 simp[Obj.mapSeq]
theorem Inv.lst (I:Inv X pins σ H s) (h:H p=some (.lst xs)) :
    ∃(its:LW) (n:Nat),Vals xs its/\s.heap.get? p=some { cls:=.type "list",data:=.seq its.toArray n }/\xs.length<=sizeLine:=by
 obtain⟨z,its,n,r,e⟩:=I.hok p _ h;exact⟨its,n,r,e,z⟩
theorem Inv.lstUpd {xs ys:LV}{its its':LW}{n n':Nat}{f:Obj->Obj}(I:Inv X pins σ H s) (h:H p=some (.lst xs))
    (g:s.heap.get? p=some { cls:=.type "list",data:=.seq its.toArray n }) (a:f { cls:=.type "list",data:=.seq its.toArray n }={ cls:=.type "list",data:=.seq its'.toArray n' }) (r:Vals ys its') (d:ys.length<=sizeLine) (t:Nat) :
    Inv X pins σ (upd H p (.lst ys)) { s with heap:=s.heap.update p f,toks:=t }:=by
 have e:(s.heap.update p f).get? p=some { cls:=.type "list",data:=.seq its'.toArray n' }:=by rw[vn f g (by rw[a] <;> rfl),a]
 refine I.write (x:=p) (e:=p) (by rw[h];trivial) (.inl rfl) (λb u c q=>(u7 _ _ (Ne.symm c)).trans q) ⟨_,e⟩ ?_;exact⟨d,its',n',r,e⟩
def tG:V->V->V->Hp->(Hp->Prop)->Prop:=λo i v H Q=>∃p xs k j,o=.ref p/\i=.int k/\H p=some (.lst xs)/\ixN xs.length k=some j/\Q (upd H p (.lst (xs.set j v)))
theorem og:oa X tG := by
 intro a s A H o i v G F u Q I y E C h;obtain⟨p,z,k,j,rfl,rfl,w,B,q⟩:=h;cases y;obtain⟨t,rfl⟩:=E;obtain⟨b,n,r,d,D⟩:=I.lst w;obtain⟨c,K,m,l⟩:=fG B;have f:=r.length;have J:=eg;have g:Inv X a A (upd H p (.lst (z.set j v))) { s with heap:=s.heap.update p (Obj.mapSeq (·.setIfInBounds j u)) } :=
  I.lstUpd w d (lh b n j u) (r.set C j) (by rw[u8];exact D) s.toks
 by_cases x:0<=k
 ·have e:k.toNat=j:=by
     rw[seqIndex_of x l] at c;exact ue c
  exact W.ki_setAt d x (by omega) (by rw[uj,<- f];exact l) (by rw[e];exact⟨_,g,q⟩)
 ·have e:(k+(b.toArray.size:Int)).toNat=j:=by
     rw[seqIndex_neg (by omega) m] at c;rw[uj,<- f];exact ue c
  exact W.ki_setBack d (by omega) (by rw[uj,<- f];exact m) (by omega) (by rw[e];exact⟨_,g,q⟩)
theorem iE (b a:Option Int) (n:Nat):(sliceBounds b a none n).1=((HT.sIx n 0 b:Nat):Int) /\ (sliceBounds b a none n).2.1=((HT.sIx n n a:Nat):Int) /\ (sliceBounds b a none n).2.2=1 := by
 refine⟨?_,?_,rfl⟩
 ·cases b with
  | none=>simp[sliceBounds,HT.sIx]
  | some i =>
   simp only[sliceBounds,HT.sIx,Option.getD_none,show (1:Int) > 0 by decide,if_true];by_cases h:i<0
   ·simp only[h,if_true] <;> omega
   ·simp only[h,if_false] <;> omega
 ·cases a with
  | none=>simp[sliceBounds,HT.sIx]
  | some i =>
   simp only[sliceBounds,HT.sIx,Option.getD_none,show (1:Int) > 0 by decide,if_true];by_cases h:i<0
   ·simp only[h,if_true] <;> omega
   ·simp only[h,if_false] <;> omega
theorem iw (its:LW) (a b:Option Int):slicePick its.toArray a b none=((its.drop (HT.sIx its.length 0 a)).take (HT.sIx its.length its.length b-HT.sIx its.length 0 a)).toArray:=by
 obtain⟨e,d,c⟩:=iE a b its.toArray.size;unfold slicePick;rw[e,d,c];simp only[sliceRange_one,pick_run,uj] <;> rfl
def rSlL (K:W.Frag):V->Option Int->Option Int->Hp->VK->Prop:=λx lo hi H Q=>∃a xs,x=.ref a/\SqL K H a xs/\∀p,H p=none->Q (.ref p) (upd H p (.lst (dk xs lo hi)))
theorem qe:SlR X (rSlL X.K):=by
 intro g s w H x v u z e f y Q I l p j k h;obtain⟨a,c,rfl,n,q⟩:=h;cases l;obtain⟨m,r,i,t⟩:=I.list n;have d:=r.length;refine⟨"list",_,slot_list_getitem.lookup,i.isList.typeIs,?_⟩;refine wpAny_getItem_list_slice i.isList p j k .none (by simp) ?_ (by rw[uj] <;> omega);rw[iw,<- d];refine⟨.ref s.heap.objs.size,_,I.laid (t':=s.toks) (o:=.lst (dk c e f)) (λb A q=>ui _ q) (ua _) ?_,rfl,q _ (I.hok.fresh (ua _))⟩;exact⟨uo (jI c e f) t,_,0,(r.drop (HT.sIx c.length 0 e)).take (HT.sIx c.length c.length f-HT.sIx c.length 0 e),uw _ rfl⟩
def cP:V->Bool
 | .non=>true
 | .bl _=>true
 | .int _=>true
 | .str _=>true
 | _=>false
def eqV:V->V->Bool
 | .non,.non=>true
 | .bl a,.bl b=>a==b
 | .bl a,.int b=>(if a then 1 else 0)==b
 | .int a,.bl b=>a==(if b then 1 else 0)
 | .int a,.int b=>a==b
 | .str a,.str b=>a==b
 | _,_=>false
theorem sr (e:RelV y u) (c:RelV x v) (g:cP y=true) (f:cP x=true):SeqAt.EqAt A s u v (eqV y x):=by
 cases y with
 | non =>
  cases e;cases x with
  | non=>cases c;exact SeqAt.EqAt.same _
  | bl b=>cases c;exact SeqAt.EqAt.none_bool b
  | int b=>obtain⟨t,rfl⟩:=c;exact SeqAt.EqAt.none_int b t
  | str b=>obtain⟨t,rfl⟩:=c;exact SeqAt.EqAt.none_str b t
  | _=>exact absurd (show false=true from f) uz
 | bl a =>
  cases e;cases x with
  | non=>cases c;exact SeqAt.EqAt.bool_none a
  | bl b=>cases c;exact SeqAt.EqAt.bool_bool a b
  | int b=>obtain⟨t,rfl⟩:=c;exact SeqAt.EqAt.bool_int a b t
  | str b=>obtain⟨t,rfl⟩:=c;exact SeqAt.EqAt.bool_str a b t
  | _=>exact absurd (show false=true from f) uz
 | int a =>
  obtain⟨d,rfl⟩:=e;cases x with
  | non=>cases c;exact SeqAt.EqAt.int_none a d
  | bl b=>cases c;exact SeqAt.EqAt.int_bool a d b
  | int b=>obtain⟨t,rfl⟩:=c;exact SeqAt.EqAt.int_int a d b t
  | str b=>obtain⟨t,rfl⟩:=c;exact SeqAt.EqAt.int_str a d b t
  | _=>exact absurd (show false=true from f) uz
 | str a =>
  obtain⟨d,rfl⟩:=e;cases x with
  | non=>cases c;exact SeqAt.EqAt.str_none a d
  | bl b=>cases c;exact SeqAt.EqAt.str_bool a d b
  | int b=>obtain⟨t,rfl⟩:=c;exact SeqAt.EqAt.str_int a d b t
  | str b=>obtain⟨t,rfl⟩:=c;exact SeqAt.EqAt.str_str a d b t
  | _=>exact absurd (show false=true from f) uz
 | _=>exact absurd (show false=true from g) uz
def eqU (x:V) (u:Value):Bool:=match u with
 | .none=>eqV .non x
 | .bool b=>eqV (.bl b) x
 | .int i _=>eqV (.int i) x
 | .str z _=>eqV (.str z) x
 | _=>false
theorem lZ (r:RelV y u) (f:cP y=true):eqU x u=eqV y x:=by
 cases y with
 | non=>cases r;rfl
 | bl b=>cases r;rfl
 | int i=>obtain⟨t,rfl⟩:=r;rfl
 | str z=>obtain⟨t,rfl⟩:=r;rfl
 | _=>exact absurd (show false=true from f) uz
theorem er:∀ {xs:LV}{us:LW},Vals xs us->xs.all cP=true->us.any (eqU x)=xs.any λy=>eqV y x
 | _,_,.nil,_=>rfl
 | y::xs,u::us,.cons r t,f=>by
  rw[List.all_cons,uP] at f;rw[u9,u9,lZ r f.1,er t f.2]
theorem dB (rx:RelV x v) (fx:cP x=true):∀ {xs:LV}{us:LW},Vals xs us->xs.all cP=true->∀u∈us,SeqAt.EqAt A s u v (eqU x u)
 | _,_,.nil,_=>λu hu=>by cases hu
 | y::xs,u::us,.cons r t,f=>λu' hu=>by
  rw[List.all_cons,uP] at f;rcases uf.mp hu with rfl | hu
  ·rw[lZ r f.1];exact sr r rx f.1 fx
  ·exact dB rx fx t f.2 u' hu
def inV (x:V) (xs:LV):Bool:=xs.any λy=>eqV y x
def rIn (K:W.Frag) (neg:Bool):R2:=λx y H Q=>∃p xs,y=.ref p/\(SqL K H p xs∨SqT K H p xs)/\cP x=true/\xs.all cP=true/\Q (.bl (if neg then !inV x xs else inV x xs)) H
theorem mr:OpR X (compareOp .In) (rIn X.K false):=by
 intro f s m H x y v u Q I g j h;obtain⟨p,l,rfl,b,i,c,q⟩:=h;cases j;rcases b with b | b
 ·obtain⟨a,r,d,k⟩:=I.list b;refine SeqAt.in_listAt (eqU x) d.isList (λw e=>dB g i r c w (by simpa using e)) ⟨.bl _,H,I,rfl,?_⟩;rw[show a.toArray.any (eqU x)=a.any (eqU x) by simp,er r c];exact q
 ·obtain⟨a,r,d,k⟩:=I.tuple b;refine SeqAt.in_tupleAt (eqU x) d (λw e=>dB g i r c w (by simpa using e)) ⟨.bl _,H,I,rfl,?_⟩;rw[show a.toArray.any (eqU x)=a.any (eqU x) by simp,er r c];exact q
theorem jq:OpR X (compareOp .NotIn) (rIn X.K true):=by
 intro f s m H x y v u Q I g j h;obtain⟨p,l,rfl,b,i,c,q⟩:=h;cases j;rcases b with b | b
 ·obtain⟨a,r,d,k⟩:=I.list b;refine SeqAt.notIn_listAt (eqU x) d.isList (λw e=>dB g i r c w (by simpa using e)) ⟨.bl _,H,I,rfl,?_⟩;rw[show a.toArray.any (eqU x)=a.any (eqU x) by simp,er r c];exact q
 ·obtain⟨a,r,d,k⟩:=I.tuple b;refine SeqAt.notIn_tupleAt (eqU x) d (λw e=>dB g i r c w (by simpa using e)) ⟨.bl _,H,I,rfl,?_⟩;rw[show a.toArray.any (eqU x)=a.any (eqU x) by simp,er r c];exact q
theorem jr:bK X (.type "list") (λxs H Q => ∃p ys, xs=[.ref p] /\ (SqL X.K H p ys ∨ SqT X.K H p ys) /\ ∀l, H l=none -> Q (.ref l) (upd H l (.lst ys))) := by
 intro g s z H xs B Q I r h;obtain⟨p,ys,rfl,t,q⟩:=h;obtain⟨u,rfl,A⟩:=bL r;cases A;have j:∀(a:LW),Vals ys a->ys.length<=sizeLine->∀(c:Heap) (f:Nat),(∀b o',s.heap.get? b=some o'->c.get? b=some o') ->
     c.get? s.heap.objs.size=some { cls:=.type "list",dict:=none,data:=.seq a.toArray f,slots:=#[] }->EP X g z Q (.ref s.heap.objs.size) { s with heap:=c }:=λa d m c f i e =>
  ⟨.ref s.heap.objs.size,_,I.laid (t':=s.toks) i (ua _) (show ObjOk X.prog X.w _ c _ (.lst ys) from⟨m,a,f,d,e⟩),rfl,q _ (I.hok.fresh (ua _))⟩
 rcases t with t | t
 ·obtain⟨a,d,v,m⟩:=I.list t;have k:=d.length;obtain⟨o,x,y,n,w⟩:=v.isList;exact call_list_seq p (.inl rfl) x y w (λc f i e=>j a d m c f i e) (by simp only[uj] <;> omega)
 ·obtain⟨a,d,v,m⟩:=I.tuple t;have k:=d.length;obtain⟨o,x,y,n,w⟩:=v;exact call_list_seq p (.inr rfl) x y w (λc f i e=>j a d m c f i e) (by simp only[uj] <;> omega)
theorem dj:bK X (.type "tuple") (λxs H Q => ∃p ys, xs=[.ref p] /\ ((SqL X.K H p ys /\ ∀l, H l=none -> Q (.ref l) (upd H l (.tup ys))) ∨ (SqT X.K H p ys /\ Q (.ref p) H))) := by
 intro a s j H xs x Q I r h;obtain⟨p,ys,rfl,h⟩:=h;obtain⟨u,rfl,w⟩:=bL r;cases w;rcases h with⟨i,q⟩ | ⟨i,q⟩
 ·obtain⟨c,g,f,n⟩:=I.list i;have m:=g.length;refine call_tuple_list f.isList (λd v=>?_) (by simp only[uj] <;> omega);have k:Inv X a j H { s with heap:=d }:=I.kept (t':=s.toks) v;have t:Inv X a j (upd H d.objs.size (.tup ys)) { s with heap:=d.push { cls:=.type "tuple",data:=.seq c.toArray } } :=
   k.laid (t':=s.toks) (λb o e=>ui _ e) (ua _) (show ObjOk X.prog X.w _ _ _ (.tup ys) from⟨n,c,g,TupN.new _ _⟩)
  exact⟨.ref d.objs.size,_,t,rfl,q _ (k.hok.fresh (ua _))⟩
 ·obtain⟨c,g,f,n⟩:=I.tuple i;exact call_tuple_same f ⟨.ref p,H,I,rfl,q⟩
def tyV (K:W.Frag) (T:String) (x:V) (H:Hp):Prop := match x with
 | .str _=>T="str"
 | .int _=>T="int"
 | .ref p=>(T="list"/\∃xs,SqL K H p xs)∨(T="tuple"/\∃o,K.lookup p=some o/\o.cls=.type "tuple"/\o.dict=none) ∨
     (T="dict"/\((∃kvs,H p=some (.dK kvs))∨∃kvs,H p=some (.dT kvs)))∨(T="set"/\∃S n,H p=some (.set S n))
 | _=>False
theorem jn (I:Inv X pins σ H s) (r:RelV x v) (f:tyV X.K T x H) :
    s.TypeIs v T/\∀a,v=.ref a->∃G,s.heap.get? a=some G/\G.dict=none:=by
 cases x with
 | str z =>
  obtain⟨t,rfl⟩:=r;cases (show T="str" from f);exact⟨typeIs_str s z t,λ_ e=>nomatch e⟩
 | int i =>
  obtain⟨t,rfl⟩:=r;cases (show T="int" from f);exact⟨typeIs_int s i t,λ_ e=>nomatch e⟩
 | ref p =>
  cases r;rcases f with⟨rfl,u,q⟩ | ⟨rfl,o,b,m,g⟩ | ⟨rfl,b⟩ | ⟨rfl,S,n,b⟩
  ·obtain⟨l,_,k,_⟩:=I.list q;refine⟨k.isList.typeIs,λa e=>?_⟩;cases e;obtain⟨o,n,e,c,g,_⟩:=k;exact⟨o,e,g⟩
  ·refine⟨⟨o,I.kIn p o b,m⟩,λa e=>?_⟩;cases e;exact⟨o,I.kIn _ o b,g⟩
  ·have z:∃o, s.heap.get? p=some o /\ o.ExactDict := by
      rcases b with⟨j,b⟩ | ⟨j,b⟩
      ·obtain⟨_,_,_,_,o,_,_,e,d,_⟩:=I.hok p _ b;exact⟨o,e,d⟩
      ·obtain⟨_,_,_,_,o,_,_,e,d,_⟩:=I.hok p _ b;exact⟨o,e,d⟩
   obtain⟨o,e,d⟩:=z;refine⟨⟨o,e,d.1⟩,λa h=>?_⟩;cases h;exact⟨o,e,d.2.1⟩
  ·obtain⟨o,_,_,_,e,d,_⟩:=I.hok p _ b;refine⟨⟨o,e,d.1⟩,λa h=>?_⟩;cases h;exact⟨o,e,d.2.1⟩
 | _=>exact False.elim f
def sx (K:W.Frag) (T:String) (r:V->LV->Hp->VK->Prop) (to:TE):TE:=λσ H Q=>to σ H λx H1=>tyV K T x H1/\r x [] H1 Q
def tBM (K:W.Frag) (T:String) (r:V->LV->Hp->VK->Prop) (to:TE) (t:TA):TE:=λσ H Q=>to σ H λx H1=>tyV K T x H1/\t σ H1 λxs H2=>r x xs H2 Q
variable {o e:Expr}{es:List Expr}{to:TE}{t:TA}{name:Str}{apos cpos:Pos}{T id:String}{r:V->LV->Hp->VK->Prop}
theorem sU (u:PlainAttrs T) (d:Slot T name id) (e:typeOf (.builtin id)=pure (.type "method_descriptor")) (n:MtR X id r) (l:PE X o to)
    (c:attributeBase o name X.env (eval o X.env)=eval o X.env:=by rfl) (b:(apos.endLine==cpos.line)=true:=by rfl):PE X (.Call (.Attribute o name apos) [] [] cpos) (sx X.K T r to):=by
 intro a s f H Q I h;refine wpAny_Call_method0_late c b (thn (l a s f H _ I h) λv m ⟨x,j,g,i,p,t⟩=>?_);obtain⟨k,q⟩:=jn g i p;exact⟨T,id,u,d,e,k,q,Calls.callWith_builtin rfl (PySem.evalArgs_none (n a m f j x [] v [] Q g i .nil t))⟩
theorem gF (G:PlainAttrs T) (g:Slot T name id) (j:typeOf (.builtin id)=pure (.type "method_descriptor")) (A:MtR X id r) (y:PE X o to) (K:PA X (e :: es) t)
    (d:attributeBase o name X.env (eval o X.env)=eval o X.env:=by rfl)
    (f:((backTo cpos (starEach (e::es) X.env)).all (λx=>!x.1)&&(backToKw cpos (keywordEach [] X.env)).all (λx=>x.1.isSome)
     && decide ((e::es).length+([]:List Keyword).length+(if ([]:List Keyword).isEmpty then 0 else 1)<30))=true:=by rfl)
    (c:(apos.endLine==cpos.line)=true:=by rfl) (J:starEach (e::es) X.env=(false,eval e X.env)::starEach es X.env:=by rfl) (b:(backTo cpos (starEach es X.env)).any (·.1)=false:=by rfl) :
    PE X (.Call (.Attribute o name apos) (e::es) [] cpos) (tBM X.K T r to t):=by
 intro a s i H Q I h;refine wpAny_Call_method_late d f c rfl (thn (y a s i H _ I h) λv z ⟨x,q,l,m,B,D⟩=>?_);obtain⟨u,C⟩:=jn l m B;refine⟨T,id,G,g,j,u,C,?_⟩;have k:=K cpos a z i q _ l D;rw[J] at k ⊢;refine Calls.callWith_builtin (by show (false||(backTo cpos (starEach es X.env)).any (·.1))=false;rw[b] <;> rfl) (Calls.evalArgs_plain ?_);exact thn k λE L ⟨M,F,w,p,n⟩=>A a L i F x M v E Q w m p n
end
def MtM (X:Cx) (id:String) (r:V->LV->Hp->VK->Prop):Prop :=
 ∀(pins:AO_) (s:Shared) (σ:St) (H:Hp) (x:V) (xs:LV) (v:Value) (us:LW) (Q:VK),Inv X pins σ H s->RelV x v->Vals xs us->r x xs H Q ->
  wpAny (model X.prog X.w) X.A (call (.builtin id) (v::us)) (EP X pins σ Q) X.xe s
theorem Vals.one:∀ {x:V}{us:LW},Vals [x] us->∃u,us=[u]/\RelV x u
 | _,_,.cons r .nil=>⟨_,rfl,r⟩
theorem Vals.zero:∀ {us:LW},Vals [] us->us=[]
 | _,.nil=>rfl
theorem Vals.eraseIdx:∀ {xs:LV}{us:LW}(i:Nat),Vals xs us->Vals (xs.eraseIdx i) (us.eraseIdx i)
 | _,_,_,.nil=>.nil
 | _,_,0,.cons _ t=>t
 | _,_,i+1,.cons r t=>.cons r (Vals.eraseIdx i t)
theorem Vals.reverse (h:Vals xs us):Vals xs.reverse us.reverse:=by
 induction h with
 | nil=>exact .nil
 | cons r t ih=>rw[List.reverse_cons,List.reverse_cons];exact Vals.append ih (.cons r .nil)
theorem ik:∀(l:List α) (i:Nat),(l.eraseIdx i).length<=l.length
 | [],_=>ua _
 | _::_,0=>Nat.le_succ _
 | _::r,i+1=>Nat.succ_le_succ (ik r i)
section
variable {X:Cx}{pins:AO_}{σ:St}{H:Hp}{s:Shared}{l b:Addr}{xs ys zs:LV}
theorem Inv.lset {its its':LW}{n:Nat}{f:Array Value->Array Value}{t':Nat}(I:Inv X pins σ H s) (g:H l=some (.lst xs))
    (e:s.heap.get? l=some { cls:=.type "list",data:=.seq its.toArray n }) (h:f its.toArray=its'.toArray) (b:Vals ys its') (c:ys.length<=sizeLine) :
    Inv X pins σ (upd H l (.lst ys)) { s with heap:=s.heap.update l (Obj.mapSeq f),toks:=t' }:=by
 have q:=PySem.IsL.update e f;rw[h] at q;refine I.write (x:=l) (e:=l) (by rw[g];exact trivial) (.inl rfl) (λi u a d=>(u7 s.heap (Obj.mapSeq f) (Ne.symm a)).trans d) ⟨_,q⟩ ?_;exact⟨c,its',_,b,q⟩
theorem Inv.lnew (I:Inv X pins σ H s) (b:Vals ys its) (a:ys.length<=sizeLine) :
    Inv X pins σ (upd H s.heap.objs.size (.lst ys)) { s with heap:=s.heap.push { cls:=.type "list",data:=.seq its.toArray },toks:=t' } :=
 I.laid (λ_ _ q=>ui _ q) (ua _) ⟨a,its,0,b,uw _ rfl⟩
theorem Inv.fresh (I:Inv X pins σ H s):H s.heap.objs.size=none:=I.hok.fresh (ua _)
theorem Inv.lstM (I:Inv X pins σ H s) (a:H l=some (.lst xs)):xs.length<=sizeLine/\∃(its:LW) (n:Nat),Vals xs its/\xs.length=its.length/\s.heap.get? l=some { cls:=.type "list",data:=.seq its.toArray n }:=by
 obtain⟨z,its,n,r,e⟩:=I.hok l _ a;exact⟨z,its,n,r,r.length,e⟩
end
section
variable {X:Cx}
def kc:V->LV->Hp->VK->Prop:=λx vs H Q=>∃l xs y,x=.ref l/\vs=[y]/\H l=some (.lst xs)/\xs.length<sizeLine/\Q .non (upd H l (.lst (xs++[y])))
theorem hY:MtM X "list.append" kc:=by
 intro b s j H x p v k Q I f g h;obtain⟨l,i,y,rfl,rfl,c,o,q⟩:=h;cases f;obtain⟨u,rfl,d⟩:=g.one;obtain⟨z,a,n,r,m,e⟩:=I.lstM c;refine call_meets F.slot_list_append ⟨_,e,rfl⟩ F.entry_list_append (F.args_list_append_2 _ _) (PySem.list_append l a.toArray n u (by rw[uj];omega)) ⟨e,?_⟩;refine⟨.non,_,I.lset (its':=a++[u]) c e (by simp) (r.append (.cons d .nil)) ?_,rfl,q⟩;rw[uA,List.length_singleton];omega
def iO:V->LV->Hp->VK->Prop:=λx vs H Q=>∃l xs i k y,x=.ref l/\vs=[.int i]/\H l=some (.lst xs)/\-(2 ^ 63)<=i/\i<2 ^ 63/\seqIndex? i xs.length=some k/\xs[k]? = some y/\Q y (upd H l (.lst (xs.eraseIdx k)))
theorem oR:MtM X "list.pop" iO:=by
 intro c s E H x J v G Q I A C h;obtain⟨l,f,i,k,y,rfl,rfl,d,g,p,m,B,q⟩:=h;cases A;obtain⟨u,rfl,o⟩:=C.one;obtain⟨t,rfl⟩:=o;obtain⟨z,a,n,r,D,e⟩:=I.lstM d;obtain⟨w,j,b⟩:=r.get B;refine call_meets F.slot_list_pop ⟨_,e,rfl⟩ F.entry_list_pop (F.args_list_pop_2 _ _)
  (MeetsSeq.list_pop_at l a.toArray n i t k w (fitsIndex_both g p) (by rw[uj,<- D];exact m) (by rw[<- Array.getElem?_toList];exact j) (by rw[uj];omega)) ⟨e,?_⟩
 refine⟨y,_,I.lset (its':=a.eraseIdx k) d e ?_ (r.eraseIdx k) ?_,b,q⟩
 ·show a.toArray.eraseIdxIfInBounds k=(a.eraseIdx k).toArray;rw[List.eraseIdxIfInBounds_toArray]
 ·have:=ik f k;omega
def fR:V->LV->Hp->VK->Prop:=λx vs H Q=>∃l xs,x=.ref l/\vs=[]/\H l=some (.lst xs)/\Q .non (upd H l (.lst xs.reverse))
theorem lw:MtM X "list.reverse" fR:=by
 intro c s k H x j v m Q I f g h;obtain⟨l,i,rfl,rfl,d,q⟩:=h;cases f;have b:=g.zero;subst b;obtain⟨z,a,n,r,o,e⟩:=I.lstM d;refine call_meets F.slot_list_reverse ⟨_,e,rfl⟩ F.entry_list_reverse (F.args_list_reverse_1 _) (AutoSeq1.list_reverse_list_0 l a.toArray n (by rw[uj];omega)) ⟨e,?_⟩;refine⟨.non,_,I.lset (its':=a.reverse) d e (by simp) r.reverse ?_,rfl,q⟩;rw[List.length_reverse];omega
def rCat:R2:=λx y H Q=>∃l b xs zs,x=.ref l/\y=.ref b/\H l=some (.lst xs)/\H b=some (.lst zs)/\xs.length+zs.length<=sizeLine/\∀p,H p=none->Q (.ref p) (upd H p (.lst (xs++zs)))
theorem rJ:OpR X (binaryOp .Add) rCat:=by
 intro d s A H x y v u Q I g k h;obtain⟨l,b,t,B,rfl,rfl,p,o,D,q⟩:=h;cases g;cases k;obtain⟨z,c,n,r,C,e⟩:=I.lstM p;obtain⟨E,a,w,f,j,m⟩:=I.lstM o;refine PySem.P.add_list e m ?_ (by rw[uj,uj];omega);have i:c.toArray++a.toArray=(c++a).toArray:=by simp
 rw[i];exact⟨.ref _,_,I.lnew (t':=s.toks) (r.append f) (by rw[uA];omega),rfl,q _ I.fresh⟩
end
section
variable {κ:Type} [DecidableEq κ]
def aM (kvs:List (κ × V)) (k:κ):Option V:=(kvs.find? λkv=>decide (kv.1=k)).map (·.2)
def bw (kvs:List (κ × V)) (k:κ) (v:V):List (κ × V) :=
 if (kvs.any λkv=>decide (kv.1=k))=true then kvs.map (λkv=>if kv.1=k then (kv.1,v) else kv) else kvs++[(k,v)]
theorem cI:aM ([]:List (κ × V)) k=none:=rfl
theorem bI {p:κ × V}{r:List (κ × V)}{k:κ}(e:p.1=k):aM (p::r) k=some p.2:=by simp[aM,ve,e]
theorem bD {p:κ × V}{r:List (κ × V)}{k:κ}(e:¬ p.1=k):aM (p::r) k=aM r k:=by simp[aM,ve,e]
theorem cy (k:κ):∀kvs:List (κ × V),(kvs.any λkv=>decide (kv.1=k))=(aM kvs k).isSome
 | []=>rfl
 | p::r=>by
  rw[u9];by_cases e:p.1=k
  ·simp only[bI e,ug e,Bool.true_or,Option.isSome_some]
  ·rw[bD e,ut e,Bool.false_or];exact cy k r
theorem jg (k j:κ) (y:V):∀kvs:List (κ × V), aM (kvs.map λkv => if kv.1=k then (kv.1, y) else kv) j=(aM kvs j).map λx => if j=k then y else x
 | []=>rfl
 | p::r=>by
  have ih:=jg k j y r;rw[uG];by_cases h:p.1=k
  ·rw[if_pos h];by_cases e:p.1=j
   ·rw[bI (p:=(p.1,y)) e,bI e,Option.map_some,if_pos (e.symm.trans h)]
   ·rw[bD (p:=(p.1,y)) e,bD e,ih]
  ·rw[if_neg h];by_cases e:p.1=j
   ·rw[bI (p:=p) e,bI e,Option.map_some,if_neg (λz=>h (e.trans z))]
   ·rw[bD (p:=p) e,bD e,ih]
theorem ia (k j:κ) (y:V):∀kvs:List (κ × V),aM kvs k=none->aM (kvs++[(k,y)]) j=if j=k then some y else aM kvs j
 | [],_=>by
  by_cases e:k=j
  ·rw[if_pos e.symm];exact bI (p:=(k,y)) e
  ·rw[if_neg (λz=>e z.symm)];exact bD (p:=(k,y)) e
 | p::r,hn=>by
  rw[List.cons_append];have hk:¬ p.1=k:=λz=>by rw[bI z] at hn;cases hn
  rw[bD hk] at hn;have ih:=ia k j y r hn;by_cases e:p.1=j
  ·rw[bI e,bI e,if_neg (λz=>hk (e.trans z))]
  ·rw[bD e,bD e,ih]
theorem df (b:List (κ × V)) (k j:κ) (y:V):aM (bw b k y) j=if j=k then some y else aM b j := by
 unfold bw;by_cases a:(b.any λd=>decide (d.1=k))=true
 ·rw[if_pos a,jg];rw[cy] at a;by_cases e:j=k
  ·obtain⟨x,c⟩:=vc.mp a;rw[if_pos e,e,c,Option.map_some,if_pos rfl]
  ·rw[if_neg e];cases aM b j with
   | none=>rfl
   | some x=>rw[Option.map_some,if_neg e]
 ·rw[if_neg a];refine ia k j y b ?_;rw[cy] at a;cases q:aM b k with
  | none=>rfl
  | some x=>rw[q] at a;exact(a rfl).elim
theorem bO (a:List (κ × V)) (k:κ) (v:V):(bw a k v).length<=a.length+1:=by
 unfold bw
 split
 ·rw[ub];omega
 ·rw[uA,uv,List.length_nil];omega
theorem jk {kvs:List (κ × V)}{k:κ}(v:V) (h:aM kvs k=none):bw kvs k v=kvs++[(k,v)]:=by
 unfold bw;rw[cy,h];exact if_neg (by decide)
theorem RelO.isSome_eq (r:RelO o u):o.isSome=u.isSome:=by
 cases o with
 | none=>cases u with
  | none=>rfl
  | some _=>exact(show False from r).elim
 | some _=>cases u with
  | none=>exact(show False from r).elim
  | some _=>rfl
theorem KV.val {kvs:List (κ × V)}{i:List (κ × Value)}(r:KV kvs i) (k:κ):RelO (aM kvs k) (valueAt i k) := by
 unfold KV at r
 induction r with
 | nil=>exact True.intro
 | @cons p q ps qs h t ih =>
  obtain⟨c,d⟩:=h;by_cases e:p.1=k
  ·have a:q.1=k:=c.symm.trans e;have b:valueAt (q::qs) k=some q.2:=by simp[valueAt,ve,a]
   rw[bI e,b];exact d
  ·have a:¬ q.1=k:=λz=>e (c.trans z);have b:valueAt (q::qs) k=valueAt qs k:=by simp[valueAt,ve,a]
   rw[bD e,b];exact ih
theorem KV.any (r:KV kvs z) (k:κ):(kvs.any λi=>decide (i.1=k))=z.any λi=>decide (i.1=k):=by
 unfold KV at r
 induction r with
 | nil=>rfl
 | cons h t ih=>rw[u9,u9,ih,h.1]
theorem KV.repl (r:KV kvs G) (k:κ) (b:RelV y u) :
    KV (kvs.map λi=>if i.1=k then (i.1,y) else i) (G.map λi=>if i.1=k then (i.1,u) else i):=by
 unfold KV at r ⊢
 induction r with
 | nil=>exact .nil
 | @cons p q ps qs h t ih =>
  rw[uG,uG];refine .cons ?_ ih;obtain⟨a,c⟩:=h;by_cases e:p.1=k
  ·rw[if_pos e,if_pos (a.symm.trans e)];exact⟨a,b⟩
  ·rw[if_neg e,if_neg (λz=>e (a.trans z))];exact⟨a,c⟩
theorem KV.put (r:KV kvs i) (k:κ) (a:RelV y u):KV (bw kvs k y) (stored i k u):=by
 unfold bw stored;rw[r.any k];by_cases e:(i.any λb=>decide (b.1=k))=true
 ·rw[if_pos e,if_pos e];exact r.repl k a
 ·rw[if_neg e,if_neg e];exact Paired.snoc r ⟨rfl,a⟩
theorem KV.length (r:KV kvs i):kvs.length=i.length:=Paired.length r
end
theorem gM (r:RelV (kV k) u):(bv P w).is k u=true:=by
 cases k with
 | inl i=>obtain⟨t,e⟩:=(show ∃t,u=Value.int i t from r);subst e;exact jH P w i t
 | inr x=>obtain⟨t,e⟩:=(show ∃t,u=Value.str x t from r);subst e;exact jB P w x t
theorem ib:∀ {ks:List Key}{us:LW},Vals (ks.map kV) us->ItemsAre (bv P w) ks us
 | [],_,r=>by rw[List.map_nil] at r;cases r;exact .nil
 | k::ks,_,r=>by
  rw[uG] at r;cases r with
  | cons h t=>exact .cons (gM h) (ib t)
abbrev KT (H:Hp):List (List Key × V)->List (List Key × Addr × Value)->Prop:=Paired λp q=>p.1=q.1/\H q.2.1=some (.tup (p.1.map kV))/\RelV p.2 q.2.2
theorem KT.val {kvs:List (List Key × V)}{xs:List (List Key × Addr × Value)}(r:KT H kvs xs) (k:List Key):RelO (aM kvs k) ((atKey xs k).map (·.2)) := by
 induction r with
 | nil=>exact True.intro
 | @cons p q ps qs h t ih =>
  obtain⟨c,_,d⟩:=h;by_cases e:p.1=k
  ·have a:q.1=k:=c.symm.trans e;have b:atKey (q::qs) k=some q.2:=by simp[atKey,ve,a]
   rw[bI e,b];exact d
  ·have a:¬ q.1=k:=λz=>e (c.trans z);have b:atKey (q::qs) k=atKey qs k:=by simp[atKey,ve,a]
   rw[bD e,b];exact ih
theorem KT.repl (r:KT H kvs xs) (k:List Key) (c:RelV y u) :
    KT H (kvs.map λi=>if i.1=k then (i.1,y) else i) (xs.map (putAt k u)):=by
 induction r with
 | nil=>exact .nil
 | @cons p q ps qs h t ih =>
  rw[uG,uG];refine .cons ?_ ih;obtain⟨a,b,d⟩:=h;unfold putAt;by_cases e:p.1=k
  ·rw[if_pos e,if_pos (a.symm.trans e)];exact⟨a,b,c⟩
  ·rw[if_neg e,if_neg (λz=>e (a.trans z))];exact⟨a,b,d⟩
theorem KT.put (r:KT H kvs xs) (k:List Key) (c:H b=some (.tup (k.map kV))) (a:RelV y u) :
    KT H (bw kvs k y) (storedH xs k b u):=by
 have e:(kvs.any λd=>decide (d.1=k))=(atKey xs k).isSome:=by rw[cy,(r.val k).isSome_eq,Option.isSome_map]
 unfold bw storedH;rw[e];by_cases q:(atKey xs k).isSome=true
 ·rw[if_pos q,if_pos q];exact r.repl k a
 ·rw[if_neg q,if_neg q];exact Paired.snoc r ⟨rfl,c,a⟩
theorem KT.keeps (r:KT H kvs xs) (a:∀b ys,H b=some (.tup ys)->H' b=some (.tup ys)):KT H' kvs xs :=
 Paired.mapP r λ_ _ z=>⟨z.1,a _ _ z.2.1,z.2.2⟩
section
variable {P:Program}{w:World}{H:Hp}{h:Heap}{a:Addr}
theorem pq (b:HOk P w H h) (e:Rd H a u):ObjOk P w H h a u:=e.ok b
theorem fL (b:HOk P w H h) (e:Rd H a (.dK kvs)):kvs.length<=sizeLine/\(a==sysModules)=false/\∃i,KV kvs i/\h.DictOf (bv P w) a i :=
 show ObjOk P w H h a (.dK kvs) from pq b e
theorem tP (b:HOk P w H h) (e:H a=some (.dK kvs)):kvs.length<=sizeLine/\(a==sysModules)=false/\∃i,KV kvs i/\h.DictOf (bv P w) a i:=fL b (.inl e)
theorem fh (c:HOk P w H h) (e:H a=some (.tup (ks.map kV))):(tupleKind (bv P w)).is h ks a:=by
 obtain⟨_,b,r,o,g,f,n,d,_⟩:=(show ObjOk P w H h a (.tup (ks.map kV)) from c a _ e)
 exact⟨o,b.toArray,n,g,f,d,by simpa using ib r⟩
theorem gu (d:HOk P w H h) (e:Rd H a (.dT kvs)):kvs.length <= sizeLine /\ (a==sysModules)=false /\
    ∃xs,KT H kvs xs/\h.DictOfH (tupleKind (bv P w)) a xs:=by
 obtain⟨z,y,xs,r,o,i,n,k,j,g,s,f⟩:=(show ObjOk P w H h a (.dT kvs) from pq d e)
 refine⟨z,y,xs,r,o,i,n,k,j,g,s,λx b=>?_,f⟩;have c:∀ {l:List (List Key × V)} {m:List (List Key × Addr × Value)}, KT H l m -> ∀x ∈ m, (tupleKind (bv P w)).is h x.1 x.2.1 := by
  intro l m q
  induction q with
  | nil=>intro x b;exact nomatch b
  | @cons p q ps qs hq t ih =>
   intro x b;rcases uf.mp b with e | b
   ·subst e;exact fh d (by rw[<- hq.1];exact hq.2.1)
   ·exact ih x b
 exact c r x b
theorem tx (b:HOk P w H h) (e:H a=some (.dT kvs)):kvs.length<=sizeLine/\(a==sysModules)=false /\
    ∃xs,KT H kvs xs/\h.DictOfH (tupleKind (bv P w)) a xs:=gu b (.inl e)
end
def DGet (H:Hp) (a:Addr) (y:V) (r:Option V):Prop :=
 (∃kvs k,Rd H a (.dK kvs)/\y=kV k/\r=aM kvs k)∨∃kvs k b,Rd H a (.dT kvs)/\y=.ref b/\H b=some (.tup (k.map kV))/\r=aM kvs k
def DPut (H:Hp) (a:Addr) (y v:V) (H':Hp):Prop :=
 (∃kvs k,H a=some (.dK kvs)/\y=kV k/\kvs.length<sizeLine/\H'=upd H a (.dK (bw kvs k v))) ∨
 ∃kvs k b,H a=some (.dT kvs)/\y=.ref b/\H b=some (.tup (k.map kV))/\kvs.length<sizeLine/\H'=upd H a (.dT (bw kvs k v))
theorem DGet.k {kvs:KV_}{k:Key}(e:H a=some (.dK kvs)):DGet H a (kV k) (aM kvs k):=.inl ⟨kvs,k,.inl e,rfl,rfl⟩
theorem DGet.t {kvs:List (List Key × V)}{k:List Key}(e:H a=some (.dT kvs)) (c:H b=some (.tup (k.map kV))):DGet H a (.ref b) (aM kvs k):=.inr ⟨kvs,k,b,.inl e,rfl,c,rfl⟩
theorem DPut.k {kvs:KV_}{k:Key}(e:H a=some (.dK kvs)) (b:kvs.length<sizeLine):DPut H a (kV k) v (upd H a (.dK (bw kvs k v))):=.inl ⟨kvs,k,e,rfl,b,rfl⟩
theorem DPut.t {kvs:List (List Key × V)}{k:List Key}(e:H a=some (.dT kvs)) (c:H b=some (.tup (k.map kV))) (d:kvs.length<sizeLine) :
    DPut H a (.ref b) v (upd H a (.dT (bw kvs k v))):=.inr ⟨kvs,k,b,e,rfl,c,d,rfl⟩
section
variable {X:Cx}{pins:AO_}{σ:St}{H:Hp}{s:Shared}{a:Addr}{y v:V}{u r:Value}{o:Option V}{A:Around}{E:QS}
theorem Inv.big (I:Inv X pins σ H s):sysModules<s.heap.objs.size:=by
 have h:mainGlobals<s.heap.objs.size:=(I.mod.glob.keeps I.bk).lt;exact Nat.lt_trans (by decide) h
theorem mH (B:A.units+1<cLine) (I:Inv X pins σ H s) (g:DGet H a y (some v)) (r:RelV y u) (h:∀i s',Inv X pins σ H s'->RelV v i->Q i s') :
    wpAny (model X.prog X.w) A (getItem (.ref a) u) Q E s:=by
 rcases g with⟨q,k,e,m,l⟩ | ⟨q,k,b,e,m,x,l⟩
 ·subst m;obtain⟨z,w,C,d,f⟩:=fL I.hok e;obtain⟨i,j,c⟩:=RelO.some_of (v:=v) (o:=valueAt C k) (by rw[l];exact d.val k);exact wpAny_getItem_of (gM r) f.mapOf j (h i _ (I.tok _) c)
 ·subst m;cases (show u=Value.ref b from r);obtain⟨z,w,t,d,f⟩:=gu I.hok e;obtain⟨i,j,c⟩:=RelO.some_of (v:=v) (o:=(atKey t k).map (·.2)) (by rw[l];exact d.val k);obtain⟨p,D,n⟩:=Option.map_eq_some_iff.mp j;refine wpAny_getItem_heap (tupleKind_room_in1 B) (fh I.hok x) f D ?_;rw[n];exact h i _ (I.tok _) c
theorem d_in (n:A.units+1<cLine) (I:Inv X pins σ H s) (g:DGet H a y o) (m:RelV y u) (h:∀s',Inv X pins σ H s'->Q (.bool o.isSome) s') :
    wpAny (model X.prog X.w) A (compareOp .In u (.ref a)) Q E s:=by
 rcases g with⟨j,k,e,f,l⟩ | ⟨j,k,b,e,f,p,l⟩
 ·subst f;obtain⟨z,i,t,c,d⟩:=fL I.hok e;refine wpAny_in_of (gM m) i d.mapOf ?_;rw[<- (c.val k).isSome_eq,<- l];exact h _ (I.tok _)
 ·subst f;cases (show u=Value.ref b from m);obtain⟨z,i,r,c,d⟩:=gu I.hok e;refine wpAny_in_heap (tupleKind_room_in1 n) (fh I.hok p) i d ?_;have q:=(c.val k).isSome_eq;rw[Option.isSome_map] at q;rw[<- q,<- l];exact h _ (I.tok _)
theorem qG (n:A.units+1<cLine) (I:Inv X pins σ H s) (g:DGet H a y o) (m:RelV y u) (h:∀s',Inv X pins σ H s'->Q (.bool (!o.isSome)) s') :
    wpAny (model X.prog X.w) A (compareOp .NotIn u (.ref a)) Q E s:=by
 rcases g with⟨j,k,e,f,l⟩ | ⟨j,k,b,e,f,p,l⟩
 ·subst f;obtain⟨z,i,t,c,d⟩:=fL I.hok e;refine wpAny_notIn_of (gM m) i d.mapOf ?_;rw[<- (c.val k).isSome_eq,<- l];exact h _ (I.tok _)
 ·subst f;cases (show u=Value.ref b from m);obtain⟨z,i,r,c,d⟩:=gu I.hok e;refine wpAny_notIn_heap (tupleKind_room_in1 n) (fh I.hok p) i d ?_;have q:=(c.val k).isSome_eq;rw[Option.isSome_map] at q;rw[<- q,<- l];exact h _ (I.tok _)
theorem gU (I:Inv X pins σ H s) (f:Mut (H a)) (g:Heap.SameBut a s.heap h') (he:∃q,h'.get? a=some q) (c:ObjOk X.prog X.w (upd H a i) h' a i) :
    Inv X pins σ (upd H a i) { s with heap:=h',toks:=t' } :=
 I.write (x:=a) (e:=a) f (.inl rfl) (λb q d z=>(g.2 b d).trans z) he c
theorem rc (z:kvs.length<=sizeLine) (c:(a==sysModules)=false) (b:KV kvs i) (d:h'.DictOf (bv P w) a i) :
    ObjOk P w H' h' a (.dK kvs):=⟨z,c,i,b,d⟩
theorem mQ (S:A.units+1<cLine) (I:Inv X pins σ H s) (g:DPut H a y v H') (D:RelV y u) (F:RelV v r) (h:∀s',Inv X pins σ H' s'->Q () s') :
    wpAny (model X.prog X.w) A (setItem (.ref a) u r) Q E s:=by
 rcases g with⟨f,k,e,o,l,x⟩ | ⟨f,k,b,e,o,C,l,x⟩
 ·subst o x;obtain⟨z,m,T,d,n⟩:=tP I.hok e;have w:T.length<=sizeLine:=by rw[<- d.length];exact z
  have t:(bw f k v).length<=sizeLine:=by have:=bO f k v;omega
  refine wpAny_setItem_pairs (hsz:=w) (gM D) n λB i p=>h _ ?_;have R:∃q,B.get? a=some q:=let ⟨q,_,_,j,_⟩:=i;⟨q,j⟩;exact gU I (by rw[e];exact True.intro) p R (rc t m (d.put k F) i)
 ·subst o x;cases (show u=Value.ref b from D);obtain⟨z,m,J,d,n⟩:=tx I.hok e;have w:J.length<=sizeLine:=by rw[<- Paired.length d];exact z
  have t:(bw f k v).length<=sizeLine:=by have:=bO f k v;omega
  refine wpAny_setItem_heap (hsz:=w) (tupleKind_room_in1 S) (fh I.hok C) n λB i p=>h _ ?_;obtain⟨q,K,M,j,L,P,N,_,O⟩:=i;refine gU I (by rw[e];exact True.intro) p ⟨q,j⟩ ⟨t,m,_,(d.put k C F).keeps λc U G=>?_,q,K,M,j,L,P,N,O⟩;rw[aj (pz G e (λz=>nomatch z))];exact G
end
section
variable {X:Cx}{pins:AO_}{σ:St}{H:Hp}{s:Shared}{a:Addr}{kvs:KV_}{k:Key}{u:Value}{A:Around}{E:QS}
theorem tX (I:Inv X pins σ H s) (e:Rd H a (.dK kvs)) (h:∀t s',Inv X pins σ H s'->Q (.int kvs.length t) s'):wpAny (model X.prog X.w) A (call (.builtin "len") [.ref a]) Q E s:=by
 obtain⟨z,d,f,b,c⟩:=fL I.hok e;refine call_len_dict d c (by rw[<- b.length];rw[sizeLine_eq] at z;omega) ?_;rw[<- b.length];exact h _ _ (I.tok _)
end
theorem jA (I:Inv X pins σ H s) (g:DGet H a y o):s.TypeIs (.ref a) "dict":=by
 rcases g with⟨d,k,e,_,_⟩ | ⟨d,k,b,e,_,_,_⟩
 ·obtain⟨_,_,h,_,c⟩:=fL I.hok e;exact c.typeIs
 ·obtain⟨_,_,f,_,c⟩:=gu I.hok e;exact c.typeIs
theorem op (h:Heap) (a:sysModules<h.objs.size):ObjOk P w H (h.push { cls:=.type "dict",data:=.dict #[] }) h.objs.size (.dK []) :=
 ⟨uu _,beq_eq_false_iff_ne.mpr (Ne.symm (um a)),[],.nil,Heap.DictOf.new h⟩
theorem nQ (h:Heap) (a:sysModules<h.objs.size):ObjOk P w H (h.push { cls:=.type "dict",data:=.dict #[] }) h.objs.size (.dT []) :=
 ⟨uu _,beq_eq_false_iff_ne.mpr (Ne.symm (um a)),[],.nil,_,#[],0,uw _ rfl,⟨rfl,rfl,rfl⟩,rfl,rfl,u5⟩
def iU:TE:=λ_ H Q=>∀p,H p=none->Q (.ref p) (upd H p (.dK []))
def rD:TE:=λ_ H Q=>∀p,H p=none->Q (.ref p) (upd H p (.dT []))
section
variable {X:Cx}{pos:Pos}
theorem fX:PE X (.Dict [] [] pos) iU:=λb s c H Q I h =>
 wpAny_Dict_empty ⟨.ref s.heap.objs.size,_,I.laid (a:=s.heap.objs.size) (o:=.dK []) (t':=s.toks) (λ_ _ q=>ui _ q) (ua _) (op s.heap I.big),rfl,h _ (I.hok.fresh (ua _))⟩
theorem fY:PE X (.Dict [] [] pos) rD:=λb s c H Q I h =>
 wpAny_Dict_empty ⟨.ref s.heap.objs.size,_,I.laid (a:=s.heap.objs.size) (o:=.dT []) (t':=s.toks) (λ_ _ q=>ui _ q) (ua _) (nQ s.heap I.big),rfl,h _ (I.hok.fresh (ua _))⟩
end
end L2
namespace Att
open PySem PySem.W PySem.Calls PyProof.Rows
theorem gl:∀(ns:List Int) (i:LW), WellAll P h i (ns.map WData.int) -> IntsAre i ns := by
 intro ns
 induction ns with
 | nil =>
  intro i w;rw[List.map_nil] at w;cases w;exact .nil
 | cons n ns ih =>
  intro i w;rw[uG] at w;cases w with
  | cons a b =>
   cases a;exact .cons _ _ (ih _ b)
theorem lH {l:OpenLaw}{n:Nat}(s:l.most=some n) {P:Params}{args:List WData}{i:LW}
    (b:l.row.toRowW.claim.pre args=true) (j:WellAll P h i args) :
    ∃a vs ns,i=[Value.ref a]/\args=[WData.list (ns.map WData.int)]/\h.get? a=some { cls:=.type "list",data:=.seq vs.toArray }/\IntsAre vs ns/\ns.length<=n:=by
 have g:WShape.hasAll [] args [.list .int]=true:=(pre_splitW b).1;have k:l.pre.holds [] { args:=args }=true:=(pre_splitW b).2;obtain⟨d,r,rfl,p,o⟩:=hasAllW_cons g;obtain rfl:=hasAllW_nil o;obtain⟨u,rfl,m⟩:=hasW_list p;obtain⟨ns,rfl⟩:=items_int m;have c:ns.length<=n:=by
  unfold OpenLaw.pre at k;have f:(WTm.not (.lt (.lit (.int (n:Int))) (.len (.arg 0)))).holds [] { args:=[.list (ns.map .int)] }=true:=by
   have f:=(holds_andW k).1;rw[s] at f;exact f
  have e:=condW_of f (w_not (w_lt w_lit (w_len_list (w_arg rfl))));rw[ub] at e;refine Nat.le_of_not_lt λq=>?_;have t:(n:Int)<((ns.length:Nat):Int):=by omega
  first
   | (rw[ug t] at e;exact absurd e (by decide))
   | (simp at e;omega)
 cases j with
 | cons w1 w2 =>
  cases w2;cases w1 with
  | list ho hall=>exact⟨_,_,ns,rfl,rfl,ho,gl ns _ hall,c⟩
theorem lW (l:OpenLaw) (args:List WData):l.row.toRowW.claim.post args (.bool true) args=true :=
 postW_of (r:=l.row.toRowW) (X:=(true==true))
  (show WShape.has [] (.bool true) .bool=true by first | rfl | decide | simp[WShape.has,WShape.arms,WShape.armsAll])
  (show (WTm.eq .res (.lit (.bool true))).value [] { args:=args,res:=some (.bool true),after:=args }=some (.bool (true==true)) from w_eq_bool (w_res rfl) w_lit) rfl
theorem attach_call {l:OpenLaw}{n:Nat}{I:LS}{XP:(Str -> OV) -> Heap -> Prop}{YP:World -> Heap -> Prop}{d:DefRec}
    (x:l.most=some n) (j:d.params.defaults=[])
    (c:∀(w:World) (z i:Shared) (mg mb:MS) (O:Addr) (o:Obj) (pm U J:Value) (a:Addr) (vs:LW) (ns:List Int),
     Ground q I [] XP w z mg mb i.heap->YP w i.heap ->
     i.heap.get? O=some o->o.data=.func (docDef d.name d.params d.body d.scope pm U J)->i.heap.CodeRec U d.name->mg d.name=some (.ref O) ->
     i.heap.get? a=some { cls:=.type "list",data:=.seq vs.toArray }->IntsAre vs ns->ns.length<=n->i.gens=#[] ->
     codeAny (model l.prog w) callerA (.call (.ref O) ⟨[.ref a],[]⟩) (λr s'=>r=.ok (.ret (.bool true))/\OldK i.heap s'.heap/\s'.os=i.os/\AllBare s'.gens) i) :
    WalkO q I XP YP l.row.toRowW d [] (λf vs=>PySem.call f vs):=by
 intro w z i mg mb G Y O o pm U J F kV B y m s p L v u N h t A k K;obtain rfl:F=.none:=Dflts.none s j;obtain rfl:kV=.none:=Dflts.noKw s;obtain⟨a,vs,ns,rfl,rfl,e,b,g⟩:=lH x h k;refine enter_call (codeAny_mono (c w z i mg mb O o pm U J a vs ns G Y B (fd_plain y) m p e b g L) λr s' M=>?_);obtain⟨rfl,D,H,E⟩:=M;exact⟨.inl ⟨.bool true,.bool true,[],rfl,λ_=>rfl,.bool true,lW l _,λ_=>⟨List.Pairwise.nil,λ_ C=>(nomatch C)⟩⟩,D,H,E⟩
end Att
namespace L2
open PySem PySem.Spec PyProof.Rows
theorem im:∀ {vs:LW}{ns:List Int},IntsAre vs ns->Vals (ns.map V.int) vs
 | _,_,.nil=>.nil
 | _,_,.cons n t h=>.cons ⟨t,rfl⟩ (im h)
def oF (H:Hp):Prop:=∀b,H b=none∨∃o xs,H b=some (.frz o (.lst xs))
theorem oN {P:Program}{w:World}{K:W.Frag}{mg O:Str -> OV}{CX:CXT}{k:Nat}{U a:Addr}{fd:FuncData}{x:Str}{sp:Sp}{i:Shared}{vs:LW}{ns:List Int}
    (Z:K.In i.heap) (p:i.heap.Ns mainGlobals mg) (f:i.heap.Ns builtinsNs O) (M:∀x:Str,x≠"__name__"->O x=bootBuiltins x) (I:i.heap.NoLimit) (hg:i.gens=#[])
    (J:i.heap.get? a=some { cls:=.type "list",data:=.seq vs.toArray }) (T:IntsAre vs ns) (hl:ns.length<=sizeLine) (hr:Room k callerA)
    (F:∀base:Heap,K.In base->base.Ns mainGlobals mg->FnOk P w K mg base CX k U fd [x] sp) (l:∀(s:Shared) (u:Value),BindsTo s fd ⟨[u],[]⟩ [(x,u)])
    (L:∀H:Hp,oF H->SqL K H a (ns.map V.int)->sp [.ref a] H (λv _=>v=.bl true) λ_ _ _=>False)
    (R:∀H e s',CX [] H i (λ_ _ _=>False) e s'->False) :
    codeAny (model P w) callerA (.call (.ref U) ⟨[.ref a],[]⟩) (λr s'=>r=.ok (.ret (.bool true))/\OldK i.heap s'.heap/\s'.os=i.os/\AllBare s'.gens) i:=by
 have Y:=im T;have t:=T.length;have j:∀H:Hp, oF H -> SqL K H a (ns.map V.int) -> HOk P w H i.heap -> (∀b, H b ≠ none -> b=a) -> (H a ≠ none -> K.lookup a=none) ->
     codeAny (model P w) callerA (.call (.ref U) ⟨[.ref a],[]⟩) (λr s'=>r=.ok (.ret (.bool true))/\OldK i.heap s'.heap/\s'.os=i.os/\AllBare s'.gens) i:=by
  intro H hO hS D S hK;have c:∀ {b:Addr} {o:Obj},i.heap.get? b=some o->H b=none->(eG i.heap H).get? b=some o:=λe n=>oQ e n;have Q:∀ {b:Addr} {o:Obj} {y:Array DictEntry} {B:Nat},i.heap.get? b=some o->o.data=.dict y B->H b=none:=λ{b o y B} e d=>by
   cases q:H b with
   | none=>rfl
   | some u =>
    have N:b=a:=S b (by rw[q];simp);subst N;rw[J] at e;cases e;have d':Data.seq vs.toArray _=Data.dict y B:=d;cases d'
  have g:∀ {b:Addr} {m:MS},i.heap.Ns b m->(eG i.heap H).Ns b m:=λ{b m} ⟨o,y,B,e,d,r⟩=>⟨o,y,B,c e (Q e d),d,r⟩
  have C:K.In (eG i.heap H):=λb o e=>c (Z b o e) (by
   cases q:H b with
   | none=>rfl
   | some u =>
    have N:b=a:=S b (by rw[q];simp);subst N;rw[hK (by rw[q];simp)] at e;cases e)
  have hM:Mod K mg (eG i.heap H):=⟨C,g p,⟨O,g f,M⟩,let ⟨mc,h1,h2⟩:=I;⟨mc,g h1,h2⟩⟩
  have e0:Env0 P w K mg (eG i.heap H) callerA [] i H:=⟨rfl,hM,λb o e=>qp e,Nat.le_of_eq (ms _ _),trivial,λb f=>absurd (show b∈([]:List Addr) from f) (by simp),D,.of_eq hg⟩
  refine codeAny_mono ((F _ C (g p)).run callerA [] i H ⟨[.ref a],[]⟩ [.ref a] [.ref a] _ _ hr e0 (l i (.ref a)) (.cons rfl .nil) (L H hO hS)) λr s' h=>?_;cases r with
  | error e=>exact(R H e s' h).elim
  | ok fl =>
   cases fl with
   | next=>exact False.elim h
   | brk=>exact False.elim h
   | cont=>exact False.elim h
   | ret u =>
    obtain⟨v,H',os,A,X,E,r',q⟩:=h;have q':v=.bl true:=q;subst q';obtain rfl:u=Value.bool true:=r';refine⟨rfl,OldK.of_keep λb o e=>?_,os,A⟩;cases q:H b with
    | none=>exact X.keep b o e q (by intro z;exact absurd (show b∈([]:List Addr) from z) (by simp)) (by simp)
    | some u =>
     rcases hO b with z | ⟨ob,xs,z⟩
     ·rw[q] at z;cases z
     ·have z2:=X.frzs b ob _ z;obtain⟨e1,_⟩:=D b _ z;obtain⟨e2,_⟩:=E b _ z2;rw[e] at e1;cases e1;exact e2
 cases hk:K.lookup a with
 | some o =>
  have e:=Z a o hk;rw[J] at e;cases e;refine j (λ_=>none) (λ_=>.inl rfl) (.inr ⟨_,vs.toArray,_,hk,rfl,rfl,rfl,by rw[uj,t];exact hl,by simpa using Y⟩) (λb u z=>by have G:(none:Option HO)=some u:=z;cases G) (λb z=>absurd rfl z) λz=>absurd rfl z
 | none =>
  refine j (λb=>if b=a then some (.frz { cls:=.type "list",data:=.seq vs.toArray } (.lst (ns.map V.int))) else none) (λb=>?_) (.inl (.inr ⟨{ cls:=.type "list",data:=.seq vs.toArray },if_pos rfl⟩)) (λb u z=>?_) (λb z=>?_) λ_=>hk
  ·by_cases f:b=a
   ·exact .inr ⟨_,_,if_pos f⟩
   ·exact .inl (if_neg f)
  ·by_cases f:b=a
   ·have G:=(if_pos f).symm.trans z;cases G;subst f;exact⟨J,by rw[ub];exact hl,vs,_,Y,J⟩
   ·have G:=(if_neg f).symm.trans z;cases G
  ·by_cases f:b=a
   ·exact f
   ·exact absurd (if_neg f) z
theorem walk_of {l:W.OpenLaw}{n k:Nat}{i:LS}{O:(Str -> OV) -> Heap -> Prop}{I:World -> Heap -> Prop}{d:DefRec}{K:Params -> W.Frag}{CX:World -> CXT}{sp:World -> Sp}{x:Str}
    (E:l.most=some n) (p:n<=sizeLine) (r:d.params.defaults=[]) (D:Room k callerA)
    (L:∀(w:World) (h:Heap),I w h->(K w.params).In h)
    (F:∀(w:World) (mg:MS) (z:Addr) (h:Heap),(K w.params).In h->h.Ns mainGlobals mg->mg d.name=some (.ref z) ->
     ∃fd:FuncData,(∀(s:Shared) (u:Value),BindsTo s fd ⟨[u],[]⟩ [(x,u)]) /\
      ∀base:Heap,(K w.params).In base->base.Ns mainGlobals mg->FnOk l.prog w (K w.params) mg base (CX w) k z fd [x] (sp w))
    (m:∀(w:World) (H:Hp) (a:Addr) (ns:List Int),ns.length<=n->oF H->SqL (K w.params) H a (ns.map V.int)->sp w [.ref a] H (λv _=>v=.bl true) λ_ _ _=>False)
    (t:∀(w:World) (H:Hp) (s:Shared) (e:Value) (s':Shared),CX w [] H s (λ_ _ _=>False) e s'->False) :
    W.WalkO q i O I l.row.toRowW d [] (λf J=>PySem.call f J):=by
 refine Att.attach_call E r λw A g mg Z z o U cd Q a J ns G Y X T P y j c b S=>?_;have B:=L w _ Y;obtain⟨fd,M,N⟩:=F w mg z _ B G.T.g y;exact oN B G.T.g G.T.b G.T.builtins G.T.nolimit S j c (uo b p) D N M (λH R C=>m w H a ns b R C) λH e s'=>t w H g e s'
def cq (s:Stmt):Arguments:=match s with
 | .FunctionDef _ a _ _ _ _ _ _ _ _=>a
 | _=>{ posonlyargs:=[],args:=[],vararg:=none,kwonlyargs:=[],kw_defaults:=[],kwarg:=none,defaults:=[] }
def aU (s:Stmt):List Stmt:=match s with
 | .FunctionDef _ _ b _ _ _ _ _ _ _=>b
 | _=>[]
def ao (s:Stmt):Scope:=match s with
 | .FunctionDef _ _ _ _ _ _ sc _ _ _=>sc
 | _=>{ kind:=.function,names:=[],isGenerator:=false,isCoroutine:=false }
abbrev CX0:CXT:=λ_ _ _ _ _ _=>False
abbrev E0:XK:=λ_ _ _=>False
theorem tO:iY CX0 X E0:=λ_ _ _ _ _ _ _ h=>h.elim
structure Fun (K:W.Frag) (x qual:Str) (st:Stmt) (f:Addr) (fd:FuncData):Prop where
 ex:∃(oc:Value) (od:Option Addr) (kV doc pm:Value) (an:Option Addr) (cdv ct:Value) (osl:Array (OV)),
  fd=W.fnOf x qual (cq st) (aU st) (ao st) .none kV doc pm an cdv ct/\K.lookup f=some ⟨oc,od,.func fd,osl⟩/\W.codeIn K cdv qual=true
 kp:W.keepIn K (.ref f)=true
section
variable {P:Program}{w:World}{K:W.Frag}{mg:MS}{base:Heap}
theorem Fun.ok {x z:Str}{st:Stmt}{f:Addr}{fd:FuncData}{N ps:LS}{k:Nat}{sp:Sp}(F:Fun K x z st f fd) (S:FnScope N ps (ao st)) (c:∀I H Q E, sp I H Q E -> I.length=ps.length)
    (a:∀(G:Value) (A:Around) (i:List Env) (s:Shared) (H:Hp) (I:LV) (Q:VK) (E:XK),Room k (A.deeper (envOfC z (ao st) s.heap.objs.size f G))->sp I H Q E ->
     ∃t,PSs (bq CX0 P w K mg base N z (ao st) f G A i s H E).nox (aU st) t/\t { nx:=λ_ H'=>Q .non H',rt:=Q } (bQ N I) H):FnOk P w K mg base CX0 (k+1) f fd ps sp:=by
 obtain⟨m,o,kV,g,n,p,G,r,l,rfl,j,b⟩:=F.ex;refine pA j b S c λA i s H I Q E e d=>?_;obtain⟨t,h,q⟩:=a G A i s H I Q E e d;exact⟨t,h.nox,q⟩
theorem Fun.binds {x i:Str}{st:Stmt}{f:Addr}{fd:FuncData}{ps:LS}(F:Fun K x i st f fd)
    (h:∀(kV z J:Value) (I:Option Addr) (G ct:Value) (us:LW),us.length=ps.length->bindArgs (W.fnOf x i (cq st) (aU st) (ao st) .none kV z J I G ct) ⟨us,[]⟩=pure (ps.zip us)):Binds K fd ps []:=by
 obtain⟨d,e,kV,z,J,I,G,ct,b,rfl,c,a⟩:=F.ex;exact .all (h kV z J I G ct)
theorem mS {x i:Str}{st:Stmt}{f:Addr}{U:Value}{od O:Option Addr}{I:Array (OV)}{kV G J z ct:Value}(l:K.lookup f=some ⟨U,od,.func (W.fnOf x i (cq st) (aU st) (ao st) .none kV G J O z ct),I⟩)
    (c:W.codeIn K z i=true) (k:W.keepIn K (.ref f)=true):Fun K x i st f (W.fnOf x i (cq st) (aU st) (ao st) .none kV G J O z ct):=⟨⟨U,od,kV,G,J,O,z,ct,I,rfl,l,c⟩,k⟩
end
theorem az (h:n<=1000):n<sizeLine:=Nat.lt_of_le_of_lt h (by decide)
section
variable {X:Cx}
theorem pv (i:Nat) (b:X.N[i]? = some x:=by rfl) (c:Vis X.env.scope x:=by first | exact Or.inl rfl | exact Or.inr (Or.inl rfl) | exact Or.inr (Or.inr rfl)) (d:(x==("__debug__":Str))=false:=by decide)
    (a:(x==("__classdict__":Str))=false:=by decide):PE X (.Name x pos) (qY i):=qR b c d a
theorem mI:bK X (.builtin "len") (λxs H Q=>∃a kvs,xs=[V.ref a]/\H a=some (.dK kvs)/\Q (.int kvs.length) H):=by
 intro b s g H xs i Q I r h;obtain⟨a,kvs,rfl,c,q⟩:=h;obtain⟨u,rfl,d⟩:=bL r;cases d;exact tX I (.inl c) λt f e=>⟨.int kvs.length,H,e,⟨t,rfl⟩,q⟩
end
theorem iL {A B:Prop}(h:B):if false=true then A else B:=by
 rw[if_neg uz];exact h
theorem cE {A B:Prop}(h:A):if true=true then A else B:=by
 rw[if_pos rfl];exact h
theorem aw {c A B:Prop} [Decidable c] (b:c->A) (a:¬ c->B):if c then A else B:=by
 by_cases h:c
 ·rw[if_pos h];exact b h
 ·rw[if_neg h];exact a h
def Same (H H':Hp):Prop:=∀b o,H b=some o->H' b=some o
theorem Same.refl (H:Hp):Same H H:=λ_ _ h=>h
theorem Same.trans (a:Same H H1) (b:Same H1 H2):Same H H2:=λc o h=>b c o (a c o h)
section
variable {κ:Type} [DecidableEq κ]
theorem oP {kvs:List (κ × V)}{k:κ}(h:aM kvs k=none):¬ k∈kvs.map (·.1):=by
 intro m;obtain⟨p,b,e⟩:=uD.mp m;have q:(kvs.any λa=>decide (a.1=k))=true:=List.any_eq_true.mpr ⟨p,b,ug e⟩;rw[cy,h] at q;exact absurd q (by simp)
theorem pX {kvs:List (κ × V)}{k:κ}(h:aM kvs k=some v):k∈kvs.map (·.1):=by
 have q:(kvs.any λa=>decide (a.1=k))=true:=by
  rw[cy,h]
  all_goals rfl
 obtain⟨p,b,e⟩:=List.any_eq_true.mp q;exact uD.mpr ⟨p,b,ux e⟩
theorem kg:∀ {l:List κ}{k:κ},l.Nodup->¬ k∈l->(l++[k]).Nodup
 | [],k,_,_=>by simp
 | a::r,k,h,hk=>by
  obtain⟨h1,h2⟩:=u4.mp h;show (a::(r++[k])).Nodup;refine u4.mpr ⟨λm=>?_,kg h2 λm=>hk (uf.mpr (Or.inr m))⟩;rcases uF.mp m with q | q
  ·exact h1 q
  ·exact hk (uf.mpr (Or.inl (uE.mp q).symm))
theorem qC {kvs:List (κ × V)}{k:κ}(v:V) (a:(kvs.map (·.1)).Nodup) (h:aM kvs k=none):((bw kvs k v).map (·.1)).Nodup:=by
 rw[jk v h,uk];exact kg a (oP h)
end
end L2
set_option maxHeartbeats 4000000
namespace L2
open PySem PySem.Spec PyProof.Rows
theorem gT {env:Env}{f:Str × NameKind -> List (Str × Addr) -> Sem (ForInStep (List (Str × Addr)))}
    (f1:∀n k r,k≠NameKind.free->f (n,k) r=pure (.yield r))
    (f2:∀n c r,env.cells.lookup n=some c->f (n,NameKind.free) r=pure (.yield ((n,c)::r))) :
    ∀(names:List (Str × NameKind)) (acc:List (Str × Addr)),
    (∀y∈names,y.2=NameKind.free->∃c,env.cells.lookup y.1=some c) ->
    (∀x c,acc.lookup x=some c->env.cells.lookup x=some c) ->
    ∃cl,forIn names acc f=(pure cl:Sem (List (Str × Addr)))/\(∀x c,cl.lookup x=some c->env.cells.lookup x=some c) /\
     (∀x,(acc.lookup x).isSome=true->(cl.lookup x).isSome=true)/\∀y∈names,y.2=NameKind.free->(cl.lookup y.1).isSome=true
 | [],acc,_,h=>⟨acc,by rw[List.forIn_nil],h,λ_ q=>q,λy hy=>nomatch hy⟩
 | (n, k) :: r, acc, hn, h => by
  by_cases hk:k=NameKind.free
  ·subst hk;obtain⟨c,hc⟩:=hn (n,.free) uZ rfl;have hc':env.cells.lookup n=some c:=hc;obtain⟨cl,e,a,b,d⟩:=gT f1 f2 r ((n,c)::acc) (λy hy=>hn y (ur _ hy)) (λx c' q=>by
    rw[uQ] at q;cases e:x==n with
    | true =>
     rw[e] at q;cases q;rw[show x=n from LawfulBEq.eq_of_beq e];exact hc'
    | false =>
     rw[e] at q;exact h x c' q)
   refine⟨cl,?_,a,λx q=>b x ?_,λy hy hf=>?_⟩
   ·rw[List.forIn_cons,f2 n c acc hc',pure_bind];exact e
   ·rw[uQ];cases x==n with
    | true=>rfl
    | false=>exact q
   ·rcases uf.mp hy with rfl | hy
    ·refine b _ ?_;rw[uQ];simp
    ·exact d y hy hf
  ·obtain⟨cl,e,a,b,d⟩:=gT f1 f2 r acc (λy hy=>hn y (ur _ hy)) h;refine⟨cl,?_,a,b,λy hy hf=>?_⟩
   ·rw[List.forIn_cons,f1 n k acc hk,pure_bind];exact e
   ·rcases uf.mp hy with rfl | hy
    ·exact absurd hf hk
    ·exact d y hy hf
theorem kt {scope:Scope}{env:Env}(h:∀y ∈ scope.names, y.2=NameKind.free -> ∃c, env.cells.lookup y.1=some c) :
    ∃i,closureFor scope env=pure i/\(∀x c,i.lookup x=some c->env.cells.lookup x=some c) /\
     ∀y∈scope.names,y.2=NameKind.free->∃c,i.lookup y.1=some c:=by
 have l:=gT (env:=env) (f:=λ(x:Str × NameKind) (r:List (Str × Addr))=>match x with
     | (name,kind)=>if (kind==NameKind.free)=true then do let c ← cellOf env name;pure (ForInStep.yield ((name,c)::r)) else pure (ForInStep.yield r))
  (λn k r b=>by
   have z:(k==NameKind.free)=false:=by simpa using b
   simp only[z,vo,if_false])
  (λn c r j=>by simp only[beq_self_eq_true,if_true,cellOf,j,pure_bind])
  scope.names [] h (λx c q=>by cases q)
 obtain⟨i,e,a,_,d⟩:=l;refine⟨i,?_,a,λy g z=>vc.mp (d y g z)⟩;simp only[closureFor]
 first
  | exact e
  | (simp only[bind_pure];exact e)
  | (refine Eq.trans ?_ e;simp only[bind_pure])
def cxC (X:Cx) (scope:Scope) (N:LS) (cl:List (Str × Addr)) (C:Addr) (s₀:Shared) (H₀:Hp) (ex:List Addr):Cx where
 prog:=X.prog
 w:=X.w
 K:=X.K
 mg:=X.mg
 base:=X.base
 A:=X.A
 N:=N
 s₀:=s₀
 H₀:=H₀
 env:=compEnvC scope cl C X.env
 outer:=X.stack
 stack:=X.stack
 ex:=ex
 fn:=λ_=>false
 calm:=X.calm
 pn:=[]
 xe:=λ_ _=>False
def dJ (k:Nat) (fr:List Nat) (σ:St):St:=List.replicate k none++fr.map λi=>(σ[i]?).join
def rT (osc scope:Scope) (NX:LS) (fr:List Nat):Bool:=fr.all λi=>match NX[i]? with
 | some x=>(decide (osc.names.lookup x=some .cell)||decide (osc.names.lookup x=some .free))&&decide (scope.names.lookup x=some .free)
 | none=>false
structure CompSc (osc scope:Scope) (NX own:LS) (fr:List Nat) (N:LS):Prop where
 kind:scope.kind=.function
 nocell:∀y∈scope.names,y.2≠NameKind.cell
 loc:∀y∈scope.names,y.2=NameKind.local->scope.names.lookup y.1=some .local
 free:∀y∈scope.names,y.2=NameKind.free->osc.names.lookup y.1=some .cell∨osc.names.lookup y.1=some .free
 names:N.map some=own.map some++fr.map λi=>NX[i]?
 outer:rT osc scope NX fr=true
def fy (osc scope:Scope) (NX own:LS) (fr:List Nat) (N:LS):Bool :=
 decide (scope.kind=.function)&&(scope.names.all (λy=>decide (y.2≠NameKind.cell))&&(scope.names.all (λy=>decide (y.2=NameKind.local->scope.names.lookup y.1=some .local)) &&
  (scope.names.all (λy=>decide (y.2=NameKind.free->(osc.names.lookup y.1=some .cell∨osc.names.lookup y.1=some .free)))&&(decide (N.map some=own.map some++fr.map λi=>NX[i]?)&&rT osc scope NX fr))))
theorem CompSc.of (h:fy i scope G z fr N=true):CompSc i scope G z fr N:=by
 unfold fy at h;simp only[uP,decide_eq_true_eq,uW] at h;obtain⟨d,c,b,e,a,f⟩:=h;exact⟨d,c,b,e,a,f⟩
theorem CompSc.len (S:CompSc z scope G i fr N):N.length=i.length+fr.length:=by
 have h:=congrArg List.length S.names;simpa using h
theorem cW {env:Env}:∀ {names:List (Str × NameKind)}{x:Str}, names.lookup x=some .free ->
    (names.map λ(n,k)=>if (k==NameKind.free&&env.scope.kind==.function&&env.kindOf n==some .cell) then (n,NameKind.cell) else (n,k)).lookup x=some .cell ∨
    (names.map λ(n,k)=>if (k==NameKind.free&&env.scope.kind==.function&&env.kindOf n==some .cell) then (n,NameKind.cell) else (n,k)).lookup x=some .free
 | [],_,h=>by simp at h
 | (n,k)::r,x,h=>by
  have ih:=@cW env r x;cases hx:x==n with
  | true =>
   simp only[uQ,hx] at h;cases h;simp only[uG]
   split
   ·left;simp[uQ,hx]
   ·right;simp[uQ,hx]
  | false =>
   simp only[uQ,hx] at h;simp only[uG]
   split
   ·simp only[uQ,hx];exact ih h
   ·simp only[uQ,hx];exact ih h
theorem gq {env:Env}:∀ {names:List (Str × NameKind)}{x:Str}{k':NameKind},
    (names.map λ(n,k)=>if (k==NameKind.free&&env.scope.kind==.function&&env.kindOf n==some .cell) then (n,NameKind.cell) else (n,k)).lookup x=some k' ->
    k'=.cell∨k'=.free->(∀y∈names,y.2≠NameKind.cell)->∃y∈names,y.1=x/\y.2=.free
 | [],_,_,h,_,_=>by simp at h
 | (n, k) :: r, x, k', h, hk, nc => by
  have ih:=@gq env r x k';simp only[uG] at h;cases hx:x==n with
  | true =>
   have ex:x=n:=LawfulBEq.eq_of_beq hx;refine⟨(n,k),uZ,ex.symm,?_⟩;have nck:k≠.cell:=nc (n,k) uZ;by_cases z:k=.free
   ·exact z
   ·have zb:(k==NameKind.free)=false:=by simpa using z
    simp only[zb,Bool.false_and,vo,if_false,uQ,hx] at h;cases h;rcases hk with q | q
    ·exact absurd q nck
    ·exact absurd q z
  | false =>
   have h':(r.map λ(n,k)=>if (k==NameKind.free&&env.scope.kind==.function&&env.kindOf n==some .cell) then (n,NameKind.cell) else (n,k)).lookup x=some k':=by
    split at h
    ·simpa only[uQ,hx] using h
    ·simpa only[uQ,hx] using h
   obtain⟨y,hy,a,b⟩:=ih h' hk λz hz=>nc z (ur _ hz);exact⟨y,ur _ hy,a,b⟩
section
variable {X:Cx}{pins:AO_}{σ:St}{H:Hp}{s:Shared}
def PTs (X:Cx) (ifs:List Expr) (t:TT):Prop :=
 ∀(pins:AO_) (s:Shared) (σ:St) (H:Hp) (Q:Bool->Hp->Prop),Inv X pins σ H s->t σ H Q ->
  wpAny (model X.prog X.w) X.A (forIn ifs true λc r=>if r=true then do let ok ← isTrue c X.env (eval c X.env);pure (ForInStep.yield ok) else pure (ForInStep.yield r)) (TP X pins σ Q) X.xe s
def ri:TT:=λ_ H Q=>Q true H
theorem bi:PTs X [] ri:=λ_ _ _ H _ I h=>wpAny_tests_nil ⟨H,I,h⟩
theorem km (h:PT X c t):PTs X [c] t:=λa s b H Q I q=>wpAny_tests_one (h a s b H Q I q)
theorem nx (h:wpAny M A t Q (λ_ _=>False) s) (b:∀a s,Q a s->i a s):wpAny M A t i E s :=
 uR h b λ_ _ f=>f.elim
theorem mF {scope:Scope}{G:LS}{fr:List Nat}{N:LS}{I:List (Str × Addr)}{s3 s4:Shared}{J:Hp}{Y:List Addr}{m:Str -> OV}
    (hc:X.calm=true) (S:CompSc X.env.scope scope X.N G fr N)
    (t:∀x c,I.lookup x=some c->X.env.cells.lookup x=some c) (W:∀y∈scope.names,y.2=NameKind.free->∃c,I.lookup y.1=some c)
    (a:Inv X pins σ J s3) (M:∀b∈Y,cK X pins J b/\b<s3.heap.objs.size)
    (C:∀b o,s3.heap.get? b=some o->s4.heap.get? b=some o) (Z:s4.heap.Ns s3.heap.objs.size m) (ho:s4.os=s3.os) (hg:s4.gens=s3.gens) :
    Inv (cxC X scope N I s3.heap.objs.size s3 J Y) [] (dJ G.length fr σ) J s4:=by
 have s:(compEnvC scope I s3.heap.objs.size X.env).scope.kind=.function:=by
  show (relabel scope X.env).kind=.function;exact S.kind
 refine⟨⟨a.ok.mod,s,a.ok.glob,a.ok.blt,ua _,?_,?_,?_,a.ok.hd,a.ok.frames,.inl rfl,?_,?_,?_,?_,?_,a.stack,a.stkFree⟩,ho,?_,Un.kept C,⟨m,Z,?_⟩,?_,?_,?_,?_,a.hok.kept C,?_⟩
 ·exact λx y c n d=>a.ok.inj x y c (t x c n) (t y c d)
 ·intro x hx;have U:(relabel scope X.env).names.lookup x=some .cell∨(relabel scope X.env).names.lookup x=some .free:=hx;obtain⟨D,K,T⟩:∃D,(relabel scope X.env).names.lookup x=some D/\(D=NameKind.cell∨D=NameKind.free):=by
   rcases U with q | q
   ·exact⟨_,q,.inl rfl⟩
   ·exact⟨_,q,.inr rfl⟩
  obtain⟨y,hy,e,hf⟩:=gq (env:=X.env) K T S.nocell;subst e;exact W y hy hf
 ·exact λx c h=>by cases h
 ·intro b B;obtain⟨f,R⟩:=M b B;refine⟨um R,λx c h=>f.2.2.2.2.1 x c (t x c h)⟩
 ·exact λb o e=>a.bs b o e
 ·exact uo a.ok.bsz a.sz
 ·intro b o e B;obtain⟨f,R⟩:=M b B;rcases f.2.2.2.1 with z | z
  ·exact a.ok.noex b o e z
  ·exact absurd (uI (ud e) (uo a.ok.bsz z)) (uY _)
 ·intro b B;obtain⟨f,R⟩:=M b B;show b∉frs X.stack;intro z;rcases uf.mp (a.stkSub b z) with q | q
  ·exact f.2.1 q
  ·exact f.2.2.1 q
 ·rw[hg];exact a.bare
 ·intro i x v n d h3;have n:N[i]? = some x:=n;obtain⟨m0,a0,L⟩:=a.loc;have hi:G.length<=i:=by
   refine Nat.le_of_not_lt λq=>?_;unfold dJ at d;rw[vj (by simpa using q),List.getElem?_replicate] at d
   split at d <;> cases d
  obtain⟨j,rfl⟩:=Nat.exists_eq_add_of_le hi;have g:(fr.map λi=>(σ[i]?).join)[j]? = some (some v):=by
   unfold dJ at d;rw[vd (by simp)] at d;simpa using d
  rw[uC] at g;cases ej:fr[j]? with
  | none=>rw[ej] at g;cases g
  | some k =>
   rw[ej] at g;have H:(σ[k]?).join=some v:=ue g;have Q:σ[k]? = some (some v):=by
    cases q:σ[k]? with
    | none=>rw[q] at H;cases H
    | some o=>rw[q] at H;exact congrArg some H
   have V:X.N[k]? = some x:=by
    have q:=congrArg (λl=>l[G.length+j]?) S.names;simp only[uC,n,vd (show (G.map some).length<=G.length+j by simp),ub,Nat.add_sub_cancel_left,ej,Option.map_some] at q;exact(ue q).symm
   have O:=uW.mp S.outer k (uN ej);rw[V] at O;simp only[uP,Bool.or_eq_true,decide_eq_true_eq] at O;obtain⟨A,w⟩:=O;have P:Vis X.env.scope x:=.inr A;obtain⟨u,r,l⟩:=L k x v V Q P;refine⟨u,r,?_⟩;rcases l with⟨l,_⟩ | ⟨_,c,e,z⟩
   ·have l:X.env.scope.names.lookup x=some .local:=l;rcases A with q | q
    ·rw[l] at q;cases q
    ·rw[l] at q;cases q
   ·obtain⟨F,E⟩:=W (x,.free) (PySem.mem_of_lookup w) rfl;have E:I.lookup x=some F:=E;have ec:F=c:=ue ((t x F E).symm.trans e);subst ec;refine .inr ⟨cW (env:=X.env) w,F,E,?_⟩;obtain⟨o,n,d⟩:=z;exact⟨o,C _ _ n,d⟩
 ·intro x c e;obtain⟨v,o,n,d⟩:=a.cell x c (t x c e);exact⟨v,o,C _ _ n,d⟩
 ·exact a.hok.fresh (ua _)
 ·exact λx c e=>a.freeC x c (t x c e)
 ·intro p hp;exact absurd hp (by simp[cxC])
 ·show (dJ G.length fr σ).length=N.length;rw[S.len];simp[dJ]
end
section
variable {prog:Program}{w:World}{A:Around}{R:Result->Shared->Prop}{s:Shared}
theorem mZ (J:Nat -> Shared -> Prop)
    (a:∀k s, J k s -> ∀E:Value -> Shared -> Prop, wpAny (model prog w) A (pyNext I) (λr G => match r with
     | none=>R (.ok .next) G
     | some v => wpAny (model prog w) A (letOwnedTupleGo tg I v) (λ_ U => wpAny (model prog w) A (assign tg env v) (λ_ s3 =>
         wpAny (model prog w) A (forIn ifs true λc r=>if r=true then do let i ← isTrue c env (eval c env);pure (ForInStep.yield i) else pure (ForInStep.yield r)) (λi s4 =>
          if i=true then wpAny (model prog w) A (eval elt env) (λx Y=>wpAny (model prog w) A (call (.builtin "list.append") [z,x]) (λ_ O=>∃m,m<k/\J m O) E Y) E s4
          else ∃m,m<k/\J m s4) E s3) E U) E G) E s)
    (k:Nat) (h:J k s):codeAny (model prog w) A (.compLoop (.ListComp elt [⟨tg,iter,ifs,0⟩] scope pos) 0 I z env) R s:=by
 refine codeAny_loop rfl J (λk s f=>?_) k h;show wpAny _ A ((compTurn (.ListComp elt [⟨tg,iter,ifs,0⟩] scope pos) 0 I z env).onRaise (λe=>do noteFrame e env;theTreesLotGoes e)) _ _ s;refine wpAny_noted ?_;rw[compTurn_list];refine me (wpAny_standAt (me (thn (a k s f _) λr G b=>?_)));cases r with
 | none=>exact uc b
 | some v =>
  refine me (thn b λ_ U l=>me (thn l λ_ s3 j=>me (thn j λi s4 d=>?_)));cases i with
  | false=>exact uc ⟨rfl,d⟩
  | true=>exact me (me (thn d λx Y g=>me (thn g λ_ O n=>uc (uc ⟨rfl,n⟩))))
end
def dL (k:Nat) (fr:List Nat) (g:TG) (tc:TT) (te:TE) (J:It) (σ:St) (H1:Hp) (Q:VK):Prop :=
 ∀D,H1 D=none->∃W:Nat->Nat->LV->SH,(∃m,W 0 m [] (dJ k fr σ) (upd H1 D (.lst [])))/\∀i m acc σ' H',W i m acc σ' H'->H' D=some (.lst acc) ->
  (J.stop i H'/\Q (.ref D) H')∨(J.go i H'/\∃N:LV->SH,(∀acc' σ2 H2,N acc' σ2 H2->∃m',m'<m/\W (i+1) m' acc' σ2 H2)/\∀x H2,J.yld i H' x H2->g x σ' H2 λσ2 H3=>tc σ2 H3 λb H4 =>
   if b=true then te σ2 H4 λy H5=>H5 D=some (.lst acc)/\acc.length<sizeLine/\N (acc++[y]) σ2 (upd H5 D (.lst (acc++[y])))
   else H4 D=some (.lst acc)/\N acc σ2 H4)
def lf (k:Nat) (fr:List Nat) (wi:TI) (g:TG) (tc:TT) (te:TE):TE:=λσ H Q=>wi σ H λJ H1=>dL k fr g tc te J σ H1 Q
section
variable {X:Cx}{pins:AO_}{σ:St}{H:Hp}{s:Shared}{tg elt iter:Expr}{ifs:List Expr}{scope:Scope}{pos:Pos}
theorem gj {a3:LS}{fr:List Nat}{N:LS}{cl:List (Str × Addr)}{O:List Addr}{J:It}{tn:Nat -> Heap -> Prop}{POST:Value -> Addr -> Result -> Shared -> Prop}
    (hc:X.calm=true) (S:CompSc X.env.scope scope X.N a3 fr N)
    (c1:∀x c,cl.lookup x=some c->X.env.cells.lookup x=some c) (c2:∀y∈scope.names,y.2=NameKind.free->∃c,cl.lookup y.1=some c)
    (hg:∀C Y U ex,PG (cxC X scope N cl C Y U ex) tg g) (ht:∀C Y U ex,PTs (cxC X scope N cl C Y U ex) ifs tc) (he:∀C Y U ex,PE (cxC X scope N cl C Y U ex) elt te)
    (I2:Inv X pins σ H2 G) (T:Turn X.prog X.w X.K tg J O it tn) (t2:tn 0 G.heap) (B:∀b∈O,cK X pins H2 b) (q:dL a3.length fr g tc te J σ H2 Q)
    (b4:∀D C s' H' m,Inv X pins σ H' s'->cK X pins H' C->s'.heap.Ns C m->Q (.ref D) H'->POST (.ref D) C (.ok .next) s') :
    wpAny (model X.prog X.w) X.A (newList []) (λI s3=>wpAny (model X.prog X.w) X.A (newFunctionEnv scope X.env.globals cl [] X.env.qual none .none (some X.env)) (λa0 s4 =>
     codeAny (model X.prog X.w) X.A (.compStart (.ListComp elt [⟨tg,iter,ifs,0⟩] scope pos) 0 (.ref it) I { a0 with scope:=relabel scope X.env }) (POST I a0.locals) s4) E s3) E G:=by
 refine wpAny_newObj_type (wpAny_newFunctionEnv S.nocell (by intro y hy;simp at hy) (λh4 a6 M=>?_) S.kind);dsimp only at a6 M ⊢;have hD:H2 G.heap.objs.size=none:=I2.hok.fresh (ua _);obtain⟨W,⟨m0,w0⟩,P⟩:=q G.heap.objs.size hD;have I3:Inv X pins σ (upd H2 G.heap.objs.size (.lst [])) { G with heap:=G.heap.push { cls:=.type "list",dict:=none,data:=.seq ([]:LW).toArray },toks:=G.toks } :=
  I2.laid (λb u q=>ui _ q) (ua _) ⟨uu _,[],_,.nil,uw _ rfl⟩
 generalize a4:G.heap.push { cls:=.type "list",dict:=none,data:=.seq ([]:LW).toArray }=f at *;have z3:f.objs.size=G.heap.objs.size+1:=by rw[<- a4,Heap.size_push]
 have a5:∀b o,G.heap.get? b=some o->f.get? b=some o:=λb o e=>by rw[<- a4];exact ui _ e
 have A:∀b o,f.get? b=some o->h4.get? b=some o:=λb o e=>M.extBut b o (um (ud e)) (ui _ e);have V:∀b∈O,b<G.heap.objs.size:=λb a=>by
  obtain⟨o,e,_⟩:=T.obj _ _ t2 b a;exact ud e
 have f3:∀b∈O,cK X pins (upd H2 G.heap.objs.size (.lst [])) b/\b<f.objs.size:=λb a=>by
  refine⟨⟨?_,(B b a).2⟩,by rw[z3];exact Nat.lt_succ_of_lt (V b a)⟩;rw[aj (um (V b a))];exact(B b a).1
 generalize s:({ G with heap:=f,toks:=G.toks }:Shared)=s3 at I3;have l:s3.heap=f:=by rw[<- s]
 have c3:({ G with heap:=f }:Shared)=s3:=s;have I4:=mF (s3:=s3) (s4:={ s3 with heap:=h4,toks:=s3.toks+([]:List (Str × Value)).length }) hc S c1 c2 I3 (by rw[l];exact f3) (by rw[l];exact A) (m:=λx=>([]:List (Str × Value)).reverse.lookup x) (by rw[l];exact a6) rfl rfl;rw[l] at I4;have j:∀ {H':Hp} {s':Shared} {d:St} {pl:AO_},Inv (cxC X scope N cl f.objs.size s3 (upd H2 G.heap.objs.size (.lst [])) O) pl d H' s'->(∀p∈pl,p.1∉O)->(∀b∈O,H' b=none)->∀b∈O,cK (cxC X scope N cl f.objs.size s3 (upd H2 G.heap.objs.size (.lst [])) O) pl H' b:=λ{H' s' d pl} I' b2 hn b a=>by
  refine⟨hn b a,um (f3 b a).2,I'.ok.exfs b a,.inl a,λx c e=>(B b a).2.2.2.2.1 x c (c1 x c e),λp hp=>?_⟩;intro z;exact b2 p (by simpa [cxC] using hp) (z ▸ a)
 have w:∀s4:Shared, s4={ s3 with heap := h4, toks := s3.toks+([]:List (Str × Value)).length } ->
     codeAny (model X.prog X.w) X.A (.compLoop (.ListComp elt [⟨tg,iter,ifs,0⟩] scope pos) 0 (.ref it) (.ref G.heap.objs.size) (compEnvC scope cl f.objs.size X.env)) (POST (.ref G.heap.objs.size) f.objs.size) s4:=by
  rintro s4 rfl;refine mZ (λn s'=>∃i I d H',Inv (cxC X scope N cl f.objs.size s3 (upd H2 G.heap.objs.size (.lst [])) O) [] d H' s'/\tn i s'.heap/\(∀b∈O,H' b=none)/\H' G.heap.objs.size=some (.lst I)/\W i n I d H') ?_ m0
   ⟨0,[],_,_,I4,T.keep _ _ _ t2 λb a o e=>A b o (a5 b o e),λb a=>(f3 b a).1.1,ah,w0⟩
  rintro n s5 ⟨i,I,t,R,I5,t5,H,d5,w5⟩ E';rcases P i n I t R w5 d5 with⟨K,qn⟩ | ⟨go,NN,a7,a8⟩
  ·refine thn (T.done (cxC X scope N cl f.objs.size s3 (upd H2 G.heap.objs.size (.lst [])) O) rfl rfl rfl hc i [] s5 t R E' I5 (j I5 (by simp) H) t5 K) λr s6 ⟨hr,F⟩=>?_;subst hr;obtain⟨m6,n6,_⟩:=id F.loc;have J6:Inv X pins σ R s6:=I3.call' (ch:=O) F.os F.base F.hok F.bare λb a=>⟨(B b a).2.2.2.1,(B b a).2.1,(B b a).2.2.2.2.1,(B b a).2.2.2.2.2⟩
   exact b4 _ _ s6 R m6 J6 (I2.fpOk (by rw[z3];exact Nat.le_succ _) F.free) n6 qn
  ·refine thn (T.item (cxC X scope N cl f.objs.size s3 (upd H2 G.heap.objs.size (.lst [])) O) rfl rfl rfl hc i [] s5 t R E' I5 (j I5 (by simp) H) t5 go) λr s6 ⟨u,hr,h6⟩=>?_;subst hr;refine thn h6 λ_ s7 ⟨x,H7,I7,r7,y7,t7,b6⟩=>?_;have a9:=I7.pinned (j I7 (by simp) b6) (T.obj _ _ t7);have h:∀ {s':Shared} {H':Hp} {d:St},Inv (cxC X scope N cl f.objs.size s3 (upd H2 G.heap.objs.size (.lst [])) O) ([]++fw O s7.heap) d H' s'->tn (i+1) s'.heap/\∀b∈O,H' b=none:=λ{s' H' d} I'=>by
    refine⟨T.keep _ _ _ t7 λb a o e=>(I'.pin (b,o) (uS _ (uS _ (dr a e)))).1,λb a=>?_⟩;obtain⟨o,e,_⟩:=T.obj _ _ t7 b a;exact(I'.pin (b,o) (uS _ (uS _ (dr a e)))).2.1
   refine nx (hg _ _ _ _ _ s7 t H7 x u _ a9 r7 (a8 x H7 y7)) λ_ s8 ⟨k,H8,I8,q8⟩=>?_;refine nx (ht _ _ _ _ _ s8 k H8 _ I8 q8) λok s9 ⟨H9,I9,q9⟩=>?_;cases ok with
   | false =>
    obtain⟨d9,n9⟩:=q9;obtain⟨m',hm,w9⟩:=a7 _ _ _ n9;obtain⟨a1,a2⟩:=h I9;exact⟨m',hm,i+1,I,k,H9,I9.unpinned,a1,a2,d9,w9⟩
   | true =>
    rw[if_pos rfl];refine nx (he _ _ _ _ _ s9 k H9 _ I9 q9) λy b0 ⟨v,L,b8,b5,b7,b1,b9⟩=>?_;obtain⟨m',hm,c0⟩:=a7 _ _ _ b9;refine nx (hY _ b0 k L (.ref G.heap.objs.size) [v] (.ref G.heap.objs.size) [y] (λ_ H'=>H'=upd L G.heap.objs.size (.lst (I++[v]))) b8 rfl (.cons b5 .nil) ⟨_,I,v,rfl,rfl,b7,b1,rfl⟩) λ_ c5 ⟨_,c4,Z,_,b3⟩=>?_;subst b3;obtain⟨a1,a2⟩:=h Z;exact⟨m',hm,i+1,_,k,_,Z.unpinned,a1,a2,ah,c0⟩
 exact codeAny_compStart_list (w _ (by rw[<- s])) (T.self _ 0 _ _ _ (T.keep _ _ _ t2 λb a o e=>A b o (a5 b o e)) (w _ (by rw[<- s])))
theorem qf (d:Scope) (r c:LS) (n:List Nat) (N:LS) (hc:X.calm=true)
    (M:PI X tg iter wi) (hg:∀G C z i ex,PG (cxC X scope N G C z i ex) tg g) (ht:∀G C z i ex,PTs (cxC X scope N G C z i ex) ifs tc) (he:∀G C z i ex,PE (cxC X scope N G C z i ex) elt te)
    (hs:∀x,foldedSetIterable iter X.env x=pure x:=by intro _;rfl) (f:X.env.scope=d:=by rfl) (j:X.N=r:=by rfl) (u:fy d scope r c n N=true:=by decide +kernel) :
    PE X (.ListComp elt [⟨tg,iter,ifs,0⟩] scope pos) (lf c.length n wi g tc te):=by
 intro a s p H Q I h;have S:CompSc X.env.scope scope X.N c n N:=by rw[f,j];exact CompSc.of u
 obtain⟨G,l,c1,c2⟩:=kt (scope:=scope) (env:=X.env) λy hy O=>I.ok.has y.1 (S.free y hy O);rw[eval_ListComp];refine wpAny_comprehension_free (use:=none) rfl hs l S.kind S.loc (thn (M a s p H _ I h) λv s1 E=>thn E λL s2 R=>?_);obtain⟨it,fp,tn,J,H2,e,F,T,W,t,q⟩:=R;subst e;refine gj (POST:=λk C=>compPost (model X.prog X.w) X.A X.xe none (EP X a p Q) k C) hc S c1 c2 (hg G) (ht G) (he G) F T W t q λD C A H' m B Y P K=>?_;refine⟨m,P,λh' V=>⟨.ref D,H',?_,rfl,K⟩⟩;obtain⟨g0,U,_,g3,w,g5⟩:=Y;exact B.turned (t':=A.toks) (λb o Z e=>(V.2 b Z).trans e) g0 U g3 w g5
theorem kF (hN:X.N.Nodup) (t:X.N[i]? = some x) (L:X.env.scope.names.lookup x=some .local)
    (u:swapsWith (.ListComp elt [⟨tg,iter,ifs,0⟩] scope pos) (some (.Name x px)) Y.line X.env=pure true)
    (k:Scope) (F d:LS) (p:List Nat) (N:LS) (hc:X.calm=true)
    (hi:PI X tg iter wi) (hg:∀U C O G ex,PG (cxC X scope N U C O G ex) tg g) (ht:∀U C O G ex,PTs (cxC X scope N U C O G ex) ifs tc) (he:∀U C O G ex,PE (cxC X scope N U C O G ex) elt te)
    (hs:∀x,foldedSetIterable iter X.env x=pure x:=by intro _;rfl) (j:X.env.scope=k:=by rfl) (l:X.N=F:=by rfl) (Z:fy k scope F d p N=true:=by decide +kernel) :
    PS X (.Assign [.Name x px] (.ListComp elt [⟨tg,iter,ifs,0⟩] scope pos) Y) (nA (lf d.length p wi g tc te) (fD i)):=by
 intro c s σ H D I h;have S:CompSc X.env.scope scope X.N d p N:=by rw[j,l];exact CompSc.of Z
 obtain⟨U,E,c1,c2⟩:=kt (scope:=scope) (env:=X.env) λy V hf=>I.ok.has y.1 (S.free y V hf);rw[exec_Assign_Name_used _ _ _ _ u];refine me (wpAny_standAt (me ?_));show wpAny _ X.A (do let _ ← comprehension (.ListComp elt [⟨tg,iter,ifs,0⟩] scope pos) scope X.env _ (newList []) false (eval iter X.env) (some (assign (.Name x px) X.env))) _ _ s;refine me (thn (wpAny_comprehension_free (use:=some (assign (.Name x px) X.env)) (Q:=λ_ f=>SP X c D .next f) rfl hs E S.kind S.loc (thn (hi c s σ H _ I h) λv s1 h1=>thn h1 λa0 s2 h2=>?_)) λ_ f hq=>uc (uc hq));obtain⟨it,fp,tn,J,H2,e,I2,T,R,f2,q⟩:=h2;subst e;refine gj (POST:=λn C=>compPost (model X.prog X.w) X.A X.xe (some (assign (.Name x px) X.env)) (λ_ f=>SP X c D .next f) n C) hc S c1 c2 (hg U) (ht U) (he U) I2 T R f2 q λB C f H' m I' fC ns P=>?_;show wpAny _ X.A (assign (.Name x px) X.env (.ref B)) _ _ f;refine wpAny_assign_Name (hZ I' hN t (.inl L) (show RelV (.ref B) (.ref B) from rfl) (λs3 I3 A=>?_) (.inr L));obtain⟨a,A,ha⟩:=A;obtain⟨g0,K,g2,g3,M,W⟩:=fC;have aC:C≠a:=by
  rcases ha with z | z
  ·rw[z];exact K
  ·exact λw=>M x a z w.symm
 refine⟨m,ns.sameBut A aC,λh' r=>⟨_,H',?_,P⟩⟩;exact I3.turned (t':=s3.toks) (λb o hb e=>(r.2 b hb).trans e) g0 K g3 M W
end
def sgV (x:Str) (i:Nat):Option V:=(x.cps[i]?).map λc=>V.str ⟨#[c]⟩
def Its (x:Str):It:=⟨λi _=>i<x.cps.size,λi H v H'=>H'=H/\sgV x i=some v,λi _=>x.cps.size<=i⟩
theorem lg {P:Program}{w:World}{K:W.Frag}{tg:Expr}(T:String) (it:Addr) (x:Str) (t:Tok)
    (hn:["enumerate","zip","dict_itemiterator","dict_reverseitemiterator","odict_iterator","itertools.zip_longest","itertools.pairwise"].contains T=false)
    (W:∀A:Around,A.handled=none->Walks P w A it [it] [it] x.cps.size (SignAt x) (λi h=>h.IsStrIter it T x t i))
    (hs:∀(A:Around) (i:Nat) (s:Shared) (Q:QS) (E:QS),s.heap.IsStrIter it T x t i->Q (.ref it) s->wpAny (model P w) A (pyIter (.ref it)) Q E s) :
    Turn P w K tg (Its x) [it] it (λi h=>h.IsStrIter it T x t i/\i<=x.cps.size) where
 mem:=by simp
 obj:=λi h st b hb=>by
  have e:b=it:=by simpa using hb
  subst e;obtain⟨o,e,c,d⟩:=st.1;exact⟨o,e,λv z=>by rw[d] at z;cases z⟩
 keep:=λi h h' st k=>⟨by
  obtain⟨o,e,c⟩:=st.1;exact⟨o,k it (by simp) o e,c⟩,st.2⟩
 item:=by
  intro X hP hw hK hc i pins s σ H E I hf st hg;subst hP hw hK;obtain⟨f0,f1,f2,f3,f4,f5⟩:=hf it (by simp);refine(W X.A (I.ok.hd hc)).item i s _ _ hg st.1 λv h' tk hv st' kk=>?_;obtain⟨c,u,hcp,rfl⟩:=hv;have I1:Inv X pins σ H { s with heap:=h',toks:=tk }:=I.turned (λb o hb e=>kk b o (by simpa using hb) e) f0 f1 f3 f4 f5;obtain⟨o,e,cc,d⟩:=id st';refine⟨_,rfl,iy (s:={ s with heap:=h',toks:=tk }) e cc d hn ⟨.str ⟨#[c]⟩,H,I1,⟨u,rfl⟩,⟨rfl,?_⟩,⟨st',?_⟩,λb hb=>(hf b hb).1⟩⟩
  ·unfold sgV;rw[hcp];rfl
  ·exact hg
 done:=by
  intro X hP hw hK hc i pins s σ H E I hf st hg;subst hP hw hK;obtain⟨f0,f1,f2,f3,f4,f5⟩:=hf it (by simp);have e:i=x.cps.size:=Nat.le_antisymm st.2 hg;subst e;exact(W X.A (I.ok.hd hc)).done s _ _ st.1 λh' tk kk=>⟨rfl,I.turned (λb o hb e=>kk b o (by simpa using hb) e) f0 f1 f3 f4 f5⟩
 self:=λA i s Q E st h=>hs A i s Q E st.1 h
def iStr (tl:TE):TI:=λσ H R=>tl σ H λx H1=>∃z,x=.str z/\R (Its z) H1
theorem ml {X:Cx}{tg l:Expr}{tl:TE}(y:PE X l tl):PI X tg l (iStr tl) := by
 intro c s k H R I h;refine thn (y c s k H _ I h) λv a ⟨x,m,j,r,p⟩=>?_;obtain⟨z,e,q⟩:=p;subst e;obtain⟨t,rfl⟩:=r;have d:∀(T:String),["enumerate","zip","dict_itemiterator","dict_reverseitemiterator","odict_iterator","itertools.zip_longest","itertools.pairwise"].contains T=false ->
     (∀A:Around,A.handled=none->Walks X.prog X.w A a.heap.objs.size [a.heap.objs.size] [a.heap.objs.size] z.cps.size (SignAt z) (λi h=>h.IsStrIter a.heap.objs.size T z t i)) ->
     (∀(A:Around) (i:Nat) (s:Shared) (Q:QS) (E:QS),s.heap.IsStrIter a.heap.objs.size T z t i->Q (.ref a.heap.objs.size) s->wpAny (model X.prog X.w) A (pyIter (.ref a.heap.objs.size)) Q E s) ->
     PIE X c k tg R (.ref a.heap.objs.size) { a with heap:=a.heap.push { cls:=.type T,data:=.fields #[.str z t,.int 0 0] } }:=λT n W w=>by
  refine⟨_,[a.heap.objs.size],_,_,m,rfl,j.kept (t':=a.toks) λb o e=>ui _ e,lg T _ z t n W w,⟨⟨_,uw _ rfl,rfl,rfl⟩,uu _⟩,λb u=>?_,q⟩;have e:b=a.heap.objs.size:=by simpa using u
  subst e;exact j.fpOk (ua _) (j.hok.fresh (ua _))
 cases ha:z.cps.all (·<128)
 ·exact wpAny_pyIter_wide ha (d "str_iterator" (by decide) (λA f=>Walks.strWide f _ z t) λA i s Q E g h=>wpAny_pyIter_striter_wide g h)
 ·exact wpAny_pyIter_ascii ha (d "str_ascii_iterator" (by decide) (λA f=>Walks.strAscii f _ z t) λA i s Q E g h=>wpAny_pyIter_striter_ascii g h)
def Ite (K:W.Frag) (a:Addr):It :=
 ⟨λi H=>∃xs x,SqL K H a xs/\xs[i]? = some x,λi H v H'=>∃p x,H p=none/\v=.ref p/\(∀xs,SqL K H a xs->xs[i]? = some x)/\H'=upd H p (.tup [.int i,x]),λi H=>∃xs,SqL K H a xs/\xs.length<=i⟩
theorem mL {P:Program}{w:World}{K:W.Frag}{elts:List Expr}{k:Nat}{tp:Pos}(a e it:Addr) (hne:e ≠ it) :
    Turn P w K (.Tuple elts k tp) (Ite K a) [e,it] e (λi h=>(∃old,IsEnum h e it i old)/\h.IsListIter it a i) where
 mem:=by simp
 obj:=λi h st b hb=>by
  obtain⟨⟨old,he⟩,hit⟩:=st;have hb:b=e∨b=it:=by simpa using hb
  rcases hb with z | z
  ·subst z;exact⟨_,he,λv z=>by cases z⟩
  ·subst z;obtain⟨o,e1,c,d⟩:=hit;exact⟨o,e1,λv z=>by rw[d] at z;cases z⟩
 keep:=λi h h' st kk=>by
  obtain⟨⟨old,he⟩,hit⟩:=st;exact⟨⟨old,kk e (by simp) _ he⟩,hit.at λo q=>kk it (by simp) o q⟩
 item := by
  intro X hP hw hK hc i pins s σ H E I hf st hg;subst hP hw hK;obtain⟨⟨old,he⟩,hit⟩:=st;obtain⟨xs,x,hq,hx⟩:=hg;obtain⟨its,rv,p,hz⟩:=I.list hq;obtain⟨u,hu,ru⟩:=rv.get hx;obtain⟨f0,f1,f2,f3,f4,f5⟩:=hf e (by simp);obtain⟨g0,g1,g2,g3,g4,g5⟩:=hf it (by simp);refine wpAny_pyNext_enum_item he hit p.isList (x:=u) (by simpa using hu) hne λh1 ho hit1 ht1 hz1 k1=>?_;have hel:e<s.heap.objs.size:=ud he;have hil:it<s.heap.objs.size:=by obtain⟨o,q,_⟩:=hit;exact ud q
  refine⟨_,rfl,wpAny_letOwnedTupleGo_enum ho λh2 he2 sb2=>?_⟩;have sb2:Heap.SameBut e h1 h2:=sb2;have T2:h2.get? s.heap.objs.size=some { cls:=.type "tuple",data:=.seq #[.int i s.toks,u] }:=(sb2.2 _ (Nat.ne_of_gt hel)).trans ht1;have hp:H s.heap.objs.size=none:=I.hok.fresh (ua _);have nit:∀b v,H b=some v->b≠e/\b≠it:=λb v q=>⟨λz=>(by rw[z,f0] at q;cases q),λz=>(by rw[z,g0] at q;cases q)⟩
  have kk:∀b o,b≠e->b≠it->s.heap.get? b=some o->h2.get? b=some o:=λb o n1 n2 q=>(sb2.2 b n1).trans (k1 b o n1 n2 q);have up:∀b v,H b=some v->upd H s.heap.objs.size (.tup [.int i,x]) b=some v:=λb v q=>by rw[aj (ak q hp)];exact q
  have I1:Inv X pins σ (upd H s.heap.objs.size (.tup [.int i, x])) { s with heap := h2, gens := s.gens, drawn := s.drawn, toks := s.toks+1 } := by
   refine I.step (g':=s.gens) (d':=s.drawn) (ch:=[e,it]) (λb hb=>?_) (λb o _ _ hb q _=>kk b o (λz=>hb (by simp[z])) (λz=>hb (by simp[z])) q) (λb o _ _ hb q _=>⟨o.slots,kk b o (λz=>hb (by simp[z])) (λz=>hb (by simp[z])) q⟩) (λb o _ q n=>?_)
    (λb o hb q=>⟨o,kk b o (λz=>hb (by simp[z])) (λz=>hb (by simp[z])) q⟩) (λb ys q=>up b _ q) (λb o v q=>up b _ q) (λb ps q=>⟨#[],by rw[up b _ q];simp⟩) (λm hm=>?_) (λb v q=>?_) I.bare
   ·have hb:b=e∨b=it:=by simpa using hb
    rcases hb with z | z
    ·subst z;exact⟨f3,f1,f4,f5⟩
    ·subst z;exact⟨g3,g1,g4,g5⟩
   ·rw[aj (um (ud q))];exact n
   ·obtain⟨o,es,ep,ho,r⟩:=hm;exact⟨o,es,ep,kk _ o (Ne.symm f1) (Ne.symm g1) ho,r⟩
   ·by_cases hb:b=s.heap.objs.size
    ·subst hb;rw[ah] at q;have q':HO.tup [V.int i,x]=v:=ue q;subst q';exact⟨by show 2<=sizeLine;decide,[.int i s.toks,u],.cons ⟨_,rfl⟩ (.cons ru .nil),⟨_,T2,rfl,_,rfl,rfl⟩⟩
    ·rw[aj hb] at q;refine(I.hok b v q).stay (λc v' hc q'=>?_) (λc q=>up c _ q) λc ys q=>up c _ q;rcases hc with z | z
     ·rw[z] at q' ⊢;exact kk b v' (nit b v q).1 (nit b v q).2 q'
     ·exact kk c v' (nit c _ z).1 (nit c _ z).2 q'
  refine⟨.ref s.heap.objs.size,upd H s.heap.objs.size (.tup [.int i,x]),I1,rfl,⟨_,x,hp,rfl,λys hy=>by rw[I.list_inj hy hq];exact hx,rfl⟩,⟨⟨u,?_⟩,?_⟩,λb hb=>?_⟩
  ·exact(by simpa using he2)
  ·exact hit1.at λo q=>(sb2.2 it (Ne.symm hne)).trans q
  ·have hb:b=e∨b=it:=by simpa using hb
   rcases hb with z | z
   ·rw[z,aj (um hel)];exact f0
   ·rw[z,aj (um hil)];exact g0
 done:=by
  intro X hP hw hK hc i pins s σ H E I hf st hg;subst hP hw hK;obtain⟨⟨old,he⟩,hit⟩:=st;obtain⟨xs,hq,hx⟩:=hg;obtain⟨its,rv,p,hz⟩:=I.list hq;obtain⟨g0,g1,g2,g3,g4,g5⟩:=hf it (by simp);have hl:=rv.length;exact wpAny_pyNext_enum_end (I.ok.hd hc) he hit p.isList (by simp;omega) λh' eb=>⟨rfl,I.turned (t':=s.toks) (λb o hb q=>eb b o hb q) g0 g1 g3 g4 g5⟩
 self:=λ_ _ _ _ _ st h=>by
  obtain⟨⟨old,he⟩,_⟩:=st;exact wpAny_pyIter_enum he h
mutual
inductive Rep (H:Hp):V->PyData->Prop
 | non:Rep H .non .none
 | bl (b:Bool):Rep H (.bl b) (.bool b)
 | int (i:Int):Rep H (.int i) (.int i)
 | str (x:Str):Rep H (.str x) (.str x)
 | lst {a:Addr} {xs:LV} {ds:List PyData}:H a=some (.lst xs)->RepAll H xs ds->Rep H (.ref a) (.list ds)
 | tup {a:Addr} {xs:LV} {ds:List PyData}:H a=some (.tup xs)->RepAll H xs ds->Rep H (.ref a) (.tuple ds)
inductive RepAll (H:Hp):LV->List PyData->Prop
 | nil:RepAll H [] []
 | cons {x:V} {xs:LV} {d:PyData} {ds:List PyData}:Rep H x d->RepAll H xs ds->RepAll H (x::xs) (d::ds)
end
mutual
theorem Rep.reads (ok:HOk P w H h):∀ {v:V}{d:PyData}{u:Value},Rep H v d->RelV v u->∃as,Reads h u d as
 | _,_,_,.non,r=>by cases r;exact⟨_,.none⟩
 | _,_,_,.bl b,r=>by cases r;exact⟨_,.bool b⟩
 | _,_,_,.int i,r=>by obtain⟨t,rfl⟩:=r;exact⟨_,.int i t⟩
 | _,_,_,.str x,r=>by obtain⟨t,rfl⟩:=r;exact⟨_,.str x t⟩
 | _,_,_,.lst (a:=a) (xs:=xs) e rs,r=>by
  cases r;obtain⟨_,its,n,rv,eh⟩:=(show ObjOk P w H h a (.lst xs) from ok a _ e)
  obtain⟨as,z⟩:=RepAll.reads ok rs rv;exact⟨_,.list eh rfl rfl (by simpa using z)⟩
 | _,_,_,.tup (a:=a) (xs:=xs) e rs,r=>by
  cases r;obtain⟨_,its,rv,o,eh,hc,n,hd,_⟩:=(show ObjOk P w H h a (.tup xs) from ok a _ e)
  obtain⟨as,z⟩:=RepAll.reads ok rs rv;exact⟨_,.tuple eh hc hd (by simpa using z)⟩
theorem RepAll.reads (ok:HOk P w H h):∀ {vs:LV}{ds:List PyData}{us:LW}, RepAll H vs ds -> Vals vs us -> ∃as, ReadsAll h us ds as
 | _,_,_,.nil,r=>by cases r;exact⟨_,.nil⟩
 | _,_,_,.cons q qs,r=>by
  cases r with
  | cons r1 r2 =>
   obtain⟨as,z⟩:=Rep.reads ok q r1;obtain⟨bs,zs⟩:=RepAll.reads ok qs r2;exact⟨_,.cons z zs⟩
end
mutual
theorem Rep.same (s:Same H H'):∀ {v:V}{d:PyData},Rep H v d->Rep H' v d
 | _,_,.non=>.non
 | _,_,.bl b=>.bl b
 | _,_,.int i=>.int i
 | _,_,.str x=>.str x
 | _,_,.lst e rs=>.lst (s _ _ e) (rs.same s)
 | _,_,.tup e rs=>.tup (s _ _ e) (rs.same s)
theorem RepAll.same (s:Same H H'):∀ {vs:LV}{ds:List PyData},RepAll H vs ds->RepAll H' vs ds
 | _,_,.nil=>.nil
 | _,_,.cons q qs=>.cons (q.same s) (qs.same s)
end
section
variable {X:Cx}
def shp (d:PyData):Prop:=SeqAt.shaped d=true
def rEqD:R2:=λx y H Q=>∃da db,Rep H x da/\Rep H y db/\shp da/\shp db/\Q (.bl (PyData.eqv da db)) H
def rNeD:R2:=λx y H Q=>∃da db,Rep H x da/\Rep H y db/\shp da/\shp db/\Q (.bl (!PyData.eqv da db)) H
theorem rm (k:X.A.units+64<cLine):OpR X (compareOp .Eq) rEqD:=by
 intro a s m H x y v u Q I d f h;obtain⟨p,l,i,g,j,c,q⟩:=h;obtain⟨o,b⟩:=i.reads I.hok d;obtain⟨n,e⟩:=g.reads I.hok f;exact eq_dataH b e j c k ⟨.bl _,H,I,rfl,q⟩
theorem rR (k:X.A.units+64<cLine):OpR X (compareOp .NotEq) rNeD:=by
 intro a s m H x y v u Q I d f h;obtain⟨p,l,i,g,j,c,q⟩:=h;obtain⟨o,b⟩:=i.reads I.hok d;obtain⟨n,e⟩:=g.reads I.hok f;exact ne_dataH b e j c k ⟨.bl _,H,I,rfl,q⟩
theorem mE:OpR X (compareOp .LtE) (λx y H Q=>∃i j,x=.str i/\y=.str j/\Q (.bl (!decide (j.cps.toList<i.cps.toList))) H):=by
 intro a s d H x y v u Q I c b h;obtain⟨i,j,rfl,rfl,q⟩:=h;obtain⟨t,rfl⟩:=c;obtain⟨e,rfl⟩:=b;exact PySem.P.le_str (aK I q (by simp))
theorem mi (c:List Bool):((List.range c.length).all λi=>c.getD i false)=c.all id:=by
 rw[uL,uW,uW]
 constructor
 ·intro h b d;obtain⟨i,a,rfl⟩:=List.mem_iff_getElem.mp d;have:=h i (by simpa using a);simpa [uX,a] using this
 ·intro h i a;have a:i<c.length:=by simpa using a
  have:=h c[i] (uV a);simpa [uX,a] using this
theorem qu {bs:List Bool}{its:LW}(r:Vals (bs.map V.bl) its) {i:Nat}(e:its[i]? = some v):v=.bool (bs.getD i false):=by
 have b:=r.length;rw[ub] at b;have c:i<bs.length:=by rw[b];exact(uh.mp e).1
 obtain⟨u,a,d⟩:=r.get (i:=i) (x:=V.bl (bs.getD i false)) (by rw[uC];simp[uX,c]);rw[e] at a;cases a;exact d
theorem jz (x:X.calm=true):bK X (.builtin "all") (λxs H Q=>∃p bs,xs=[.ref p]/\H p=some (.lst (List.map V.bl bs))/\Q (.bl (bs.all id)) H):=by
 intro k s D H xs E Q I r h;obtain⟨p,bs,rfl,e,q⟩:=h;obtain⟨u,rfl,t⟩:=bL r;cases t;obtain⟨F,a,n,m,g⟩:=(show ObjOk X.prog X.w H s.heap p (.lst (List.map V.bl bs)) from I.hok p _ e)
 have y:s.heap.IsList p a.toArray:=⟨_,g,rfl,n,rfl⟩
 have c:a.length=bs.length:=by have:=m.length;rw[ub] at this;exact this.symm
 have d:p<s.heap.objs.size:=ud g;refine call_all_walk (wpAny_pyIter_list y ?_);refine⟨s.heap.objs.size,[s.heap.objs.size,p],[s.heap.objs.size],a.toArray.size,_,_,λi=>bs.getD i false,rfl,
  Walks.list (A:=X.A.in1) (I.ok.hd x) _ p (um d) a.toArray,⟨⟨_,uw _ rfl,rfl,rfl⟩,⟨_,ui _ g,rfl,n,rfl⟩⟩,?_,λC J w=>?_⟩
 ·intro i v z G B f j;have f:a[i]? = some v:=by simpa using f
  rw[qu m f];exact uc j
 ·refine⟨.bl _,H,I.kept λb o l=>w b o (by simpa using um (ud l)) (ui _ l),rfl,?_⟩;rw[uj,c,mi];exact q
theorem kj:∀ {ys:LS}{us:LW}, Vals (ys.map V.str) us -> StrsAre us ys
 | [],us,r=>by cases r;exact .nil
 | y::ys,us,r=>by
  cases r with
  | cons r1 r2 =>
   obtain⟨t,rfl⟩:=r1;exact .cons y t (kj r2)
def pE:V->LV->Hp->VK->Prop:=λx xs H Q=>∃z p ys,x=.str z/\xs=[.ref p]/\H p=some (.lst (List.map V.str ys))/\(ys.map (·.length)).sum+ys.length * z.length<=16777216/\Q (.str (Txt.join z ys)) H
theorem qA:MtR X "str.join" pE:=by
 intro c s o H x m v r Q I f b h;obtain⟨z,p,i,rfl,rfl,e,l,q⟩:=h;obtain⟨t,rfl⟩:=f;obtain⟨u,rfl,d⟩:=bL b;cases d;obtain⟨_,a,n,b,j⟩:=(show ObjOk X.prog X.w H s.heap p (.lst (List.map V.str i)) from I.hok p _ e)
 exact join_list (D:=p) (items:=a.toArray) ⟨_,j,rfl,n,rfl⟩ (by simpa using kj b) l λg k=>⟨.str _,H,I.tok k,⟨g,rfl⟩,q⟩
def rSlS:V->Option Int->Option Int->Hp->VK->Prop:=λx lo hi H Q=>∃z,x=.str z/\z.length<=sizeLine/\Q (.str (Txt.slice z lo hi)) H
theorem rM:SlR X rSlS:=by
 intro b s r H x v B D y p C Q I w A n m h;obtain⟨z,rfl,f,q⟩:=h;obtain⟨t,rfl⟩:=w;refine⟨"str",_,PySem.F.slot_str_getitem.lookup,typeIs_str _ _ _,?_⟩;obtain⟨o,c,d,e⟩:=A;have a:∀g k,EP X b r Q (.str (Txt.slice z y p) g) { s with toks:=k }:=λg k=>⟨.str _,H,I.tok k,⟨g,rfl⟩,q⟩
 cases n with
 | none=>cases m with
  | none=>exact wpAny_getItem_str_slice (l:=none) (u:=none) (st:=none) ⟨o,c,d,e⟩ rfl (post_val_or_str ⟨uo (Txt.slice_le z _ _) f,a⟩)
  | int j tj=>exact wpAny_getItem_str_slice (l:=none) (u:=some (j,tj)) (st:=none) ⟨o,c,d,e⟩ rfl (post_val_or_str ⟨uo (Txt.slice_le z _ _) f,a⟩)
 | int i ti=>cases m with
  | none=>exact wpAny_getItem_str_slice (l:=some (i,ti)) (u:=none) (st:=none) ⟨o,c,d,e⟩ rfl (post_val_or_str ⟨uo (Txt.slice_le z _ _) f,a⟩)
  | int j tj=>exact wpAny_getItem_str_slice (l:=some (i,ti)) (u:=some (j,tj)) (st:=none) ⟨o,c,d,e⟩ rfl (post_val_or_str ⟨uo (Txt.slice_le z _ _) f,a⟩)
def sy (K:W.Frag) (c:String):LV->Hp->VK->Prop:=λxs H Q=>∃x t b,xs=[x,.ty c]/\TyOf K H x t/\W.kitOne K t (.type c)=some b/\Q (.bl b) H
theorem nZ (c:String):bK X (.builtin "isinstance") (sy X.K c):=by
 intro d s k H j l Q I r h;obtain⟨x,t,b,rfl,g,e,q⟩:=h;obtain⟨u,m,rfl,f,a⟩:=eU r;cases a;exact mX I f g e λi=>⟨.bl b,H,I.tok i,rfl,q⟩
def tQ:LV->Hp->VK->Prop:=λxs H Q=>∃x d,xs=[x]/\Rep H x d/\d.showable=true/\d.hasDict=false/\d.depth<=16/\d.shown.length<=sizeLine/\Q (.str d.shown) H
theorem gW (w:X.A.guards=some []) (D:X.A.units+64<cLine):bK X (.builtin "repr") tQ:=by
 intro g s o H z B Q I r h;obtain⟨x,d,rfl,j,k,m,p,l,q⟩:=h;obtain⟨u,rfl,f⟩:=bL r;have rd:=j.reads I.hok f;have c:∀a,u=.ref a->wpAny (model X.prog X.w) X.A (call (.builtin "repr") [.ref a]) (EP X g o Q) X.xe s:=λa e=>by
  subst e;obtain⟨C,rd⟩:=rd;exact repr_of_reads' rd k (PyData.noDict_hsm m) w (by omega) (λ_ _ e=>e) (λA v E n=>⟨.str _,H,I.kept n,⟨v,rfl⟩,q⟩) l
 cases j with
 | non=>cases f;exact PySem.P.repr_of_none ⟨.str _,H,I.tok _,⟨_,rfl⟩,q⟩
 | bl b=>cases f;exact PySem.P.repr_of_bool ⟨.str _,H,I.tok _,⟨_,rfl⟩,q⟩
 | int i =>
  obtain⟨t,rfl⟩:=f;exact PySem.P.repr_of_int (by simpa [PyData.showable] using k) ⟨.str _,H,I.tok _,⟨_,rfl⟩,q⟩
 | str y =>
  obtain⟨t,rfl⟩:=f;exact PySem.P.repr_of_str ⟨.str _,H,I.tok _,⟨_,rfl⟩,q⟩ l
 | lst e rs=>cases f;exact c _ rfl
 | tup e rs=>cases f;exact c _ rfl
def nE:V->Bool
 | .non | .bl _ | .int _ | .str _=>true
 | _=>false
def flD:V->PyData
 | .bl b=>.bool b
 | .int i=>.int i
 | .str x=>.str x
 | _=>.none
theorem nF (f:nE v=true) (r:RelV v u):Reads h u (flD v) []:=by
 cases v with
 | non=>cases r;exact .none
 | bl b=>cases r;exact .bool b
 | int i=>obtain⟨t,rfl⟩:=r;exact .int i t
 | str x=>obtain⟨t,rfl⟩:=r;exact .str x t
 | _=>cases f
theorem js:∀ {kvs:KV_}{vs:List (Key × Value)}{es:List DictEntry}, KV kvs vs -> Pairs (bv P w) es vs -> kvs.all (λp => nE p.2)=true ->
    ReadsAll h (es.map (·.key)) ((kvs.map λp=>(flD (kV p.1),flD p.2)).map (·.1)) []/\ReadsAll h (es.map (·.val)) ((kvs.map λp=>(flD (kV p.1),flD p.2)).map (·.2)) []
 | [],_,_,r,q,_=>by
  cases r;cases q;exact⟨.nil,.nil⟩
 | p :: kvs, vs, es, r, q, f => by
  cases r with
  | @cons _ b _ vs' r1 r2 =>
   cases q with
   | cons qk qv q2 =>
    rw[List.all_cons,uP] at f;obtain⟨a1,a2⟩:=js r2 q2 f.2
    rename_i en es'
    have k1:Reads h en.key (flD (kV p.1)) []:=by
     have hk:=qk;rw[<- r1.1] at hk;rcases bg hk with⟨i,t,e1,e2⟩ | ⟨x,t,e1,e2⟩
     ·rw[e1,e2];exact .int i t
     ·rw[e1,e2];exact .str x t
    have v1:Reads h en.val (flD p.2) []:=by
     rw[qv];exact nF f.1 r1.2
    exact⟨.cons k1 a1,.cons v1 a2⟩
def gm (kvs:KV_):PyData:=.dict (kvs.map λp=>(flD (kV p.1),flD p.2))
inductive ReprR (H:Hp):V->VK->Prop
 | tr {x:V} {d:PyData} {Q:VK}:Rep H x d->d.showable=true->d.hasDict=false->d.depth<=16->d.shown.length<=sizeLine->Q (.str d.shown) H->ReprR H x Q
 | dc {a:Addr} {kvs:KV_} {Q:VK}:H a=some (.dK kvs)->kvs.all (λp=>nE p.2)=true->(gm kvs).showable=true->(gm kvs).depth<=16->(gm kvs).shown.length<=sizeLine->Q (.str (gm kvs).shown) H->ReprR H (.ref a) Q
def nb:LV->Hp->VK->Prop:=λxs H Q=>∃x,xs=[x]/\ReprR H x Q
theorem lD (d:X.A.guards=some []) (z:X.A.units+64<cLine):bK X (.builtin "repr") nb:=by
 intro c s n H B p Q I r h;obtain⟨x,rfl,h⟩:=h;cases h with
 | tr rep hs hd hdp hz q=>exact gW d z c s n H _ p Q I r ⟨_,_,rfl,rep,hs,hd,hdp,hz,q⟩
 | @dc a kvs _ e f hs hdp hz q =>
  obtain⟨u,rfl,i⟩:=bL r;cases i;obtain⟨_,b,F,w,o,D,E,g,l,v,_,t,_⟩:=(show ObjOk X.prog X.w H s.heap a (.dK kvs) from I.hok a _ e)
  obtain⟨A,m⟩:=js (h:=s.heap) w t f;have rd:Reads s.heap (.ref a) (gm kvs) (a::[]++[]):=.dict g l.1 v A m;refine repr_of_reads' rd hs (λ_ j=>?_) d (by omega) (λ_ _ e=>e) (λC y G k=>⟨.str _,H,I.kept k,⟨y,rfl⟩,q⟩) hz;have:sysModules=a:=by simpa using j
  rw[this] at b;simp at b
theorem eJ (ok:HOk P w H h):∀ {xs:LV}{ds:List PyData}{us:LW}, RepAll H xs ds -> Vals xs us -> PyData.canLayAll0 ds=true -> us.any (λu => PyData.eqv (SeqAt.readOf h u) d)=ds.any λe => PyData.eqv e d
 | _,_,_,.nil,r,_=>by cases r;rfl
 | _,_,_,.cons q qs,r,hl=>by
  cases r with
  | cons r1 r2 =>
   have hl':=Bool.and_eq_true_iff.mp (show (PyData.canLay0 _&&PyData.canLayAll0 _)=true from hl);obtain⟨as,z⟩:=q.reads ok r1;rw[u9,u9,SeqAt.readOf_eq hl'.1 z,eJ ok qs r2 hl'.2]
theorem eP {P:Program}{w:World}{H:Hp}{A:Around}{s:Shared}(ok:HOk P w H s.heap) {d:PyData}{x:V}{v:Value}{bs:List Addr}(zx:Reads s.heap v d bs) (hd:d.canLay0=true) (hu:A.units+d.depth<cLine) :
    ∀ {xs:LV} {ds:List PyData} {us:LW},RepAll H xs ds->Vals xs us->PyData.canLayAll0 ds=true->∀u∈us,SeqAt.EqAt A s u v (PyData.eqv (SeqAt.readOf s.heap u) d)
 | _,_,_,.nil,r,_=>by cases r;intro u hu;cases hu
 | _, _, _, .cons q qs, r, hl => by
  cases r with
  | cons r1 r2 =>
   have hl':=Bool.and_eq_true_iff.mp (show (PyData.canLay0 _&&PyData.canLayAll0 _)=true from hl);intro u hm;rcases uf.mp hm with rfl | hm
   ·obtain⟨as,z⟩:=q.reads ok r1;rw[SeqAt.readOf_eq hl'.1 z];exact SeqAt.eqAt_reads _ _ _ _ _ _ _ _ z zx hl'.1 hd (Nat.lt_of_le_of_lt (Nat.add_le_add_left (Nat.min_le_right _ _) _) hu)
   ·exact eP (x:=x) ok zx hd hu qs r2 hl'.2 u hm
def qX (neg:Bool):R2:=λx y H Q=>∃p xs ds d,y=.ref p/\H p=some (.lst xs)/\RepAll H xs ds/\Rep H x d/\PyData.canLayAll0 ds=true/\d.canLay0=true/\d.depth<=16 /\
 Q (.bl (if neg then !(ds.any λe=>PyData.eqv e d) else ds.any λe=>PyData.eqv e d)) H
theorem sv (C:X.A.units+64<cLine):OpR X (compareOp .In) (qX false):=by
 intro b s A H x y v u Q I l m h;obtain⟨p,j,z,d,rfl,e,f,r,g,c,dp,q⟩:=h;cases m;obtain⟨_,a,n,i,t⟩:=(show ObjOk X.prog X.w H s.heap p (.lst j) from I.hok p _ e)
 obtain⟨B,o⟩:=r.reads I.hok l;refine SeqAt.in_listAt (λu=>PyData.eqv (SeqAt.readOf s.heap u) d) ⟨_,t,rfl,n,rfl⟩ (λw k=>eP (x:=x) I.hok o c (by show X.A.units+1+d.depth<cLine;omega) f i g w (by simpa using k)) ⟨.bl _,H,I,rfl,?_⟩;rw[show a.toArray.any (λu=>PyData.eqv (SeqAt.readOf s.heap u) d)=a.any (λu=>PyData.eqv (SeqAt.readOf s.heap u) d) by simp,eJ I.hok f i g];exact q
theorem nj (C:X.A.units+64<cLine):OpR X (compareOp .NotIn) (qX true):=by
 intro b s A H x y v u Q I l m h;obtain⟨p,j,z,d,rfl,e,f,r,g,c,dp,q⟩:=h;cases m;obtain⟨_,a,n,i,t⟩:=(show ObjOk X.prog X.w H s.heap p (.lst j) from I.hok p _ e)
 obtain⟨B,o⟩:=r.reads I.hok l;refine SeqAt.notIn_listAt (λu=>PyData.eqv (SeqAt.readOf s.heap u) d) ⟨_,t,rfl,n,rfl⟩ (λw k=>eP (x:=x) I.hok o c (by show X.A.units+1+d.depth<cLine;omega) f i g w (by simpa using k)) ⟨.bl _,H,I,rfl,?_⟩;rw[show a.toArray.any (λu=>PyData.eqv (SeqAt.readOf s.heap u) d)=a.any (λu=>PyData.eqv (SeqAt.readOf s.heap u) d) by simp,eJ I.hok f i g];exact q
end
structure Cal (P:Program) (w:World) (K:W.Frag) (mg:MS) (base:Heap) (k:Nat) (x:Str) (ps:LS) (sp:Sp):Prop where
 ex:∃(f:Addr) (fd:FuncData),FnOk P w K mg base CX0 k f fd ps sp/\mg x=some (.ref f)/\W.keepIn K (.ref f)=true/\Binds K fd ps []
section
variable {X:Cx}{x:Str}{ps:LS}{sp:Sp}{k j:Nat}{p pos:Pos}{e:Expr}{es:List Expr}{t:TA}
theorem am (c:Cal X.prog X.w X.K X.mg X.base k x ps sp) (d:Room k X.A) (h:Gl X x) (a:PA X (e::es) t)
    (j:starEach (e::es) X.env=(false,eval e X.env)::starEach es X.env:=by rfl) (hpl:(backTo pos (starEach es X.env)).any (·.1)=false:=by rfl) (hdb:(x==("__debug__":Str))=false:=by decide) :
    PE X (.Call (.Name x p) (e::es) [] pos) (py sp [] E0 t):=by
 obtain⟨f,l,G,g,i,b⟩:=c.ex;exact qd G d h g i b .nil tO a (hdb:=hdb) (he:=j) (hpl:=hpl)
end
section
variable {X:Cx}
inductive AddR (H:Hp):V->V->VK->Prop
 | int {i j:Int} {Q:VK}:Q (.int (i+j)) H->AddR H (.int i) (.int j) Q
 | str {i j:Str} {Q:VK}:i.length+j.length<=sizeLine->Q (.str (i++j)) H->AddR H (.str i) (.str j) Q
 | lst {l b:Addr} {xs zs:LV} {Q:VK}:H l=some (.lst xs)->H b=some (.lst zs)->xs.length+zs.length<=sizeLine->(∀p,H p=none->Q (.ref p) (upd H p (.lst (xs++zs))))->AddR H (.ref l) (.ref b) Q
theorem aJ:OpR X (binaryOp .Add) (λx y H Q=>AddR H x y Q):=by
 intro a s c H x y v u Q I d b h;cases h with
 | int q=>exact rZ a s c H _ _ v u Q I d b ⟨_,_,rfl,rfl,q⟩
 | str hz q=>exact lv a s c H _ _ v u Q I d b ⟨_,_,rfl,rfl,hz,q⟩
 | lst h1 h2 hz q=>exact rJ a s c H _ _ v u Q I d b ⟨_,_,_,_,rfl,rfl,h1,h2,hz,q⟩
inductive EqR (neg:Bool) (H:Hp):V->V->VK->Prop
 | sc {x y:V} {Q:VK}:nO x y=true->Q (.bl (if neg then !decide (x=y) else decide (x=y))) H->EqR neg H x y Q
 | tr {x y:V} {da db:PyData} {Q:VK}:Rep H x da->Rep H y db->shp da->shp db->Q (.bl (if neg then !PyData.eqv da db else PyData.eqv da db)) H->EqR neg H x y Q
theorem aW (e:X.A.units+64<cLine):OpR X (compareOp .Eq) (λx y H Q=>EqR false H x y Q):=by
 intro a s c H x y v u Q I d b h;cases h with
 | sc h q=>exact tU a s c H _ _ v u Q I d b ⟨h,q⟩
 | tr ra rb sa sb q=>exact rm e a s c H _ _ v u Q I d b ⟨_,_,ra,rb,sa,sb,q⟩
theorem cu (e:X.A.units+64<cLine):OpR X (compareOp .NotEq) (λx y H Q=>EqR true H x y Q):=by
 intro a s c H x y v u Q I d b h;cases h with
 | sc h q=>exact tw a s c H _ _ v u Q I d b ⟨h,q⟩
 | tr ra rb sa sb q=>exact rR e a s c H _ _ v u Q I d b ⟨_,_,ra,rb,sa,sb,q⟩
inductive SlX (K:W.Frag) (H:Hp):V->Option Int->Option Int->VK->Prop
 | str {z:Str} {lo hi:Option Int} {Q:VK}:z.length<=sizeLine->Q (.str (Txt.slice z lo hi)) H->SlX K H (.str z) lo hi Q
 | lst {a:Addr} {xs:LV} {lo hi:Option Int} {Q:VK}:SqL K H a xs->(∀p,H p=none->Q (.ref p) (upd H p (.lst (dk xs lo hi))))->SlX K H (.ref a) lo hi Q
theorem sl_X:SlR X (λx lo hi H Q=>SlX X.K H x lo hi Q):=by
 intro a s e H x v b j lo hi d Q I f g c i h;cases h with
 | str hz q=>exact rM a s e H _ v b j lo hi d Q I f g c i ⟨_,rfl,hz,q⟩
 | lst h1 q=>exact qe a s e H _ v b j lo hi d Q I f g c i ⟨_,_,rfl,h1,q⟩
end
section
variable {X:Cx}
inductive CmR (f:Int->Int->Bool) (g:Str->Str->Bool) (H:Hp):V->V->VK->Prop
 | int {i j:Int} {Q:VK}:Q (.bl (f i j)) H->CmR f g H (.int i) (.int j) Q
 | str {i j:Str} {Q:VK}:Q (.bl (g i j)) H->CmR f g H (.str i) (.str j) Q
theorem gI:OpR X (compareOp .LtE) (λx y H Q=>CmR (λi j=>decide (i<=j)) (λi j=>!decide (j.cps.toList<i.cps.toList)) H x y Q):=by
 intro a s c H x y v u Q I d b h;cases h with
 | int q=>exact tZ a s c H _ _ v u Q I d b ⟨_,_,rfl,rfl,q⟩
 | str q=>exact mE a s c H _ _ v u Q I d b ⟨_,_,rfl,rfl,q⟩
theorem cG:OpR X (compareOp .Lt) (λx y H Q=>CmR (λi j=>decide (i<j)) (λi j=>decide (i.cps.toList<j.cps.toList)) H x y Q):=by
 intro a s c H x y v u Q I d b h;cases h with
 | int q=>exact tH a s c H _ _ v u Q I d b ⟨_,_,rfl,rfl,q⟩
 | str q=>exact mm a s c H _ _ v u Q I d b ⟨_,_,rfl,rfl,q⟩
inductive IsB (neg:Bool) (H:Hp):V->V->VK->Prop
 | int {i:Int} {b:Bool} {Q:VK}:Q (.bl neg) H->IsB neg H (.int i) (.bl b) Q
 | bl {c b:Bool} {Q:VK}:Q (.bl (if neg then !decide (c=b) else decide (c=b))) H->IsB neg H (.bl c) (.bl b) Q
 | non {x:V} {Q:VK}:Q (.bl (if neg then !decide (x=.non) else decide (x=.non))) H->IsB neg H x .non Q
theorem dO:OpR X (compareOp .IsNot) (λx y H Q=>IsB true H x y Q):=by
 intro a s f H x y v u Q I e d h;cases h with
 | int q =>
  obtain⟨t,rfl⟩:=e;cases d;exact wpAny_isNot_other (by rfl) (by intro z;cases z) ⟨.bl _,H,I,rfl,q⟩
 | @bl c b _ q =>
  cases e;cases d;exact wpAny_isNot_plain (by rfl) (aK I q (by cases c <;> cases b <;> rfl))
 | non q=>exact pP a s f H _ _ v u Q I e d ⟨rfl,q⟩
theorem qS:OpR X (compareOp .Is) (λx y H Q=>IsB false H x y Q):=by
 intro a s f H x y v u Q I e d h;cases h with
 | int q =>
  obtain⟨t,rfl⟩:=e;cases d;exact wpAny_is_other (by rfl) (by intro z;cases z) ⟨.bl _,H,I,rfl,q⟩
 | @bl c b _ q =>
  cases e;cases d;exact wpAny_is_plain (by rfl) (aK I q (by cases c <;> cases b <;> rfl))
 | non q=>exact rk a s f H _ _ v u Q I e d ⟨rfl,q⟩
theorem fm (K:W.Frag) (i:PE X o to) (f:PA X [e] t)
    (c:attributeBase o "join" X.env (eval o X.env)=eval o X.env:=by rfl)
    (d:((backTo cpos (starEach [e] X.env)).all (λx=>!x.1)&&(backToKw cpos (keywordEach [] X.env)).all (λx=>x.1.isSome)
     && decide ([e].length+([]:List Keyword).length+(if ([]:List Keyword).isEmpty then 0 else 1)<30))=true:=by rfl)
    (b:(apos.endLine==cpos.line)=true:=by rfl) (h:starEach [e] X.env=(false,eval e X.env)::starEach [] X.env:=by rfl) (a:(backTo cpos (starEach [] X.env)).any (·.1)=false:=by rfl) (g:X.K=K:=by rfl) :
    PE X (.Call (.Attribute o "join" apos) [e] [] cpos) (tBM K "str" pE to t):=g ▸ gF PySem.F.plainAttrs_str PySem.F.slot_str_join PySem.F.type_str_join qA i f c d b h a
theorem dC (K:W.Frag) (i:PE X o to) (f:PA X [e] t)
    (c:attributeBase o "append" X.env (eval o X.env)=eval o X.env:=by rfl)
    (d:((backTo cpos (starEach [e] X.env)).all (λx=>!x.1)&&(backToKw cpos (keywordEach [] X.env)).all (λx=>x.1.isSome)
     && decide ([e].length+([]:List Keyword).length+(if ([]:List Keyword).isEmpty then 0 else 1)<30))=true:=by rfl)
    (b:(apos.endLine==cpos.line)=true:=by rfl) (h:starEach [e] X.env=(false,eval e X.env)::starEach [] X.env:=by rfl) (a:(backTo cpos (starEach [] X.env)).any (·.1)=false:=by rfl) (g:X.K=K:=by rfl) :
    PE X (.Call (.Attribute o "append" apos) [e] [] cpos) (tBM K "list" kc to t):=g ▸ gF PySem.F.plainAttrs_list PySem.F.slot_list_append PySem.F.type_list_append hY i f c d b h a
theorem cX (K:W.Frag) (a:X.K=K:=by rfl):SlR X (λx lo hi H Q=>SlX K H x lo hi Q):=a ▸ sl_X
theorem bG (K:W.Frag) (a:PE X l tl) (b:X.K=K:=by rfl):PI X tg l (pd K tl):=b ▸ pL a
theorem fO (K:W.Frag) (a:PE X l tl) (b:X.K=K:=by rfl):PI X tg l (sF K tl):=b ▸ rN a
end
theorem cJ {i:Nat}{A B:SH}(h:A (σ.set i (some v)) H):fD i v σ H λσ2 G=>ri σ2 G λb z=>if b=true then A σ2 z else B σ2 z:=by
 show (if true=true then A (σ.set i (some v)) H else B (σ.set i (some v)) H);rw[if_pos rfl];exact h
section
variable {K:W.Frag}{k:Nat}{fr:List Nat}{g:TG}{tc:TT}{te:TE}{σ:St}{H1:Hp}{Q:VK}
theorem dm (xs:LV) (f:Hp -> Prop) (j:∀i H, f H -> i<xs.length -> J.go i H) (r:∀i H x H', f H -> i<xs.length -> J.yld i H x H' -> H'=H /\ xs[i]? = some x) (o:∀H, f H -> J.stop xs.length H)
    (c:Addr->Nat->LV->SH)
    (h:∀D,H1 D=none->c D 0 [] (dJ k fr σ) (upd H1 D (.lst []))/\(∀i z σ' H',i<=xs.length->c D i z σ' H'->H' D=some (.lst z)->f H') /\
     (∀i z σ' H' x,xs[i]? = some x->c D i z σ' H'->H' D=some (.lst z)->g x σ' H' λσ2 O=>tc σ2 O λb G =>
      if b=true then te σ2 G λy I=>I D=some (.lst z)/\z.length<sizeLine/\c D (i+1) (z++[y]) σ2 (upd I D (.lst (z++[y]))) else G D=some (.lst z)/\c D (i+1) z σ2 G) /\
     ∀z σ' H',c D xs.length z σ' H'->H' D=some (.lst z)->Q (.ref D) H'):dL k fr g tc te J σ H1 Q:=by
 intro D t;obtain⟨C,q,B,u⟩:=h D t;refine⟨λi m z σ' H'=>m=xs.length-i/\i<=xs.length/\c D i z σ' H',⟨xs.length,by simp,uu _,C⟩,?_⟩;rintro i m z σ' H' ⟨rfl,v,p⟩ a;have n:=q i z σ' H' v p a;by_cases d:i<xs.length
 ·refine .inr ⟨j i H' n d,c D (i+1),λs σ2 l w=>⟨xs.length-(i+1),by omega,rfl,d,w⟩,λx l y=>?_⟩;obtain⟨e,A⟩:=r i H' x l n d y;subst e;exact B i z σ' l x A p a
 ·have e:i=xs.length:=by omega
  subst e;exact .inl ⟨o H' n,u z σ' H' p a⟩
def cY (n:Nat):LV:=(List.range n).map λi=>V.int (0+(i:Nat))
theorem cT (f:Addr -> Nat -> LV -> St -> Hp -> Prop)
    (h:∀D,H1 D=none->f D 0 [] (dJ k fr σ) (upd H1 D (.lst [])) /\
     (∀i z σ' H',i<n->f D i z σ' H'->H' D=some (.lst z)->g (.int (0+(i:Nat))) σ' H' λσ2 J=>tc σ2 J λb G =>
      if b=true then te σ2 G λy I=>I D=some (.lst z)/\z.length<sizeLine/\f D (i+1) (z++[y]) σ2 (upd I D (.lst (z++[y]))) else G D=some (.lst z)/\f D (i+1) z σ2 G) /\
     ∀z σ' H',f D n z σ' H'->H' D=some (.lst z)->Q (.ref D) H'):dL k fr g tc te (Itr 0 n) σ H1 Q:=by
 have j:(cY n).length=n:=by simp[cY]
 refine dm (cY n) (λ_=>True) (λi H _ d=>by rw[j] at d;exact d) (λi H x H' _ d y=>⟨y.1,?_⟩) (λH _=>by show n<=(cY n).length;rw[j];exact ua _) f λD o=>?_
 ·rw[j] at d;rw[y.2];simp[cY,d]
 ·obtain⟨a,b,c⟩:=h D o;refine⟨a,λ_ _ _ _ _ _ _=>trivial,λi z σ' H' x m p l=>?_,by rw[j];exact c⟩;have d:i<n:=by rw[<- j];exact(uh.mp m).1
  have e:x=V.int (0+(i:Nat)):=by
   simp[cY,d] at m;rw[<- m];simp
  subst e;exact b i z σ' H' d p l
theorem cr (xs:LV) (c:Addr -> Nat -> LV -> St -> Hp -> Prop)
    (h:∀D,H1 D=none->c D 0 [] (dJ k fr σ) (upd H1 D (.lst []))/\(∀i z σ' H',i<=xs.length->c D i z σ' H'->H' D=some (.lst z)->SqL K H' a xs) /\
     (∀i z σ' H' x,xs[i]? = some x->c D i z σ' H'->H' D=some (.lst z)->g x σ' H' λσ2 J=>tc σ2 J λb G =>
      if b=true then te σ2 G λy I=>I D=some (.lst z)/\z.length<sizeLine/\c D (i+1) (z++[y]) σ2 (upd I D (.lst (z++[y]))) else G D=some (.lst z)/\c D (i+1) z σ2 G) /\
     ∀z σ' H',c D xs.length z σ' H'->H' D=some (.lst z)->Q (.ref D) H'):dL k fr g tc te (Itl K a) σ H1 Q :=
 dm xs (λH=>SqL K H a xs) (λi H q d=>⟨xs,xs[i],q,by simp[d]⟩) (λi H x H' q d y=>⟨y.1,y.2 xs q⟩) (λH q=>⟨xs,q,ua _⟩) c h
theorem eT (xs:LV) (c:Addr -> Nat -> LV -> St -> Hp -> Prop)
    (h:∀D,H1 D=none->c D 0 [] (dJ k fr σ) (upd H1 D (.lst []))/\(∀i z σ' H',i<=xs.length->c D i z σ' H'->H' D=some (.lst z)->SqT K H' a xs) /\
     (∀i z σ' H' x,xs[i]? = some x->c D i z σ' H'->H' D=some (.lst z)->g x σ' H' λσ2 J=>tc σ2 J λb G =>
      if b=true then te σ2 G λy I=>I D=some (.lst z)/\z.length<sizeLine/\c D (i+1) (z++[y]) σ2 (upd I D (.lst (z++[y]))) else G D=some (.lst z)/\c D (i+1) z σ2 G) /\
     ∀z σ' H',c D xs.length z σ' H'->H' D=some (.lst z)->Q (.ref D) H'):dL k fr g tc te (Itt K a) σ H1 Q :=
 dm xs (λH=>SqT K H a xs) (λi H q d=>⟨xs,xs[i],q,by simp[d]⟩) (λi H x H' q d y=>⟨y.1,y.2 xs q⟩) (λH q=>⟨xs,q,ua _⟩) c h
def ed (z:Str):LV:=z.cps.toList.map λc=>V.str ⟨#[c]⟩
theorem iP (d:Addr -> Nat -> LV -> St -> Hp -> Prop)
    (h:∀D,H1 D=none->d D 0 [] (dJ k fr σ) (upd H1 D (.lst [])) /\
     (∀i G σ' H' c,z.cps.toList[i]? = some c->d D i G σ' H'->H' D=some (.lst G)->g (.str ⟨#[c]⟩) σ' H' λσ2 O=>tc σ2 O λb I =>
      if b=true then te σ2 I λy J=>J D=some (.lst G)/\G.length<sizeLine/\d D (i+1) (G++[y]) σ2 (upd J D (.lst (G++[y]))) else I D=some (.lst G)/\d D (i+1) G σ2 I) /\
     ∀G σ' H',d D z.cps.toList.length G σ' H'->H' D=some (.lst G)->Q (.ref D) H'):dL k fr g tc te (Its z) σ H1 Q:=by
 have m:(ed z).length=z.cps.toList.length:=by simp[ed]
 refine dm (ed z) (λ_=>True) (λi H _ l=>by rw[m] at l;show i<z.cps.size;simpa using l) (λi H x H' _ l y=>⟨y.1,?_⟩) (λH _=>by show z.cps.size<=(ed z).length;rw[m];simp) d λD o=>?_
 ·have n:=y.2;unfold sgV at n;simp only[ed,uC,Array.getElem?_toList];exact n
 ·obtain⟨a,b,c⟩:=h D o;refine⟨a,λ_ _ _ _ _ _ _=>trivial,λi G σ' H' x f p j=>?_,by rw[m];exact c⟩;simp only[ed,uC] at f;cases e:z.cps.toList[i]? with
  | none=>rw[e] at f;cases f
  | some cc =>
   rw[e] at f;cases f;exact b i G σ' H' cc e p j
end
def But (p:Addr) (H H':Hp):Prop:=∀b o,b≠p->H b=some o->H' b=some o
theorem But.refl (p:Addr) (H:Hp):But p H H:=λ_ _ _ h=>h
theorem But.trans (a:But p H H1) (b:But p H1 H2):But p H H2:=λc o n h=>b c o n (a c o n h)
theorem But.upd:But p H (upd H p o):=λb a n h=>by rw[aj n];exact h
theorem But.of_same (s:Same H H'):But p H H':=λb o _ h=>s b o h
theorem Same.new (h:H p=none):Same H (upd H p o):=λb a e=>by rw[aj (ak e h)];exact e
theorem Rd.but (b:But p H H') (n:a≠p) (h:Rd H a u):Rd H' a u:=by
 rcases h with h | ⟨o,h⟩
 ·exact .inl (b _ _ n h)
 ·exact .inr ⟨o,b _ _ n h⟩
theorem SqL.but {K:W.Frag}{p:Addr}{H H':Hp}(b:But p H H') {a:Addr}{xs:LV}(n:a≠p) (h:SqL K H a xs):SqL K H' a xs:=by
 rcases h with h | h
 ·exact .inl (h.but b n)
 ·exact .inr h
structure Blt (mg:MS):Prop where
 len:mg "len"=none
 range:mg "range"=none
 abs:mg "abs"=none
 all:mg "all"=none
 repr:mg "repr"=none
 isinstance:mg "isinstance"=none
 str:mg "str"=none
 int:mg "int"=none
 bool:mg "bool"=none
 enumerate:mg "enumerate"=none
 list:mg "list"=none
 tuple:mg "tuple"=none
 dict:mg "dict"=none
 min:mg "min"=none
 max:mg "max"=none
section
variable {X:Cx}{p pos:Pos}{e f:Expr}{t:TA}
def rLen (K:W.Frag):LV->Hp->VK->Prop:=λxs H Q=>∃x n,xs=[x]/\oK K x H n/\Q (.int n) H
def rAbs:LV->Hp->VK->Prop:=λxs H Q=>∃i,xs=[.int i]/\Q (.int (if i<0 then -i else i)) H
def rAll:LV->Hp->VK->Prop:=λxs H Q=>∃p bs,xs=[.ref p]/\H p=some (.lst (List.map V.bl bs))/\Q (.bl (bs.all id)) H
theorem bb (K:W.Frag) (B:Blt X.mg) (b:PA X [e] t) (a:Gl X "len":=by rfl) (he:starEach [e] X.env=(false,eval e X.env)::starEach [] X.env:=by rfl) (hpl:(backTo pos (starEach [] X.env)).any (·.1)=false:=by rfl) (c:X.K=K:=by rfl):PE X (.Call (.Name "len" p) [e] [] pos) (tCB (rLen K) t) :=
 c ▸ bJ oB a B.len PySem.boot_len b (by decide) (by decide) he hpl
theorem li (B:Blt X.mg) (b:PA X [e] t) (a:Gl X "abs":=by rfl) (he:starEach [e] X.env=(false,eval e X.env)::starEach [] X.env:=by rfl) (hpl:(backTo pos (starEach [] X.env)).any (·.1)=false:=by rfl):PE X (.Call (.Name "abs" p) [e] [] pos) (tCB rAbs t) :=
 bJ oy a B.abs boot_abs b (by decide) (by decide) he hpl
theorem fK (c:X.calm=true) (B:Blt X.mg) (b:PA X [e] t) (a:Gl X "all":=by rfl) (he:starEach [e] X.env=(false,eval e X.env)::starEach [] X.env:=by rfl) (hpl:(backTo pos (starEach [] X.env)).any (·.1)=false:=by rfl):PE X (.Call (.Name "all" p) [e] [] pos) (tCB rAll t) :=
 bJ (jz c) a B.all boot_all b (by decide) (by decide) he hpl
theorem mq (gd:X.A.guards=some []) (c:X.A.units+64<cLine) (B:Blt X.mg) (b:PA X [e] t) (a:Gl X "repr":=by rfl) (he:starEach [e] X.env=(false,eval e X.env)::starEach [] X.env:=by rfl) (hpl:(backTo pos (starEach [] X.env)).any (·.1)=false:=by rfl):PE X (.Call (.Name "repr" p) [e] [] pos) (tCB nb t) :=
 bJ (lD gd c) a B.repr boot_repr b (by decide) (by decide) he hpl
theorem dg (K:W.Frag) (c:String) (B:Blt X.mg) (b:PA X [e,f] t) (a:Gl X "isinstance":=by rfl) (he:starEach [e,f] X.env=(false,eval e X.env)::starEach [f] X.env:=by rfl) (hpl:(backTo pos (starEach [f] X.env)).any (·.1)=false:=by rfl) (d:X.K=K:=by rfl):PE X (.Call (.Name "isinstance" p) [e,f] [] pos) (tCB (sy K c) t) :=
 d ▸ bJ (nZ c) a B.isinstance boot_isinstance b (by decide) (by decide) he hpl
theorem iA (B:Blt X.mg) (a:Gl X "str":=by rfl):PE X (.Name "str" p) (tC (.ty "str")):=dv a B.str PyProof.Rows.boot_str rfl
theorem pF (B:Blt X.mg) (a:Gl X "int":=by rfl):PE X (.Name "int" p) (tC (.ty "int")):=dv a B.int PyProof.Rows.boot_int rfl
theorem rF (B:Blt X.mg) (a:Gl X "bool":=by rfl):PE X (.Name "bool" p) (tC (.ty "bool")):=dv a B.bool PyProof.Rows.boot_bool rfl
theorem fv (B:Blt X.mg) (a:Gl X "list":=by rfl):PE X (.Name "list" p) (tC (.ty "list")):=dv a B.list (show bootBuiltins "list"=some (.type "list") by decide +kernel) rfl
end
end L2
namespace L2
open PySem PySem.Spec PyProof.Rows PySem.Builtin PySem.Builtin.Str
def Asc (z:Str):Prop:=∀c∈z.cps.toList,c<128
theorem aI (x y:Str):(x++y).length=x.length+y.length:=by
 show (x.cps++y.cps).size=x.cps.size+y.cps.size;rw[Array.size_append]
theorem de (a:Str) (b:LS):(Txt.join a b).length<=(b.map (·.length)).sum+b.length * a.length:=by
 unfold Txt.join;rw[size_glued];exact Nat.add_le_add_left (vy _ (Nat.sub_le _ _)) _
theorem rL {ys:LS}{n:Nat}(h:∀y∈ys,y.length<=n):(ys.map (·.length)).sum<=ys.length * n:=by
 induction ys with
 | nil=>simp
 | cons y r ih =>
  have c:=h y (by simp);have b:=ih λz a=>h z (ur _ a);simp only[uG,List.sum_cons,uv];rw[Nat.succ_mul];omega
theorem tI {α:Type}{xs:List α}{j:Int}(b:0<=j) (c:j<xs.length):∃v,atI xs j=some v/\v∈xs:=by
 obtain⟨k,rfl⟩:=uH b;have a:k<xs.length:=by omega
 exact⟨xs[k],aN (by simp[a]),uV a⟩
theorem sW {ns:List Int}{j:Int}(b:0<=j) (a:j<(ns.map V.int).length):∃c,atI (ns.map V.int) j=some (.int c):=by
 obtain⟨v,e,m⟩:=tI b a;obtain⟨c,_,rfl⟩:=uD.mp m;exact⟨c,e⟩
theorem ie (x:Int):-(2 ^ 64)<x % 2147483647/\x % 2147483647<2 ^ 64:=by
 have b:=va x (show (2147483647:Int)≠0 by decide);have a:=vp x (show (0:Int)<2147483647 by decide);omega
def PenV (H:Hp) (p a:Addr):Prop:=∃(i n:Int),H p=some (.lst [.ref a,.int i,.int n])/\0<=i/\0<=n
def Pen (K:W.Frag) (H:Hp) (p a:Addr):Prop:=(∃ns:List Int,∀H',But p H H'->SqL K H' a (ns.map V.int))/\PenV H p a
theorem Pen.but {K:W.Frag}{H H':Hp}{p a:Addr}(h:Pen K H p a) (b:But p H H') (v:PenV H' p a):Pen K H' p a:=⟨let ⟨c,q⟩:=h.1;⟨c,λe d=>q e (b.trans d)⟩,v⟩
theorem Pen.new {K:W.Frag}{H:Hp}{p a:Addr}{ns:List Int}{o:HO}(h:SqL K H a (ns.map V.int)) (d:H p=none) (v:PenV (upd H p o) p a):Pen K (upd H p o) p a := by
 refine⟨⟨ns,λj b=>?_⟩,v⟩;rcases h with h | h
 ·have n:a≠p:=by
     rcases h with h | ⟨i,h⟩
     ·exact ak h d
     ·exact ak h d
  have s:Same H (upd H p o):=Same.new d;exact SqL.but (λc f g e=>b c f g (s c f e)) n (.inl h)
 ·exact .inr h
theorem PenV.upd (h:PenV H p a) (n:p≠D):PenV (L2.upd H D o) p a:=let ⟨i,m,e,q⟩:=h;⟨i,m,by rw[aj n];exact e,q⟩
theorem PenV.ne (h:PenV H p a) (e:H D=none):p≠D:=let ⟨_,_,q,_⟩:=h;ak q e
theorem But.at (b:But p H H') (a:H D=none):But p H (L2.upd H' D o):=λc d n h=>by rw[aj (ak h a)];exact b c d n h
theorem But.of_eq (h:∀b,b≠p->H' b=H b):But p H H':=λb o n e=>(h b n).trans e
theorem But.free (b:But p H H') (n:D≠p) (h:H' D=none):H D=none:=by
 cases e:H D with
 | none=>rfl
 | some o=>rw[b D o n e] at h;cases h
def cV (K:W.Frag):Sp:=λvs H Q _=>∃(p a:Addr) (m:Int),vs=[.ref p,.int m]/\Pen K H p a/\0<m/\m<1073741824/\∀r H',0<=r->r<m->PenV H' p a->(∀b,b≠p->H' b=H b)->Q (.int r) H'
end L2
namespace L2
open PySem PySem.Spec PyProof.Rows
section
variable {X:Cx}
inductive InR (K:W.Frag) (neg:Bool) (H:Hp):V -> V -> VK -> Prop
 | dic {a:Addr} {y:V} {o:Option V} {Q:VK}:DGet H a y o->Q (.bl (if neg then !o.isSome else o.isSome)) H->InR K neg H y (.ref a) Q
 | seq {p:Addr} {x:V} {xs:LV} {Q:VK}:(SqL K H p xs∨SqT K H p xs)->cP x=true->xs.all cP=true->Q (.bl (if neg then !inV x xs else inV x xs)) H->InR K neg H x (.ref p) Q
 | tr {p:Addr} {x:V} {xs:LV} {ds:List PyData} {d:PyData} {Q:VK}:H p=some (.lst xs)->RepAll H xs ds->Rep H x d->PyData.canLayAll0 ds=true->d.canLay0=true->d.depth<=16 ->
     Q (.bl (if neg then !(ds.any λe=>PyData.eqv e d) else ds.any λe=>PyData.eqv e d)) H->InR K neg H x (.ref p) Q
theorem fA (K:W.Frag) (i:X.A.units+64<cLine) (k:X.K=K:=by rfl):OpR X (compareOp .In) (λx y H Q=>InR K false H x y Q):=by
 subst k;intro a s f H x y v u Q I d b h;cases h with
 | dic g q =>
  cases b;exact d_in (by omega) I g d λl j=>⟨.bl _,H,j,rfl,q⟩
 | seq hq fx fs q=>exact mr a s f H _ _ v u Q I d b ⟨_,_,rfl,hq,fx,fs,q⟩
 | tr e rs r cs c dp q=>exact sv i a s f H _ _ v u Q I d b ⟨_,_,_,_,rfl,e,rs,r,cs,c,dp,q⟩
theorem fg (K:W.Frag) (i:X.A.units+64<cLine) (k:X.K=K:=by rfl):OpR X (compareOp .NotIn) (λx y H Q=>InR K true H x y Q):=by
 subst k;intro a s f H x y v u Q I d b h;cases h with
 | dic g q =>
  cases b;exact qG (by omega) I g d λl j=>⟨.bl _,H,j,rfl,q⟩
 | seq hq fx fs q=>exact jq a s f H _ _ v u Q I d b ⟨_,_,rfl,hq,fx,fs,q⟩
 | tr e rs r cs c dp q=>exact nj i a s f H _ _ v u Q I d b ⟨_,_,_,_,rfl,e,rs,r,cs,c,dp,q⟩
inductive IxX (K:W.Frag) (H:Hp):V->V->VK->Prop
 | lst {p:Addr} {xs:LV} {i:Int} {v:V} {Q:VK}:SqL K H p xs->atI xs i=some v->Q v H->IxX K H (.ref p) (.int i) Q
 | tup {p:Addr} {xs:LV} {i:Int} {v:V} {Q:VK}:SqT K H p xs->atI xs i=some v->Q v H->IxX K H (.ref p) (.int i) Q
 | str {z:Str} {i:Int} {c:Nat} {Q:VK}:z.length<=sizeLine->atI z.cps.toList i=some c->Q (.str ⟨#[c]⟩) H->IxX K H (.str z) (.int i) Q
 | dic {a:Addr} {y v:V} {Q:VK}:DGet H a y (some v)->Q v H->IxX K H (.ref a) y Q
theorem aG (K:W.Frag) (n:X.A.units+64<cLine) (m:X.K=K:=by rfl):IxR X (λx y H Q=>IxX K H x y Q):=by
 subst m;intro a b c s k H x y v u Q I f d h i;cases h with
 | lst hq e q=>exact pV a b c s k H _ _ v u Q I f d ⟨_,_,_,_,rfl,rfl,hq,e,q⟩ i
 | tup hq e q=>exact sL a b c s k H _ _ v u Q I f d ⟨_,_,_,_,rfl,rfl,hq,e,q⟩ i
 | str hz e q=>exact rP a b c s k H _ _ v u Q I f d ⟨_,_,_,rfl,rfl,hz,e,q⟩ i
 | dic g q =>
  cases f;exact tail_any (jA I g) PySem.F.slot_dict_getitem.lookup (mH (by omega) I g d λp o l j=>⟨_,H,l,j,q⟩) i
inductive SetX (H:Hp):V->V->V->(Hp->Prop)->Prop
 | lst {p:Addr} {xs:LV} {k:Int} {j:Nat} {v:V} {Q:Hp->Prop}:H p=some (.lst xs)->ixN xs.length k=some j->Q (upd H p (.lst (xs.set j v)))->SetX H (.ref p) (.int k) v Q
 | dic {a:Addr} {y v:V} {H':Hp} {Q:Hp->Prop}:DPut H a y v H'->Q H'->SetX H (.ref a) y v Q
theorem cB (m:X.A.units+64<cLine):oa X (λo i v H Q=>SetX H o i v Q):=by
 intro a s k H o i v j f u Q I b c d h;cases h with
 | lst e ej q=>exact og a s k H _ _ _ j f u Q I b c d ⟨_,_,_,_,rfl,rfl,e,ej,q⟩
 | dic g q =>
  cases b;exact mQ (by omega) I g c d λn l=>⟨_,l,q⟩
theorem cN (K:W.Frag) (b:X.calm=true) (h:PGs X es t)
    (d:(assignEach es X.env).length=n:=by rfl) (a:(assignEach es X.env).findIdx? (·.1)=none:=by rfl) (c:X.K=K:=by rfl):PG X (.Tuple es k pos) (qU K n t):=c ▸ rW b h d a
variable {p pos p2 pos2:Pos}{e f:Expr}{t:TA}
end
section
variable {X:Cx}{p pos p2 pos2:Pos}{e f:Expr}{t:TA}
def pi (K:W.Frag):LV->Hp->VK->Prop:=λxs H Q=>∃a ys,xs=[.ref a]/\SqL K H a ys/\∀l,H l=none->Q (.ref l) (upd H l (.tup ys))
theorem kr (K:W.Frag) (B:Blt X.mg) (c:PA X [e] t) (i:Gl X "tuple":=by rfl) (he:starEach [e] X.env=(false,eval e X.env)::starEach [] X.env:=by rfl) (hpl:(backTo pos (starEach [] X.env)).any (·.1)=false:=by rfl) (g:X.K=K:=by rfl) :
    PE X (.Call (.Name "tuple" p) [e] [] pos) (tCB (pi K) t):=by
 subst g;refine dh (r:=pi X.K) (λb s f H l k Q I r h=>?_) i B.tuple (show bootBuiltins "tuple"=some (.type "tuple") by decide +kernel) c (by decide) (by decide) he hpl;obtain⟨a,d,rfl,j,q⟩:=h;exact dj b s f H _ k Q I r ⟨a,d,rfl,.inl ⟨j,q⟩⟩
inductive LstR (K:W.Frag) (H:Hp):V->VK->Prop
 | seq {a:Addr} {ys:LV} {Q:VK}:(SqL K H a ys∨SqT K H a ys)->(∀l,H l=none->Q (.ref l) (upd H l (.lst ys)))->LstR K H (.ref a) Q
 | rng {a:Addr} {n:Nat} {Q:VK}:H a=some (.rng 0 (n:Int))->n<=1000->(∀l,H l=none->Q (.ref l) (upd H l (.lst (cY n))))->LstR K H (.ref a) Q
def sH (K:W.Frag):LV->Hp->VK->Prop:=λxs H Q=>∃x,xs=[x]/\LstR K H x Q
theorem oS (c:its.length=n) (h:∀i v, its[i]? = some v -> ∃t, v=Value.int (0+(i:Nat) * 1) t):Vals (cY n) its := by
 subst c;have b:∀(its:LW) (k:Nat), (∀i v, its[i]? = some v -> ∃t, v=Value.int (0+((k+i:Nat):Int)) t) -> Vals ((List.range' k its.length).map λi => V.int (0+(i:Nat))) its := by
  intro its
  induction its with
  | nil=>intro k _;exact .nil
  | cons u r ih =>
   intro k h;rw[uv,List.range'_succ,uG];refine .cons ?_ (ih (k+1) λi v e=>?_)
   ·obtain⟨t,e⟩:=h 0 u rfl;exact⟨t,by rw[e,Nat.add_zero]⟩
   ·obtain⟨t,a⟩:=h (i+1) v (by simpa using e);exact⟨t,by rw[a,show ((k+(i+1):Nat):Int)=((k+1+i:Nat):Int) by omega]⟩
 have:=b its 0 λi v e=>by
  obtain⟨t,a⟩:=h i v e;exact⟨t,by rw[a,Int.mul_one,Nat.zero_add]⟩
 rw[cY,List.range_eq_range'];exact this
theorem si (K:W.Frag) (y:X.calm=true) (B:Blt X.mg) (C:PA X [e] t) (D:Gl X "list":=by rfl) (he:starEach [e] X.env=(false,eval e X.env)::starEach [] X.env:=by rfl) (hpl:(backTo pos (starEach [] X.env)).any (·.1)=false:=by rfl) (l:X.K=K:=by rfl) :
    PE X (.Call (.Name "list" p) [e] [] pos) (tCB (sH K) t):=by
 subst l;refine dh (r:=sH X.K) (λc s k H E m Q I r h=>?_) D B.list (show bootBuiltins "list"=some (.type "list") by decide +kernel) C (by decide) (by decide) he hpl;obtain⟨x,rfl,h⟩:=h;cases h with
 | seq hq q=>exact jr c s k H _ m Q I r ⟨_,_,rfl,hq,q⟩
 | @rng a n _ ea hn q =>
  obtain⟨u,rfl,g⟩:=bL r;cases g;obtain⟨L,G,J,w⟩:=(show ObjOk X.prog X.w H s.heap a (.rng 0 (n:Int)) from I.hok a _ ea)
  refine call_list_range (n:=n) (I.ok.hd y) w (small_one (by decide) (by decide) (by omega) (by omega)) (by rw[rangeSize_one];split <;> omega) (by omega) λF M b A j z d=>?_;have f:Vals (cY n) b.toList:=oS (by simpa using d.1) λi v e=>d.2 i v (by simpa using e);refine⟨.ref _,_,I.laid (o:=.lst (cY n)) j (ua _) ⟨?_,b.toList,A,f,by simpa using z⟩,rfl,q _ (I.hok.fresh (ua _))⟩;have:(cY n).length=n:=by simp[cY]
  rw[this];exact uO (az hn)
theorem tD (c:X.calm=true) (B:Blt X.mg) (b:PA X [e,f] t) (a:Gl X "min":=by rfl) (he:starEach [e,f] X.env=(false,eval e X.env)::starEach [f] X.env:=by rfl) (hpl:(backTo pos (starEach [f] X.env)).any (·.1)=false:=by rfl) :
    PE X (.Call (.Name "min" p) [e,f] [] pos) (tCB (λxs H Q=>∃i j,xs=[.int i,.int j]/\Q (.int (if j<i then j else i)) H) t) :=
 bJ (lY c) a B.min (show bootBuiltins "min"=some (.builtin "min") by decide +kernel) b (by decide) (by decide) he hpl
theorem sR {its:LW}{k:Nat}{x:Int}(a:x=(k:Int)) (b:k<=its.length) :
    (λxs:Array Value=>have k:=if x<0 then (x+(xs.size:Int)).toNat else min x.toNat xs.size;(xs.extract 0 k).push u++xs.extract k) its.toArray=(its.take k++u::its.drop k).toArray:=by
 subst a;simp only[uj];rw[if_neg (by omega),vk,Nat.min_eq_left b];simp[List.extract_eq_drop_take];exact uB (by rw[vm];omega)
def jQ:V->LV->Hp->VK->Prop:=λx vs H Q=>∃l xs i k y,x=.ref l/\vs=[.int i,y]/\i=((k:Nat):Int)/\H l=some (.lst xs)/\k<=xs.length/\xs.length<sizeLine/\Q .non (upd H l (.lst (xs.take k++y::xs.drop k)))
theorem mB:MtR X "list.insert" jQ:=by
 intro c s D H x L v E Q I p w h;obtain⟨l,B,i,k,y,rfl,rfl,o,f,C,J,q⟩:=h;cases p;obtain⟨K,d,rfl,u,g⟩:=eU w;obtain⟨t,rfl⟩:=u;obtain⟨z,a,n,r,G,e⟩:=I.lstM f;have A:a.length<=sizeLine:=by omega
 have b:Builtin.List.listFitsIndex i=true:=by
  have m:i<2 ^ 63:=by have:=eg;omega
  exact fitsIndex_both (by omega) m
 have j:=PySem.AutoSeq1.list_insert_list_int_val_1 l a.toArray n i t d (by simp[b]) (by rw[uj];exact A);refine call_meets F.slot_list_insert ⟨_,e,rfl⟩ F.entry_list_insert (F.args_list_insert_3 _ _ _) j ⟨e,?_⟩;refine⟨.non,_,I.lset (its':=a.take k++d::a.drop k) f e (sR o (by omega)) (Vals.append (r.take k) (.cons g (r.drop k))) ?_,rfl,q⟩;simp only[uA,uv,uM,vm];omega
theorem iM (K:W.Frag) (j:PE X o to) (g:PA X [e, f] t)
    (c:attributeBase o "insert" X.env (eval o X.env)=eval o X.env:=by rfl)
    (d:((backTo cpos (starEach [e,f] X.env)).all (λx=>!x.1)&&(backToKw cpos (keywordEach [] X.env)).all (λx=>x.1.isSome)
     && decide ([e,f].length+([]:List Keyword).length+(if ([]:List Keyword).isEmpty then 0 else 1)<30))=true:=by rfl)
    (b:(apos.endLine==cpos.line)=true:=by rfl) (i:starEach [e,f] X.env=(false,eval e X.env)::starEach [f] X.env:=by rfl) (a:(backTo cpos (starEach [f] X.env)).any (·.1)=false:=by rfl) (h:X.K=K:=by rfl) :
    PE X (.Call (.Attribute o "insert" apos) [e,f] [] cpos) (tBM K "list" jQ to t):=h ▸ gF PySem.F.plainAttrs_list PySem.F.slot_list_insert PySem.F.type_list_insert mB j g c d b i a
end
def Nm (s:Str):Prop:=1<=s.length/\s.length<=8/\∀c∈s.cps.toList,97<=c/\c<=122
theorem Nm.asc (h:Nm s):Asc s:=λc a=>by have:=h.2.2 c a;omega
def aL (e:Str × Str):PyData:=.tuple [.str e.1,.str e.2]
def dX (ss:LS) (ts:List (Str × Str)):PyData:=.tuple [.tuple (ss.map .str),.tuple (ts.map aL)]
section
variable {H H':Hp}
theorem Rep.tupI (h:Rep H v (.tuple ds)):∃a xs,v=.ref a/\H a=some (.tup xs)/\RepAll H xs ds:=by
 cases h with
 | tup e r=>exact⟨_,_,rfl,e,r⟩
theorem Rep.strI (h:Rep H v (.str s)):v=.str s:=by cases h;rfl
theorem RepAll.nilI (h:RepAll H xs []):xs=[]:=by cases h;rfl
theorem RepAll.consI (h:RepAll H xs (d::ds)):∃y ys,xs=y::ys/\Rep H y d/\RepAll H ys ds:=by
 cases h with
 | cons a b=>exact⟨_,_,rfl,a,b⟩
theorem RepAll.strs:∀ {xs:LV}{ss:LS},RepAll H xs (ss.map PyData.str)->xs=ss.map V.str
 | _,[],h=>by rw[h.nilI];rfl
 | _,s::ss,h=>by
  obtain⟨y,ys,rfl,a,b⟩:=RepAll.consI h;rw[a.strI,RepAll.strs b];rfl
theorem RepAll.of_strs:∀(ss:LS),RepAll H (ss.map V.str) (ss.map PyData.str)
 | []=>.nil
 | s::ss=>.cons (.str s) (RepAll.of_strs ss)
theorem RepAll.len (h:RepAll H xs ds):xs.length=ds.length:=by
 induction ds generalizing xs with
 | nil=>rw[h.nilI];rfl
 | cons d ds ih =>
  obtain⟨y,c,rfl,a,b⟩:=h.consI;simp[ih b]
theorem RepAll.get {xs:LV}{ds:List PyData}(h:RepAll H xs ds) {i:Nat}(e:xs[i]? = some x):∃d,ds[i]? = some d/\Rep H x d:=by
 induction ds generalizing xs i with
 | nil=>rw[h.nilI] at e;simp at e
 | cons d ds ih =>
  obtain⟨y,c,rfl,a,b⟩:=h.consI;cases i with
  | zero=>simp at e;subst e;exact⟨d,rfl,a⟩
  | succ i=>simpa using ih b (by simpa using e)
theorem RepAll.append (h:RepAll H xs ds) (g:RepAll H ys es):RepAll H (xs++ys) (ds++es):=by
 induction ds generalizing xs with
 | nil=>rw[h.nilI];exact g
 | cons d ds ih =>
  obtain⟨y,c,rfl,a,b⟩:=h.consI;exact .cons a (ih b)
theorem jP (h:Rep H v (aL e)):∃a,v=.ref a/\H a=some (.tup [.str e.1,.str e.2]):=by
 obtain⟨a,g,rfl,b,r⟩:=Rep.tupI h;obtain⟨y,j,rfl,c,r⟩:=r.consI;obtain⟨z,i,rfl,d,r⟩:=r.consI;have f:=RepAll.nilI r;subst f;rw[c.strI,d.strI] at b;exact⟨a,rfl,b⟩
theorem bM (h:H a=some (.tup [.str s,.str t])):Rep H (.ref a) (aL (s,t)):=.tup h (.cons (.str _) (.cons (.str _) .nil))
theorem rg (h:Rep H v (dX G I)):∃q a b xs,v=.ref q/\H q=some (.tup [.ref a,.ref b])/\H a=some (.tup (G.map V.str))/\H b=some (.tup xs)/\RepAll H xs (I.map aL):=by
 obtain⟨q,r,rfl,p,e⟩:=Rep.tupI h;obtain⟨y,u,rfl,j,g⟩:=e.consI;obtain⟨z,t,rfl,d,f⟩:=g.consI;obtain⟨a,s,rfl,n,l⟩:=Rep.tupI j;obtain⟨b,c,rfl,i,k⟩:=Rep.tupI d;have o:=RepAll.nilI f;subst o;have m:=RepAll.strs l;subst m;exact⟨q,a,b,c,rfl,p,n,i,k⟩
end
theorem fk (h:Nm s):PyData.canLay0 (.str s)=true:=by
 show (s.cps.all (·<0x110000))=true;rw[<- Array.all_toList,uW];intro c a;have:=h.2.2 c a;exact ug (by omega)
theorem fQ:∀(ts:LS) (k:Nat) (acc:Str), (∀t ∈ ts, t.length <= n) -> (textFrom k acc ts).length <= acc.length+ts.length * (n+2)
 | [],k,acc,_=>by show acc.length<=acc.length+0 * _;omega
 | t::r,k,acc,h=>by
  have h1:=fQ r (k+1) (acc++(if k > 0 then ", " else "":String)++t) λu hu=>h u (ur _ hu);have h2:=h t (by simp);have e:(acc++(if k > 0 then ", " else "":String)++t).length<=acc.length+2+t.length:=by
   rw[aI,aI];have:(Str.ofString (if k > 0 then ", " else "":String)).length<=2:=by split <;> decide
   show acc.length+(Str.ofString (if k > 0 then ", " else "":String)).length+t.length<=_;omega
  show (textFrom (k+1) (acc++(if k > 0 then ", " else "":String)++t) r).length<=acc.length+(r.length+1) * (n+2);rw[Nat.succ_mul];omega
theorem Nm.repr (h:Nm s):(reprText s).length<=82:=by
 have:=StrLaws.reprText_len s λc a=>Nat.lt_trans (h.asc c a) (by decide);have:=h.2.1;omega
structure Shw (d:PyData):Prop where
 sh:shp d
 sb:d.showable=true
 hd:d.hasDict=false
 dp:d.depth<=16
 ln:d.shown.length<=sizeLine
theorem dz {K:W.Frag}{a:Addr}{xs:LV}{g:TG}{tb:TS}{D:Ends}{σ:St}{H:Hp}(Pv:Nat -> St -> Hp -> Prop) (n:Pv 0 σ H) (l:∀i σ H, i <= xs.length -> Pv i σ H -> SqL K H a xs)
    (k:∀i x σ H p,xs[i]? = some x->Pv i σ H->H p=none->g (.ref p) σ (upd H p (.tup [.int i,x])) λσ2 H2=>tb { D with nx:=Pv (i+1),ct:=Pv (i+1),bk:=D.nx } σ2 H2) (h:∀σ H,Pv xs.length σ H->D.nx σ H) :
    ∃W:Nat->Nat->SH,(∃m,W 0 m σ H)/\∀i m σ H,W i m σ H ->
     ((Ite K a).stop i H/\D.nx σ H)∨((Ite K a).go i H/\∃N:SH,(∀σ' H',N σ' H'->∃G,G<m/\W (i+1) G σ' H')/\∀x H',(Ite K a).yld i H x H'->g x σ H' λσ2 H2=>tb { D with nx:=N,ct:=N,bk:=D.nx } σ2 H2):=by
 refine⟨λi m σ H=>m=xs.length-i/\i<=xs.length/\Pv i σ H,⟨xs.length,by simp,uu _,n⟩,?_⟩;rintro i m σ H ⟨rfl,c,p⟩;have q:=l i σ H c p;by_cases b:i<xs.length
 ·refine .inr ⟨⟨xs,xs[i],q,by simp[b]⟩,Pv (i+1),λσ' H' j=>⟨xs.length-(i+1),by omega,rfl,b,j⟩,λx H' y=>?_⟩;obtain⟨r,z,f,rfl,d,rfl⟩:=y;exact k i z σ H r (d xs q) p f
 ·have e:i=xs.length:=by omega
  subst e;exact .inl ⟨⟨xs,q,ua _⟩,h σ H p⟩
theorem cO (s:Same H H') (h:H' b=none):H b=none:=by
 cases q:H b with
 | none=>rfl
 | some o=>rw[s _ _ q] at h;cases h
theorem bx (s:Same H H') (h:H b=none):Same H (upd H' b o):=λc d a=>by
 rw[aj (ak a h)];exact s _ _ a
theorem kh (s:Same H H') (v:PenV H p a):PenV H' p a:=let ⟨i,m,e,q⟩:=v;⟨i,m,s _ _ e,q⟩
end L2
namespace MG
section
variable {α:Type} [DecidableEq α]
def ix:List α->α->Nat
 | [],_=>0
 | a::r,x=>if a=x then 0 else ix r x+1
end
variable {es:List (Nat × Nat)}
end MG
namespace L2
open PySem PySem.Spec PyProof.Rows
theorem cR:∀ts:List (Str × Str),(∀e∈ts,Nm e.1/\Nm e.2)->PyData.canLayAll0 (ts.map aL)=true
 | [],_=>rfl
 | e::ts,h=>by
  show (PyData.canLay0 (aL e)&&PyData.canLayAll0 (ts.map aL))=true;rw[cR ts λx hx=>h x (ur _ hx)];have:=h e (by simp);show ((PyData.canLay0 (.str e.1)&&(PyData.canLay0 (.str e.2)&&true))&&true)=true;rw[fk this.1,fk this.2];rfl
open PySem.AutoSeq1 (wpAny_loadPart')
section
variable {prog:Program}{w:World}{A:Around}{E:QS}{s:Shared}
theorem kZ (c:s.heap.IsTupleIter G z i) (e:s.heap.IsTuple z its) (h:its[i]? = some y)
    (j:∀h',h'.IsTupleIter G z (i+1)->Heap.SameBut G s.heap h'->Q y { s with heap:=h' }):wpAny (model prog w) A (Builtin.SmallTypes.nextOf (.ref G)) Q E s:=by
 obtain⟨k,a,f,b⟩:=id c;obtain⟨m,d,_,l,g⟩:=e;unfold Builtin.SmallTypes.nextOf;refine me (wpAny_callSpecial?_slot (name:=Str.ofString "__next__") c.typeIs F.slot_tuple_iterator_next (wpAny_call_entry F.slot_tuple_iterator_next c.typeIs F.entry_tuple_iterator_next ?_ (F.args_tuple_iterator_next_1 _)));show wpAny _ _ (field (.ref G) 0 >>= _) _ _ s;refine me (uK a b (x:=.ref z) rfl ?_);show wpAny _ _ (if (Value.ref z==Value.none)=true then _ else _) _ _ s;rw[if_neg (show ¬ ((Value.ref z==Value.none)=true) from uz)];show wpAny _ _ (field (.ref G) 1 >>= _) _ _ s;refine me (uK a b (x:=.int i 0) rfl (me (wpAny_seqItems d g ?_)));simp only[vk,h];refine me (wpAny_setField a b (by simp) (uc ⟨y,rfl,uc (j _ ?_ (Heap.SameBut.update ..))⟩));exact⟨_,vn _ a (Obj.isFreed_of_fields (Obj.data_mapFields b _)),(Obj.cls_mapFields ..).trans f,by rw[Obj.data_mapFields b];simp[rawInt]⟩
theorem hF (h:A.handled=none) (c:s.heap.IsTupleIter G z i) (g:s.heap.IsTuple z its) (l:its[i]? = none)
    (k:∀h' e,Heap.ExtBut G s.heap h'->(∃o,h'.get? e=some o/\o.cls=.type "StopIteration")->E (.ref e) { s with heap:=h' }):wpAny (model prog w) A (Builtin.SmallTypes.nextOf (.ref G)) Q E s:=by
 obtain⟨p,b,n,d⟩:=id c;obtain⟨r,f,_,q,j⟩:=g;unfold Builtin.SmallTypes.nextOf;refine me (wpAny_callSpecial?_slot (name:=Str.ofString "__next__") c.typeIs F.slot_tuple_iterator_next (wpAny_call_entry F.slot_tuple_iterator_next c.typeIs F.entry_tuple_iterator_next ?_ (F.args_tuple_iterator_next_1 _)));show wpAny _ _ (field (.ref G) 0 >>= _) _ _ s;refine me (uK b d (x:=.ref z) rfl ?_);show wpAny _ _ (if (Value.ref z==Value.none)=true then _ else _) _ _ s;rw[if_neg (show ¬ ((Value.ref z==Value.none)=true) from uz)];show wpAny _ _ (field (.ref G) 1 >>= _) _ _ s;refine me (uK b d (x:=.int i 0) rfl (me (wpAny_seqItems f j ?_)));simp only[vk,l];refine me (wpAny_rule (me (wpAny_setField b d (by simp) ?_)));show wpAny _ _ (newExc (.type "StopIteration") [] >>= _) _ _ _;refine me ?_;simp only[newExc,newTuple];refine me (wpAny_newObj_type (me (m:=firstArgMember _ _) (wpAny_of_eq (a:=Value.none) (by first | rfl | (simp only[firstArgMember];rfl)) ?_)) (by size_fits));refine wpAny_newObj_type ?_ (by size_fits);simp only[raiseNew];refine me (wpAny_handled ?_)
 first | rw[show A.in1.handled=none from h] | rw[h]
 refine me (uc (wpAny_throw (k _ _ (((Heap.SameBut.update ..).extBut.push _).push _) ⟨_,uw _ rfl,rfl⟩)))
theorem su (hh:A.handled=none) (jt tt:Addr) (hne:tt≠jt) (its:Array Value) :
    Draws prog w A jt [jt,tt] its.size (λi y=>its[i]? = some y) (λi h=>h.IsTupleIter jt tt i/\h.IsTuple tt its) where
 live:=λi h st=>let ⟨o,e,_⟩:=st.1;⟨o,e⟩
 frame:=λi h h' st k=>⟨let ⟨o,e,r⟩:=st.1;⟨o,k jt (by simp) o e,r⟩,let ⟨o,e,r⟩:=st.2;⟨o,k tt (by simp) o e,r⟩⟩
 item:=λi s Q E hi st hQ=>kZ st.1 st.2 (y:=its[i]) (by simp[hi]) λh' j' sb=>hQ _ h' s.toks (by simp[hi]) ⟨j',st.2.extBut sb.extBut hne⟩ sb
 done:=λs Q E st hE=>hF hh st.1 st.2 (by simp) hE
set_option maxHeartbeats 1000000 in
theorem jD (l:Addr) (its:Array Value) (n:Nat) (dct:Option Addr) (sl:Array (OV)) :
    Meets (Builtin.«enumerate.__new__» ⟨[.type "enumerate",.ref l],[]⟩) (λ_ R s=>s.heap.get? l=some { cls:=.type "tuple",dict:=dct,data:=.seq its n,slots:=sl } /\
     R (.ok (.ret (.ref (s.heap.push { cls:=.type "tuple_iterator",data:=.fields #[.ref l,.int 0 0] }).objs.size)))
      { s with heap:=(s.heap.push { cls:=.type "tuple_iterator",data:=.fields #[.ref l,.int 0 0] }).push { cls:=.type "enumerate",data:=.fields #[.none,.bool false,.ref s.heap.objs.size,rawInt 0,.none,.none] } }) :=
 .of_wp λf w A R s h => by
  obtain⟨j,k,g,i,b⟩:=s;obtain⟨a,h⟩:=h;have e:=sub_enumerate;have d:Heap.IsTuple (Shared.heap ⟨j,k,g,i,b⟩) l its:=⟨_,a,rfl,n,rfl⟩
  wp_walk using wpAny_loadPart' a
  refine wpAny_stack_any λm=>uc ?_
  split
  ·rename_i c _ _ _ _ _
   cases (c==Value.type "enumerate")
   ·wp_walk using wpAny_loadPart' a,wpAny_pyIter_tuple d
    exact⟨_,rfl,h⟩
   ·wp_walk using wpAny_loadPart' a,wpAny_pyIter_tuple d
    exact⟨_,rfl,h⟩
  ·wp_walk using wpAny_loadPart' a,wpAny_pyIter_tuple d
   exact⟨_,rfl,h⟩
theorem kX (m:s.heap.IsTuple l its)
    (h:∀h',IsEnum h' (s.heap.objs.size+1) s.heap.objs.size 0 .none->h'.IsTupleIter s.heap.objs.size l 0->(∀b o,s.heap.get? b=some o->h'.get? b=some o)->Q (.ref (s.heap.objs.size+1)) { s with heap:=h' }) :
    wpAny (model prog w) A (call (.type "enumerate") [.ref l]) Q E s:=by
 obtain⟨⟨c,a,k,j⟩,p,d,n,e⟩:=m
 replace d:c=.type "tuple":=d
 replace e:k=.seq its n:=e
 subst d e;refine callType_new F.called_enumerate (by decide) (F.typeCall_enumerate_1 _) (F.newCall_enumerate_1 _) (λf=>F.args_object_init_2 f _) F.entry_enumerate_new (jD l its n a j) ⟨p,?_⟩;have g:(s.heap.push { cls:=.type "tuple_iterator",data:=.fields #[.ref l,.int 0 0] }).objs.size=s.heap.objs.size+1:=Heap.size_push ..;show _/\_;rw[g];have i:IsEnum ((s.heap.push { cls:=.type "tuple_iterator",data:=.fields #[.ref l,.int 0 0] }).push { cls:=.type "enumerate",data:=.fields #[.none,.bool false,.ref s.heap.objs.size,rawInt 0,.none,.none] }) (s.heap.objs.size+1) s.heap.objs.size 0 .none:=by
  have:=uw (s.heap.push { cls:=.type "tuple_iterator",data:=.fields #[.ref l,.int 0 0] }) (o:={ cls:=.type "enumerate",data:=.fields #[.none,.bool false,.ref s.heap.objs.size,rawInt 0,.none,.none] }) rfl;rw[g] at this;exact this
 exact⟨⟨_,i,rfl⟩,h _ i ⟨_,ui _ (uw _ rfl),rfl,rfl⟩ λb o x=>ui _ (ui _ x)⟩
end
def ji (K:W.Frag) (a:Addr):It :=
 ⟨λi H=>∃xs x,SqT K H a xs/\xs[i]? = some x,λi H v H'=>∃p x,H p=none/\v=.ref p/\(∀xs,SqT K H a xs->xs[i]? = some x)/\H'=upd H p (.tup [.int i,x]),λi H=>∃xs,SqT K H a xs/\xs.length<=i⟩
theorem lB {P:Program}{w:World}{K:W.Frag}{elts:List Expr}{k:Nat}{tp:Pos}(a e it:Addr) (hne:e ≠ it) :
    Turn P w K (.Tuple elts k tp) (ji K a) [e,it] e (λi h=>(∃old,IsEnum h e it i old)/\h.IsTupleIter it a i) where
 mem:=by simp
 obj:=λi h st b hb=>by
  obtain⟨⟨old,he⟩,hit⟩:=st;have hb:b=e∨b=it:=by simpa using hb
  rcases hb with z | z
  ·subst z;exact⟨_,he,λv z=>by cases z⟩
  ·subst z;obtain⟨o,e1,c,d⟩:=hit;exact⟨o,e1,λv z=>by rw[d] at z;cases z⟩
 keep:=λi h h' st kk=>by
  obtain⟨⟨old,he⟩,hit⟩:=st;exact⟨⟨old,kk e (by simp) _ he⟩,let ⟨o,q,r⟩:=hit;⟨o,kk it (by simp) o q,r⟩⟩
 item := by
  intro X hP hw hK hc i pins s σ H E I hf st hg;subst hP hw hK;obtain⟨⟨old,he⟩,hit⟩:=st;obtain⟨xs,x,hq,hx⟩:=hg;obtain⟨its,rv,p,hz⟩:=I.tuple hq;obtain⟨u,hu,ru⟩:=rv.get hx;obtain⟨f0,f1,f2,f3,f4,f5⟩:=hf e (by simp);obtain⟨g0,g1,g2,g3,g4,g5⟩:=hf it (by simp);have hel:e<s.heap.objs.size:=ud he;have hil:it<s.heap.objs.size:=by obtain⟨o,q,_⟩:=hit;exact ud q
  have hae:a≠e:=λz=>by
   obtain⟨o,q,c,_⟩:=p;rw[z,he] at q;cases q;simp at c
  have hai:a≠it:=λz=>by
   obtain⟨o,q,c,_⟩:=p;obtain⟨o',q',c',_⟩:=hit;rw[z,q'] at q;cases q;rw[c] at c';simp at c'
  have hul:=(uh.mp hu).1;refine wpAny_pyNext_enum_itemD (su (A:=X.A.in1) (show X.A.in1.handled=none from I.ok.hd hc) it a hai its.toArray) he ⟨hit,p⟩ (by simpa using hul) hne (by simp[hne,Ne.symm hae]) λu' h1 tk hu' ho hit1 ht1 hz1 k1=>?_;have eu:u'=u:=by
   have:its[i]? = some u':=by simpa using hu'
   rw[hu] at this;exact(ue this).symm
  subst eu;refine⟨_,rfl,wpAny_letOwnedTupleGo_enum ho λh2 he2 sb2=>?_⟩;have sb2:Heap.SameBut e h1 h2:=sb2;have T2:h2.get? s.heap.objs.size=some { cls:=.type "tuple",data:=.seq #[.int i tk,u'] }:=(sb2.2 _ (Nat.ne_of_gt hel)).trans ht1;have hp:H s.heap.objs.size=none:=I.hok.fresh (ua _);have nit:∀b v,H b=some v->b≠e/\b≠it:=λb v q=>⟨λz=>(by rw[z,f0] at q;cases q),λz=>(by rw[z,g0] at q;cases q)⟩
  have kk:∀b o,b≠e->b≠it->s.heap.get? b=some o->h2.get? b=some o:=λb o n1 n2 q=>(sb2.2 b n1).trans (k1 b o n1 n2 q);have up:∀b v,H b=some v->upd H s.heap.objs.size (.tup [.int i,x]) b=some v:=λb v q=>by rw[aj (ak q hp)];exact q
  have I1:Inv X pins σ (upd H s.heap.objs.size (.tup [.int i, x])) { s with heap := h2, gens := s.gens, drawn := s.drawn, toks := tk+1 } := by
   refine I.step (g':=s.gens) (d':=s.drawn) (ch:=[e,it]) (λb hb=>?_) (λb o _ _ hb q _=>kk b o (λz=>hb (by simp[z])) (λz=>hb (by simp[z])) q) (λb o _ _ hb q _=>⟨o.slots,kk b o (λz=>hb (by simp[z])) (λz=>hb (by simp[z])) q⟩) (λb o _ q n=>?_)
    (λb o hb q=>⟨o,kk b o (λz=>hb (by simp[z])) (λz=>hb (by simp[z])) q⟩) (λb ys q=>up b _ q) (λb o v q=>up b _ q) (λb ps q=>⟨#[],by rw[up b _ q];simp⟩) (λm hm=>?_) (λb v q=>?_) I.bare
   ·have hb:b=e∨b=it:=by simpa using hb
    rcases hb with z | z
    ·subst z;exact⟨f3,f1,f4,f5⟩
    ·subst z;exact⟨g3,g1,g4,g5⟩
   ·rw[aj (um (ud q))];exact n
   ·obtain⟨o,es,ep,ho,r⟩:=hm;exact⟨o,es,ep,kk _ o (Ne.symm f1) (Ne.symm g1) ho,r⟩
   ·by_cases hb:b=s.heap.objs.size
    ·subst hb;rw[ah] at q;have q':HO.tup [V.int i,x]=v:=ue q;subst q';exact⟨by show 2<=sizeLine;decide,[.int i tk,u'],.cons ⟨_,rfl⟩ (.cons ru .nil),⟨_,T2,rfl,_,rfl,rfl⟩⟩
    ·rw[aj hb] at q;refine(I.hok b v q).stay (λc v' hc q'=>?_) (λc q=>up c _ q) λc ys q=>up c _ q;rcases hc with z | z
     ·rw[z] at q' ⊢;exact kk b v' (nit b v q).1 (nit b v q).2 q'
     ·exact kk c v' (nit c _ z).1 (nit c _ z).2 q'
  refine⟨.ref s.heap.objs.size,upd H s.heap.objs.size (.tup [.int i,x]),I1,rfl,⟨_,x,hp,rfl,λys hy=>by rw[I.tuple_inj hy hq];exact hx,rfl⟩,⟨⟨u',?_⟩,?_⟩,λb hb=>?_⟩
  ·exact(by simpa using he2)
  ·obtain⟨o,q,r⟩:=hit1.1;exact⟨o,(sb2.2 it (Ne.symm hne)).trans q,r⟩
  ·have hb:b=e∨b=it:=by simpa using hb
   rcases hb with z | z
   ·rw[z,aj (um hel)];exact f0
   ·rw[z,aj (um hil)];exact g0
 done:=by
  intro X hP hw hK hc i pins s σ H E I hf st hg;subst hP hw hK;obtain⟨⟨old,he⟩,hit⟩:=st;obtain⟨xs,hq,hx⟩:=hg;obtain⟨its,rv,p,hz⟩:=I.tuple hq;obtain⟨g0,g1,g2,g3,g4,g5⟩:=hf it (by simp);have hl:=rv.length;have hT:s.TypeIs (.ref e) "enumerate":=⟨_,he,rfl⟩
  unfold pyNext;refine me (wpAny_attempt (wpAny_callSpecial?_slot (name:=Str.ofString "__next__") hT F.slot_enumerate_next (wpAny_call_entry F.slot_enumerate_next hT F.entry_enumerate_next ?_ (F.args_enumerate_next_1 _))));show wpAny _ _ (field (.ref e) 2 >>= _) _ _ _;refine me (uK he rfl (x:=.ref it) rfl (me (hF (I.ok.hd hc) hit p (by simp;omega) λh' x he' hx'=>?_)));obtain⟨o,ho,hc'⟩:=hx';refine me (wpAny_isInstance (T:="StopIteration") (b:=true) ⟨o,ho,hc'⟩ isSubtype_stop ?_);exact uc ⟨rfl,I.turned (t':=s.toks) (λb o hb q=>he' b o hb q) g0 g1 g3 g4 g5⟩
 self:=λ_ _ _ _ _ st h=>by
  obtain⟨⟨old,he⟩,_⟩:=st;exact wpAny_pyIter_enum he h
inductive EnmR (K:W.Frag) (H:Hp):V->(It->Hp->Prop)->Prop
 | lst {a:Addr} {xs:LV} {R:It->Hp->Prop}:SqL K H a xs->R (Ite K a) H->EnmR K H (.ref a) R
 | tup {a:Addr} {xs:LV} {R:It->Hp->Prop}:SqT K H a xs->R (ji K a) H->EnmR K H (.ref a) R
def sd (K:W.Frag) (ta:TA):TI:=λσ H R=>ta σ H λvs H1=>∃x,vs=[x]/\EnmR K H1 x R
theorem dA (K:W.Frag) {X:Cx}{G:List Expr}{k:Nat}{tp:Pos}{a:Expr}{ta:TA}{p pos:Pos}(M:Gl X "enumerate") (y:X.mg "enumerate"=none) (L:PA X [a] ta) (F:starEach [a] X.env=[(false,eval a X.env)]:=by rfl) (B:X.K=K:=by rfl) :
    PI X (.Tuple G k tp) (.Call (.Name "enumerate" p) [a] [] pos) (sd K ta):=by
 subst B;intro d s A H R I h;refine Call_ (dE I M y boot_enumerate (PyProof.Rows.callWith_type1 (thn (L pos d s A H _ I h) λN c ⟨O,n,f,D,C⟩=>?_) F rfl));obtain⟨x,e,q⟩:=C;subst e;obtain⟨u,rfl,v⟩:=bL D;have j:∀b,b=c.heap.objs.size+1∨b=c.heap.objs.size->cK X d n b:=λb i=>by
  rcases i with z | z
  ·subst z;exact f.fpOk (Nat.le_succ _) (f.hok.fresh (Nat.le_succ _))
  ·subst z;exact f.fpOk (ua _) (f.hok.fresh (ua _))
 cases q with
 | lst hq q =>
  cases v;obtain⟨r,E,m,J⟩:=f.list hq;refine call_enumerate_list m.isList λo l g w t=>wpAny_pyIter_enum (s:={ c with heap:=o }) l ?_;exact⟨_,[c.heap.objs.size+1,c.heap.objs.size],_,_,n,rfl,f.kept (t':=c.toks) t,mL _ _ _ (Nat.succ_ne_self _),⟨⟨_,l⟩,g⟩,λb i=>j b (by simpa using i),q⟩
 | tup hq q =>
  cases v;obtain⟨r,E,m,J⟩:=f.tuple hq;refine kX m λo l g t=>wpAny_pyIter_enum (s:={ c with heap:=o }) l ?_;exact⟨_,[c.heap.objs.size+1,c.heap.objs.size],_,_,n,rfl,f.kept (t':=c.toks) t,lB _ _ _ (Nat.succ_ne_self _),⟨⟨_,l⟩,g⟩,λb i=>j b (by simpa using i),q⟩
theorem fi {K:W.Frag}{a:Addr}{xs:LV}{g:TG}{tb:TS}{D:Ends}{σ:St}{H:Hp}(Pv:Nat -> St -> Hp -> Prop) (n:Pv 0 σ H) (l:∀i σ H, i <= xs.length -> Pv i σ H -> SqT K H a xs)
    (k:∀i x σ H p,xs[i]? = some x->Pv i σ H->H p=none->g (.ref p) σ (upd H p (.tup [.int i,x])) λσ2 H2=>tb { D with nx:=Pv (i+1),ct:=Pv (i+1),bk:=D.nx } σ2 H2) (h:∀σ H,Pv xs.length σ H->D.nx σ H) :
    ∃W:Nat->Nat->SH,(∃m,W 0 m σ H)/\∀i m σ H,W i m σ H ->
     ((ji K a).stop i H/\D.nx σ H)∨((ji K a).go i H/\∃N:SH,(∀σ' H',N σ' H'->∃G,G<m/\W (i+1) G σ' H')/\∀x H',(ji K a).yld i H x H'->g x σ H' λσ2 H2=>tb { D with nx:=N,ct:=N,bk:=D.nx } σ2 H2):=by
 refine⟨λi m σ H=>m=xs.length-i/\i<=xs.length/\Pv i σ H,⟨xs.length,by simp,uu _,n⟩,?_⟩;rintro i m σ H ⟨rfl,c,p⟩;have q:=l i σ H c p;by_cases b:i<xs.length
 ·refine .inr ⟨⟨xs,xs[i],q,by simp[b]⟩,Pv (i+1),λσ' H' j=>⟨xs.length-(i+1),by omega,rfl,b,j⟩,λx H' y=>?_⟩;obtain⟨r,z,f,rfl,d,rfl⟩:=y;exact k i z σ H r (d xs q) p f
 ·have e:i=xs.length:=by omega
  subst e;exact .inl ⟨⟨xs,q,ua _⟩,h σ H p⟩
end L2
namespace L2
open PySem PySem.Spec PyProof.Rows
def F0 (f0:Value):Prop:=f0=.none∨∃T:Nat,f0=rawInt (T:Int)
section
variable {prog:Program}{w:World}{A:Around}{E:QS}{s:Shared}
theorem mJ (h:Q (s.heap.get? a) s):wpAny (model prog w) A (loadIfAlive a) Q E s:=λ_ _ _=>h
end
inductive Thg (H:Hp):V->Prop
 | non:Thg H .non
 | bl (b:Bool):Thg H (.bl b)
 | int (i:Int):Thg H (.int i)
 | str {z:Str}:z.length<=sizeLine->Thg H (.str z)
 | lst {a:Addr} {xs:LV}:H a=some (.lst xs)->Thg H (.ref a)
 | tup {a:Addr} {xs:LV}:H a=some (.tup xs)->Thg H (.ref a)
 | dK {a:Addr} {kvs:KV_}:H a=some (.dK kvs)->Thg H (.ref a)
 | dT {a:Addr} {kvs:List (List Key × V)}:H a=some (.dT kvs)->Thg H (.ref a)
theorem Thg.same (h:Thg H x) (s:Same H H'):Thg H' x:=by
 cases h with
 | non=>exact .non
 | bl b=>exact .bl b
 | int i=>exact .int i
 | str z=>exact .str z
 | lst e=>exact .lst (s _ _ e)
 | tup e=>exact .tup (s _ _ e)
 | dK e=>exact .dK (s _ _ e)
 | dT e=>exact .dT (s _ _ e)
def isS:V->Bool
 | .str _=>true
 | _=>false
def isI:V->Bool
 | .int _ | .bl _=>true
 | _=>false
def isB:V->Bool
 | .bl _=>true
 | _=>false
def isL (H:Hp):V->Bool
 | .ref a=>match H a with
  | some (.lst _)=>true
  | _=>false
 | _=>false
def isT (H:Hp):V->Bool
 | .ref a=>match H a with
  | some (.tup _)=>true
  | _=>false
 | _=>false
theorem ma (e:H a=some (.lst xs)):isL H (.ref a)=true:=by show (match H a with | some (.lst _)=>true | _=>false)=true;rw[e]
theorem gw (e:H a=some (.tup xs)):isT H (.ref a)=true:=by show (match H a with | some (.tup _)=>true | _=>false)=true;rw[e]
theorem gV (e:H a=some o) (n:∀xs,o≠.lst xs):isL H (.ref a)=false:=by
 show (match H a with | some (.lst _)=>true | _=>false)=false;rw[e];split
 ·rename_i xs q;exact absurd (ue q) (n xs)
 ·rfl
theorem hB (e:H a=some o) (n:∀xs,o≠.tup xs):isT H (.ref a)=false:=by
 show (match H a with | some (.tup _)=>true | _=>false)=false;rw[e];split
 ·rename_i xs q;exact absurd (ue q) (n xs)
 ·rfl
theorem bU {K:W.Frag}{H:Hp}{x:V}(h:Thg H x):∃t,TyOf K H x t/\W.kitOne K t (.type "str")=some (isS x)/\W.kitOne K t (.type "int")=some (isI x)/\W.kitOne K t (.type "bool")=some (isB x) /\
    W.kitOne K t (.type "list")=some (isL H x)/\W.kitOne K t (.type "tuple")=some (isT H x):=by
 cases h with
 | non=>exact⟨_,.non,by rfl,by rfl,by rfl,by rfl,by rfl⟩
 | bl b=>exact⟨_,.bl b,by rfl,by rfl,by rfl,by rfl,by rfl⟩
 | int i=>exact⟨_,.int i,by rfl,by rfl,by rfl,by rfl,by rfl⟩
 | str z=>exact⟨_,.str _,by rfl,by rfl,by rfl,by rfl,by rfl⟩
 | lst e=>exact⟨_,.lst e,by rfl,by rfl,by rfl,by rw[ma e];rfl,by rw[hB e (λ_ z=>by cases z)];rfl⟩
 | tup e=>exact⟨_,.tup e,by rfl,by rfl,by rfl,by rw[gV e (λ_ z=>by cases z)];rfl,by rw[gw e];rfl⟩
 | dK e=>exact⟨_,.dK e,by rfl,by rfl,by rfl,by rw[gV e (λ_ z=>by cases z)];rfl,by rw[hB e (λ_ z=>by cases z)];rfl⟩
 | dT e=>exact⟨_,.dT e,by rfl,by rfl,by rfl,by rw[gV e (λ_ z=>by cases z)];rfl,by rw[hB e (λ_ z=>by cases z)];rfl⟩
def be (c:Nat):Bool:=decide (97<=c)&&decide (c<=122)
def bu:V->Bool
 | .str z=>decide (1<=z.length)&&(decide (z.length<=8)&&z.cps.toList.all be)
 | _=>false
theorem isNm_iff:bu (.str z)=true ↔ Nm z:=by
 show (decide (1<=z.length)&&(decide (z.length<=8)&&z.cps.toList.all be))=true ↔ _;rw[uP,uP,decide_eq_true_iff,decide_eq_true_iff,uW];unfold Nm
 constructor
 ·rintro⟨e,b,a⟩;refine⟨e,b,λc d=>?_⟩;have h:=a c d;unfold be at h;rw[uP,decide_eq_true_iff,decide_eq_true_iff] at h;exact h
 ·rintro⟨e,b,a⟩;refine⟨e,b,λc d=>?_⟩;unfold be;rw[uP,decide_eq_true_iff,decide_eq_true_iff];exact a c d
theorem mK (c d:Nat):decide ([c]<[d])=decide (c<d):=by
 by_cases h:c<d
 ·rw[ug h];exact ug (List.Lex.rel h)
 ·rw[ut h];refine ut λz=>?_;cases z with
  | rel z=>exact h z
  | cons z=>cases z
def dM:Sp:=λvs H Q _=>∃x,vs=[x]/\Thg H x/\∀H',Same H H'->Q (.bl (bu x)) H'
def pK (e:Str × Str):List Key:=[.inr e.1,.inr e.2]
theorem gk (h:pK e=pK f):e=f:=by
 unfold pK at h;have a:=List.cons.inj h;have b:=List.cons.inj a.2;exact Prod.ext (Sum.inr.inj a.1) (Sum.inr.inj b.1)
inductive PlR (H:Hp):V -> VK -> Prop
 | nm {a:Addr} {xs:LS} {Q:VK}:(H a=some (.lst (List.map V.str xs))∨H a=some (.tup (List.map V.str xs)))->xs.length<=1000 ->
     (∀d kvs H',Same H H'->H d=none->H' d=some (.dK kvs)->(∀s,(aM kvs (.inr s)).isSome=true ↔ s∈xs)->(∀s v,aM kvs (.inr s)=some v->∃j:Nat,v=.int j/\xs[j]? = some s)->(kvs.map (·.1)).Nodup->(∀k∈kvs.map (·.1),∃s∈xs,k=Sum.inr s)->Q (.ref d) H')->PlR H (.ref a) Q
 | pr {a:Addr} {refs:LV} {ps:List (Str × Str)} {Q:VK}:(H a=some (.lst refs)∨H a=some (.tup refs))->RepAll H refs (ps.map aL)->ps.length<=1000 ->
     (∀d kvs H',Same H H'->H d=none->H' d=some (.dT kvs)->(∀e:Str × Str,(aM kvs (pK e)).isSome=true ↔ e∈ps)->Q (.ref d) H')->PlR H (.ref a) Q
def dQ:Sp:=λvs H Q _=>∃x,vs=[x]/\PlR H x Q
section
variable {X:Cx}{p pos p2 pos2:Pos}{e f:Expr}{t:TA}
inductive IntR (H:Hp):V->VK->Prop
 | int {i:Int} {Q:VK}:Q (.int i) H->IntR H (.int i) Q
 | bl {b:Bool} {Q:VK}:Q (.int (if b then 1 else 0)) H->IntR H (.bl b) Q
theorem pw (B:Blt X.mg) (d:PA X [e] t) (f:Gl X "int":=by rfl) (he:starEach [e] X.env=(false,eval e X.env)::starEach [] X.env:=by rfl) (hpl:(backTo pos (starEach [] X.env)).any (·.1)=false:=by rfl) :
    PE X (.Call (.Name "int" p) [e] [] pos) (tCB (λxs H Q=>∃x,xs=[x]/\IntR H x Q) t):=by
 refine dh (r:=λxs H Q=>∃x,xs=[x]/\IntR H x Q) (λa s b H xs c Q I r h=>?_) f B.int PyProof.Rows.boot_int d (by decide) (by decide) he hpl;obtain⟨x,rfl,h⟩:=h;cases h with
 | int q=>exact ij a s b H _ c Q I r (.inl ⟨_,rfl,q⟩)
 | bl q=>exact ij a s b H _ c Q I r (.inr ⟨_,rfl,q⟩)
theorem cM (B:Blt X.mg) (a:Gl X "tuple":=by rfl):PE X (.Name "tuple" p) (tC (.ty "tuple")):=dv a B.tuple (show bootBuiltins "tuple"=some (.type "tuple") by decide +kernel) rfl
def pB (K:W.Frag) (c d:String):LV->Hp->VK->Prop:=λxs H Q=>∃x a t b,xs=[x,.ref a]/\H a=some (.tup [.ty c,.ty d])/\TyOf K H x t/\W.kitAny K t [.type c,.type d]=some b/\Q (.bl b) H
theorem kL {pins:AO_}{σ:St}{H:Hp}{s:Shared}{A:Around}{E:QS}{Q:QS}{x:V}{u t:Value}{tp:Addr}{dd:Option Addr}{its:LW}{n:Nat}{G:Array (OV)}{b:Bool}
    (I:Inv X pins σ H s) (d:RelV x u) (l:TyOf X.K H x t) (c:s.heap.get? tp=some ⟨.type "tuple",dd,.seq its.toArray n,G⟩) (e:W.kitAny X.K t its=some b) (h:∀tk,Q (.bool b) { s with toks:=tk }) :
    wpAny (model X.prog X.w) A (call (.builtin "isinstance") [u,.ref tp]) Q E s:=by
 cases l with
 | non=>cases (show u=Value.none from d);exact W.kia_tup W.kitx_none I.kIn True.intro c e (λz=>nomatch z) h
 | bl y=>cases (show u=Value.bool y from d);exact W.kia_tup W.kitx_bool I.kIn True.intro c e (λz=>nomatch z) h
 | int i=>obtain⟨t,q⟩:=(show ∃t,u=Value.int i t from d);cases q;exact W.kia_tup W.kitx_int I.kIn True.intro c e (λz=>nomatch z) h
 | str y=>obtain⟨t,q⟩:=(show ∃t,u=Value.str y t from d);cases q;exact W.kia_tup W.kitx_str I.kIn True.intro c e (λz=>nomatch z) h
 | flt y=>obtain⟨t,q⟩:=(show ∃t,u=Value.float y t from d);cases q;exact W.kia_tup W.kitx_float I.kIn True.intro c e (λz=>nomatch z) h
 | @lst a g ea =>
  cases (show u=Value.ref a from d);obtain⟨_,_,n,_,f⟩:=(show ObjOk X.prog X.w H s.heap a (.lst g) from I.hok a _ ea)
  exact W.kia_tup W.kitx_list I.kIn ⟨_,f,rfl⟩ c e (λz=>nomatch z) h
 | @frz a ob g ea =>
  cases (show u=Value.ref a from d);obtain⟨_,_,_,n,_,f⟩:=(show ObjOk X.prog X.w H s.heap a (.frz ob (.lst g)) from I.hok a _ ea)
  exact W.kia_tup W.kitx_list I.kIn ⟨_,f,rfl⟩ c e (λz=>nomatch z) h
 | @tup a g ea =>
  cases (show u=Value.ref a from d);obtain⟨_,_,_,p⟩:=(show ObjOk X.prog X.w H s.heap a (.tup g) from I.hok a _ ea)
  obtain⟨o,f,j,_⟩:=p;exact W.kia_tup W.kitx_tuple I.kIn ⟨o,f,j⟩ c e (λz=>nomatch z) h
 | @dK a kvs ea =>
  cases (show u=Value.ref a from d);obtain⟨_,_,w,_,p⟩:=(show ObjOk X.prog X.w H s.heap a (.dK kvs) from I.hok a _ ea)
  obtain⟨o,k,m,f,j,_⟩:=p;exact W.kia_tup W.kitx_dict I.kIn ⟨o,f,j.1⟩ c e (λz=>nomatch z) h
 | @dT a kvs ea =>
  cases (show u=Value.ref a from d);obtain⟨_,_,g,_,o,k,m,f,j,_⟩:=(show ObjOk X.prog X.w H s.heap a (.dT kvs) from I.hok a _ ea)
  exact W.kia_tup W.kitx_dict I.kIn ⟨o,f,j.1⟩ c e (λz=>nomatch z) h
 | @ins a C dx fs ea cl ha hn htk hm =>
  cases (show u=Value.ref a from d);obtain⟨v,O,_⟩:=jV I.hok ea;obtain⟨r,J,_⟩:=O.look;exact W.kia_tup (W.kitx_own (cl.get _) cl.hd ha hn htk hm) I.kIn J c e (λz=>nomatch z) h
theorem mu (c d:String):bK X (.builtin "isinstance") (pB X.K c d):=by
 intro l s E H D F Q I r h;obtain⟨x,a,t,b,rfl,y,w,e,q⟩:=h;obtain⟨u,L,rfl,p,i⟩:=eU r;cases i;obtain⟨_,g,B,⟨A,G,j,v⟩,o,f,n,k,_⟩:=(show ObjOk X.prog X.w H s.heap a (.tup [.ty c,.ty d]) from I.hok a _ y)
 have f:A=.type "tuple":=f;have k:j=.seq g.toArray n:=k;subst f k;obtain⟨K,J,rfl,z,m⟩:=eU B;cases z;cases m;exact kL I p w o e λC=>⟨.bl b,H,I.tok C,rfl,q⟩
theorem fq (K:W.Frag) (c d:String) (B:Blt X.mg) (b:PA X [e,f] t) (a:Gl X "isinstance":=by rfl) (he:starEach [e,f] X.env=(false,eval e X.env)::starEach [f] X.env:=by rfl) (hpl:(backTo pos (starEach [f] X.env)).any (·.1)=false:=by rfl) (g:X.K=K:=by rfl):PE X (.Call (.Name "isinstance" p) [e,f] [] pos) (tCB (pB K c d) t) :=
 g ▸ bJ (mu c d) a B.isinstance boot_isinstance b (by decide) (by decide) he hpl
end
theorem fe {K:W.Frag}{H:Hp}{x:V}{t:Value}(b:W.kitOne K t (.type "list")=some (isL H x)) (a:W.kitOne K t (.type "tuple")=some (isT H x)):W.kitAny K t [.type "list",.type "tuple"]=some (isL H x||isT H x):=by
 unfold W.kitAny;rw[b];cases isL H x with
 | true=>rfl
 | false =>
  show W.kitAny K t [.type "tuple"]=_;unfold W.kitAny;rw[a];cases isT H x <;> rfl
section
variable {X:Cx}{p pos:Pos}{e:Expr}{t:TA}
def tf:LV->Hp->VK->Prop:=λxs H Q=>∃a kvs,xs=[V.ref a]/\H a=some (.dK kvs)/\Q (.int kvs.length) H
theorem mf (B:Blt X.mg) (b:PA X [e] t) (a:Gl X "len":=by rfl) (he:starEach [e] X.env=(false,eval e X.env)::starEach [] X.env:=by rfl) (hpl:(backTo pos (starEach [] X.env)).any (·.1)=false:=by rfl):PE X (.Call (.Name "len" p) [e] [] pos) (tCB tf t) :=
 bJ mI a B.len PySem.boot_len b (by decide) (by decide) he hpl
end
theorem jM (x y:Str):PyData.eqv (.str x) (.str y)=decide (x=y):=by
 show (x==y)=_;by_cases h:x=y
 ·subst h;simp
 ·rw[ut h];simpa using h
theorem iX [DecidableEq α]:∀ {l:List α}, ¬ l.Nodup -> ∃l1 a l2, l=l1 ++ a :: l2 /\ a ∈ l2
 | [],h=>absurd u5 h
 | x::l,h=>by
  by_cases q:x∈l
  ·exact⟨[],x,l,rfl,q⟩
  ·have h:¬ l.Nodup:=λz=>h (u4.mpr ⟨q,z⟩);obtain⟨l1,a,l2,e,m⟩:=iX h;exact⟨x::l1,a,l2,by rw[e];rfl,m⟩
theorem nV {α:Type} [DecidableEq α] {ks ws:List α}(c:ks.Nodup) (b:∀k ∈ ks, k ∈ ws) (h:∀w ∈ ws, w ∈ ks):ks.length=ws.length ↔ ws.Nodup := by
 constructor
 ·intro l;refine Classical.byContradiction λj=>?_;obtain⟨i,a,d,e,m⟩:=iX j;have:=c.length_le_of_subset (l₂:=i++d) λk g=>by
   have:=b k g;rw[e] at this;rcases uF.mp this with q | q
   ·exact vw _ q
   ·rcases uf.mp q with q | q
    ·rw[q];exact uS _ m
    ·exact uS _ q
  rw[l,e,uA,uA,uv] at this;omega
 ·intro f;exact Nat.le_antisymm (c.length_le_of_subset b) (f.length_le_of_subset h)
theorem jU {kvs:KV_}{ws:LS}(i:(kvs.map (·.1)).Nodup) (ks:∀k ∈ kvs.map (·.1), ∃s ∈ ws, k=Sum.inr s) (c:∀s, (aM kvs (.inr s)).isSome=true ↔ s ∈ ws):kvs.length=ws.length ↔ ws.Nodup := by
 have h:=nV (ks:=kvs.map (·.1)) (ws:=ws.map (Sum.inr:Str->Key)) i (λk d=>by
     obtain⟨s,f,rfl⟩:=ks k d;exact uD.mpr ⟨s,f,rfl⟩) (λk d=>by
     obtain⟨s,f,rfl⟩:=uD.mp d;obtain⟨v,g⟩:=vc.mp ((c s).mpr f);exact pX g)
 rw[ub,ub] at h;rw[h]
 constructor
 ·intro q;exact List.Pairwise.of_map (Sum.inr:Str->Key) (λa b n e=>n (by rw[e])) q
 ·intro q;exact List.Pairwise.map _ (λa b n e=>n (Sum.inr.inj e)) q
end L2
namespace L2
open PySem PySem.Spec PyProof.Rows PySem.Builtin PySem.Builtin.Str
theorem qy (i j n:Nat):(strSliceIndices (some (i:Int)) (some (j:Int)) 1 n).length<=j-i:=by
 unfold strSliceIndices sliceRange;simp only[show (1:Int) > 0 by decide,if_true,ub,uT]
 split <;> (try simp only[Int.ediv_one]) <;> (repeat' split) <;> (try simp only[ub,uT,Int.ediv_one,List.length_nil]) <;> omega
theorem fo (z:Str) (i j:Nat):(Txt.slice z (some (i:Int)) (some (j:Int))).length<=j-i:=by
 unfold Txt.slice;have h:=qy i j z.length
 split
 ·rename_i q
  have q:(strSliceIndices (some (i:Int)) (some (j:Int)) 1 z.length).length=z.length:=by simpa using q
  omega
 ·show (List.filterMap _ _).toArray.size<=_;rw[uj];exact uo (List.length_filterMap_le _ _) h
theorem dG {z:Str}{j:Nat}(h:j<=z.length):(Txt.slice z none (some (j:Int))).length=j:=by
 have e:Txt.slice z none (some (j:Int))=StrLaws.sliceText z none (some (j:Int)):=rfl;rw[e,StrLaws.sliceText_to ⟨by omega,by simp[Str.length] at h ⊢;omega⟩];show (List.take _ _).toArray.size=j;rw[uj];simp[Str.length] at h ⊢;omega
theorem iu (z:Str) (j:Nat):(Txt.slice z none (some (j:Int))).length<=j:=by
 by_cases h:j<=z.length
 ·exact Nat.le_of_eq (dG h)
 ·exact uo (Txt.slice_le z _ _) (by omega)
theorem pS (h:(x++⟨#[c]⟩++y:Str)=x++⟨#[d]⟩++y):c=d:=by
 have h:(x.cps++#[c]++y.cps).toList=(x.cps++#[d]++y.cps).toList:=congrArg (λs:Str=>s.cps.toList) h;simp only[Array.toList_append,vf,List.append_cancel_left_eq] at h;simpa using h
theorem nL (h:(x++⟨#[c]⟩++⟨#[d]⟩++y:Str)=x++⟨#[i]⟩++⟨#[d']⟩++y):c=i/\d=d':=by
 have h:(x.cps++#[c]++#[d]++y.cps).toList=(x.cps++#[i]++#[d']++y.cps).toList:=congrArg (λs:Str=>s.cps.toList) h;simp only[Array.toList_append,vf,List.append_cancel_left_eq] at h;simpa using h
def Lo (t:Str):Prop:=∀x∈t.cps.toList,97<=x/\x<=122
theorem Lo.nil:Lo "":=λc a=>by
 have a:c∈("":Str).cps.toList:=a;rw[show ("":Str).cps.toList=[] by decide +kernel] at a;cases a
theorem Lo.one (h:97<=c/\c<=122):Lo ⟨#[c]⟩:=λd a=>by
 have:d=c:=by simpa using a
 omega
theorem Lo.app (b:Lo x) (d:Lo y):Lo (x++y):=λc a=>by
 have a:c∈(x.cps++y.cps).toList:=a;rw[Array.toList_append] at a;rcases uF.mp a with h | h
 ·exact b c h
 ·exact d c h
theorem Lo.slice (h:Lo x) (l u:Option Int):Lo (Txt.slice x l u):=by
 unfold Txt.slice
 split
 ·exact h
 ·intro c a;have a:c∈(List.filterMap (x.cps[·]?) (strSliceIndices l u 1 x.length)).toArray.toList:=a;rw[List.toList_toArray] at a;obtain⟨i,_,e⟩:=List.mem_filterMap.mp a;exact h c (by simpa using Array.mem_of_getElem? e)
theorem Lo.joinS (hs:Lo sep):∀ {ys:LS},(∀y∈ys,Lo y)->Lo (Str.join sep ys)
 | [],_=>λc hc=>by
  have hc:c∈(#[]:Array Nat).toList:=hc;simp at hc
 | [y],h=>h y (by simp)
 | y::z::r,h=>by
  show Lo (y++sep++Str.join sep (z::r));exact((h y (by simp)).app hs).app (Lo.joinS hs λx hx=>h x (ur _ hx))
theorem Lo.join (a:Lo i) (h:∀y∈ys,Lo y):Lo (Txt.join i ys):=by
 unfold Txt.join;rw[StrLaws.glued_eq_join];exact Lo.joinS a h
theorem Lo.nm (h:Lo z) (b:1<=z.length) (a:z.length<=8):Nm z:=⟨b,a,h⟩
def abc (j:Int):Str:=⟨#[97+j.toNat]⟩
theorem gN (b:0<=j) (a:j<26):Lo (abc j):=Lo.one (by omega)
theorem cp (j:Int):(abc j).length=1:=rfl
theorem iT (b:0<=j) (c:j<26):atI ("abcdefghijklmnopqrstuvwxyz":Str).cps.toList j=some (97+j.toNat):=by
 obtain⟨k,rfl⟩:=uH b;have a:k<26:=by omega
 exact(by decide +kernel:∀k:Nat,k<26->atI ("abcdefghijklmnopqrstuvwxyz":Str).cps.toList (k:Int)=some (97+(k:Int).toNat)) k a
theorem oq (h:∀y∈ys,y.length=1):(Txt.join "" ys).length=ys.length:=by
 have b:("":Str).length=0:=by decide +kernel
 unfold Txt.join;rw[size_glued,b,Nat.mul_zero,Nat.add_zero]
 induction ys with
 | nil=>rfl
 | cons y r ih =>
  have d:=h y (by simp);have c:=ih λz a=>h z (ur _ a);simp only[uG,List.sum_cons,uv];omega
theorem dI (f:Nat->α) (m:Nat) (h:∀i j,i<j->j<m->f i≠f j):((List.range m).map f).Nodup:=by
 rw[List.nodup_iff_pairwise_ne,List.pairwise_map];refine List.Pairwise.imp_of_mem ?_ (List.pairwise_lt_range (n:=m));intro a b e d c;exact h a b c (List.mem_range.mp d)
theorem cC (f:Nat->α) (i:Nat):(List.range (i+1)).map f=(List.range i).map f++[f i]:=by rw[List.range_succ,uk];rfl
theorem fc (h:x∈(List.range m).map f):∃i,i<m/\x=f i:=by
 obtain⟨i,a,e⟩:=uD.mp h;exact⟨i,List.mem_range.mp a,e.symm⟩
theorem gi (ws:LS) (c:ws.Nodup) (a:i<ws.length) (b:j<ws.length) (h:ws.getD i ""=ws.getD j ""):i=j:=by
 rw[uX,uX,uy a,uy b] at h;exact(List.getElem_inj c).mp h
theorem ow {M st c i j:Nat}(e:Nat.Coprime st M) (b:i<j) (g:j<M):(c+i * st) % M≠(c+j * st) % M:=by
 intro h;have a:M ∣ (c+j * st)-(c+i * st):=Nat.dvd_of_mod_eq_zero (Nat.sub_mod_eq_zero_of_mod_eq h.symm);have d:(c+j * st)-(c+i * st)=(j-i) * st:=by rw[Nat.sub_mul];omega
 rw[d] at a;have f:M ∣ j-i:=(Nat.Coprime.symm e).dvd_of_dvd_mul_right a;have:=Nat.le_of_dvd (by omega) f;omega
theorem lM:∀m:Nat,m<61->0<m->∀st∈[61,67,71,73,79,83],Nat.Coprime st (m * m):=by decide +kernel
theorem jE {m c d:Nat}(b:c / m=d / m) (a:c % m=d % m):c=d:=by
 rw[<- Nat.div_add_mod c m,<- Nat.div_add_mod d m,b,a]
theorem aF:starEach (.Constant c j p::es) env=(false,eval (.Constant c j p) env)::starEach es env:=rfl
theorem bo:starEach (.Name x p::es) env=(false,eval (.Name x p) env)::starEach es env:=rfl
theorem sw:starEach (.List xs p::es) env=(false,eval (.List xs p) env)::starEach es env:=rfl
theorem sk:starEach (.Tuple xs k p::es) env=(false,eval (.Tuple xs k p) env)::starEach es env:=rfl
theorem star_u:starEach (.UnaryOp o x p::es) env=(false,eval (.UnaryOp o x p) env)::starEach es env:=rfl
theorem star_d:starEach (.Dict xs ys p::es) env=(false,eval (.Dict xs ys p) env)::starEach es env:=rfl
end L2
namespace L2
open PySem PySem.Spec PyProof.Rows
def SqA (H:Hp) (a:Addr) (xs:LV):Prop:=H a=some (.lst xs)∨H a=some (.tup xs)
theorem SqA.same (h:SqA H a xs) (s:Same H H'):SqA H' a xs:=by
 rcases h with h | h
 ·exact .inl (s _ _ h)
 ·exact .inr (s _ _ h)
theorem SqA.len {K:W.Frag}{H:Hp}{a:Addr}{xs:LV}(h:SqA H a xs):oK K (.ref a) H xs.length:=by
 rcases h with h | h
 ·exact .inl ⟨xs,.of h,rfl⟩
 ·exact .inr ⟨xs,.of h,rfl⟩
theorem SqA.thg (h:SqA H a xs):Thg H (.ref a):=by
 rcases h with h | h
 ·exact .lst h
 ·exact .tup h
theorem SqA.lt (h:SqA H a xs):(isL H (.ref a)||isT H (.ref a))=true:=by
 rcases h with h | h
 ·rw[ma h];rfl
 ·rw[gw h,Bool.or_true]
section
variable {X:Cx}{p pos p2 pos2:Pos}{e f:Expr}{t:TA}
inductive TupR (K:W.Frag) (H:Hp):V->VK->Prop
 | lst {a:Addr} {ys:LV} {Q:VK}:SqL K H a ys->(∀l,H l=none->Q (.ref l) (upd H l (.tup ys)))->TupR K H (.ref a) Q
 | tup {a:Addr} {ys:LV} {Q:VK}:SqT K H a ys->Q (.ref a) H->TupR K H (.ref a) Q
theorem gp (K:W.Frag) (B:Blt X.mg) (d:PA X [e] t) (g:Gl X "tuple":=by rfl) (he:starEach [e] X.env=(false,eval e X.env)::starEach [] X.env:=by rfl) (hpl:(backTo pos (starEach [] X.env)).any (·.1)=false:=by rfl) (f:X.K=K:=by rfl) :
    PE X (.Call (.Name "tuple" p) [e] [] pos) (tCB (λxs H Q=>∃x,xs=[x]/\TupR K H x Q) t):=by
 subst f;refine dh (r:=λxs H Q=>∃x,xs=[x]/\TupR X.K H x Q) (λa s b H xs c Q I r h=>?_) g B.tuple (show bootBuiltins "tuple"=some (.type "tuple") by decide +kernel) d (by decide) (by decide) he hpl;obtain⟨x,rfl,h⟩:=h;cases h with
 | lst h1 q=>exact dj a s b H _ c Q I r ⟨_,_,rfl,.inl ⟨h1,q⟩⟩
 | tup h1 q=>exact dj a s b H _ c Q I r ⟨_,_,rfl,.inr ⟨h1,q⟩⟩
end
theorem dD:∀ds:List PyData,PyData.shownAll ds=ds.map PyData.shown
 | []=>rfl
 | d::ds=>by
  show PyData.shown d::PyData.shownAll ds=_;rw[dD ds];rfl
structure Sw (d:PyData) (n k:Nat):Prop where
 lay:d.canLay0=true
 sb:d.showable=true
 dp:d.depth<=k
 ln:d.shown.length<=n
theorem Sw.mono (h:Sw d n k) (a:n<=z) (b:k<=i):Sw d z i:=⟨h.lay,h.sb,uo h.dp b,uo h.ln a⟩
theorem Sw.all:∀ {ds:List PyData}, (∀d ∈ ds, Sw d n k) -> PyData.canLayAll0 ds=true /\ PyData.showableAll ds=true /\ PyData.depthAll ds <= k
 | [],_=>⟨rfl,rfl,uu _⟩
 | d::ds,h=>by
  obtain⟨a,b,c⟩:=Sw.all λx hx=>h x (ur _ hx);have q:=h d (by simp);refine⟨?_,?_,?_⟩
  ·show (PyData.canLay0 d&&PyData.canLayAll0 ds)=true;rw[q.lay,a];rfl
  ·show (PyData.showable d&&PyData.showableAll ds)=true;rw[q.sb,b];rfl
  ·show max (PyData.depth d) (PyData.depthAll ds)<=k;have:=q.dp;omega
theorem Sw.list (h:∀d∈ds,Sw d n k):Sw (.list ds) (2+ds.length * (n+2)) (k+1):=by
 obtain⟨a,b,c⟩:=Sw.all h;refine⟨a,b,(by show PyData.depthAll ds+1<=k+1;omega),?_⟩;show (listText (PyData.shownAll ds)).length<=_;rw[dD];have f:=fQ (n:=n) (ds.map PyData.shown) 0 "[" λt g=>by
  obtain⟨e,i,rfl⟩:=uD.mp g;exact(h e i).ln
 rw[ub] at f;have j:(Str.ofString "[").length=1:=rfl;have l:(Str.ofString "]").length=1:=rfl;have f:(textFrom 0 (Str.ofString "[") (ds.map PyData.shown)).length<=(Str.ofString "[").length+ds.length * (n+2):=f;show (textFrom 0 "[" (ds.map PyData.shown)++"]").length<=_;rw[aI];show (textFrom 0 (Str.ofString "[") (ds.map PyData.shown)).length+(Str.ofString "]").length<=_;omega
theorem Sw.shw (h:Sw d n k) (c:k<=16) (b:n<=sizeLine):Shw d:=by
 have a:shp d:=by
  show (PyData.canLay0 d&&decide (PyData.depth d<=64))=true;have:=h.dp;rw[h.lay,ug (by omega)];rfl
 exact⟨a,h.sb,PyData.hasDict_of_canLay _ (SeqAt.canLay_of_shaped a),uo h.dp c,uo h.ln b⟩
theorem Sw.nm (h:Nm s):Sw (.str s) 82 0:=⟨fk h,rfl,ua 0,h.repr⟩
theorem join_le:∀(ts:LS),(∀t∈ts,t.length<=n)->(Str.join ", " ts).length<=ts.length * (n+2)
 | [],_=>uu _
 | [y],h=>by
  have:=h y (by simp);show y.length<=1 * (n+2);omega
 | y::z::r,h=>by
  have h1:=join_le (z::r) λt ht=>h t (ur _ ht);have h2:=h y (by simp);have h3:(Str.ofString ", ").length=2:=rfl;show (y++", "++Str.join ", " (z::r)).length<=((z::r).length+1) * (n+2);rw[aI,aI,Nat.succ_mul];show y.length+(Str.ofString ", ").length+_<=_;omega
theorem Sw.tuple (h:∀d∈ds,Sw d n k):Sw (.tuple ds) (3+ds.length * (n+2)) (k+1):=by
 obtain⟨a,b,c⟩:=Sw.all h;refine⟨a,b,(by show PyData.depthAll ds+1<=k+1;omega),?_⟩;show (tupleText (PyData.shownAll ds)).length<=_;rw[dD];have g:=join_le (n:=n) (ds.map PyData.shown) λt f=>by
  obtain⟨e,j,rfl⟩:=uD.mp f;exact(h e j).ln
 rw[ub] at g;have m:(Str.ofString "(").length=1:=rfl;have i:∀b:Bool,(Str.ofString (if b then ",)" else ")":String)).length<=2:=by intro b;cases b <;> decide
 show (("(":Str)++Str.join ", " (ds.map PyData.shown)++(if (ds.map PyData.shown).length==1 then ",)" else ")":String)).length<=_;rw[aI,aI];have l:=i ((ds.map PyData.shown).length==1);show (Str.ofString "(").length+_+(Str.ofString (if (ds.map PyData.shown).length==1 then ",)" else ")":String)).length<=_;omega
theorem Sw.pair (c:Nm e.1) (b:Nm e.2):Sw (aL e) 171 1:=Sw.tuple (n:=82) (k:=0) (ds:=[.str e.1,.str e.2]) (λd a=>by
 rcases uf.mp a with rfl | a
 ·exact Sw.nm c
 ·rw[uE.mp a];exact Sw.nm b)
def seqD (b:Bool) (ds:List PyData):PyData:=if b then .list ds else .tuple ds
theorem Sw.seq (b:Bool) (h:∀d∈ds,Sw d n k) (a:ds.length<=m):Sw (seqD b ds) (3+m * (n+2)) (k+1):=by
 have:=vy (n+2) a;cases b with
 | true=>exact(Sw.list h).mono (by omega) (ua _)
 | false=>exact(Sw.tuple h).mono (by omega) (ua _)
section
variable {X:Cx}{p pos p2 pos2:Pos}{e f:Expr}{t:TA}
theorem qQ:MtR X "list.pop" iO:=oR
theorem jJ:MtR X "list.reverse" fR:=lw
theorem pC (K:W.Frag) (i:PE X o to) (f:PA X [e] t)
    (c:attributeBase o "pop" X.env (eval o X.env)=eval o X.env:=by rfl)
    (d:((backTo cpos (starEach [e] X.env)).all (λx=>!x.1)&&(backToKw cpos (keywordEach [] X.env)).all (λx=>x.1.isSome)
     && decide ([e].length+([]:List Keyword).length+(if ([]:List Keyword).isEmpty then 0 else 1)<30))=true:=by rfl)
    (b:(apos.endLine==cpos.line)=true:=by rfl) (h:starEach [e] X.env=(false,eval e X.env)::starEach [] X.env:=by rfl) (a:(backTo cpos (starEach [] X.env)).any (·.1)=false:=by rfl) (g:X.K=K:=by rfl) :
    PE X (.Call (.Attribute o "pop" apos) [e] [] cpos) (tBM K "list" iO to t):=g ▸ gF PySem.F.plainAttrs_list PySem.F.slot_list_pop PySem.F.type_list_pop qQ i f c d b h a
theorem md (K:W.Frag) (d:PE X o to) (b:attributeBase o "reverse" X.env (eval o X.env)=eval o X.env:=by rfl) (a:(apos.endLine==cpos.line)=true:=by rfl) (c:X.K=K:=by rfl) :
    PE X (.Call (.Attribute o "reverse" apos) [] [] cpos) (sx K "list" fR to):=c ▸ sU PySem.F.plainAttrs_list PySem.F.slot_list_reverse PySem.F.type_list_reverse jJ d b a
end
theorem gv {α:Type}{M:Model}{m:Sem (Option α)}{P:α->Shared->Prop}
    (h:wpAny M A m (λr i=>∃u,r=some u/\wpAny M A (pure ():Sem Unit) (λ_ G=>P u G) E i) E s):wpAny M A m (λr i=>∃u,r=some u/\P u i) E s:=by
 intro b p a;exact Sem.wp_mono M b m (λr c i ⟨u,e,q⟩=>⟨u,e,q b c a⟩) (λ_ _ _ z=>z) p s (h b p a)
theorem Inv.atA (I:Inv X pins σ H s) (A':Around) (b:A'.handled=X.A.handled) (a:A'.frames=X.A.frames):Inv { X with A:=A' } pins σ H s :=
 ⟨⟨I.ok.mod,I.ok.kind,I.ok.glob,I.ok.blt,I.ok.above,I.ok.inj,I.ok.has,I.ok.cab,λc=>b.trans (I.ok.hd c),a.trans I.ok.frames,I.ok.stk,I.ok.exf,I.ok.bs,I.ok.bsz,I.ok.noex,I.ok.exfs,I.ok.funs,I.ok.frf⟩,
  I.os,I.bare,I.base,I.loc,I.cell,I.free,I.freeC,I.pin,I.hok,I.len⟩
theorem Inv.ofA (a:X.Ok) (I:Inv { X with A:=A' } pins σ H s):Inv X pins σ H s :=
 ⟨a,I.os,I.bare,I.base,I.loc,I.cell,I.free,I.freeC,I.pin,I.hok,I.len⟩
namespace DU
theorem entry_loop:entryFor table "dict.update.loop"=some Builtin.«dict.update.loop»:=entryFor_of_fast (by kernel_rfl)
theorem plain_loop:plainId "dict.update.loop"=true:=by decide +kernel
end DU
theorem Rd.fresh (r:Rd H a u) (b:H l=none):Rd (upd H l o) a u:=by
 have n:a≠l:=λe=>by subst e;rcases r with r | ⟨_,r⟩ <;> rw[b] at r <;> cases r
 unfold Rd;rw[aj n];exact r
theorem SqL.fresh {K:W.Frag}{H:Hp}{a l:Addr}{xs:LV}{o:HO}(r:SqL K H a xs) (b:H l=none):SqL K (upd H l o) a xs:=by
 rcases r with r | r
 ·exact Or.inl (r.fresh b)
 ·exact Or.inr r
namespace SP
open PySem.Builtin PySem.Builtin.Str PySem.StrLaws
abbrev one (c:Nat):Str:=⟨#[c]⟩
theorem kD (x:Str) (c i:Nat):(i+(one c).length<=x.length/\subAt x (one c) i=true) ↔ x.cps.toList[i]? = some c:=by
 rw[subAt_eq];have j:x.cps.toList.length=x.length:=by simp[Str.length]
 have g:(one c).length=1:=rfl;have f:(one c).cps.toList=[c]:=rfl;rw[g,f,<- j]
 constructor
 ·rintro⟨a,b⟩;have d:i<x.cps.toList.length:=by omega
  have b:=eq_of_beq b;rw[List.drop_eq_getElem_cons d] at b;have b:[x.cps.toList[i]]=[c]:=by simpa using b
  rw[uy d,List.cons.inj b |>.1]
 ·intro h;obtain⟨d,e⟩:=uh.mp h;refine⟨by omega,?_⟩;rw[List.drop_eq_getElem_cons d,e];simp
theorem gP (x:Str) (c limit:Nat):∀(l:List Nat) (st:Array Nat × Nat), l.Pairwise (·<·) -> (∀i ∈ l, st.snd <= i) -> st.fst.size+l.length <= limit ->
    ∀j,j∈(forIn l st (occBody x (one c) x.length limit)).run.fst.toList ↔ j∈st.fst.toList∨(j∈l/\x.cps.toList[j]? = some c)
 | [],st,_,_,_,j=>by
  have e:(forIn ([]:List Nat) st (occBody x (one c) x.length limit)).run=st:=by simp[pure,Id.run]
  rw[e];simp
 | a :: l, st, hp, hf, hl, j => by
  rw[List.forIn_cons];unfold occBody;have hp':=List.pairwise_cons.mp hp;have ha:st.snd<=a:=hf a (uZ ..);rw[uv] at hl;by_cases hc:x.cps.toList[a]? = some c
  ·obtain⟨h1,h2⟩:=(kD x c a).mpr hc;rw[if_pos ⟨⟨⟨by omega,ha⟩,h1⟩,h2⟩];have ih:=gP x c limit l (st.fst.push a,a+(one c).length) hp'.2 (λi hi=>by have:=hp'.1 i hi;show a+1<=i;omega) (by rw[Array.size_push];omega) j;refine ih.trans ?_;rw[Array.toList_push,uF,uE,uf]
   constructor
   ·rintro ((h | rfl) | h)
    ·exact .inl h
    ·exact .inr ⟨.inl rfl,hc⟩
    ·exact .inr ⟨.inr h.1,h.2⟩
   ·rintro (h | ⟨rfl | h,h'⟩)
    ·exact .inl (.inl h)
    ·exact .inl (.inr rfl)
    ·exact .inr ⟨h,h'⟩
  ·rw[if_neg (λh=>hc ((kD x c a).mp ⟨h.1.2,h.2⟩))];have ih:=gP x c limit l (st.fst,st.snd) hp'.2 (λi hi=>hf i (ur _ hi)) (by show st.fst.size+l.length<=limit;omega) j;refine ih.trans ?_;rw[uf]
   constructor
   ·rintro (h | h)
    ·exact .inl h
    ·exact .inr ⟨.inr h.1,h.2⟩
   ·rintro (h | ⟨rfl | h,h'⟩)
    ·exact .inl h
    ·exact absurd h' hc
    ·exact .inr ⟨h,h'⟩
theorem kE (x:Str) (c j:Nat):j∈occurrences x (one c) 0 x.length (x.length+1) ↔ x.cps.toList[j]? = some c:=by
 rw[occ_eq];have h:=gP x c (x.length+1) (List.range' 0 (x.length+1-0)) (#[],0) (List.pairwise_lt_range') (λ_ _=>uu _) (by simp) j;refine h.trans ?_
 constructor
 ·rintro (h | h)
  ·simp at h
  ·exact h.2
 ·intro h;refine .inr ⟨?_,h⟩;have a:x.cps.toList.length=x.length:=by simp[Str.length]
  have:=(uh.mp h).1;rw[List.mem_range'_1];omega
theorem iH (hs:1 <= sub.length):∀ {a:Nat}{cuts:List Nat}{f:Nat}, ChainTo s sub hi a cuts f -> ∀j ∈ cuts, a <= j
 | a,[],f,_,j,hj=>by cases hj
 | a,c::r,f,h,j,hj=>by
  rcases uf.mp hj with rfl | hj
  ·exact h.1
  ·have h1:=iH hs h.2.2 j hj;have h2:=h.1;omega
theorem jb (x:Str) (c a b:Nat) (h:∀i,a<=i->i<b->x.cps.toList[i]?≠some c):c∉(strSub x a b).cps.toList:=by
 rw[strSub_toList];intro f;obtain⟨i,d⟩:=List.getElem?_of_mem f;have e:i<b-a:=Classical.byContradiction λz=>by
  have:=(uh.mp d).1;rw[uM] at this;omega
 rw[List.getElem?_take_of_lt e,List.getElem?_drop] at d;exact h (a+i) (by omega) (by omega) d
theorem gH (x:Str) (c:Nat):∀(cuts:List Nat) (a f:Nat), ChainTo x (one c) x.length a cuts f -> (∀i, a <= i -> x.cps.toList[i]? = some c -> i ∈ cuts) -> ∀p ∈ partsFrom x 1 a cuts, c ∉ p.cps.toList
 | [],a,f,h,hall,p,hp=>by
  rw[uE.mp hp];exact jb x c a _ λi hi _ hc=>by cases hall i hi hc
 | k :: r, a, f, h, hall, p, hp => by
  rcases uf.mp hp with rfl | hp
  ·refine jb x c a k λi hi hk hc=>?_;rcases uf.mp (hall i hi hc) with e | e
   ·omega
   ·have:=iH (show 1<=(one c).length from ua 1) h.2.2 i e;have:(one c).length=1:=rfl;omega
  ·refine gH x c r (k+1) f h.2.2 (λi hi hc=>?_) p hp;rcases uf.mp (hall i (by have:=h.1;omega) hc) with e | e
   ·omega
   ·exact e
theorem split_free (x:Str) (c:Nat) (g:c<256):∀p ∈ Txt.split x (one c), c ∉ p.cps.toList := by
 unfold Txt.split
 split
 ·rename_i h
  rw[Bool.or_eq_true,decide_eq_true_iff,decide_eq_true_iff] at h;intro p d;rw[uE.mp d];rcases h with h | h
  ·have h:x.length<1:=h;have j:x.cps.toList.length=x.length:=by simp[Str.length]
   intro b;have:=List.length_pos_of_mem b;omega
  ·have e:Builtin.Str.strKind (one c)=1:=by
      unfold Builtin.Str.strKind;rw[if_pos (by simp;exact g)]
   rw[e] at h;unfold Builtin.Str.strKind at h
   split at h
   ·omega
   ·split at h <;> omega
 ·split
  ·rename_i h1 h
   intro p d;rw[uE.mp d];intro b;obtain⟨i,a⟩:=List.getElem?_of_mem b;have:=(kE x c i).mpr a;rw[List.isEmpty_iff.mp h] at this;cases this
  ·obtain⟨f,h⟩:=occ_chain x (one c) (x.length+1);rw[partsBetween_eq];exact gH x c _ 0 f h λi _ a=>(kE x c i).mpr a
theorem split_ne (x y:Str):Txt.split x y ≠ [] := by
 unfold Txt.split
 split
 ·simp
 ·split
  ·simp
  ·rw[partsBetween_eq];obtain⟨p,r,e⟩:=partsFrom_ne x y.length 0 (occurrences x y 0 x.length (x.length+1));rw[e];simp
theorem jS:∀ {w v A B:List Nat},c∉w->c∉v->w++c::A=v++c::B->w=v/\A=B
 | [],[],A,B,_,_,h=>⟨rfl,(List.cons.inj h).2⟩
 | [],y::v,A,B,_,hv,h=>absurd (uf.mpr (.inl (List.cons.inj h).1)) hv
 | x::w,[],A,B,hw,_,h=>absurd (uf.mpr (.inl (List.cons.inj h).1.symm)) hw
 | x::w,y::v,A,B,hw,hv,h=>by
  obtain⟨e,h⟩:=List.cons.inj h;obtain⟨e1,e2⟩:=jS (λz=>hw (ur _ z)) (λz=>hv (ur _ z)) h;exact⟨by rw[e,e1],e2⟩
theorem str_eq {a b:Str}(h:a.cps.toList=b.cps.toList):a=b:=Str.ext' (Array.toList_inj.mp h)
theorem join_signs (c:Nat) (x y:Str) (r:LS):(Str.join (one c) (x::y::r)).cps.toList=x.cps.toList++c::(Str.join (one c) (y::r)).cps.toList:=by
 show (x++one c++Str.join (one c) (y::r)).cps.toList=_;rw[cps_toList_append,cps_toList_append,vf]
 rfl
theorem iF (c:Nat):∀(ws vs:LS),ws≠[]->vs≠[]->(∀w∈ws,c∉w.cps.toList)->(∀v∈vs,c∉v.cps.toList)->Str.join (one c) ws=Str.join (one c) vs->ws=vs
 | [],_,h,_,_,_,_=>absurd rfl h
 | _,[],_,h,_,_,_=>absurd rfl h
 | [w],[v],_,_,_,_,h=>by
  have h:w=v:=h;rw[h]
 | [w],v::z::r,_,_,hw,_,h=>by
  have h:w=Str.join (one c) (v::z::r):=h;have:=hw w (by simp);rw[h,join_signs] at this;exact absurd (by simp) this
 | w::z::r,[v],_,_,_,hv,h=>by
  have h:Str.join (one c) (w::z::r)=v:=h;have:=hv v (by simp);rw[<- h,join_signs] at this;exact absurd (by simp) this
 | w::z::r,v::z'::r',_,_,hw,hv,h=>by
  have h:=congrArg (λs:Str=>s.cps.toList) h;simp only[join_signs] at h;obtain⟨e1,e2⟩:=jS (hw w (by simp)) (hv v (by simp)) h;have:=iF c (z::r) (z'::r') (by simp) (by simp) (λx hx=>hw x (ur _ hx)) (λx hx=>hv x (ur _ hx)) (str_eq e2);rw[str_eq e1,this]
theorem split_join (c:Nat) (b:c<256) (ws:LS) (a:ws≠[]) (d:∀w∈ws,c∉w.cps.toList):Txt.split (Str.join (one c) ws) (one c)=ws :=
 iF c _ ws (split_ne _ _) a (split_free _ c b) d (join_split _ _)
theorem split_len (x:Str) (y:Str):(partsBetween x (occurrences x y 0 x.length (x.length+1)) y.length).length<=x.length+2:=by
 rw[length_partsBetween];have:=occ_length_le x y 0 x.length (x.length+1);omega
end SP
end L2
namespace L2
open PySem PySem.Spec PyProof.Rows
section
variable {X:Cx}
theorem eZ:∀(ps:LS) (k:Nat),Vals (ps.map V.str) (strsFrom k ps)
 | [],_=>.nil
 | p::r,k=>.cons ⟨_,rfl⟩ (eZ r (k+1))
def mv:V->LV->Hp->VK->Prop:=λx xs H Q=>∃z y,x=.str z/\xs=[.str y]/\(y.length==0)=false/\z.length+2<=sizeLine/\∀l,H l=none->Q (.ref l) (upd H l (.lst (List.map V.str (Txt.split z y))))
theorem oY:MtR X "str.split" mv := by
 intro d s m H x A v B Q I n p h;obtain⟨z,y,rfl,rfl,i,C,q⟩:=h;obtain⟨t,rfl⟩:=n;obtain⟨u,rfl,l⟩:=bL p;obtain⟨t',rfl⟩:=l;have g:H s.heap.objs.size=none:=I.hok.fresh (ua _);have j:=SP.split_len z y;have c:∀(f:LS) (b:LW) (k:Nat),f=Txt.split z y->f.length<=sizeLine->Vals (f.map V.str) b->EP X d m Q (.ref s.heap.objs.size) { s with heap:=s.heap.push { cls:=.type "list",data:=.seq b.toArray },toks:=k }:=λf b k e w r=>by
  subst e;exact⟨.ref _,_,I.laid (a:=s.heap.objs.size) (o:=.lst (List.map V.str (Txt.split z y))) (t':=k) (λ_ _ q=>ui _ q) (ua _) ⟨by rw[ub];exact w,b,_,r,uw _ rfl⟩,rfl,q _ g⟩
 cases h1:(decide (z.length<y.length)||decide (Builtin.Str.strKind z<Builtin.Str.strKind y))
 ·cases hf:(Builtin.Str.occurrences z y 0 z.length (z.length+1)).isEmpty
  ·refine call_meets F.slot_str_split (typeIs_str _ _ _) F.entry_str_split (F.args_str_split_2 _ _) (meets_str_split_sep z y t t' h1 i hf (by omega) (by omega)) ?_;refine c _ _ _ ?_ (by omega) (eZ _ _);exact((if_neg (ne_true_of_eq_false h1)).trans (if_neg (ne_true_of_eq_false hf))).symm
  ·refine call_meets F.slot_str_split (typeIs_str _ _ _) F.entry_str_split (F.args_str_split_2 _ _) (meets_str_split_not_found z y t t' h1 i hf) ?_;exact c [z] _ _ ((if_neg (ne_true_of_eq_false h1)).trans (if_pos hf)).symm (by show 1<=sizeLine;decide) (.cons ⟨t,rfl⟩ .nil)
 ·refine call_meets F.slot_str_split (typeIs_str _ _ _) F.entry_str_split (F.args_str_split_2 _ _) (meets_str_split_cannot_occur z y t t' h1) ?_;exact c [z] _ _ (if_pos h1).symm (by show 1<=sizeLine;decide) (.cons ⟨t,rfl⟩ .nil)
theorem bz (K:W.Frag) (i:PE X o to) (f:PA X [e] t)
    (c:attributeBase o "split" X.env (eval o X.env)=eval o X.env:=by rfl)
    (d:((backTo cpos (starEach [e] X.env)).all (λx=>!x.1)&&(backToKw cpos (keywordEach [] X.env)).all (λx=>x.1.isSome)
     && decide ([e].length+([]:List Keyword).length+(if ([]:List Keyword).isEmpty then 0 else 1)<30))=true:=by rfl)
    (b:(apos.endLine==cpos.line)=true:=by rfl) (h:starEach [e] X.env=(false,eval e X.env)::starEach [] X.env:=by rfl) (a:(backTo cpos (starEach [] X.env)).any (·.1)=false:=by rfl) (g:X.K=K:=by rfl) :
    PE X (.Call (.Attribute o "split" apos) [e] [] cpos) (tBM K "str" mv to t):=g ▸ gF PySem.F.plainAttrs_str PySem.F.slot_str_split PySem.F.type_str_split oY i f c d b h a
end
theorem em:∀(ys:LS),(∀y∈ys,y.length<=n)->(ys.map (·.length)).sum<=ys.length * n
 | [],_=>by simp
 | y::r,h=>by
  have h1:=em r λt ht=>h t (ur _ ht);have h2:=h y (by simp);rw[uG,List.sum_cons,uv,Nat.succ_mul];omega
def cD (ss:LS):Str:=Txt.join " " ("things"::ss)
def bn (e:Str × Str):Str:=Txt.join " > " [e.1,e.2]
def bh (ss:LS) (ts:List (Str × Str)):LS:=cD ss::ts.map bn
def dH (ss:LS) (ts:List (Str × Str)):Str:=Txt.join "\n" (bh ss ts)
theorem Nm.free (h:Nm s) (a:c<97):c∉s.cps.toList:=λz=>by have:=h.2.2 c z;omega
theorem cZ (z:Str) (a:LS):Txt.join z a=Str.join z a:=StrLaws.glued_eq_join z a
theorem gX (e:Str × Str):bn e=e.1++(" > ":Str)++e.2:=by unfold bn;rw[cZ];rfl
theorem je:(" ":Str)=SP.one 32:=by decide
theorem mh:("\n":Str)=SP.one 10:=by decide
theorem gs (e:Str × Str):bn e=Str.join (SP.one 32) [e.1,">",e.2]:=by
 rw[gX];apply SP.str_eq;rw[SP.join_signs,SP.join_signs,cps_toList_append,cps_toList_append,vf]
 rfl
theorem gx (h:Nm e.1/\Nm e.2):Txt.split (bn e) " "=[e.1,">",e.2]:=by
 rw[gs,je];refine SP.split_join 32 (by decide) _ (by simp) λw a=>?_;rcases uf.mp a with rfl | a
 ·exact h.1.free (by decide)
 ·rcases uf.mp a with rfl | a
  ·decide
  ·rw[uE.mp a];exact h.2.free (by decide)
theorem gL (h:∀s∈i,Nm s):Txt.split (cD i) " "=("things":Str)::i:=by
 unfold cD;rw[cZ,je];refine SP.split_join 32 (by decide) _ (by simp) λw a=>?_;rcases uf.mp a with rfl | a
 ·decide
 ·exact(h w a).free (by decide)
theorem hH (h:∀s ∈ i, Nm s) (d:∀e ∈ z, Nm e.1 /\ Nm e.2):Txt.split (dH i z) "\n"=bh i z := by
 unfold dH bh;rw[cZ,mh];refine SP.split_join 10 (by decide) _ (by simp) λw c=>?_;rcases uf.mp c with rfl | c
 ·unfold cD;rw[cZ,mem_join];rintro (⟨t,b,a⟩ | ⟨_,a⟩)
  ·rcases uf.mp b with rfl | b
   ·exact absurd a (by decide)
   ·exact(h t b).free (by decide) a
  ·exact absurd a (by decide)
 ·obtain⟨e, f, rfl⟩ := uD.mp c;unfold bn;rw[cZ,mem_join];rintro (⟨t,b,a⟩ | ⟨_,a⟩)
  ·rcases uf.mp b with rfl | b
   ·exact(d e f).1.free (by decide) a
   ·rw[uE.mp b] at a;exact(d e f).2.free (by decide) a
  ·exact absurd a (by decide)
theorem fW (h:Nm e.1/\Nm e.2):(bn e).length<=22:=by
 rw[gX,Str.length_append,Str.length_append];have c:=h.1.2.1;have b:=h.2.2.1;have a:(" > ":Str).length=3:=by decide
 omega
theorem om (h:∀s∈i,Nm s) (e:i.length<=60):((("things":Str)::i).map (·.length)).sum+((("things":Str)::i)).length * (" ":Str).length<=1000:=by
 have c:=em (n:=8) (("things":Str)::i) λy a=>by
  rcases uf.mp a with rfl | a
  ·decide
  ·exact(h y a).2.1
 have b:(" ":Str).length=1:=by decide
 rw[b];have d:(("things":Str)::i).length=i.length+1:=uv;rw[d] at c ⊢;omega
theorem jh (h:∀s∈i,Nm s) (a:i.length<=60):(cD i).length<=1000:=uo (de _ _) (om h a)
theorem ni (h:∀s∈z,Nm s) (g:z.length<=60) (d:∀e∈i,Nm e.1/\Nm e.2) (a:i.length<=401):((bh z i).map (·.length)).sum+(bh z i).length * ("\n":Str).length<=100000:=by
 have k:=jh h g;have f:=em (n:=22) (i.map bn) λy c=>by
  obtain⟨e,j,rfl⟩:=uD.mp c;exact fW (d e j)
 have b:("\n":Str).length=1:=by decide
 unfold bh;rw[b,uG,List.sum_cons,uv,ub];rw[ub] at f;omega
theorem qo (h:∀s∈i,Nm s) (c:i.length<=60) (b:∀e∈z,Nm e.1/\Nm e.2) (a:z.length<=401):(dH i z).length<=100000:=uo (de _ _) (ni h c b a)
end L2
set_option maxHeartbeats 400000
namespace L2
open PySem PySem.Spec PyProof.Rows
theorem gO (y:s.heap.IsList l items) (u:s.heap.IsList b i) (hsz:(items.size != i.size)=true) (z:A.units<cLine) (h:Q (Value.bool true) s):wpAny (model prog w) A (compareOp CmpOp.NotEq (Value.ref l) (Value.ref b)) Q E s:=by
 obtain⟨⟨p,t,e,v⟩,q,o,n,k⟩:=id y;obtain⟨⟨f,m,a,j⟩,g,c,r,d⟩:=id u;have o:p=.type "list":=o;have k:e=.seq items n:=k;have c:f=.type "list":=c;have d:a=.seq i r:=d;subst o k c d;show wpAny (model prog w) A (richCompare CmpOp.NotEq (Value.ref l) (Value.ref b)) Q E s;refine richCompare_meets_room ⟨_,q,rfl⟩ ⟨_,g,rfl⟩ F.slot_list_ne F.entry_list_ne (F.args_list_ne_2 _ _) (SeqAt.list_ne_lengthsAt l b items i n r t m v j hsz) ⟨q,g,?_⟩ z;exact⟨(λx=>nomatch x),h⟩
end L2
set_option maxHeartbeats 4000000
namespace L2
open PySem PySem.Spec PyProof.Rows
def rq (G:Hp->V->Prop):Prop:=∀H H' x,Same H H'->G H x->G H' x
theorem Rd.same' (r:Rd H a u) (s:Same H H'):Rd H' a u:=by
 rcases r with r | ⟨o,r⟩
 ·exact .inl (s _ _ r)
 ·exact .inr ⟨o,s _ _ r⟩
theorem SqL.same' {K:W.Frag}{H H':Hp}{a:Addr}{xs:LV}(r:SqL K H a xs) (s:Same H H'):SqL K H' a xs:=by
 rcases r with r | r
 ·exact .inl (r.same' s)
 ·exact .inr r
theorem once {G T:Prop}(m:T->G) (t:T):G:=m t
end L2
namespace MG
def mx:List Int->Int
 | []=>0
 | x::l=>max x (mx l)
def dp (es:List (Nat × Nat)) (W:Nat->Int):Nat->Nat->Int
 | 0,_=>0
 | k+1,v=>W v+mx ((es.filter λe=>decide (e.2=v)).map λe=>dp es W k e.1)
end MG
namespace L2
open PySem PySem.Spec PyProof.Rows
def XF (B:Heap) (l:List Env) (a:Addr) (c:Value) (dd:Option Addr) (fl:Value) (h:Heap):Prop :=
 B.StaysIn h/\B.get? a=none/\h.FunFrames B l/\∃o vs T p ts,h.get? a=some o/\o.cls=c/\o.dict=dd/\o.data=.fields vs/\vs[1]? = some (.ref T)/\B.get? T=none/\T≠a/\h.get? T=some p/\p.data=.fields ts/\ts[3]? = some fl
theorem XF.there (x:XF B l a c dd i h):∃o,h.get? a=some o/\o.cls=c/\o.dict=dd:=by
 obtain⟨_,_,_,o,_,_,_,_,e,b,d,_⟩:=x;exact⟨o,e,b,d⟩
theorem XF.rec (x:XF B l a c dd z h):∃o i,h.get? a=some o/\o.data=.fields i:=by
 obtain⟨_,_,_,o,i,_,_,_,e,_,_,k,_⟩:=x;exact⟨o,i,e,k⟩
theorem XF.out (x:XF B (e0::l) a c dd i h):XF B l a c dd i h:=⟨x.1,x.2.1,x.2.2.1.2.2,x.2.2.2⟩
theorem oZ (f:Array Value->Array Value) (o:Obj):(Obj.mapFields f o).dict=o.dict:=by
 unfold Obj.mapFields
 split <;> rfl
section
variable {M:Model}{A:Around}{E:QS}{s:Shared}{B:Heap}{e0:Env}{out:List Env}{a L:Addr}{Q:Unit->Shared->Prop}
theorem mT (R:A.frames=some (e0 :: out)) (g:s.heap.FunFrames B (e0 :: out)) (P:e0.frame=some L) (r:s.heap.get? a=some o) (st:B.StaysIn s.heap) (t:B.get? a=none) (j:o.data=.fields G) (C:1<G.size)
    (k:∀h',XF B (e0::out) a o.cls o.dict (rawInt L) h'->s.heap.UpToSlots h'->Q () { s with heap:=h' }) :
    wpAny M A (do let f ← frameOf e0;let i ← entryPlaceOf L U;let b ← EntryCells.newEntry J f .none (rawInt L) .none i;setField (.ref a) 1 b) Q E s:=by
 have O:a∉(e0::out).filterMap (·.frame):=λz=>by
  obtain⟨_,p,n,q⟩:=g.mem z;exact q G (ue (r.symm.trans n) ▸ j)
 refine me (wpAny_frameOf_fun R g P λd l=>me (wpAny_entryPlaceOf λi v=>?_));unfold EntryCells.newEntry newFields;refine me (wpAny_newObj_type ?_ (v.sizeOk5 _ _ _ _ _));generalize n:([J,Value.ref L,Value.none,rawInt L,Value.none]++(if i.isEmpty then List.replicate 6 Value.none else i)).toArray=e;have K:e[3]? = some (rawInt L):=by rw[<- n];first | (simp;done) | (rcases v with rfl | ⟨_,_,_,_,_,_,_,rfl⟩ <;> simp)
 have I:d.get? a=some o:=(l.2.1 a O).trans r;have H:=ui (h:=d) { cls:=.type "traceback",dict:=none,data:=.fields e } I;have u:d.objs.size≠a:=Nat.ne_of_gt (ud I);have D:=Obj.data_mapFields j (·.setIfInBounds 1 (Value.ref d.objs.size));have F:∀b p,b≠a->d.get? b=some p->((d.push { cls:=.type "traceback",dict:=none,data:=.fields e }).update a (Obj.mapFields (·.setIfInBounds 1 (Value.ref d.objs.size)))).get? b=some p:=λb p N c=>by
  rw[u7 _ _ (Ne.symm N)];exact ui _ c
 have w:s.heap.UpToSlots ((d.push { cls:=.type "traceback",dict:=none,data:=.fields e }).update a (Obj.mapFields (·.setIfInBounds 1 (Value.ref d.objs.size)))):=λb p c q=>by
  obtain⟨x,m⟩:=l.2.2 b p c;exact⟨x,F b _ (λz=>q G (ue (r.symm.trans (z ▸ c)) ▸ j)) m⟩
 refine wpAny_setField H j C (k _ ?_ ?_)
 ·have y:B.StaysIn d:=λb p c=>(l.2.1 b λz=>by have:=(g.mem z).1;rw[c] at this;cases this).trans (st b p c);refine⟨λb p c=>F b p (λz=>by rw[z,t] at c;cases c) (y b p c),t,g.of_keeps λb p c q=>?_,_,_,d.objs.size,{ cls:=.type "traceback",dict:=none,data:=.fields e },e,vn _ H (Obj.isFreed_of_fields D),Obj.cls_mapFields _ _,oZ _ _,D,by simp[C],y.fresh,u,?_,rfl,K⟩
  ·obtain⟨x,m⟩:=w b p c q;exact⟨_,m,rfl⟩
  ·rw[u7 _ _ (Ne.symm u)];exact uw d rfl
 ·exact w
theorem kb (X:XF B l a c dd I s.heap):∃T p i,(∀h',h'=s.heap.update T (Obj.mapFields (·.setIfInBounds 3 x))->XF B l a c dd x h'/\s.heap.UpToSlots h') /\
    s.heap.get? T=some p/\p.data=.fields i/\i[3]? = some I/\∃o G,s.heap.get? a=some o/\o.data=.fields G/\G[1]? = some (.ref T):=by
 obtain⟨A,y,w,o,G,T,p,i,r,H,D,k,v,j,m,g,f,t⟩:=X;have E:3<i.size:=(vq.mp t).1;refine⟨T,p,i,λh' e=>?_,g,f,t,o,G,r,k,v⟩;have h:∀b,b≠T->h'.get? b=s.heap.get? b:=λb F=>by rw[e];exact u7 _ _ (Ne.symm F)
 have n:s.heap.UpToSlots h':=λb u d q=>⟨u.slots,(h b λz=>q i (ue (g.symm.trans (z ▸ d)) ▸ f)).trans d⟩
 refine⟨⟨λb u d=>(h b λz=>by rw[z,j] at d;cases d).trans (A b u d),y,w.of_keeps λb u d q=>?_,o,G,T,Obj.mapFields (·.setIfInBounds 3 x) p,i.setIfInBounds 3 x,(h a (Ne.symm m)).trans r,H,D,k,v,j,m,?_,Obj.data_mapFields f _,by simp[E]⟩,n⟩
 ·obtain⟨J,C⟩:=n b u d q;exact⟨_,C,rfl⟩
 ·rw[e];exact vn _ g (Obj.isFreed_of_fields (Obj.data_mapFields f _))
theorem kU (X:XF B l a c dd G s.heap) (k:∀h',XF B l a c dd .none h'->s.heap.UpToSlots h'->Q () { s with heap:=h' }):wpAny M A (setFlight (.ref a) none) Q E s:=by
 obtain⟨T,p,m,z,f,b,j,o,n,i,h,d⟩:=kb (x:=.none) X;unfold setFlight;refine me (uK i h d ?_);rw[if_pos (show (Value.ref T != Value.none)=true by simp)];obtain⟨e,g⟩:=z _ rfl;exact wpAny_setField f b (vq.mp j).1 (k _ e g)
theorem t8 (C:A.frames=some (e0::out)) (f:e0.frame=some L) (X:XF B (e0::out) a c dd .none s.heap)
    (k:∀h',XF B (e0::out) a c dd (rawInt L) h'->s.heap.UpToSlots h'->Q () { s with heap:=h' }):wpAny M A (noteFrame (.ref a) e0) Q E s:=by
 obtain⟨T,p,J,z,b,d,e,o,K,q,n,v⟩:=kb (x:=.none) X;unfold noteFrame;simp only[f];refine me (uK q n v ?_);rw[if_pos (show (Value.ref T != Value.none)=true by simp)];refine me (uK b d e ?_);rw[if_neg (show ¬ ((Value.none==rawInt L)=true) by simp[rawInt])];obtain⟨j,F⟩:=z _ rfl;refine me (wpAny_setField b d (vq.mp e).1 ?_);obtain⟨m,g,t,I,u,G,H,r,i,l,w,h,D,_⟩:=j;subst l w;exact mT (s:={ s with heap:=s.heap.update T (Obj.mapFields (·.setIfInBounds 3 Value.none)) }) C t f i m g h (vq.mp D).1 λh' x y=>k h' x (F.trans y)
theorem qj (j:A.frames=some (e0::out)) (f:s.heap.FunFrames B (e0::out)) (b:e0.frame=some L) (e:s.heap.get? a=some o) (st:B.StaysIn s.heap) (h:B.get? a=none) (d:o.data=.fields z) (c:z[1]? = some .none)
    (k:∀h',XF B out a o.cls o.dict .none h'->s.heap.UpToSlots h'->Q () { s with heap:=h' }):wpAny M A (leaving e0 (.ref a)) Q E s:=by
 unfold leaving noteFrame;simp only[b];refine me (me (uK e d c ?_));rw[if_neg (by decide)];refine mT j f b e st h d (vq.mp c).1 λh' x y=>?_;exact kU (s:={ s with heap:=h' }) x λg i l=>k g i.out (y.trans l)
end
theorem ObjOk.obj (x:ObjOk P w H h a o):∃i,h.get? a=some i:=by
 cases o with
 | lst xs=>obtain⟨_,_,_,_,e⟩:=x;exact⟨_,e⟩
 | tup xs=>obtain⟨_,_,_,i,e,_⟩:=x;exact⟨_,e⟩
 | dK kvs=>obtain⟨_,_,_,_,o,_,_,e,_⟩:=x;exact⟨_,e⟩
 | dT kvs=>obtain⟨_,_,_,_,o,_,_,e,_⟩:=x;exact⟨_,e⟩
 | set S n=>obtain⟨o,_,_,_,e,_⟩:=x;exact⟨_,e⟩
 | ins C dx fs=>obtain⟨_,_,_,e,_⟩:=x;exact⟨_,e⟩
 | own y=>obtain⟨_,e⟩:=x;exact⟨_,e⟩
 | xd fs=>obtain⟨_,⟨_,_,_,e,_⟩,_⟩:=x;exact⟨_,e⟩
 | rng lo hi=>obtain⟨_,_,_,e⟩:=x;exact⟨_,e⟩
 | frz i u=>obtain⟨e,_⟩:=x;exact⟨_,e⟩
 | tbl ps=>exact⟨_,(show h.get? a=some _ from x)⟩
 | met f y=>exact⟨_,(show h.get? a=some _ from x)⟩
 | ext φ=>obtain⟨_,e,_⟩:=x;exact e
def CX1 (P:Program) (w:World):CXT:=λouter H s E e s' =>
 ∃(a:Addr) (cls:Value) (dd:Option Addr) (B:Heap) (H':Hp),e=.ref a/\s'.os=s.os/\AllBare s'.gens/\Un (frs outer) [] H H' s.heap s'.heap/\HOk P w H' s'.heap/\XF B outer a cls dd .none s'.heap/\H' a=none /\
  (∀b u,H' b=some u->∃o,s'.heap.get? b=some o/\B.get? b=some o)/\(∀b o,s.heap.get? b=some o->H b=none->b∉frs outer->B.get? b=some o)/\(∀b o,s.heap.get? b=some o->b∉frs outer->∃o',B.get? b=some o')/\E cls dd H'
theorem rV {P:Program}{w:World}{K:W.Frag}{mg:Str -> OV}{base:Heap}{N:LS}{G:Str}{scope:Scope}{f:Addr}{O:Value}{A:Around}{i:List Env}{s:Shared}{H:Hp}{E:XK}{pins:AO_}{σ:St}{H1:Hp}{J:Shared}{e:Addr}{U:Obj}{Y:Array Value}
    (I:Inv (bq (CX1 P w) P w K mg base N G scope f O A i s H E) pins σ H1 J) (he:H1 e=none) (ge:J.heap.get? e=some U) (Z:U.data=.fields Y) (v1:Y[1]? = some .none) (C:s.heap.get? e=none) (q:E U.cls U.dict H1) :
    (bq (CX1 P w) P w K mg base N G scope f O A i s H E).xe (.ref e) J:=by
 show wpAny (model P w) (A.deeper (envOfC G scope s.heap.objs.size f O)) (leaving (envOfC G scope s.heap.objs.size f O) (.ref e)) (λ_ k=>CX1 P w i H s E (.ref e) k) (λe' k=>CX1 P w i H s E e' k) J;have Q:∀l∈(envOfC G scope s.heap.objs.size f O::i),∀b,l.frame=some b->b∈e::frs (envOfC G scope s.heap.objs.size f O::i):=λl he b a=>ur _ (List.mem_filterMap.mpr ⟨l,he,a⟩);refine qj (B:=W.hideAll J.heap (e::frs (envOfC G scope s.heap.objs.size f O::i))) (out:=i) (L:=s.heap.objs.size) I.ok.frames (W.funFrames_hide I.stack Q) rfl ge (λb o z=>W.of_hideAll _ z) (W.hideAll_none _ (.head _)) Z v1 λh2 m x4=>?_;have trk:∀b u,H1 b=some u->∃o,J.heap.get? b=some o/\(W.hideAll J.heap (e::frs (envOfC G scope s.heap.objs.size f O::i))).get? b=some o:=λb u p=>by
  obtain⟨o,R⟩:=ObjOk.obj (I.hok b u p);refine⟨o,R,W.hideAll_get _ R λz=>?_⟩;rcases uf.mp z with z | z
  ·rw[z,he] at p;cases p
  ·have:=I.stkFree b z;rw[p] at this;cases this
 have v:∀b o,s.heap.get? b=some o->H b=none->b∉frs i->(W.hideAll J.heap (e::frs (envOfC G scope s.heap.objs.size f O::i))).get? b=some o:=λb o z n a=>by
  have g:J.heap.get? b=some o:=I.base.keep b o z n a (by intro y;cases y);refine W.hideAll_get _ g λy=>?_;rcases uf.mp y with y | y
  ·rw[y,C] at z;cases z
  rcases uf.mp (I.stkSub b y) with r | r
  ·have r:b=s.heap.objs.size:=r;exact absurd (r ▸ ud z) (uY _)
  ·exact a r
 have x:∀b o,s.heap.get? b=some o->b∉frs i->∃D,(W.hideAll J.heap (e::frs (envOfC G scope s.heap.objs.size f O::i))).get? b=some D:=λb o z a=>by
  obtain⟨h,g⟩:=I.base.there b o z (by intro y;cases y);refine⟨h,W.hideAll_get _ g λy=>?_⟩;rcases uf.mp y with y | y
  ·rw[y,C] at z;cases z
  rcases uf.mp (I.stkSub b y) with r | r
  ·have r:b=s.heap.objs.size:=r;exact absurd (r ▸ ud z) (uY _)
  ·exact a r
 refine⟨e,U.cls,U.dict,_,H1,rfl,I.os,I.bare,?_,λc o S=>(I.hok c o S).stay (λd u T V=>?_) (λ_ z=>z) λ_ _ z=>z,m,he,λb u p=>?_,v,x,q⟩
 ·refine⟨λb o z n a _ => m.1 b o (v b o z n a), λb o z n a j => ?_, λb o z n j => I.base.free b o z n j, λb o z j => ?_, I.base.tups, I.base.frzs, I.base.tbls⟩
  ·obtain⟨sl,g⟩:=I.base.slot b o z n a j;obtain⟨_,h,M,X⟩:=(I.ok.funs.mem a)
   have:h=o:=ue (M.symm.trans z);subst this;obtain⟨F,t⟩:=x4 b _ g (by intro Y y;exact X Y y);exact⟨F,t⟩
  ·by_cases a:b∈frs i
   ·obtain⟨_,h,M,_⟩:=m.2.2.1.mem a;exact⟨_,M⟩
   ·obtain⟨D,g⟩:=x b o z a;exact⟨D,m.1 b D g⟩
 ·have tr:∃z,H1 d=some z:=by
     rcases T with r | r
     ·exact⟨_,r ▸ S⟩
     ·exact⟨_,r⟩
  obtain⟨z,hz⟩:=tr;obtain⟨h,g,t⟩:=trk d z hz;have:u=h:=ue (V.symm.trans g);rw[this];exact m.1 d h t
 ·obtain⟨h,g,t⟩:=trk b u p;exact⟨h,m.1 b h t,t⟩
section
variable {M:Model}{A:Around}{E:QS}{nm q nm' q':Str}{C N D N':Addr}{bs bm bs' bm':LW}{hdct hdct':Bool}{sn sn':LS}{sub sub':LW}{ab ab':Bool}{col col':Option Bool}{dd dd':Option Addr}{k0 k1 k2 k3 k5 j0 j1 j2 j3 j5:OV}{newId newId':String}
theorem jK {g:Array GenState}{d:Drawn}{t:Nat}{os:OsState}{Q:Bool -> Shared -> Prop}
    (k:h.get? C=some (excClassObj nm q C N bs bm hdct sn sub ab col dd k0 k1 k2 k3 k5 newId)) (he:h.get? e=some z) (a:z.cls=.ref C)
    (i:h.get? D=some (excClassObj nm' q' D N' bs' bm' hdct' sn' sub' ab' col' dd' j0 j1 j2 j3 j5 newId')) (j:bm'.contains (.type "BaseException")=true)
    (b:(Value.ref C::bm).contains (.ref D)=true) (l:Q true ⟨h,g,d,t,os⟩):wpAny M A (excMatches (.ref e) (.ref D)) Q E ⟨h,g,d,t,os⟩:=by
 have c:(Value.ref D::bm').contains (.type "BaseException")=true:=by rw[List.contains_cons,j,Bool.or_true]
 have f:=tc_notTuple;unfold excMatches
 repeat first
  | (with_reducible refine wpAny_loadPart_at he ?_
     rw[a])
  | with_reducible refine wpAny_loadPart_at i ?_
  | (with_reducible refine wpAny_isSubtype_exc i ?_
     rw[c])
  | (with_reducible refine wpAny_isSubtype_exc k ?_
     rw[b])
  | wp_step
 exact l
end
theorem ke {X:Cx}{pins:AO_}{σ:St}{H1 H':Hp}{i s':Shared}{B h5:Heap}{a:Addr}{cls fz:Value}{dd:Option Addr}(I:Inv X pins σ H1 i) (G:X.stack=X.env :: X.outer) (J:X.env.frame=some X.env.locals)
    (P:s'.os=i.os) (l:AllBare s'.gens) (p:Un (frs X.stack) [] H1 H' i.heap s'.heap) (K:HOk X.prog X.w H' s'.heap) (t:XF B X.stack a cls dd fz h5) (sm:s'.heap.UpToSlots h5)
    (Z:∀b u,H' b=some u->∃o,s'.heap.get? b=some o/\B.get? b=some o) (U:∀b o,i.heap.get? b=some o->H1 b=none->b∉frs X.stack->B.get? b=some o) (R:∀b o,i.heap.get? b=some o->b∉frs X.stack->∃o',B.get? b=some o') :
    Inv X pins σ H' { s' with heap:=h5 }:=by
 obtain⟨hh,g,d,O,A⟩:=s';obtain rfl:A=i.os:=P;have j:frs X.stack=X.env.locals::X.fs:=by rw[G];unfold frs;rw[List.filterMap_cons,J];rfl
 have E:∀b,b≠X.env.locals->b∉X.fs->b∉frs X.stack:=λb H C z=>by
  rw[j] at z;rcases uf.mp z with r | r
  ·exact H r
  ·exact C r
 have L:∀b,b∈X.fs->b∈frs X.stack:=λb f=>by rw[j];exact ur _ f
 have x:∀ {b:Addr} {o:Obj},b∈frs X.stack->i.heap.get? b=some o->∀q,o.data≠.fields q:=λf e q=>by
  obtain⟨_,v,D,W⟩:=I.stack.mem f;have:=ue (D.symm.trans e);exact this ▸ W q
 have h:∀b o,b∈frs X.stack->i.heap.get? b=some o->H1 b=none->∃F,h5.get? b=some { o with slots:=F }:=λb o f e n=>by
  obtain⟨F,k⟩:=p.slot b o e n f (by intro z;cases z);obtain⟨w,M⟩:=sm b _ k (λq z=>x f e q z);exact⟨w,M⟩
 show Inv X pins σ H' { i with heap:=h5,gens:=g,drawn:=d,toks:=O };refine Inv.step (s:=i) (h':=h5) (g':=g) (d':=d) (t':=O) (ch:=[]) I (λb f=>by cases f) (λb o H C _ e n=>t.1 b o (U b o e n (E b H C))) (λb o _ f _ e n=>h b o (L b f) e n) (λb o _ e n=>p.free b o e n (by intro z;cases z)) (λb o _ e=>?_) p.tups p.frzs p.tbls (λm Q=>?_) (λc o N=>(K c o N).stay (λd u y S=>?_) (λ_ z=>z) λ_ _ z=>z) l
 ·by_cases f:b∈frs X.stack
  ·obtain⟨_,v,D,_⟩:=t.2.2.1.mem f;exact⟨_,D⟩
  ·obtain⟨o',k⟩:=R b o e f;exact⟨o',t.1 b o' k⟩
 ·obtain⟨o,V,Y,T,y,r⟩:=Q;obtain⟨F,k⟩:=h X.env.locals o (by rw[j];simp) T I.free;exact⟨_,V,Y,k,y,r⟩
 ·have tr:∃z,H' d=some z:=by
     rcases y with r | r
     ·exact⟨_,r ▸ N⟩
     ·exact⟨_,r⟩
  obtain⟨z,hz⟩:=tr;obtain⟨v,k,M⟩:=Z d z hz;have:u=v:=ue (S.symm.trans k);rw[this];exact t.1 d v M
abbrev Cx.mark (X:Cx) (e:Value) (E:QS):Cx:={ X with A:=X.A.mark (some e),calm:=false,xe:=E }
section
variable {X:Cx}{pins:AO_}{σ:St}{H:Hp}{s:Shared}{e:Value}{E:QS}
theorem Cx.Ok.mark (a:X.Ok):(X.mark e E).Ok :=
 ⟨a.mod,a.kind,a.glob,a.blt,a.above,a.inj,a.has,a.cab,λz=>(by cases z),a.frames,a.stk,a.exf,a.bs,a.bsz,a.noex,a.exfs,a.funs,a.frf⟩
theorem Inv.mark (I:Inv X pins σ H s):Inv (X.mark e E) pins σ H s:=⟨I.ok.mark,I.os,I.bare,I.base,I.loc,I.cell,I.free,I.freeC,I.pin,I.hok,I.len⟩
theorem Inv.unmark (a:X.Ok) (I:Inv (X.mark e E) pins σ H s):Inv X pins σ H s:=⟨a,I.os,I.bare,I.base,I.loc,I.cell,I.free,I.freeC,I.pin,I.hok,I.len⟩
theorem gA (I:Inv X pins σ H s) (U:X.N.Nodup) (G:X.N[i]? = some n) (P:X.env.kindOf n=some .local)
    (h:∀s',Inv X pins (σ.set i none) H s'->Q () s'):wpAny M A (do bindName X.env n .none;unbindBehindTheSuite X.env n pos) Q E s:=by
 obtain⟨m,F,Y⟩:=id I.loc;have u:(X.env.scope.kind==.class||(X.env.scope.kind==.module&&X.env.locals != X.env.globals))=false:=by rw[I.ok.kind];rfl
 have t:i<σ.length:=by rw[I.len];exact(uh.mp G).1
 have r:=I.cne;refine wpAny_nameGoes_keeps P F u λO v B f=>?_;obtain⟨oL,_,_,N,_⟩:=id F;have a:HOk X.prog X.w H O:=λb ob e=>by
  refine(I.hok b ob e).stay (λc K w q=>(f.2 c ?_).trans q) (λ_ q=>q) λ_ _ q=>q;rintro rfl;rcases w with z | w
  ·have:=I.free;rw[z] at this;rw[this] at e;cases e
  ·rw[I.free] at w;cases w
 refine h _ ⟨I.ok,I.os,I.bare,⟨λb o e n C l=>?_,λb o e n C l=>?_,I.base.free,λb o e l=>?_,I.base.tups,I.base.frzs,I.base.tbls⟩,⟨_,B,λj y V g x R=>?_⟩,λy c e=>?_,I.free,I.freeC,λp hp=>?_,a,by simpa using I.len⟩
 ·exact(f.2 b (um (uI (ud e) I.ok.above))).trans (I.base.keep b o e n C l)
 ·obtain⟨T,g⟩:=I.base.slot b o e n C l;exact⟨T,(f.2 b (um (uI (ud e) I.ok.above))).trans g⟩
 ·obtain⟨S,g⟩:=I.base.there b o e l;exact⟨S,(f.2 b (um (uI (ud e) I.ok.above))).trans g⟩
 ·by_cases D:j=i
  ·subst D;rw[List.getElem?_set_self t] at x;cases x
  ·rw[List.getElem?_set_ne (Ne.symm D)] at x;obtain⟨W,L,q⟩:=Y j y V g x R;refine⟨W,L,?_⟩;rcases q with⟨k,e⟩ | ⟨k,c,e,z⟩
   ·refine .inl ⟨k,?_⟩;have:y≠n:=λe=>D (fU U g (e ▸ G));simp[this,e]
   ·exact .inr ⟨k,c,e,z.sameBut f (r y c e)⟩
 ·obtain⟨K,z⟩:=I.cell y c e;exact⟨K,z.sameBut f (r y c e)⟩
 ·obtain⟨e,n,J,Z,d⟩:=I.pin p hp;exact⟨(f.2 p.1 J).trans e,n,J,Z,d⟩
theorem Inv.track (j:Inv X pins σ1 H1 G) (I:Inv X pins σ H s) (w:G.heap.get? a=none) (J:H a=none) (m:ObjOk X.prog X.w (upd H a o) s.heap a o):Inv X pins σ (upd H a o) s := by
 have L:∀d,X.s₀.heap.get? a=some d->a∈X.ex:=λd e=>by
  by_cases i:a∈X.ex
  ·exact i
  ·obtain⟨O,B⟩:=j.base.there a d e i;rw[w] at B;cases B
 have h:∀ {b:Addr} {u:HO},H b=some u->b≠a:=λe z=>by rw[z,J] at e;cases e
 have f:∀ {b:Addr} {d:Obj},G.heap.get? b=some d->b≠a:=λe z=>by rw[z,w] at e;cases e
 obtain⟨M,l,_⟩:=id j.loc;obtain⟨N,_,_,k,_⟩:=l;refine⟨I.ok,I.os,I.bare,⟨I.base.keep,I.base.slot,λb d e n i=>?_,I.base.there,λb t e=>?_,λb x y e=>?_,λb E e=>?_⟩,I.loc,I.cell,?_,λx c e=>?_,λp C=>?_,λb u e=>?_,I.len⟩
 ·have:b≠a:=λz=>i (z ▸ L d (z ▸ e));rw[aj this];exact I.base.free b d e n i
 ·have z:=I.base.tups b t e;rw[aj (h z)];exact z
 ·have z:=I.base.frzs b x y e;rw[aj (h z)];exact z
 ·obtain⟨g,z⟩:=I.base.tbls b E e;exact⟨g,by rw[aj (h z)];exact z⟩
 ·rw[aj (f k)];exact I.free
 ·obtain⟨v,P,z,_⟩:=j.cell x c e;rw[aj (f z)];exact I.freeC x c e
 ·obtain⟨K,D,r⟩:=I.pin p C;obtain⟨F,_⟩:=j.pin p C;exact⟨K,by rw[aj (f F)];exact D,r⟩
 ·by_cases A:b=a
  ·subst A;rw[ah] at e;cases e;exact m
  ·rw[aj A] at e;exact(I.hok b u e).stay (λ_ _ _ z=>z) (λc q=>by rw[aj (h q)];exact q) λc t q=>by rw[aj (h q)];exact q
end
def XAt (h:Heap) (C:Addr) (bm:LW):Prop :=
 ∃nm q N bs hdct sn sub ab col dd k0 k1 k2 k3 k5 newId,h.get? C=some (excClassObj nm q C N bs bm hdct sn sub ab col dd k0 k1 k2 k3 k5 newId)
def eI (a C:Addr) (dd:Option Addr):HO:=.ext λh=>∃o,h.get? a=some o/\o.cls=.ref C/\o.dict=dd/\W.notCls o=true
section
open PySem.W PySem.Calls Builtin Builtin.ObjectAttr Builtin.Getset_descriptor
structure XFacts (K:Frag) (C:Addr):Prop where
 ga:findIn K (.ref C) "__getattribute__"=some (some (.builtin "BaseException.__getattribute__"))
 gb:findIn K (.ref C) "__getattr__"=some none
 ha:findIn K (.ref C) "__class__"=some (some (.builtin "object.__class__"))
 hn:specialIn K (.builtin "object.__class__") "__get__"=some (some (.builtin "getset_descriptor.__get__"))
 ht:takesIn K (.builtin "object.__class__")=some true
 hm:mroIn K C (.type "object")=some true
 hb:mroIn K C (.type "BaseException")=some true
 cl:(clsIn K C).isSome=true
def XIs (x C:Addr) (h:Heap):Prop:=∃o,h.get? x=some o/\o.cls=.ref C
variable {K:Frag}{x C:Addr}{h:Heap}{M:Model}
theorem XIs.type (p:XIs x C h):Looks M h (typeOf (.ref x)) (.ref C):=by
 obtain⟨o,e,c⟩:=p;exact c ▸ (Looks.ld e).andThen .now
theorem XFacts.found (Z:XFacts K C) (X:K.In h):Looks M h (find (.ref x) (.ref C) "__class__") (.bind (.builtin "getset_descriptor.__get__") (.builtin "object.__class__")):=by
 have b:=looks_findIn (M:=M) X Z.ha;have a:Looks M h (getOf (some (.builtin "object.__class__"))) (some (.builtin "getset_descriptor.__get__")):=looks_specialIn X Z.hn;have c:Looks M h (dataDescriptor? (some (.builtin "object.__class__")) (some (.builtin "getset_descriptor.__get__"))) (some (.builtin "getset_descriptor.__get__",.builtin "object.__class__")):=(looks_takesIn (M:=M) X Z.ht).andThen .now;exact b.andThen (a.andThen (c.andThen (Looks.tag .now)))
variable {prog:Program}{w:World}{A:Around}{E:QS}{s:Shared}
theorem rz (Z:XFacts K C) (X:K.In s.heap) (p:XIs x C s.heap) (h:R (.ok (.ret (.ref C))) s) :
    codeAny (model prog w) A (.call (.builtin "getset_descriptor.__get__") ⟨[.builtin "object.__class__",.ref x,tp],[]⟩) R s:=by
 have e:=p.type (M:=model prog w);have a:=looks_mroIn (M:=model prog w) X Z.hm;obtain⟨b,g,d,t,c⟩:=s;refine codeAny_call_builtin KF.slot_gs.plain KF.entry_gs (KF.slot_gs.check _ _ _ _ _ _ _ _ KF.type_class (KF.args_gs _ _ _) ?_);simp only[Builtin.«getset_descriptor.__get__»,descrGet,dga_obj];refine me (uc ?_);simp only[descrGetter,descrCheckInstance,descrNameAndClass,isInstance,KF.owner_class]
 repeat lk
 refine⟨Code.quiet_builtin _ (by decide +kernel),codeAny_builtin KF.entry_class ?_⟩;simp only[Builtin.«object.__class__»,shownTypeOf]
 repeat lk
 exact h
theorem tS (Z:XFacts K C) (X:K.In s.heap) (p:XIs x C s.heap) (h:R (.ok (.ret (.ref C))) s) :
    codeAny (model prog w) A (.call (.builtin "BaseException.__getattribute__") ⟨[.ref x,.str "__class__" tk],[]⟩) R s:=by
 have k:=p.type (M:=model prog w);have c:=looks_mroIn (M:=model prog w) X Z.hb;have i:=Z.found (M:=model prog w) (x:=x) X;have b:builtinKind "BaseException.__getattribute__"=some .slot:=by decide +kernel
 have a:splitId "BaseException.__getattribute__"=some ("BaseException","__getattribute__"):=by decide +kernel
 have d:=PySem.F.args_bexc_ga (.ref x) (.str "__class__" tk);obtain⟨e,g,j,t,f⟩:=s;refine codeAny_call_builtin PySem.F.attr_ValueError.ga.plain PySem.F.entry_bexc_ga ?_;simp only[checkBuiltinCall,b,a];refine me ?_;unfold isInstance
 repeat lk
 show wpAny _ _ (run (.call (.builtin "getset_descriptor.__get__") ⟨[.builtin "object.__class__",.ref x,.ref C],[]⟩) none) _ _ _;refine wpAny_run (rz Z X p ?_);exact uc (uc h)
theorem oA (Z:XFacts K C) (X:K.In s.heap) (p:XIs x C s.heap) (h:Q (some (.ref C)) { s with toks:=s.toks+1 }):wpAny (model prog w) A (getAttr? (.ref x) "__class__") Q E s:=by
 have d:=p.type (M:=model prog w);have a:=looks_findIn (M:=model prog w) X Z.ga;have b:=looks_findIn (M:=model prog w) X Z.gb;have c:=PySem.F.attr_ValueError.ga.bind (.ref x);obtain⟨e,g,i,t,f⟩:=s;simp only[getAttr?,getAttrBy?,getAttrBy];refine me (wpAny_mkText (me (wpAny_attempt (uU (me (d.at (me (a.at ?_))))))));show wpAny _ _ (getAttrByItsOwn _ _ _ _ _ _) _ _ _;refine me ?_;show wpAny _ _ (typeLookup (.ref C) "__getattr__") _ _ _;refine b.at (me (wpAny_attempt (uU ?_)));show wpAny _ _ (boundAndCalled _ _ _) _ _ _;unfold boundAndCalled;rw[c];refine me (uc ?_);show wpAny _ _ (call (.builtin "BaseException.__getattribute__") [.ref x,.str "__class__" t]) _ _ _;refine wpAny_call (tS Z X p ?_);show wpAny _ _ (handedOut (Value.ref C)) _ _ _;exact handed_on rfl (uc h)
theorem iG (Z:XFacts K C):KitX K (.ref x) (.ref C) (XIs x C) where
 ty:=λ_ _ _ p=>p.type
 it:=λM h X _=>by
  obtain⟨cd,hc⟩:=vc.mp Z.cl;unfold clsIn at hc
  split at hc
  ·rename_i ho
   intro A' Q' E' s' k q;unfold isType loadHead;exact me (wpAny_loadPart (k _ _ (X _ _ ho)) (uc q))
  ·cases hc
 ne:=λh tp dd its n sl X htp=>by
  obtain⟨cd,hc⟩:=vc.mp Z.cl;refine Bool.eq_false_iff.mpr λq=>?_;cases Value.ref.inj (beq_iff_eq.mp q);unfold clsIn at hc
  split at hc
  ·rename_i ho
   cases (X _ _ ho).symm.trans htp
  ·cases hc
 ca:=λX p k=>oA Z X p k
end
section
variable {X:Cx}{pins:AO_}{σ:St}{H:Hp}{s:Shared}{A:Around}{E:QS}{Q:QS}{e f:Expr}{t:TA}{p pos:Pos}
theorem jT (I:Inv X pins σ H s) (h:H a=some (eI a C dd)):XIs a C s.heap:=let ⟨o,e,c,_⟩:=(show ObjOk X.prog X.w H s.heap a (eI a C dd) from I.hok a _ h).1;⟨o,e,c⟩
def rB (K:W.Frag):LV->Hp->VK->Prop:=λxs H Q=>∃a C dd c u b,xs=[.ref a,c]/\H a=some (eI a C dd)/\XFacts K C/\(∀v,RelV c v->v=u)/\W.kitOne K (.ref C) u=some b/\Q (.bl b) H
theorem oV:bK X (.builtin "isinstance") (rB X.K):=by
 intro d s o H m p Q I r h;obtain⟨a,C,n,c,u,b,rfl,i,Z,g,e,q⟩:=h;obtain⟨t,k,rfl,j,f⟩:=eU r;cases j;cases g k f;exact W.kia_one (iG Z) I.kIn (jT I i) e (λz=>nomatch z) λl=>⟨.bl b,H,I.tok l,rfl,q⟩
theorem pj (K:W.Frag) (B:Blt X.mg) (b:PA X [e,f] t) (a:Gl X "isinstance":=by rfl) (he:starEach [e,f] X.env=(false,eval e X.env)::starEach [f] X.env:=by rfl) (hpl:(backTo pos (starEach [f] X.env)).any (·.1)=false:=by rfl) (c:X.K=K:=by rfl) :
    PE X (.Call (.Name "isinstance" p) [e,f] [] pos) (tCB (rB K) t) :=
 c ▸ bJ oV a B.isinstance boot_isinstance b (by decide) (by decide) he hpl
def pk (K:W.Frag):LV->Hp->VK->Prop:=λxs H Q=>∃(a C:Addr) (dd:Option Addr) (tp:Addr) (cs:List Addr) (b:Bool),xs=[.ref a,.ref tp]/\H a=some (eI a C dd)/\H tp=some (.tup (cs.map V.ref))/\XFacts K C/\W.kitAny K (.ref C) (cs.map Value.ref)=some b/\Q (.bl b) H
theorem ic:∀ {cs:List Addr}{its:LW},Vals (cs.map V.ref) its->its=cs.map Value.ref
 | [],_,.nil=>rfl
 | c::cs,_,.cons r t=>by
  cases r;exact congrArg _ (ic t)
theorem mD:bK X (.builtin "isinstance") (pk X.K):=by
 intro i s A H w B Q I r h;obtain⟨a,C,x,tp,y,b,rfl,o,m,Z,e,q⟩:=h;obtain⟨F,D,rfl,p,j⟩:=eU r;cases p;cases j;obtain⟨_,d,u,⟨t,E,f,l⟩,k,c,n,g,_⟩:=(show ObjOk X.prog X.w H s.heap tp (.tup _) from I.hok tp _ m)
 have c:t=.type "tuple":=c;have g:f=.seq d.toArray n:=g;subst c g;cases ic u;exact W.kia_tup (iG Z) I.kIn (jT I o) k e (λz=>nomatch z) λv=>⟨.bl b,H,I.tok v,rfl,q⟩
theorem lS (K:W.Frag) (B:Blt X.mg) (b:PA X [e,f] t) (a:Gl X "isinstance":=by rfl) (he:starEach [e,f] X.env=(false,eval e X.env)::starEach [f] X.env:=by rfl) (hpl:(backTo pos (starEach [f] X.env)).any (·.1)=false:=by rfl) (c:X.K=K:=by rfl) :
    PE X (.Call (.Name "isinstance" p) [e,f] [] pos) (tCB (pk K) t) :=
 c ▸ bJ mD a B.isinstance boot_isinstance b (by decide) (by decide) he hpl
end
section
variable {P:Program}{w:World}{K:W.Frag}{mg:MS}{base:Heap}
theorem Fun.okX {x z:Str}{st:Stmt}{f:Addr}{fd:FuncData}{N ps:LS}{k:Nat}{sp:Sp}(F:Fun K x z st f fd) (S:FnScope N ps (ao st)) (c:∀I H Q E, sp I H Q E -> I.length=ps.length)
    (a:∀(G:Value) (A:Around) (i:List Env) (s:Shared) (H:Hp) (I:LV) (Q:VK) (E:XK),Room k (A.deeper (envOfC z (ao st) s.heap.objs.size f G))->sp I H Q E ->
     ∃t,PSs (bq (CX1 P w) P w K mg base N z (ao st) f G A i s H E) (aU st) t/\t { nx:=λ_ H'=>Q .non H',rt:=Q } (bQ N I) H):FnOk P w K mg base (CX1 P w) (k+1) f fd ps sp:=by
 obtain⟨l,n,kV,g,m,o,G,p,j,rfl,h,b⟩:=F.ex;exact pA h b S c λA i s H I Q E e d=>a G A i s H I Q E e d
theorem FnOk.lift (F:FnOk P w K mg base CX0 k f fd ps sp):FnOk P w K mg base (CX1 P w) k f fd ps sp :=
 ⟨F.len,λA a s H b i j Q E g m c d l=>codeAny_mono (F.run A a s H b i j Q E g m c d l) λr n h=>by
  cases r with
  | ok fl=>cases fl <;> exact h
  | error e=>exact False.elim h⟩
structure CalX (P:Program) (w:World) (K:W.Frag) (mg:MS) (base:Heap) (k:Nat) (x:Str) (ps:LS) (sp:Sp):Prop where
 ex:∃(f:Addr) (fd:FuncData),FnOk P w K mg base (CX1 P w) k f fd ps sp/\mg x=some (.ref f)/\W.keepIn K (.ref f)=true/\Binds K fd ps []
variable {x:Str}{C N:Addr}{bmB bm bs:LW}{newId:String}{nm q:Str}{hdct:Bool}{sn:LS}{sub:LW}{ab:Bool}{col:Option Bool}{dd:Option Addr}{k0 k1 k2 k3 k5:OV}{h:Heap}
theorem rE (X:K.In h) (a:mg x=some (.ref C)) (c:K.lookup C=some (excClassObj nm q C N bs bm hdct sn sub ab col dd k0 k1 k2 k3 k5 newId)) (b:W.nsOkIn K N=true) (e:W.nsIn K N "__init__"=some none)
    (d:W.tailIn K bmB bm=true):OwnCls x C bmB newId mg h :=
 ⟨a,bm,N,nm,q,bs,hdct,sn,sub,ab,col,dd,k0,k1,k2,k3,k5,_,X _ _ c,.of_isNs (W.isNs_of_in X b),W.nsMap_none_of_in X b e,W.tail_of_in X d⟩
theorem lJ (X:K.In h) (a:K.lookup C=some (excClassObj nm q C N bs bm hdct sn sub ab col dd k0 k1 k2 k3 k5 newId)):XAt h C bm :=
 ⟨nm,q,N,bs,hdct,sn,sub,ab,col,dd,k0,k1,k2,k3,k5,newId,X _ _ a⟩
end
structure Errs (K:W.Frag) (mg:MS) (base:Heap) (ec:Str->Addr) (l c:LS):Prop where
 b:∀x∈l,mg x=some (.ref (ec x))
 f:∀x∈c,XFacts K (ec x)
 ord:("OrderError":Str)∈c
 kit:∀x∈c,x≠"OrderError"->∀y∈l,W.kitOne K (.ref (ec x)) (.ref (ec y))=some (y==x||y==("OrderError":Str))
 val:∀x∈c,W.kitOne K (.ref (ec x)) (.type "ValueError")=some true
 at_:∀x∈c,∃bm,XAt base (ec x) bm/\bm.contains (.type "BaseException")=true/\(Value.ref (ec x)::bm).contains (.ref (ec "OrderError"))=true
 nv:mg "ValueError"=none
 own:∀x∈c,x∉(["NoText","Ring","NoUnit"]:LS)->OwnCls x (ec x) [.type "ValueError",.type "Exception",.type "BaseException",.type "object"] "ValueError.__new__" mg base
theorem ft {K:W.Frag}{t:Value}:∀ {cs:LW},(∀c∈cs,W.kitOne K t c=some false)->W.kitAny K t cs=some false
 | [],_=>rfl
 | c::cs,h=>by
  unfold W.kitAny;rw[h c (uZ ..)];exact ft λd hd=>h d (ur _ hd)
section
variable {K:W.Frag}{mg:MS}{base:Heap}{ec:Str->Addr}{l c:LS}
theorem Errs.none_of (k:Errs K mg base ec l c) {x:Str}(b:x∈c) (j:x≠"OrderError") {ys:LS}(h:∀y∈ys,y∈l/\y≠x/\y≠"OrderError"):W.kitAny K (.ref (ec x)) ((ys.map ec).map Value.ref)=some false:=by
 refine ft λd a=>?_;rw[u6] at a;obtain⟨y,f,rfl⟩:=uD.mp a;obtain⟨i,g,e⟩:=h y f;show W.kitOne K (.ref (ec x)) (.ref (ec y))=some false;rw[k.kit x b j y i];simp[g,e]
end
theorem jx:bootBuiltins "ValueError"=some (.type "ValueError"):=by decide +kernel
abbrev cQ (C:Addr) (dd:Option Addr) (t:Addr):Obj:={ cls:=.ref C,dict:=dd,data:=.fields #[.ref t,.none,.none,.none,.bool false,.none] }
abbrev oO (us:LW):Obj:={ cls:=.type "tuple",data:=.seq us.toArray }
def bN (a C:Addr) (dd:Option Addr):HO:=.ext λh=>∃t,h.get? a=some (cQ C dd t)
section
variable {prog:Program}{w:World}{A:Around}{E:QS}{h:Heap}{g:Array GenState}{d:Drawn}{tk:Nat}{os:OsState}
variable {nm q:Str}{C N fI:Addr}{oI:Obj}{bs bm bmB bmN:LW}{hdct:Bool}{sn:LS}{sub:LW}{ab:Bool}{col:Option Bool}{dd:Option Addr}{k0 k1 k2 k3 k5:OV}{B Bn newId nid initId inN:String}{mN:MS}{us:LW}
theorem lj (j:ExcBaseFacts Bn newId inN bmN) (c:bmB.contains (.type Bn)=true) (F:ExcBaseFacts B nid initId bmB) (T:OwnTail h bmB bm) (a:h.get? C=some (excClassObj nm q C N bs bm hdct sn sub ab col dd k0 k1 k2 k3 k5 newId)) (u:h.Ns N mN)
    (n:mN "__init__"=some (.ref fI)) (v:h.get? fI=some oI) (s:oI.cls=.type "function") (p:us.length<=sizeLine)
    (k:∀h' e,Heap.MadeExcOf h h' e (.ref C) us->wpAny (model prog w) A (call (.ref fI) (.ref e::us)) (λr s'=>r=.none/\Q (.done (.ret (.ref e))) s') E ⟨h',g,d,tk,os⟩) :
    wpAny (model prog w) A (Builtin.«type.__call__» ⟨.ref C::us,[]⟩) Q E ⟨h,g,d,tk,os⟩:=by
 repeat (first | with_reducible refine wpAny_madeBy_exc a ?_ | with_reducible refine wpAny_loadPart_at a ?_ | wp_step)
 refine codeAny_call_builtin_code (Code.quiet_builtin _ j.quiet) (wpAny_check_new_subU j c T a (codeAny_exc_new_subU j c F T a ?_ p));show wpAny _ _ _ _ _ _;have f:∀b o,h.get? b=some o->((h.push (oO us)).push (cQ C none h.objs.size)).get? b=some o:=λb o z=>ui _ (ui _ z);have l:((h.push (oO us)).push (cQ C none h.objs.size)).get? (h.objs.size+1)=some (cQ C none h.objs.size):=by heap_get
 have m:=f _ _ a;have t:(Value.ref C::bm).contains (.ref C)=true:=by simp
 have i:((h.push (oO us)).push (cQ C none h.objs.size)).Ns N mN:=u.keeps f;unfold isInstance
 repeat (first | with_reducible refine wpAny_loadPart_at l ?_ | (with_reducible refine wpAny_isSubtype_exc m ?_;rw[t]) | wp_step)
 show wpAny _ _ (typeLookup (.ref C) "__init__") _ _ _;refine wpAny_typeLookup_tail m i (T.keeps f) F.mroIs F.init.lookup ?_;rw[n];refine uU (me ?_);unfold bindSpecial;refine me (wpAny_typeOf (T:="function") ⟨oI,f _ _ v,s⟩ ?_);rw[if_pos (by decide)];refine uc (me (uR (k _ (h.objs.size+1) ⟨f,vv (Nat.le_succ _),h.objs.size,l,vv (ua _),ui _ (Heap.get?_push_at rfl rfl)⟩) (λr s' z=>?_) λ_ _ x=>x));obtain⟨rfl,z⟩:=z
 wp_walk
 exact z
theorem lX (m:ExcBaseFacts Bn newId inN bmN) (b:bmB.contains (.type Bn)=true) (F:ExcBaseFacts B nid initId bmB) (T:OwnTail h bmB bm) (a:h.get? C=some (excClassObj nm q C N bs bm hdct sn sub ab col dd k0 k1 k2 k3 k5 newId)) (l:h.Ns N mN)
    (c:mN "__init__"=some (.ref fI)) (n:h.get? fI=some oI) (i:oI.cls=.type "function") (f:us.length<=sizeLine)
    (k:∀h' e,Heap.MadeExcOf h h' e (.ref C) us->wpAny (model prog w) (A.under (.builtin "type.__call__" ⟨.ref C::us,[]⟩)) (call (.ref fI) (.ref e::us)) (λr s'=>r=.none/\Q (.ref e) s') E ⟨h',g,d,tk,os⟩) :
    wpAny (model prog w) A (call (.ref C) us) Q E ⟨h,g,d,tk,os⟩:=by
 have s:=tc_lookup;have o:=tc_bind (.ref C);have p:(⟨h,g,d,tk,os⟩:Shared).TypeIs (.ref C) "type":=⟨_,a,rfl⟩
 refine wpAny_call (codeAny_of_tree ?_);show wpAny _ _ (callAny (.ref C) _) _ _ _
 repeat (any_goals (first | assumption | wp_step | with_reducible refine wpAny_loadPart_at a ?_))
 refine⟨rfl,codeAny_call_builtin_at (Code.quiet_builtin _ (by decide +kernel)) entry_typeCall (wpAny_check_type_call_sub a (lj m b F T a l c n i f λh' e j=>?_))⟩;exact k h' e j
end
section
variable {M:Model}{A:Around}{E:QS}{env:Env}{s:Shared}{bm:LW}{C:Addr}
theorem lA (l:bm.contains (.type "BaseException")=true) (j:A.handled=none)
    (h:wpAny M A x (λv i=>∃e t G,v=.ref e/\XAt i.heap C bm/\i.heap.get? e=some (cQ C G t)/\E (.ref e) i) E s):wpAny M A (raiseStmt env (some x) none) Q E s:=by
 have n:(Value.ref C::bm).contains (.type "BaseException")=true:=by rw[List.contains_cons,l,Bool.or_true]
 unfold raiseStmt;refine me (uR h (λv i z=>?_) λ_ _ y=>y);obtain⟨e,t,G,rfl,⟨B,q,N,H,b,p,d,I,f,D,u,L,F,w,o,a,c⟩,m,k⟩:=z;obtain⟨K,g,J,O,r⟩:=i
 repeat (first | (with_reducible refine wpAny_isSubtype_exc c ?_;rw[n]) | with_reducible refine wpAny_loadPart_at m ?_ | with_reducible refine wpAny_loadPart_at c ?_ | wp_step)
 exact wpAny_raiseNew_none j k
end
def bmV:LW:=[.type "ValueError",.type "Exception",.type "BaseException",.type "object"]
def iz (l:LW):Bool:=match l with
 | .ref _::.ref _::r=>r==bmV
 | _=>false
theorem jC (self:Value) (e:iz l=true):refuseLoop self "__setattr__" l=pure ():=by
 unfold iz at e
 split at e
 ·rw[refuseLoop_ref,refuseLoop_ref,beq_iff_eq.mp e];exact PySem.F.store_ValueError.passes self
 ·cases e
structure XSet (K:W.Frag) (C:Addr) (f:Str):Prop where
 sa:W.findIn K (.ref C) "__setattr__"=some (some (.builtin "object.__setattr__"))
 po:(W.clsIn K C).any (λcd=>iz cd.mro)=true
 na:W.findIn K (.ref C) f=some none
 hd:W.hasDictIn K C=true
 hm:W.mroIn K C (.type "object")=some true
section
open PySem.W Builtin Builtin.ObjectAttr
variable {prog:Program}{w:World}{A:Around}{E:QS}{s:Shared}{K:Frag}{x C t:Addr}{f:Str}{v:Value}
theorem tu (a:h.get? x=some (cQ C none t)):InstAt h x (cQ C none t) C none:=⟨a,rfl,rfl,True.intro⟩
theorem setX (X:K.In s.heap) (Z:XSet K C f) (c:s.heap.get? x=some (cQ C none t))
    (k:∀h' d,s.heap.objs.size<=d->h'.get? x=some (cQ C (some d) t)->h'.Ns1 d (λy=>if y=f then some v else none)->(∀b o,b≠x->s.heap.get? b=some o->h'.get? b=some o)->Q () { s with heap:=h',toks:=s.toks+2 }) :
    wpAny (model prog w) A (setAttr (.ref x) f v) Q E s:=by
 have I:=tu c;obtain⟨L,m,u⟩:=any_some Z.po;obtain⟨P,g,i⟩:=any_some Z.hd;cases ue (g.symm.trans m);refine set_plain X I Z.sa ?_;have G:=PySem.F.store_object;have N:Looks (model prog w) s.heap (isInstance (.ref x) (.type "object")) true:=I.type.andThen (looks_mroIn X Z.hm);have r:Looks (model prog w) s.heap (mroOf (.ref C)) L.mro:=(looks_clsIn X m).andThen .now;refine codeAny_call_builtin G.slot.plain G.entry (@check_slot (model prog w) _ _ { s with toks:=s.toks+1 } "object.__setattr__" "object" "__setattr__" (.ref x) [.str f s.toks,v] [] _ G.kind G.split N (G.args (.ref x) (.str f s.toks) v) ?_);rw[osa_eq,refuse_eq];refine me (me (Looks.here (s:={ s with toks:=s.toks+1 }) I.type (me (Looks.here (s:={ s with toks:=s.toks+1 }) r ?_))));rw[jC _ u];refine uc (me (Looks.here (s:={ s with toks:=s.toks+1 }) I.type (me (Looks.here (s:={ s with toks:=s.toks+1 }) (looks_findIn X Z.na) (me (uc ?_))))));have nx:x≠s.heap.objs.size:=um (ud c);refine me (uc (me (me (wpAny_loadPart c (me (Looks.here (s:={ s with toks:=s.toks+1 }) (looks_clsIn X m) ?_))))));rw[i];show wpAny _ _ (alloc { cls:=Value.type "dict",data:=Data.dict #[] } >>= _) _ _ _;have n:=ui (h:=s.heap) { cls:=.type "dict",data:=.dict #[] } c;refine me (wpAny_alloc' (me (wpAny_update' n (uc ?_))));generalize j:(s.heap.push { cls:=.type "dict",data:=.dict #[] }).update x (λo=>{ cls:=o.cls,dict:=some s.heap.objs.size,data:=o.data,slots:=o.slots })=a;have O:a.get? s.heap.objs.size=some { cls:=.type "dict",data:=.dict #[] }:=by rw[<- j];exact(Heap.get?_update_ne _ _ _ _ (Ne.symm nx)).trans (Heap.get?_push_at rfl rfl)
 have R:a.get? x=some (cQ C (some s.heap.objs.size) t):=by rw[<- j];exact vn _ n rfl
 have S:∀b o,b≠x->s.heap.get? b=some o->a.get? b=some o:=λb o l z=>by rw[<- j];exact(Heap.get?_update_ne _ _ _ _ l).trans (ui _ z)
 have J:a.Ns s.heap.objs.size (λ_=>none):=⟨_,#[],_,O,rfl,(λe M=>absurd M (by simp)),λ_=>rfl⟩
 show wpAny _ _ (storeInDict s.heap.objs.size (.str f s.toks) f v) _ _ _;unfold storeInDict newKeyGuard;refine me (uc (me (wpAny_nsSet1 (Heap.Ns1.of_empty J) λh' p q=>?_)));obtain⟨U,T,F,B,H,D⟩:=p.count (Within.cons f v Within.nil);refine me (wpAny_lookBehind B (by rw[H];exact pastItsLine_dict (uo D (by rw[uv,List.length_nil,sizeLine_eq];omega))) ?_);refine uc ?_;exact k h' s.heap.objs.size (ua _) ((q.2 x nx).trans R) p λb o l z=>(q.2 b (um (ud z))).trans (S b o l z)
end
section
variable {X:Cx}{pins:AO_}{σ:St}{H:Hp}{s:Shared}{A:Around}{E:QS}{a C:Addr}{f:Str}
theorem kw (I:Inv X pins σ H s) (h:H a=some (bN a C dd)):∃t,s.heap.get? a=some (cQ C dd t):=(show ObjOk X.prog X.w H s.heap a (bN a C dd) from I.hok a _ h).1
theorem kK (e:h.get? a=some (cQ C dd t)):ObjOk P w H h a (bN a C dd) :=
 ⟨⟨t,e⟩,⟨_,e⟩,λ_ _ ⟨u,q⟩ z=>⟨u,z _ q⟩⟩
theorem pM (I:Inv X pins σ H s) (e:H a=some (bN a C none)) (Z:XSet X.K C f) (S:RelV y u)
    (k:∀d s',H d=none->d≠a->Inv X pins σ (upd (upd H d (.xd [(f,y)])) a (bN a C (some d))) s'->Q () s'):wpAny (model X.prog X.w) A (setAttr (.ref a) f u) Q E s:=by
 obtain⟨t,T⟩:=kw I e;refine setX I.kIn Z T λW d J G O p=>?_;have x:H d=none:=I.hok.fresh J;have U:d≠a:=λz=>by rw[z,e] at x;cases x
 have gd:s.heap.get? d=none:=vv J;refine k d _ x U ?_;have R:∀ {b:Addr} {v:HO},H b=some v->b≠d:=λh l=>by rw[l,x] at h;cases h
 have B:∀ {b:Addr},H b=none->b≠a:=λh l=>by rw[l,e] at h;cases h
 have i:∀b,b≠a->b≠d->upd (upd H d (.xd [(f,y)])) a (bN a C (some d)) b=H b:=λb h l=>by rw[aj h,aj l]
 have g:∀(b:Addr) (v:HO),H b=some v->v≠bN a C none->upd (upd H d (.xd [(f,y)])) a (bN a C (some d)) b=some v:=λb v h l=>by rw[i b (λz=>by rw[z,e] at h;exact l (ue h).symm) (R h)];exact h
 refine Inv.step (g':=s.gens) (d':=s.drawn) (t':=s.toks+2) (ch:=[]) I (λb j=>by cases j) (λb o _ _ _ z n=>p b o (B n) z) (λb o _ _ _ z n=>⟨o.slots,p b o (B n) z⟩) (λb o _ z n=>?_) (λb o _ z=>?_)
  (λb K z=>g b _ z (by intro q;cases q)) (λb o v z=>g b _ z (by intro q;cases q)) (λb Y z=>⟨#[],by rw[Array.append_empty];exact g b _ z (by intro q;cases q)⟩) (λm L=>?_) (λb v z=>?_) I.bare
 ·rw[i b (B n) λq=>by rw[q,gd] at z;cases z];exact n
 ·by_cases j:b=a
  ·exact⟨_,j ▸ G⟩
  ·exact⟨o,p b o j z⟩
 ·obtain⟨o,N,P,M,r⟩:=L;exact⟨o,N,P,p _ o (B I.free) M,r⟩
 ·by_cases j:b=a
  ·subst j;rw[ah] at z;cases z;exact kK G
  ·by_cases F:b=d
   ·subst F;rw[aj j,ah] at z;cases z;refine⟨_,O,λD=>?_⟩;show RelO (List.lookup D [(f,y)]) (if D=f then some u else none);by_cases q:D=f
    ·subst q;simp only[List.lookup,beq_self_eq_true,if_pos];exact S
    ·have:(D==f)=false:=beq_eq_false_iff_ne.mpr q;simp only[List.lookup,this,if_neg q];exact True.intro
   ·rw[i b j F] at z;refine(I.hok b v z).stay (λc w V q=>p c w ?_ q) (λc q=>g c _ q (by intro q;cases q)) λc K q=>g c _ q (by intro q;cases q);rintro rfl;rcases V with r | r
    ·exact j r.symm
    ·rw[e] at r;cases r
def tJ (K:W.Frag) (ta tv:TE) (f:Str):TS:=λD σ H=>tv σ H λy H1=>ta σ H1 λx H2=>∃a C,x=.ref a/\H2 a=some (bN a C none)/\XSet K C f/\∀d,H2 d=none->d≠a->D.nx σ (upd (upd H2 d (.xd [(f,y)])) a (bN a C (some d)))
theorem qL (B:PE X o ta) (n:PE X i G) (A:swapsWith i (some (.Attribute o f z)) pos.line X.env=pure false):PS X (.Assign [.Attribute o f z] i pos) (tJ X.K ta G f):=by
 intro b s e H D I h;refine plainObj_wpAny_Assign_Attribute (thn (n b s e H _ I h) λu p ⟨y,j,r,w,q⟩=>thn (B b p e j _ r q) λk L ⟨x,J,l,t,a,C,F,v,Z,g⟩=>?_) A;subst F;obtain rfl:k=Value.ref a:=t;exact pM l v Z w λd K m c E=>⟨e,_,E,g d m c⟩
end
theorem qB {K:W.Frag}{h:Heap}{N:Addr}{mN:Str -> OV}{n:Str}{v:Value}(X:K.In h) (G:h.Ns N mN) (e:W.nsIn K N n=some (some v)):mN n=some v := by
 obtain⟨o,d,f,b,a,_,c⟩:=G;unfold W.nsIn at e
 split at e
 ·rename_i q
  have z:=X _ _ q;rw[b] at z;cases z;cases a
  split at e
  ·rename_i en he
   cases e;rw[<- c];unfold nsFind findBy;rw[<- Array.find?_toList,he];rfl
  ·split at e <;> cases e
 ·cases e
structure OwnI (x:Str) (C fI:Addr) (mg:MS) (h:Heap):Prop where
 bound:mg x=some (.ref C)
 obj:∃tl N nm q bs hdct sn sub ab col dd k0 k1 k2 k3 k5 mN oI,h.get? C=some (excClassObj nm q C N bs tl hdct sn sub ab col dd k0 k1 k2 k3 k5 "ValueError.__new__")/\h.Ns N mN/\mN "__init__"=some (.ref fI)/\OwnTail h bmV tl/\h.get? fI=some oI/\oI.cls=.type "function"
def del (H:Hp) (e:Addr):Hp:=λb=>if b=e then none else H b
theorem nI:del H e e=none:=by unfold del;rw[if_pos rfl]
theorem jp (h:b≠e):del H e b=H b:=by unfold del;rw[if_neg h]
theorem Inv.del (I:Inv X pins σ H s) (he:H e=some (bN e C dd)):Inv X pins σ (del H e) s := by
 have d:∀(b:Addr) (v:HO),H b=some v->v≠bN e C dd->L2.del H e b=some v:=λb v z n=>by rw[jp λq=>by rw[q,he] at z;exact n (ue z).symm];exact z
 have f:∀b,H b=none->L2.del H e b=none:=λb z=>by
  unfold L2.del;split
  ·rfl
  ·exact z
 refine⟨I.ok,I.os,I.bare,⟨I.base.keep,I.base.slot,λb o z n j=>f b (I.base.free b o z n j),I.base.there,λb g z=>d b _ (I.base.tups b g z) (by intro q;cases q),λb o u z=>d b _ (I.base.frzs b o u z) (by intro q;cases q),λb l z=>?_⟩,I.loc,I.cell,f _ I.free,λx c z=>f _ (I.freeC x c z),λp r=>?_,λb v z=>?_,I.len⟩
 ·obtain⟨a,q⟩:=I.base.tbls b l z;exact⟨a,d b _ q (by intro q;cases q)⟩
 ·obtain⟨h,i,m⟩:=I.pin p r;exact⟨h,f _ i,m⟩
 ·have k:H b=some v:=by
     unfold L2.del at z;split at z
     ·cases z
     ·exact z
  exact(I.hok b v k).stay (λ_ _ _ q=>q) (λc q=>d c _ q (by intro q;cases q)) λc g q=>d c _ q (by intro q;cases q)
def kA (E:XK) (C:Addr) (sp:Sp) (ta:TA):TS:=λ_ σ H=>ta σ H λvs H1=>vs.length<=sizeLine/\∀e,H1 e=none->sp (.ref e::vs) (upd H1 e (bN e C none)) (λv H2=>v=.non/\∃dd,H2 e=some (bN e C dd)/\E (.ref C) dd (del H2 e)) E0
theorem lU {P:Program}{w:World}{K:W.Frag}{mg:Str -> OV}{base:Heap}{N:LS}{G:Str}{scope:Scope}{f:Addr}{U:Value}{A:Around}{i:List Env}{s:Shared}{H:Hp}{E:XK}
    {x:Str} {C fI:Addr} {fd:FuncData} {ps:LS} {sp:Sp} {k:Nat} {np cpos pos:Pos} {J:Expr} {aQ:List Expr} {ta:TA} (O:OwnI x C fI mg base) (kp:W.keepIn K (.ref C)=true)
    (F:FnOk P w K mg base CX0 k fI fd ps sp) (hb:Binds K fd ps []) (hr:Room (k+1) (bq (CX1 P w) P w K mg base N G scope f U A i s H E).A)
    (hg:Gl (bq (CX1 P w) P w K mg base N G scope f U A i s H E) x) (ha:PA (bq (CX1 P w) P w K mg base N G scope f U A i s H E) (J::aQ) ta)
    (he:starEach (J::aQ) (bq (CX1 P w) P w K mg base N G scope f U A i s H E).env=(false,eval J (bq (CX1 P w) P w K mg base N G scope f U A i s H E).env)::starEach aQ (bq (CX1 P w) P w K mg base N G scope f U A i s H E).env:=by rfl)
    (hpl:(backTo cpos (starEach aQ (bq (CX1 P w) P w K mg base N G scope f U A i s H E).env)).any (·.1)=false:=by rfl) (hdb:(x==("__debug__":Str))=false:=by decide) :
    PS (bq (CX1 P w) P w K mg base N G scope f U A i s H E) (.Raise (some (.Call (.Name x np) (J::aQ) [] cpos)) none pos) (kA E C sp ta):=by
 intro a s1 σ H1 D I h;obtain⟨Z,Nn,nm,q,bs,l,sn,S,ab,L,dd,k0,k1,k2,k3,k5,mN,oI,hC,hN,hi,T,gf,cf⟩:=O.obj;rw[arm_exec_Raise];refine me (wpAny_standAt (lA (C:=C) (bm:=Z) (T.hasType PySem.F.excBase_ValueError.hasBase) (I.ok.hd rfl) ?_));show wpAny _ _ (do let v ← eval (.Call (.Name x np) (J::aQ) [] cpos) _;standAt pos;pure v) _ _ _;refine me (thn (Q:=λv p=>∃e t X,v=.ref e/\XAt p.heap C Z/\p.heap.get? e=some (cQ C X t)/\(bq (CX1 P w) P w K mg base N G scope f U A i s H E).xe (.ref e) p) ?_ λv p z=>me (wpAny_standAt (uc z)));refine vb (ef I hg O.bound ?_ hdb);refine W.callWith_K (h₀:=base) I.ok.mod.kin kp (thn (ha cpos a s1 σ H1 _ I h) λb s2 ⟨vs,M,j,r,hl,q2⟩=>⟨j.kIn,?_⟩) he hpl;have B:=j.bk;obtain⟨hh,g,d,tk,os⟩:=s2;refine lX PySem.F.excBase_ValueError (by decide) PySem.F.excBase_ValueError (T.keeps B) (B _ _ hC) (hN.keeps B) hi (B _ _ gf) cf (by rw[List.nil_append,<- r.length];exact hl) λh' e c=>?_;rw[List.nil_append] at c ⊢;obtain⟨t,ge,_,_⟩:=c.there;have ne:M e=none:=by
  cases z:M e with
  | none=>rfl
  | some u =>
   obtain⟨o,ho⟩:=ObjOk.obj (j.hok e u z);rw[c.new] at ho;cases ho
 have n0:s.heap.get? e=none:=by
  cases z:s.heap.get? e with
  | none=>rfl
  | some o =>
   obtain⟨o',e'⟩:=j.base.there e o z (by intro y;cases y);rw[c.new] at e';cases e'
 have R:Inv (bq (CX1 P w) P w K mg base N G scope f U A i s H E) a σ (upd M e (bN e C none)) ⟨h',g,d,tk,os⟩ :=
  Inv.track j (j.kept (t':=tk) c.keeps) c.new ne (kK ge)
 have hs:=q2 e ne;have r2:Vals (V.ref e::vs) (Value.ref e::b):=.cons rfl r;have m:(Value.ref e::b++[]).length=ps.length:=by rw[u0,<- r2.length];exact F.len _ _ _ _ hs
 refine wpAny_call (codeAny_mono (F.run _ _ _ _ ⟨Value.ref e::b,[]⟩ (Value.ref e::b++[]) (V.ref e::vs) _ _ (hr.make C b []) (R.env0.make C b []) (hb _ (Value.ref e::b) R.kIn m) (by rw[u0];exact r2) hs) λr s' n=>?_);cases r with
 | error ev=>exact False.elim n
 | ok fl =>
  cases fl with
  | ret u =>
   obtain⟨v,H4,Y,rv,rfl,X,e4,qE⟩:=R.after n;obtain⟨t4,g4⟩:=kw Y e4;refine⟨rv,e,t4,X,rfl,⟨nm,q,Nn,bs,l,sn,S,ab,L,dd,k0,k1,k2,k3,k5,_,Y.bk _ _ hC⟩,g4,?_⟩;exact rV (Y.del e4) nI g4 rfl rfl n0 qE
  | next=>exact False.elim n
  | brk=>exact False.elim n
  | cont=>exact False.elim n
structure XGet (K:W.Frag) (C:Addr) (f:Str):Prop where
 na:W.findIn K (.ref C) f=some none
 hd:W.hasDictIn K C=true
section
open PySem.W PySem.Calls Builtin Builtin.ObjectAttr
variable {K:Frag}{x C:Addr}{h:Heap}{M:Model}{prog:Program}{w:World}{A:Around}{E:QS}{s:Shared}{ox od:Obj}{f:Str}{u:Value}
theorem tM (Z:XFacts K C) (X:K.In s.heap) (I:InstAt s.heap x ox C (some od)) (b:findObj K C (some od) f=some (.value u)) (h:R (.ok (.ret u)) s) :
    codeAny (model prog w) A (.call (.builtin "BaseException.__getattribute__") ⟨[.ref x,.str f tk],[]⟩) R s:=by
 have m:=I.type (M:=model prog w);have d:=looks_mroIn (M:=model prog w) X Z.hb;have k:=looks_find (M:=model prog w) X I b;have a:builtinKind "BaseException.__getattribute__"=some .slot:=by decide +kernel
 have c:splitId "BaseException.__getattribute__"=some ("BaseException","__getattribute__"):=by decide +kernel
 have e:=PySem.F.args_bexc_ga (.ref x) (.str f tk);obtain⟨i,g,l,t,j⟩:=s;refine codeAny_call_builtin PySem.F.attr_ValueError.ga.plain PySem.F.entry_bexc_ga ?_;simp only[checkBuiltinCall,a,c];refine me ?_;unfold isInstance
 repeat lk
 exact h
theorem sT (Z:XFacts K C) (X:K.In s.heap) (I:InstAt s.heap x ox C (some od)) (e:findObj K C (some od) f=some (.value u)) (c:handedIn u=true) (h:Q u { s with toks:=s.toks+1 }) :
    wpAny (model prog w) A (getAttr (.ref x) f b) Q E s:=by
 have j:=I.type (M:=model prog w);have a:=looks_findIn (M:=model prog w) X Z.ga;have d:=looks_findIn (M:=model prog w) X Z.gb;have i:=PySem.F.attr_ValueError.ga.bind (.ref x);obtain⟨k,g,m,t,l⟩:=s;simp only[getAttr,getAttrBy];refine me (wpAny_mkText (uU (me (j.at (me (a.at ?_))))));show wpAny _ _ (getAttrByItsOwn _ _ _ _ _ _) _ _ _;refine me ?_;show wpAny _ _ (typeLookup (.ref C) "__getattr__") _ _ _;refine d.at (me (wpAny_attempt (uU ?_)));unfold callGetattribute;rw[if_neg (by cases b <;> decide)];unfold boundAndCalled;rw[i];refine me (uc ?_);show wpAny _ _ (call (.builtin "BaseException.__getattribute__") [.ref x,.str f t]) _ _ _;refine wpAny_call (tM Z X I e ?_);show wpAny _ _ (handedOut u) _ _ _;exact handed_on c (by exact h)
end
section
variable {X:Cx}{e:Expr}{f:Str}{pos:Pos}{ta:TE}
def pa (K:W.Frag) (ta:TE) (f:Str):TE:=λσ H Q=>ta σ H λx H1=>∃a C d fs v,x=.ref a/\H1 a=some (eI a C (some d))/\H1 d=some (.xd fs)/\fs.lookup f=some v/\XFacts K C/\XGet K C f/\Q v H1
theorem pH (he:PE X e ta) (D:attributeBase e f X.env (eval e X.env)=eval e X.env):PE X (.Attribute e f pos) (pa X.K ta f):=by
 intro b s y H Q I h;refine qw D (thn (he b s y H _ I h) λu i ⟨x,g,c,z,a,C,d,n,v,M,B,k,l,Z,G,q⟩=>?_);subst M;obtain rfl:u=Value.ref a:=z;obtain⟨o,w,E,p,m⟩:=(show ObjOk X.prog X.w g i.heap a (eI a C (some d)) from c.hok a _ B).1;obtain⟨A,t,r⟩:=(show ObjOk X.prog X.w g i.heap d (.xd n) from c.hok d _ k)
 obtain⟨F,gd,K⟩:=hX t;obtain⟨N,L,j⟩:=RelO.some_of (v:=v) (o:=A f) (by rw[<- l];exact r f);have J:W.InstAt i.heap a o C (some F):=⟨w,E,m,by rw[p];exact gd⟩
 exact sT Z c.kIn J (W.findObj_own G.hd G.na rfl (by rw[K,L])) (lI j) ⟨v,g,c.tok _,j,q⟩
end
end L2
namespace L2
open PySem
theorem hJ {R J:SH}{G:Prop}(a:(∀σ H,J σ H->R σ H)->G) (aQ:∀σ H,J σ H->R σ H):G:=a aQ
end L2
namespace L2
open PySem PySem.Spec PyProof.Rows
def dW (ps:List (Str × Addr)) (x:Str):Addr:=(ps.lookup x).getD 0
theorem fF:∀ {ps:List (Str × Addr)}, (ps.map (·.1)).Nodup -> ∀p ∈ ps, dW ps p.1=p.2
 | [],_,p,h=>by cases h
 | q::ps,nd,p,h=>by
  rw[uG,u4] at nd;unfold dW;rcases uf.mp h with rfl | h
  ·rw[uQ];simp
  ·have ne:p.1≠q.1:=λz=>nd.1 (z ▸ uD.mpr ⟨p,h,rfl⟩);have:(p.1==q.1)=false:=by simpa using ne
   rw[uQ,this];exact fF nd.2 p h
theorem dF {α:Type}{P:α->Prop}:∀x∈([]:List α),P x:=λx h=>by cases h
theorem aH {α:Type}{P:α->Prop}{a:α}{l:List α}(h:P a) (g:∀x∈l,P x):∀x∈a::l,P x:=λx b=>by
 rcases uf.mp b with rfl | b
 ·exact h
 ·exact g x b
variable {K:W.Frag}{mg:MS}{base:Heap}
theorem qz {ps cs:List (Str × Addr)}(t:(ps.map (·.1)).Nodup) (d:∀p∈cs,p∈ps) (b:∀p∈ps,mg p.1=some (.ref p.2)) (f:∀p∈cs,XFacts K p.2) (m:("OrderError":Str)∈cs.map (·.1))
    (l:∀p∈cs,p.1≠"OrderError"->∀q∈ps,W.kitOne K (.ref p.2) (.ref q.2)=some (q.1==p.1||q.1==("OrderError":Str))) (j:∀p∈cs,W.kitOne K (.ref p.2) (.type "ValueError")=some true)
    (i:∀p∈cs,∃bm,XAt base p.2 bm/\bm.contains (.type "BaseException")=true/\(Value.ref p.2::bm).contains (.ref (dW ps "OrderError"))=true) (s:mg "ValueError"=none)
    (n:∀p∈cs,p.1∉(["NoText","Ring","NoUnit"]:LS)->OwnCls p.1 p.2 [.type "ValueError",.type "Exception",.type "BaseException",.type "object"] "ValueError.__new__" mg base):Errs K mg base (dW ps) (ps.map (·.1)) (cs.map (·.1)):=by
 have e:=fF t;have q:∀ {x:Str},x∈ps.map (·.1)->∃p∈ps,p.1=x:=λh=>by obtain⟨p,a,rfl⟩:=uD.mp h;exact⟨p,a,rfl⟩
 have r:∀ {x:Str},x∈cs.map (·.1)->∃p∈cs,p.1=x:=λh=>by obtain⟨p,a,rfl⟩:=uD.mp h;exact⟨p,a,rfl⟩
 refine⟨λx c=>?_,λx c=>?_,m,λx c k y o=>?_,λx c=>?_,λx c=>?_,s,λx c k=>?_⟩
 ·obtain⟨p,a,rfl⟩:=q c;rw[e p a];exact b p a
 ·obtain⟨p,a,rfl⟩:=r c;rw[e p (d p a)];exact f p a
 ·obtain⟨p,a,rfl⟩:=r c;obtain⟨p2,g,rfl⟩:=q o;rw[e p (d p a),e p2 g];exact l p a k p2 g
 ·obtain⟨p,a,rfl⟩:=r c;rw[e p (d p a)];exact j p a
 ·obtain⟨p,a,rfl⟩:=r c;rw[e p (d p a)];exact i p a
 ·obtain⟨p,a,rfl⟩:=r c;rw[e p (d p a)];exact n p a k
end L2
namespace L2
open PySem PySem.Spec PyProof.Rows
def tm (s:Stmt) (i:Nat):Stmt:=match s with
 | .ClassDef _ _ _ b _ _ _ _ _ _ _=>b.getD i (.Pass ⟨0,0,0,0⟩)
 | s=>s
section
variable {P:Program}{w:World}{K:W.Frag}{mg:MS}{base:Heap}
variable {x:Str}{C N fI:Addr}{bm bs:LW}{nm q:Str}{hdct:Bool}{sn:LS}{sub:LW}{ab:Bool}{col:Option Bool}{dd:Option Addr}{k0 k1 k2 k3 k5:OV}{h:Heap}
theorem qH (X:K.In h) (a:mg x=some (.ref C)) (c:K.lookup C=some (excClassObj nm q C N bs bm hdct sn sub ab col dd k0 k1 k2 k3 k5 "ValueError.__new__")) (b:W.nsOkIn K N=true)
    (e:W.nsIn K N "__init__"=some (some (.ref fI))) (d:W.tailIn K bmV bm=true) (f:K.lookup fI=some ⟨.type "function",od,z,i⟩):OwnI x C fI mg h :=
 ⟨a,bm,N,nm,q,bs,hdct,sn,sub,ab,col,dd,k0,k1,k2,k3,k5,_,_,X _ _ c,.of_isNs (W.isNs_of_in X b),qB X (.of_isNs (W.isNs_of_in X b)) e,W.tail_of_in X d,X _ _ f,rfl⟩
structure MkI (P:Program) (w:World) (K:W.Frag) (mg:MS) (base:Heap) (k:Nat) (x:Str) (C:Addr) (ps:LS) (sp:Sp):Prop where
 ex:∃(fI:Addr) (fd:FuncData),OwnI x C fI mg base/\W.keepIn K (.ref C)=true/\FnOk P w K mg base CX0 k fI fd ps sp/\Binds K fd ps []
theorem dP {I:LS}{z:Str}{scope:Scope}{f:Addr}{J:Value}{A:Around}{i:List Env}{s:Shared}{H:Hp}{E:XK}{ps:LS}{sp:Sp}{k:Nat}{U cpos pos:Pos}{G:Expr}{aQ:List Expr}{ta:TA}
    (m:MkI P w K mg base k x C ps sp) (c:Room (k+1) (bq (CX1 P w) P w K mg base I z scope f J A i s H E).A)
    (d:Gl (bq (CX1 P w) P w K mg base I z scope f J A i s H E) x) (a:PA (bq (CX1 P w) P w K mg base I z scope f J A i s H E) (G::aQ) ta)
    (he:starEach (G::aQ) (bq (CX1 P w) P w K mg base I z scope f J A i s H E).env=(false,eval G (bq (CX1 P w) P w K mg base I z scope f J A i s H E).env)::starEach aQ (bq (CX1 P w) P w K mg base I z scope f J A i s H E).env:=by rfl)
    (hpl:(backTo cpos (starEach aQ (bq (CX1 P w) P w K mg base I z scope f J A i s H E).env)).any (·.1)=false:=by rfl) (hdb:(x==("__debug__":Str))=false:=by decide) :
    PS (bq (CX1 P w) P w K mg base I z scope f J A i s H E) (.Raise (some (.Call (.Name x U) (G::aQ) [] cpos)) none pos) (kA E C sp ta):=by
 obtain⟨h,g,O,e,F,b⟩:=m.ex;exact lU O e F b c d a he hpl hdb
end
def Cx.catch (X:Cx) (pins:AO_) (σ:St) (E:XK):Cx:={ X with pn:=X.pn++pins,xe:=λev s'=>∃H1 s1,Inv X pins σ H1 s1/\CX1 X.prog X.w X.stack H1 s1 E ev s' }
section
variable {X:Cx}{pins pins':AO_}{σ σ0:St}{H:Hp}{s:Shared}{E:XK}
theorem Cx.Ok.catch (a:X.Ok):(X.catch pins σ0 E).Ok :=
 ⟨a.mod,a.kind,a.glob,a.blt,a.above,a.inj,a.has,a.cab,a.hd,a.frames,a.stk,a.exf,a.bs,a.bsz,a.noex,a.exfs,a.funs,a.frf⟩
theorem Inv.catch (I:Inv X pins σ H s):Inv (X.catch pins σ0 E) [] σ H s :=
 ⟨I.ok.catch,I.os,I.bare,I.base,I.loc,I.cell,I.free,I.freeC,λp a=>I.pin p (by rw[u0] at a;exact a),I.hok,I.len⟩
theorem Inv.ofCatch (a:X.Ok) (I:Inv (X.catch pins σ0 E) pins' σ H s):Inv X pins σ H s :=
 ⟨a,I.os,I.bare,I.base,I.loc,I.cell,I.free,I.freeC,λp b=>I.pin p (vw _ b),I.hok,I.len⟩
theorem Inv.okC (I:Inv (X.catch pins σ0 E) pins' σ H s):X.Ok :=
 ⟨I.ok.mod,I.ok.kind,I.ok.glob,I.ok.blt,I.ok.above,I.ok.inj,I.ok.has,I.ok.cab,I.ok.hd,I.ok.frames,I.ok.stk,I.ok.exf,I.ok.bs,I.ok.bsz,I.ok.noex,I.ok.exfs,I.ok.funs,I.ok.frf⟩
def rf (σ0:St) (sp:Sp) (E:XK) (t:TA):TE:=λσ H Q=>t σ H λvs H1=>σ=σ0/\sp vs H1 Q E
theorem qO (c:CalX X.prog X.w X.K X.mg X.base k x ps sp) (n:Room k X.A) (A:Gl X x) (z:PA (X.catch pins σ0 E) (e::es) t)
    (he:starEach (e::es) X.env=(false,eval e X.env)::starEach es X.env:=by rfl) (hpl:(backTo pos (starEach es X.env)).any (·.1)=false:=by rfl) (hdb:(x==("__debug__":Str))=false:=by decide) :
    PE (X.catch pins σ0 E) (.Call (.Name x p) (e::es) [] pos) (rf σ0 sp E t):=by
 intro a s o H Q I h;obtain⟨f,D,F,w,v,b⟩:=c.ex;refine vb (ef (X:=X.catch pins σ0 E) I A w ?_ hdb);refine W.callWith_K (h₀:=X.base) I.ok.mod.kin v (thn (z pos a s o H _ I h) λi j ⟨B,m,d,r,l,q⟩=>⟨d.kIn,?_⟩) he hpl;subst l;have y:(i++[]).length=ps.length:=by rw[u0,<- r.length];exact F.len _ _ _ _ q
 refine wpAny_call (codeAny_mono (F.run X.A X.stack j m ⟨i,[]⟩ (i++[]) B Q E n d.env0 (b j i d.kIn y) (by rw[u0];exact r) q) λr C g=>?_);cases r with
 | error ev=>exact⟨m,j,d.ofCatch I.okC,g⟩
 | ok fl =>
  cases fl with
  | ret u=>exact d.after g
  | next=>exact False.elim g
  | brk=>exact False.elim g
  | cont=>exact False.elim g
def tN (base:Heap) (Dc:Addr) (i:Nat) (th:TS) (D:Ends) (σ:St):XK:=λcls dd H2=>∃C bm,cls=.ref C/\XAt base C bm/\(Value.ref C::bm).contains (.ref Dc)=true/\∀a,H2 a=none ->
    th { nx:=λσ' H'=>D.nx (σ'.set i none) H',rt:=D.rt,bk:=λσ' H'=>D.bk (σ'.set i none) H',ct:=λσ' H'=>D.ct (σ'.set i none) H' } (σ.set i (some (.ref a))) (upd H2 a (eI a C dd))
def tK (base:Heap) (tb:St->XK->TS) (Dc:Addr) (i:Nat) (th:TS):TS:=λD σ H=>tb σ (tN base Dc i th D σ) D σ H
theorem pZ 
    (P:∀pins σ E,PSs (X.catch pins σ E) U (tb σ E)) (d:X.stack=X.env::X.outer) (m:X.env.frame=some X.env.locals) (a0:Gl X Dn) (a8:X.mg Dn=some (.ref Dc)) (hD:XAt X.base Dc a3) (a9:a3.contains (.type "BaseException")=true)
    (M:X.N.Nodup) (K:X.N[i]? = some n) (w:X.env.scope.names.lookup n=some .local) (hs:∀a xe,PSs (X.mark (.ref a) xe) (O::G) th) (a6:(Dn==("__debug__":Str))=false:=by decide) :
    PS X (.Try U [.ExceptHandler (some (.Name Dn q)) (some n) (O::G) b5] [] [] b1) (tK X.base tb Dc i th):=by
 intro pins s σ H D I h;refine wpAny_Try_except (uR (P pins σ _ [] s σ H D I.catch h) (λg e t=>?_) λev e t=>?_)
 ·have Q:=I.ok;cases g with
  | next =>
   obtain⟨b,f,c,k⟩:=t;exact wpAny_execs_nil ⟨b,f,c.ofCatch Q,k⟩
  | brk =>
   obtain⟨b,f,c,k⟩:=t;exact⟨b,f,c.ofCatch Q,k⟩
  | cont =>
   obtain⟨b,f,c,k⟩:=t;exact⟨b,f,c.ofCatch Q,k⟩
  | ret u =>
   obtain⟨v,b,f,c,r',k⟩:=t;exact⟨v,b,f,c.ofCatch Q,r',k⟩
 ·obtain⟨H1, s1, I1, a, c7, dq, B, f, rfl, os, j, un, F, g, L, TB, KB, R, C, bm, rfl, hC, V, a5⟩ := t;have b0:XF B (X.env::X.outer) a (.ref C) dq .none e.heap:=d ▸ g;have Y:s1.heap.get? a=none := by
   cases z:s1.heap.get? a with
   | none=>rfl
   | some ob =>
    by_cases P:a∈frs X.stack
    ·obtain⟨_,o1,g1,g2⟩:=g.2.2.1.mem P;obtain⟨oe,a4,A,a1⟩:=g.rec;rw[g1] at A;cases A;exact absurd a1 (g2 a4)
    ·obtain⟨o',e'⟩:=R a ob z P;have:=g.2.1;rw[e'] at this;cases this
  have J:X.A.frames=some (X.env::X.outer):=d ▸ I.ok.frames;refine t8 J m b0 λh4 f4 x=>?_;refine kU (s:={ e with heap:=h4 }) f4 λh5 f5 y=>?_;have S:Inv X pins σ f { e with heap:=h5 }:=ke I1 d m os j un F (d ▸ f5) (x.trans y) TB KB R;refine wpAny_handleBy_cons (codeAny_handlers_test (ef (X:=X.mark (.ref a) (λ_ _=>False)) S.mark a0 a8 ?_ a6)) (by intro z;cases z);obtain⟨oe,ge,gc,_⟩:=f5.there;obtain⟨nm,qq,NN,bs,b4,sn,c2,ab,b8,dd,k0,k1,k2,k3,k5,a2,gC⟩:=hC;obtain⟨c0,b7,b6,c4,a7,c5,b2,c3,b3,b9,j0,j1,j2,j3,j5,N,gD⟩:=hD;refine jK (S.bk _ _ gC) ge gc (S.bk _ _ gD) a9 V (codeAny_handlers_suite_as (kU (s:={ e with heap:=h5 }) f5 λh6 f6 T=>?_));have I6:Inv X pins σ f { e with heap:=h6 }:=ke I1 d m os j un F (d ▸ f6) ((x.trans y).trans T) TB KB R;obtain⟨o6,Z,c6,d6⟩:=f6.there;have n6:W.notCls o6=true:=by
   obtain⟨o7,c1,g7,k7⟩:=f6.rec;have z7:=ue (g7.symm.trans Z);rw[<- z7];unfold W.notCls;rw[k7]
  have I7:Inv X pins σ (upd f a (eI a C dq)) { e with heap:=h6 }:=Inv.track I1 I6 Y L ⟨⟨o6,Z,c6,d6,n6⟩,⟨o6,Z⟩,λh1 h2 ⟨o,e1,e2⟩ z=>⟨o,z o e1,e2⟩⟩;refine fV (v:=.ref a) I7 M K (.inl w) rfl (λs8 I8=>?_) (.inr w);refine uR (hs a _ pins s8 _ _ _ I8.mark (a5 a L)) (λg s9 r=>?_) λev s9 r=>r;cases g with
  | next =>
   obtain⟨b,H9,p,l⟩:=r;exact gA (p.unmark I.ok) M K w λe c=>⟨_,_,c,l⟩
  | brk =>
   obtain⟨b,H9,p,l⟩:=r;exact gA (p.unmark I.ok) M K w λe c=>⟨_,_,c,l⟩
  | cont =>
   obtain⟨b,H9,p,l⟩:=r;exact gA (p.unmark I.ok) M K w λe c=>⟨_,_,c,l⟩
  | ret u =>
   obtain⟨v,b,H9,p,r9,l⟩:=r;exact gA (p.unmark I.ok) M K w λe c=>⟨v,_,_,c,r9,l⟩
end
namespace SU
theorem oi (a:Value):checkTypeCall "set" ⟨[a],[]⟩=pure ():=by kernel_rfl
theorem ql (a:Value):checkBuiltinCall "set.__new__" ⟨[.type "set",a],[]⟩=pure ():=by kernel_rfl
theorem entry_loop:entryFor table "set.update.loop"=some Builtin.«set.update.loop»:=entryFor_of_tree (by kernel_rfl)
theorem plain_loop:plainId "set.update.loop"=true:=by decide +kernel
section
variable {prog:Program}{w:World}{A:Around}{E:QS}{s:Shared}
theorem on (a:Value) 
    (h:∀led:Bool,Q₁ (.ref s.heap.objs.size) { s with heap:=s.heap.push { cls:=.type "set",dict:=none,data:=.set #[] 0 (.fresh 0 0 led) } }) :
    codeAny (model prog w) A (.call (.builtin "set.__new__") ⟨[.type "set",a],[]⟩) (wants Q₁ E) s:=by
 refine codeAny_call_builtin F.plain_set_new F.entry_set_new (wpAny_of_eq (ql a) ?_);unfold Builtin.«set.__new__» Builtin.Frozenset.newClass;have b:=sub_set_self;obtain⟨e,g,d,f,c⟩:=s;dsimp only
 wp_walk
 refine wpAny_askSetting (uc ?_);dsimp only;simp only[newObj];refine me (wpAny_alloc (uc ?_));exact uc (h _)
theorem lp (c:s.TypeIs self "set") (d:Q () s):wpAny M A (checkBuiltinCall "set.__init__" ⟨[self,a],[]⟩) Q E s:=by
 simp only[checkBuiltinCall,kind_set_init,split_set_init,sig_set_init];refine me (wpAny_isInstance c sub_set_self ?_);simp only[Bool.not_true,vo,if_false];unfold Bind.checkArgs;dsimp only;refine me (PyProof.Rows.printed_name (by decide) ?_);refine me (PyProof.Rows.printed_star (self:=self) rfl c λb=>?_);rw[show (if (Manifest.Receiver.self==Manifest.Receiver.none)=true then [self,a].length else [self,a].length-1)=1 from rfl,List.map_nil];have e:Bind.check ⟨.positional,"set","*",.self,[⟨"iterable",.posOnly,false⟩]⟩ "set" b 1 []=pure ():=by
  simp[Bind.check,Bind.checkCount,Bind.isPositional];exact λz=>absurd z (by decide)
 exact wpAny_of_eq e d
set_option maxHeartbeats 4000000 in
theorem call1 (h:∀led:Bool, wpAny (model prog w) A.in1.in1 (Builtin.«set.__init__» ⟨[.ref s.heap.objs.size, a], []⟩)
        (λz s'=>match z with | .done f=>wants (λr i=>r=.none/\Q (.ref s.heap.objs.size) i) E (.ok f) s' | .again G=>G.quiet=true/\codeAny (model prog w) A.in1 G (wants (λr i=>r=.none/\Q (.ref s.heap.objs.size) i) E) s')
        (λe s'=>wants (λr i=>r=.none/\Q (.ref s.heap.objs.size) i) E (.error e) s') { s with heap:=s.heap.push { cls:=.type "set",dict:=none,data:=.set #[] 0 (.fresh 0 0 led) } }) :
    wpAny (model prog w) A (call (.type "set") [a]) Q E s:=by
 obtain⟨c,y,l⟩:=F.called_set.mro;have k:=F.called_set.made;have m:=F.called_set.sub;refine wpAny_call (codeAny_of_tree (show wpAny _ _ (callAny (.type "set") _) _ _ _ from uc ⟨Code.quiet_builtin _ (by decide +kernel),codeAny_builtin F.entry_type_call ?_⟩));rw[Around.under_plain (weight_type_call_type "set" [a] []) rfl];have B:=F.called_set.notType;have C:=F.called_set.canCreate;have u:=oi a
 repeat (any_goals (first | assumption | wp_step))
 refine codeAny_mono (on (E:=E) a (Q₁:=λg b=>∃led:Bool,g=.ref s.heap.objs.size/\b={ s with heap:=s.heap.push { cls:=.type "set",dict:=none,data:=.set #[] 0 (.fresh 0 0 led) } }) λled=>⟨led,rfl,rfl⟩) λr b j=>?_;cases r with
 | error e=>exact j
 | ok fl =>
  cases fl with
  | ret g =>
   obtain⟨led,t,q⟩:=j;subst t q;have p:Shared.TypeIs { s with heap:=s.heap.push { cls:=.type "set",dict:=none,data:=.set #[] 0 (.fresh 0 0 led) } } (.ref s.heap.objs.size) "set":=⟨_,uw _ rfl,rfl⟩
   have o:=F.called_set.init.lookup;have x:=F.called_set.init.bind (.ref s.heap.objs.size)
   repeat (any_goals (first | assumption | wp_step))
   refine codeAny_mono (codeAny_call_builtin (R:=wants (λr i=>r=.none/\Q (.ref s.heap.objs.size) i) E) F.called_set.init.plain F.entry_set_init (lp p (h led))) λn D d=>?_;cases n with
   | error e=>exact d
   | ok fl2 =>
    cases fl2 with
    | ret r =>
     obtain⟨v,H⟩:=d;subst v
     repeat (any_goals (first | assumption | wp_step))
    | _=>exact d.elim
  | _=>exact j.elim
theorem cut_set (b:s.TypeIs (.ref a) "set") (h:Q "set" s):wpAny (model prog w) A (typeNameOfCut n (.ref a)) Q E s:=by
 unfold typeNameOfCut shownTypeOf;refine me (me (wpAny_typeOf b ?_));simp only[show (Value.type "set"==Value.type "builtin_function_or_method")=false by decide,vo,if_false];refine uc ?_;rw[show typeNameCut n (.type "set")=typeName (.type "set") from rfl];exact wpAny_of_eq (by kernel_rfl:typeName (.type "set")=pure "set") h
theorem any_list (a:s.TypeIs (.ref b) "list") (h:Q false s):wpAny (model prog w) A (Builtin.Frozenset.isAnySet (.ref b)) Q E s:=by
 unfold Builtin.Frozenset.isAnySet;refine me (wpAny_isInstance a (by rw[isSubtype_type];kernel_rfl:isSubtype (.type "list") (.type "set")=pure false) ?_);exact wpAny_isInstance a (by rw[isSubtype_type];kernel_rfl:isSubtype (.type "list") (.type "frozenset")=pure false) h
end
end SU
def dU (P:Program) (w:World) (a:Addr) (S:Str->Bool) (n:Nat):HO:=.ext λh=>h.SetOf (strKind P w) a S n
theorem kG (x:h.SetOf (strKind P w) a S n):ObjOk P w H h a (dU P w a S n):=by
 refine⟨x,let ⟨o,_,_,_,b,_⟩:=x;⟨o,b⟩,λf e y k=>?_⟩;obtain⟨o,c,d,t,b,r⟩:=y;exact⟨o,c,d,t,k _ b,r⟩
def la (P:Program) (w:World) (H:Hp) (l:Addr) (ys:LS) (i:Nat) (H':Hp):Prop:=∃S n,H'=upd H l (dU P w l S n)/\(∀k,S k=true ↔ k∈ys.take i)/\n<=i/\(n=i ↔ (ys.take i).Nodup)
theorem oJ (T:Turn X.prog X.w X.K (.Name nm tp) J Y U tn) (W:X.calm=true) (d:Addr) (m:Hp) (a:LS) (K:a.length <= 1000) (a0:m d=none)
    (go:∀i H,i<a.length->la X.prog X.w m d a i H->J.go i H/\∀x H1,J.yld i H x H1->H1=H/\∃z,x=.str z/\a[i]? = some z)
    (F:∀H,la X.prog X.w m d a a.length H->J.stop a.length H):∀(k i:Nat) (s:Shared) (H:Hp),a.length-i=k->i<=a.length->Inv X pins σ H s->(∀b∈Y,cK X pins H b)->tn i s.heap->la X.prog X.w m d a i H ->
     (∀H' s',Inv X pins σ H' s'->la X.prog X.w m d a a.length H'->R (.ok (.ret .none)) s')->codeAny (model X.prog X.w) X.A.in1 (.builtin "set.update.loop" ⟨[.ref d,.ref U],[]⟩) R s:=by
 intro k
 induction k with
 | zero =>
  intro i s H hk hi I G N B P;have M:i=a.length:=by omega
  subst M;refine codeAny_builtin SU.entry_loop ?_;rw[Around.under_plainId SU.plain_loop _];show wpAny _ X.A.in1.in1 (pyNext (.ref U) >>= _) _ _ s;refine me (uR (T.done { X with A:=X.A.in1.in1 } rfl rfl rfl W _ pins s σ H _ (I.atA _ rfl rfl) G N (F H B)) (λr g ⟨e,p⟩=>?_) λ_ _ z=>z);subst e;exact uc (P H g (Inv.ofA I.ok p) B)
 | succ k ih =>
  intro i s H hk hi I G N B P;have v:i<a.length:=by omega
  obtain⟨hg,V⟩:=go i H v B;refine codeAny_builtin SU.entry_loop ?_;rw[Around.under_plainId SU.plain_loop _];show wpAny _ X.A.in1.in1 (pyNext (.ref U) >>= _) _ _ s;refine me (uR (gv (T.item { X with A:=X.A.in1.in1 } rfl rfl rfl W i pins s σ H _ (I.atA _ rfl rfl) G N hg)) (λr g ⟨u,e,x,H1,p,rx,yl,t1,fn⟩=>?_) λ_ _ z=>z);subst e
  replace p:=Inv.ofA I.ok p
  obtain⟨t,z,ex,hz⟩:=V x H1 yl;subst ex t;obtain⟨tk,rfl⟩:=rx;obtain⟨S,n,t,L,hn,Q⟩:=B;have O:=p.hok d _ (by rw[t];exact ah);have C:g.heap.SetOf (strKind X.prog X.w) d S n:=O.1;show wpAny _ _ (holding [Value.str z tk] (setAdd d (.str z tk)) >>= _) _ _ _;refine me (uU ?_);unfold setAdd;refine uU (me ((strKind X.prog X.w).pyHash (k:=z) (strKind_is _ _ _ _) ?_));refine wpAny_setAddHashed_of (s:={ g with toks:=g.toks+1 }) (strKind_is _ _ _ _) rfl C (Nat.lt_of_le_of_lt (by omega:n+1<=1001) (by decide)) λh' w f=>?_;have D:∀k,(S k||decide (k=z))=true ↔ k∈a.take (i+1):=λk=>by
   rw[Bool.or_eq_true,decide_eq_true_iff,L k,uJ,hz,uF];exact⟨λh=>h.imp id λh=>by rw[h];simp,λh=>h.imp id λh=>by simpa using h⟩
  have E:(a.take (i+1)).Nodup ↔ (a.take i).Nodup/\z∉a.take i:=by
   rw[uJ,hz,vr];exact⟨λh=>⟨h.1,λq=>h.2.2 z q z (by simp) rfl⟩,λh=>⟨h.1,by simp,λx hx y K e=>h.2 (by
    have K:y=z:=by simpa using K
    rw[<- K,<- e];exact hx)⟩⟩
  have I2:Inv X pins σ (upd H1 d (dU X.prog X.w d (λj=>S j||decide (j=z)) (if S z then n else n+1))) { g with heap:=h',toks:=g.toks+1 }:=gU (t':=g.toks+1) p (by rw[t,ah];exact True.intro) w (let ⟨o,_,_,_,ho,_⟩:=f;⟨o,ho⟩) (kG f);have eu:upd H1 d (dU X.prog X.w d (λj=>S j||decide (j=z)) (if S z then n else n+1))=upd m d (dU X.prog X.w d (λj=>S j||decide (j=z)) (if S z then n else n+1)):=by rw[t,qr]
  have Z:∀b∈Y,b≠d:=λb l q=>by
   have:=fn b l;rw[q,t,ah] at this;cases this
  refine uc ⟨plainId_quiet SU.plain_loop _,ih (i+1) _ _ (by omega) v I2 (λb l=>?_) (T.keep _ _ _ t1 λb l o q=>(w.2 b (Z b l)).trans q) ⟨_,_,eu,D,?_,?_⟩ P⟩
  ·obtain⟨_,f1,f2,f3,f4,f5⟩:=G b l;exact⟨by rw[aj (Z b l)];exact fn b l,f1,f2,f3,f4,f5⟩
  ·split <;> omega
  ·rw[E,<- Q];cases c:S z with
   | true =>
    have:=(L z).mp c;exact⟨λh=>by have h:n=i+1:=h;omega,λh=>absurd this h.2⟩
   | false =>
    have:z∉a.take i:=λq=>by rw[(L z).mpr q] at c;cases c
    exact⟨λh=>⟨by have h:n+1=i+1:=h;omega,this⟩,λh=>by show n+1=i+1;omega⟩
theorem mP (B:X.calm=true) (I:Inv X pins σ H s) (v:SqL X.K H p (List.map V.str ys)) (K:ys.length<=1000)
    (q:∀l S n,H l=none->n<=ys.length->(n=ys.length ↔ ys.Nodup)->Q (.ref l) (upd H l (dU X.prog X.w l S n))):wpAny (model X.prog X.w) X.A (call (.type "set") [.ref p]) (EP X pins σ Q) X.xe s:=by
 refine SU.call1 λc=>?_;have j:H s.heap.objs.size=none:=I.hok.fresh (ua _);have m:(⟨s.heap.push { cls:=.type "set",dict:=none,data:=.set #[] 0 (.fresh 0 0 c) },s.gens,s.drawn,s.toks,s.os⟩:Shared).TypeIs (.ref s.heap.objs.size) "set":=⟨_,uw _ rfl,rfl⟩
 have d:(s.heap.push { cls:=.type "set",dict:=none,data:=.set #[] 0 (.fresh 0 0 c) }).SetOf (strKind X.prog X.w) s.heap.objs.size (λ_=>false) 0:=by
  refine⟨_,#[],0,_,uw _ rfl,⟨rfl,rfl,rfl⟩,rfl,(λx u=>by cases u),(λk=>⟨(λh=>by cases h),λ⟨e,M,_⟩=>by cases M⟩),by decide,?_,rfl⟩;cases c <;> rfl
 have t:Inv X pins σ (upd H s.heap.objs.size (dU X.prog X.w s.heap.objs.size (λ_=>false) 0)) { s with heap:=s.heap.push { cls:=.type "set",dict:=none,data:=.set #[] 0 (.fresh 0 0 c) } } :=
  I.laid (a:=s.heap.objs.size) (t':=s.toks) (λ_ _ q=>ui _ q) (ua _) (kG d)
 unfold Builtin.«set.__init__»;have W:X.A.in1.in1.handled=none:=I.ok.hd B;refine me (uc (me (SU.cut_set m (me (uc (me (uc (me ?_))))))));unfold setUsed;refine me (wpAny_setState_of (uw _ rfl) rfl (by cases c <;> rfl) (uc ?_));rw[if_neg (by cases c <;> decide)];show wpAny _ _ (Builtin.Frozenset.updateFrom "set.__init__" s.heap.objs.size (.ref p) >>= _) _ _ _;refine me ?_;unfold Builtin.Frozenset.updateFrom;obtain⟨G,Y,w,Z⟩:=t.list (v.fresh j);obtain⟨o,n,y,r,P,L⟩:=id w;refine me (SU.any_list ⟨o,y,r⟩ ?_);rw[if_neg (by decide)];refine me (wpAny_typeOf (T:="list") ⟨o,y,r⟩ ?_);rw[if_neg (by decide)];refine me (wpAny_pyIter_list w.isList ?_);refine me (wpAny_runValue ?_);refine oJ (X:={ X with A:=X.A.in1 }) (pins:=pins) (σ:=σ) (nm:="x") (tp:=default) (hR p _) B s.heap.objs.size H ys K j (λi C z e=>?_) (λC e=>?_) _ 0 _ _ rfl (uu _) ((t.kept (t':=s.toks) λb o e=>ui _ e).atA _ rfl rfl) (λb J=>?_) ⟨_,uw _ rfl,rfl,rfl⟩ ⟨_,0,rfl,(λk=>⟨(λh=>by cases h),(λh=>by cases h)⟩),ua _,⟨λ_=>u5,λ_=>rfl⟩⟩ λC R D F=>?_
 ·obtain⟨S,n,rfl,_⟩:=e;have f:=v.fresh (o:=dU X.prog X.w s.heap.objs.size S n) j;have u:(List.map V.str ys)[i]? = some (.str ys[i]):=by rw[uC,uy z];rfl
  refine⟨⟨_,_,f,u⟩,λx U ⟨O,N⟩=>⟨O,ys[i],?_,uy z⟩⟩;have:=N _ f;rw[u] at this;exact(ue this).symm
 ·obtain⟨S,n,rfl,_⟩:=e;exact⟨_,v.fresh j,by rw[ub];exact ua _⟩
 ·have e:b=(s.heap.push { cls:=.type "set",dict:=none,data:=.set #[] 0 (.fresh 0 0 c) }).objs.size:=by simpa using J
  subst e;exact(t.atA X.A.in1 rfl rfl).fpOk (ua _) (t.hok.fresh (ua _))
 ·obtain⟨S,n,rfl,_,E,g⟩:=F;rw[uB (ua _)] at g;exact uc (uc ⟨rfl,.ref _,_,Inv.ofA I.ok D,rfl,q _ S n j E g⟩)
def pD (K:W.Frag):LV->Hp->VK->Prop:=λvs H Q=>∃p ys,vs=[.ref p]/\SqL K H p (List.map V.str ys)/\ys.length<=1000/\∀(l:Addr) (P:Program) (w:World) (S:Str->Bool) (n:Nat),H l=none->n<=ys.length->(n=ys.length ↔ ys.Nodup)->Q (.ref l) (upd H l (dU P w l S n))
def pu:LV->Hp->VK->Prop:=λvs H Q=>∃(a:Addr) (P:Program) (w:World) (S:Str->Bool) (n:Nat),vs=[.ref a]/\H a=some (dU P w a S n)/\Q (.int n) H
section
variable {X:Cx}{p pos:Pos}{e:Expr}{t:TA}
theorem sN (K:W.Frag) (i:X.calm=true) (Z:X.mg "set"=none) (k:PA X [e] t) (m:Gl X "set":=by rfl) (he:starEach [e] X.env=(false,eval e X.env)::starEach [] X.env:=by rfl) (hpl:(backTo pos (starEach [] X.env)).any (·.1)=false:=by rfl) (f:X.K=K:=by rfl) :
    PE X (.Call (.Name "set" p) [e] [] pos) (tCB (pD K) t):=by
 subst f;refine dh (r:=pD X.K) (λb s w H v x Q I r h=>?_) m Z (show bootBuiltins "set"=some (.type "set") by decide +kernel) k (by decide) (by decide) he hpl;obtain⟨p,y,rfl,o,g,q⟩:=h;obtain⟨u,rfl,d⟩:=bL r;cases d;exact mP i I o g λl S n j c a=>q l _ _ S n j c a
theorem nt:bK X (.builtin "len") pu:=by
 intro e s x H v z Q I r h;obtain⟨a,P,w,S,n,rfl,t,q⟩:=h;obtain⟨u,rfl,k⟩:=bL r;cases k;have d:=I.hok a _ t;have b:s.heap.SetOf (strKind P w) a S n:=d.1;obtain⟨o,f,y,A,j,c,i,_,_,p,l,g⟩:=b;have m:f.size<4096:=p;refine call_len_set j c i l (by omega) ?_;subst g;exact⟨.int f.size,H,(I.tok _).tok _,⟨_,rfl⟩,q⟩
theorem rG (B:Blt X.mg) (b:PA X [e] t) (a:Gl X "len":=by rfl) (he:starEach [e] X.env=(false,eval e X.env)::starEach [] X.env:=by rfl) (hpl:(backTo pos (starEach [] X.env)).any (·.1)=false:=by rfl):PE X (.Call (.Name "len" p) [e] [] pos) (tCB pu t) :=
 bJ nt a B.len PySem.boot_len b (by decide) (by decide) he hpl
end
section
variable {X:Cx}
def qW (K:W.Frag) (neg:Bool):V->V->Hp->VK->Prop:=λx y H Q=>∃a b xs,x=.ref a/\y=.ref b/\SqL K H a xs/\H b=some (.lst [])/\Q (.bl (if neg then !xs.isEmpty else xs.isEmpty)) H
theorem oT (K:W.Frag) (G:X.A.units+64<cLine) (t:X.K=K := by rfl):OpR X (compareOp .NotEq) (qW K true) := by
 subst t;intro k s N H x y v u Q I w B h;obtain⟨a,b,xs,rfl,rfl,E,A,q⟩:=h;cases w;cases B;obtain⟨f,m,j,P⟩:=I.list E;obtain⟨D,i,l,_⟩:=I.list (a:=b) (xs:=[]) (.of A);cases i;have L:=m.length;cases xs with
 | nil =>
  cases m;obtain⟨o,e,c,n,d⟩:=j.isList;obtain⟨O,F,C,M,J⟩:=l.isList;have p:Reads s.heap (.ref a) (.list []) _:=.list e c d (by simpa using ReadsAll.nil);have z:Reads s.heap (.ref b) (.list []) _:=.list F C J (by simpa using ReadsAll.nil);exact ne_dataH p z rfl rfl G ⟨.bl _,H,I,rfl,q⟩
 | cons x r =>
  have g:(f.toArray.size != ([]:LW).toArray.size)=true:=by
   rw[bne_iff_ne,uj,<- L];simp
  exact gO j.isList l.isList g (by omega) ⟨.bl true,H,I,rfl,q⟩
theorem nJ (K:W.Frag) (G:X.A.units+64<cLine) (t:X.K=K := by rfl):OpR X (compareOp .Eq) (qW K false) := by
 subst t;intro k s N H x y v u Q I w B h;obtain⟨a,b,xs,rfl,rfl,E,A,q⟩:=h;cases w;cases B;obtain⟨f,m,j,P⟩:=I.list E;obtain⟨D,i,l,_⟩:=I.list (a:=b) (xs:=[]) (.of A);cases i;have L:=m.length;cases xs with
 | nil =>
  cases m;obtain⟨o,e,c,n,d⟩:=j.isList;obtain⟨O,F,C,M,J⟩:=l.isList;have p:Reads s.heap (.ref a) (.list []) _:=.list e c d (by simpa using ReadsAll.nil);have z:Reads s.heap (.ref b) (.list []) _:=.list F C J (by simpa using ReadsAll.nil);exact eq_dataH p z rfl rfl G ⟨.bl _,H,I,rfl,q⟩
 | cons x r =>
  have g:(f.toArray.size != ([]:LW).toArray.size)=true:=by
   rw[bne_iff_ne,uj,<- L];simp
  exact SeqAt.eq_list_lengthsAt j.isList l.isList g (by omega) ⟨.bl false,H,I,rfl,q⟩
end
end L2
open PySem
namespace L2
open PySem
abbrev Kn:=List (Str × LS)
section
variable {us:LS}{ks:Kn}
abbrev tp (a:LS):LS:=("":Str)::a
end
theorem ig (xs:LS):(List.map V.str xs).all cP=true:=by
 rw[List.all_map,uW];intro x _;rfl
theorem kB (x:Str) (xs:LS):inV (V.str x) (List.map V.str xs)=decide (x∈xs):=by
 rw[uL,decide_eq_true_iff];unfold inV;rw[List.any_map,List.any_eq_true]
 constructor
 ·rintro⟨y,a,q⟩;have q:(y==x)=true:=q;have q:y=x:=by simpa using q
  exact q ▸ a
 ·intro h;refine⟨x,h,?_⟩;show (x==x)=true;simp
end L2
open PySem
namespace L2
open PySem
def kdO (ks:Kn) (u:Str):LS:=((ks.find? λk=>decide (k.1=u)).map (·.2)).getD []
section
variable {us:LS}{ks:Kn}
def rd (ks:Kn):Nat->Str->LS
 | 0,u=>[u]
 | n+1,u=>u::(kdO ks u).flatMap (rd ks n)
end
end L2
namespace L2
open PySem PySem.Spec PyProof.Rows
section
variable {X:Cx}{e e':Expr}{te te':TE}
theorem p1 (b:PE X e te) (a:starEach [e] X.env=(false,eval e X.env)::starEach [] X.env:=by rfl):PA X [e] (aV te dR):=ac b ae a
theorem p2 (d:PE X e te) (b:PE X e' te') (c:starEach [e,e'] X.env=(false,eval e X.env)::starEach [e'] X.env:=by rfl) (a:starEach [e'] X.env=(false,eval e' X.env)::starEach [] X.env:=by rfl):PA X [e,e'] (aV te (aV te' dR)):=ac d (ac b ae a) c
theorem px (K:W.Frag) (c:Room k X.A) (b:PE X e te) (a:PE X e' te') (f:jO e':=by exact λ_ _=>rfl) (d:X.K=K:=by rfl):PE X (.Subscript e e' pos) (tOp (λx y H Q=>IxX K H x y Q) te te'):=aB (aG K c.units d) b a f
end
theorem szl (n:Nat) (h:n<=sizeLine:=by decide):n<=sizeLine:=h
@[elab_as_elim] theorem nw {M:Hp->Prop}(h:H a=none) (k:∀H',Same H H'->H' a=some o->M H'):M (upd H a o):=k _ (Same.new h) ah
example {H:Hp} {a:Addr} {xs:LV} {Q:V->Hp->Prop} (h:H a=none) (q:∀H',Same H H'->H' a=some (.lst xs)->Q .non H'):Q .non (upd H a (.lst xs)):=by
 refine nw h λH2 s2 e2=>?_;exact q H2 s2 e2
end L2
namespace L2
open PySem PySem.W PyProof.Rows
section
variable {lt:Nat->Nat->Bool}{N:Nat}
theorem gd {p:Array Nat}{i:Nat}:p.getD i 0=(p[i]?).getD 0:=by simp
end
end L2
namespace L2
open PySem PySem.Spec PyProof.Rows
theorem nT {X:Cx}{pins:AO_}{σ:St}{nm:Str}{tp:Pos}{J:It}{Y:List Addr}{U:Addr}{tn:Nat -> Heap -> Prop}(T:Turn X.prog X.w X.K (.Name nm tp) J Y U tn) (D:X.calm=true) (l:Addr) (h:l ∉ Y) (n:Nat) (c:Nat -> LV -> Hp -> Prop)
    (N:∀i G H,i<n->c i G H->J.go i H/\G.length<sizeLine/\∀x H1,J.yld i H x H1->H1 l=some (.lst G)/\c (i+1) (G++[x]) (upd H1 l (.lst (G++[x]))))
    (p:∀G H,c n G H->J.stop n H) {R:Result->Shared->Prop}:∀(k i:Nat) (G:LV) (s:Shared) (H:Hp),n-i=k->i<=n->Inv X pins σ H s->(∀b∈Y,cK X pins H b)->tn i s.heap->c i G H ->
     (∀O H' s',Inv X pins σ H' s'->c n O H'->R (.ok (.ret .none)) s')->codeAny (model X.prog X.w) X.A.in1 (.builtin "list.extend.loop" ⟨[.ref l,.ref U,.none],[]⟩) R s:=by
 intro k
 induction k with
 | zero =>
  intro i G s H M L I v B t C;have y:i=n:=by omega
  subst y;refine codeAny_builtin PySem.F.entry_extend_loop ?_;rw[Around.under_plainId PySem.F.plain_extend_loop _];show wpAny _ X.A.in1.in1 (pyNext (.ref U) >>= _) _ _ s;refine me (uR (T.done { X with A:=X.A.in1.in1 } rfl rfl rfl D i pins s σ H _ (I.atA _ rfl rfl) v B (p G H t)) (λr d ⟨e,a⟩=>?_) λ_ _ z=>z);subst e;exact uc (C G H d (Inv.ofA I.ok a) t)
 | succ k ih =>
  intro i G s H M L I v B t C;have w:i<n:=by omega
  obtain⟨hg,hz,hy⟩:=N i G H w t;refine codeAny_builtin PySem.F.entry_extend_loop ?_;rw[Around.under_plainId PySem.F.plain_extend_loop _];show wpAny _ X.A.in1.in1 (pyNext (.ref U) >>= _) _ _ s;refine me (uR (gv (T.item { X with A:=X.A.in1.in1 } rfl rfl rfl D i pins s σ H _ (I.atA _ rfl rfl) v B hg)) (λr d ⟨u,e,x,H1,a,W,P,t1,fn⟩=>?_) λ_ _ z=>z);subst e
  replace a:=Inv.ofA I.ok a
  obtain⟨j,Z⟩:=hy x H1 P;obtain⟨z,f,m,rv,a0,e⟩:=a.lstM j;show wpAny _ X.A.in1.in1 (updateSeq l (·.push u) >>= _) _ _ _;refine me (wpAny_updateSeq e rfl (uc ⟨plainId_quiet PySem.F.plain_extend_loop _,?_⟩) (by rw[uj];omega) (by show (f.toArray.push u).size<=_;rw[Array.size_push,uj];omega));have F:Inv X pins σ (upd H1 l (.lst (G++[x]))) { d with heap:=d.heap.update l (Obj.mapSeq (·.push u)) }:=a.lset (its':=f++[u]) (t':=d.toks) j e (by simp) (rv.append (.cons W .nil)) (by rw[uA];show _+1<=_;omega);refine ih (i+1) _ _ _ (by omega) (by omega) F (λb g=>?_) (T.keep _ _ _ t1 λb g o K=>(u7 _ _ (λq:l=b=>h (q ▸ g))).trans K) Z C;obtain⟨g0,Q,S,g3,E,g5⟩:=v b g;exact⟨by rw[aj (λq:b=l=>h (q ▸ g))];exact fn b g,Q,S,g3,E,g5⟩
section
variable {X:Cx}
def rIn1 (neg:Bool):V->V->Hp->VK->Prop:=λx y H Q=>∃(c:Nat) (z:Str),x=.str ⟨#[c]⟩/\y=.str z/\Q (.bl (if neg then !decide (c∈z.cps.toList) else decide (c∈z.cps.toList))) H
theorem lN:OpR X (compareOp .NotIn) (rIn1 true):=by
 intro a s f H x y v u Q I d b h;obtain⟨c,z,rfl,rfl,q⟩:=h;obtain⟨t,rfl⟩:=d;obtain⟨e,rfl⟩:=b;refine PySem.P.notIn_str ?_;rw[PySem.StrLaws.found_one];exact⟨.bl _,H,I,rfl,q⟩
end
section
variable {X:Cx}{elt iter:Expr}{ifs:List Expr}{scope:Scope}{pos px:Pos}{x:Str}{r:LS}{wi:TI}{tc:TT}{te:TE}
theorem bP (a:Scope) (d:LS) (c:List Nat) (x:Str) (r:LS) (g:PI X (.Name x px) iter wi) (j:∀ {I C G z ex},PTs (cxC X scope (x::r) I C G z ex) ifs tc) (he:∀ {I C G z ex},PE (cxC X scope (x::r) I C G z ex) elt te)
    (l:(x::r).Nodup:=by decide) (k:X.calm=true:=by rfl) (f:∀ {I C G z ex},(cxC X scope (x::r) I C G z ex).env.scope.names.lookup x=some .local:=by intros;rfl)
    (m:∀x,foldedSetIterable iter X.env x=pure x:=by intro _;rfl) (b:X.env.scope=a:=by rfl) (e:X.N=d:=by rfl) (h:fy a scope d [x] c (x::r)=true:=by decide +kernel) :
    PE X (.ListComp elt [⟨.Name x px,iter,ifs,0⟩] scope pos) (lf 1 c wi (fD 0) tc te) :=
 qf a d [x] c (x::r) k g (λ_ _ _ _ _=>aR (i:=0) l rfl (Or.inl f) (Or.inr f)) (λ_ _ _ _ _=>j) (λ_ _ _ _ _=>he) m b e h
end
abbrev En (h:Heap) (e it:Addr) (i:Int) (old f0:Value) (f1:Bool):Prop:=h.get? e=some { cls:=.type "enumerate",dict:=none,data:=.fields #[f0,.bool f1,.ref it,rawInt i,.none,old],slots:=#[] }
section
variable {prog:Program}{w:World}{A:Around}{E:QS}{s:Shared}
theorem qm (d:F0 J) (a:En s.heap e O i G J z) (h:∀b I h', En h' e O i G J I -> Heap.SameBut e s.heap h' -> Q b { s with heap := h' }) :
    wpAny (model prog w) A (Builtin.SmallTypes.ownedTupleIsFree (.ref e)) Q E s:=by
 unfold Builtin.SmallTypes.ownedTupleIsFree;rcases d with rfl | ⟨T,rfl⟩
 ·exact me (uK a rfl (x:=.none) rfl (uc (h true z s.heap a (Heap.SameBut.refl ..))))
 ·refine me (uK a rfl (x := rawInt (T:Int)) rfl ?_);refine me (mJ ?_);cases s.heap.get? (T:Int).toNat with
  | none=>exact uc (h true z s.heap a (Heap.SameBut.refl ..))
  | some o =>
   show wpAny _ _ (field (.ref e) 1 >>= _) _ _ _;refine me (uK a rfl (x:=.bool z) rfl ?_);cases z with
   | true=>exact uc (h false true s.heap a (Heap.SameBut.refl ..))
   | false =>
    show wpAny _ _ (setField (.ref e) 1 (.bool true) >>= _) _ _ _;exact me (vg a (by simp) λf c g=>uc (h false true f c g))
theorem pQ {e z l:Addr}{i:Nat}{items:Array Value}{x G J:Value}{f1:Bool}{Q:Value -> Shared -> Prop}(hf:F0 J) (he:En s.heap e z i G J f1) (a2:s.heap.IsListIter z l i) (hl:s.heap.IsList l items) (hx:items[i]? = some x) (a:e ≠ z)
    (hQ:∀h' a0 I Y tk,F0 a0->En h' e z ((i:Int)+1) Y a0 I->h'.IsListIter z l (i+1)->h'.get? s.heap.objs.size=some { cls:=.type "tuple",data:=.seq #[.int i tk,x] } ->
     (∀b o,b≠e->b≠z->s.heap.get? b=some o->h'.get? b=some o)->Q (.ref s.heap.objs.size) { s with heap:=h',toks:=s.toks+1 }) :
    wpAny (model prog w) A (Builtin.«enumerate.__next__» ⟨[.ref e],[]⟩) (λa6 s'=>∃v,a6=.done (.ret v)/\Q v s') E s:=by
 obtain⟨u,g,d,tk,K⟩:=s;have a7:e<u.objs.size:=ud he;show wpAny _ _ (field (.ref e) 2 >>= _) _ _ _;refine me (uK he rfl (x:=.ref z) rfl ?_);refine me (wpAny_nextOf_list_item a2 hl hx λR O f=>?_)
 replace f:Heap.SameBut z u R:=f
 have B:En R e z i G J f1:=(f.2 e a).trans he;show wpAny _ _ (field (.ref e) 3 >>= _) _ _ ⟨R,g,d,tk,K⟩;refine me (uK B rfl (x:=rawInt i) rfl ?_);show wpAny _ _ (field (.ref e) 4 >>= _) _ _ ⟨R,g,d,tk,K⟩;refine me (uK B rfl (x:=.none) rfl ?_);show wpAny _ _ (mkInt i >>= _) _ _ ⟨R,g,d,tk,K⟩;refine me (wpAny_mkInt ?_);show wpAny _ _ (setField (.ref e) 3 (rawInt ((i:Int)+1)) >>= _) _ _ ⟨R,g,d,tk+1,K⟩;refine me (vg B (by simp) λg2 H h=>?_)
 replace h:Heap.SameBut e R g2:=h
 replace H:En g2 e z ((i:Int)+1) G J f1:=H
 show wpAny _ _ (setField (.ref e) 4 .none >>= _) _ _ ⟨g2,g,d,tk+1,K⟩;refine me (vg H (by simp) λN F c=>?_)
 replace c:Heap.SameBut e g2 N:=c
 replace F:En N e z ((i:Int)+1) G J f1:=F
 show wpAny _ _ (newTuple [.int i tk,x] >>= _) _ _ ⟨N,g,d,tk+1,K⟩;refine me (wpAny_newTuple ?_);have T:N.objs.size=u.objs.size:=by rw[c.1,h.1,f.1]
 have p:∀b o,b≠e->b≠z->u.get? b=some o->N.get? b=some o:=λb o j P q=>(c.2 b j).trans ((h.2 b j).trans ((f.2 b P).trans q));have M:N.IsListIter z l (i+1):=O.at λo q=>(c.2 z (Ne.symm a)).trans ((h.2 z (Ne.symm a)).trans q);obtain⟨C,e4⟩:∃C,C=N.push { cls:=.type "tuple",data:=.seq #[.int i tk,x] }:=⟨_,rfl⟩
 have p4:∀b o,N.get? b=some o->C.get? b=some o:=λb o q=>by rw[e4];exact ui _ q
 have a3:En C e z ((i:Int)+1) G J f1:=p4 _ _ F;have a1:C.IsListIter z l (i+1):=M.at λo q=>p4 _ _ q;have a5:C.get? u.objs.size=some { cls:=.type "tuple",data:=.seq #[.int i tk,x] }:=by rw[e4,<- T];exact uw _ rfl
 have V:∀b o,b≠e->b≠z->u.get? b=some o->C.get? b=some o:=λb o j P q=>p4 _ _ (p b o j P q);rw[<- e4,T];clear e4 p4 p M T F c H h B f O;show wpAny _ _ (Builtin.SmallTypes.ownedTupleIsFree (.ref e) >>= _) _ _ ⟨C,g,d,tk+1,K⟩;refine me (qm hf a3 λa4 I X t n=>?_)
 replace n:Heap.SameBut e C X:=n
 have t:En X e z ((i:Int)+1) G J I:=t;have D:u.objs.size≠e:=Nat.ne_of_gt a7;have L:X.IsListIter z l (i+1):=a1.at λo q=>(n.2 z (Ne.symm a)).trans q;have Z:=(n.2 _ D).trans a5;have k:∀b o,b≠e->b≠z->u.get? b=some o->X.get? b=some o:=λb o j P q=>(n.2 b j).trans (V b o j P q);cases a4 with
 | false=>exact uc ⟨_,rfl,hQ X J I G tk hf t L Z k⟩
 | true =>
  simp only[if_true];refine me (wpAny_rule ?_);refine me (uK t rfl (x:=G) rfl ?_);refine me (vg t (by simp) λg6 S r=>?_)
  replace r:Heap.SameBut e X g6:=r
  replace S:En g6 e z ((i:Int)+1) x J I:=S
  show wpAny _ _ (Builtin.SmallTypes.ownedTupleHandOut (.ref e) (.ref u.objs.size) >>= _) _ _ ⟨g6,g,d,tk+1,K⟩;refine me ?_;unfold Builtin.SmallTypes.ownedTupleHandOut;refine me (vg S (by simp) λg7 W m=>?_)
  replace m:Heap.SameBut e g6 g7:=m
  replace W:En g7 e z ((i:Int)+1) x (rawInt (u.objs.size:Int)) I:=W
  refine vg W (by simp) λg8 U y=>?_
  replace y:Heap.SameBut e g7 g8:=y
  replace U:En g8 e z ((i:Int)+1) x (rawInt (u.objs.size:Int)) false:=U
  refine me (wpAny_letGo (uc ⟨_,rfl,hQ g8 _ _ _ tk (.inr ⟨_,rfl⟩) U ?_ ?_ λb o j P q=>?_⟩))
  ·exact L.at λo q=>(y.2 z (Ne.symm a)).trans ((m.2 z (Ne.symm a)).trans ((r.2 z (Ne.symm a)).trans q))
  ·exact(y.2 _ D).trans ((m.2 _ D).trans ((r.2 _ D).trans Z))
  ·exact(y.2 b j).trans ((m.2 b j).trans ((r.2 b j).trans (k b o j P q)))
theorem jv {i:Nat}{items:Array Value}{O:Bool}{Q:OV -> Shared -> Prop}(m:F0 Y) (he:En s.heap e J i U Y O) (f:s.heap.IsListIter J l i) (p:s.heap.IsList l items) (j:items[i]? = some x) (g:e ≠ J)
    (n:∀h' G I z tk,F0 G->En h' e J ((i:Int)+1) z G I->h'.IsListIter J l (i+1)->h'.get? s.heap.objs.size=some { cls:=.type "tuple",data:=.seq #[.int i tk,x] } ->
     (∀b o,b≠e->b≠J->s.heap.get? b=some o->h'.get? b=some o)->Q (some (.ref s.heap.objs.size)) { s with heap:=h',toks:=s.toks+1 }) :
    wpAny (model prog w) A (pyNext (.ref e)) Q E s:=by
 have h:s.TypeIs (.ref e) "enumerate":=⟨_,he,rfl⟩
 unfold pyNext;exact me (wpAny_attempt (wpAny_callSpecial?_slot (name:=Str.ofString "__next__") h F.slot_enumerate_next (wpAny_call_entry F.slot_enumerate_next h F.entry_enumerate_next
  (pQ m he f p j g λh' G I z tk a b c d k=>uc (n h' G I z tk a b c d k)) (F.args_enumerate_next_1 _))))
theorem jL {i:Nat}{items:Array Value}{G:Bool}{Q:OV->Shared->Prop}(h:A.handled=none) (he:En s.heap e z i I J G) (c:s.heap.IsListIter z l i) (m:s.heap.IsList l items) (g:items[i]? = none)
    (j:∀h',Heap.ExtBut z s.heap h'->Q none { s with heap:=h' }):wpAny (model prog w) A (pyNext (.ref e)) Q E s:=by
 have f:s.TypeIs (.ref e) "enumerate":=⟨_,he,rfl⟩
 unfold pyNext;refine me (wpAny_attempt (wpAny_callSpecial?_slot (name:=Str.ofString "__next__") f F.slot_enumerate_next (wpAny_call_entry F.slot_enumerate_next f F.entry_enumerate_next ?_ (F.args_enumerate_next_1 _))));show wpAny _ _ (field (.ref e) 2 >>= _) _ _ _;refine me (uK he rfl (x:=.ref z) rfl ?_);refine me (wpAny_nextOf_list_end h c m g λh' x a d=>?_);obtain⟨o,n,k⟩:=d;refine me (wpAny_isInstance (T:="StopIteration") (b:=true) ⟨o,n,k⟩ isSubtype_stop ?_);exact uc (j _ a)
theorem qa (he:En s.heap e J i z G I) (h:Q (.ref e) s):wpAny (model prog w) A (pyIter (.ref e)) Q E s:=by
 have a:s.TypeIs (.ref e) "enumerate":=⟨_,he,rfl⟩
 refine wpAny_pyIter_slot a F.slot_enumerate_iter (wpAny_call_entry F.slot_enumerate_iter a F.entry_enumerate_iter ?_ (F.args_enumerate_iter_1 _));show wpAny _ _ (ret (.ref e)) _ _ s;exact uc ⟨_,rfl,"enumerate",_,a,F.slot_enumerate_next.lookup,h⟩
end
def tnE (a e it:Addr):Nat->Heap->Prop:=λi h=>(∃old f0 f1,F0 f0/\En h e it i old f0 f1)/\h.IsListIter it a i
theorem nS {P:Program}{w:World}{K:W.Frag}{nm:Str}{tp:Pos}(a e it:Addr) (hne:e ≠ it):Turn P w K (.Name nm tp) (Ite K a) [e, it] e (tnE a e it) where
 mem:=by simp
 obj:=λi h st b hb=>by
  obtain⟨⟨old,f0,f1,_,he⟩,hit⟩:=st;have hb:b=e∨b=it:=by simpa using hb
  rcases hb with z | z
  ·subst z;exact⟨_,he,λv z=>by cases z⟩
  ·subst z;obtain⟨o,e1,c,d⟩:=hit;exact⟨o,e1,λv z=>by rw[d] at z;cases z⟩
 keep:=λi h h' st kk=>by
  obtain⟨⟨old,f0,f1,hf,he⟩,hit⟩:=st;exact⟨⟨old,f0,f1,hf,kk e (by simp) _ he⟩,hit.at λo q=>kk it (by simp) o q⟩
 item := by
  intro X hP hw hK hc i pins s σ H E I hf st hg;subst hP hw hK;obtain⟨⟨old,e0,e1,hf0,he⟩,hit⟩:=st;obtain⟨xs,x,hq,hx⟩:=hg;obtain⟨its,rv,p,hz⟩:=I.list hq;obtain⟨u,hu,ru⟩:=rv.get hx;obtain⟨f0,f1,f2,f3,f4,f5⟩:=hf e (by simp);obtain⟨g0,g1,g2,g3,g4,g5⟩:=hf it (by simp);refine jv hf0 he hit p.isList (x:=u) (by simpa using hu) hne λh2 e0' e1' old' tk hf0' he2 hit2 T2 kk=>?_;have hel:e<s.heap.objs.size:=ud he;have hil:it<s.heap.objs.size:=by obtain⟨o,q,_⟩:=hit;exact ud q
  refine⟨_,rfl,uc ?_⟩;have hp:H s.heap.objs.size=none:=I.hok.fresh (ua _);have nit:∀b v,H b=some v->b≠e/\b≠it:=λb v q=>⟨λz=>(by rw[z,f0] at q;cases q),λz=>(by rw[z,g0] at q;cases q)⟩
  have up:∀b v,H b=some v->upd H s.heap.objs.size (.tup [.int i,x]) b=some v:=λb v q=>by rw[aj (ak q hp)];exact q
  have I1:Inv X pins σ (upd H s.heap.objs.size (.tup [.int i, x])) { s with heap := h2, gens := s.gens, drawn := s.drawn, toks := s.toks+1 } := by
   refine I.step (g':=s.gens) (d':=s.drawn) (ch:=[e,it]) (λb hb=>?_) (λb o _ _ hb q _=>kk b o (λz=>hb (by simp[z])) (λz=>hb (by simp[z])) q) (λb o _ _ hb q _=>⟨o.slots,kk b o (λz=>hb (by simp[z])) (λz=>hb (by simp[z])) q⟩) (λb o _ q n=>?_)
    (λb o hb q=>⟨o,kk b o (λz=>hb (by simp[z])) (λz=>hb (by simp[z])) q⟩) (λb ys q=>up b _ q) (λb o v q=>up b _ q) (λb ps q=>⟨#[],by rw[up b _ q];simp⟩) (λm hm=>?_) (λb v q=>?_) I.bare
   ·have hb:b=e∨b=it:=by simpa using hb
    rcases hb with z | z
    ·subst z;exact⟨f3,f1,f4,f5⟩
    ·subst z;exact⟨g3,g1,g4,g5⟩
   ·rw[aj (um (ud q))];exact n
   ·obtain⟨o,es,ep,ho,r⟩:=hm;exact⟨o,es,ep,kk _ o (Ne.symm f1) (Ne.symm g1) ho,r⟩
   ·by_cases hb:b=s.heap.objs.size
    ·subst hb;rw[ah] at q;have q':HO.tup [V.int i,x]=v:=ue q;subst q';exact⟨by show 2<=sizeLine;decide,[.int i tk,u],.cons ⟨_,rfl⟩ (.cons ru .nil),⟨_,T2,rfl,_,rfl,rfl⟩⟩
    ·rw[aj hb] at q;refine(I.hok b v q).stay (λc v' hc q'=>?_) (λc q=>up c _ q) λc ys q=>up c _ q;rcases hc with z | z
     ·rw[z] at q' ⊢;exact kk b v' (nit b v q).1 (nit b v q).2 q'
     ·exact kk c v' (nit c _ z).1 (nit c _ z).2 q'
  refine⟨.ref s.heap.objs.size,upd H s.heap.objs.size (.tup [.int i,x]),I1,rfl,⟨_,x,hp,rfl,λys hy=>by rw[I.list_inj hy hq];exact hx,rfl⟩,⟨⟨old',e0',e1',hf0',?_⟩,hit2⟩,λb hb=>?_⟩
  ·exact(by simpa using he2)
  ·have hb:b=e∨b=it:=by simpa using hb
   rcases hb with z | z
   ·rw[z,aj (um hel)];exact f0
   ·rw[z,aj (um hil)];exact g0
 done:=by
  intro X hP hw hK hc i pins s σ H E I hf st hg;subst hP hw hK;obtain⟨⟨old,e0,e1,_,he⟩,hit⟩:=st;obtain⟨xs,hq,hx⟩:=hg;obtain⟨its,rv,p,hz⟩:=I.list hq;obtain⟨g0,g1,g2,g3,g4,g5⟩:=hf it (by simp);have hl:=rv.length;exact jL (I.ok.hd hc) he hit p.isList (by simp;omega) λh' eb=>⟨rfl,I.turned (t':=s.toks) (λb o hb q=>eb b o hb q) g0 g1 g3 g4 g5⟩
 self:=λA _ s _ _ st h=>by
  obtain⟨⟨old,e0,e1,_,he⟩,_⟩:=st;exact qa he h
theorem lr (k:X.calm=true) (I:Inv X pins σ H s) (T:Turn X.prog X.w X.K (.Name "x" default) J O z U)
    (ty:∀i h,U i h->∃o,h.get? z=some o/\o.cls=.type cls) (nl:typeLookup (.type cls) "__len__"=pure none) (nh:typeLookup (.type cls) "__length_hint__"=pure none) (n1:(Value.type cls==Value.type "list")=false) (n2:(Value.type cls==Value.type "tuple")=false) (K:U 0 s.heap) (hf:∀c∈O,cK X pins H c) (n:Nat) (p:Addr->Nat->LV->Hp->Prop)
    (bQ:∀L,H L=none->p L 0 [] (upd H L (.lst [])))
    (go:∀L,H L=none->∀i G H',i<n->p L i G H'->J.go i H'/\G.length<sizeLine/\∀x H1,J.yld i H' x H1->H1 L=some (.lst G)/\p L (i+1) (G++[x]) (upd H1 L (.lst (G++[x]))))
    (u:∀L,H L=none->∀G H',p L n G H'->J.stop n H') (D:∀L G H',H L=none->p L n G H'->Q (.ref L) H') :
    wpAny (model X.prog X.w) X.A (call (.type "list") [.ref z]) (EP X pins σ Q) X.xe s:=by
 have w:∀c∈O,c<s.heap.objs.size:=λc k=>by
  obtain⟨o,e,_⟩:=T.obj 0 s.heap K c k;exact ud e
 have sz:=sizeLine_eq;refine callType_codes (Q₁:=λZ N=>Z=.ref s.heap.objs.size/\N={ s with heap:=s.heap.push { cls:=.type "list",data:=.seq #[] } }) PySem.F.called_list (PySem.F.typeCall_list_1 _) PySem.F.entry_list_init (code_list_new _ ⟨rfl,rfl⟩) ?_;rintro Z N ⟨rfl,rfl⟩;have a:H s.heap.objs.size=none:=I.hok.fresh (ua _);have l:=uw (o:={ cls:=.type "list",data:=.seq #[] }) s.heap rfl;have B:Inv X pins σ (upd H s.heap.objs.size (.lst [])) { s with heap:=s.heap.push { cls:=.type "list",data:=.seq #[] } }:=I.lnew (its:=[]) (t':=s.toks) .nil (uu _);have W:=T.keep 0 s.heap (s.heap.push { cls:=.type "list",data:=.seq #[] }) K λc _ o e=>ui _ e;have j:∀c∈O,s.heap.objs.size≠c:=λc k=>Nat.ne_of_gt (w c k);refine⟨⟨_,l,rfl⟩,PySem.F.args_list_init_2 _ _,?_⟩;obtain⟨m,eh⟩:∃m,m=s.heap.push { cls:=.type "list",data:=.seq #[] }:=⟨_,rfl⟩
 rw[<- eh] at l B W ⊢;obtain⟨L,eL⟩:∃L,L=s.heap.objs.size:=⟨_,rfl⟩
 rw[<- eL] at l B j a ⊢;show wpAny _ _ (Builtin.List.listItems (.ref L) >>= λy=>Builtin.List.listUpdate (.ref L) (λ_=>#[]) >>= λ_=>letGo y.toList.reverse >>= λ_=>Builtin.List.listExtendWith (.ref L) (.ref z) .none) _ _ _;refine me (listItems_at l rfl (me (listUpdate_at l rfl (me (wpAny_letGo ?_)) (uu _) (uu _))));have M:Inv X pins σ (upd (upd H L (.lst [])) L (.lst [])) { s with heap:=m.update L (Obj.mapSeq λ_=>#[]) }:=B.lset (its:=[]) (its':=[]) (t':=s.toks) ah l rfl .nil (uu _);have g:∀(h:Heap) (f:Array Value->Array Value),∀c∈O,∀o,h.get? c=some o->(h.update L (Obj.mapSeq f)).get? c=some o:=λh f c k o e=>(u7 _ _ (j c k)).trans e;have v:=T.keep 0 _ _ W (g m λ_=>#[]);obtain⟨F,q⟩:∃F,(m.update L (Obj.mapSeq λ_=>(#[]:Array Value))).get? L=some { cls:=.type "list",data:=.seq #[] F }:=⟨_,PySem.IsL.update l λ_=>#[]⟩
 generalize m.update L (Obj.mapSeq λ_=>(#[]:Array Value))=r at M v q ⊢;unfold Builtin.List.listExtendWith;obtain⟨oz,hz,cz⟩:=ty 0 _ v;have A:({ s with heap:=r }:Shared).TypeIs (.ref z) cls:=⟨_,hz,cz⟩
 refine me (wpAny_typeOf A ?_);have ne:Builtin.List.listSameRef (.ref L) (.ref z)=false:=by simp[Builtin.List.listSameRef,j z T.mem]
 rw[if_neg (by rw[ne,n1,n2];decide)];refine me (T.self _ 0 _ _ _ v (me (uU ?_)));unfold Builtin.List.listLengthHint;refine me (wpAny_specialOf A nl ?_);show wpAny _ _ (specialOf (Value.ref z) (Str.ofString "__length_hint__") >>= _) _ _ _;refine me (wpAny_specialOf A nh (uc ?_));refine wpAny_ite_split (λ_=>me (wpAny_rule (me ?_))) (λz=>absurd rfl z);show wpAny _ _ (updateSeq L (·.push Value.none) >>= λ_=>updateSeq L λx=>x.pop) _ _ _;have Y:Inv X pins σ (upd (upd (upd H L (.lst [])) L (.lst [])) L (.lst [.non])) { s with heap:=r.update L (Obj.mapSeq (·.push Value.none)) }:=M.lset (its:=[]) (its':=[.none]) (t':=s.toks) ah q rfl (.cons rfl .nil) (by show 1<=_;omega);have S:=T.keep 0 _ _ v (g r (·.push Value.none));obtain⟨R,t⟩:∃R,(r.update L (Obj.mapSeq (·.push Value.none))).get? L=some { cls:=.type "list",data:=.seq #[Value.none] R }:=⟨_,PySem.IsL.update q (·.push Value.none)⟩
 refine me (wpAny_updateSeq q rfl ?_ (uu _) (by show 1<=_;omega));generalize r.update L (Obj.mapSeq (·.push Value.none))=C at Y S t ⊢;have E:Inv X pins σ (upd (upd (upd (upd H L (.lst [])) L (.lst [])) L (.lst [.non])) L (.lst [])) { s with heap:=C.update L (Obj.mapSeq λx=>x.pop) }:=Y.lset (its:=[.none]) (its':=[]) (t':=s.toks) ah t rfl .nil (uu _);have P:=T.keep 0 _ _ S (g C λx=>x.pop);refine wpAny_updateSeq t rfl ?_ (by show 1<=_;omega) (by show 0<=_;omega);generalize C.update L (Obj.mapSeq λx=>x.pop)=h4 at E P ⊢;have e4:upd (upd (upd (upd H L (.lst [])) L (.lst [])) L (.lst [.non])) L (.lst [])=upd H L (.lst []):=by
  funext b
  by_cases h:b=L
  ·rw[h,ah,ah]
  ·rw[aj h,aj h,aj h,aj h]
 rw[e4] at E;refine uc ⟨plainId_quiet PySem.F.plain_extend_loop _,?_⟩;refine nT (nm:="x") (tp:=default) T k L (λh=>j L h rfl) n (p L) (go L a) (u L a) _ 0 [] _ _ rfl (uu _) E (λc k=>?_) P (bQ L a) ?_
 ·obtain⟨l,q,t,g3,g4,g5⟩:=hf c k;exact⟨by rw[aj (Ne.symm (j c k))];exact l,q,t,g3,g4,g5⟩
 ·intro G H' s' I' d;exact⟨rfl,.ref _,_,I',rfl,D L G H' a d⟩
theorem qc:typeLookup (.type "enumerate") "__len__"=pure none:=by rw[typeLookup_type,builtinLookup_eq_fast];kernel_rfl
theorem oX:typeLookup (.type "enumerate") "__length_hint__"=pure none:=by rw[typeLookup_type,builtinLookup_eq_fast];kernel_rfl
def EnV (H:Hp) (refs xs:LV):Prop:=refs.length=xs.length/\∀(i:Nat) (r x:V),refs[i]? = some r->xs[i]? = some x->∃p,r=.ref p/\H p=some (.tup [.int (i:Int),x])
def sf (K:W.Frag) (ta:TA):TE:=λσ H Q=>ta σ H λvs H1=>∃a xs,vs=[.ref a]/\SqL K H1 a xs/\xs.length<=16000000/\∀l refs H2,H1 l=none->Same H1 H2->H2 l=some (.lst refs)->EnV H2 refs xs->Q (.ref l) H2
theorem oU (K:W.Frag) {X:Cx}{a:Expr}{ta:TA}{p p2 pos pos2:Pos}(w:X.calm=true) (B:Blt X.mg) (ha:PA X [a] ta) (N:Gl X "list" := by rfl) (R:Gl X "enumerate" := by rfl)
    (he:starEach [.Call (.Name "enumerate" p2) [a] [] pos2] X.env=(false,eval (.Call (.Name "enumerate" p2) [a] [] pos2) X.env)::starEach [] X.env:=by rfl) (hpl:(backTo pos (starEach [] X.env)).any (·.1)=false:=by rfl)
    (hs:starEach [a] X.env=[(false,eval a X.env)]:=by rfl) (hK:X.K=K:=by rfl) :
    PE X (.Call (.Name "list" p) [.Call (.Name "enumerate" p2) [a] [] pos2] [] pos) (sf K ta):=by
 subst hK;intro A s σ H Q I h;refine vb (dE I N B.list (show bootBuiltins "list"=some (.type "list") by decide +kernel) ?_ (by decide) (by decide));refine PyProof.Rows.callWith_type1 ?_ he hpl;rw[he];show wpAny _ _ (spliced ((false,eval (.Call (.Name "enumerate" p2) [a] [] pos2) X.env)::backTo pos (starEach [] X.env))) _ _ s;refine Calls.spliced_cons ?_;refine Call_ (dE I R B.enumerate boot_enumerate (PyProof.Rows.callWith_type1 (thn (ha pos2 A s σ H _ I h) λus D ⟨vs,Y,v,r1,q1⟩=>?_) hs rfl));obtain⟨l,C,rfl,E,hn,q⟩:=q1;obtain⟨u,rfl,ru⟩:=bL r1;cases ru;obtain⟨a1,rv,U,hz⟩:=v.list E;refine call_enumerate_list U.isList λh' S M a0 k'=>?_;refine Calls.spliced_nil ?_;have Z:=v.kept (t':=D.toks) k';have sz:=sizeLine_eq;refine lr w Z (nS l _ _ (Nat.succ_ne_self D.heap.objs.size)) (cls:="enumerate") (λi h ⟨⟨_,_,_,_,e⟩,_⟩=>⟨_,e,rfl⟩) qc oX (by decide) (by decide) ⟨⟨_,_,_,.inl rfl,S⟩,M⟩ (λc w=>?_) C.length
  (λL i b k=>Same Y k/\k L=some (.lst b)/\EnV k b (C.take i)) (λL t=>⟨Same.new t,ah,rfl,λi r x h=>by cases h⟩) (λL t i b k hi ⟨g,n,f⟩=>?_) (λL t b k ⟨g,n,f⟩=>⟨_,E.same' g,ua _⟩) (λL b k t ⟨g,n,f⟩=>?_)
 ·have hb:c=D.heap.objs.size+1∨c=D.heap.objs.size:=by simpa using w
  rcases hb with z | z
  ·subst z;exact v.fpOk (Nat.le_succ _) (v.hok.fresh (Nat.le_succ _))
  ·subst z;exact v.fpOk (ua _) (v.hok.fresh (ua _))
 ·have al:b.length=i := by rw[f.1, uM]; omega
  have P:C[i]? = some C[i]:=uy hi;refine⟨⟨_,_,E.same' g,P⟩,by omega,λx Hy yl=>?_⟩;obtain⟨p,y,T,rfl,hy,rfl⟩:=yl;have ey:C[i]=y:=ue (P.symm.trans (hy _ (E.same' g)));have O:L≠p:=ak n T;have F:=Same.new (o:=.tup [V.int (i:Int),y]) T;refine⟨F _ _ n,λc o w=>?_,ah,?_,λj r x m d=>?_⟩
  ·rw[aj (ak w t)];exact F _ _ (g c o w)
  ·rw[uA,f.1,uM,uM];show _+1=_;omega
  ·by_cases hj:j<i
   ·rw[vj (by omega)] at m;rw[List.getElem?_take,if_pos (by omega)] at d;obtain⟨p',rfl,G⟩:=f.2 j r x m (by rw[List.getElem?_take,if_pos hj];exact d);have J:=F _ _ G;exact⟨p',rfl,by rw[aj λz=>by rw[z,F _ _ n] at J;cases J];exact J⟩
   ·rw[vd (by omega),al] at m;have j0:j=i:=by
     have:=(uh.mp m).1;have:j-i<1:=this;omega
    subst j0;rw[Nat.sub_self] at m;obtain rfl:V.ref p=r:=ue m;rw[List.getElem?_take,if_pos (by omega),P,ey] at d;obtain rfl:=ue d;exact⟨p,rfl,by rw[aj (Ne.symm O)];exact ah⟩
 ·rw[uB (ua _)] at f;exact q L b k t g n f
section
open Builtin Builtin.Str
theorem jF (x y z:Str) (t u v e:Tok) (f:(u==0||v==0)=false) (b:(u==v)=false) (c:(y==z)=false) (d:tooLong (x.length+(occurrences x y 0 x.length 1).length * z.length)=false) :
    Gives («str.replace» ⟨[.str x t,.str y u,.str z v,.int 1 e],[]⟩) (if ((occurrences x y 0 x.length 1).isEmpty||(y.length==0&&z.length==0))=true then .val (.str x t) else .str (glued z (partsBetween x (occurrences x y 0 x.length 1) y.length))):=by
 show Gives (if ((occurrences x y 0 x.length 1).isEmpty||(y.length==0&&z.length==0))=true then (do rule "str.replace.nothing"; ret (.str x t)) else
         (do let a ← isSame (.str y u) (.str z v)
             if a=true then (do rule "str.replace.old-is-new";ret (.str x t)) else
             if tooLong (x.length+(occurrences x y 0 x.length 1).length * z.length)=true then unsupported "str.replace:memory" else
             retStr (glued z (partsBetween x (occurrences x y 0 x.length 1) y.length)))) _
 rw[isSame_str_other y z u v f b c,d];cases hc:((occurrences x y 0 x.length 1).isEmpty||(y.length==0&&z.length==0))
 ·exact .of_eq rfl
 ·exact .rule (.of_eq rfl)
theorem hG (x y z:Str):(glued z (partsBetween x (occurrences x y 0 x.length 1) y.length)).length<=x.length+z.length:=by
 have b:=StrLaws.occ_length_le x y 0 x.length 1;have a:(glued y (partsBetween x (occurrences x y 0 x.length 1) y.length)).length=x.length:=by rw[StrLaws.glued_between_self]
 rw[size_glued,length_partsBetween,Nat.add_sub_cancel] at a;rw[size_glued,length_partsBetween,Nat.add_sub_cancel];have c:=vy z.length b;omega
theorem lF (f:u≠0) (e:v≠0) (a:u≠v) (b:(y==z)=false) (d:x.length+z.length<=sizeLine)
    (c:∀i t' k,i.length<=x.length+z.length->Q (.str i t') { s with toks:=k }):wpAny (model prog w) A (call (.builtin "str.replace") [.str x t,.str y u,.str z v,.int 1 tk]) Q E s:=by
 have g:=StrLaws.occ_length_le x y 0 x.length 1;have h:tooLong (x.length+(occurrences x y 0 x.length 1).length * z.length)=false:=by
  have j:=vy z.length g;unfold tooLong;exact ut (by omega)
 refine call_gives F.slot_str_replace (typeIs_str _ _ _) F.entry_str_replace (F.args_str_replace_4 _ _ _ _) (jF x y z t u v tk (by simp[f,e]) (by simp[a]) b h) ?_;cases hc:((occurrences x y 0 x.length 1).isEmpty||(y.length==0&&z.length==0))
 ·simp only[vo,if_false];exact⟨uo (hG x y z) d,c _ _ _ (hG x y z)⟩
 ·simp only[if_true];exact c _ _ s.toks (Nat.le_add_right _ _)
end
theorem ly {i:Nat}{x:Str}(I:Inv X pins σ H s) (o:X.N[i]? = some x) (j:Vis X.env.scope x) (e:σ[i]? = some (some v)) (f:(x==("__debug__":Str))=false) (d:(x==("__classdict__":Str))=false)
    (h:∀u,RelV v u->Q u s):wpAny (model X.prog X.w) X.A (eval (.Name x pos) X.env) Q X.xe s:=by
 obtain⟨m,n,p⟩:=I.loc;obtain⟨u,r,l⟩:=p i x v o e j;rcases l with⟨b,k⟩ | ⟨b,c,g,a⟩
 ·exact wpAny_Name (wpAny_loadName_local I.ok.kind b n k (h u r)) f
 ·rcases b with b | b
  ·exact wpAny_Name (wpAny_loadName_cell I.ok.kind b g a (h u r)) f
  ·exact wpAny_Name (wpAny_loadName_free I.ok.kind b g a (h u r) d) f
def sX (i:Nat):TA:=λσ H Q=>∃z:Str,σ[i]? = some (some (.str z))/\z.length+2<=sizeLine/\∀z3:Str,z3.length<=z.length+2->Q [.str (" "++z),.str (z++" "),.str z3] H
theorem pO {X:Cx}{i:Nat}{x:Str}{j1 j2 j3 U j5:_}{p1 p2 O J G n1 n2 n3 q1 q2 ap Y:Pos}(t:X.N[i]? = some x) (n:Vis X.env.scope x) (m:(x==("__debug__":Str))=false := by decide) (d:(x==("__classdict__":Str))=false := by decide)
    (j:starEach [.BinOp (.Constant (.str " ") j1 p1) .Add (.Name x n1) q1,.BinOp (.Name x n2) .Add (.Constant (.str " ") j2 p2) q2,.Call (.Attribute (.Name x n3) "replace" ap) [.Constant (.str " ") j3 O,.Constant (.str "  ") U J,.Constant (.int 1) j5 G] [] Y] X.env=[(false,eval (.BinOp (.Constant (.str " ") j1 p1) .Add (.Name x n1) q1) X.env),(false,eval (.BinOp (.Name x n2) .Add (.Constant (.str " ") j2 p2) q2) X.env),(false,eval (.Call (.Attribute (.Name x n3) "replace" ap) [.Constant (.str " ") j3 O,.Constant (.str "  ") U J,.Constant (.int 1) j5 G] [] Y) X.env)]:=by rfl)
    (o:starEach [.Constant (.str " ") j3 O,.Constant (.str "  ") U J,.Constant (.int 1) j5 G] X.env=[(false,eval (.Constant (.str " ") j3 O) X.env),(false,eval (.Constant (.str "  ") U J) X.env),(false,eval (.Constant (.int 1) j5 G) X.env)]:=by rfl)
    (f:attributeBase (.Name x n3) "replace" X.env (eval (.Name x n3) X.env)=eval (.Name x n3) X.env:=by rfl)
    (g:((backTo Y (starEach [.Constant (.str " ") j3 O,.Constant (.str "  ") U J,.Constant (.int 1) j5 G] X.env)).all (λx=>!x.1)&&(backToKw Y (keywordEach [] X.env)).all (λx=>x.1.isSome)
     && decide ([Expr.Constant (.str " ") j3 O,.Constant (.str "  ") U J,.Constant (.int 1) j5 G].length+([]:List Keyword).length+(if ([]:List Keyword).isEmpty then 0 else 1)<30))=true:=by rfl)
    (c:(ap.endLine==Y.line)=true:=by rfl) (b:(backTo Y [(false,eval (.Constant (.str " ") j3 O) X.env),(false,eval (.Constant (.str "  ") U J) X.env),(false,eval (.Constant (.int 1) j5 G) X.env)]).any (·.1)=false:=by rfl) :
    PA X [.BinOp (.Constant (.str " ") j1 p1) .Add (.Name x n1) q1,.BinOp (.Name x n2) .Add (.Constant (.str " ") j2 p2) q2,.Call (.Attribute (.Name x n3) "replace" ap) [.Constant (.str " ") j3 O,.Constant (.str "  ") U J,.Constant (.int 1) j5 G] [] Y] (sX i):=by
 intro K a s p H Q I h;obtain⟨z,u,S,q⟩:=h;rw[j];have D:(" ":Str).length=1:=by decide +kernel
 have A:("  ":Str).length=2:=by decide +kernel
 refine Calls.spliced_cons ?_;refine wpAny_BinOp (Calls.Constant_str ?_);refine ly (I.tok _) t n u m d λu1 R=>?_;obtain⟨t1,rfl⟩:=R;refine add_str (λB V=>?_) (by omega);have N:Inv X a p H { s with toks:=V }:=I.tok _;refine Calls.spliced_cons ?_;refine wpAny_BinOp (ly N t n u m d λu2 l=>?_);obtain⟨t2,rfl⟩:=l;refine Calls.Constant_str ?_;have aQ:∀(r:Value) (k:Nat),0<k->RelV (.str (z++" ")) r->wpAny (model X.prog X.w) X.A (spliced [(false,eval (.Call (.Attribute (.Name x n3) "replace" ap) [.Constant (.str " ") j3 O,.Constant (.str "  ") U J,.Constant (.int 1) j5 G] [] Y) X.env)]) (λP E=>AP X a p Q (.str (" "++z) B::r::P) E) X.xe { s with toks:=k }:=λr k Z l=>by
  have w:Inv X a p H { s with toks:=k }:=I.tok _;refine Calls.spliced_cons ?_;refine wpAny_Call_method_late f g c rfl (ly w t n u m d λu3 y=>?_);obtain⟨t3,L⟩:=id y;obtain⟨F,M⟩:=jn (T:="str") w y rfl;refine⟨"str","str.replace",PySem.F.plainAttrs_str,PySem.F.slot_str_replace,PySem.F.type_str_replace,F,M,?_⟩;rw[o];refine Calls.callWith_builtin (by rw[b]) (Calls.evalArgs_plain ?_);show wpAny _ _ (spliced [(false,eval (.Constant (.str " ") j3 O) X.env),(false,eval (.Constant (.str "  ") U J) X.env),(false,eval (.Constant (.int 1) j5 G) X.env)]) _ _ _;refine Calls.spliced_cons (Calls.Constant_str (Calls.spliced_cons (Calls.Constant_str (Calls.spliced_cons (wpAny_Constant_int (Calls.spliced_nil ?_))))));subst L;refine lF (by show k≠0;omega) (by show k+1≠0;omega) (by show k≠k+1;omega) (by decide +kernel) (by rw[A];exact S) λv B k' C=>?_;rw[A] at C;exact Calls.spliced_nil ⟨[.str (" "++z),.str (z++" "),.str v],H,I.tok _,.cons ⟨_,rfl⟩ (.cons l (.cons ⟨_,rfl⟩ .nil)),q v C⟩
 refine PySem.P.add_str ?_;cases hz0:(z.length==0)
 ·rw[if_neg (by decide),if_neg (by rw[D];decide)];exact⟨by rw[aI,D];omega,aQ _ _ (Nat.succ_pos _) ⟨_,rfl⟩⟩
 ·rw[if_pos rfl];have e:z="":=SP.str_eq (by
   have W:z.cps.size=0:=ux (by simpa [Str.length] using hz0);rw[Array.size_eq_zero_iff.mp W];rfl)
  subst e;exact aQ _ _ (Nat.succ_pos _) ⟨_,rfl⟩
end L2
namespace K06
open PySem L2
def top (i:Nat):Stmt:=PySem.Challenge.pw_orderkeep_k06_texts_of_no_webs.main.body.getD i (.Pass ⟨0,0,0,0⟩)
abbrev fH:Stmt:=top 23
abbrev fj:Stmt:=top 27
abbrev fB:Stmt:=top 28
abbrev dn:Stmt:=top 29
abbrev gh:Stmt:=top 30
abbrev fP:Stmt:=top 31
abbrev gB:Stmt:=top 32
abbrev ei:Stmt:=top 33
abbrev eK:Stmt:=top 35
abbrev gr:Stmt:=top 36
abbrev nB:Stmt:=top 38
abbrev lc:Stmt:=top 39
abbrev bW:Stmt:=top 40
abbrev gY:Stmt:=top 41
abbrev lu:Stmt:=top 42
abbrev lC:Stmt:=top 43
abbrev kP:Stmt:=top 44
abbrev ff:Stmt:=top 45
abbrev kM:Stmt:=top 46
abbrev kN:Stmt:=top 47
abbrev eV:Stmt:=top 48
abbrev gt:Stmt:=top 49
abbrev iS:Stmt:=top 50
abbrev jy:Stmt:=top 51
abbrev dS:Stmt:=top 52
abbrev cj:Stmt:=tm (top 3) 0
section
variable {P:Program}{w:World}{K:W.Frag}{mg:MS}{base:Heap}
def fE (K:W.Frag):Sp:=λvs H Q _=>∃(p a:Addr) (m:Nat),vs=[.ref p,.int (m:Int)]/\Pen K H p a/\m<=61 /\
 ∀l ss H',ss.length=m->ss.Nodup->(∀s∈ss,Nm s)->H' l=some (.lst (List.map V.str ss))->H l=none->l≠p->PenV H' p a->But p H H'->Q (.ref l) H'
def pp (K:W.Frag):Sp:=λvs H Q _=>∃(a:Addr) (ns:List Int),vs=[.ref a]/\SqL K H a (ns.map V.int)/\∀p H',Pen K H' p a->Q (.ref p) H'
theorem scPen:FnScope ["_law_script"] ["_law_script"] (ao nB):=⟨rfl,rfl,rfl,by decide +kernel,rfl,by decide +kernel,by decide +kernel⟩
theorem sM (F:Fun K "_law_pen" "_law_pen" nB f fd) (B:Blt mg):FnOk P w K mg base CX0 1 f fd ["_law_script"] (pp K):=by
 refine F.ok scPen (λe H Q E h=>?_) (λd A b s H e Q E i h=>?_)
 ·obtain⟨a,ns,rfl,_⟩:=h
  rfl
 ·obtain⟨a,ns,rfl,c,k⟩:=h;have j:=scPen.nd;refine⟨_,(ai (av (aZ (ac (pv 0) (ac ag (ac ag ae)))))),?_⟩;refine⟨_,rfl,(by show 3<=sizeLine;decide),λp g=>?_⟩;exact k p _ (Pen.new (ns:=ns) c g ⟨0,0,ah,by decide,by decide⟩)
theorem scDraw:FnScope ["_law_pen_here","_law_most","_law_found","_law_place","_law_cell","_law_first","_law_second"] ["_law_pen_here","_law_most"] (ao lc):=⟨rfl,rfl,rfl,by decide +kernel,rfl,by decide +kernel,by decide +kernel⟩
theorem pT (F:Fun K "_law_draw" "_law_draw" lc f fd) (B:Blt mg):FnOk P w K mg base CX0 1 f fd ["_law_pen_here", "_law_most"] (cV K) := by
 refine F.ok scDraw (λR H Q E h=>?_) (λO A y s H R Q E e h=>?_)
 ·obtain⟨p,a,m,rfl,_⟩:=h
  rfl
 ·obtain⟨p, a, m, rfl, ⟨⟨ns, J⟩, i, n, u, M, D⟩, l, v, k⟩ := h;have z:∀(r:Hp) (o:HO),(∀b,b≠p->r b=H b)->∀b,b≠p->(upd r p o) b=H b:=λr o q b n=>by rw[aj n];exact q b n
  have t:=scDraw.nd;refine⟨_,(af (aD (au eS (aB (aG K e.units) (pv 0) ag (λ_ _=>rfl)) ag (ax _)) (af (aq (i:=2) t rfl (Or.inl rfl) (aA bF (aB (aG K e.units) (pv 0) ag (λ_ _=>rfl)) (pv 1)))
   (af (cg (aA ek (aB (aG K e.units) (pv 0) ag (λ_ _=>rfl)) (pv 1)) (bT (pv 0) ag (cB e.units)))
   (ai (av (pv 2))))) ay)
   (af (aq (i:=3) t rfl (Or.inl rfl) (aB (aG K e.units) (pv 0) ag (λ_ _=>rfl)))
   (af (cg (aA aJ (pv 3) ag) (bT (pv 0) ag (cB e.units)))
   (af (aq (i:=4) t rfl (Or.inl rfl) ag)
   (af (aD (au eS (bb K B (ac (aB (aG K e.units) (pv 0) ag (λ_ _=>rfl)) ae)) ag (ax _)) (ai (aq (i:=4) t rfl (Or.inl rfl) (aB (aG K e.units) (aB (aG K e.units) (pv 0) ag (λ_ _=>rfl)) (aA bF (pv 3) (bb K B (ac (aB (aG K e.units) (pv 0) ag (λ_ _=>rfl)) ae))) (λ_ _=>rfl)))) ay)
   (af (aD (PW.pt (gz (au cG (pv 3) (bb K B (ac (aB (aG K e.units) (pv 0) ag (λ_ _=>rfl)) ae)) (ax _)) (fN (au tz (li B (ac (pv 4) ae)) (aA sV ag ag) (ax _))))) (af (cg (aA ek (li B (ac (pv 4) ae)) (pv 1)) (bT (pv 0) ag (cB e.units)))
   (ai (av (aA bF (li B (ac (pv 4) ae)) (pv 1))))) ay)
   (af (aq (i:=5) t rfl (Or.inl rfl) (aA bF (aA cU (aA aJ (aA aJ (aA bF (pv 4) ag) (aA cU ag (pv 3))) ag) ag) ag))
   (af (aq (i:=6) t rfl (Or.inl rfl) (aA bF (aA aJ (aA aJ (aA cU (pv 5) (pv 5)) (aA cU ag (pv 3))) ag) ag))
   (ai (av (aA bF (aA ek (pv 6) ag) (pv 1)))))))))))),?_⟩
  refine⟨_,rfl,.lst (.of u) rfl ⟨_,_,rfl,rfl,_,rfl,?_⟩⟩;refine aw (λh=>?_) (λh=>?_)
  ·refine⟨_,rfl,.lst (.of u) rfl ⟨_,rfl,_,_,rfl,rfl,l,?_⟩⟩;refine⟨_,rfl,.lst (.of u) rfl ⟨_,rfl,_,_,rfl,rfl,⟨l,v⟩,?_⟩⟩;refine⟨_,rfl,.lst (j:=2) u rfl ?_⟩;refine⟨_,rfl,?_⟩;exact k _ _ (va _ (by omega)) (vp _ l) ⟨i,n / m,ah,M,Int.ediv_nonneg D (by omega)⟩ (z H _ λ_ _=>rfl)
  ·refine⟨_, rfl, .lst (.of u) rfl ?_⟩;refine⟨_,rfl,.int ?_⟩;refine⟨_,rfl,.lst (j:=1) u rfl ?_⟩;have d:(upd H p (.lst ([V.ref a,V.int i,V.int n].set 1 (V.int (i+1))))) p=some (.lst [.ref a,.int (i+1),.int n]):=ah;have g:SqL K (upd H p (.lst ([V.ref a,V.int i,V.int n].set 1 (V.int (i+1))))) a (ns.map V.int):=J _ But.upd;have C:∀b,b≠p->(upd H p (.lst ([V.ref a,V.int i,V.int n].set 1 (V.int (i+1))))) b=H b:=z H _ λ_ _=>rfl;generalize upd H p (.lst ([V.ref a,V.int i,V.int n].set 1 (V.int (i+1))))=r at d g C ⊢;have x:∀c:Int,0<=c->Q (.int (c % m)) r:=λc G=>k _ _ (va _ (by omega)) (vp _ l) ⟨i+1,n,d,by omega,D⟩ C;refine⟨_,rfl,.lst (.of d) rfl ⟨_,_,rfl,Or.inl ⟨_,g,rfl⟩,_,_,rfl,rfl,_,rfl,?_⟩⟩;refine aw (λh=>?a) (λh=>?b)
   case' a =>
    have I:(0:Int)<((ns.map V.int).length:Nat):=ux h;obtain⟨c,G⟩:=sW (ns:=ns) (j:=i % ((ns.map V.int).length:Nat)) (va _ (by omega)) (vp _ I);refine⟨_,rfl,.lst (.of d) rfl ⟨_,rfl,_,rfl,.lst (.of d) rfl ⟨_,_,rfl,Or.inl ⟨_,g,rfl⟩,_,_,rfl,rfl,I,.lst g G ?_⟩⟩⟩
   all_goals
    refine⟨_,rfl,_,rfl,.lst (.of d) rfl ⟨_,_,rfl,Or.inl ⟨_,g,rfl⟩,.int ⟨_,rfl,?_⟩⟩⟩;refine aw (λL=>?_) (λL=>?_)
    ·refine⟨_,rfl,_,rfl,_,_,rfl,rfl,⟨by decide,by decide,by decide⟩,_,_,rfl,rfl,_,rfl,?_⟩;refine aw (λN=>?_) (λN=>?_)
     ·refine⟨_,rfl,_,rfl,_,rfl,_,_,rfl,rfl,⟨l,v⟩,?_⟩;refine⟨_,rfl,.lst (j:=2) d rfl ?_⟩;refine⟨_,rfl,_,rfl,_,rfl,_,_,rfl,rfl,l,?_⟩;refine k _ _ (va _ (by omega)) (vp _ l) ⟨i+1,_,ah,by omega,Int.ediv_nonneg (by split <;> omega) (by omega)⟩ (z r _ C)
     ·refine⟨_,rfl,_,_,rfl,rfl,(by show (0:Int)<_;decide),_,rfl,_,_,rfl,rfl,.inl ⟨by decide,by decide⟩,.int (.int ⟨_,_,rfl,rfl,.inr ⟨by decide,by decide⟩,_,_,rfl,rfl,(by show (0:Int)<_;decide),?_⟩)⟩;refine⟨_,rfl,_,rfl,_,_,rfl,rfl,.inl (ie _),_,rfl,_,_,rfl,rfl,.inl ⟨by decide,by decide⟩,.int (.int ⟨_,_,rfl,rfl,(by show (0:Int)<_;decide),?_⟩)⟩;refine⟨_,rfl,_,_,rfl,rfl,⟨by decide,by decide⟩,_,rfl,_,_,rfl,rfl,l,?_⟩;exact x _ (Int.ediv_nonneg (va _ (by decide)) (by decide))
    ·refine⟨_,rfl,_,_,rfl,rfl,(by show (0:Int)<_;decide),_,rfl,_,_,rfl,rfl,.inl ⟨by decide,by decide⟩,.int (.int ⟨_,_,rfl,rfl,.inr ⟨by decide,by decide⟩,_,_,rfl,rfl,(by show (0:Int)<_;decide),?_⟩)⟩;refine⟨_,rfl,_,rfl,_,_,rfl,rfl,.inl (ie _),_,rfl,_,_,rfl,rfl,.inl ⟨by decide,by decide⟩,.int (.int ⟨_,_,rfl,rfl,(by show (0:Int)<_;decide),?_⟩)⟩;refine⟨_,rfl,_,_,rfl,rfl,⟨by decide,by decide⟩,_,rfl,_,_,rfl,rfl,l,?_⟩;exact x _ (Int.ediv_nonneg (va _ (by decide)) (by decide))
abbrev letters:Str:="abcdefghijklmnopqrstuvwxyz"
def cv:LS:=["things","thing","tie","ties","web","one","other","order","a","aa","z","top"]
def rQ:LS:=["line","ring","place","text","none"]
def wordsL:LS:=cv++rQ
theorem oH:∀s∈wordsL,bu (.str s)=true:=by decide +kernel
theorem jG:wordsL.Nodup:=by decide +kernel
theorem mo:wordsL.length=17:=by decide +kernel
def aE:Stmt->Expr
 | .Assign _ e _=>e
 | _=>.Name "" ⟨0,0,0,0⟩
def tL:Stmt->Expr->Stmt
 | .Assign ts _ p,e=>.Assign ts e p
 | s,_=>s
@[irreducible] def fT:Expr:=aE ((aU bW).getD 1 (.Pass ⟨0,0,0,0⟩))
theorem qP:aU bW=(aU bW).set 1 (tL ((aU bW).getD 1 (.Pass ⟨0,0,0,0⟩)) fT):=by unfold fT;rfl
theorem rC {t:Option Expr}{l:Nat}{env:Env}:swapsWith fT t l env=pure false:=by unfold fT;rfl
theorem sP {X:Cx}:PE X fT (jc (aV (tC (.str "things")) (aV (tC (.str "thing")) (aV (tC (.str "tie")) (aV (tC (.str "ties")) (aV (tC (.str "web")) (aV (tC (.str "one")) (aV (tC (.str "other")) (aV (tC (.str "order")) (aV (tC (.str "a")) (aV (tC (.str "aa")) (aV (tC (.str "z")) (aV (tC (.str "top")) dR))))))))))))):=by
 have e:∃q p h u t l z w m o g d b n j r s y x k v i c f a,fT=.List [.Constant (.str "things") n p,.Constant (.str "thing") j h,.Constant (.str "tie") r u,.Constant (.str "ties") s t,.Constant (.str "web") y l,.Constant (.str "one") x z,.Constant (.str "other") k w,.Constant (.str "order") v m,.Constant (.str "a") i o,.Constant (.str "aa") c g,.Constant (.str "z") f d,.Constant (.str "top") a b] q:=by
  unfold fT;exact⟨_,_,_,_,_,_,_,_,_,_,_,_,_,_,_,_,_,_,_,_,_,_,_,_,_,rfl⟩
 obtain⟨q,p,h,u,t,l,z,w,m,o,g,d,b,n,j,r,s,y,x,k,v,i,c,f,a,e⟩:=e;rw[e]
 with_reducible exact aZ (ac ar (ac ar (ac ar (ac ar (ac ar (ac ar (ac ar (ac ar (ac ar (ac ar (ac ar (ac ar ae aF) aF) aF) aF) aF) aF) aF) aF) aF) aF) aF) aF)
theorem ez {z:LS}{i:Nat}(h:i<z.length):atI (List.map V.str z) (i:Int)=some (.str (z.getD i "")):=aN (by simp[h,uX])
theorem qx {f:Nat->Str}{m i:Nat}(h:i<m):((List.range m).map f).getD i ""=f i:=by rw[uX,uC,List.getElem?_range h];rfl
theorem scNames:FnScope ["_law_pen_here","_law_many","_law_letters","_law_words","_law_base","_law_size","_law_at","_law_turn","_law_manner","_law_signs","_law_head","_law_tail"] ["_law_pen_here","_law_many"] (ao bW):=⟨rfl,rfl,rfl,by decide +kernel,rfl,by decide +kernel,by decide +kernel⟩
theorem nM {f:Addr}{fd:FuncData}(F:Fun K "_law_names" "_law_names" bW f fd) (B:Blt mg) (t:Cal P w K mg base 1 "_law_draw" ["_law_pen_here", "_law_most"] (cV K)):FnOk P w K mg base CX0 2 f fd ["_law_pen_here", "_law_many"] (fE K) := by
 refine F.ok scNames (λvs H Q E h=>?_) (λd7 A d2 s H vs Q E Y h=>?_)
 ·obtain⟨p,a,m,rfl,_⟩:=h
  rfl
 ·obtain⟨p, a, m, rfl, hP, hm, k⟩ := h;have nd:=scNames.nd;have v0:=hP.2;have lL:letters.length<=sizeLine:=by decide +kernel
  rw[qP];refine⟨_,(af (aq (i:=2) nd rfl (Or.inr rfl) ar)
   (af (aq (i:=3) nd rfl (Or.inr rfl) sP rC)
   (af (aq (i:=3) nd rfl (Or.inr rfl) (aA aJ (pv 3) (aZ (ac ar (ac ar (ac ar (ac ar (ac ar ae aF) aF) aF) aF) aF))))
   (af (aq (i:=4) nd rfl (Or.inr rfl) (fm K ar (ac (bP (ao bW) ["_law_pen_here","_law_many","_law_letters","_law_words","_law_base","_law_size","_law_at","_law_turn","_law_manner","_law_signs","_law_head","_law_tail"] [2,0] "_law_k" ["_law_letters","_law_pen_here"] (bX rfl B.range (ac ag ae)) bi (aB (aG K Y.units) (pv 1) (am t (Y.mono (by decide)) rfl (ac (pv 2) (ac ag ae))) (λ_ _=>rfl))) ae)))
   (af (aq (i:=5) nd rfl (Or.inr rfl) (aA aJ ag (am t (Y.mono (by decide)) rfl (ac (pv 0) (ac ag ae)))))
   (af (aq (i:=6) nd rfl (Or.inr rfl) (am t (Y.mono (by decide)) rfl (ac (pv 0) (ac (pv 5) ae))))
   (af (aq (i:=7) nd rfl (Or.inr rfl) (am t (Y.mono (by decide)) rfl (ac (pv 0) (ac ag ae))))
   (af (aq (i:=8) nd rfl (Or.inl rfl) (am t (Y.mono (by decide)) rfl (ac (pv 0) (ac ag ae))))
   (af (aD (PW.pt (gz (au (aW Y.units) (pv 8) ag (ax _)) (fN (au cG (pv 1) ag (ax _))))) (ai (av (bP (ao bW) ["_law_pen_here","_law_many","_law_letters","_law_words","_law_base","_law_size","_law_at","_law_turn","_law_manner","_law_signs","_law_head","_law_tail"] [4,7] "_law_k" ["_law_base","_law_turn"] (bX rfl B.range (ac (pv 1) ae)) bi (bp (cX K) (pv 1) bS (br (aA aJ (aA bF (aA aJ (pv 2) (aA cU ag (pv 0))) ag) ag)))))) ay)
   (af (aD (PW.pt (gz (au (aW Y.units) (pv 8) ag (ax _)) (fN (au cG (pv 1) ag (ax _))))) (ai (av (bP (ao bW) ["_law_pen_here","_law_many","_law_letters","_law_words","_law_base","_law_size","_law_at","_law_turn","_law_manner","_law_signs","_law_head","_law_tail"] [3,7] "_law_k" ["_law_words","_law_turn"] (bX rfl B.range (ac (pv 1) ae)) bi (aB (aG K Y.units) (pv 1) (aA bF (aA aJ (pv 2) (pv 0)) ag) (λ_ _=>rfl))))) ay)
   (af (aq (i:=9) nd rfl (Or.inr rfl) (bP (ao bW) ["_law_pen_here","_law_many","_law_letters","_law_words","_law_base","_law_size","_law_at","_law_turn","_law_manner","_law_signs","_law_head","_law_tail"] [2,7] "_law_k" ["_law_letters","_law_turn"] (bX rfl B.range (ac (pv 1) ae)) bi (aB (aG K Y.units) (pv 1) (aA bF (aA aJ (pv 2) (aA cU ag (pv 0))) ag) (λ_ _=>rfl))))
   (af (aD (au cG (pv 1) ag (ax _)) (ai (av (bP (ao bW) ["_law_pen_here","_law_many","_law_letters","_law_words","_law_base","_law_size","_law_at","_law_turn","_law_manner","_law_signs","_law_head","_law_tail"] [4,5,6] "_law_sign_here" ["_law_base","_law_size","_law_at"] (bG K (pv 9)) bi (aA aJ (aA aJ (bp (cX K) (pv 1) bS (br (pv 3))) (pv 0)) (bp (cX K) (pv 1) (br (aA aJ (pv 3) ag)) (br (pv 2))))))) ay)
   (af (aq (i:=10) nd rfl (Or.inr rfl) (bp (cX K) (pv 4) bS (br (aA bF (pv 6) ag))))
   (af (aq (i:=11) nd rfl (Or.inr rfl) (bp (cX K) (pv 4) (br (aA bF (pv 6) ag)) (br (aA bF (pv 5) ag))))
   (ai (av (bP (ao bW) ["_law_pen_here","_law_many","_law_letters","_law_words","_law_base","_law_size","_law_at","_law_turn","_law_manner","_law_signs","_law_head","_law_tail"] [11,10,2,9] "_law_k" ["_law_tail","_law_head","_law_letters","_law_signs"] (bX rfl B.range (ac (pv 1) ae)) bi (aA aJ (aA aJ (aA aJ (pv 2) (aB (aG K Y.units) (pv 4) (pv 0) (λ_ _=>rfl))) (aB (aG K Y.units) (pv 3) (aA ek (pv 0) ag) (λ_ _=>rfl))) (pv 1))))))))))))))))))),?_⟩
  refine⟨(by show 12<=sizeLine;decide),λl1 b0=>?_⟩;have n1:=v0.ne b0;have b1:=(But.refl p H).at (o:=.lst (List.map V.str cv)) b0;have v1:=v0.upd (o:=.lst (List.map V.str cv)) n1;have e1:upd H l1 (.lst (List.map V.str cv)) l1=some (.lst (List.map V.str cv)):=ah;show nG _ _ _ _ (upd H l1 (.lst (List.map V.str cv)));generalize upd H l1 (.lst (List.map V.str cv))=H1 at b1 v1 e1 ⊢;refine⟨_,rfl,(by show 5<=sizeLine;decide),λl2 a3=>?_⟩;have n2:=v1.ne a3;have b2:=b1.at (o:=.lst ([V.str "line",V.str "ring",V.str "place",V.str "text",V.str "none"])) (b1.free (Ne.symm n2) a3);have v2:=v1.upd (o:=.lst ([V.str "line",V.str "ring",V.str "place",V.str "text",V.str "none"])) n2;refine .lst (by rw[aj (ak e1 a3)];exact e1) ah (by show 17<=sizeLine;decide) λR a2=>?_;have n3:=v2.ne a2;have b3:=b2.at (o:=.lst (List.map V.str cv++[V.str "line",V.str "ring",V.str "place",V.str "text",V.str "none"])) (b2.free (Ne.symm n3) a2);have v3:=v2.upd (o:=.lst (List.map V.str cv++[V.str "line",V.str "ring",V.str "place",V.str "text",V.str "none"])) n3;have e3:upd (upd H1 l2 (.lst ([V.str "line",V.str "ring",V.str "place",V.str "text",V.str "none"]))) R (.lst (List.map V.str cv++[V.str "line",V.str "ring",V.str "place",V.str "text",V.str "none"])) R=some (.lst (List.map V.str wordsL)):=by rw[ah];rfl
  have O:R≠p:=Ne.symm n3;have d4:H R=none:=b2.free (Ne.symm n3) a2;generalize upd (upd H1 l2 (.lst ([V.str "line",V.str "ring",V.str "place",V.str "text",V.str "none"]))) R (.lst (List.map V.str cv++[V.str "line",V.str "ring",V.str "place",V.str "text",V.str "none"]))=H3 at b3 v3 e3 ⊢;refine⟨rfl,_,rfl,by decide,by decide,?_⟩;refine cT (λD i C G J=>∃o ys,G=[o,some (.str letters),some (.ref p)]/\C=List.map V.str ys/\ys.length=i/\(∀y∈ys,y.length=1/\Lo y)/\J R=some (.lst (List.map V.str wordsL))/\PenV J p a/\But p H J/\H D=none/\p≠D/\R≠D) λD S=>⟨?_,?_,?_⟩
  ·have r:=v3.ne S;have g:=b3.free (Ne.symm r) S;have L:=ak e3 S;exact⟨none,[],rfl,rfl,rfl,(λy W=>by cases W),by rw[aj L];exact e3,v3.upd r,b3.at g,g,r,L⟩
  ·rintro i C G J T ⟨o, ys, rfl, rfl, hl, X, hw, v, b, g, r, L⟩ l;refine cJ ?_;refine⟨_,rfl,_,rfl,p,a,26,rfl,hP.but b v,by decide,by decide,λr5 H5 c3 b4 v5 e5=>?_⟩;refine .str lL (iT c3 b4) ⟨(e5 D (Ne.symm r)).trans l,?_,_,ys++[abc r5],rfl,by simp[abc],by simp[hl],?_,?_,v5.upd r,(b.trans (But.of_eq e5)).at g,g,r,L⟩
   ·rw[ub,hl];exact az (by simp at T;omega)
   ·intro y W;rcases uF.mp W with W | W
    ·exact X y W
    ·have:y=abc r5:=by simpa using W
     subst this;exact⟨rfl,gN c3 b4⟩
   ·rw[aj L];exact(e5 R O).trans hw
  ·rintro C G H5 ⟨o, ys, rfl, rfl, hl, X, a8, v5, b5, g, r, L⟩ l;have Z:Lo (Txt.join "" ys):=Lo.join Lo.nil λy W=>(X y W).2;have c5:(Txt.join "" ys).length=8:=by rw[oq λy W=>(X y W).1];simpa using hl
   have e0:("":Str).length=0:=by decide +kernel
   have c1:=rL (n:=1) λy W=>Nat.le_of_eq (X y W).1;refine⟨_,D,ys,rfl,rfl,l,by rw[e0];have:=hl;simp at this;omega,?_⟩;generalize Txt.join "" ys=z at Z c5 ⊢;have hz:z.length<=sizeLine:=uO (az (by omega));clear l X hl c1;refine⟨_,rfl,p,a,8,rfl,hP.but b5 v5,by decide,by decide,λr6 H6 c7 f0 v6 e6=>.int ?_⟩;have b6:=b5.trans (But.of_eq e6);refine⟨_,rfl,_,rfl,p,a,_,rfl,hP.but b6 v6,by omega,by omega,λr7 H7 c6 d5 v7 e7=>?_⟩;have b7:=b6.trans (But.of_eq e7);refine⟨_,rfl,p,a,26,rfl,hP.but b7 v7,by decide,by decide,λr8 H8 c4 d6 v8 e8=>?_⟩;have b8:=b7.trans (But.of_eq e8);refine⟨_,rfl,p,a,4,rfl,hP.but b8 v8,by decide,by decide,λr9 H9 d8 f1 v9 e9=>?_⟩;have b9:=b8.trans (But.of_eq e9);have a7:H9 R=some (.lst (List.map V.str wordsL)):=by rw[e9 R O,e8 R O,e7 R O,e6 R O];exact a8
   obtain⟨U,rfl⟩:=uH c7;obtain⟨I,rfl⟩:=uH c6;obtain⟨M,rfl⟩:=uH c4;clear e6 e7 e8 e9 v5 v6 v7 v8 b5 b6 b7 b8 a8;have a1:∀(D:Addr) (ss:LS) (J:Hp),J D=some (.lst (List.map V.str ss))->ss.length=m->ss.Nodup->(∀s∈ss,Nm s)->H D=none->p≠D->PenV J p a->But p H J->Q (.ref D) J:=λD ss J h1 h2 h3 h4 h5 h6 h7 h8=>k D ss J h2 h3 h4 h1 h5 (Ne.symm h6) h7 h8;have d3:=mo;have aQ:∀(H9:Hp),PenV H9 p a->But p H H9->∀σ:St,σ=[some (.ref p),some (.int (m:Int)),some (.str letters),some (.ref R),some (.str z),some (.int (1+(U:Int))),some (.int (I:Int)),some (.int (M:Int)),some (.int r9),none,none,none]->True:=λ_ _ _ _ _=>trivial;refine⟨_,rfl,.sc rfl ⟨_,rfl,?_⟩⟩;refine aw (λd1=>?a) (λd1=>?b)
   case' a =>
    refine⟨_,rfl,.int ⟨_,rfl,?_⟩⟩;refine aw (λh9=>?c) (λh9=>?d)
    case c =>
     have h9:(m:Int)<9:=ux h9;refine⟨_,rfl,_,rfl,by omega,by omega,?_⟩;refine cT (λD i C G J=>∃o,G=[o,some (.str z),some (.int (M:Int))]/\C=List.map V.str ((List.range i).map λk=>Txt.slice z none (some (((M+3 * k) % 8+1:Nat):Int)))/\PenV J p a/\But p H J/\H D=none/\p≠D) λD S=>⟨?_,?_,?_⟩
     ·have r:=v9.ne S;have g:=b9.free (Ne.symm r) S;exact⟨none,rfl,rfl,v9.upd r,b9.at g,g,r⟩
     ·rintro i C G J T ⟨o,rfl,rfl,v,b,g,r⟩ l;refine cJ ?_;refine⟨_,rfl,_,rfl,_,rfl,_,_,rfl,rfl,.inl ⟨by decide,by decide⟩,.int ⟨_,_,rfl,rfl,(by show (0:Int)<_;decide),.int ⟨_,rfl,.str hz ?_⟩⟩⟩;rw[show ((M:Int)+3 * (0+(i:Nat):Int)) % 8+1=(((M+3 * i) % 8+1:Nat):Int) by omega];refine⟨l,?_,_,rfl,?_,v.upd r,b.at g,g,r⟩
      ·rw[ub,ub,uT];exact az (by simp at T;omega)
      ·rw[cC,uk];rfl
     ·rintro C G J ⟨o,rfl,rfl,v,b,g,r⟩ l;have a4:((m:Int)-0).toNat=m:=by omega
      refine a1 D _ J l (by simp) (dI _ _ λi j a6 Z e=>?_) (λs hs=>?_) g r v b
      ·have e:=congrArg Str.length e;rw[dG (by omega),dG (by omega)] at e;simp at Z;omega
      ·obtain⟨i,T,rfl⟩:=fc hs;have hl:=dG (z:=z) (j:=(M+3 * i) % 8+1) (by omega);exact(Z.slice _ _).nm (by rw[hl];omega) (by rw[hl];omega)
   all_goals
    refine⟨_,rfl,.sc rfl ⟨_,rfl,?_⟩⟩;refine aw (λc9=>?_) (λc9=>?_);refine⟨_,rfl,.int ⟨_,rfl,?_⟩⟩;refine aw (λa5=>?_) (λa5=>?_)
    ·
        have a5:(m:Int)<18:=ux a5;refine⟨_,rfl,_,rfl,by omega,by omega,?_⟩;refine cT (λD i C G J=>∃o,G=[o,some (.ref R),some (.int (M:Int))]/\C=List.map V.str ((List.range i).map λk=>wordsL.getD ((M+k) % 17) "")/\J R=some (.lst (List.map V.str wordsL))/\PenV J p a/\But p H J/\H D=none/\p≠D/\R≠D) λD S=>⟨?_,?_,?_⟩
        ·have r:=v9.ne S;have g:=b9.free (Ne.symm r) S;have L:=ak a7 S;exact⟨none,rfl,rfl,by rw[aj L];exact a7,v9.upd r,b9.at g,g,r,L⟩
        ·rintro i C G J T ⟨o,rfl,rfl,hw,v,b,g,r,L⟩ l;refine cJ ?_;refine⟨_,rfl,_,rfl,_,rfl,.int ⟨_,_,rfl,rfl,(by show (0:Int)<_;decide),?_⟩⟩;refine .lst (.of hw) (show atI _ (((M:Int)+(0+(i:Nat):Int)) % 17)=some (.str (wordsL.getD ((M+i) % 17) "")) from by
          rw[show ((M:Int)+(0+(i:Nat):Int)) % 17=(((M+i) % 17:Nat):Int) by omega];exact ez (by omega)) ⟨l,?_,_,rfl,?_,by rw[aj L];exact hw,v.upd r,b.at g,g,r,L⟩
         ·rw[ub,ub,uT];exact az (by simp at T;omega)
         ·rw[cC,uk];rfl
        ·rintro C G J ⟨o, rfl, rfl, hw, v, b, g, r, L⟩ l;refine a1 D _ J l (by simp) (dI _ _ λi j a6 Z e=>?_) (λs hs=>?_) g r v b
         ·have e:=gi wordsL jG (by omega) (by omega) e;simp at Z;omega
         ·obtain⟨i,T,rfl⟩:=fc hs;have c2:(M+i) % 17<wordsL.length:=by omega
          have a9:wordsL.getD ((M+i) % 17) ""∈wordsL:=by
           rw[uX,uy c2];exact uV c2
          exact isNm_iff.mp (oH _ a9)
    all_goals
     refine⟨_,rfl,_,rfl,by omega,by omega,?_⟩;refine cT (λD i C G J=>∃o,G=[o,some (.str letters),some (.int (M:Int))]/\C=List.map V.str ((List.range i).map λk=>abc (((M+5 * k) % 26:Nat):Int))/\PenV J p a/\But p H J/\H D=none/\p≠D) λD S=>⟨?_,?_,?_⟩
     ·have r:=v9.ne S;have g:=b9.free (Ne.symm r) S;exact⟨none,rfl,rfl,v9.upd r,b9.at g,g,r⟩
     ·rintro i C G J T ⟨o,rfl,rfl,v,b,g,r⟩ l;refine cJ ?_;refine⟨_,rfl,_,rfl,_,rfl,_,_,rfl,rfl,.inl ⟨by decide,by decide⟩,.int ⟨_,_,rfl,rfl,(by show (0:Int)<_;decide),?_⟩⟩;refine .str lL (show atI _ (((M:Int)+5 * (0+(i:Nat):Int)) % 26)=some (97+(((M+5 * i) % 26:Nat):Int).toNat) from by
       rw[show ((M:Int)+5 * (0+(i:Nat):Int)) % 26=(((M+5 * i) % 26:Nat):Int) by omega];exact iT (by omega) (by omega)) ⟨l,?_,_,rfl,?_,v.upd r,b.at g,g,r⟩
      ·rw[ub,ub,uT];exact az (by simp at T;omega)
      ·rw[cC,uk];rfl
     ·rintro C G HA ⟨o, rfl, rfl, vA, bA, e4, d9⟩ l;have a4:((m:Int)-0).toNat=m:=by omega
      have l:HA D=some (.lst (List.map V.str ((List.range m).map λk=>abc (((M+5 * k) % 26:Nat):Int)))):=by first | exact l | (rw[a4] at l;exact l)
      refine⟨_,rfl,.int ⟨_,rfl,?_⟩⟩;refine aw (λa0=>?_) (λa0=>?_)
      ·have a0:(m:Int)<27 := ux a0;refine⟨_,rfl,_,rfl,⟨_,.of l⟩,?_⟩;refine cr (List.map V.str ((List.range m).map λk=>abc (((M+5 * k) % 26:Nat):Int))) (λD i C G J=>∃o,G=[o,some (.str z),some (.int (1+(U:Int))),some (.int (I:Int))]/\C=List.map V.str ((List.range i).map λk=>Txt.slice z none (some (I:Int))++abc (((M+5 * k) % 26:Nat):Int)++Txt.slice z (some ((I:Int)+1)) (some (1+(U:Int))))/\Same HA J/\HA D=none) λD S=>⟨?_,?_,?_,?_⟩
       ·exact⟨none,rfl,rfl,Same.new S,S⟩
       ·rintro i C G J _ ⟨o,rfl,_,sm,_⟩ _;exact .of (sm _ _ l)
       ·rintro i C G J x hx ⟨o,rfl,rfl,sm,g⟩ u;rw[uC,uC] at hx;have d0:i<m:=by
         by_cases q:i<m
         ·exact q
         ·rw[List.getElem?_eq_none (by rw[uT];omega)] at hx;cases hx
        rw[List.getElem?_range d0] at hx;have hx:V.str (abc (((M+5 * i) % 26:Nat):Int))=x:=ue hx;subst hx;refine cJ ?_;have l1:=iu z I;have l2:=fo z (I+1) (1+U);rw[show ((I+1:Nat):Int)=(I:Int)+1 by omega,show ((1+U:Nat):Int)=1+(U:Int) by omega] at l2;have c8:8<=sizeLine:=by decide
        refine⟨_,rfl,_,rfl,_,rfl,.str hz ⟨_,rfl,.str ?_ ⟨_,rfl,_,rfl,.int ⟨_,rfl,_,rfl,_,rfl,.str hz (.str ?_ ⟨u,?_,_,rfl,?_,?_,g⟩)⟩⟩⟩⟩
        ·rw[cp];omega
        ·rw[aI,cp];omega
        ·rw[ub,ub,uT];exact az (by omega)
        ·rw[cC,uk];rfl
        ·exact bx sm g
       ·rintro C G J ⟨o,rfl,rfl,sm,g⟩ u;rw[ub,ub,uT] at u;refine a1 _ _ J u (by simp) (dI _ _ λi j a6 Z e=>?_) (λs hs=>?_) (bA.free (Ne.symm (vA.ne g)) g) (vA.ne g) (kh sm vA) (bA.trans (But.of_same sm))
        ·have e:=pS e;omega
        ·obtain⟨i,T,rfl⟩:=fc hs;have l1:=dG (z:=z) (j:=I) (by omega);have l2:=fo z (I+1) (1+U);rw[show ((I+1:Nat):Int)=(I:Int)+1 by omega,show ((1+U:Nat):Int)=1+(U:Int) by omega] at l2;refine(((Z.slice _ _).app (gN (by omega) (by omega))).app (Z.slice _ _)).nm ?_ ?_
         ·rw[aI,aI,cp];omega
         ·rw[aI,aI,cp];omega
      ·have a0:¬ (m:Int)<27 := λq => a0 (ug q);refine⟨_,rfl,_,rfl,_,_,rfl,rfl,(by show (0:Int)<_;decide),_,rfl,.str hz ?_⟩;refine⟨_,rfl,_,rfl,_,_,rfl,rfl,(by show (0:Int)<_;decide),_,rfl,_,rfl,_,_,rfl,rfl,(by show (0:Int)<_;decide),_,rfl,.str hz ?_⟩;have t1:=iu z (I % 6);have t2:=fo z (I % 6) ((1+U) % 7);rw[show ((I % 6:Nat):Int)=(I:Int) % 6 by omega] at t1 t2;rw[show (((1+U) % 7:Nat):Int)=(1+(U:Int)) % 7 by omega] at t2;have g1:=Z.slice none (some ((I:Int) % 6));have g2:=Z.slice (some ((I:Int) % 6)) (some ((1+(U:Int)) % 7));have ht:(Txt.slice z none (some ((I:Int) % 6))).length+(Txt.slice z (some ((I:Int) % 6)) (some ((1+(U:Int)) % 7))).length<=6:=by omega
       have c8:8<=sizeLine:=by decide
       refine⟨_,rfl,_,rfl,by omega,by omega,?_⟩;generalize Txt.slice z none (some ((I:Int) % 6))=hd at t1 g1 ht ⊢;generalize Txt.slice z (some ((I:Int) % 6)) (some ((1+(U:Int)) % 7))=tl at t2 g2 ht ⊢;refine cT (λD' i C G J=>∃o,G=[o,some (.str tl),some (.str hd),some (.str letters),some (.ref D)]/\C=List.map V.str ((List.range i).map λk=>hd++abc (((M+5 * k) % 26:Nat):Int)++abc ((k / 26:Nat):Int)++tl)/\Same HA J/\HA D'=none) λD' c0=>⟨?_,?_,?_⟩
       ·exact⟨none,rfl,rfl,Same.new c0,c0⟩
       ·rintro i C G J T ⟨o,rfl,rfl,sm,N⟩ u;have T:i<m:=by simpa using T
        refine cJ ?_;refine⟨_,rfl,_,rfl,_,rfl,.lst (.of (sm _ _ l)) (show atI _ (0+(i:Nat):Int)=some (.str (abc (((M+5 * i) % 26:Nat):Int))) from by
         rw[Int.zero_add,ez (by simpa using T),qx T]) (.str (by rw[cp];omega) ⟨_,rfl,_,rfl,_,_,rfl,rfl,⟨by decide,by decide⟩,.str lL (show atI _ ((0+(i:Nat):Int) / 26)=some (97+((i / 26:Nat):Int).toNat) from by
         rw[show (0+(i:Nat):Int) / 26=((i / 26:Nat):Int) by omega];exact iT (by omega) (by omega)) (.str ?_ ⟨_,rfl,.str ?_ ⟨u,?_,_,rfl,?_,?_,N⟩⟩)⟩)⟩
        ·rw[aI,cp];show _+1+1<=sizeLine;omega
        ·rw[aI,aI,cp];show _+1+1+_<=sizeLine;omega
        ·rw[ub,ub,uT];exact az (by omega)
        ·rw[cC,uk];rfl
        ·exact bx sm N
       ·rintro C G J ⟨o,rfl,rfl,sm,N⟩ u;have u:J D'=some (.lst (List.map V.str ((List.range m).map λk=>hd++abc (((M+5 * k) % 26:Nat):Int)++abc ((k / 26:Nat):Int)++tl))):=by first | exact u | (rw[a4] at u;exact u)
        refine a1 D' _ J u (by simp) (dI _ _ λi j a6 Z e=>?_) (λs hs=>?_) (bA.free (Ne.symm (vA.ne N)) N) (vA.ne N) (kh sm vA) (bA.trans (But.of_same sm))
        ·obtain⟨e1,e2⟩:=nL e;omega
        ·obtain⟨i,T,rfl⟩:=fc hs;refine(((g1.app (gN (by omega) (by omega))).app (gN (by omega) (by omega))).app g2).nm ?_ ?_
         ·rw[aI,aI,aI,cp];omega
         ·rw[aI,aI,aI,cp,cp];omega
theorem pb (v:PenV H p a):∃ys,H p=some (.lst ys):=let ⟨_,_,e,_⟩:=v;⟨_,e⟩
def jw (K:W.Frag):Sp:=λvs H Q _=>∃(p a:Addr),vs=[.ref p]/\Pen K H p a /\
 ∀l ss H',ss.length<=60->ss.Nodup->(∀s∈ss,Nm s)->H' l=some (.lst (List.map V.str ss))->H l=none->l≠p->PenV H' p a->But p H H'->Q (.ref l) H'
theorem scThings:FnScope ["_law_pen_here","_law_many"] ["_law_pen_here"] (ao gY):=⟨rfl,rfl,rfl,by decide +kernel,rfl,by decide +kernel,by decide +kernel⟩
theorem mM (F:Fun K "_law_things" "_law_things" gY f fd) (B:Blt mg) (c:Cal P w K mg base 1 "_law_draw" ["_law_pen_here", "_law_most"] (cV K)) (d:Cal P w K mg base 2 "_law_names" ["_law_pen_here", "_law_many"] (fE K)):FnOk P w K mg base CX0 3 f fd ["_law_pen_here"] (jw K) := by
 refine F.ok scThings (λvs H Q E h=>?_) (λa2 A D s H vs Q E j h=>?_)
 ·obtain⟨p,a,rfl,_⟩:=h
  rfl
 ·obtain⟨p,a,rfl,q,k⟩:=h;have J:=scThings.nd;refine⟨_,(af (aq (i:=1) J rfl (Or.inl rfl) (am c (j.mono (by decide)) rfl (ac (pv 0) (ac ag ae))))
   (af (aD (au (aW j.units) (am c (j.mono (by decide)) rfl (ac (pv 0) (ac ag ae))) ag (ax _)) (ai (aq (i:=1) J rfl (Or.inl rfl) (aB (aG K j.units) (aZ (ac (am c (j.mono (by decide)) rfl (ac (pv 0) (ac ag ae))) (ac ag ae))) (am c (j.mono (by decide)) rfl (ac (pv 0) (ac ag ae))) (λ_ _=>rfl)))) ay)
   (ai (av (am d (j.mono (by decide)) rfl (ac (pv 0) (ac (pv 1) ae))))))),?_⟩
  refine⟨_,rfl,p,a,9,rfl,q,by decide,by decide,λr1 H1 z a6 v1 e1=>?_⟩;have X:=But.of_eq e1;refine⟨_,rfl,p,a,5,rfl,q.but X v1,by decide,by decide,λr2 H2 a0 a5 R e2=>.sc rfl ⟨_,rfl,?_⟩⟩;have x:=X.trans (But.of_eq e2);have e:∀(n:Int) (t:Hp),0<=n->n<=60->PenV t p a->But p H t->fE K [.ref p,.int n] t Q E:=λn t h0 h1 v b=>by
   obtain⟨m,rfl⟩:=uH h0;exact⟨p,a,m,rfl,q.but b v,by omega,λl ss C g1 g2 g3 Y g5 I g7 g8=>k l ss C (by omega) g2 g3 Y (b.free I g5) I g7 (b.trans g8)⟩
  refine aw (λ_=>?_) (λ_=>?_)
  ·refine⟨_,rfl,p,a,61,rfl,q.but x R,by decide,by decide,λu H3 y a4 N e3=>⟨(by show 2<=sizeLine;decide),λl W=>?_⟩⟩;have O:=x.trans (But.of_eq e3);have g:=N.ne W;have v4:=N.upd (o:=.lst [V.int u,V.int 60]) g;have S:=O.at (o:=.lst [V.int u,V.int 60]) (O.free (Ne.symm g) W);refine⟨_,rfl,p,a,2,rfl,q.but S v4,by decide,by decide,λL Z a3 a1 T M=>?_⟩;have r:Z l=some (.lst [V.int u,V.int 60]):=(M l (Ne.symm g)).trans ah;have U:=S.trans (But.of_eq M);have G:L=0∨L=1:=by omega
   rcases G with rfl | rfl
   ·exact .lst (.of r) rfl ⟨_,rfl,_,rfl,e _ _ y (by omega) T U⟩
   ·exact .lst (.of r) rfl ⟨_,rfl,_,rfl,e _ _ (by decide) (by decide) T U⟩
  ·exact⟨_,rfl,_,rfl,e _ _ z (by omega) R x⟩
theorem jd (e f:Str × Str):PyData.eqv (aL e) (aL f)=decide (e=f):=by
 show (PyData.eqv (.str e.1) (.str f.1)&&(PyData.eqv (.str e.2) (.str f.2)&&true))=_;rw[jM,jM,Bool.and_true,uL,uP,decide_eq_true_iff,decide_eq_true_iff,decide_eq_true_iff];exact⟨λ⟨a,b⟩=>Prod.ext a b,λh=>by rw[h];exact⟨rfl,rfl⟩⟩
theorem iR (a:List (Str × Str)) (e:Str × Str):((a.map aL).any λd=>PyData.eqv d (aL e))=decide (e∈a):=by
 rw[List.any_map,uL,List.any_eq_true,decide_eq_true_iff]
 constructor
 ·rintro⟨x,b,h⟩;have h:PyData.eqv (aL x) (aL e)=true:=h;rw[jd] at h;rw[<- ux h];exact b
 ·intro h;refine⟨e,h,?_⟩;show PyData.eqv (aL e) (aL e)=true;rw[jd];exact ug rfl
theorem Rep.pairBut (d:H p=some (.lst ys)) (b:But p H H') (h:Rep H v (aL e)):Rep H' v (aL e):=by
 obtain⟨a,rfl,c⟩:=jP h;exact bM (b a _ (pz c d (by intro z;cases z)) c)
theorem RepAll.pairBut (hp:H p=some (.lst ys)) (b:But p H H'):∀ {es:List (Str × Str)}{xs:LV},RepAll H xs (es.map aL)->RepAll H' xs (es.map aL)
 | [],xs,h=>by rw[RepAll.nilI h];exact .nil
 | e::es,xs,h=>by
  obtain⟨y,ys',rfl,a,c⟩:=RepAll.consI h;exact .cons (Rep.pairBut hp b a) (RepAll.pairBut hp b c)
theorem gK (h:l.Nodup) (d:x∉l):(l++[x]).Nodup:=by
 rw[vr];exact⟨h,by simp,λa f b c=>by
  have:b=x:=by simpa using c
  subst this;exact λe=>d (e ▸ f)⟩
theorem eX {z:LS}{i:Nat}(h:i<z.length):z.getD i ""∈z:=by
 rw[uX,uy h];exact uV h
def lE (ss:LS) (c:Nat):Str × Str:=(ss.getD (c / ss.length) "",ss.getD (c % ss.length) "")
theorem lT (a:i.Nodup) (b:0<i.length) (f:c<i.length * i.length) (j:d<i.length * i.length) (h:lE i c=lE i d):c=d:=by
 have g:=(Prod.mk.inj h).1;have e:=(Prod.mk.inj h).2;exact jE (gi i a (vz f) (vz j) g) (gi i a (Nat.mod_lt _ b) (Nat.mod_lt _ b) e)
structure Tied (H:Hp) (t:Addr) (ss:LS) (ts:List (Str × Str)):Prop where
 at_:∃refs,H t=some (.lst refs)/\RepAll H refs (ts.map aL)
 few:ts.length<=400
 nd:ts.Nodup
 inn:∀e∈ts,e.1∈ss/\e.2∈ss
def mU (K:W.Frag):Sp:=λvs H Q _=>∃(p a n:Addr) (ss:LS),vs=[.ref p,.ref n]/\Pen K H p a/\H n=some (.lst (List.map V.str ss))/\n≠p/\ss.length<=60/\ss.Nodup/\(∀s∈ss,Nm s) /\
 ∀t ts H',Tied H' t ss ts->H t=none->t≠p->PenV H' p a->But p H H'->Q (.ref t) H'
theorem scTies:FnScope ["_law_pen_here","_law_things_here","_law_many","_law_found","_law_code","_law_step","_law_k","_law_tie"] ["_law_pen_here","_law_things_here"] (ao lu):=⟨rfl,rfl,rfl,by decide +kernel,rfl,by decide +kernel,by decide +kernel⟩
theorem qi (F:Fun K "_law_ties" "_law_ties" lu f fd) (B:Blt mg) (c:Cal P w K mg base 1 "_law_draw" ["_law_pen_here", "_law_most"] (cV K)):FnOk P w K mg base CX0 2 f fd ["_law_pen_here", "_law_things_here"] (mU K) := by
 refine F.ok scTies (λvs H Q E h=>?_) (λi8 A g9 s H vs Q E v h=>?_)
 ·obtain⟨p,a,n,b,rfl,_⟩:=h
  rfl
 ·obtain⟨p, a, n, b, rfl, hP, hn, C, c4, i0, c3, k⟩ := h;have nd:=scTies.nd;have v0:=hP.2;refine⟨_,(af (aq (i:=2) nd rfl (Or.inl rfl) (bb K B (ac (pv 1) ae)))
   (af (aq (i:=3) nd rfl (Or.inl rfl) (aZ ae))
   (af (aD (PW.pt (gz (au eS (pv 2) ag (ax _)) (fN (au (aW v.units) (am c (v.mono (by decide)) rfl (ac (pv 0) (ac ag ae))) ag (ax _))))) (af (aq (i:=4) nd rfl (Or.inl rfl) (am c (v.mono (by decide)) rfl (ac (pv 0) (ac (aA cU (pv 2) (pv 2)) ae))))
   (af (aq (i:=5) nd rfl (Or.inl rfl) (aB (aG K v.units) (aZ (ac ag (ac ag (ac ag (ac ag (ac ag (ac ag ae aF) aF) aF) aF) aF) aF)) (am c (v.mono (by decide)) rfl (ac (pv 0) (ac ag ae))) (λ_ _=>rfl)))
   (af (ce PassesOwn.never rfl (bX rfl B.range (ac (tD rfl B (ac (aA cU (pv 2) (pv 2)) (ac (aB (aG K v.units) (aZ (ac (am c (v.mono (by decide)) rfl (ac (pv 0) (ac ag ae))) (ac ag ae))) (am c (v.mono (by decide)) rfl (ac (pv 0) (ac ag ae))) (λ_ _=>rfl)) ae))) ae)) (aR (i:=6) nd rfl (Or.inl rfl)) (af (cm (dC K (pv 3) (ac (bc (ac (aB (aG K v.units) (pv 1) (aA ek (pv 4) (pv 2)) (λ_ _=>rfl)) (ac (aB (aG K v.units) (pv 1) (aA bF (pv 4) (pv 2)) (λ_ _=>rfl)) ae))) ae)))
   (ai (aq (i:=4) nd rfl (Or.inl rfl) (aA bF (aA aJ (pv 4) (pv 5)) (aA cU (pv 2) (pv 2)))))))
   (ai (av (pv 3)))))) ay)
   (af (ce PassesOwn.never rfl (bX rfl B.range (ac (aB (aG K v.units) (aZ (ac ag (ac (am c (v.mono (by decide)) rfl (ac (pv 0) (ac ag ae))) ae))) (pw B (ac (bV eS (pv 2) ag (ax _)) ae)) (λ_ _=>rfl)) ae)) (aR (i:=6) nd rfl (Or.inl rfl)) (af (aq (i:=7) nd rfl (Or.inl rfl) (bc (ac (aB (aG K v.units) (pv 1) (am c (v.mono (by decide)) rfl (ac (pv 0) (ac (pv 2) ae))) (λ_ _=>rfl)) (ac (aB (aG K v.units) (pv 1) (am c (v.mono (by decide)) rfl (ac (pv 0) (ac (pv 2) ae))) (λ_ _=>rfl)) ae))))
   (ai (aD (au (fg K v.units) (pv 7) (pv 3) (by with_unfolding_all rfl)) (ai (cm (dC K (pv 3) (ac (pv 7) ae)))) ay))))
   (ai (av (pv 3))))))),?_⟩
  refine⟨_,rfl,_,_,rfl,Or.inl ⟨_,.of hn,rfl⟩,(by show 0<=sizeLine;decide),λg M=>?_⟩;rw[ub];have m:=v0.ne M;have c5:n≠g:=ak hn M;have v1:=v0.upd (o:=.lst []) m;have b1:=(But.refl p H).at (o:=.lst []) M;have a4:upd H g (.lst []) g=some (.lst []):=ah;have a3:upd H g (.lst []) n=some (.lst (List.map V.str b)):=by rw[aj c5];exact hn
  generalize upd H g (.lst [])=H1 at v1 b1 a4 a3 ⊢;have i3:((b.length:Nat):Int)<=60:=by omega
  have d5:∀(r:List (Str × Str)) (d:LV) (u:Hp),u g=some (.lst d)->RepAll u d (r.map aL)->r.length<=400->r.Nodup->(∀e∈r,e.1∈b/\e.2∈b)->PenV u p a->But p H u->Q (.ref g) u:=λr d u h1 h2 h3 h4 h5 h6 h7=>k g r u ⟨⟨d,h1,h2⟩,h3,h4,h5⟩ M (Ne.symm m) h6 h7;refine⟨_,rfl,_,_,rfl,rfl,_,rfl,?_⟩;refine aw (λh0=>?_) (λh0=>?_);refine⟨_,rfl,p,a,6,rfl,hP.but b1 v1,by decide,by decide,λr1 H2 j8 i6 v2 e2=>.sc rfl ⟨_,rfl,?_⟩⟩;have b2:=b1.trans (But.of_eq e2);have d2:=(e2 g (Ne.symm m)).trans a4;have d9:=(e2 n C).trans a3;refine aw (λ_=>?_) (λ_=>?_)
  ·have h0:(0:Int)<(b.length:Nat):=ux h0;have G:0<b.length:=by omega
   have j4:b.length * b.length<=3600:=Nat.mul_le_mul c4 c4;have a2:0<b.length * b.length:=Nat.mul_pos G G;have eM:((b.length:Nat):Int) * ((b.length:Nat):Int)=((b.length * b.length:Nat):Int):=by rw[Int.natCast_mul]
   refine⟨_,rfl,_,rfl,_,rfl,_,_,rfl,rfl,.inl ⟨by omega,by omega⟩,p,a,_,rfl,hP.but b2 v2,by rw[eM];omega,by rw[eM];omega,λr2 H3 f8 f3 v3 e3=>?_⟩;rw[eM] at f3;obtain⟨c0,rfl⟩:=uH f8;have h8:c0<b.length * b.length:=by omega
   have b3:=b2.trans (But.of_eq e3);have a7:=(e3 g (Ne.symm m)).trans d2;have c2:=(e3 n C).trans d9;refine⟨(by show 6<=sizeLine;decide),λl hl=>?_⟩;have N:=v3.ne hl;have v4:=v3.upd (o:=.lst [V.int 61,V.int 67,V.int 71,V.int 73,V.int 79,V.int 83]) N;have b4:=b3.at (o:=.lst [V.int 61,V.int 67,V.int 71,V.int 73,V.int 79,V.int 83]) (b3.free (Ne.symm N) hl);refine⟨_,rfl,p,a,6,rfl,hP.but b4 v4,by decide,by decide,λr3 H5 j5 j1 v5 e5=>?_⟩;have f4:H5 l=some (.lst [V.int 61,V.int 67,V.int 71,V.int 73,V.int 79,V.int 83]):=(e5 l (Ne.symm N)).trans ah;have b5:=b4.trans (But.of_eq e5);have a1:H5 g=some (.lst []):=by rw[e5 g (Ne.symm m),aj (ak a7 hl)];exact a7
   have c1:H5 n=some (.lst (List.map V.str b)):=by rw[e5 n C,aj (ak c2 hl)];exact c2
   obtain⟨L,g2,e0⟩:∃L:Nat,atI [V.int 61,V.int 67,V.int 71,V.int 73,V.int 79,V.int 83] r3=some (.int (L:Int))/\L∈[61,67,71,73,79,83]:=by
    have f9:r3=0∨r3=1∨r3=2∨r3=3∨r3=4∨r3=5:=by omega
    rcases f9 with rfl | rfl | rfl | rfl | rfl | rfl
    ·exact⟨61,rfl,by decide⟩
    ·exact⟨67,rfl,by decide⟩
    ·exact⟨71,rfl,by decide⟩
    ·exact⟨73,rfl,by decide⟩
    ·exact⟨79,rfl,by decide⟩
    ·exact⟨83,rfl,by decide⟩
   have f5:=lM b.length (by omega) G L e0;have g6:L<=83:=by simp at e0;omega
   refine .lst (.of f4) g2 ?_;refine⟨_,rfl,_,rfl,_,_,rfl,rfl,.inl ⟨by omega,by omega⟩,_,rfl,p,a,401,rfl,hP.but b5 v5,by decide,by decide,λr4 H6 g8 j3 v6 e6=>⟨(by show 2<=sizeLine;decide),λl6 a9=>?_⟩⟩;have b6:=b5.trans (But.of_eq e6);have T:=v6.ne a9;have a8:=(e6 g (Ne.symm m)).trans a1;have a0:=(e6 n C).trans c1;have v7:=v6.upd (o:=.lst [V.int r4,V.int 400]) T;have b7:=b6.at (o:=.lst [V.int r4,V.int 400]) (b6.free (Ne.symm T) a9);refine⟨_,rfl,p,a,2,rfl,hP.but b7 v7,by decide,by decide,λr5 H8 j9 i9 v8 e8=>?_⟩;have g4:H8 l6=some (.lst [V.int r4,V.int 400]):=(e8 l6 (Ne.symm T)).trans ah;have b8:=b7.trans (But.of_eq e8);have D:H8 g=some (.lst []):=by rw[e8 g (Ne.symm m),aj (ak a8 a9)];exact a8
   have W:H8 n=some (.lst (List.map V.str b)):=by rw[e8 n C,aj (ak a0 a9)];exact a0
   obtain⟨r6,e9,j0,j6⟩:∃r6:Int,atI [V.int r4,V.int 400] r5=some (.int r6)/\0<=r6/\r6<=400:=by
    have f1:r5=0∨r5=1:=by omega
    rcases f1 with rfl | rfl
    ·exact⟨r4,rfl,g8,by omega⟩
    ·exact⟨400,rfl,by decide,by decide⟩
   obtain⟨cn,f0,j2,i5⟩:∃cn:Nat,(if r6<((b.length:Nat):Int) * ((b.length:Nat):Int) then r6 else ((b.length:Nat):Int) * ((b.length:Nat):Int))=(cn:Int)/\cn<=b.length * b.length/\cn<=400:=by
    rw[eM];by_cases q:r6<((b.length * b.length:Nat):Int)
    ·rw[if_pos q];exact⟨r6.toNat,by omega,by omega,by omega⟩
    ·rw[if_neg q];exact⟨_,rfl,ua _,by omega⟩
   refine .lst (.of g4) e9 ⟨_,_,rfl,_,rfl,?_⟩;rw[f0];refine⟨by omega,by omega,?_⟩;refine fu (λi σ u=>∃o6 o7 d,σ=[some (.ref p),some (.ref n),some (.int ((b.length:Nat):Int)),some (.ref g),some (.int (((c0+i * L) % (b.length * b.length):Nat):Int)),some (.int (L:Int)),o6,o7]/\u g=some (.lst d)/\RepAll u d (((List.range i).map λk=>lE b ((c0+k * L) % (b.length * b.length))).map aL)/\u n=some (.lst (List.map V.str b))/\PenV u p a/\But p H u) ?_ ?_ ?_
   ·refine⟨none,none,[],?_,D,.nil,W,v8,b8⟩;rw[Nat.zero_mul,Nat.add_zero,Nat.mod_eq_of_lt h8];rfl
   ·rintro i σ H9 hi ⟨o6,o7,d,rfl,O,a6,b0,v9,b9⟩;have hi:i<cn:=by simpa using hi
    have d6:(c0+i * L) % (b.length * b.length)<b.length * b.length:=Nat.mod_lt _ a2;have Z:((((c0+i * L) % (b.length * b.length):Nat):Int)+(L:Int)) % (((b.length:Nat):Int) * ((b.length:Nat):Int))=(((c0+(i+1) * L) % (b.length * b.length):Nat):Int):=by rw[eM,<- Int.natCast_add,<- Int.natCast_emod,Nat.mod_add_mod,Nat.succ_mul,Nat.add_assoc]
    have J:=a6.len;rw[ub,ub,uT] at J;generalize g1:(c0+i * L) % (b.length * b.length)=cd at d6 Z ⊢;have g0:atI (List.map V.str b) ((cd:Int) / ((b.length:Nat):Int))=some (.str (b.getD (cd / b.length) "")):=by rw[<- Int.natCast_ediv];exact ez (vz d6)
    have g3:atI (List.map V.str b) ((cd:Int) % ((b.length:Nat):Int))=some (.str (b.getD (cd % b.length) "")):=by rw[<- Int.natCast_emod];exact ez (Nat.mod_lt _ G)
    refine⟨_,rfl,.inl ⟨rfl,_,.of O⟩,_,rfl,_,rfl,_,rfl,_,_,rfl,rfl,⟨by omega,by omega⟩,.lst (.of b0) g0 ⟨_,rfl,_,rfl,_,rfl,_,_,rfl,rfl,by omega,.lst (.of b0) g3 ⟨(by show 2<=sizeLine;decide),λtq t=>?_⟩⟩⟩;have sq:=Same.new (o:=.tup [V.str (b.getD (cd / b.length) ""),V.str (b.getD (cd % b.length) "")]) t;have c8:g≠tq:=ak O t;have S:=v9.ne t;refine⟨g,_,_,rfl,rfl,sq _ _ O,by rw[<- J] at hi;exact az (by omega),?_⟩;refine⟨_,rfl,_,rfl,.int ⟨_,rfl,_,rfl,_,_,rfl,rfl,.inl ⟨by omega,by omega⟩,_,_,rfl,rfl,by rw[eM];omega,?_⟩⟩;refine⟨_,_,d++[.ref tq],(by rw[<- Z];rfl),ah,?_,?_,?_,?_⟩
    ·rw[cC,uk];refine RepAll.append (RepAll.pairBut (p:=g) (sq _ _ O) But.upd (a6.same sq)) (.cons ?_ .nil);rw[g1];refine bM ?_;rw[aj (Ne.symm c8)];exact ah
    ·rw[aj c5];exact sq _ _ b0
    ·exact(v9.upd S).upd m
    ·exact((b9.at (b9.free (Ne.symm S) t))).at M
   ·rintro σ H9 ⟨o6,o7,d,rfl,O,a6,b0,v9,b9⟩;refine⟨_,rfl,d5 _ d H9 O a6 (by simp;omega) (dI _ _ λi j h9 hj e=>?_) (λe I=>?_) v9 b9⟩
    ·have hj:j<cn:=by simpa using hj
     exact ow f5 h9 (by omega) (lT i0 G (Nat.mod_lt _ a2) (Nat.mod_lt _ a2) e)
    ·obtain⟨i,hi,rfl⟩:=fc I;exact⟨eX (vz (Nat.mod_lt _ a2)),eX (Nat.mod_lt _ G)⟩
  have v1:=v2;have b1:=b2;have a4:=d2;have a3:=d9
  all_goals
   refine⟨_,rfl,p,a,13,rfl,hP.but b1 v1,by decide,by decide,λr7 H3 f6 i4 v3 e3=>⟨(by show 2<=sizeLine;decide),λl hl=>?_⟩⟩;have b3:=b1.trans (But.of_eq e3);have a7:=(e3 g (Ne.symm m)).trans a4;have c2:=(e3 n C).trans a3;have N:=v3.ne hl;have sl:=Same.new (o:=.lst [V.int 0,V.int r7]) hl;have v4:=v3.upd (o:=.lst [V.int 0,V.int r7]) N;have b4:=b3.at (o:=.lst [V.int 0,V.int r7]) (b3.free (Ne.symm N) hl);have d1:=sl _ _ a7;have d0:=sl _ _ c2;have e1:upd H3 l (.lst [V.int 0,V.int r7]) l=some (.lst [V.int 0,V.int r7]):=ah;generalize upd H3 l (.lst [V.int 0,V.int r7])=H4 at v4 b4 d1 d0 e1 ⊢;obtain⟨Y,d7,g7,i2⟩:∃Y:Nat,atI [V.int 0,V.int r7] (if decide ((0:Int)<((b.length:Nat):Int))=true then 1 else 0)=some (.int (Y:Int))/\(0<Y->0<b.length)/\Y<=12:=by
    by_cases q:(0:Int)<((b.length:Nat):Int)
    ·rw[if_pos (ug q)];exact⟨r7.toNat,by show some (V.int r7)=_;rw[Int.toNat_of_nonneg f6],λ_=>by omega,by omega⟩
    ·rw[if_neg (by simpa using q)];exact⟨0,rfl,λz=>absurd z (by decide),by decide⟩
   refine⟨_,rfl,_,_,rfl,rfl,_,rfl,.bl (.lst (.of e1) d7 ⟨_,rfl,by omega,by omega,?_⟩)⟩;refine fu (λi σ u=>∃(o6 o7:Option V) (d:LV) (r:List (Str × Str)),σ=[some (.ref p),some (.ref n),some (.int ((b.length:Nat):Int)),some (.ref g),none,none,o6,o7]/\u g=some (.lst d)/\RepAll u d (r.map aL)/\r.length<=i/\r.Nodup/\(∀e∈r,e.1∈b/\e.2∈b)/\u n=some (.lst (List.map V.str b))/\PenV u p a/\But p H u) ?_ ?_ ?_
   ·exact⟨none,none,[],[],rfl,d1,.nil,ua _,u5,(λe I=>by cases I),d0,v4,b4⟩
   ·rintro i σ H5 hi ⟨o6, o7, d, r, rfl, a1, c7, d8, a5, R, c1, v5, b5⟩;have hi:i<Y:=by simpa using hi
    have G:=g7 (by omega);refine⟨_,rfl,_,rfl,_,rfl,p,a,_,rfl,hP.but b5 v5,by omega,by omega,λr8 H6 f2 i7 v6 e6=>?_⟩;obtain⟨x,rfl⟩:=uH f2;have b6:=b5.trans (But.of_eq e6);have a8:=(e6 g (Ne.symm m)).trans a1;have a0:=(e6 n C).trans c1;have g5:RepAll H6 d (r.map aL):=by
     obtain⟨_,c6⟩:=pb v5;exact RepAll.pairBut c6 (But.of_eq e6) c7
    refine .lst (.of a0) (ez (by omega)) ⟨_,rfl,_,rfl,_,rfl,p,a,_,rfl,hP.but b6 v6,by omega,by omega,λr9 H7 f7 j7 v7 e7=>?_⟩;obtain⟨y,rfl⟩:=uH f7;have b7:=b6.trans (But.of_eq e7);have d3:=(e7 g (Ne.symm m)).trans a8;have d4:=(e7 n C).trans a0;have e4:RepAll H7 d (r.map aL):=by
     obtain⟨_,c6⟩:=pb v6;exact RepAll.pairBut c6 (But.of_eq e7) g5
    refine .lst (.of d4) (ez (by omega)) ⟨(by show 2<=sizeLine;decide),λtq t=>?_⟩;have sq:=Same.new (o:=.tup [V.str (b.getD x ""),V.str (b.getD y "")]) t;have c8:g≠tq:=ak d3 t;have S:=v7.ne t;have v8:=v7.upd (o:=.tup [V.str (b.getD x ""),V.str (b.getD y "")]) S;have b8:=b7.at (o:=.tup [V.str (b.getD x ""),V.str (b.getD y "")]) (b7.free (Ne.symm S) t);have D:=sq _ _ d3;have W:=sq _ _ d4;have U:=e4.same sq;have c9:upd H7 tq (.tup [V.str (b.getD x ""),V.str (b.getD y "")]) tq=some (.tup [V.str (b.getD x ""),V.str (b.getD y "")]):=ah;generalize upd H7 tq (.tup [V.str (b.getD x ""),V.str (b.getD y "")])=H8 at v8 b8 D W U c9 ⊢;have mx:b.getD x ""∈b:=eX (by omega);have my:b.getD y ""∈b:=eX (by omega);refine⟨_,rfl,_,rfl,.tr D U (bM c9) (cR r λe I=>⟨c3 _ (R e I).1,c3 _ (R e I).2⟩) (cR [(b.getD x "",b.getD y "")] (λe I=>by rw[uE.mp I];exact⟨c3 _ mx,c3 _ my⟩) |> λz=>by simpa [PyData.canLayAll0] using z) (by show 1<=16;decide) ⟨_,rfl,?_⟩⟩;rw[iR];have J:=U.len;rw[ub] at J;refine aw (λX=>?_) (λi1=>?_)
    ·have X:(b.getD x "",b.getD y "")∉r:=by simpa using X
     refine⟨_,rfl,.inl ⟨rfl,_,.of D⟩,_,rfl,g,_,_,rfl,rfl,D,az (by omega),?_⟩;refine⟨_,_,d++[.ref tq],r++[(b.getD x "",b.getD y "")],rfl,ah,?_,?_,gK a5 X,?_,?_,v8.upd m,b8.at M⟩
     ·rw[uk];refine RepAll.append (RepAll.pairBut (p:=g) D But.upd U) (.cons (bM ?_) .nil);rw[aj (Ne.symm c8)];exact c9
     ·rw[uA];show _+1<=_;omega
     ·intro e I;rcases uF.mp I with I | I
      ·exact R e I
      ·rw[uE.mp I];exact⟨mx,my⟩
     ·rw[aj c5];exact W
    ·exact⟨_,_,d,r,rfl,D,U,by omega,a5,R,W,v8,b8⟩
   ·rintro σ H5 ⟨o6,o7,d,r,rfl,a1,c7,d8,a5,R,c1,v5,b5⟩;exact⟨_,rfl,d5 r d H5 a1 c7 (by simp at d8;omega) a5 R v5 b5⟩
theorem scPlaces:FnScope ["things","places","place","thing"] ["things"] (ao fB):=⟨rfl,rfl,rfl,by decide +kernel,rfl,by decide +kernel,by decide +kernel⟩
theorem cH {i:LV}{ps:List (Str × Str)}(c:RepAll H i (ps.map aL)) {j:Nat}(b:i[j]? = some x):∃e ta,ps[j]? = some e/\x=.ref ta/\H ta=some (.tup [.str e.1,.str e.2]):=by
 obtain⟨d,a,rd⟩:=c.get b;rw[uC] at a;cases q:ps[j]? with
 | none=>rw[q] at a;cases a
 | some e =>
  rw[q] at a;have a:aL e=d:=ue a;rw[<- a] at rd;obtain⟨ta,g,f⟩:=jP rd;exact⟨e,ta,rfl,g,f⟩
theorem ck {z:LS}{i:Nat}(h:(List.map V.str z)[i]? = some x):∃s,z[i]? = some s/\V.str s=x:=by
 rw[uC] at h;cases q:z[i]? with
 | none=>rw[q] at h;cases h
 | some e=>rw[q] at h;exact⟨e,rfl,ue h⟩
structure PlN (H H':Hp) (d:Addr) (xs:LS) (i:Nat) (kvs:KV_):Prop where
 sm:Same H H'
 at_:H' d=some (.dK kvs)
 len:kvs.length<=i
 inn:∀s,(aM kvs (.inr s)).isSome=true ↔ s∈xs.take i
 ix:∀s v,aM kvs (.inr s)=some v->∃j:Nat,v=.int j/\xs[j]? = some s
 nd:(kvs.map (·.1)).Nodup
 ks:∀k∈kvs.map (·.1),∃s∈xs,k=Sum.inr s
theorem iI {kvs:KV_}{k:Key}(h:(aM kvs k).isSome=true):(bw kvs k v).map (·.1)=kvs.map (·.1):=by
 unfold bw;rw[if_pos (by rw[cy];exact h),u6];refine List.map_congr_left λp _=>?_;show (if p.1=k then (p.1,v) else p).1=p.1
 split <;> rfl
theorem PlN.step {xs:LS}{i:Nat}{kvs:KV_}{t:Str}(h:PlN H H' d xs i kvs) (g:H d=none) (j:H' p=none) (c:xs[i]? = some t) :
    PlN H (upd (upd H' p o) d (.dK (bw kvs (.inr t) (.int (i:Nat))))) d xs (i+1) (bw kvs (.inr t) (.int (i:Nat))):=by
 refine⟨?_,ah,?_,?_,?_,?_,?_⟩
 ·intro b o f;rw[aj (ak f g)];exact Same.new j _ _ (h.sm _ _ f)
 ·have:=bO kvs (.inr t) (V.int (i:Nat));have:=h.len;omega
 ·intro s;rw[df,uJ,c,uF];by_cases q:s=t
  ·subst q;simp
  ·rw[if_neg (λz=>q (Sum.inr.inj z)),h.inn s];simp[q]
 ·intro s v e;rw[df] at e;by_cases q:s=t
  ·subst q;rw[if_pos rfl] at e;exact⟨i,(ue e).symm,c⟩
  ·rw[if_neg (λz=>q (Sum.inr.inj z))] at e;exact h.ix s v e
 ·cases q:aM kvs (.inr t) with
  | none=>exact qC _ h.nd q
  | some v=>rw[iI (by rw[q];rfl)];exact h.nd
 ·intro k a;cases q:aM kvs (.inr t) with
  | none =>
   rw[jk _ q,uk] at a;rcases uF.mp a with a | a
   ·exact h.ks k a
   ·have:k=Sum.inr t:=by simpa using a
    exact⟨t,uN c,this⟩
  | some v=>rw[iI (by rw[q];rfl)] at a;exact h.ks k a
theorem lm (F:Fun K "places_of" "places_of" fB f fd) (B:Blt mg):FnOk P w K mg base CX0 1 f fd ["things"] dQ := by
 refine F.ok scPlaces (λvs H Q E h=>?_) (λa1 A a0 s H vs Q E hr h=>?_)
 ·obtain⟨x,rfl,_⟩:=h
  rfl
 ·obtain⟨x, rfl, h⟩ := h;have W:=scPlaces.nd;cases h with
  | @nm a xs _ C hl k =>
   refine⟨_,(af (aq (i:=1) W rfl (Or.inl rfl) fX)
   (af (ce PassesOwn.never rfl (dA K rfl B.enumerate (ac (pv 0) ae)) (cN (n:=2) K rfl (ba (aR (i:=2) W rfl (Or.inl rfl)) (ba (aR (i:=3) W rfl (Or.inl rfl)) cL))) (ai (cg (pv 2) (bT (pv 1) (pv 3) (cB hr.units)))))
   (ai (av (pv 1))))),?_⟩
   intro d N;have R:=Same.new (o:=.dK []) N;have bQ:PlN H (upd H d (.dK [])) d xs 0 []:=⟨R,ah,ua _,(λs=>by simp[cI]),(λs v e=>by cases e),u5,(λk I=>by cases I)⟩
   rcases C with C | C
   ·refine⟨_,rfl,_,rfl,.lst (.of (R _ _ C)) ?_⟩;refine dz (xs:=List.map V.str xs) (λi m j=>∃u r c,m=[some (.ref a),some (.ref d),u,r]/\PlN H j d xs i c) ?_ ?_ ?_ ?_
    ·exact⟨none,none,[],rfl,bQ⟩
    ·rintro i m j Z ⟨u,r,c,rfl,l⟩;exact .of (l.sm _ _ C)
    ·rintro i x m j p S ⟨u,r,c,rfl,l⟩ G;obtain⟨t,Y,rfl⟩:=ck S;have L:=(uh.mp Y).1;have y:d≠p:=ak l.at_ G;have:=l.len;refine⟨p,_,rfl,.of ah,rfl,_,_,rfl,_,_,rfl,rfl,?_⟩;exact⟨_,rfl,_,rfl,_,rfl,.dic (DPut.k (k:=.inr t) (by rw[aj y];exact l.at_) (az (by omega))) ⟨_,_,_,rfl,l.step N G Y⟩⟩
    ·rintro m j ⟨u,r,c,rfl,l⟩;have g:=l.inn;rw[ub,uB (ua _)] at g;exact⟨_,rfl,k d c j l.sm N l.at_ g l.ix l.nd l.ks⟩
   ·refine⟨_,rfl,_,rfl,.tup (.of (R _ _ C)) ?_⟩;refine fi (xs:=List.map V.str xs) (λi m j=>∃u r c,m=[some (.ref a),some (.ref d),u,r]/\PlN H j d xs i c) ?_ ?_ ?_ ?_
    ·exact⟨none,none,[],rfl,bQ⟩
    ·rintro i m j Z ⟨u,r,c,rfl,l⟩;exact .of (l.sm _ _ C)
    ·rintro i x m j p S ⟨u,r,c,rfl,l⟩ G;obtain⟨t,Y,rfl⟩:=ck S;have L:=(uh.mp Y).1;have y:d≠p:=ak l.at_ G;have:=l.len;refine⟨p,_,rfl,.of ah,rfl,_,_,rfl,_,_,rfl,rfl,?_⟩;exact⟨_,rfl,_,rfl,_,rfl,.dic (DPut.k (k:=.inr t) (by rw[aj y];exact l.at_) (az (by omega))) ⟨_,_,_,rfl,l.step N G Y⟩⟩
    ·rintro m j ⟨u,r,c,rfl,l⟩;have g:=l.inn;rw[ub,uB (ua _)] at g;exact⟨_,rfl,k d c j l.sm N l.at_ g l.ix l.nd l.ks⟩
  | @pr a refs ps _ C rp hl k =>
   refine⟨_,(af (aq (i:=1) W rfl (Or.inl rfl) fY)
   (af (ce PassesOwn.never rfl (dA K rfl B.enumerate (ac (pv 0) ae)) (cN (n:=2) K rfl (ba (aR (i:=2) W rfl (Or.inl rfl)) (ba (aR (i:=3) W rfl (Or.inl rfl)) cL))) (ai (cg (pv 2) (bT (pv 1) (pv 3) (cB hr.units)))))
   (ai (av (pv 1))))),?_⟩
   have M:=rp.len;rw[ub] at M;intro d N;have R:=Same.new (o:=.dT []) N;have O:∀(i:Nat) (e:Str × Str) (X p:Addr) (j:Hp) (c:List (List Key × V)), Same H j -> j d=some (.dT c) -> c.length <= i -> i<ps.length -> (∀f:Str × Str, (aM c (pK f)).isSome=true ↔ f ∈ ps.take i) -> ps[i]? = some e -> j p=none ->
       Same H (upd (upd j p (.tup [.int (i:Nat),.ref X])) d (.dT (bw c (pK e) (.int (i:Nat)))))/\(bw c (pK e) (V.int (i:Nat))).length<=i+1/\∀f:Str × Str,(aM (bw c (pK e) (V.int (i:Nat))) (pK f)).isSome=true ↔ f∈ps.take (i+1):=by
    intro i e X p j c D I J Z g U G;refine⟨?_,?_,λf=>?_⟩
    ·intro b o hb;rw[aj (ak hb N)];exact Same.new G _ _ (D _ _ hb)
    ·have:=bO c (pK e) (V.int (i:Nat));omega
    ·rw[df,uJ,U,uF];by_cases q:f=e
     ·subst q;simp
     ·rw[if_neg (λz=>q (gk z)),g f];simp[q]
   rcases C with C | C
   ·refine⟨_,rfl,_,rfl,.lst (.of (R _ _ C)) ?_⟩;refine dz (xs:=refs) (λi m j=>∃u r c,m=[some (.ref a),some (.ref d),u,r]/\Same H j/\j d=some (.dT c)/\c.length<=i/\∀f:Str × Str,(aM c (pK f)).isSome=true ↔ f∈ps.take i) ?_ ?_ ?_ ?_
    ·exact⟨none,none,[],rfl,R,ah,ua _,λs=>by simp[cI]⟩
    ·rintro i m j Z ⟨u,r,c,rfl,D,_⟩;exact .of (D _ _ C)
    ·rintro i x m j p S ⟨u,r,c,rfl,D,I,J,g⟩ G;obtain⟨e,X,U,rfl,T⟩:=cH (rp.same D) S;have L:=(uh.mp U).1;have y:d≠p:=ak I G;obtain⟨g1,g2,g3⟩:=O i e X p j c D I J L g U G;refine⟨p,_,rfl,.of ah,rfl,_,_,rfl,_,_,rfl,rfl,?_⟩;exact⟨_,rfl,_,rfl,_,rfl,.dic (DPut.t (k:=pK e) (by rw[aj y];exact I) (Same.new G _ _ T) (az (by omega))) ⟨_,_,_,rfl,g1,ah,g2,g3⟩⟩
    ·rintro m j ⟨u,r,c,rfl,D,I,J,g⟩;rw[M,uB (ua _)] at g;exact⟨_,rfl,k d c j D N I g⟩
   ·refine⟨_,rfl,_,rfl,.tup (.of (R _ _ C)) ?_⟩;refine fi (xs:=refs) (λi m j=>∃u r c,m=[some (.ref a),some (.ref d),u,r]/\Same H j/\j d=some (.dT c)/\c.length<=i/\∀f:Str × Str,(aM c (pK f)).isSome=true ↔ f∈ps.take i) ?_ ?_ ?_ ?_
    ·exact⟨none,none,[],rfl,R,ah,ua _,λs=>by simp[cI]⟩
    ·rintro i m j Z ⟨u,r,c,rfl,D,_⟩;exact .of (D _ _ C)
    ·rintro i x m j p S ⟨u,r,c,rfl,D,I,J,g⟩ G;obtain⟨e,X,U,rfl,T⟩:=cH (rp.same D) S;have L:=(uh.mp U).1;have y:d≠p:=ak I G;obtain⟨g1,g2,g3⟩:=O i e X p j c D I J L g U G;refine⟨p,_,rfl,.of ah,rfl,_,_,rfl,_,_,rfl,rfl,?_⟩;exact⟨_,rfl,_,rfl,_,rfl,.dic (DPut.t (k:=pK e) (by rw[aj y];exact I) (Same.new G _ _ T) (az (by omega))) ⟨_,_,_,rfl,g1,ah,g2,g3⟩⟩
    ·rintro m j ⟨u,r,c,rfl,D,I,J,g⟩;rw[M,uB (ua _)] at g;exact⟨_,rfl,k d c j D N I g⟩
theorem scIsName:FnScope ["thing"] ["thing"] (ao fH):=⟨rfl,rfl,rfl,by decide +kernel,rfl,by decide +kernel,by decide +kernel⟩
theorem lR (F:Fun K "is_name" "is_name" fH f fd) (B:Blt mg) (T:mg "MOST_SIGNS"=some (.int 8 tk)):FnOk P w K mg base CX0 1 f fd ["thing"] dM := by
 refine F.ok scIsName (λvs H Q E h=>?_) (λR A C s H vs Q E hr h=>?_)
 ·obtain⟨x,rfl,_⟩:=h
  rfl
 ·obtain⟨x, rfl, J, k⟩ := h;have nd:=scIsName.nd;obtain⟨t,N,Z,_⟩:=bU (K:=K) J;refine⟨_,(af (aD (aT (aP (dg K "str" B (ac (pv 0) (ac (iA B) ae))))) (ai (av bR)) ay)
   (af (aD (PW.pt (bt (au cG (bb K B (ac (pv 0) ae)) ag (ax _)) (bH (au eS (bb K B (ac (pv 0) ae)) (aO (v:=.int 8) rfl T ⟨_,rfl⟩) (ax _))))) (ai (av bR)) ay)
   (ai (av (fK rfl B (ac (bP (ao fH) ["thing"] [] "sign" [] (ml (pv 0)) bi (iV gI gI ar (pv 0) ar)) ae)))))),?_⟩
  refine⟨_,rfl,x,t,_,rfl,N,Z,_,rfl,?_⟩;refine aw (λy=>?_) (λy=>?_)
  ·have e:bu x=false:=by cases x <;> first | rfl | (simp[isS] at y)
   have q:=k H (Same.refl H);rw[e] at q;exact q
  ·obtain⟨z, rfl⟩:∃z, x=.str z := by cases x <;> first | exact⟨_, rfl⟩ | (simp[isS] at y)
   have p:z.length<=sizeLine:=by
    cases J with
    | str h=>exact h
   refine⟨_,rfl,_,_,rfl,⟨p,rfl⟩,.int ⟨_,rfl,?_⟩⟩;refine aw (λm=>?_) (λm=>?_)
   ·refine cE ?_;have q:=k H (Same.refl H);have m:(z.length:Int)<1:=ux m;have e:bu (.str z)=false:=by
     show (decide (1<=z.length)&&_)=false;rw[ut (by omega)];rfl
    rw[e] at q;exact q
   ·have m:¬ (z.length:Int)<1 := of_decide_eq_false (by simpa using m);refine⟨_,rfl,_,_,rfl,⟨p,rfl⟩,_,_,rfl,rfl,_,rfl,?_⟩;refine aw (λr=>?_) (λr=>?_)
    ·have q:=k H (Same.refl H);have r:(8:Int)<z.length:=ux r;have e:bu (.str z)=false:=by
      show (decide (1<=z.length)&&(decide (z.length<=8)&&_))=false;rw[ut (show ¬ z.length<=8 by omega),Bool.false_and,Bool.and_false]
     rw[e] at q;exact q
    ·have r:¬ (8:Int)<z.length := of_decide_eq_false (by simpa using r);have e:bu (.str z)=z.cps.toList.all be:=by
      show (decide (1<=z.length)&&(decide (z.length<=8)&&_))=_;rw[ug (show 1<=z.length by omega),ug (show z.length<=8 by omega),vh,vh]
     refine⟨_,rfl,z,rfl,?_⟩;refine iP (λD i g j l=>∃o,j=[o]/\g=(z.cps.toList.take i).map (λc=>V.bl (be c))/\Same H l/\H D=none) λD I=>⟨⟨none,rfl,rfl,Same.new I,I⟩,?_,?_⟩
     ·rintro i g j l c Y ⟨o, rfl, rfl, G, d⟩ a;refine cJ ?_;have L:∀b:Bool,b=be c->(l D=some (.lst ((z.cps.toList.take i).map (λc=>V.bl (be c))))/\((z.cps.toList.take i).map (λc=>V.bl (be c))).length<sizeLine /\
          (∃o,[some (V.str ⟨#[c]⟩)]=[o]/\(z.cps.toList.take i).map (λc=>V.bl (be c))++[V.bl b]=(z.cps.toList.take (i+1)).map (λc=>V.bl (be c))/\Same H (upd l D (.lst ((z.cps.toList.take i).map (λc=>V.bl (be c))++[V.bl b])))/\H D=none)):=λb W=>by
       refine⟨a,?_,_,rfl,?_,?_,d⟩
       ·rw[ub];refine az ?_;have:=List.length_take_le' i z.cps.toList;have S:z.length<=8:=by omega
        have hl:z.cps.toList.length=z.length:=by simp[Str.length]
        omega
       ·rw[uJ,Y,uk,W];rfl
       ·intro U X M;rw[aj (ak M d)];exact G U X M
      refine⟨_,rfl,.str ⟨_,rfl,?_⟩⟩;have e1:(!decide ((⟨#[c]⟩:Str).cps.toList<("a":Str).cps.toList))=decide (97<=c):=by
       show (!decide ([c]<[97]))=_;rw[mK];by_cases n:c<97
       ·rw[ug n,ut (by omega)];rfl
       ·rw[ut n,ug (by omega)];rfl
      have e2:(!decide (("z":Str).cps.toList<(⟨#[c]⟩:Str).cps.toList))=decide (c<=122):=by
       show (!decide ([122]<[c]))=_;rw[mK];by_cases n:122<c
       ·rw[ug n,ut (by omega)];rfl
       ·rw[ut n,ug (by omega)];rfl
      rw[e1];refine aw (λu=>?_) (λu=>?_)
      ·refine .str (L _ ?_);rw[e2];unfold be;rw[u,vh]
      ·refine L false ?_;unfold be;have u:decide (97<=c)=false:=by simpa using u
       rw[u,Bool.false_and]
     ·rintro g j l ⟨o,rfl,rfl,G,d⟩ a;rw[uB (ua _)] at a;refine⟨D,z.cps.toList.map be,rfl,by rw[u6];exact a,?_⟩;have q:=k l G;rw[e] at q;have O:(z.cps.toList.map be).all id=z.cps.toList.all be:=by rw[List.all_map];rfl
      rw[O];exact q
def jf:Sp:=λvs H Q _=>∃(a:Addr) (ss:LS),vs=[.ref a]/\SqA H a (List.map V.str ss)/\ss.length<=1000/\∀H',Same H H'->Q (.bl (decide ss.Nodup)) H'
theorem scUnlike:FnScope ["things"] ["things"] (ao fP):=⟨rfl,rfl,rfl,by decide +kernel,rfl,by decide +kernel,by decide +kernel⟩
theorem lO (F:Fun K "are_unlike" "are_unlike" fP f fd) (B:Blt mg) (b:Cal P w K mg base 1 "places_of" ["things"] dQ):FnOk P w K mg base CX0 2 f fd ["things"] jf := by
 refine F.ok scUnlike (λC H Q E h=>?_) (λv A m s H C Q E n h=>?_)
 ·obtain⟨a,i,rfl,_⟩:=h
  rfl
 ·obtain⟨a, i, rfl, q, g, k⟩ := h;have D:=scUnlike.nd;refine⟨_,(ai (av (bV (aW n.units) (mf B (ac (am b (n.mono (by decide)) rfl (ac (pv 0) ae)) ae)) (bb K B (ac (pv 0) ae)) (ax _)))),?_⟩;refine⟨_,rfl,_,rfl,?_⟩;refine .nm q g λd c o p r t l u j y=>⟨d,c,rfl,t,_,rfl,_,i.length,rfl,?_,.sc rfl ?_⟩
  ·have:=(SqA.same q p).len (K:=K);rw[ub] at this;exact this
  ·have e:=jU j y l;have x:decide (V.int (c.length:Nat)=V.int (i.length:Nat))=decide i.Nodup:=by
    rw[uL,decide_eq_true_iff,decide_eq_true_iff,<- e];exact⟨λz=>Int.ofNat.inj (V.int.inj z),λz=>by rw[z]⟩
   show Q (.bl (decide (V.int (c.length:Nat)=V.int (i.length:Nat)))) o;rw[x];exact k o p
theorem nmS (h:Nm s):s.length<=sizeLine:=uO (az (by have:=h.2.1;omega))
def ko:Sp:=λvs H Q _=>∃(d ta:Addr) (kvs:KV_) (e:Str × Str),vs=[.ref d,.ref ta]/\H d=some (.dK kvs)/\H ta=some (.tup [.str e.1,.str e.2])/\Nm e.1/\Nm e.2/\(aM kvs (.inr e.1)).isSome=true/\(aM kvs (.inr e.2)).isSome=true/\∀H',Same H H'->Q (.bl true) H'
theorem scAmong:FnScope ["places","tie"] ["places","tie"] (ao ei):=⟨rfl,rfl,rfl,by decide +kernel,rfl,by decide +kernel,by decide +kernel⟩
theorem ot (F:Fun K "is_tie_among" "is_tie_among" ei f fd) (B:Blt mg) (a:Cal P w K mg base 1 "is_name" ["thing"] dM):FnOk P w K mg base CX0 2 f fd ["places", "tie"] ko := by
 refine F.ok scAmong (λX H Q E h=>?_) (λT A v s H X Q E u h=>?_)
 ·obtain⟨d,L,n,e,rfl,_⟩:=h
  rfl
 ·obtain⟨d, L, n, e, rfl, M, b, W, N, U, R, k⟩ := h;have Y:=scAmong.nd;obtain⟨t,O,_,_,_,_,G⟩:=bU (K:=K) (Thg.tup b);rw[gw b] at G;refine⟨_,(af (aD (PW.pt (bt (aT (aP (dg K "tuple" B (ac (pv 1) (ac (cM B) ae))))) (bH (au (cu u.units) (bb K B (ac (pv 1) ae)) ag (ax _))))) (ai (av bR)) ay)
   (ai (av (fK rfl B (ac (bP (ao ei) ["places","tie"] [0] "end" ["places"] (fO K (pv 1)) bi (cw (am a (u.mono (by decide)) rfl (ac (pv 0) ae)) (cA (bV (fA K u.units) (pv 0) (pv 1) (by with_unfolding_all rfl))))) ae))))),?_⟩
  refine⟨_,rfl,_,t,_,rfl,O,G,_,rfl,?_⟩;refine aw (λh=>absurd h (by decide)) (λ_=>?_);refine⟨_,rfl,_,_,rfl,Or.inr ⟨_,.of b,rfl⟩,.sc rfl ⟨_,rfl,?_⟩⟩;refine aw (λh=>absurd h (by show ¬ (!decide (V.int 2=V.int 2))=true;decide)) (λ_=>?_);refine⟨_,rfl,L,rfl,⟨_,.of b⟩,?_⟩;refine eT [V.str e.1,V.str e.2] (λD i g j y=>∃o,j=[o,some (.ref d)]/\g=List.replicate i (V.bl true)/\Same H y/\H D=none) λD C=>⟨?_,?_,?_,?_⟩
  ·exact⟨none,rfl,rfl,Same.new C,C⟩
  ·rintro i g j y _ ⟨o,rfl,_,r,_⟩ _;exact .of (r _ _ b)
  ·rintro i g j y x p ⟨o,rfl,rfl,r,m⟩ c;have l:=(uh.mp p).1;have l:i<2:=l;obtain⟨z,rfl,I,S⟩:∃z,x=.str z/\Nm z/\(aM n (.inr z)).isSome=true:=by
    match i,l,p with
    | 0,_,p=>exact⟨e.1,(ue p).symm,W,U⟩
    | 1,_,p=>exact⟨e.2,(ue p).symm,N,R⟩
   refine cJ ?_;refine⟨_,rfl,_,rfl,.str (nmS I),λJ q=>⟨_,rfl,?_⟩⟩;rw[isNm_iff.mpr I];refine cE ?_;refine⟨_,rfl,_,rfl,.dic (DGet.k (k:=.inr z) (q _ _ (r _ _ M))) ?_⟩;refine⟨q _ _ c,by rw[vx];exact az (by omega),_,rfl,?_,bx (r.trans q) m,m⟩;show List.replicate i (V.bl true)++[V.bl (aM n (.inr z)).isSome]=_;rw[S,List.replicate_succ']
  ·rintro g j J ⟨o,rfl,rfl,q,m⟩ c;refine⟨D,[true,true],rfl,c,?_⟩;exact k J q
def pf:Sp:=λvs H Q _=>∃(a:Addr) (ss:LS),vs=[.ref a]/\SqA H a (List.map V.str ss)/\ss.length<=60/\ss.Nodup/\(∀s∈ss,Nm s)/\∀H',Same H H'->Q (.bl true) H'
theorem scUNm:FnScope ["things"] ["things"] (ao gh):=⟨rfl,rfl,rfl,by decide +kernel,rfl,by decide +kernel,by decide +kernel⟩
theorem rH (F:Fun K "are_unlike_names" "are_unlike_names" gh f fd) (B:Blt mg) (d:Cal P w K mg base 1 "is_name" ["thing"] dM) (b:Cal P w K mg base 2 "are_unlike" ["things"] jf):FnOk P w K mg base CX0 3 f fd ["things"] pf := by
 refine F.ok scUNm (λvs H Q E h=>?_) (λa3 A a0 s H vs Q E O h=>?_)
 ·obtain⟨a,m,rfl,_⟩:=h
  rfl
 ·obtain⟨a, m, rfl, q, a2, N, L, k⟩ := h;have nd:=scUNm.nd;have a1:¬ (60:Int)<((List.map V.str m).length:Nat):=by rw[ub];omega
  rcases q with q | q
  ·refine⟨_,(af (aD (aT (aP (fq K "list" "tuple" B (ac (pv 0) (ac (bc (ac (fv B) (ac (cM B) ae))) ae))))) (ai (av bR)) ay)
   (ai (av (cw (fK rfl B (ac (bP (ao gh) ["things"] [] "thing" [] (bG K (pv 0)) bi (am d (O.mono (by decide)) rfl (ac (pv 0) ae))) ae)) (cA (am b (O.mono (by decide)) rfl (ac (pv 0) ae))))))),?_⟩
   refine⟨_,rfl,(by show 2<=sizeLine;decide),λtp r=>?_⟩;have n:=Same.new (o:=.tup [V.ty "list",V.ty "tuple"]) r;have C:SqA (upd H tp (.tup [V.ty "list",V.ty "tuple"])) a (List.map V.str m):=(SqA.same (.inl q) n)
   obtain⟨t,T,_,_,_,U,S⟩:=bU (K:=K) C.thg;have I:=fe U S;rw[C.lt] at I;refine⟨_,tp,t,_,rfl,ah,T,I,_,rfl,?_⟩;refine aw (λh=>absurd h (by decide)) (λ_=>?_);have l:=n _ _ q;generalize upd H tp (.tup [V.ty "list",V.ty "tuple"])=J at n l ⊢;refine⟨_,rfl,a,rfl,⟨_,.of l⟩,?_⟩;refine cr (List.map V.str m) (λD i e g v=>∃o,g=[o]/\e=List.replicate i (V.bl true)/\Same J v/\J D=none) λD y=>⟨?_,?_,?_,?_⟩
   ·exact⟨none,rfl,rfl,Same.new y,y⟩
   ·rintro i e g v _ ⟨o,rfl,_,u,_⟩ _;exact .of (u _ _ l)
   ·rintro i e g v x Y ⟨o,rfl,rfl,u,j⟩ c;obtain⟨z,M,rfl⟩:=ck Y;have R:=(uh.mp M).1;have G:=L z (uN M);refine cJ ?_;refine⟨_,rfl,_,rfl,.str (nmS G),λX p=>?_⟩;rw[isNm_iff.mpr G];exact⟨p _ _ c,by rw[vx];exact az (by omega),_,rfl,by rw[List.replicate_succ'],bx (u.trans p) j,j⟩
   ·rintro e g X ⟨o,rfl,rfl,p,j⟩ c;refine⟨D,List.replicate (List.map V.str m).length true,rfl,by rw[List.map_replicate];exact c,_,rfl,?_⟩;rw[show (List.replicate (List.map V.str m).length true).all id=true from by simp];refine cE ?_;exact⟨_,rfl,a,m,rfl,(SqA.same (SqA.same (.inl q) n) p),by omega,λW Z=>by rw[ug N];exact k W ((n.trans p).trans Z)⟩
  ·refine⟨_,(af (aD (aT (aP (fq K "list" "tuple" B (ac (pv 0) (ac (bc (ac (fv B) (ac (cM B) ae))) ae))))) (ai (av bR)) ay)
   (ai (av (cw (fK rfl B (ac (bP (ao gh) ["things"] [] "thing" [] (fO K (pv 0)) bi (am d (O.mono (by decide)) rfl (ac (pv 0) ae))) ae)) (cA (am b (O.mono (by decide)) rfl (ac (pv 0) ae))))))),?_⟩
   refine⟨_,rfl,(by show 2<=sizeLine;decide),λtp r=>?_⟩;have n:=Same.new (o:=.tup [V.ty "list",V.ty "tuple"]) r;have C:SqA (upd H tp (.tup [V.ty "list",V.ty "tuple"])) a (List.map V.str m):=(SqA.same (.inr q) n)
   obtain⟨t,T,_,_,_,U,S⟩:=bU (K:=K) C.thg;have I:=fe U S;rw[C.lt] at I;refine⟨_,tp,t,_,rfl,ah,T,I,_,rfl,?_⟩;refine aw (λh=>absurd h (by decide)) (λ_=>?_);have l:=n _ _ q;generalize upd H tp (.tup [V.ty "list",V.ty "tuple"])=J at n l ⊢;refine⟨_,rfl,a,rfl,⟨_,.of l⟩,?_⟩;refine eT (List.map V.str m) (λD i e g v=>∃o,g=[o]/\e=List.replicate i (V.bl true)/\Same J v/\J D=none) λD y=>⟨?_,?_,?_,?_⟩
   ·exact⟨none,rfl,rfl,Same.new y,y⟩
   ·rintro i e g v _ ⟨o,rfl,_,u,_⟩ _;exact .of (u _ _ l)
   ·rintro i e g v x Y ⟨o,rfl,rfl,u,j⟩ c;obtain⟨z,M,rfl⟩:=ck Y;have R:=(uh.mp M).1;have G:=L z (uN M);refine cJ ?_;refine⟨_,rfl,_,rfl,.str (nmS G),λX p=>?_⟩;rw[isNm_iff.mpr G];exact⟨p _ _ c,by rw[vx];exact az (by omega),_,rfl,by rw[List.replicate_succ'],bx (u.trans p) j,j⟩
   ·rintro e g X ⟨o,rfl,rfl,p,j⟩ c;refine⟨D,List.replicate (List.map V.str m).length true,rfl,by rw[List.map_replicate];exact c,_,rfl,?_⟩;rw[show (List.replicate (List.map V.str m).length true).all id=true from by simp];refine cE ?_;exact⟨_,rfl,a,m,rfl,(SqA.same (SqA.same (.inr q) n) p),by omega,λW Z=>by rw[ug N];exact k W ((n.trans p).trans Z)⟩
def kQ:Sp:=λvs H Q _=>∃(a:Addr) (ss:LS),vs=[.ref a]/\SqA H a (List.map V.str ss)/\ss.length<=60/\ss.Nodup/\(∀s∈ss,Nm s)/\∀H',Same H H'->Q (.bl true) H'
theorem scAre:FnScope ["things"] ["things"] (ao dn):=⟨rfl,rfl,rfl,by decide +kernel,rfl,by decide +kernel,by decide +kernel⟩
theorem rh (F:Fun K "are_things" "are_things" dn f fd) (B:Blt mg) (TT:mg "MOST_THINGS"=some (.int 60 tk)) (b:Cal P w K mg base 3 "are_unlike_names" ["things"] pf):FnOk P w K mg base CX0 4 f fd ["things"] kQ:=by
 refine F.ok scAre (λq H Q E h=>?_) (λp A g s H q Q E n h=>?_)
 ·obtain⟨a,i,rfl,_⟩:=h
  rfl
 ·obtain⟨a,i,rfl,m,d,j,e,k⟩:=h;have r:=scAre.nd;have c:(((List.map V.str i).length:Nat):Int)<=60:=by rw[ub];omega
  refine⟨_,(ai (av (cw (am b (n.mono (by decide)) rfl (ac (pv 0) ae)) (cA (bV gI (bb K B (ac (pv 0) ae)) (aO (v:=.int 60) rfl TT ⟨_,rfl⟩) (ax _)))))),?_⟩;refine⟨_,rfl,a,i,rfl,m,d,j,e,λo l=>⟨_,rfl,cE ?_⟩⟩;refine⟨_,rfl,_,_,rfl,(SqA.same m l).len,.int ?_⟩;have z:=k o l;rw[<- ug c] at z;exact z
theorem jm {α:Type}{l:List α}(h:l.Nodup) {i:Nat}{x:α}(e:l[i]? = some x):x∉l.take i:=by
 intro b;obtain⟨j,a⟩:=List.mem_iff_getElem?.mp b;have d:=(uh.mp a).1;rw[uM] at d;rw[List.getElem?_take_of_lt (by omega)] at a;have c:=(uh.mp e).1;rw[uy (by omega)] at a;rw[uy c] at e;have:j=i:=(List.getElem_inj h).mp ((ue a).trans (ue e).symm);omega
def gQ:Sp:=λvs H Q _=>∃(a t:Addr) (ss:LS) (ts:List (Str × Str)) (refs:LV),vs=[.ref a,.ref t]/\SqA H a (List.map V.str ss)/\ss.length<=60/\(∀s∈ss,Nm s)/\SqA H t refs/\RepAll H refs (ts.map aL)/\ts.length<=400/\ts.Nodup/\(∀e∈ts,e.1∈ss/\e.2∈ss)/\∀H',Same H H'->Q .non H'
theorem scWrong:FnScope ["things","ties","places","seen","number","tie"] ["things","ties"] (ao gB):=⟨rfl,rfl,rfl,by decide +kernel,rfl,by decide +kernel,by decide +kernel⟩
theorem oC (F:Fun K "first_wrong_tie" "first_wrong_tie" gB f fd) (B:Blt mg) (TT:mg "MOST_TIES"=some (.int 400 tk)) (y:Cal P w K mg base 1 "places_of" ["things"] dQ) (g:Cal P w K mg base 2 "is_tie_among" ["places", "tie"] ko):FnOk P w K mg base CX0 3 f fd ["things", "ties"] gQ := by
 refine F.ok scWrong (λvs H Q E h=>?_) (λb1 A a7 s H vs Q E hr h=>?_)
 ·obtain⟨a,t,ss,ts,J,rfl,_⟩:=h
  rfl
 ·obtain⟨a, t, ss, ts, J, rfl, hA, a8, R, hT, rp, b2, a0, a2, k⟩ := h;have nd:=scWrong.nd;have a1:=rp.len;rw[ub] at a1;refine⟨_,(af (aq (i:=2) nd rfl (Or.inl rfl) (am y (hr.mono (by decide)) rfl (ac (pv 0) ae)))
   (af (aq (i:=3) nd rfl (Or.inl rfl) fY)
   (af (ce PassesOwn.never rfl (dA K rfl B.enumerate (ac (pv 1) ae)) (cN (n:=2) K rfl (ba (aR (i:=4) nd rfl (Or.inl rfl)) (ba (aR (i:=5) nd rfl (Or.inl rfl)) cL))) (af (aD (PW.pt (bt (au (aW hr.units) (pv 4) (aO (v:=.int 400) rfl TT ⟨_,rfl⟩) (ax _)) (bt (aT (aP (am g (hr.mono (by decide)) rfl (ac (pv 2) (ac (pv 5) ae))))) (bH (au (fA K hr.units) (pv 5) (pv 3) (by with_unfolding_all rfl)))))) (ai (av (pv 4))) ay)
   (ai (cg bR (bT (pv 3) (pv 5) (cB hr.units))))))
   (ai (av cb))))),?_⟩
  refine⟨_,rfl,_,rfl,.nm hA (by omega) λd a3 H1 W a9 hd O b0 _ _=>?_⟩;intro dt M;have s2:=W.trans (Same.new (o:=.dT []) M);rcases hT with ht | ht
  ·refine⟨_, rfl, _, rfl, .lst (.of (s2 _ _ ht)) ?_⟩;refine dz (xs:=J) (λi N G=>∃(S U:Option V) (C:List (List Key × V)),N=[some (.ref a),some (.ref t),some (.ref d),some (.ref dt),S,U]/\Same H1 G/\G dt=some (.dT C)/\C.length<=i/\∀f:Str × Str,(aM C (pK f)).isSome=true ↔ f∈ts.take i) ?_ ?_ ?_ ?_
   ·exact⟨none,none,[],rfl,Same.new M,ah,ua _,λf=>by simp[cI]⟩
   ·rintro i N G hi ⟨S,U,C,rfl,I,_⟩;exact .of (I _ _ (W _ _ ht))
   ·rintro i x N G p hx ⟨S, U, C, rfl, I, L, a6, r⟩ hp;obtain⟨e,Z,T,rfl,X⟩:=cH ((rp.same W).same I) hx;have a5:=(uh.mp T).1;have c:=a2 e (uN T);have sp:=Same.new (o:=.tup [V.int (i:Nat),V.ref Z]) hp;have a4:dt≠p:=ak L hp;refine⟨p,_,rfl,.of ah,rfl,_,_,rfl,_,_,rfl,rfl,?_⟩;have D:=I.trans sp;have m:=sp _ _ L;have j:=sp _ _ X;generalize upd G p (.tup [V.int (i:Nat),V.ref Z])=H3 at D m j ⊢;refine⟨_,rfl,.sc rfl ⟨_,rfl,?_⟩⟩;refine aw (λh=>absurd (ux h) (λz=>by have z:(i:Int)=400:=V.int.inj z;omega)) (λ_=>?_);refine⟨_,rfl,_,rfl,d,Z,a3,e,rfl,D _ _ hd,j,R _ c.1,R _ c.2,(O _).mpr c.1,(O _).mpr c.2,λH4 Y=>⟨_,rfl,?_⟩⟩;refine aw (λh=>absurd h (by decide)) (λ_=>?_);have u:=Y _ _ m;have l:=Y _ _ j;refine⟨_,rfl,_,rfl,.dic (DGet.t (k:=pK e) u l) ⟨_,rfl,?_⟩⟩;refine aw (λh=>absurd ((r e).mp h) (jm a0 T)) (λ_=>?_);refine⟨_,rfl,_,rfl,.dic (DPut.t (k:=pK e) u l (az (by omega))) ⟨_,_,_,rfl,?_,ah,?_,λf=>?_⟩⟩
    ·intro b o hb;rw[aj (ak hb M)];exact Y _ _ (D _ _ hb)
    ·have:=bO C (pK e) (V.bl true);omega
    ·rw[df,uJ,T,uF];by_cases q:f=e
     ·subst q;simp
     ·rw[if_neg (λz=>q (gk z)),r f];simp[q]
   ·rintro N G ⟨S,U,C,rfl,I,_⟩;exact k G (W.trans I)
  ·refine⟨_, rfl, _, rfl, .tup (.of (s2 _ _ ht)) ?_⟩;refine fi (xs:=J) (λi N G=>∃(S U:Option V) (C:List (List Key × V)),N=[some (.ref a),some (.ref t),some (.ref d),some (.ref dt),S,U]/\Same H1 G/\G dt=some (.dT C)/\C.length<=i/\∀f:Str × Str,(aM C (pK f)).isSome=true ↔ f∈ts.take i) ?_ ?_ ?_ ?_
   ·exact⟨none,none,[],rfl,Same.new M,ah,ua _,λf=>by simp[cI]⟩
   ·rintro i N G hi ⟨S,U,C,rfl,I,_⟩;exact .of (I _ _ (W _ _ ht))
   ·rintro i x N G p hx ⟨S, U, C, rfl, I, L, a6, r⟩ hp;obtain⟨e,Z,T,rfl,X⟩:=cH ((rp.same W).same I) hx;have a5:=(uh.mp T).1;have c:=a2 e (uN T);have sp:=Same.new (o:=.tup [V.int (i:Nat),V.ref Z]) hp;have a4:dt≠p:=ak L hp;refine⟨p,_,rfl,.of ah,rfl,_,_,rfl,_,_,rfl,rfl,?_⟩;have D:=I.trans sp;have m:=sp _ _ L;have j:=sp _ _ X;generalize upd G p (.tup [V.int (i:Nat),V.ref Z])=H3 at D m j ⊢;refine⟨_,rfl,.sc rfl ⟨_,rfl,?_⟩⟩;refine aw (λh=>absurd (ux h) (λz=>by have z:(i:Int)=400:=V.int.inj z;omega)) (λ_=>?_);refine⟨_,rfl,_,rfl,d,Z,a3,e,rfl,D _ _ hd,j,R _ c.1,R _ c.2,(O _).mpr c.1,(O _).mpr c.2,λH4 Y=>⟨_,rfl,?_⟩⟩;refine aw (λh=>absurd h (by decide)) (λ_=>?_);have u:=Y _ _ m;have l:=Y _ _ j;refine⟨_,rfl,_,rfl,.dic (DGet.t (k:=pK e) u l) ⟨_,rfl,?_⟩⟩;refine aw (λh=>absurd ((r e).mp h) (jm a0 T)) (λ_=>?_);refine⟨_,rfl,_,rfl,.dic (DPut.t (k:=pK e) u l (az (by omega))) ⟨_,_,_,rfl,?_,ah,?_,λf=>?_⟩⟩
    ·intro b o hb;rw[aj (ak hb M)];exact Y _ _ (D _ _ hb)
    ·have:=bO C (pK e) (V.bl true);omega
    ·rw[df,uJ,T,uF];by_cases q:f=e
     ·subst q;simp
     ·rw[if_neg (λz=>q (gk z)),r f];simp[q]
   ·rintro N G ⟨S,U,C,rfl,I,_⟩;exact k G (W.trans I)
def kf:Sp:=λvs H Q _=>∃(a t:Addr) (ss:LS) (ts:List (Str × Str)) (refs:LV),vs=[.ref a,.ref t]/\SqA H a (List.map V.str ss)/\ss.length<=60/\ss.Nodup/\(∀s∈ss,Nm s)/\SqA H t refs/\RepAll H refs (ts.map aL)/\ts.length<=400/\ts.Nodup/\(∀e∈ts,e.1∈ss/\e.2∈ss)/\∀q H',Same H H'->Rep H' (.ref q) (dX ss ts)->Q (.ref q) H'
theorem scWebOf:FnScope ["things","ties","wrong"] ["things","ties"] (ao fj):=⟨rfl,rfl,rfl,by decide +kernel,rfl,by decide +kernel,by decide +kernel⟩
theorem mY (F:Fun K "web_of" "web_of" fj f fd) (B:Blt mg) (g:Cal P w K mg base 4 "are_things" ["things"] kQ) (c:Cal P w K mg base 3 "first_wrong_tie" ["things", "ties"] gQ):FnOk P w K mg base CX0 5 f fd ["things", "ties"] kf := by
 refine F.ok scWebOf (λvs H Q E h=>?_) (λb1 A b0 s H vs Q E Y h=>?_)
 ·obtain⟨a,t,Z,ts,m,rfl,_⟩:=h
  rfl
 ·obtain⟨a, t, Z, ts, m, rfl, hA, z, a8, W, hT, rp, a6, a5, a7, k⟩ := h;have nd:=scWebOf.nd;have M:=rp.len;rw[ub] at M;have r:∀N:Hp,Same H N->∀R:VK,(∀q1 C,Same N C->C q1=some (.tup (List.map V.str Z))->R (.ref q1) C)->TupR K N (.ref a) R:=λN v R f=>by
   rcases hA with ha | ha
   ·exact .lst (.of (v _ _ ha)) λl hl=>f l _ (Same.new hl) ah
   ·exact .tup (.of (v _ _ ha)) (f a N (Same.refl N) (v _ _ ha))
  rcases hT with ht | ht
  ·refine⟨_, (af (aD (aT (aP (am g (Y.mono (by decide)) rfl (ac (pv 0) ae)))) (ai bZ) ay)
   (af (aD (aT (aP (fq K "list" "tuple" B (ac (pv 1) (ac (bc (ac (fv B) (ac (cM B) ae))) ae))))) (ai bZ) ay)
   (af (aq (i:=2) nd rfl (Or.inl rfl) (am c (Y.mono (by decide)) rfl (ac (pv 0) (ac (pv 1) ae))))
   (af (aD (au dO (pv 2) cb (ax _)) (ai bZ) ay)
   (ai (av (bc (ac (gp K B (ac (pv 0) ae)) (ac (kr K B (ac (bP (ao fj) ["things","ties","wrong"] [] "tie" [] (bG K (pv 1)) bi (bc (ac (aB (aG K Y.units) (pv 0) ag (λ_ _=>rfl)) (ac (aB (aG K Y.units) (pv 0) ag (λ_ _=>rfl)) ae)))) ae)) ae))))))))),?_⟩
   refine⟨_,rfl,a,Z,rfl,hA,z,a8,W,λH1 s1=>⟨_,rfl,?_⟩⟩;refine aw (λh=>absurd h (by decide)) (λ_=>?_);refine⟨_,rfl,(by show 2<=sizeLine;decide),λtp a3=>?_⟩;have J:=s1.trans (Same.new (o:=.tup [V.ty "list",V.ty "tuple"]) a3);have S:SqA (upd H1 tp (.tup [V.ty "list",V.ty "tuple"])) t m:=SqA.same (.inl ht) J;obtain⟨tt,ty,_,_,_,t4,t5⟩:=bU (K:=K) S.thg;have kl:=fe t4 t5;rw[S.lt] at kl;refine⟨_,tp,tt,_,rfl,ah,ty,kl,_,rfl,?_⟩;refine aw (λh=>absurd h (by decide)) (λ_=>?_);generalize upd H1 tp (.tup [V.ty "list",V.ty "tuple"])=H2 at J S ⊢;refine⟨_,rfl,_,rfl,a,t,Z,ts,m,rfl,hA.same J,z,W,S,rp.same J,a6,a5,a7,λN v=>?_⟩;refine⟨_,rfl,.non ⟨_,rfl,?_⟩⟩;refine aw (λh=>absurd h (by decide)) (λ_=>?_);have v:=J.trans v;have a0:=v _ _ ht;refine⟨_,rfl,_,rfl,r N v _ λq1 H4 s4 a1=>?_⟩;have I:=s4 _ _ a0;have a2:=(rp.same v).same s4;refine⟨_,rfl,t,rfl,⟨_,.of I⟩,?_⟩;refine cr m (λD i j u C=>∃o,u=[o]/\RepAll C j ((ts.take i).map aL)/\Same H4 C/\H4 D=none) λD hD=>⟨?_,?_,?_,?_⟩
   ·exact⟨none,rfl,.nil,Same.new hD,hD⟩
   ·rintro i j u C _ ⟨o,rfl,_,X,_⟩ _;exact .of (X _ _ I)
   ·rintro i j u C x hx ⟨o,rfl,n,X,y⟩ d;obtain⟨e,ta,he,rfl,L⟩:=cH (a2.same X) hx;have a9:=(uh.mp he).1;have G:=n.len;simp only[ub,uM] at G;refine cJ ?_;refine⟨_,rfl,.tup (.of L) rfl ⟨_,rfl,.tup (.of L) rfl ⟨(by show 2<=sizeLine;decide),λq T=>?_⟩⟩⟩;have U:=Same.new (o:=.tup [V.str e.1,V.str e.2]) T;have a4:D≠q:=ak d T;refine⟨U _ _ d,az (by omega),_,rfl,?_,?_,y⟩
    ·rw[uJ,he,uk];refine RepAll.append (RepAll.pairBut (p:=D) (U _ _ d) But.upd (n.same U)) (.cons (bM ?_) .nil);rw[aj (Ne.symm a4)];exact ah
    ·intro b o hb;rw[aj (ak hb y)];exact U _ _ (X _ _ hb)
   ·rintro j u H5 ⟨o,rfl,n,s5,y⟩ d;rw[M,uB (ua _)] at n;refine⟨D,_,rfl,.of d,λl2 h2=>⟨(by show 2<=sizeLine;decide),λq T=>?_⟩⟩;have s6:=Same.new (o:=.tup j) h2;have O:=Same.new (o:=.tup [V.ref q1,V.ref l2]) T;exact k q _ ((v.trans s4).trans (s5.trans (s6.trans O))) (.tup ah (.cons (.tup ((s5.trans (s6.trans O)) _ _ a1) (RepAll.of_strs Z)) (.cons (.tup (O _ _ ah) (n.same (s6.trans O))) .nil)))
  ·refine⟨_, (af (aD (aT (aP (am g (Y.mono (by decide)) rfl (ac (pv 0) ae)))) (ai bZ) ay)
   (af (aD (aT (aP (fq K "list" "tuple" B (ac (pv 1) (ac (bc (ac (fv B) (ac (cM B) ae))) ae))))) (ai bZ) ay)
   (af (aq (i:=2) nd rfl (Or.inl rfl) (am c (Y.mono (by decide)) rfl (ac (pv 0) (ac (pv 1) ae))))
   (af (aD (au dO (pv 2) cb (ax _)) (ai bZ) ay)
   (ai (av (bc (ac (gp K B (ac (pv 0) ae)) (ac (kr K B (ac (bP (ao fj) ["things","ties","wrong"] [] "tie" [] (fO K (pv 1)) bi (bc (ac (aB (aG K Y.units) (pv 0) ag (λ_ _=>rfl)) (ac (aB (aG K Y.units) (pv 0) ag (λ_ _=>rfl)) ae)))) ae)) ae))))))))),?_⟩
   refine⟨_,rfl,a,Z,rfl,hA,z,a8,W,λH1 s1=>⟨_,rfl,?_⟩⟩;refine aw (λh=>absurd h (by decide)) (λ_=>?_);refine⟨_,rfl,(by show 2<=sizeLine;decide),λtp a3=>?_⟩;have J:=s1.trans (Same.new (o:=.tup [V.ty "list",V.ty "tuple"]) a3);have S:SqA (upd H1 tp (.tup [V.ty "list",V.ty "tuple"])) t m:=SqA.same (.inr ht) J;obtain⟨tt,ty,_,_,_,t4,t5⟩:=bU (K:=K) S.thg;have kl:=fe t4 t5;rw[S.lt] at kl;refine⟨_,tp,tt,_,rfl,ah,ty,kl,_,rfl,?_⟩;refine aw (λh=>absurd h (by decide)) (λ_=>?_);generalize upd H1 tp (.tup [V.ty "list",V.ty "tuple"])=H2 at J S ⊢;refine⟨_,rfl,_,rfl,a,t,Z,ts,m,rfl,hA.same J,z,W,S,rp.same J,a6,a5,a7,λN v=>?_⟩;refine⟨_,rfl,.non ⟨_,rfl,?_⟩⟩;refine aw (λh=>absurd h (by decide)) (λ_=>?_);have v:=J.trans v;have a0:=v _ _ ht;refine⟨_,rfl,_,rfl,r N v _ λq1 H4 s4 a1=>?_⟩;have I:=s4 _ _ a0;have a2:=(rp.same v).same s4;refine⟨_,rfl,t,rfl,⟨_,.of I⟩,?_⟩;refine eT m (λD i j u C=>∃o,u=[o]/\RepAll C j ((ts.take i).map aL)/\Same H4 C/\H4 D=none) λD hD=>⟨?_,?_,?_,?_⟩
   ·exact⟨none,rfl,.nil,Same.new hD,hD⟩
   ·rintro i j u C _ ⟨o,rfl,_,X,_⟩ _;exact .of (X _ _ I)
   ·rintro i j u C x hx ⟨o,rfl,n,X,y⟩ d;obtain⟨e,ta,he,rfl,L⟩:=cH (a2.same X) hx;have a9:=(uh.mp he).1;have G:=n.len;simp only[ub,uM] at G;refine cJ ?_;refine⟨_,rfl,.tup (.of L) rfl ⟨_,rfl,.tup (.of L) rfl ⟨(by show 2<=sizeLine;decide),λq T=>?_⟩⟩⟩;have U:=Same.new (o:=.tup [V.str e.1,V.str e.2]) T;have a4:D≠q:=ak d T;refine⟨U _ _ d,az (by omega),_,rfl,?_,?_,y⟩
    ·rw[uJ,he,uk];refine RepAll.append (RepAll.pairBut (p:=D) (U _ _ d) But.upd (n.same U)) (.cons (bM ?_) .nil);rw[aj (Ne.symm a4)];exact ah
    ·intro b o hb;rw[aj (ak hb y)];exact U _ _ (X _ _ hb)
   ·rintro j u H5 ⟨o,rfl,n,s5,y⟩ d;rw[M,uB (ua _)] at n;refine⟨D,_,rfl,.of d,λl2 h2=>⟨(by show 2<=sizeLine;decide),λq T=>?_⟩⟩;have s6:=Same.new (o:=.tup j) h2;have O:=Same.new (o:=.tup [V.ref q1,V.ref l2]) T;exact k q _ ((v.trans s4).trans (s5.trans (s6.trans O))) (.tup ah (.cons (.tup ((s5.trans (s6.trans O)) _ _ a1) (RepAll.of_strs Z)) (.cons (.tup (O _ _ ah) (n.same (s6.trans O))) .nil)))
theorem mz (h:n<=100000):n<=16777216:=by omega
theorem hV (h:∀s∈i,Nm s) (e:i.length<=61):((("things":Str)::i).map (·.length)).sum+((("things":Str)::i)).length * (" ":Str).length<=1000:=by
 have c:=em (n:=8) (("things":Str)::i) λy a=>by
  rcases uf.mp a with rfl | a
  ·decide
  ·exact(h y a).2.1
 have b:(" ":Str).length=1:=by decide
 rw[b];have d:(("things":Str)::i).length=i.length+1:=uv;rw[d] at c ⊢;omega
theorem ng (h:∀s∈i,Nm s) (a:i.length<=61):(cD i).length<=1000:=uo (de _ _) (hV h a)
theorem gE (h:∀s∈z,Nm s) (g:z.length<=61) (d:∀e∈i,Nm e.1/\Nm e.2) (a:i.length<=420):((bh z i).map (·.length)).sum+(bh z i).length * ("\n":Str).length<=100000:=by
 have k:=ng h g;have f:=em (n:=22) (i.map bn) λy c=>by
  obtain⟨e,j,rfl⟩:=uD.mp c;exact fW (d e j)
 have b:("\n":Str).length=1:=by decide
 unfold bh;rw[b,uG,List.sum_cons,uv,ub];rw[ub] at f;omega
def kx:Sp:=λvs H Q _=>∃e:Str × Str,vs=[.str (bn e)]/\Nm e.1/\Nm e.2/\∀l H',Same H H'->H l=none->H' l=some (.tup [.str e.1,.str e.2])->Q (.ref l) H'
theorem scTieIn:FnScope ["line","words"] ["line"] (ao gr):=⟨rfl,rfl,rfl,by decide +kernel,rfl,by decide +kernel,by decide +kernel⟩
theorem ou (F:Fun K "tie_in" "tie_in" gr f fd) (B:Blt mg):FnOk P w K mg base CX0 1 f fd ["line"] kx := by
 refine F.ok scTieIn (λr H Q E h=>?_) (λp A d s H r Q E a h=>?_)
 ·obtain⟨e,rfl,_⟩:=h
  rfl
 ·obtain⟨e,rfl,m,g,k⟩:=h;have n:=scTieIn.nd;refine⟨_,(af (aq (i:=1) n rfl (Or.inl rfl) (bz K (pv 0) (ac ar ae)))
   (af (aD (PW.pt (bt (au (cu a.units) (bb K B (ac (pv 1) ae)) ag (ax _)) (bH (au (cu a.units) (aB (aG K a.units) (pv 1) ag (λ_ _=>rfl)) ar (ax _))))) (ai (av cb)) ay)
   (ai (av (bc (ac (aB (aG K a.units) (pv 1) ag (λ_ _=>rfl)) (ac (aB (aG K a.units) (pv 1) ag (λ_ _=>rfl)) ae))))))),?_⟩
  have u:=fW ⟨m,g⟩;refine⟨_,rfl,rfl,_,_,rfl,rfl,by decide,uO (az (by omega)),λl q=>?_⟩;rw[gx ⟨m,g⟩];have c:=Same.new (o:=.lst (List.map V.str [e.1,">",e.2])) q;have b:upd H l (.lst (List.map V.str [e.1,">",e.2])) l=some (.lst [V.str e.1,V.str ">",V.str e.2]):=ah;generalize upd H l (.lst (List.map V.str [e.1,">",e.2]))=v at c b ⊢;refine⟨_,rfl,_,_,rfl,Or.inl ⟨_,.of b,rfl⟩,.sc rfl ⟨_,rfl,?_⟩⟩;refine aw (λh=>absurd h (by show ¬ (!decide (V.int 3=V.int 3))=true;decide)) (λ_=>?_);refine⟨_,rfl,.lst (.of b) rfl (.sc rfl ⟨_,rfl,?_⟩)⟩;refine aw (λh=>absurd h (by show ¬ (!decide (V.str ">"=V.str ">"))=true;rw[ug rfl];decide)) (λ_=>?_);refine⟨_,rfl,.lst (.of b) rfl ⟨_,rfl,.lst (.of b) rfl ⟨(by show 2<=sizeLine;decide),λt j=>?_⟩⟩⟩;exact k t _ (c.trans (Same.new j)) (cO c j) ah
def iW:Sp:=λvs H Q _=>∃(n t:Addr) (ss:LS) (ts:List (Str × Str)) (refs:LV),vs=[.ref n,.ref t]/\H n=some (.lst (List.map V.str ss))/\H t=some (.lst refs)/\RepAll H refs (ts.map aL)/\(∀s∈ss,Nm s)/\ss.length<=61/\(∀e∈ts,Nm e.1/\Nm e.2)/\ts.length<=420/\∀H',Same H H'->Q (.str (dH ss ts)) H'
theorem scText:FnScope ["_law_things_here","_law_ties_here","_law_lines","_law_one","_law_other"] ["_law_things_here","_law_ties_here"] (ao lC):=⟨rfl,rfl,rfl,by decide +kernel,rfl,by decide +kernel,by decide +kernel⟩
theorem qM (F:Fun K "_law_text" "_law_text" lC f fd) (B:Blt mg):FnOk P w K mg base CX0 1 f fd ["_law_things_here", "_law_ties_here"] iW := by
 refine F.ok scText (λvs H Q E h=>?_) (λa2 A U s H vs Q E hr h=>?_)
 ·obtain⟨n,t,a,C,d,rfl,_⟩:=h
  rfl
 ·obtain⟨n, t, a, C, d, rfl, hn, ht, rp, r, wl, v, a3, k⟩ := h;have L:=scText.nd;refine⟨_,(af (aq (i:=2) L rfl (Or.inl rfl) (aZ (ac (fm K ar (ac (aA aJ (aZ (ac ar ae)) (si K rfl B (ac (pv 0) ae))) ae)) ae)))
   (af (ce PassesOwn.never rfl (bG K (pv 1)) (cN (n:=2) K rfl (ba (aR (i:=3) L rfl (Or.inl rfl)) (ba (aR (i:=4) L rfl (Or.inl rfl)) cL))) (ai (cm (dC K (pv 2) (ac (aA aJ (aA aJ (pv 3) ar) (pv 4)) ae)))))
   (ai (av (fm K ar (ac (pv 2) ae)))))),?_⟩
  have g:=rp.len;rw[ub] at g;refine⟨rfl,(by show 1<=sizeLine;decide),λW h1=>?_⟩;have N:=Same.new (o:=.lst [V.str "things"]) h1;have e1:upd H W (.lst [V.str "things"]) W=some (.lst [V.str "things"]):=ah;generalize upd H W (.lst [V.str "things"])=Y at N e1 ⊢;refine⟨_,rfl,_,rfl,.seq (.inl (.of (N _ _ hn))) λM h2=>?_⟩;have s2:=Same.new (o:=.lst (List.map V.str a)) h2;have e2:upd Y M (.lst (List.map V.str a)) M=some (.lst (List.map V.str a)):=ah;have p:=s2 _ _ e1;have y:=N.trans s2;generalize upd Y M (.lst (List.map V.str a))=H2 at y e2 p ⊢;refine .lst p e2 (by show 1+(List.map V.str a).length<=sizeLine;rw[ub];exact uO (az (by omega))) λR h3=>?_;have s3:=Same.new (o:=.lst ([V.str "things"]++List.map V.str a)) h3;have Z:upd H2 R (.lst ([V.str "things"]++List.map V.str a)) R=some (.lst (List.map V.str (("things":Str)::a))):=ah;have j:=y.trans s3;refine⟨_,_,_,rfl,rfl,Z,mz (uo (hV r wl) (by decide)),?_⟩;generalize upd H2 R (.lst ([V.str "things"]++List.map V.str a))=H3 at j Z ⊢;refine⟨(by show 1<=sizeLine;decide),λl hl=>?_⟩;have sl:=Same.new (o:=.lst [V.str (Txt.join (Str.ofString " ") (Str.ofString "things"::a))]) hl;have el:upd H3 l (.lst [V.str (Txt.join (Str.ofString " ") (Str.ofString "things"::a))]) l=some (.lst [V.str (cD a)]):=ah;have O:=cO j hl;have X:=j.trans sl;generalize upd H3 l (.lst [V.str (Txt.join (Str.ofString " ") (Str.ofString "things"::a))])=H4 at X el ⊢;refine⟨_,rfl,t,rfl,⟨_,.of (X _ _ ht)⟩,?_⟩;refine eR (xs:=d) (λi G D=>∃J I,G=[some (.ref n),some (.ref t),some (.ref l),J,I]/\Same H D/\D l=some (.lst (List.map V.str (bh a (C.take i))))) ?_ ?_ ?_ ?_
  ·exact⟨none,none,rfl,X,el⟩
  ·rintro i G D hi ⟨J,I,rfl,m,_⟩;exact .of (m _ _ ht)
  ·rintro i x G D hx ⟨J, I, rfl, m, b⟩;obtain⟨e,ta,T,rfl,S⟩:=cH (rp.same m) hx;have a0:=(uh.mp T).1;have z:(List.map V.str (bh a (C.take i))).length=i+1:=by
    unfold bh;rw[ub,uv,ub,uM];omega
   have u:=v e (uN T);have a4:=u.1.2.1;have a1:=u.2.2.1;have q:(" > ":Str).length=3:=by decide
   refine⟨ta,_,rfl,.of S,rfl,_,_,rfl,_,_,rfl,rfl,?_⟩;refine⟨_,rfl,.inl ⟨rfl,_,.of b⟩,_,rfl,.str (uO (az (by rw[q];omega))) ⟨_,rfl,.str (uO (az (by rw[Str.length_append,q];omega))) ⟨l,_,_,rfl,rfl,b,by rw[z];exact az (by omega),?_⟩⟩⟩;refine⟨_,_,rfl,λc o hc=>?_,?_⟩
   ·rw[aj (ak hc O)];exact m _ _ hc
   ·rw[ah];have:bh a (C.take (i+1))=bh a (C.take i)++[bn e]:=by
     unfold bh;rw[uJ,T,uk]
     rfl
    rw[this,uk,gX]
    rfl
  ·rintro G D ⟨J,I,rfl,m,b⟩;rw[g,uB (ua _)] at b;refine⟨rfl,_,rfl,_,_,_,rfl,rfl,b,mz (gE r wl v (by omega)),?_⟩;exact k _ m
theorem fS (xs:LV) (k:Nat):dk xs (some (k:Int)) none=xs.drop k:=by
 unfold dk;rw[HT.sIx_nat,HT.sIx_none];by_cases h:k<=xs.length
 ·rw[Nat.min_eq_left h,uB (by rw[vm];omega)]
 ·rw[Nat.min_eq_right (by omega),List.drop_of_length_le (ua _),List.drop_of_length_le (by omega)];simp
theorem fJ (x:V) (xs:LV):dk (x::xs) (some 1) none=xs:=fS (x::xs) 1
def lP:Sp:=λvs H Q _=>∃(ss:LS) (ts:List (Str × Str)),vs=[.str (dH ss ts)]/\ss.length<=60/\ss.Nodup/\(∀s∈ss,Nm s)/\ts.length<=400/\ts.Nodup/\(∀e∈ts,e.1∈ss/\e.2∈ss)/\∀q H',Same H H'->Rep H' (.ref q) (dX ss ts)->Q (.ref q) H'
theorem scRead:FnScope ["text","lines","words","things","ties","wrong"] ["text"] (ao eK):=⟨rfl,rfl,rfl,by decide +kernel,rfl,by decide +kernel,by decide +kernel⟩
theorem pU (F:Fun K "read_web" "read_web" eK f fd) (B:Blt mg) (r:Cal P w K mg base 1 "tie_in" ["line"] kx) (c:Cal P w K mg base 4 "are_things" ["things"] kQ) (a:Cal P w K mg base 3 "first_wrong_tie" ["things", "ties"] gQ) (u:Cal P w K mg base 5 "web_of" ["things", "ties"] kf):FnOk P w K mg base CX0 6 f fd ["text"] lP := by
 refine F.ok scRead (λvs H Q E h=>?_) (λb2 A b0 s H vs Q E G h=>?_)
 ·obtain⟨b,d,rfl,_⟩:=h
  rfl
 ·obtain⟨b,d,rfl,S,a4,g,Z,U,C,k⟩:=h;have W:=scRead.nd;have J:∀e∈d,Nm e.1/\Nm e.2:=λe N=>⟨g _ (C e N).1,g _ (C e N).2⟩
  refine⟨_,(af (aD (aT (aP (dg K "str" B (ac (pv 0) (ac (iA B) ae))))) (ai bZ) ay)
   (af (aq (i:=1) W rfl (Or.inl rfl) (bz K (pv 0) (ac ar ae)))
   (af (aq (i:=2) W rfl (Or.inl rfl) (bz K (aB (aG K G.units) (pv 1) ag (λ_ _=>rfl)) (ac ar ae)))
   (af (aq (i:=3) W rfl (Or.inl rfl) (bp (cX K) (pv 2) (br ag) bS))
   (af (aD (PW.pt (bt (au (cu G.units) (aB (aG K G.units) (pv 2) ag (λ_ _=>rfl)) ar (ax _)) (bH (aT (aP (am c (G.mono (by decide)) rfl (ac (pv 3) ae))))))) (ai bZ) ay)
   (af (kF (i:=4) W rfl rfl (by rfl) (ao eK) ["text","lines","words","things","ties","wrong"] ["line"] [] ["line"] rfl (bG K (bp (cX K) (pv 1) (br ag) bS)) (λ_ _ _ _ _=>(aR (i:=0) (show (["line"]:LS).Nodup by decide) rfl (Or.inl rfl))) (λ_ _ _ _ _=>bi) (λ_ _ _ _ _=>(am r (G.mono (by decide)) rfl (ac (pv 0) ae))))
   (af (aq (i:=5) W rfl (Or.inl rfl) (am a (G.mono (by decide)) rfl (ac (pv 3) (ac (pv 4) ae))))
   (af (aD (au dO (pv 5) cb (ax _)) (ai bZ) ay)
   (ai (av (am u (G.mono (by decide)) rfl (ac (pv 3) (ac (pv 4) ae))))))))))))),?_⟩
  have b1:=qo g S J (by omega:d.length<=401);have b5:100002<=sizeLine:=by decide
  obtain⟨tt,ty,t1,_⟩:=bU (K:=K) (H:=H) (Thg.str (z:=dH b d) (by omega));refine⟨_,rfl,_,tt,_,rfl,ty,t1,_,rfl,?_⟩;refine aw (λh=>absurd h (by show ¬ (!true)=true;decide)) (λ_=>?_);refine⟨_,rfl,rfl,_,_,rfl,rfl,by decide,by omega,λl1 h1=>?_⟩;rw[hH g J];have s1:=Same.new (o:=.lst (List.map V.str (bh b d))) h1;have t:upd H l1 (.lst (List.map V.str (bh b d))) l1=some (.lst (V.str (cD b)::List.map V.str (d.map bn))):=ah;generalize upd H l1 (.lst (List.map V.str (bh b d)))=H1 at s1 t ⊢;have b3:=jh g S;have a0:atI (V.str (cD b)::List.map V.str (d.map bn)) 0=some (.str (cD b)):=aN (j:=0) rfl;refine⟨_,rfl,.lst (.of t) a0 ⟨rfl,cD b,_,rfl,rfl,by decide,by omega,λl2 h2=>?_⟩⟩;rw[gL g];have s2:=Same.new (o:=.lst (List.map V.str (("things":Str)::b))) h2;have M:upd H1 l2 (.lst (List.map V.str (("things":Str)::b))) l2=some (.lst (V.str "things"::List.map V.str b)):=ah;have t:=s2 _ _ t;have T:=s1.trans s2;generalize upd H1 l2 (.lst (List.map V.str (("things":Str)::b)))=H2 at T t M ⊢;refine⟨_,rfl,_,rfl,.lst (.of M) λR h3=>?_⟩;rw[fJ];have s3:=Same.new (o:=.lst (List.map V.str b)) h3;have p:upd H2 R (.lst (List.map V.str b)) R=some (.lst (List.map V.str b)):=ah;have t:=s3 _ _ t;have M:=s3 _ _ M;have X:=T.trans s3;generalize upd H2 R (.lst (List.map V.str b))=H3 at X t M p ⊢;have a1:atI (V.str "things"::List.map V.str b) 0=some (.str "things"):=aN (j:=0) rfl;refine⟨_,rfl,.lst (.of M) a1 (.sc rfl ⟨_,rfl,?_⟩)⟩;refine aw (λh=>absurd h (by show ¬ (!decide (V.str "things"=V.str "things"))=true;rw[ug rfl];decide)) (λ_=>?_);refine⟨_,rfl,R,b,rfl,.inl p,S,a4,g,λH4 s4=>⟨_,rfl,?_⟩⟩;refine aw (λh=>absurd h (by decide)) (λ_=>?_);have a5:=X.trans s4;have t:=s4 _ _ t;have p:=s4 _ _ p;refine⟨_,rfl,_,rfl,.lst (.of t) λl5 h5=>?_⟩;rw[fJ];have s5:=Same.new (o:=.lst (List.map V.str (d.map bn))) h5;have e5:upd H4 l5 (.lst (List.map V.str (d.map bn))) l5=some (.lst (List.map V.str (d.map bn))):=ah;have p:=s5 _ _ p;have a2:=a5.trans s5;generalize upd H4 l5 (.lst (List.map V.str (d.map bn)))=H5 at a2 p e5 ⊢;refine⟨l5,rfl,⟨_,.of e5⟩,?_⟩;refine cr (List.map V.str (d.map bn)) (λD i n y H'=>∃o,y=[o]/\RepAll H' n ((d.take i).map aL)/\Same H5 H'/\H5 D=none) λD hD=>⟨?_,?_,?_,?_⟩
  ·exact⟨none,rfl,.nil,Same.new hD,hD⟩
  ·rintro i n y H' _ ⟨o,rfl,_,sm,_⟩ _;exact .of (sm _ _ e5)
  ·rintro i n y H' x Y ⟨o,rfl,L,sm,I⟩ m;rw[u6,uC] at Y;obtain⟨e,N,rfl⟩:∃e,d[i]? = some e/\V.str (bn e)=x:=by
    cases q:d[i]? with
    | none=>rw[q] at Y;cases Y
    | some e=>rw[q] at Y;exact⟨e,rfl,ue Y⟩
   have b4:=(uh.mp N).1;have a3:=J e (uN N);have a7:=L.len;rw[ub,uM] at a7;refine⟨_,rfl,e,rfl,a3.1,a3.2,λl H6 O a8 a9=>?_⟩;have v:=O _ _ m;have nD:D≠l:=ak m a8;refine⟨v,az (by omega),_,rfl,?_,bx (sm.trans O) I,I⟩;rw[uJ,N,uk];refine RepAll.append (RepAll.pairBut v But.upd (L.same O)) (.cons ?_ .nil);refine bM ?_;rw[aj (Ne.symm nD)];exact a9
  ·rintro n y H6 ⟨o,rfl,L,O,I⟩ m;rw[ub,ub,uB (ua _)] at L;have p:=O _ _ p;have a6:=a2.trans O;refine⟨_,rfl,_,rfl,R,D,b,d,n,rfl,.inl p,S,g,.inl m,L,Z,U,C,λH7 s7=>?_⟩;refine⟨_,rfl,.non ⟨_,rfl,?_⟩⟩;refine aw (λh=>absurd h (by decide)) (λ_=>?_);refine⟨_,rfl,_,rfl,R,D,b,d,n,rfl,.inl (s7 _ _ p),S,a4,g,.inl (s7 _ _ m),L.same s7,Z,U,C,λq H8 s8 W8=>?_⟩;exact k q H8 ((a6.trans s7).trans s8) W8
theorem rX (f:∀s∈i,Nm s) (o:i.length<=60) (b:∀e∈z,Nm e.1/\Nm e.2) (c:z.length<=400):Shw (dX i z):=by
 have j:Sw (.tuple (i.map PyData.str)) 100000 2:=(Sw.seq (n:=82) (k:=0) (m:=60) false (ds:=i.map PyData.str) (λd a=>by
  obtain⟨s,l,rfl⟩:=uD.mp a;exact Sw.nm (f s l)) (by rw[ub];exact o)).mono (by decide) (by decide)
 have h:Sw (.tuple (z.map aL)) 100000 2:=(Sw.seq (n:=171) (k:=1) (m:=400) false (ds:=z.map aL) (λd a=>by
  obtain⟨e,g,rfl⟩:=uD.mp a;exact Sw.pair (b e g).1 (b e g).2) (by rw[ub];exact c)).mono (by decide) (by decide)
 exact(Sw.tuple (n:=100000) (k:=2) (ds:=[.tuple (i.map PyData.str),.tuple (z.map aL)]) (λd a=>by
  rcases uf.mp a with rfl | a
  ·exact j
  ·rw[uE.mp a];exact h)).shw (by decide) (by show 3+2 * (100000+2)<=sizeLine;decide)
open Classical in
def dec (P:Prop):Bool:=decide P
open Classical in
theorem dN {P:Prop}(h:P):dec P=true:=by unfold dec;exact ug h
open Classical in
theorem eY {P:Prop}(h:¬ P):dec P=false:=by unfold dec;exact ut h
open Classical in
theorem dec_iff {P:Prop}:dec P=true ↔ P:=by unfold dec;exact decide_eq_true_iff
theorem qD (h:isT H x=true):∃a us,x=.ref a/\H a=some (.tup us):=by
 cases x with
 | ref a =>
  have h:(match H a with | some (.tup _)=>true | _=>false)=true:=h
  split at h
  ·rename_i xs e;exact⟨a,xs,rfl,e⟩
  ·cases h
 | _=>cases h
theorem qJ (h:Thg H (.ref a)) (s:Same H H'):H' a=H a:=by
 cases h with
 | lst e=>rw[e,s _ _ e]
 | tup e=>rw[e,s _ _ e]
 | dK e=>rw[e,s _ _ e]
 | dT e=>rw[e,s _ _ e]
def Rw (G:Hp->V->Prop) (H:Hp) (x:V):Prop:=Thg H x/\∀a ys,x=.ref a->SqA H a ys->ys.length<=1000/\∀y∈ys,G H y
theorem nY:rq Thg:=λ_ _ _ s h=>h.same s
theorem Rw.same (b:rq G) (h:Rw G H x) (s:Same H H'):Rw G H' x:=⟨h.1.same s,λa d e q=>by
 subst e;unfold SqA at q;rw[qJ h.1 s] at q;obtain⟨l,k⟩:=h.2 a d rfl q;exact⟨l,λy c=>b _ _ _ s (k y c)⟩⟩
theorem qF (h:SqA H a xs) (k:SqA H a ys):xs=ys:=by
 rcases h with h | h <;> rcases k with k | k <;> rw[h] at k <;> cases k <;> rfl
def inP (kvs:KV_):V->Bool
 | .str z=>(aM kvs (.inr z)).isSome
 | _=>false
def gy (H:Hp) (kvs:KV_) (y:V) (e:Str × Str):Prop:=∃ta,y=.ref ta/\H ta=some (.tup [.str e.1,.str e.2])/\Nm e.1/\Nm e.2/\(aM kvs (.inr e.1)).isSome=true/\(aM kvs (.inr e.2)).isSome=true
def iZ:Sp:=λvs H Q _=>∃(d:Addr) (kvs:KV_) (y:V),vs=[.ref d,y]/\H d=some (.dK kvs)/\Rw Thg H y/\∀H',Same H H'->Q (.bl (dec (∃e,gy H kvs y e))) H'
theorem rO (h:us.length=2):∃x y,us=[x,y]:=by
 match us,h with
 | [x,y],_=>exact⟨x,y,rfl⟩
theorem iQ (h:bu x=true):∃z,x=.str z/\Nm z:=by
 cases x with
 | str z=>exact⟨z,rfl,isNm_iff.mp h⟩
 | _=>cases h
theorem lQ (F:Fun K "is_tie_among" "is_tie_among" ei f fd) (B:Blt mg) (j:Cal P w K mg base 1 "is_name" ["thing"] dM):FnOk P w K mg base CX0 2 f fd ["places", "tie"] iZ := by
 refine F.ok scAmong (λvs H Q E h=>?_) (λa0 A S s H vs Q E M h=>?_)
 ·obtain⟨d,a,y,rfl,_⟩:=h
  rfl
 ·obtain⟨d, a, y, rfl, Y, J, k⟩ := h;have nd:=scAmong.nd;have X:(¬ ∃e,gy H a y e)->∀C,Same H C->Q (.bl false) C:=λh=>by rw[eY h] at k;exact k
  obtain⟨t,ty,_,_,_,_,Z⟩:=bU (K:=K) J.1;refine⟨_,(af (aD (PW.pt (bt (aT (aP (dg K "tuple" B (ac (pv 1) (ac (cM B) ae))))) (bH (au (cu M.units) (bb K B (ac (pv 1) ae)) ag (ax _))))) (ai (av bR)) ay)
   (ai (av (fK rfl B (ac (bP (ao ei) ["places","tie"] [0] "end" ["places"] (fO K (pv 1)) bi (cw (am j (M.mono (by decide)) rfl (ac (pv 0) ae)) (cA (bV (fA K M.units) (pv 0) (pv 1) (by with_unfolding_all rfl))))) ae))))),?_⟩
  refine⟨_,rfl,_,t,_,rfl,ty,Z,_,rfl,aw (λh=>?_) (λh=>?_)⟩
  ·refine X (λ⟨e,L,I,q,_⟩=>?_) _ (Same.refl H);subst I;rw[gw q] at h;cases h
  obtain⟨L,us,rfl,b⟩:=qD (x:=y) (by simpa using h);refine⟨_,rfl,_,_,rfl,Or.inr ⟨_,.of b,rfl⟩,.sc rfl ⟨_,rfl,aw (λh=>?_) (λh=>?_)⟩⟩
  ·refine X (λ⟨e,tb,I,q,_⟩=>?_) _ (Same.refl H);cases I;rw[b] at q;cases q;cases h
  obtain⟨l,n,rfl⟩:=rO (us:=us) (by
   have h:decide (V.int (us.length:Int)=V.int 2)=true:=by simpa using h
   have:=V.int.inj (ux h);omega)
  have th:=(J.2 L _ rfl (.inr b)).2;have g:V->Bool:=λx=>bu x&&inP a x;refine⟨_,rfl,L,rfl,⟨_,.of b⟩,?_⟩;refine eT [l,n] (λD i p r C=>∃o,r=[o,some (.ref d)]/\p=List.map V.bl (([l,n].take i).map λx=>bu x&&inP a x)/\Same H C/\H D=none) λD T=>⟨?_,?_,?_,?_⟩
  ·exact⟨none,rfl,rfl,Same.new T,T⟩
  ·rintro i p r C _ ⟨o,rfl,_,v,_⟩ _;exact .of (v _ _ b)
  ·rintro i p r C x O ⟨o,rfl,rfl,v,m⟩ c;have G:=(uh.mp O).1;have G:i<2:=G;have W:(List.map V.bl (([l,n].take i).map λx=>bu x&&inP a x)).length<sizeLine:=by rw[ub,ub,uM];exact az (by omega)
   have nx:List.map V.bl (([l,n].take i).map λx=>bu x&&inP a x)++[V.bl (bu x&&inP a x)]=List.map V.bl (([l,n].take (i+1)).map λx=>bu x&&inP a x):=by rw[uJ,O,uk,uk];rfl
   refine cJ ?_;refine⟨_,rfl,_,rfl,(th x (uN O)).same v,λU u=>⟨_,rfl,aw (λh=>?_) (λh=>?_)⟩⟩
   ·obtain⟨z,rfl,nz⟩:=iQ h;refine⟨_,rfl,_,rfl,.dic (DGet.k (k:=.inr z) (u _ _ (v _ _ Y))) ?_⟩;refine⟨u _ _ c,W,_,rfl,?_,bx (v.trans u) m,m⟩;rw[<- nx,h,vh];rfl
   ·have h:bu x=false:=by simpa using h
    refine⟨u _ _ c,W,_,rfl,?_,bx (v.trans u) m,m⟩;rw[<- nx,h,Bool.false_and]
  ·rintro p r U ⟨o, rfl, rfl, u, m⟩ c;refine⟨D,[bu l&&inP a l,bu n&&inP a n],rfl,c,?_⟩;have e:([bu l&&inP a l,bu n&&inP a n]:List Bool).all id=dec (∃e,gy H a (.ref L) e):=by
    rw[uL,dec_iff]
    constructor
    ·intro h;have h:((bu l&&inP a l)&&((bu n&&inP a n)&&true))=true:=h;rw[Bool.and_true,uP,uP,uP] at h;obtain⟨z1,rfl,R⟩:=iQ h.1.1;obtain⟨z2,rfl,N⟩:=iQ h.2.1;exact⟨(z1,z2),L,rfl,b,R,N,h.1.2,h.2.2⟩
    ·rintro⟨e,tb,I,q,R,N,i1,i2⟩;cases I;rw[b] at q;cases q;show ((bu (.str e.1)&&inP a (.str e.1))&&((bu (.str e.2)&&inP a (.str e.2))&&true))=true;rw[isNm_iff.mpr R,isNm_iff.mpr N,show inP a (.str e.1)=true from i1,show inP a (.str e.2)=true from i2];rfl
   rw[e];exact k U u
theorem di (h:n<=8000000):n<sizeLine:=Nat.lt_of_le_of_lt h (by decide)
def pe:Sp:=λvs H Q _=>∃(a:Addr) (xs:LS),vs=[.ref a]/\H a=some (.lst (List.map V.str xs))/\xs.length<=8000000/\∀d kvs H',Same H H'->H' d=some (.dK kvs)->(∀s,(aM kvs (.inr s)).isSome=true ↔ s∈xs)->(kvs.map (·.1)).Nodup->(∀k∈kvs.map (·.1),∃s∈xs,k=Sum.inr s)->Q (.ref d) H'
theorem sK (F:Fun K "places_of" "places_of" fB f fd) (B:Blt mg):FnOk P w K mg base CX0 1 f fd ["things"] pe := by
 refine F.ok scPlaces (λM H Q E h=>?_) (λO A y s H M Q E L h=>?_)
 ·obtain⟨a,xs,rfl,_⟩:=h
  rfl
 ·obtain⟨a,xs,rfl,D,T,k⟩:=h;have r:=scPlaces.nd;refine⟨_,(af (aq (i:=1) r rfl (Or.inl rfl) fX)
   (af (ce PassesOwn.never rfl (dA K rfl B.enumerate (ac (pv 0) ae)) (cN (n:=2) K rfl (ba (aR (i:=2) r rfl (Or.inl rfl)) (ba (aR (i:=3) r rfl (Or.inl rfl)) cL))) (ai (cg (pv 2) (bT (pv 1) (pv 3) (cB L.units)))))
   (ai (av (pv 1))))),?_⟩
  intro d z;have G:=Same.new (o:=.dK []) z;have bQ:PlN H (upd H d (.dK [])) d xs 0 []:=⟨G,ah,ua _,(λs=>by simp[cI]),(λs v e=>by cases e),u5,(λk N=>by cases N)⟩
  refine⟨_,rfl,_,rfl,.lst (.of (G _ _ D)) ?_⟩;refine dz (xs:=List.map V.str xs) (λi l j=>∃q m c,l=[some (.ref a),some (.ref d),q,m]/\PlN H j d xs i c) ?_ ?_ ?_ ?_
  ·exact⟨none,none,[],rfl,bQ⟩
  ·rintro i l j S ⟨q,m,c,rfl,b⟩;exact .of (b.sm _ _ D)
  ·rintro i x l j p R ⟨q,m,c,rfl,b⟩ I;obtain⟨t,C,rfl⟩:=ck R;have J:=(uh.mp C).1;have u:d≠p:=ak b.at_ I;have:=b.len;refine⟨p,_,rfl,.of ah,rfl,_,_,rfl,_,_,rfl,rfl,?_⟩;exact⟨_,rfl,_,rfl,_,rfl,.dic (DPut.k (k:=.inr t) (by rw[aj u];exact b.at_) (di (by omega))) ⟨_,_,_,rfl,b.step z I C⟩⟩
  ·rintro l j ⟨q,m,c,rfl,b⟩;have g:=b.inn;rw[ub,uB (ua _)] at g;exact⟨_,rfl,k d c j b.sm b.at_ g b.nd b.ks⟩
def mn:Sp:=λvs H Q _=>∃(a:Addr) (ss:LS),vs=[.ref a]/\H a=some (.lst (List.map V.str ss))/\ss.length<=8000000/\∀H',Same H H'->Q (.bl (decide ss.Nodup)) H'
theorem pW (F:Fun K "are_unlike" "are_unlike" fP f fd) (B:Blt mg) (b:Cal P w K mg base 1 "places_of" ["things"] pe):FnOk P w K mg base CX0 2 f fd ["things"] mn := by
 refine F.ok scUnlike (λx H Q E h=>?_) (λt A m s H x Q E n h=>?_)
 ·obtain⟨a,g,rfl,_⟩:=h
  rfl
 ·obtain⟨a, g, rfl, q, i, k⟩ := h;have y:=scUnlike.nd;refine⟨_,(ai (av (bV (aW n.units) (mf B (ac (am b (n.mono (by decide)) rfl (ac (pv 0) ae)) ae)) (bb K B (ac (pv 0) ae)) (ax _)))),?_⟩;refine⟨_,rfl,a,g,rfl,q,i,λd c o p r l j v=>⟨d,c,rfl,r,_,rfl,_,g.length,rfl,?_,.sc rfl ?_⟩⟩
  ·have:=(SqA.same (.inl q) p).len (K:=K);rw[ub] at this;exact this
  ·have e:=jU j v l;have u:decide (V.int (c.length:Nat)=V.int (g.length:Nat))=decide g.Nodup:=by
    rw[uL,decide_eq_true_iff,decide_eq_true_iff,<- e];exact⟨λz=>Int.ofNat.inj (V.int.inj z),λz=>by rw[z]⟩
   show Q (.bl (decide (V.int (c.length:Nat)=V.int (g.length:Nat)))) o;rw[u];exact k o p
def Gn (ss:LS):Prop:=ss.Nodup/\(∀s∈ss,Nm s)/\ss.length<=60
def nn:Sp:=λvs H Q _=>∃(a:Addr) (ss:LS),vs=[.ref a]/\H a=some (.lst (List.map V.str ss))/\ss.length<=8000000/\(∀s∈ss,s.length<=8000000)/\∀H',Same H H'->Q (.bl (dec (ss.Nodup/\∀s∈ss,Nm s))) H'
theorem qb (F:Fun K "are_unlike_names" "are_unlike_names" gh f fd) (B:Blt mg) (d:Cal P w K mg base 1 "is_name" ["thing"] dM) (b:Cal P w K mg base 2 "are_unlike" ["things"] mn):FnOk P w K mg base CX0 3 f fd ["things"] nn := by
 refine F.ok scUNm (λvs H Q E h=>?_) (λY A G s H vs Q E M h=>?_)
 ·obtain⟨a,g,rfl,_⟩:=h
  rfl
 ·obtain⟨a, g, rfl, S, r, v, k⟩ := h;have nd:=scUNm.nd;have a0:(List.map V.str g).length=g.length:=ub ..;refine⟨_,(af (aD (aT (aP (fq K "list" "tuple" B (ac (pv 0) (ac (bc (ac (fv B) (ac (cM B) ae))) ae))))) (ai (av bR)) ay)
   (ai (av (cw (fK rfl B (ac (bP (ao gh) ["things"] [] "thing" [] (bG K (pv 0)) bi (am d (M.mono (by decide)) rfl (ac (pv 0) ae))) ae)) (cA (am b (M.mono (by decide)) rfl (ac (pv 0) ae))))))),?_⟩
  refine⟨_,rfl,(by show 2<=sizeLine;decide),λtp y=>?_⟩;have u:=Same.new (o:=.tup [V.ty "list",V.ty "tuple"]) y;have N:SqA (upd H tp (.tup [V.ty "list",V.ty "tuple"])) a (List.map V.str g):=(SqA.same (.inl S) u)
  obtain⟨t,W,_,_,_,X,U⟩:=bU (K:=K) N.thg;have O:=fe X U;rw[N.lt] at O;refine⟨_,tp,t,_,rfl,ah,W,O,_,rfl,?_⟩;refine aw (λh=>absurd h (by decide)) (λ_=>?_);have l:=u _ _ S;generalize upd H tp (.tup [V.ty "list",V.ty "tuple"])=R at u l ⊢;refine⟨_,rfl,a,rfl,⟨_,.of l⟩,?_⟩;refine cr (List.map V.str g) (λD i j m J=>∃o,m=[o]/\j=List.map V.bl (((List.map V.str g).take i).map bu)/\Same R J/\R D=none) λD L=>⟨?_,?_,?_,?_⟩
  ·exact⟨none,rfl,rfl,Same.new L,L⟩
  ·rintro i j m J _ ⟨o,rfl,_,I,_⟩ _;exact .of (I _ _ l)
  ·rintro i j m J x q ⟨o,rfl,rfl,I,n⟩ c;have T:=(uh.mp q).1;obtain⟨z,hz,rfl⟩:=ck q;refine cJ ?_;refine⟨_,rfl,_,rfl,.str (uO (di (v z (uN hz)))),λH2 p=>?_⟩;exact⟨p _ _ c,by rw[ub,ub,uM];exact di (by omega),_,rfl,by rw[uJ,q,uk,uk];rfl,bx (I.trans p) n,n⟩
  ·rintro j m H2 ⟨o, rfl, rfl, p, n⟩ c;rw[uB (ua _)] at c;refine⟨D,(List.map V.str g).map bu,rfl,c,_,rfl,?_⟩;have e:((List.map V.str g).map bu).all id=dec (∀s∈g,Nm s):=by
    rw[uL,dec_iff,List.all_map,uW];exact⟨λh s C=>isNm_iff.mp (h _ (uD.mpr ⟨s,C,rfl⟩)),λh x q=>by
     obtain⟨s,C,rfl⟩:=uD.mp q;exact isNm_iff.mpr (h s C)⟩
   rw[e];refine aw (λh=>?_) (λh=>?_)
   ·have h:=dec_iff.mp h;refine⟨_,rfl,a,g,rfl,p _ _ l,r,λZ s3=>?_⟩;have e2:decide g.Nodup=dec (g.Nodup/\∀s∈g,Nm s):=by
     rw[uL,dec_iff,decide_eq_true_iff];exact⟨λz=>⟨z,h⟩,λz=>z.1⟩
    rw[e2];exact k Z ((u.trans p).trans s3)
   ·rw[eY λz=>h (dN z.2)] at k;exact k _ (u.trans p)
def mw:Sp:=λvs H Q _=>∃(a:Addr) (ss:LS),vs=[.ref a]/\H a=some (.lst (List.map V.str ss))/\ss.length<=8000000/\(∀s∈ss,s.length<=8000000)/\∀H',Same H H'->Q (.bl (dec (Gn ss))) H'
theorem pY (F:Fun K "are_things" "are_things" dn f fd) (B:Blt mg) (TT:mg "MOST_THINGS"=some (.int 60 tk)) (b:Cal P w K mg base 3 "are_unlike_names" ["things"] nn):FnOk P w K mg base CX0 4 f fd ["things"] mw := by
 refine F.ok scAre (λp H Q E h=>?_) (λo A j s H p Q E n h=>?_)
 ·obtain⟨a,d,rfl,_⟩:=h
  rfl
 ·obtain⟨a, d, rfl, m, c, i, k⟩ := h;have q:=scAre.nd;refine⟨_,(ai (av (cw (am b (n.mono (by decide)) rfl (ac (pv 0) ae)) (cA (bV gI (bb K B (ac (pv 0) ae)) (aO (v:=.int 60) rfl TT ⟨_,rfl⟩) (ax _)))))),?_⟩;refine⟨_,rfl,a,d,rfl,m,c,i,λl g=>⟨_,rfl,aw (λh=>?_) (λh=>?_)⟩⟩
  ·have h:=dec_iff.mp h;refine⟨_,rfl,_,_,rfl,(SqA.same (.inl m) g).len,.int ?_⟩;have e:dec (Gn d)=decide (((List.map V.str d).length:Int)<=60):=by
    rw[uL,dec_iff,decide_eq_true_iff,ub];exact⟨λz=>by have:=z.2.2;omega,λz=>⟨h.1,h.2,by omega⟩⟩
   have z:=k l g;rw[e] at z;exact z
  ·rw[eY λz=>h (dN ⟨z.1,z.2.1⟩)] at k;exact k l g
theorem eH (c:Nat) (x y:Str) (r:LS):(Str.join (SP.one c) (x::y::r)).length=x.length+1+(Str.join (SP.one c) (y::r)).length:=by
 have h:=congrArg List.length (SP.join_signs c x y r);rw[uA,uv] at h;have e:∀s:Str,s.length=s.cps.toList.length:=λs=>by rw[Array.length_toList];rfl
 rw[e,e x,e (Str.join (SP.one c) (y::r)),h];omega
theorem iC (c:Nat) (x:Str):Str.join (SP.one c) [x]=x:=rfl
theorem ju (c:Nat):∀ {ws:LS}{w:Str}, w ∈ ws -> w.length <= (Str.join (SP.one c) ws).length
 | [x],w,h=>by rw[uE.mp h,iC];exact ua _
 | x::y::r,w,h=>by
  rw[eH];rcases uf.mp h with rfl | h
  ·omega
  ·have:=ju c h;omega
theorem hI (c:Nat):∀(ws:LS),ws.length<=(Str.join (SP.one c) ws).length+1
 | []=>uu _
 | [x]=>by rw[List.length_singleton];omega
 | x::y::r=>by
  rw[eH,uv];have:=hI c (y::r);omega
theorem bY {c:Nat}{z w:Str}(h:w∈Txt.split z (SP.one c)):w.length<=z.length:=by
 have:=ju c h;rw[StrLaws.join_split] at this;exact this
theorem cF:(Txt.split z (SP.one c)).length<=z.length+1:=by
 have:=hI c (Txt.split z (SP.one c));rw[StrLaws.join_split] at this;exact this
def kY:LS->Option (Str × Str)
 | [a,b,c]=>if b=">" then some (a,c) else none
 | _=>none
def aX (z:Str):Option (Str × Str):=kY (Txt.split z " ")
def nr:Sp:=λvs H Q _=>∃z:Str,vs=[.str z]/\z.length<=8000000/\(aX z=none->∀H',Same H H'->Q .non H')/\(∀e,aX z=some e->∀l H',Same H H'->H l=none->H' l=some (.tup [.str e.1,.str e.2])->Q (.ref l) H')
theorem pR (F:Fun K "tie_in" "tie_in" gr f fd) (B:Blt mg):FnOk P w K mg base CX0 1 f fd ["line"] nr := by
 refine F.ok scTieIn (λC H Q E h=>?_) (λq A k s H C Q E c h=>?_)
 ·obtain⟨z,rfl,_⟩:=h
  rfl
 ·obtain⟨z, rfl, v, e, m⟩ := h;have p:=scTieIn.nd;refine⟨_,(af (aq (i:=1) p rfl (Or.inl rfl) (bz K (pv 0) (ac ar ae)))
   (af (aD (PW.pt (bt (au (cu c.units) (bb K B (ac (pv 1) ae)) ag (ax _)) (bH (au (cu c.units) (aB (aG K c.units) (pv 1) ag (λ_ _=>rfl)) ar (ax _))))) (ai (av cb)) ay)
   (ai (av (bc (ac (aB (aG K c.units) (pv 1) ag (λ_ _=>rfl)) (ac (aB (aG K c.units) (pv 1) ag (λ_ _=>rfl)) ae))))))),?_⟩
  refine⟨_,rfl,rfl,_,_,rfl,rfl,by decide,uo (Nat.add_le_add_right v 2) (by decide),λl r=>?_⟩;have d:=Same.new (o:=.lst (List.map V.str (Txt.split z " "))) r;have b:upd H l (.lst (List.map V.str (Txt.split z " "))) l=some (.lst (List.map V.str (Txt.split z " "))):=ah;generalize upd H l (.lst (List.map V.str (Txt.split z " ")))=D at d b ⊢;unfold aX at e m;generalize Txt.split z " "=g at b e m;refine⟨_,rfl,_,_,rfl,Or.inl ⟨_,.of b,rfl⟩,.sc rfl ⟨_,rfl,aw (λh=>?_) (λh=>?_)⟩⟩
  ·show (if true=true then _ else _);rw[if_pos rfl];refine e ?_ _ d
   match g with
   | []=>rfl
   | [_]=>rfl
   | [_,_]=>rfl
   | [_,_,_]=>exact absurd h (by show ¬ (!decide (V.int 3=V.int 3))=true;decide)
   | _::_::_::_::_=>rfl
  ·obtain⟨x, y, u, rfl⟩:∃x y u, g=[x, y, u] := by
      have h:decide (V.int ((List.map V.str g).length:Nat)=V.int 3)=true:=by simpa using h
      have h:=V.int.inj (ux h);rw[ub] at h
      match g,h with
      | [x,y,u],_=>exact⟨x,y,u,rfl⟩
      | [],h=>cases h
      | [_],h=>cases h
      | [_,_],h=>cases h
      | _::_::_::_::_,h=>simp only[uv] at h;omega
   refine⟨_,rfl,.lst (.of b) (aN (j:=1) rfl) (.sc rfl ⟨_,rfl,aw (λa=>?_) (λa=>?_)⟩)⟩
   ·refine e ?_ _ d;have a:y≠">":=λz=>by rw[z] at a;revert a;show ¬ (!decide (V.str ">"=V.str ">"))=true;rw[ug rfl];decide
    show (if y=">" then some (x,u) else none)=none;rw[if_neg a]
   ·have a:y=">":=by
       have:decide (V.str y=V.str ">")=true:=by simpa using a
       exact V.str.inj (ux this)
    refine⟨_,rfl,.lst (.of b) (aN (j:=0) rfl) ⟨_,rfl,.lst (.of b) (aN (j:=2) rfl) ⟨(by show 2<=sizeLine;decide),λt n=>?_⟩⟩⟩;refine m (x,u) ?_ t _ (d.trans (Same.new n)) (cO d n) ah;show (if y=">" then some (x,u) else none)=some (x,u);rw[if_pos a]
def RO (H:Hp) (y:V):Option (Str × Str)->Prop
 | none=>y=.non
 | some e=>∃ta,y=.ref ta/\H ta=some (.tup [.str e.1,.str e.2])/\e.1.length<=8000000/\e.2.length<=8000000
theorem RO.same (h:RO H y o) (s:Same H H'):RO H' y o:=by
 cases o with
 | none=>exact h
 | some e =>
  obtain⟨d,a,b,c⟩:=h;exact⟨d,a,s _ _ b,c⟩
theorem RO.rw (h:RO H y o):Rw Thg H y:=by
 cases o with
 | none =>
  have h:y=.non:=h;subst h;exact⟨.non,λa g e=>by cases e⟩
 | some e =>
  obtain⟨i,rfl,b,c,d⟩:=h;refine⟨.tup b,λa g e q=>?_⟩;cases e;rw[<- qF (.inr b) q];refine⟨by show 2<=1000;decide,λv f=>?_⟩;rcases uf.mp f with rfl | f
  ·exact .str (uO (di c))
  ·rw[uE.mp f];exact .str (uO (di d))
def TV (H:Hp) (ys:LV) (os:List (Option (Str × Str))):Prop:=ys.length=os.length/\∀(i:Nat) (y:V) (o:Option (Str × Str)),ys[i]? = some y->os[i]? = some o->RO H y o
def TOs (ss:LS) (os:List (Option (Str × Str))) (ts:List (Str × Str)):Prop:=os=ts.map some/\ts.Nodup/\ts.length<=400/\∀e∈ts,e.1∈ss/\e.2∈ss
def TO (ss:LS) (os:List (Option (Str × Str))):Prop:=∃ts,TOs ss os ts
def WR (ss:LS) (os:List (Option (Str × Str))) (r:V):Prop:=(TO ss os/\r=.non)∨∃i:Nat,r=.int i/\i<os.length/\i<=400/\TO ss (os.take i)/\¬ TO ss (os.take (i+1))
theorem iD {xs ys:List (Str × Str)}(h:xs.map some=ys.map some):xs=ys := by
 induction xs generalizing ys with
 | nil=>cases ys with
  | nil=>rfl
  | cons y r=>cases h
 | cons x r ih=>cases ys with
  | nil=>cases h
  | cons y q =>
   obtain⟨a,b⟩:=List.cons.inj h;rw[ue a,ih b]
def iN:Sp:=λvs H Q _=>∃(a t:Addr) (ss:LS) (ys:LV) (os:List (Option (Str × Str))),vs=[.ref a,.ref t]/\H a=some (.lst (List.map V.str ss))/\ss.length<=60/\(∀s∈ss,Nm s)/\H t=some (.lst ys)/\TV H ys os/\∀r H',WR ss os r->Same H H'->Q r H'
theorem mC (F:Fun K "first_wrong_tie" "first_wrong_tie" gB f fd) (B:Blt mg) (TT:mg "MOST_TIES"=some (.int 400 tk)) (l:Cal P w K mg base 1 "places_of" ["things"] dQ) (g:Cal P w K mg base 2 "is_tie_among" ["places", "tie"] iZ):FnOk P w K mg base CX0 3 f fd ["things", "ties"] iN := by
 refine F.ok scWrong (λvs H Q E h=>?_) (λb3 A a8 s H vs Q E hr h=>?_)
 ·obtain⟨a,t,ss,ys,D,rfl,_⟩:=h
  rfl
 ·obtain⟨a, t, ss, ys, D, rfl, hA, b0, a4, ht, tv, k⟩ := h;have nd:=scWrong.nd;refine⟨_,(af (aq (i:=2) nd rfl (Or.inl rfl) (am l (hr.mono (by decide)) rfl (ac (pv 0) ae)))
   (af (aq (i:=3) nd rfl (Or.inl rfl) fY)
   (af (ce PassesOwn.never rfl (dA K rfl B.enumerate (ac (pv 1) ae)) (cN (n:=2) K rfl (ba (aR (i:=4) nd rfl (Or.inl rfl)) (ba (aR (i:=5) nd rfl (Or.inl rfl)) cL))) (af (aD (PW.pt (bt (au (aW hr.units) (pv 4) (aO (v:=.int 400) rfl TT ⟨_,rfl⟩) (ax _)) (bt (aT (aP (am g (hr.mono (by decide)) rfl (ac (pv 2) (ac (pv 5) ae))))) (bH (au (fA K hr.units) (pv 5) (pv 3) (by with_unfolding_all rfl)))))) (ai (av (pv 4))) ay)
   (ai (cg bR (bT (pv 3) (pv 5) (cB hr.units))))))
   (ai (av cb))))),?_⟩
  refine⟨_,rfl,_,rfl,.nm (.inl hA) (by omega) λd Z H1 s1 b1 hd I b4 _ _=>?_⟩;intro dt X;have s2:=s1.trans (Same.new (o:=.dT []) X);refine⟨_,rfl,_,rfl,.lst (.of (s2 _ _ ht)) ?_⟩;refine dz (xs:=ys) (λi σ G=>∃(o4 o5:Option V) (T:List (List Key × V)) (C:List (Str × Str)),σ=[some (.ref a),some (.ref t),some (.ref d),some (.ref dt),o4,o5]/\Same H1 G/\G dt=some (.dT T)/\T.length<=i/\i<=400/\C.length=i/\TOs ss (D.take i) C/\∀f:Str × Str,(aM T (pK f)).isSome=true ↔ f∈C) ?_ ?_ ?_ ?_
  ·exact⟨none,none,[],[],rfl,Same.new X,ah,ua _,uu _,rfl,⟨rfl,u5,uu _,(λe he=>by cases he)⟩,λf=>by simp[cI]⟩
  ·rintro i σ G hi ⟨o4,o5,T,C,rfl,sm,_⟩;exact .of (sm _ _ (s1 _ _ ht))
  ·rintro i y σ G p hy ⟨o4, o5, T, C, rfl, sm, a7, b2, a0, L, j, u⟩ hp;have a6:=(uh.mp hy).1;have a2:i<D.length:=by rw[<- tv.1];exact a6
   have ho:D[i]? = some D[i]:=uy a2;have U:=tv.2 i y _ hy ho;generalize D[i]=o at ho U;have a1:D.take (i+1)=D.take i++[o]:=by rw[uJ,ho];rfl
   have uq:∀c,TOs ss (D.take (i+1)) c->∃e,o=some e/\c=C++[e]:=λc h=>by
    have Y:=h.1;rw[a1,j.1] at Y;have hl:=congrArg List.length Y;rw[uA,ub,ub] at hl;obtain⟨e,r,rfl⟩:∃e r,c=r++[e]:=by
     have ne:c≠[]:=λz=>by rw[z] at hl;simp at hl
     exact⟨_,_,(List.dropLast_concat_getLast ne).symm⟩
    rw[uk] at Y;obtain⟨g1,g2⟩:=List.append_inj' Y rfl;have g2:=(List.cons.inj g2).1;exact⟨e,g2,by rw[iD g1]⟩
   have sp:=Same.new (o:=.tup [V.int (i:Nat),y]) hp;refine⟨p,_,rfl,.of ah,rfl,_,_,rfl,_,_,rfl,rfl,?_⟩;have J:=sm.trans sp;have S:=sp _ _ a7;have m:=s1.trans J;generalize upd G p (.tup [V.int (i:Nat),y])=H3 at J S m ⊢;have W:¬ TO ss (D.take (i+1))->∀G,Same H G->Q (.int (i:Nat)) G:=λn G s=>k _ _ (.inr ⟨i,rfl,a2,a0,⟨C,j⟩,n⟩) s;refine⟨_,rfl,.sc rfl ⟨_,rfl,?_⟩⟩;refine aw (λh=>by show (if true=true then _ else _);rw[if_pos rfl];exact⟨_,rfl,W (λ⟨c,N⟩=>by
    have h4:(i:Int)=400:=V.int.inj (ux h);obtain⟨e,_,rfl⟩:=uq c N;have:=N.2.2.1;rw[uA,L] at this;have:i+1<=400:=this;omega) _ m⟩) (λh4=>?_)
   have h4:¬ i=400:=λz=>h4 (ug (by rw[z];rfl));refine⟨_,rfl,_,rfl,d,Z,y,rfl,J _ _ hd,U.rw.same nY m,λH4 s4=>⟨_,rfl,?_⟩⟩;refine aw (λh=>by show (if true=true then _ else _);rw[if_pos rfl];exact⟨_,rfl,W (λ⟨c,N⟩=>by
    obtain⟨e,eo,rfl⟩:=uq c N;subst eo;obtain⟨ta,ey,a5,_⟩:=U;have hi:=N.2.2.2 e (by simp);have:dec (∃e,gy H3 Z y e)=true:=dN ⟨e,ta,ey,m _ _ a5,a4 _ hi.1,a4 _ hi.2,(I _).mpr hi.1,(I _).mpr hi.2⟩;rw[this] at h;cases h) _ (m.trans s4)⟩) (λh5=>?_)
   obtain⟨e,ta,rfl,M,n1,n2,i1,i2⟩:=(dec_iff (P:=∃e,gy H3 Z y e)).mp (by simpa using h5);have eo:o=some e:=by
    cases o with
    | none=>have U:V.ref ta=V.non:=U;cases U
    | some e' =>
     obtain⟨tb,ey,a9,_⟩:=U;cases ey;have:=m _ _ a9;rw[M] at this;have Y:=List.cons.inj (HO.tup.inj (ue this));have h2:=List.cons.inj Y.2;rw[show e'=e from (Prod.ext (V.str.inj Y.1) (V.str.inj h2.1)).symm]
   have O:=s4 _ _ S;have R:=s4 _ _ M;refine⟨_,rfl,_,rfl,.dic (DGet.t (k:=pK e) O R) ⟨_,rfl,?_⟩⟩;refine aw (λh=>⟨_,rfl,W (λ⟨c,N⟩=>by
    obtain⟨e',ee,rfl⟩:=uq c N;rw[eo] at ee;cases ee;have a3:=N.2.1;rw[vr] at a3;exact a3.2.2 e ((u e).mp h) e (by simp) rfl) _ (m.trans s4)⟩) (λh6=>?_)
   have h6:e∉C:=λz=>h6 ((u e).mpr z);refine⟨_,rfl,_,rfl,.dic (DPut.t (k:=pK e) O R (az (by omega))) ⟨_,_,_,C++[e],rfl,?_,ah,?_,by omega,by rw[uA,L];rfl,⟨?_,?_,?_,?_⟩,λf=>?_⟩⟩
   ·intro b o hb;rw[aj (ak hb X)];exact s4 _ _ (J _ _ hb)
   ·have:=bO T (pK e) (V.bl true);omega
   ·rw[a1,j.1,eo,uk];rfl
   ·rw[vr];exact⟨j.2.1,by simp,λx hx y hy=>by rw[uE.mp hy];exact λz=>h6 (z ▸ hx)⟩
   ·rw[uA,L];show i+1<=400;omega
   ·intro f hf;rcases uF.mp hf with q | q
    ·exact j.2.2.2 f q
    ·rw[uE.mp q];exact⟨(I _).mp i1,(I _).mp i2⟩
   ·rw[df,uF];by_cases q:f=e
    ·subst q;simp
    ·rw[if_neg (λz=>q (gk z)),u f];simp[q]
  ·rintro σ G ⟨o4,o5,T,C,rfl,sm,_,_,a0,L,j,_⟩;rw[tv.1,uB (ua _)] at j;exact k .non _ (.inl ⟨⟨C,j⟩,rfl⟩) (s1.trans sm)
abbrev nX:LS:=["OrderError","NoWeb","NoText","Ring","NoOrder","NoWeights","NoHouse","NoDeed","NoUnit","Twice","Within","NoTie","Full","Apart","NoWant","TooMany","NoUndo","NoRedo","Clash","NoRow"]
abbrev kW:LS:=["OrderError","NoText"]
def dw (K:W.Frag) (fl:Str):Sp:=λvs H Q _=>∃(e C:Addr) (v:V),vs=[.ref e,v]/\H e=some (bN e C none)/\XSet K C fl/\∀d,H d=none->Q .non (upd (upd H d (.xd [(fl,v)])) e (bN e C (some d)))
theorem dZ {E:XK}{C e:Addr}{i:Str}{v:V}{H1:Hp}(Z:XSet K C i) (he:H1 e=none) (k:∀d H',Same H1 H'->H1 d=none->H' d=some (.xd [(i,v)])->E (.ref C) (some d) H') :
    dw K i [.ref e,v] (upd H1 e (bN e C none)) (λv H2=>v=.non/\∃dd,H2 e=some (bN e C dd)/\E (.ref C) dd (del H2 e)) E0:=by
 refine⟨e,C,v,rfl,ah,Z,λd c=>⟨rfl,some d,ah,?_⟩⟩;have a:d≠e:=λz=>by rw[z,ah] at c;cases c
 rw[aj a] at c;refine k d _ (λb o f=>?_) c ?_
 ·have g:b≠e:=ak f he;rw[jp g,aj g,aj (ak f c),aj g];exact f
 ·rw[jp a,aj a,ah]
theorem scInit:FnScope ["self","line"] ["self","line"] (ao cj):=⟨rfl,rfl,rfl,by decide +kernel,rfl,by decide +kernel,by decide +kernel⟩
theorem qt (F:Fun K "__init__" "NoText.__init__" cj f fd) (B:Blt mg):FnOk P w K mg base CX0 1 f fd ["self","line"] (dw K "line"):=by
 refine F.ok scInit (λi H Q E h=>?_) (λc A a s H i Q E l h=>?_)
 ·obtain⟨e,C,v,rfl,_⟩:=h
  rfl
 ·obtain⟨e,C,v,rfl,g,Z,k⟩:=h;have m:=scInit.nd;refine⟨_,(ai (qL (pv 0) (pv 1) rfl)),?_⟩;refine⟨_,rfl,_,rfl,e,C,rfl,g,Z,λd b j=>?_⟩;exact k d b
def cS:LS->Prop
 | []=>False
 | h::r=>∃ss:LS,Txt.split h " "=("things":Str)::ss/\Gn ss/\TO ss (r.map aX)
def FB (ls:LS) (i:Nat):Prop:=i<ls.length/\(i=0∨cS (ls.take i))/\¬ cS (ls.take (i+1))
def jW (C:Addr):Sp:=λvs H _ E=>∃z:Str,vs=[.str z]/\z.length<=8000000/\¬ cS (Txt.split z "\n")/\∀(i:Nat) d H',FB (Txt.split z "\n") i->Same H H'->H d=none->H' d=some (.xd [("line",.int i)])->E (.ref C) (some d) H'
theorem eW:(" ":Str)=SP.one 32:=je
theorem dY:("\n":Str)=SP.one 10:=mh
theorem oh (F:Fun K "read_web" "read_web" eK f fd) (B:Blt mg) (g:MkI P w K mg base 1 "NoText" C ["self", "line"] (dw K "line")) (Z:XSet K C "line") (M:Cal P w K mg base 1 "tie_in" ["line"] nr) (t:Cal P w K mg base 4 "are_things" ["things"] mw) (a:Cal P w K mg base 3 "first_wrong_tie" ["things", "ties"] iN):FnOk P w K mg base (CX1 P w) 6 f fd ["text"] (jW C) := by
 refine F.okX scRead (λvs H Q E h=>?_) (λd0 A c7 s H vs Q E S h=>?_)
 ·obtain⟨z,rfl,_⟩:=h
  rfl
 ·obtain⟨z,rfl,hz,c1,k⟩:=h;have nd:=scRead.nd;have d3:8000002<=sizeLine:=by decide
  refine⟨_,(af (aD (aT (aP (dg K "str" B (ac (pv 0) (ac (iA B) ae))))) (ai (dP g (S.mono (by decide)) rfl (ac ag ae))) ay)
   (af (aq (i:=1) nd rfl (Or.inl rfl) (bz K (pv 0) (ac ar ae)))
   (af (aq (i:=2) nd rfl (Or.inl rfl) (bz K (aB (aG K S.units) (pv 1) ag (λ_ _=>rfl)) (ac ar ae)))
   (af (aq (i:=3) nd rfl (Or.inl rfl) (bp (cX K) (pv 2) (br ag) bS))
   (af (aD (PW.pt (bt (au (cu S.units) (aB (aG K S.units) (pv 2) ag (λ_ _=>rfl)) ar (ax _)) (bH (aT (aP (am t (S.mono (by decide)) rfl (ac (pv 3) ae))))))) (ai (dP g (S.mono (by decide)) rfl (ac ag ae))) ay)
   (af (kF (i:=4) nd rfl rfl (by rfl) (ao eK) ["text","lines","words","things","ties","wrong"] ["line"] [] ["line"] rfl (bG K (bp (cX K) (pv 1) (br ag) bS)) (λ_ _ _ _ _=>(aR (i:=0) (show (["line"]:LS).Nodup by decide) rfl (Or.inl rfl))) (λ_ _ _ _ _=>bi) (λ_ _ _ _ _=>(am M (S.mono (by decide)) rfl (ac (pv 0) ae))))
   (af (aq (i:=5) nd rfl (Or.inl rfl) (am a (S.mono (by decide)) rfl (ac (pv 3) (ac (pv 4) ae))))
   (af (aD (au dO (pv 5) cb (ax _)) (ai (dP g (S.mono (by decide)) rfl (ac (aA aJ (pv 5) ag) ae))) ay)
   ii)))))))),?_⟩
  obtain⟨tt,ty,t1,_⟩:=bU (K:=K) (H:=H) (Thg.str (z:=z) (by omega));refine⟨_,rfl,_,tt,_,rfl,ty,t1,_,rfl,?_⟩;refine aw (λh=>absurd h (by show ¬ (!true)=true;decide)) (λ_=>?_);refine⟨_,rfl,rfl,_,_,rfl,rfl,by decide,by omega,λl1 h1=>?_⟩;have c4:(Txt.split z "\n").length<=z.length+1:=by rw[dY];exact cF
  have b4:∀l∈Txt.split z "\n",l.length<=z.length:=λl hl=>by rw[dY] at hl;exact bY hl
  have b7:Txt.split z "\n"≠[]:=SP.split_ne _ _;have s1:=Same.new (o:=.lst (List.map V.str (Txt.split z "\n"))) h1;have m:upd H l1 (.lst (List.map V.str (Txt.split z "\n"))) l1=some (.lst (List.map V.str (Txt.split z "\n"))):=ah;generalize upd H l1 (.lst (List.map V.str (Txt.split z "\n")))=H1 at s1 m ⊢;generalize Txt.split z "\n"=ls at *;cases ls with
  | nil=>exact absurd rfl b7
  | cons hd_ r =>
  have d1:=b4 hd_ (by simp);have a0:atI (List.map V.str (hd_::r)) 0=some (.str hd_):=aN (j:=0) rfl;refine⟨_,rfl,.lst (.of m) a0 ⟨rfl,hd_,_,rfl,rfl,by decide,by omega,λl2 h2=>?_⟩⟩;have b0:(Txt.split hd_ " ").length<=hd_.length+1:=by rw[eW];exact cF
  have a7:∀l∈Txt.split hd_ " ",l.length<=hd_.length:=λl hl=>by rw[eW] at hl;exact bY hl
  have c8:Txt.split hd_ " "≠[]:=SP.split_ne _ _;have J:=Same.new (o:=.lst (List.map V.str (Txt.split hd_ " "))) h2;have e2:upd H1 l2 (.lst (List.map V.str (Txt.split hd_ " "))) l2=some (.lst (List.map V.str (Txt.split hd_ " "))):=ah;have m:=J _ _ m;have a6:=s1.trans J;generalize upd H1 l2 (.lst (List.map V.str (Txt.split hd_ " ")))=I at a6 m e2 ⊢;obtain⟨Y,G,ew⟩:∃Y G,Txt.split hd_ " "=Y::G:=by
   cases c:Txt.split hd_ " " with
   | nil=>exact absurd c c8
   | cons x y=>exact⟨x,y,rfl⟩
  rw[ew] at b0 a7 e2;refine⟨_,rfl,_,rfl,.lst (.of e2) λl3 h3=>?_⟩;rw[show dk (List.map V.str (Y::G)) (some 1) none=List.map V.str G from fJ ..];have s3:=Same.new (o:=.lst (List.map V.str G)) h3;have O:upd I l3 (.lst (List.map V.str G)) l3=some (.lst (List.map V.str G)):=ah;have m:=s3 _ _ m;have e2:=s3 _ _ e2;have W:=a6.trans s3;generalize upd I l3 (.lst (List.map V.str G))=H3 at W m e2 O ⊢;have a1:atI (List.map V.str (Y::G)) 0=some (.str Y):=aN (j:=0) rfl;have b2:¬ (Y="things"/\Gn G)->∀H4,Same H H4->∀m,H4 m=none->dw K "line" [.ref m,.int 0] (upd H4 m (bN m C none)) (λv I=>v=.non/\∃dd,I m=some (bN m C dd)/\E (.ref C) dd (del I m)) E0:=λn H4 s4 m c5=>dZ Z c5 λd H5 s5 a2 a3=>k 0 d H5 ⟨Nat.zero_lt_succ _,.inl rfl,λ⟨ss,g1,g2,_⟩=>by
   rw[ew] at g1;obtain⟨p1,p2⟩:=List.cons.inj g1;rw[<- p2] at g2;exact n ⟨p1,g2⟩⟩ (s4.trans s5) (cO s4 a2) a3
  refine⟨_,rfl,.lst (.of e2) a1 (.sc rfl ⟨_,rfl,aw (λh=>?_) (λh=>?_)⟩)⟩
  ·show (if true=true then _ else _);rw[if_pos rfl];refine⟨(by show 1<=sizeLine;decide),λe4 c2=>b2 (λz=>?_) _ W e4 c2⟩;rw[z.1] at h;revert h;show ¬ (!decide (V.str "things"=V.str "things"))=true;rw[ug rfl];decide
  have b3:Y="things":=by
   have:decide (V.str Y=V.str "things")=true:=by simpa using h
   exact V.str.inj (ux this)
  rw[uv] at b0;refine⟨_,rfl,l3,G,rfl,O,by omega,λs hs=>by have:=a7 s (ur _ hs);omega,λH4 s4=>⟨_,rfl,aw (λh=>?_) (λh=>?_)⟩⟩
  ·refine⟨(by show 1<=sizeLine;decide),λe5 c0=>b2 (λz=>?_) _ (W.trans s4) e5 c0⟩;rw[dN z.2] at h;cases h
  have gn:Gn G:=dec_iff.mp (by simpa using h);have b9:=W.trans s4;have m:=s4 _ _ m;have O:=s4 _ _ O;refine⟨_,rfl,_,rfl,.lst (.of m) λl5 h5=>?_⟩;rw[show dk (List.map V.str (hd_::r)) (some 1) none=List.map V.str r from fJ ..];have s5:=Same.new (o:=.lst (List.map V.str r)) h5;have e5:upd H4 l5 (.lst (List.map V.str r)) l5=some (.lst (List.map V.str r)):=ah;have O:=s5 _ _ O;have b5:=b9.trans s5;generalize upd H4 l5 (.lst (List.map V.str r))=H5 at b5 O e5 ⊢;rw[uv] at c4;refine⟨l5,rfl,⟨_,.of e5⟩,?_⟩;refine cr (List.map V.str r) (λD i b U H'=>∃o,U=[o]/\TV H' b ((r.take i).map aX)/\Same H5 H'/\H5 D=none) λD hD=>⟨?_,?_,?_,?_⟩
  ·exact⟨none,rfl,⟨rfl,λi y o h=>by cases h⟩,Same.new hD,hD⟩
  ·rintro i b U H' _ ⟨o,rfl,_,sm,_⟩ _;exact .of (sm _ _ e5)
  ·rintro i b U H' x hx ⟨o, rfl, T, sm, L⟩ p;obtain⟨ln,a4,rfl⟩:=ck hx;have d2:=(uh.mp a4).1;have b6:ln.length<=8000000:=by have:=b4 ln (ur _ (uN a4));omega
   have al:b.length=i:=by rw[T.1,ub,uM];omega
   have c3:(r.take (i+1)).map aX=(r.take i).map aX++[aX ln]:=by rw[uJ,a4,uk];rfl
   have a5:∀y I, Same H' I -> RO I y (aX ln) -> (∀c, y=.ref c -> c ≠ D) -> TV (upd I D (.lst (b ++ [y]))) (b ++ [y]) ((r.take (i+1)).map aX) := λy I J ro nD => by
    have X:∀y' o',RO I y' o'->(∀c,y'=.ref c->c≠D)->RO (upd I D (.lst (b++[y]))) y' o':=λy' o' h n=>by
     cases o' with
     | none=>exact h
     | some e =>
      obtain⟨ta,q1,q2,q3⟩:=h;exact⟨ta,q1,by rw[aj (n ta q1)];exact q2,q3⟩
    rw[c3];refine⟨by rw[uA,uA,T.1];rfl,λj y' o' hy ho=>?_⟩;by_cases q:j<b.length
    ·rw[vj q] at hy;rw[vj (by rw[<- T.1];exact q)] at ho;have N:=(T.2 j y' o' hy ho).same J;refine X y' o' N λc ec=>?_;intro c6;subst ec;cases o' with
     | none=>have N:V.ref c=V.non:=N;cases N
     | some e =>
      obtain⟨ta,q1,q2,_⟩:=N;cases q1;rw[c6,J _ _ p] at q2;cases q2
    ·rw[vd (by omega)] at hy;rw[vd (by rw[<- T.1];omega),<- T.1] at ho;have j0:j-b.length=0:=by
      have:=(uh.mp hy).1;have:j-b.length<1:=this;omega
     rw[j0] at hy ho;cases hy;cases ho;exact X _ _ ro nD
   refine cJ ?_;refine⟨_,rfl,ln,rfl,b6,λh0 I J=>?_,λe R l I J b1 hl=>?_⟩
   ·refine⟨J _ _ p,di (by omega),_,rfl,a5 _ _ J (by rw[h0];rfl) (λc h=>by cases h),bx (sm.trans J) L,L⟩
   ·have a9:e.1.length <= 8000000 /\ e.2.length <= 8000000 := by
       unfold aX at R;have pt:∀w∈Txt.split ln " ",w.length<=ln.length:=λw hw=>by rw[eW] at hw;exact bY hw
       generalize Txt.split ln " "=q at R pt
       match q,R with
       | [x,y,u],R =>
        have R:(if y=">" then some (x,u) else none)=some e:=R
        split at R
        ·cases R;have:=pt x (by simp);have:=pt u (by simp);exact⟨by show x.length<=_;omega,by show u.length<=_;omega⟩
        ·cases R
    refine⟨J _ _ p,di (by omega),_,rfl,a5 _ _ J (by rw[R];exact⟨l,rfl,hl,a9⟩) (λc h=>by cases h;exact λz=>by rw[z,p] at b1;cases b1),bx (sm.trans J) L,L⟩
  rintro b U H6 ⟨o,rfl,T,s6,L⟩ p;rw[ub,uB (ua _)] at T;have O:=s6 _ _ O;have a8:=b5.trans s6;have ol:(r.map aX).length=r.length:=ub ..;refine⟨_,rfl,_,rfl,l3,D,G,b,r.map aX,rfl,O,gn.2.2,gn.2.1,p,T,λd4 H7 wr s7=>?_⟩;rcases wr with⟨to,rfl⟩ | ⟨i,rfl,hi,c9,t1,t2⟩
  ·exact absurd ⟨G,by rw[ew,b3],gn,to⟩ c1
  ·refine⟨_,rfl,.non ⟨_,rfl,aw (λ_=>?_) (λh=>absurd rfl h)⟩⟩;refine⟨_,rfl,.int ⟨(by show 1<=sizeLine;decide),λe8 b8=>?_⟩⟩;refine dZ Z b8 λd H8 s8 a2 a3=>k (i+1) d H8 ⟨by rw[uv];omega,.inr ?_,?_⟩ ((a8.trans s7).trans s8) (cO (a8.trans s7) a2) a3
   ·rw[vt];exact⟨G,by rw[ew,b3],gn,by rw[vi];exact t1⟩
   ·rw[vt];rintro⟨ss,g1,g2,g3⟩;rw[ew] at g1;obtain⟨p1,p2⟩:=List.cons.inj g1;subst p2;rw[vi] at g3;exact t2 g3
theorem rj (b a:Option Int) (n:Nat):(Builtin.Str.strSliceIndices b a 1 n).length<=n:=by
 unfold Builtin.Str.strSliceIndices sliceRange;cases b <;> cases a <;> simp only[show (1:Int) > 0 by decide,if_true,ub,uT] <;> (try split) <;> (try simp only[Int.ediv_one]) <;> (repeat' split) <;> (try simp only[ub,uT,Int.ediv_one,List.length_nil]) <;> omega
theorem slice_le (z:Str) (b a:Option Int):(Txt.slice z b a).length<=z.length:=by
 unfold Txt.slice;have h:=rj b a z.length
 split
 ·exact ua _
 ·show (List.filterMap _ _).toArray.size<=_;rw[uj];exact uo (List.length_filterMap_le _ _) h
def mV (K:W.Frag):Sp:=λvs H Q _=>∃(p a:Addr),vs=[.ref p]/\Pen K H p a/\∀(z:Str) H',z.length<=1->PenV H' p a->But p H H'->Q (.str z) H'
theorem scSign:FnScope ["_law_pen_here","_law_signs"] ["_law_pen_here"] (ao kP):=⟨rfl,rfl,rfl,by decide +kernel,rfl,by decide +kernel,by decide +kernel⟩
theorem nk {xs:List Nat}{m:Nat}{r:Int}(e:xs.length=m) (b:0<=r) (d:r<m):∃c,atI xs r=some c:=by
 obtain⟨j,rfl⟩:=uH b;have a:j<xs.length:=by omega
 exact⟨xs[j],aN (uy a)⟩
theorem aS {σ:St}{H:Hp}{k:LV->Hp->Prop}(h:k [] H):dR σ H k:=h
theorem aY {H H':Hp}{p a:Addr}(s:Same H H') (v:PenV H p a):PenV H' p a:=by
 obtain⟨i,n,b,r⟩:=v;exact⟨i,n,s _ _ b,r⟩
theorem gJ {xs:LV}{m:Nat}{r:Int}(d:xs.length=m) (b:0<=r) (c:r<m):∃x,atI xs r=some x/\x∈xs:=by
 obtain⟨j,rfl⟩:=uH b;have a:j<xs.length:=by omega
 exact⟨xs[j],aN (uy a),uV a⟩
theorem pN {f:Addr}{fd:FuncData}(F:Fun K "_law_sign" "_law_sign" kP f fd) (B:Blt mg) (b:Cal P w K mg base 1 "_law_draw" ["_law_pen_here", "_law_most"] (cV K)):FnOk P w K mg base CX0 2 f fd ["_law_pen_here"] (mV K) := by
 refine F.ok scSign (λvs H Q E h=>?_) (λS A q s H vs Q E c h=>?_)
 ·obtain⟨p,a,rfl,_⟩:=h
  rfl
 ·obtain⟨p,a,rfl,j,k⟩:=h;have J:=scSign.nd;refine⟨_,(af (aq (i:=1) J rfl (Or.inl rfl) ar)
   (ai (av (aB (aG K c.units) (aZ (ac (aB (aG K c.units) (pv 1) (am b (c.mono (by decide)) rfl (ac (pv 0) (ac ag ae))) (λ_ _=>rfl)) (ac (aB (aG K c.units) ar (am b (c.mono (by decide)) rfl (ac (pv 0) (ac ag ae))) (λ_ _=>rfl)) ae))) (am b (c.mono (by decide)) rfl (ac (pv 0) (ac ag ae))) (λ_ _=>rfl))))),?_⟩
  refine⟨_,rfl,_,rfl,p,a,95,rfl,j,by decide,by decide,λr1 I V Y v1 e1=>?_⟩;have D:But p H I:=But.of_eq e1;obtain ⟨e,L⟩:=nk (m:=95) (xs:=(" !\"#$&'()*+,-./0123456789:;<=>?@ABCDEFGHIJKLMNOPQRSTUVWXYZ[\\]^_`abcdefghijklmnopqrstuvwxyz{|}~\n" : Str).cps.toList) (by decide +kernel) V Y;refine .str (by decide +kernel) L ?_;refine⟨_,rfl,p,a,4,rfl,j.but D v1,by decide,by decide,λr2 u M g v W=>?_⟩;have N:=D.trans (But.of_eq W);obtain⟨d,R⟩:=nk (m:=4) (xs:=(" \n>a":Str).cps.toList) (by decide +kernel) M g;refine .str (by decide +kernel) R ?_;refine aS ⟨(by show 2<=sizeLine;decide),λl z=>?_⟩;have n:=Same.new (o:=.lst [.str ⟨#[e]⟩,.str ⟨#[d]⟩]) z;have r:upd u l (.lst [.str ⟨#[e]⟩,.str ⟨#[d]⟩]) l=some (.lst [.str ⟨#[e]⟩,.str ⟨#[d]⟩]):=ah;have Z:l≠p:=Ne.symm (v.ne z);generalize upd u l (.lst [.str ⟨#[e]⟩,.str ⟨#[d]⟩])=H3 at n r ⊢;have T:=aY n v;have G:=N.trans (But.of_same n);refine⟨_,rfl,p,a,2,rfl,j.but G T,by decide,by decide,λr4 H4 O X C t=>?_⟩;obtain⟨x,U,mx⟩:=gJ (m:=2) (xs:=[.str ⟨#[e]⟩,.str ⟨#[d]⟩]) rfl O X;have y:=G.trans (But.of_eq t);refine .lst (.of ((t l Z).trans r)) U ?_;rcases uf.mp mx with rfl | mx
  ·exact k _ _ (ua 1) C y
  ·rw[uE.mp mx];exact k _ _ (ua 1) C y
def bf (ys:LS):Nat:=(ys.map (·.length)).sum
theorem bj (x:Str) (r:LS):bf (x::r)=x.length+bf r:=rfl
theorem jj (c:Nat):∀ {ws:LS},ws≠[]->(Str.join (SP.one c) ws).length+1=bf ws+ws.length
 | [],h=>absurd rfl h
 | [x],_=>by rw[iC,bj];show x.length+1=x.length+0+1;omega
 | x::y::r,_=>by
  have:=jj c (ws:=y::r) (by simp);rw[eH,bj,uv];omega
theorem iq:z.length+1=bf (Txt.split z (SP.one c))+(Txt.split z (SP.one c)).length:=by
 rw[<- jj c (SP.split_ne _ _),StrLaws.join_split]
theorem gR:∀(ws:LS) (i:Nat) (w:Str),bf (ws.set i w)<=bf ws+w.length
 | [],i,w=>by cases i <;> exact uu _
 | x::r,0,w=>by rw[List.set_cons_zero,bj,bj];omega
 | x::r,i+1,w=>by
  rw[List.set_cons_succ,bj,bj];have:=gR r i w;omega
theorem dy (ws:LS) (i:Nat) (w:Str):(List.map V.str ws).set i (.str w)=List.map V.str (ws.set i w):=by rw[List.map_set]
theorem ci (h:D.nx σ H):ph D σ H:=h
theorem ku (Inv:SH) (b:∀σ' H',Inv σ' H'->r D σ' H') (a:∀N:SH,(∀σ' H',Inv σ' H'->N σ' H')->s { D with nx:=N } σ H):nG s r D σ H:=a _ b
theorem gZ (K:W.Frag) (he:PE X e ta) (a:attributeBase e f X.env (eval e X.env)=eval e X.env) (b:X.K=K:=by rfl):PE X (.Attribute e f pos) (pa K ta f):=by
 subst b;exact pH he a
theorem oG (h:aX l=some e):l=bn e := by
 have a:Txt.split l " "=[e.1, ">", e.2] := by
  unfold aX at h;generalize Txt.split l " "=q at h
  match q,h with
  | [x,y,u],h =>
   have h:(if y=">" then some (x,u) else none)=some e:=h
   split at h
   ·rename_i hy
    cases h;rw[hy]
   ·cases h
 rw[gs,<- a,eW,StrLaws.join_split]
theorem oo (h:Nm e.1/\Nm e.2):aX (bn e)=some e:=by
 unfold aX;rw[gx h];show (if (">":Str)=">" then some (e.1,e.2) else none)=some e;rw[if_pos rfl]
structure GW7 (z:Str) (ss:LS) (ts:List (Str × Str)):Prop where
 eq:z=dH ss ts
 gn:Gn ss
 nd:ts.Nodup
 few:ts.length<=400
 inn:∀e∈ts,e.1∈ss/\e.2∈ss
theorem GW7.nm (h:GW7 z G i):∀e∈i,Nm e.1/\Nm e.2:=λe a=>⟨h.gn.2.1 _ (h.inn e a).1,h.gn.2.1 _ (h.inn e a).2⟩
theorem gG:∀ {r:LS}{ts:List (Str × Str)},r.map aX=ts.map some->r=ts.map bn
 | [],[],_=>rfl
 | [],_::_,h=>by cases h
 | _::_,[],h=>by cases h
 | l::r,e::ts,h=>by
  obtain⟨h1,h2⟩:=List.cons.inj h;rw[uG,oG h1,gG h2]
theorem nK (h:GW7 z i G):cS (Txt.split z "\n"):=by
 rw[h.eq,hH h.gn.2.1 h.nm];refine⟨i,gL h.gn.2.1,h.gn,G,?_,h.nd,h.few,h.inn⟩;rw[u6];exact List.map_congr_left λe a=>oo (h.nm e a)
theorem iJ {ls:LS}{m n:Nat}(p:1<=m) (b:m<=n) (h:cS (ls.take n)):cS (ls.take m):=by
 cases ls with
 | nil=>rw[List.take_nil] at h;exact h.elim
 | cons hd r =>
  obtain⟨m,rfl⟩:∃k,m=k+1:=⟨m-1,by omega⟩
  obtain⟨n,rfl⟩:∃k,n=k+1:=⟨n-1,by omega⟩
  rw[vt] at h ⊢;obtain⟨c,g,d,f,a,i,o,j⟩:=h;refine⟨c,g,d,f.take m,?_,i.sublist (List.take_sublist ..),by rw[uM];omega,λe l=>j e (List.mem_of_mem_take l)⟩;rw[vi,vi] at *;rw[<- a,List.take_take,Nat.min_eq_left (by omega)]
theorem sum_append (a b:LS):bf (a++b)=bf a+bf b:=by unfold bf;rw[uk,List.sum_append]
theorem hU (l:LS) (i:Nat):bf (l.eraseIdx i) <= bf l := by
 rw[vC,sum_append];have h:=congrArg bf (List.take_append_drop i l);rw[sum_append] at h;have a:bf (l.drop (i+1))<=bf (l.drop i):=by
  cases c:l.drop i with
  | nil=>rw[<- List.drop_drop,c];exact ua _
  | cons x r =>
   rw[<- List.drop_drop,c];show bf r<=_;rw[bj];omega
 omega
theorem kH (l:LS) (k:Nat) (x:Str):bf (l.take k++x::l.drop k)=bf l+x.length:=by
 rw[sum_append,bj];have h:=congrArg bf (List.take_append_drop k l);rw[sum_append] at h;omega
theorem jY (l:List α) (k:Nat) (x:α):(l.take k++x::l.drop k).length=l.length+1:=by
 have h:=congrArg List.length (List.take_append_drop k l);rw[uA] at h;rw[uA,uv];omega
theorem kC (l:LS) (k:Nat) (x:Str):(List.map V.str l).take k++V.str x::(List.map V.str l).drop k=List.map V.str (l.take k++x::l.drop k):=by
 rw[uk,uG,vi,List.map_drop]
theorem ip (l:LS) (k:Nat):(List.map V.str l).eraseIdx k=List.map V.str (l.eraseIdx k):=by
 rw[vC,vC,uk,vi,List.map_drop]
theorem eQ:∀(l:LS) (i:Nat) (w x:Str),l[i]? = some x->bf (l.set i w)+x.length=bf l+w.length
 | [],i,w,x,h=>by simp at h
 | y::r,0,w,x,h=>by
  have h:y=x:=by simpa using h
  rw[List.set_cons_zero,bj,bj,h];omega
 | y::r,i+1,w,x,h=>by
  rw[List.set_cons_succ,bj,bj];have:=eQ r i w x (by simpa using h);omega
theorem join_le (l:LS):(Txt.join "\n" l).length<=bf l+l.length:=by
 have h:=de "\n" l;have a:("\n":Str).length=1:=by decide +kernel
 rw[a] at h;show _<=(l.map (·.length)).sum+_;omega
theorem ixn (ws:LS) (j:Nat) (h:j<ws.length):ixN (List.map V.str ws).length (j:Int)=some j:=by
 unfold ixN;rw[if_pos (by omega),if_pos (by rw[ub];omega),vk]
def jZ (K:W.Frag):Sp:=λvs H Q _=>∃(p a:Addr) (z:Str),vs=[.ref p,.str z]/\Pen K H p a/\z.length<=2200000/\∀(z':Str) H',z'.length<=2 * z.length+20->PenV H' p a->But p H H'->Q (.str z') H'
theorem scBentL:FnScope ["_law_pen_here","_law_line","_law_words","_law_at","_law_kind"] ["_law_pen_here","_law_line"] (ao ff):=⟨rfl,rfl,rfl,by decide +kernel,rfl,by decide +kernel,by decide +kernel⟩
theorem oj (F:Fun K "_law_bent_line" "_law_bent_line" ff f fd) (B:Blt mg) (b:Cal P w K mg base 1 "_law_draw" ["_law_pen_here", "_law_most"] (cV K)):FnOk P w K mg base CX0 2 f fd ["_law_pen_here", "_law_line"] (jZ K) := by
 refine F.ok scBentL (λvs H Q E h=>?_) (λa8 A a4 s H vs Q E d h=>?_)
 ·obtain⟨p,a,z,rfl,_⟩:=h
  rfl
 ·obtain⟨p,a,z,rfl,S,hz,k⟩:=h;have nd:=scBentL.nd;have v0:=S.2;have b0:8000002<=sizeLine:=by decide
  refine⟨_,(af (aq (i:=2) nd rfl (Or.inl rfl) (bz K (pv 1) (ac ar ae)))
   (af (aq (i:=3) nd rfl (Or.inl rfl) (am b (d.mono (by decide)) rfl (ac (pv 0) (ac (bb K B (ac (pv 2) ae)) ae))))
   (af (aq (i:=4) nd rfl (Or.inl rfl) (am b (d.mono (by decide)) rfl (ac (pv 0) (ac ag ae))))
   (af (aD (au (aW d.units) (pv 4) ag (ax _)) (ai (av (aB (aG K d.units) (aZ (pO (i:=1) rfl (Or.inl rfl))) (am b (d.mono (by decide)) rfl (ac (pv 0) (ac ag ae))) (λ_ _=>rfl)))) ay)
   (af (aD (au (aW d.units) (pv 4) ag (ax _)) (ai (av (aB (aG K d.units) (aZ (ac ar (ac ar (ac ar (ac ar (ac ar (ac ar (ac ar (ac ar ae aF) aF) aF) aF) aF) aF) aF) aF)) (am b (d.mono (by decide)) rfl (ac (pv 0) (ac ag ae))) (λ_ _=>rfl)))) ay)
   (af (aD (au (aW d.units) (pv 4) ag (ax _)) (ai (cg (aB (aG K d.units) (aZ (ac ar (ac ar (ac ar (ac ar (ac ar (ac ar (ac ar (ac ar ae aF) aF) aF) aF) aF) aF) aF) aF)) (am b (d.mono (by decide)) rfl (ac (pv 0) (ac ag ae))) (λ_ _=>rfl)) (bT (pv 2) (pv 3) (cB d.units)))) (ai (aD (au (aW d.units) (pv 4) ag (ax _)) (ai (cm (pC K (pv 2) (ac (pv 3) ae)))) (ai (aD (au (aW d.units) (pv 4) ag (ax _)) (ai (cm (iM K (pv 2) (ac (pv 3) (ac (aB (aG K d.units) (pv 2) (am b (d.mono (by decide)) rfl (ac (pv 0) (ac (bb K B (ac (pv 2) ae)) ae))) (λ_ _=>rfl)) ae))))) (ai (aD (au (aW d.units) (pv 4) ag (ax _)) (ai (cg (aA aJ (aB (aG K d.units) (pv 2) (pv 3) (λ_ _=>rfl)) ar) (bT (pv 2) (pv 3) (cB d.units)))) (ai (cm (md K (pv 2)))))))))))
   (ai (av (fm K ar (ac (pv 2) ae)))))))))),?_⟩
  refine⟨_,rfl,rfl,_,_,rfl,rfl,by decide,by omega,λy R=>?_⟩;have a9:z.length+1=bf (Txt.split z " ")+(Txt.split z " ").length:=by rw[eW];exact iq
  have a5:Txt.split z " "≠[]:=SP.split_ne _ _;have Y:∀w∈Txt.split z " ",w.length<=z.length:=λw hw=>by rw[eW] at hw;exact bY hw
  have C:=R;have e:y≠p:=Ne.symm (v0.ne R);refine nw R λH1 s1 e1=>?_;have v1:=aY s1 v0;have b1:But p H H1:=But.of_same s1;generalize Txt.split z " "=c at *;have n:(List.map V.str c).length=c.length:=ub ..;have a6:0<c.length:=List.length_pos_iff.mpr a5;refine⟨_,rfl,_,rfl,_,_,rfl,Or.inl ⟨_,.of e1,rfl⟩,aS ⟨p,a,_,rfl,S.but b1 v1,by rw[n];omega,by rw[n];omega,λa7 H2 a0 a1 v2 e2=>?_⟩⟩;have b2:=b1.trans (But.of_eq e2);have w2:=(e2 y e).trans e1;obtain⟨o,rfl⟩:=uH a0;have q:o<c.length:=by rw[n] at a1;omega
  refine⟨_,rfl,p,a,7,rfl,S.but b2 v2,by decide,by decide,λkd H3 k0 k1 G e3=>?_⟩;have O:=b2.trans (But.of_eq e3);have D:=(e3 y e).trans w2;clear e1 e2 e3 a0 a1 v1 v2 b1 b2 w2 s1;refine⟨_,rfl,.sc rfl ⟨_,rfl,aw (λ_=>?_) (λ_=>ci ?_)⟩⟩
  ·refine⟨z,rfl,by omega,λz3 h3=>⟨(by show 3<=sizeLine;decide),λl L=>?_⟩⟩;have nl:l≠p:=Ne.symm (G.ne L);refine nw L λH4 M X=>?_;have v4:=aY M G;have N:=O.trans (But.of_same M);refine⟨_,rfl,p,a,3,rfl,S.but N v4,by decide,by decide,λr5 H5 W Z I r=>?_⟩;obtain⟨x,hx,mx⟩:=gJ (m:=3) (xs:=[.str (" "++z),.str (z++" "),.str z3]) rfl W Z;have T:=N.trans (But.of_eq r);refine .lst (.of ((r l nl).trans X)) hx ?_;have u:(" ":Str).length=1:=by decide +kernel
   simp only[uf,List.not_mem_nil,or_false] at mx;rcases mx with rfl | rfl | rfl
   ·exact k _ _ (by rw[aI,u];omega) I T
   ·exact k _ _ (by rw[aI,u];omega) I T
   ·exact k _ _ (by omega) I T
  have u:(" ":Str).length=1:=by decide +kernel
  have t:∀(xs:LS),xs.length=8->(∀s∈xs,s.length<=10)->∀(j:Nat),j<8->∃nw:Str,atI (List.map V.str xs) (j:Int)=some (.str nw)/\nw.length<=10:=λxs L hs j hj=>⟨xs[j],aN (by rw[uC,uy (by omega)];rfl),hs _ (uV _)⟩
  refine⟨_,rfl,.sc rfl ⟨_,rfl,aw (λ_=>?_) (λ_=>ci ?_)⟩⟩
  ·refine⟨(by show 8<=sizeLine;decide),λl L=>?_⟩;have nl:l≠p:=Ne.symm (G.ne L);refine nw L λH4 M X=>?_;have v4:=aY M G;have N:=O.trans (But.of_same M);refine⟨_,rfl,p,a,8,rfl,S.but N v4,by decide,by decide,λr5 H5 W Z I r=>?_⟩;obtain⟨U,rfl⟩:=uH W;obtain⟨nw,hx,hn⟩:=t ["",">","things","a > a","> a","a >","a b","a > b > a"] rfl (by decide +kernel) U (by omega);refine .lst (.of ((r l nl).trans X)) hx ?_;exact k _ _ (by omega) I (N.trans (But.of_eq r))
  apply hJ (J:=λσ HZ=>∃g:LS,σ=[some (.ref p),some (.str z),some (.ref y),some (.int (o:Int)),some (.int kd)]/\HZ y=some (.lst (List.map V.str g))/\bf g+g.length<=2 * z.length+13/\PenV HZ p a/\But p H HZ)
  ·intro aQ;refine⟨_,rfl,.sc rfl ⟨_,rfl,aw (λ_=>?_) (λ_=>?_)⟩⟩
   ·refine⟨(by show 8<=sizeLine;decide),λl L=>?_⟩;have nl:l≠p:=Ne.symm (G.ne L);refine nw L λH4 M X=>?_;have v4:=aY M G;have N:=O.trans (But.of_same M);have w4:=M _ _ D;refine⟨_,rfl,p,a,8,rfl,S.but N v4,by decide,by decide,λr5 H5 W Z I r=>?_⟩;obtain⟨U,rfl⟩:=uH W;obtain⟨nw,hx,hn⟩:=t ["","abcdefghi","A","a1","-","things",">","zzzzzzzz"] rfl (by decide +kernel) U (by omega);refine .lst (.of ((r l nl).trans X)) hx ?_;have w5:=(r y e).trans w4;have T:=N.trans (But.of_eq r);refine⟨_,rfl,_,rfl,.lst (j:=o) w5 (ixn c o q) ?_⟩;rw[dy];have q1:=gR c o nw;exact aQ _ _ ⟨_,rfl,ah,by rw[u8];omega,I.upd (Ne.symm e),T.at C⟩
   refine⟨_,rfl,.sc rfl ⟨_,rfl,aw (λ_=>?_) (λ_=>?_)⟩⟩
   ·refine⟨_,rfl,.inl ⟨rfl,_,.of D⟩,_,rfl,aS ⟨y,_,_,o,_,rfl,rfl,D,by omega,by omega,(fG (ixn c o q)).1,by rw[uC,uy q];rfl,?_⟩⟩;rw[ip];have q1:=hU c o;have q2:(c.eraseIdx o).length<=c.length:=List.length_eraseIdx_le ..;dsimp only;exact aQ _ _ ⟨_,rfl,ah,by omega,G.upd (Ne.symm e),O.at C⟩
   refine⟨_,rfl,.sc rfl ⟨_,rfl,aw (λ_=>?_) (λ_=>?_)⟩⟩
   ·refine⟨_,rfl,.inl ⟨rfl,_,.of D⟩,_,rfl,_,rfl,_,rfl,_,rfl,_,_,rfl,Or.inl ⟨_,.of D,rfl⟩,aS ⟨p,a,_,rfl,S.but O G,by rw[n];omega,by rw[n];omega,λr5 H5 W Z I r=>?_⟩⟩;obtain⟨U,rfl⟩:=uH W;have a2:U<c.length:=by rw[n] at Z;omega
    have w5:=(r y e).trans D;have T:=O.trans (But.of_eq r);have n5:=Y _ (uV a2);refine .lst (.of w5) (v:=.str c[U]) (aN (by rw[uC,uy a2];rfl)) ?_;generalize c[U]=nw at n5;refine aS ⟨y,_,_,o,_,rfl,rfl,rfl,w5,by rw[n];omega,by rw[n];omega,?_⟩;rw[kC];dsimp only;exact aQ _ _ ⟨_,rfl,ah,by rw[kH,jY];omega,I.upd (Ne.symm e),T.at C⟩
   refine⟨_,rfl,.sc rfl ⟨_,rfl,aw (λ_=>?_) (λ_=>?_)⟩⟩
   ·have n5:=Y _ (uV q);refine⟨_,rfl,_,rfl,.lst (.of D) (v:=.str c[o]) (aN (by rw[uC,uy q];rfl)) ?_⟩;generalize c[o]=nw at n5;have l1:("a":Str).length=1:=by decide +kernel
    refine .str (by rw[l1];omega) ⟨_,rfl,_,rfl,.lst (j:=o) D (ixn c o q) ?_⟩;rw[dy];have q1:=gR c o (nw++"a");rw[aI,l1] at q1;exact aQ _ _ ⟨_,rfl,ah,by rw[u8];omega,G.upd (Ne.symm e),O.at C⟩
   ·refine⟨_,rfl,.inl ⟨rfl,_,.of D⟩,y,_,rfl,rfl,D,?_⟩;rw[<- List.map_reverse];have q1:bf c.reverse=bf c:=by unfold bf;rw[List.map_reverse,List.sum_reverse]
    have q2:c.reverse.length=c.length:=List.length_reverse ..;dsimp only;exact aQ _ _ ⟨_,rfl,ah,by omega,G.upd (Ne.symm e),O.at C⟩
  ·rintro σ H9 ⟨g,rfl,a3,bd,v9,b9⟩;have jl:=de " " g;have q6:(g.map (·.length)).sum=bf g:=rfl;rw[q6,u] at jl;refine⟨rfl,_,rfl,aS ⟨" ",y,g,rfl,rfl,a3,?_,k _ _ (by omega) v9 b9⟩⟩;rw[q6,u];omega
def mO (K:W.Frag):Sp:=λvs H Q _=>∃(p a:Addr) (z:Str),vs=[.ref p,.str z]/\Pen K H p a/\z.length<=2200000/\∀(z':Str) H',z'.length<=2 * z.length+30->PenV H' p a->But p H H'->Q (.str z') H'
theorem scBent:FnScope ["_law_pen_here","_law_text_here","_law_kind","_law_at","_law_new","_law_lines","_law_one","_law_other"] ["_law_pen_here","_law_text_here"] (ao kM):=⟨rfl,rfl,rfl,by decide +kernel,rfl,by decide +kernel,by decide +kernel⟩
theorem qg (F:Fun K "_law_bent" "_law_bent" kM f fd) (B:Blt mg) (b:Cal P w K mg base 1 "_law_draw" ["_law_pen_here", "_law_most"] (cV K)) (e:Cal P w K mg base 2 "_law_sign" ["_law_pen_here"] (mV K)) (d:Cal P w K mg base 2 "_law_bent_line" ["_law_pen_here", "_law_line"] (jZ K)):FnOk P w K mg base CX0 3 f fd ["_law_pen_here", "_law_text_here"] (mO K) := by
 refine F.ok scBent (λvs H Q E h=>?_) (λc0 A a9 s H vs Q E v h=>?_)
 ·obtain⟨p,a,z,rfl,_⟩:=h
  rfl
 ·obtain⟨p, a, z, rfl, R, hz, k⟩ := h;have Y:=scBent.nd;have c4:8000002<=sizeLine:=by decide
  refine⟨_,(af (aq (i:=2) Y rfl (Or.inl rfl) (am b (v.mono (by decide)) rfl (ac (pv 0) (ac ag ae))))
   (af (aq (i:=3) Y rfl (Or.inl rfl) (am b (v.mono (by decide)) rfl (ac (pv 0) (ac (aA aJ (bb K B (ac (pv 1) ae)) ag) ae))))
   (af (aD (au cG (pv 2) ag (ax _)) (af (aq (i:=4) Y rfl (Or.inl rfl) (aB (aG K v.units) (aZ (ac (am e (v.mono (by decide)) rfl (ac (pv 0) ae)) (ac ar (ac (am e (v.mono (by decide)) rfl (ac (pv 0) ae)) ae)))) (pv 2) (λ_ _=>rfl)))
   (ai (av (aA aJ (aA aJ (bp (cX K) (pv 1) bS (br (pv 3))) (pv 4)) (bp (cX K) (pv 1) (br (aA aJ (pv 3) (pw B (ac (bV eS (pv 2) ag (ax _)) ae)))) bS))))) ay)
   (af (aq (i:=5) Y rfl (Or.inl rfl) (bz K (pv 1) (ac ar ae)))
   (af (aq (i:=6) Y rfl (Or.inl rfl) (am b (v.mono (by decide)) rfl (ac (pv 0) (ac (bb K B (ac (pv 5) ae)) ae))))
   (af (aq (i:=7) Y rfl (Or.inl rfl) (am b (v.mono (by decide)) rfl (ac (pv 0) (ac (bb K B (ac (pv 5) ae)) ae))))
   (af (aD (au (aW v.units) (pv 2) ag (ax _)) (ai (cm (pC K (pv 5) (ac (pv 6) ae)))) (ai (aD (au (aW v.units) (pv 2) ag (ax _)) (ai (cm (iM K (pv 5) (ac (pv 7) (ac (aB (aG K v.units) (pv 5) (pv 6) (λ_ _=>rfl)) ae))))) (ai (aD (au (aW v.units) (pv 2) ag (ax _)) (ai (cg (bc (ac (aB (aG K v.units) (pv 5) (pv 7) (λ_ _=>rfl)) (ac (aB (aG K v.units) (pv 5) (pv 6) (λ_ _=>rfl)) ae))) (cN (n:=2) K rfl (ba (bT (pv 5) (pv 6) (cB v.units)) (ba (bT (pv 5) (pv 7) (cB v.units)) cL))))) (ai (cg (am d (v.mono (by decide)) rfl (ac (pv 0) (ac (aB (aG K v.units) (pv 5) (pv 6) (λ_ _=>rfl)) ae))) (bT (pv 5) (pv 6) (cB v.units)))))))))
   (ai (av (fm K ar (ac (pv 5) ae))))))))))),?_⟩
  refine⟨_,rfl,p,a,8,rfl,R,by decide,by decide,λkd H1 k0 k1 v1 e1=>?_⟩;have b1:But p H H1:=But.of_eq e1;refine⟨_,rfl,_,rfl,_,_,rfl,⟨by omega,rfl⟩,.int (aS ⟨p,a,_,rfl,R.but b1 v1,by omega,by omega,λb7 H2 a0 a1 v2 e2=>?_⟩)⟩;have b2:=b1.trans (But.of_eq e2);obtain⟨ja,rfl⟩:=uH a0;refine⟨_,rfl,.int ⟨_,rfl,aw (λh3=>?_) (λ_=>?_)⟩⟩
  ·have h3:kd<3:=ux h3;refine⟨_,rfl,aS ⟨p,a,rfl,R.but b2 v2,λZ H3 l1 v3 W=>?_⟩⟩;refine⟨_,rfl,aS ⟨p,a,rfl,R.but (b2.trans W) v3,λX H4 l2 v4 b4=>aS ⟨(by show 3<=sizeLine;decide),λl O=>?_⟩⟩⟩;have s5:=Same.new (o:=.lst [.str Z,.str "",.str X]) O;have U:upd H4 l (.lst [.str Z,.str "",.str X]) l=some (.lst [.str Z,.str "",.str X]):=ah;generalize upd H4 l (.lst [.str Z,.str "",.str X])=H5 at s5 U ⊢;obtain⟨x,hx,mx⟩:=gJ (m:=3) (xs:=[.str Z,.str "",.str X]) rfl k0 h3;obtain⟨nw,rfl,nl⟩:∃nw:Str,x=.str nw/\nw.length<=1:=by
    simp only[uf,List.not_mem_nil,or_false] at mx;rcases mx with rfl | rfl | rfl
    ·exact⟨Z,rfl,l1⟩
    ·exact⟨"",rfl,by decide⟩
    ·exact⟨X,rfl,l2⟩
   refine⟨_,rfl,.lst (.of U) hx ?_⟩;have c1:=slice_le z none (some (ja:Int));have sl:(Txt.slice z none (some (ja:Int))++nw).length<=z.length+1:=by rw[aI];omega
   refine⟨_,rfl,_,rfl,_,rfl,.str (by omega) ⟨_,rfl,.str (by rw[<- aI];omega) ⟨_,rfl,_,rfl,_,rfl,_,_,rfl,rfl,aS ⟨_,rfl,.bl (.int ⟨_,rfl,.str (by omega) ?_⟩)⟩⟩⟩⟩;generalize (some ((ja:Int)+if decide (0<kd)=true then 1 else 0))=lo;have c2:=slice_le z lo none;refine .str (by omega) (k _ H5 (by rw[aI];omega) (aY s5 v4) (((b2.trans W).trans b4).trans (But.of_same s5)))
  refine⟨_,rfl,rfl,_,_,rfl,rfl,by decide,by omega,λl O=>?_⟩;have c3:z.length+1=bf (Txt.split z "\n")+(Txt.split z "\n").length:=by rw[dY];exact iq
  have a3:∀l∈Txt.split z "\n",l.length<=z.length:=λl O=>by rw[dY] at O;exact bY O
  have a6:Txt.split z "\n"≠[]:=SP.split_ne _ _;have u:l≠p:=Ne.symm (v2.ne O);have I:H l=none:=b2.free u O;refine nw O λH3 s3 e3=>?_;generalize Txt.split z "\n"=c at *;have v3:=aY s3 v2;have W:=b2.trans (But.of_same s3);have b0:0<c.length:=List.length_pos_iff.mpr a6;have C:(List.map V.str c).length=c.length:=ub ..;refine⟨_,rfl,_,rfl,_,_,rfl,Or.inl ⟨_,.of e3,rfl⟩,aS ⟨p,a,_,rfl,R.but W v3,by rw[C];omega,by rw[C];omega,λone H4 o0 o1 v4 e4=>?_⟩⟩;have S:=(e4 l u).trans e3;have b4:=W.trans (But.of_eq e4);refine⟨_,rfl,_,rfl,_,_,rfl,Or.inl ⟨_,.of S,rfl⟩,aS ⟨p,a,_,rfl,R.but b4 v4,by rw[C];omega,by rw[C];omega,λa5 H5 p0 p1 v5 U=>?_⟩⟩;have r:=(U l u).trans S;have b5:=b4.trans (But.of_eq U);obtain⟨g,rfl⟩:=uH o0;obtain⟨G,rfl⟩:=uH p0;have D:g<c.length:=by rw[C] at o1;omega
  have M:G<c.length:=by rw[C] at p1;omega
  have N:atI (List.map V.str c) ((g:Nat):Int)=some (.str c[g]):=aN (by rw[uC,uy D];rfl);have a2:atI (List.map V.str c) ((G:Nat):Int)=some (.str c[G]):=aN (by rw[uC,uy M];rfl);have n1:=a3 _ (uV D);have L:c[g]? = some c[g]:=uy D;have a4:c[G]? = some c[G]:=uy M;have n2:=a3 _ (uV M);generalize c[g]=x1 at N n1 L;generalize c[G]=T at a2 n2 a4;clear e4 U e3 S o0 o1 p0 p1 v3 v4 W b4 s3 k0 k1 e1 e2 a1 a0;have a8:("\n":Str).length=1:=by decide +kernel
  apply hJ (J:=λσ HZ=>∃y:LS,σ=[some (.ref p),some (.str z),some (.int kd),some (.int (ja:Int)),none,some (.ref l),some (.int (g:Int)),some (.int (G:Int))]/\HZ l=some (.lst (List.map V.str y))/\bf y+y.length<=2 * z.length+25/\PenV HZ p a/\But p H HZ)
  ·intro aQ;refine⟨_,rfl,.sc rfl ⟨_,rfl,aw (λ_=>?_) (λ_=>?_)⟩⟩
   ·refine⟨_,rfl,.inl ⟨rfl,_,.of r⟩,_,rfl,aS ⟨l,_,_,g,_,rfl,rfl,r,by omega,by omega,(fG (ixn c g D)).1,by rw[uC,L];rfl,?_⟩⟩;rw[ip];have q1:=hU c g;have q2:(c.eraseIdx g).length<=c.length:=List.length_eraseIdx_le ..;dsimp only;exact aQ _ _ ⟨_,rfl,ah,by omega,v5.upd (Ne.symm u),b5.at I⟩
   refine⟨_,rfl,.sc rfl ⟨_,rfl,aw (λ_=>?_) (λ_=>?_)⟩⟩
   ·refine⟨_,rfl,.inl ⟨rfl,_,.of r⟩,_,rfl,_,rfl,_,rfl,.lst (.of r) N (aS ⟨l,_,_,G,_,rfl,rfl,rfl,r,by rw[C];omega,by rw[C];omega,?_⟩)⟩;rw[kC];dsimp only;exact aQ _ _ ⟨_,rfl,ah,by rw[kH,jY];omega,v5.upd (Ne.symm u),b5.at I⟩
   refine⟨_,rfl,.sc rfl ⟨_,rfl,aw (λ_=>?_) (λ_=>?_)⟩⟩
   ·refine⟨_,rfl,_,rfl,.lst (.of r) a2 ⟨_,rfl,_,rfl,.lst (.of r) N (aS ⟨(by show 2<=sizeLine;decide),λt ht=>?_⟩)⟩⟩;refine nw ht λH8 s8 e8=>?_;have el:=s8 _ _ r;have v8:=aY s8 v5;have b8:=b5.trans (But.of_same s8);refine⟨t,_,rfl,.of e8,rfl,_,_,rfl,⟨_,rfl,_,rfl,.lst (j:=g) el (ixn c g D) ?_⟩⟩;rw[dy];refine⟨_,_,rfl,⟨_,rfl,_,rfl,.lst (j:=G) ah (ixn (c.set g T) G (by rw[u8];exact M)) ?_⟩⟩;rw[dy];have q1:=eQ c g T x1 L;have g3:(c.set g T)[G]? = some T:=by
     rw[List.getElem?_set];by_cases q:g=G
     ·rw[if_pos q,if_pos D]
     ·rw[if_neg q];exact a4
    have q2:=eQ (c.set g T) G x1 T g3;have q3:((c.set g T).set G x1).length=c.length:=by rw[u8,u8]
    exact⟨rfl,aQ _ _ ⟨_,rfl,ah,by omega,(v8.upd (Ne.symm u)).upd (Ne.symm u),(b8.at I).at I⟩⟩
   ·refine⟨_,rfl,_,rfl,_,rfl,.lst (.of r) N (aS ⟨p,a,x1,rfl,R.but b5 v5,by omega,λnw H6 hn v6 b6=>?_⟩)⟩;have l6:=b6 _ _ u r;refine⟨_,rfl,_,rfl,.lst (j:=g) l6 (ixn c g D) ?_⟩;rw[dy];have q1:=eQ c g nw x1 L;exact aQ _ _ ⟨_,rfl,ah,by rw[u8];omega,v6.upd (Ne.symm u),(b5.trans b6).at I⟩
  ·rintro σ H9 ⟨y,rfl,a7,bd,v9,b9⟩;have jl:=join_le y;refine⟨rfl,_,rfl,aS ⟨"\n",l,y,rfl,rfl,a7,?_,k _ _ (by omega) v9 b9⟩⟩;rw[a8];show bf y+y.length * 1<=_;omega
def mW (K:W.Frag):Sp:=λvs H Q _=>∃(p a:Addr),vs=[.ref p]/\Pen K H p a/\∀(z:Str) H',z.length<=100000->PenV H' p a->But p H H'->Q (.str z) H'
theorem scFull:FnScope ["_law_pen_here","_law_names_here","_law_ties_here","_law_one","_law_other"] ["_law_pen_here"] (ao kN):=⟨rfl,rfl,rfl,by decide +kernel,rfl,by decide +kernel,by decide +kernel⟩
theorem gg (h:∀s∈i,Nm s) (c:i.length<=61) (b:∀e∈z,Nm e.1/\Nm e.2) (a:z.length<=420):(dH i z).length<=100000:=uo (de _ _) (gE h c b a)
theorem qN (F:Fun K "_law_full" "_law_full" kN f fd) (B:Blt mg) (c:Cal P w K mg base 1 "_law_draw" ["_law_pen_here", "_law_most"] (cV K)) (d:Cal P w K mg base 2 "_law_names" ["_law_pen_here", "_law_many"] (fE K)) (g:Cal P w K mg base 1 "_law_text" ["_law_things_here", "_law_ties_here"] iW):FnOk P w K mg base CX0 3 f fd ["_law_pen_here"] (mW K) := by
 refine F.ok scFull (λvs H Q E h=>?_) (λb0 A a7 s H vs Q E L h=>?_)
 ·obtain⟨p,a,rfl,_⟩:=h
  rfl
 ·obtain⟨p, a, rfl, W, k⟩ := h;have nd:=scFull.nd;refine⟨_,(af (aD (au (aW L.units) (am c (L.mono (by decide)) rfl (ac (pv 0) (ac ag ae))) ag (ax _)) (ai (av (am g (L.mono (by decide)) rfl (ac (am d (L.mono (by decide)) rfl (ac (pv 0) (ac ag ae))) (ac (aZ ae) ae))))) ay)
   (af (aq (i:=1) nd rfl (Or.inl rfl) (am d (L.mono (by decide)) rfl (ac (pv 0) (ac (aA aJ ag (am c (L.mono (by decide)) rfl (ac (pv 0) (ac ag ae)))) ae))))
   (af (aq (i:=2) nd rfl (Or.inl rfl) (aZ ae))
   (af (ce PassesOwn.never rfl (bG K (pv 1)) (aR (i:=3) nd rfl (Or.inl rfl)) (ai (ce PassesOwn.never rfl (bG K (pv 1)) (aR (i:=4) nd rfl (Or.inl rfl)) (ai (aD (au cG (bb K B (ac (pv 2) ae)) (aA aJ ag (am c (L.mono (by decide)) rfl (ac (pv 0) (ac ag ae)))) (ax _)) (ai (cm (dC K (pv 2) (ac (bc (ac (pv 3) (ac (pv 4) ae))) ae)))) ay)))))
   (ai (av (am g (L.mono (by decide)) rfl (ac (pv 1) (ac (pv 2) ae))))))))),?_⟩
  refine⟨_,rfl,p,a,2,rfl,W,by decide,by decide,λr1 H1 _ _ v1 e1=>.sc rfl ⟨_,rfl,?_⟩⟩;have b1:But p H H1:=But.of_eq e1;refine aw (λ_=>?_) (λ_=>ci ?_)
  ·refine⟨_,rfl,p,a,61,rfl,W.but b1 v1,by decide,λl C H2 sl a8 o hl Z X v2 b2=>?_⟩;refine⟨(by show 0<=sizeLine;decide),λq z=>aS ?_⟩;refine nw z λH3 s3 e3=>?_;exact⟨l,q,C,[],[],rfl,s3 _ _ hl,e3,.nil,o,by omega,(λe h=>by cases h),by decide,λH4 R=>k _ _ (gg o (by omega) (λe h=>by cases h) (by decide)) (aY (s3.trans R) v2) (((b1.trans b2).trans (But.of_same (s3.trans R))))⟩
  refine⟨_,rfl,_,rfl,p,a,40,rfl,W.but b1 v1,by decide,by decide,λr2 H2 c0 c1 v2 e2=>.int ?_⟩;obtain⟨j2,rfl⟩:=uH c0;have b2:=b1.trans (But.of_eq e2);refine aS ⟨p,a,21+j2,by rw[Int.natCast_add];rfl,W.but b2 v2,by omega,λl C H3 sl a8 o hl Z X v3 b3=>?_⟩;have b3:=b2.trans b3;refine⟨(by show 0<=sizeLine;decide),λq z=>?_⟩;have O:q≠p:=Ne.symm (v3.ne z);have U:H q=none:=b3.free O z;have a2:l≠q:=ak hl z;refine nw z λH4 R e4=>?_;have v4:=aY R v3;have b4:=b3.trans (But.of_same R);have l4:=R _ _ hl;clear e1 e2 hl Z v1 v2 v3 R;refine⟨_,rfl,l,rfl,⟨_,.of l4⟩,?_⟩;refine eR (xs:=List.map V.str C) (λi G t=>∃(o3 D:Option V) (m:List (Str × Str)) (b:LV),G=[some (.ref p),some (.ref l),some (.ref q),o3,D]/\t l=some (.lst (List.map V.str C))/\t q=some (.lst b)/\RepAll t b (m.map aL)/\m.length<=403/\(∀e∈m,e.1∈C/\e.2∈C)/\PenV t p a/\But p H t) ?_ ?_ ?_ ?_
  ·exact⟨none,none,[],[],rfl,l4,e4,.nil,by decide,(λe h=>by cases h),v4,b4⟩
  ·rintro i G t hi ⟨o3,D,m,b,rfl,v,_⟩;exact .of v
  ·rintro i x G t hx ⟨o3, D, m, b, rfl, v, a6, T, I, n, v', b'⟩;obtain⟨x,Y,rfl⟩:=ck hx;have mx:=uN Y;clear hx Y;refine⟨_,rfl,l,rfl,⟨_,.of v⟩,?_⟩;refine eR (xs:=List.map V.str C) (λj G t=>∃(D:Option V) (m:List (Str × Str)) (b:LV),G=[some (.ref p),some (.ref l),some (.ref q),some (.str x),D]/\t l=some (.lst (List.map V.str C))/\t q=some (.lst b)/\RepAll t b (m.map aL)/\m.length<=403/\(∀e∈m,e.1∈C/\e.2∈C)/\PenV t p a/\But p H t) ?_ ?_ ?_ ?_
   ·exact⟨D,m,b,rfl,v,a6,T,I,n,v',b'⟩
   ·rintro j G t hj ⟨D,m,b,rfl,v,_⟩;exact .of v
   ·rintro j y G H5 hy ⟨D, m, b, rfl, N, J, T, I, n, v5, b5⟩;obtain⟨y,a3,rfl⟩:=ck hy;have my:=uN a3;have rl:=T.len;rw[ub] at rl;refine⟨_,rfl,_,_,rfl,Or.inl ⟨_,.of J,rfl⟩,_,rfl,p,a,3,rfl,W.but b5 v5,by decide,by decide,λr6 H6 b7 a9 v6 e6=>.int ?_⟩;have b6:=b5.trans (But.of_eq e6);have l6:=(e6 l X).trans N;have t6:=(e6 q O).trans J;obtain⟨_,_,a5,_⟩:=id v5;have a0:=RepAll.pairBut a5 (But.of_eq e6) T;refine .int ⟨_,rfl,aw (λh=>?_) (λ_=>?_)⟩
    ·have h:(b.length:Int)<401+r6:=ux h;refine⟨_,rfl,.inl ⟨rfl,_,.of t6⟩,_,rfl,_,rfl,⟨(by show 2<=sizeLine;decide),λu hu=>?_⟩⟩;refine nw hu λH7 S e7=>aS ⟨q,_,_,rfl,rfl,S _ _ t6,az (by omega),?_⟩;have a4:q≠u:=ak t6 hu;refine⟨_,m++[(x,y)],b++[.ref u],rfl,?_,ah,?_,?_,λe M=>?_,(aY S v6).upd (Ne.symm O),(b6.trans (But.of_same S)).at U⟩
     ·rw[aj a2];exact S _ _ l6
     ·rw[uk];refine RepAll.append (RepAll.pairBut (p:=q) (S _ _ t6) But.upd (a0.same S)) (.cons (bM ?_) .nil);rw[aj (Ne.symm a4)];exact e7
     ·rw[uA];show _+1<=_;omega
     ·rcases uF.mp M with M | M
      ·exact n e M
      ·rw[uE.mp M];exact⟨mx,my⟩
    ·exact⟨_,_,_,rfl,l6,t6,a0,I,n,v6,b6⟩
   ·rintro G H5 ⟨D,m,b,rfl,r⟩;exact⟨_,_,m,b,rfl,r⟩
  ·rintro G H5 ⟨o3,D,m,b,rfl,N,J,T,I,n,v5,b5⟩;have a1:∀e∈m,Nm e.1/\Nm e.2:=λe M=>⟨o _ (n e M).1,o _ (n e M).2⟩
   exact⟨_,rfl,_,rfl,aS ⟨l,q,C,m,b,rfl,N,J,T,o,by omega,a1,by omega,λH6 s6=>k _ _ (gg o (by omega) a1 (by omega)) (aY s6 v5) (b5.trans (But.of_same s6))⟩⟩
theorem qK:decide (c∈("abcdefghijklmnopqrstuvwxyz":Str).cps.toList)=be c:=by
 have e:("abcdefghijklmnopqrstuvwxyz":Str).cps.toList=List.range' 97 26:=by decide +kernel
 rw[e,uL];unfold be;rw[decide_eq_true_iff,uP,decide_eq_true_iff,decide_eq_true_iff,List.mem_range'_1];omega
theorem nq {b:Bool}{P:Prop}(h:b=true ↔ P):b=dec P:=by rw[uL,h,dec_iff]
def jX:Sp:=λvs H Q _=>∃z:Str,vs=[.str z]/\z.length<=8000000/\∀H',Same H H'->Q (.bl (dec (Nm z))) H'
theorem scLName:FnScope ["_law_word","_law_letters"] ["_law_word"] (ao eV):=⟨rfl,rfl,rfl,by decide +kernel,rfl,by decide +kernel,by decide +kernel⟩
theorem nW (F:Fun K "_law_is_name" "_law_is_name" eV f fd) (B:Blt mg):FnOk P w K mg base CX0 1 f fd ["_law_word"] jX := by
 refine F.ok scLName (λO H Q E h=>?_) (λL A t s H O Q E I h=>?_)
 ·obtain⟨z,rfl,_⟩:=h
  rfl
 ·obtain⟨z, rfl, N, k⟩ := h;have J:=scLName.nd;have M:z.length<=sizeLine:=uO (di N);have G:¬ Nm z->Q (.bl false) H:=λn=>by
   have:=k H (Same.refl _);rw[eY n] at this;exact this
  refine⟨_,(af (aq (i:=1) J rfl (Or.inr rfl) ar)
   (ai (av (cw (iV cG cG ag (bb K B (ac (pv 0) ae)) ag) (cA (bV (nJ K I.units) (bP (ao eV) ["_law_word","_law_letters"] [1] "_law_sign_here" ["_law_letters"] (ml (pv 0)) (km (au lN (pv 0) (pv 1) (by with_unfolding_all rfl))) (pv 0)) (aZ ae) (ax _))))))),?_⟩
  refine⟨_,rfl,_,_,rfl,⟨M,rfl⟩,.int ⟨_,rfl,aw (λr=>?_) (λr=>?_)⟩⟩
  case refine_2 =>
   refine⟨_,rfl,iL (G λn=>?_)⟩;have:=n.1;exact r (ug (by omega))
  refine .int ⟨_,rfl,aw (λm=>?_) (λm=>G λn=>?_)⟩
  case refine_2 =>
   have:=n.2.1;exact m (ug (by omega))
  have r:(0:Int)<(z.length:Int):=ux r;have m:(z.length:Int)<9:=ux m;have R:z.cps.toList.length=z.length:=by simp[Str.length]
  refine⟨_,rfl,z,rfl,?_⟩;refine iP (λD i g j u=>∃o,j=[o,some (.str "abcdefghijklmnopqrstuvwxyz")]/\g=((z.cps.toList.take i).filter (λc=>!be c)).map (λc=>V.str ⟨#[c]⟩)/\Same H u/\H D=none) λD v=>⟨⟨none,rfl,rfl,Same.new v,v⟩,?_,?_⟩
  ·rintro i g j u c l ⟨o, rfl, rfl, p, d⟩ a;refine⟨_,rfl,_,rfl,c,_,rfl,rfl,_,rfl,?_⟩;have y:z.cps.toList.take (i+1)=z.cps.toList.take i++[c]:=by rw[uJ,l];rfl
   rw[qK];refine aw (λq=>?_) (λq=>?_)
   ·refine⟨_,rfl,a,?_,_,rfl,?_,?_,d⟩
    ·rw[ub];refine az ?_;have:=List.length_filter_le (λc=>!be c) (z.cps.toList.take i);have:=List.length_take_le' i z.cps.toList;omega
    ·rw[y,List.filter_append,List.filter_cons,List.filter_nil,if_pos (show (!be c)=true from q),uk];rfl
    ·exact bx p d
   ·refine⟨a,_,rfl,?_,p,d⟩;rw[y,List.filter_append,List.filter_cons,List.filter_nil,if_neg (show ¬ (!be c)=true from q),u0]
  ·rintro g j u ⟨o,rfl,rfl,p,d⟩ a;refine⟨szl 0,λb C=>?_⟩;refine⟨_,_,_,rfl,rfl,.of ((Same.new C) _ _ a),ah,?_⟩;rw[uB (ua _)];have x:=k _ (p.trans (Same.new (o:=.lst []) C));have e:(((z.cps.toList.filter λc=>!be c).map λc=>V.str ⟨#[c]⟩).isEmpty)=dec (Nm z):=nq (by
    rw[List.isEmpty_iff,List.map_eq_nil_iff,List.filter_eq_nil_iff,<- isNm_iff];show _ ↔ (decide (1<=z.length)&&(decide (z.length<=8)&&z.cps.toList.all be))=true;rw[ug (show 1<=z.length by omega),ug (show z.length<=8 by omega),vh,vh,uW];exact⟨λq c l=>by simpa using q c l,λq c l=>by simpa using q c l⟩)
   rw[<- e] at x;exact x
theorem pJ (a:Txt.split z "\n"=G::r) (f:Txt.split G " "=("things":Str)::i) (d:Gn i) (b:TOs i (r.map aX) I):GW7 z i I:=by
 obtain⟨b,g,c,h⟩:=b;refine⟨?_,d,g,c,h⟩;have a:Str.join (SP.one 10) (G::r)=z:=by rw[<- a,dY];exact StrLaws.join_split _ _
 have e:G=cD i:=by
  unfold cD;rw[cZ,<- f,eW,StrLaws.join_split]
 rw[<- a,e,gG b];unfold dH bh;rw[cZ,dY]
def LrV (H:Hp) (z:Str) (v:V):Prop:=(∃ss ts,GW7 z ss ts/\Rep H v (dX ss ts))∨∃n:Nat,FB (Txt.split z "\n") n/\v=.int (n:Int)
def ki:Sp:=λvs H Q _=>∃z:Str,vs=[.str z]/\z.length<=5000000/\∀v H',Same H H'->LrV H' z v->Q v H'
theorem scLRead:FnScope ["_law_text_here","_law_lines","_law_things_here","_law_ties_here","_law_number","_law_line","_law_words"] ["_law_text_here"] (ao gt):=⟨rfl,rfl,rfl,by decide +kernel,rfl,by decide +kernel,by decide +kernel⟩
theorem hL:kY [a,b,c]=if b=">" then some (a,c) else none:=rfl
theorem nP (F:Fun K "_law_read" "_law_read" gt f fd) (B:Blt mg) (d0:mg "set"=none) (J:Cal P w K mg base 1 "_law_is_name" ["_law_word"] jX):FnOk P w K mg base CX0 2 f fd ["_law_text_here"] ki := by
 refine F.ok scLRead (λvs H Q E h=>?_) (λg5 A f8 s H vs Q E N h=>?_)
 ·obtain⟨z,rfl,_⟩:=h
  rfl
 ·obtain⟨z,rfl,hz,k⟩:=h;have nd:=scLRead.nd;have g7:8000002<=sizeLine:=by decide
  have g6:(Txt.split z "\n").length<=z.length+1:=by rw[dY];exact cF
  have e0:∀l∈Txt.split z "\n",l.length<=z.length:=λl hl=>by rw[dY] at hl;exact bY hl
  have e7:Txt.split z "\n"≠[]:=SP.split_ne _ _;have b6:∀M r ss C v m,Txt.split z "\n"=M::r->Txt.split M " "=("things":Str)::ss->Gn ss->TOs ss (r.map aX) C->Same H m->Rep m v (dX ss C)->Q v m:=λM r ss C v m Y e2 g t s' R=>k v m s' (.inl ⟨ss,C,pJ Y e2 g t,R⟩);have b7:∀n:Nat,FB (Txt.split z "\n") n->∀m,Same H m->Q (.int (n:Int)) m:=λn fb m s'=>k _ m s' (.inr ⟨n,fb,rfl⟩);clear k;refine⟨_,(af (aq (i:=1) nd rfl (Or.inl rfl) (bz K (pv 0) (ac ar ae)))
   (af (aq (i:=2) nd rfl (Or.inl rfl) (bp (cX K) (bz K (aB (aG K N.units) (pv 1) ag (λ_ _=>rfl)) (ac ar ae)) (br ag) bS))
   (af (aD (PW.pt (bt (au (cu N.units) (aB (aG K N.units) (bz K (aB (aG K N.units) (pv 1) ag (λ_ _=>rfl)) (ac ar ae)) ag (λ_ _=>rfl)) ar (ax _)) (bt (au eS (bb K B (ac (pv 2) ae)) ag (ax _)) (bH (au cG (rG B (ac (sN K rfl d0 (ac (pv 2) ae)) ae)) (bb K B (ac (pv 2) ae)) (ax _)))))) (ai (av ag)) ay)
   (af (aD (au (oT K N.units) (bP (ao gt) ["_law_text_here","_law_lines","_law_things_here","_law_ties_here","_law_number","_law_line","_law_words"] [] "_law_word" [] (bG K (pv 2)) (km (aT (aP (am J (N.mono (by decide)) rfl (ac (pv 0) ae))))) (pv 0)) (aZ ae) (ax _)) (ai (av ag)) ay)
   (af (aq (i:=3) nd rfl (Or.inl rfl) (aZ ae))
   (af (ce PassesOwn.never rfl (bG K (bp (cX K) (oU K rfl B (ac (pv 1) ae)) (br ag) bS)) (cN (n:=2) K rfl (ba (aR (i:=4) nd rfl (Or.inl rfl)) (ba (aR (i:=5) nd rfl (Or.inl rfl)) cL))) (af (aq (i:=6) nd rfl (Or.inl rfl) (bz K (pv 5) (ac ar ae)))
   (af (aD (PW.pt (bt (au (cu N.units) (bb K B (ac (pv 6) ae)) ag (ax _)) (bt (au (cu N.units) (aB (aG K N.units) (pv 6) ag (λ_ _=>rfl)) ar (ax _)) (bt (au (fg K N.units) (aB (aG K N.units) (pv 6) ag (λ_ _=>rfl)) (pv 2) (by with_unfolding_all rfl)) (bH (au (fg K N.units) (aB (aG K N.units) (pv 6) ag (λ_ _=>rfl)) (pv 2) (by with_unfolding_all rfl))))))) (ai (av (pv 4))) ay)
   (af (aD (PW.pt (bt (au (fA K N.units) (bc (ac (aB (aG K N.units) (pv 6) ag (λ_ _=>rfl)) (ac (aB (aG K N.units) (pv 6) ag (λ_ _=>rfl)) ae))) (pv 3) (by with_unfolding_all rfl)) (bH (au (aW N.units) (bb K B (ac (pv 3) ae)) ag (ax _))))) (ai (av (pv 4))) ay)
   (ai (cm (dC K (pv 3) (ac (bc (ac (aB (aG K N.units) (pv 6) ag (λ_ _=>rfl)) (ac (aB (aG K N.units) (pv 6) ag (λ_ _=>rfl)) ae))) ae))))))))
   (ai (av (bc (ac (gp K B (ac (pv 2) ae)) (ac (gp K B (ac (pv 3) ae)) ae))))))))))),?_⟩
  refine⟨_,rfl,rfl,_,_,rfl,rfl,by decide,by omega,λl1 h1=>?_⟩;generalize Txt.split z "\n"=ls at *;refine nw h1 λH1 s1 Y=>?_;obtain⟨M,r,rfl⟩:∃M r,ls=M::r:=List.exists_cons_of_ne_nil e7;have f4:=e0 M (by simp);have a0:atI (List.map V.str (M::r)) 0=some (.str M):=aN (j:=0) rfl;have c0:(Txt.split M " ").length<=M.length+1:=by rw[eW];exact cF
  have c6:∀l∈Txt.split M " ",l.length<=M.length:=λl hl=>by rw[eW] at hl;exact bY hl
  have e6:Txt.split M " "≠[]:=SP.split_ne _ _;refine⟨_,rfl,.lst (.of Y) a0 ⟨rfl,M,_,rfl,rfl,by decide,by omega,λl2 h2=>?_⟩⟩;generalize ew:Txt.split M " "=wz at c0 c6 e6;refine nw h2 λH2 s2 e2=>?_;obtain⟨w0,d,rfl⟩:∃w0 d,wz=w0::d:=List.exists_cons_of_ne_nil e6;refine⟨_,rfl,.lst (.of e2) λl3 h3=>?_⟩;rw[show dk (List.map V.str (w0::d)) (some 1) none=List.map V.str d from fS _ 1];refine nw h3 λH3 s3 U=>?_;have c2:=s2.trans s3;have Y:=c2 _ _ Y;have d3:=s1.trans c2;clear s1 s2 s3 c2 e2 h1 h2 h3;have a3:¬ (w0="things"/\Gn d)->∀X,Same H X->Q (.int ((0:Nat):Int)) X:=λn X s4=>b7 0 ⟨Nat.zero_lt_succ _,.inl rfl,λ⟨ss,g1,g2,_⟩=>by
   rw[ew] at g1;obtain⟨p1,p2⟩:=List.cons.inj g1;rw[<- p2] at g2;exact n ⟨p1,g2⟩⟩ X s4
  rw[uv] at c0;have a2:(List.map V.str d).length=d.length:=ub ..;have d2:atI (List.map V.str (M::r)) 0=some (.str M):=a0;refine⟨_,rfl,.lst (.of Y) d2 ⟨rfl,M,_,rfl,rfl,by decide,by omega,λl4 h4=>?_⟩⟩;rw[ew];refine nw h4 λX s4 e4=>?_;have Y:=s4 _ _ Y;have U:=s4 _ _ U;have a8:=d3.trans s4;clear d3 s4 h4;refine .lst (.of e4) (aN (j:=0) rfl) (.sc rfl ⟨_,rfl,?_⟩);by_cases a5:w0="things"
  case neg=>exact aw (λ_=>cE (a3 (λz=>a5 z.1) _ a8)) (λh=>absurd (by rw[if_pos rfl,ut λe=>a5 (V.str.inj e)];rfl) h)
  refine aw (λh=>absurd h (by rw[if_pos rfl,a5,ug rfl];decide)) (λ_=>?_);refine⟨_,rfl,_,_,rfl,Or.inl ⟨_,.of U,rfl⟩,_,_,rfl,rfl,_,rfl,?_⟩;by_cases c7:d.length<=60
  case neg=>exact aw (λ_=>cE (a3 (λz=>c7 z.2.2.2) _ a8)) (λh=>absurd (ug (by rw[a2];omega)) h)
  refine aw (λh=>absurd (ux h) (by rw[a2];omega)) (λ_=>?_);refine⟨_,rfl,⟨l3,d,rfl,.of U,by omega,λlq P' w' S n d8 hn b9=>?_⟩⟩;refine nw d8 λH5 s5 e5=>aS ⟨lq,P',w',S,n,rfl,e5,?_⟩;have Y:=s5 _ _ Y;have U:=s5 _ _ U;have c3:=a8.trans s5;clear a8 s5 d8 e4 e5;refine⟨_,rfl,_,_,rfl,Or.inl ⟨_,.of U,rfl⟩,.int ⟨_,rfl,?_⟩⟩;by_cases b2:d.Nodup
  case neg =>
   have:n≠d.length:=λe=>b2 (b9.mp e);exact aw (λ_=>a3 (λz=>b2 z.2.1) _ c3) (λh=>absurd (ug (by rw[a2];omega)) h)
  refine aw (λh=>absurd (ux h) (by rw[a2,b9.mpr b2];omega)) (λ_=>ci ?_);refine⟨_,rfl,l3,rfl,⟨_,.of U⟩,?_⟩;refine cr (List.map V.str d) (λD i a6 b0 m=>∃o,b0=[o]/\a6=((d.take i).filter λu=>!dec (Nm u)).map V.str/\Same H5 m/\H5 D=none) λD hD=>⟨?_,?_,?_,?_⟩
  ·exact⟨none,rfl,rfl,Same.new hD,hD⟩
  ·rintro i a6 b0 m _ ⟨o,rfl,_,sm,_⟩ _;exact .of (sm _ _ U)
  ·rintro i a6 b0 m x hx ⟨o, rfl, rfl, sm, a1⟩ I;obtain⟨u,hu,rfl⟩:=ck hx;have et:d.take (i+1)=d.take i++[u]:=by rw[uJ,hu];rfl
   have ul:=c6 u (ur _ (uN hu));have d9:=(uh.mp hu).1;refine⟨_,rfl,u,rfl,by omega,λH6 s6=>⟨_,rfl,?_⟩⟩;have I:=s6 _ _ I;by_cases nu:Nm u
   ·rw[dN nu];refine⟨I,_,rfl,?_,sm.trans s6,a1⟩;rw[et,List.filter_append,List.filter_cons,List.filter_nil,if_neg (by rw[dN nu];decide),u0]
   ·rw[eY nu];refine⟨_,rfl,I,?_,_,rfl,?_,?_,a1⟩
    ·rw[ub];refine az ?_;have h1:=List.length_filter_le (λu=>!dec (Nm u)) (d.take i);have h2:=List.length_take_le' i d;omega
    ·rw[et,List.filter_append,List.filter_cons,List.filter_nil,if_pos (by rw[eY nu];rfl),uk];rfl
    ·exact bx (sm.trans s6) a1
  rintro a6 b0 H6 ⟨o,rfl,rfl,s6,a1⟩ I;rw[a2,uB (ua _)] at I;refine⟨szl 0,λb hb=>?_⟩;have s7:=s6.trans (Same.new (o:=.lst []) hb);refine⟨_,_,_,rfl,rfl,.of ((Same.new hb) _ _ I),ah,_,rfl,?_⟩;generalize upd H6 b (.lst [])=H7 at s7 ⊢;have Y:=s7 _ _ Y;have U:=s7 _ _ U;have c1:=c3.trans s7;clear s6 s7 I c3 hb a1;have eN:((d.filter λu=>!dec (Nm u)).map V.str).isEmpty=dec (∀u∈d,Nm u):=nq (by
   rw[List.isEmpty_iff,List.map_eq_nil_iff,List.filter_eq_nil_iff];exact⟨λh u hu=>dec_iff.mp (by simpa using h u hu),λh u hu=>by rw[dN (h u hu)];decide⟩)
  rw[eN];by_cases nm:∀u∈d,Nm u
  case neg =>
   rw[eY nm];exact cE (a3 (λz=>nm z.2.2.1) _ c1)
  rw[dN nm];refine iL (ci ?_);have gn:Gn d:=⟨b2,nm,c7⟩
  have O:∀i,i<r.length->(∃C,TOs d ((r.take i).map aX) C)->(¬ ∃C,TOs d ((r.take (i+1)).map aX) C)->∀m,Same H m->Q (.int (((i+1:Nat)):Int)) m:=λi hi g b=>b7 (i+1) ⟨by rw[uv];omega,.inr (by
   rw[vt];exact⟨d,by rw[ew,a5],gn,g⟩),by
   rw[vt];rintro⟨ss,g1,g2,g3⟩;rw[ew] at g1;rw[<- (List.cons.inj g1).2] at g3;exact b g3⟩
  have f0:∀C v m,TOs d (r.map aX) C->Same H m->Rep m v (dX d C)->Q v m:=λC v m t=>b6 M r d C v m rfl (by rw[ew,a5]) gn t;clear b6 b7 a3 eN f4 a0 d2 hn b9 c0;refine⟨szl 0,λZ b4=>?_⟩;refine nw b4 λH8 s8 e8=>?_;have c5:H Z=none:=cO c1 b4;have n3:l3≠Z:=ak U b4;refine⟨_,rfl,l1,_,rfl,.of (s8 _ _ Y),?_,λle T H9 f5 s9 e9 ev=>?_⟩
  ·rw[ub];omega
  refine⟨_,rfl,.lst (.of e9) λlx b1=>?_⟩;rw[show dk T (some 1) none=T.drop 1 from fS _ 1];have f1:lx≠Z:=λz=>by rw[z,s9 _ _ e8] at b1;cases b1
  refine nw b1 λHA sA eA=>⟨lx,rfl,⟨_,.of eA⟩,?_⟩
  have b5:=s9.trans sA;have U:=(s8.trans b5) _ _ U;have e8:=b5 _ _ e8;have rl:(T.drop 1).length=r.length:=by rw[vm,ev.1,ub,uv];omega
  have d5:∀(i:Nat) (x:V),(T.drop 1)[i]? = some x->∃ln p,r[i]? = some ln/\x=.ref p/\HA p=some (.tup [.int (((i+1:Nat)):Int),.str ln]):=λi x hx=>by
   have hi:i<r.length:=by rw[<- rl];exact(uh.mp hx).1
   rw[List.getElem?_drop,Nat.add_comm] at hx;obtain⟨p,e,hp⟩:=ev.2 (i+1) x (.str r[i]) hx (by rw[uC,List.getElem?_cons_succ,uy hi];rfl);exact⟨_,p,uy hi,e,sA _ _ hp⟩
  have d6:∀m,But Z HA m->Same H m:=λm b c o hc=>by
   have f2:c≠Z:=λz=>by rw[z,c5] at hc;cases hc
   exact b c o f2 (b5 _ _ (s8 _ _ (c1 _ _ hc)))
  have f9:=s8.trans b5;clear ev s9 sA e9 f5 b1 b4 Y;refine eR (xs:=T.drop 1) (λi σ m=>∃(o4 o5 o6:Option V) (C:List (Str × Str)) (G:LV),σ=[some (.str z),some (.ref l1),some (.ref l3),some (.ref Z),o4,o5,o6]/\But Z HA m/\m Z=some (.lst G)/\RepAll m G (C.map aL)/\TOs d ((r.take i).map aX) C) ?_ ?_ ?_ ?_
  ·exact⟨none,none,none,[],[],rfl,But.refl _ _,e8,.nil,rfl,u5,uu _,λe h=>by cases h⟩
  ·rintro i σ m hi ⟨o4,o5,o6,C,G,rfl,b',_⟩;exact .of (b' _ _ f1 eA)
  ·rintro i x σ m hx ⟨o4, o5, o6, C, G, rfl, b', b3, rp, L⟩;obtain⟨ln,p,b8,rfl,hp⟩:=d5 i x hx;have d9:=(uh.mp b8).1;have f6:p≠Z:=λz=>by rw[z,e8] at hp;cases hp
   have d1:=b' _ _ f6 hp;have d4:=b' _ _ n3 U;have g4:=e0 ln (ur _ (uN b8));have c9:(r.take (i+1)).map aX=(r.take i).map aX++[aX ln]:=by rw[uJ,b8,uk];rfl
   have uq:∀W,TOs d ((r.take (i+1)).map aX) W->∃e,aX ln=some e/\W=C++[e]:=λW t'=>by
    have h:=t'.1;rw[c9,L.1] at h;obtain⟨a,b,rfl,ha,hb⟩:=List.map_eq_append_iff.mp h.symm;cases b with
    | nil=>cases hb
    | cons e b' =>
     obtain⟨h1,h2⟩:=List.cons.inj hb;rw[List.map_eq_nil_iff.mp h2,iD ha];exact⟨e,h1.symm,rfl⟩
   have O:=O i d9 ⟨C,L⟩;refine⟨p,_,rfl,.of d1,rfl,_,_,rfl,_,_,rfl,rfl,?_⟩;refine⟨_,rfl,rfl,_,_,rfl,rfl,by decide,by omega,λl hl=>?_⟩;have et:aX ln=kY (Txt.split ln " "):=rfl;generalize Txt.split ln " "=q at et ⊢;refine nw hl λHB sB eB=>?_;have bB:But Z HA HB:=b'.trans (But.of_same sB);have tB:=sB _ _ b3;have c8:=sB _ _ d4;have c4:=rp.same sB;have d7:=d6 _ bB;have no:aX ln=none->∀X,Same HB X->Q (.int (((i+1:Nat)):Int)) X:=λn X s4=>O (λ⟨W,t'⟩=>by
    obtain⟨e,h,_⟩:=uq W t';rw[n] at h;cases h) X (d7.trans s4)
   have a9:∀e,aX ln=some e->¬ (e.1∈d/\e.2∈d/\e∉C/\C.length≠400)->∀X,Same HB X->Q (.int (((i+1:Nat)):Int)) X:=λe he n X s4=>O (λ⟨W,t'⟩=>by
    obtain⟨e',h,rfl⟩:=uq W t';rw[he] at h;obtain rfl:=ue h;have h1:=t'.2.2.2 e (by simp);have h2:=t'.2.1;have h3:=t'.2.2.1;rw[vr] at h2;rw[uA] at h3;exact n ⟨h1.1,h1.2,λz=>h2.2.2 e z e (by simp) rfl,λz=>by have h3:C.length+1<=400:=h3;omega⟩) X (d7.trans s4)
   clear O d1 b' rp d4 b3 hl;refine⟨_,rfl,_,_,rfl,Or.inl ⟨_,.of eB,rfl⟩,.sc rfl ⟨_,rfl,?_⟩⟩;by_cases q3:q.length=3
   case neg =>
    have tn:kY q=none:=by
     match q,q3 with
     | [],_=>rfl
     | [_],_=>rfl
     | [_,_],_=>rfl
     | [_,_,_],h=>exact absurd rfl h
     | _::_::_::_::_,_=>rfl
    exact aw (λ_=>cE ⟨_,rfl,no (et.trans tn) _ (Same.refl _)⟩) (λh=>absurd (by rw[if_pos rfl,ut λe=>q3 (by have:=V.int.inj e;rw[ub] at this;omega)];rfl) h)
   obtain⟨x,y,u,rfl⟩:∃x y u,q=[x,y,u]:=by
    match q,q3 with
    | [x,y,u],_=>exact⟨x,y,u,rfl⟩
   refine aw (λh=>absurd h (by show ¬ (!decide (V.int 3=V.int 3))=true;decide)) (λ_=>?_);refine⟨_,rfl,.lst (.of eB) (aN (j:=1) rfl) (.sc rfl ⟨_,rfl,?_⟩)⟩;by_cases hy:y=">"
   case neg=>exact aw (λ_=>cE ⟨_,rfl,no (by rw[et,hL,if_neg hy]) _ (Same.refl _)⟩) (λh=>absurd (by rw[if_pos rfl,ut λe=>hy (V.str.inj e)];rfl) h)
   refine aw (λh=>absurd h (by rw[if_pos rfl,hy,ug rfl];decide)) (λ_=>?_);have ee:aX ln=some (x,u):=by rw[et,hL,if_pos hy]
   refine⟨_,rfl,.lst (.of eB) (aN (j:=0) rfl) ⟨_,rfl,.seq (.inl (.of c8)) rfl (ig _) ⟨_,rfl,?_⟩⟩⟩;rw[kB];by_cases hx:x∈d
   case neg=>exact aw (λ_=>cE ⟨_,rfl,a9 _ ee (λz=>hx z.1) _ (Same.refl _)⟩) (λh=>absurd (by rw[if_pos rfl,ut hx];rfl) h)
   refine aw (λh=>absurd h (by rw[if_pos rfl,ug hx];decide)) (λ_=>?_);refine⟨_,rfl,.lst (.of eB) (aN (j:=2) rfl) ⟨_,rfl,.seq (.inl (.of c8)) rfl (ig _) ⟨_,rfl,?_⟩⟩⟩;rw[kB];by_cases hu:u∈d
   case neg=>exact aw (λ_=>⟨_,rfl,a9 _ ee (λz=>hu z.2.1) _ (Same.refl _)⟩) (λh=>absurd (by rw[if_pos rfl,ut hu];rfl) h)
   refine aw (λh=>absurd h (by rw[if_pos rfl,ug hu];decide)) (λ_=>ci ?_);have f7:∀e∈C,Nm e.1/\Nm e.2:=λe he=>⟨nm _ (L.2.2.2 e he).1,nm _ (L.2.2.2 e he).2⟩
   have g0:=L.2.2.1;have a4:=c4.len;rw[ub] at a4;refine⟨_,rfl,.lst (.of eB) (aN (j:=0) rfl) ⟨_,rfl,.lst (.of eB) (aN (j:=2) rfl) ⟨szl 2,λt ht=>?_⟩⟩⟩;refine nw ht λHC sC eC=>?_;have tC:=sC _ _ tB;have eB:=sC _ _ eB;have bC:=bB.trans (But.of_same sC);refine⟨_,rfl,.tr tC (c4.same sC) (bM (s:=x) (t:=u) eC) (cR C f7) (cR [(x,u)] (λe he=>by rw[uE.mp he];exact⟨nm _ hx,nm _ hu⟩) |> λz=>by simpa [PyData.canLayAll0] using z) (by show 1<=16;decide) ⟨_,rfl,?_⟩⟩;rw[iR];by_cases a7:(x,u)∈C
   case pos=>exact aw (λ_=>cE ⟨_,rfl,a9 _ ee (λz=>z.2.2.1 a7) _ sC⟩) (λh=>absurd (by rw[if_neg (by decide),ug a7]) h)
   refine aw (λh=>absurd h (by rw[if_neg (by decide),ut a7];decide)) (λ_=>?_);refine⟨_,rfl,_,_,rfl,Or.inl ⟨_,.of tC,rfl⟩,.sc rfl ⟨_,rfl,?_⟩⟩;by_cases h4:C.length=400
   case pos=>exact aw (λ_=>⟨_,rfl,a9 _ ee (λz=>z.2.2.2 h4) _ sC⟩) (λh=>absurd (by rw[if_neg (by decide),a4,h4];decide) h)
   refine aw (λh=>absurd h (by rw[if_neg (by decide),a4,ut λe=>h4 (by have:=V.int.inj e;omega)];decide)) (λ_=>ci ?_);refine⟨_,rfl,.inl ⟨rfl,_,.of tC⟩,_,rfl,.lst (.of eB) (aN (j:=0) rfl) ⟨_,rfl,.lst (.of eB) (aN (j:=2) rfl) ⟨szl 2,λv hv=>?_⟩⟩⟩;refine nw hv λHD sD eD=>aS ⟨Z,_,_,rfl,rfl,sD _ _ tC,az (by omega),?_⟩;have f3:Z≠v:=ak tC hv;refine⟨_,_,_,C++[(x,u)],G++[.ref v],rfl,bC.trans ((But.of_same sD).trans But.upd),ah,?_,?_⟩
   ·rw[uk];refine RepAll.append (RepAll.pairBut (p:=Z) (sD _ _ tC) But.upd ((c4.same sC).same sD)) (.cons (bM ?_) .nil);rw[aj (Ne.symm f3)];exact eD
   ·refine⟨by rw[c9,L.1,ee,uk];rfl,gK L.2.1 a7,by rw[uA];show _+1<=_;omega,λe he=>?_⟩;rcases uF.mp he with he | he
    ·exact L.2.2.2 e he
    ·rw[uE.mp he];exact⟨hx,hu⟩
  ·rintro σ m ⟨o4,o5,o6,C,G,rfl,b',b3,rp,L⟩;rw[rl,uB (ua _)] at L;refine⟨_,rfl,_,rfl,.lst (.of (b' _ _ n3 U)) λq1 h1=>?_⟩;refine nw h1 λHB sB eB=>⟨_,rfl,_,rfl,.lst (.of (sB _ _ b3)) λq2 h2=>?_⟩
   refine nw h2 λHC sC eC=>⟨szl 2,λq3 h3=>?_⟩
   refine nw h3 λHD sD eD=>?_;refine f0 C _ HD L ((((d6 _ b').trans sB).trans sC).trans sD) ?_;exact .tup eD (.cons (.tup ((sC.trans sD) _ _ eB) (RepAll.of_strs d)) (.cons (.tup (sD _ _ eC) (((rp.same sB).same sC).same sD)) .nil))
def jN (ec:Str->Addr):Sp:=λvs H Q _=>∃(a:Addr) (dd:Option Addr),vs=[.ref a]/\H a=some (eI a (ec "NoText") dd)/\∀H',Same H H'->Q (.bl true) H'
theorem scAlone:FnScope ["_law_caught"] ["_law_caught"] (ao iS):=⟨rfl,rfl,rfl,by decide +kernel,rfl,by decide +kernel,by decide +kernel⟩
theorem nR (F:Fun K "_law_alone" "_law_alone" iS f fd) (B:Blt mg) (c:Errs K mg base ec nX kW):FnOk P w K mg base CX0 1 f fd ["_law_caught"] (jN ec) := by
 refine F.ok scAlone (λy H Q E h=>?_) (λr A m s H y Q E z h=>?_)
 ·obtain⟨a,d,rfl,_⟩:=h
  rfl
 ·obtain⟨a,d,rfl,i,k⟩:=h;have C:=scAlone.nd;refine⟨_,(af (aD (PW.pt (bt (aT (aP (pj K B (ac (pv 0) (ac (aO (v:=.ref (ec "NoText")) rfl (c.b "NoText" (by decide)) rfl) ae))))) (bH (aT (aP (pj K B (ac (pv 0) (ac (dv (v:=.ty "ValueError") rfl c.nv jx rfl) ae)))))))) (ai (av bR)) ay)
   (af (aD (aP (lS K B (ac (pv 0) (ac (bc (ac (aO (v:=.ref (ec "Apart")) rfl (c.b "Apart" (by decide)) rfl) (ac (aO (v:=.ref (ec "Clash")) rfl (c.b "Clash" (by decide)) rfl) (ac (aO (v:=.ref (ec "Full")) rfl (c.b "Full" (by decide)) rfl) (ac (aO (v:=.ref (ec "NoDeed")) rfl (c.b "NoDeed" (by decide)) rfl) (ac (aO (v:=.ref (ec "NoHouse")) rfl (c.b "NoHouse" (by decide)) rfl) (ac (aO (v:=.ref (ec "NoOrder")) rfl (c.b "NoOrder" (by decide)) rfl) (ac (aO (v:=.ref (ec "NoRedo")) rfl (c.b "NoRedo" (by decide)) rfl) (ac (aO (v:=.ref (ec "NoRow")) rfl (c.b "NoRow" (by decide)) rfl) (ac (aO (v:=.ref (ec "NoTie")) rfl (c.b "NoTie" (by decide)) rfl) (ac (aO (v:=.ref (ec "NoUndo")) rfl (c.b "NoUndo" (by decide)) rfl) ae bo) bo) bo) bo) bo) bo) bo) bo) bo) bo)) ae)))) (ai (av bR)) ay)
   (ai (av (rA (lS K B (ac (pv 0) (ac (bc (ac (aO (v:=.ref (ec "NoUnit")) rfl (c.b "NoUnit" (by decide)) rfl) (ac (aO (v:=.ref (ec "NoWant")) rfl (c.b "NoWant" (by decide)) rfl) (ac (aO (v:=.ref (ec "NoWeb")) rfl (c.b "NoWeb" (by decide)) rfl) (ac (aO (v:=.ref (ec "NoWeights")) rfl (c.b "NoWeights" (by decide)) rfl) (ac (aO (v:=.ref (ec "Ring")) rfl (c.b "Ring" (by decide)) rfl) (ac (aO (v:=.ref (ec "TooMany")) rfl (c.b "TooMany" (by decide)) rfl) (ac (aO (v:=.ref (ec "Twice")) rfl (c.b "Twice" (by decide)) rfl) (ac (aO (v:=.ref (ec "Within")) rfl (c.b "Within" (by decide)) rfl) ae bo) bo) bo) bo) bo) bo) bo) bo)) ae)))))))),?_⟩
  have g:=c.f "NoText" (by decide);refine⟨_,rfl,a,ec "NoText",d,_,.ref (ec "NoText"),true,rfl,i,g,λv j=>j,(c.kit "NoText" (by decide) (by decide) "NoText" (by decide)).trans (by decide),?_⟩;refine⟨true,rfl,?_⟩;refine⟨_,rfl,a,ec "NoText",d,_,.type "ValueError",true,rfl,i,g,λv j=>j,c.val "NoText" (by decide),?_⟩;refine⟨true,rfl,?_⟩;refine⟨_,rfl,(by show 10<=sizeLine;decide),λx p=>?_⟩;have l:=Same.new (o:=.tup ([ec "Apart",ec "Clash",ec "Full",ec "NoDeed",ec "NoHouse",ec "NoOrder",ec "NoRedo",ec "NoRow",ec "NoTie",ec "NoUndo"].map V.ref)) p;refine⟨a,ec "NoText",d,x,(["Apart","Clash","Full","NoDeed","NoHouse","NoOrder","NoRedo","NoRow","NoTie","NoUndo"]:LS).map ec,false,rfl,l _ _ i,ah,g,c.none_of (by decide) (by decide) (by decide),?_⟩;refine⟨false,rfl,?_⟩;refine⟨_,rfl,(by show 8<=sizeLine;decide),λt q=>?_⟩;have n:=Same.new (o:=.tup ([ec "NoUnit",ec "NoWant",ec "NoWeb",ec "NoWeights",ec "Ring",ec "TooMany",ec "Twice",ec "Within"].map V.ref)) q;exact⟨a,ec "NoText",d,t,(["NoUnit","NoWant","NoWeb","NoWeights","Ring","TooMany","Twice","Within"]:LS).map ec,false,rfl,n _ _ (l _ _ i),ah,g,c.none_of (by decide) (by decide) (by decide),_,rfl,k _ λb u e=>n _ _ (l _ _ e)⟩
theorem du (h:k (σ.set i (some v)) H):fD i v σ H k:=h
theorem pG (q:Q (.bl true) H):EqR false H (.str t) (.str t) Q:=.sc rfl (by rw[if_neg (by decide),ug rfl];exact q)
def kn (ec:Str->Addr):Sp:=λvs H _ E=>∃x,vs=[x]/\Thg H x/\isS x=false/\∀d H',Same H H'->H d=none->H' d=some (.xd [("line",.int 0)])->E (.ref (ec "NoText")) (some d) H'
theorem oM (F:Fun K "read_web" "read_web" eK f fd) (B:Blt mg) (a:MkI P w K mg base 1 "NoText" (ec "NoText") ["self", "line"] (dw K "line")) (Z:XSet K (ec "NoText") "line"):FnOk P w K mg base (CX1 P w) 6 f fd ["text"] (kn ec) := by
 refine F.okX scRead (λq H Q E h=>?_) (λn A g s H q Q E j h=>?_)
 ·obtain⟨x,rfl,_⟩:=h
  rfl
 ·obtain⟨x,rfl,p,nx,k⟩:=h;have r:=scRead.nd;obtain⟨t,l,i,_⟩:=bU (K:=K) p;rw[nx] at i;refine⟨_,(af (aD (aT (aP (dg K "str" B (ac (pv 0) (ac (iA B) ae))))) (ai (dP a (j.mono (by decide)) rfl (ac ag ae))) ay)
   ii),?_⟩
  refine⟨_,rfl,x,t,_,rfl,l,i,_,rfl,cE ?_⟩;refine⟨szl 1,λu e=>?_⟩;exact dZ Z e λd m o b c=>k d m o b c
def kI (ec:Str->Addr):Sp:=λvs H Q E=>∃z:Str,vs=[.str z]/\z.length<=8000000/\((∃ss ts,GW7 z ss ts/\∀q H',Same H H'->Rep H' (.ref q) (dX ss ts)->Q (.ref q) H') ∨
 (¬ cS (Txt.split z "\n")/\∀(i:Nat) d H',FB (Txt.split z "\n") i->Same H H'->H d=none->H' d=some (.xd [("line",.int i)])->E (.ref (ec "NoText")) (some d) H'))
theorem nC (F:FnOk P w K mg base CX0 6 f fd ["text"] lP) (G:FnOk P w K mg base (CX1 P w) 6 f fd ["text"] (jW (ec "NoText"))):FnOk P w K mg base (CX1 P w) 6 f fd ["text"] (kI ec) :=
 ⟨λd H Q E ⟨z,e,_⟩=>by rw[e];rfl,λA a s H c j d Q E h m l i ⟨z,e,o,n⟩=>n.elim
  (λ⟨p,q,g,k⟩=>F.lift.run A a s H c j d Q E h m l i ⟨p,q,by rw[e,g.eq],g.gn.2.2,g.gn.1,g.gn.2.1,g.few,g.nd,g.inn,k⟩)
  (λ⟨b,k⟩=>G.run A a s H c j d Q E h m l i ⟨z,e,o,b,k⟩)⟩
theorem FnOk.or2 (F:FnOk P w K mg base CX k f fd ps sp) (j:FnOk P w K mg base CX k f fd ps z):FnOk P w K mg base CX k f fd ps (λi H Q E=>sp i H Q E∨z i H Q E) :=
 ⟨λi H Q E h=>h.elim (F.len i H Q E) (j.len i H Q E),λA a s H b g i Q E e l c d m=>m.elim (F.run A a s H b g i Q E e l c d) (j.run A a s H b g i Q E e l c d)⟩
abbrev jR (ec:Str->Addr):Sp:=λvs H Q E=>kI ec vs H Q E∨kn ec vs H Q E
theorem se (h:FB ls n):¬ cS ls:=λg=>h.2.2 (iJ (n:=ls.length) (by omega) (by have:=h.1;omega) (by rw[uB (ua _)];exact g))
theorem qV (h:FB ls m) (h':FB ls n):m=n:=by
 have d:∀ {m n:Nat},FB ls m->FB ls n->¬ m<n:=λ{m n} a b c=>by
  rcases b.2.1 with h | h
  ·omega
  ·exact a.2.2 (iJ (by omega) (by omega) h)
 have f:=d h h';have e:=d h' h;omega
def qT (H:Hp) (x v:V):Prop:=(∃z,x=.str z/\z.length<=5000000/\LrV H z v)∨(Thg H x/\isS x=false/\v=.int 0)
theorem kR (h:qT H x v)
    (m:∀z G I q H',GW7 z G I->Rep H v (dX G I)->Same H H'->Rep H' (.ref q) (dX G I)->Q (.ref q) H')
    (e:∀(n:Nat) d H',v=.int (n:Int)->Same H H'->H' d=some (.xd [("line",.int (n:Int))])->E (.ref (ec "NoText")) (some d) H'):jR ec [x] H Q E:=by
 rcases h with⟨z,rfl,o,f⟩ | ⟨j,nx,rfl⟩
 ·refine .inl ⟨z,rfl,by omega,?_⟩;rcases f with⟨G,I,g,R⟩ | ⟨n,c,rfl⟩
  ·exact .inl ⟨G,I,g,λq H' a k=>m z G I q H' g R a k⟩
  ·refine .inr ⟨se c,λi d H' l a _ b=>?_⟩;obtain rfl:=qV l c;exact e i d H' rfl a b
 ·exact .inr ⟨x,rfl,j,nx,λd H' a _ b=>e 0 d H' rfl a b⟩
def kJ (ec:Str->Addr):Sp:=λvs H Q _=>∃x v,vs=[x,v]/\qT H x v/\∀H',Same H H'->Q (.bl true) H'
theorem scRight:FnScope ["_law_text_here","_law_due","_law_caught","_law_found","e"] ["_law_text_here","_law_due"] (ao jy):=⟨rfl,rfl,rfl,by decide +kernel,rfl,by decide +kernel,by decide +kernel⟩
theorem nU (F:Fun K "_law_right" "_law_right" jy f fd) (B:Blt mg) (r:Errs K mg base ec nX kW) (G:XGet K (ec "NoText") "line") (b:CalX P w K mg base 6 "read_web" ["text"] (jR ec)) (a:Cal P w K mg base 1 "_law_alone" ["_law_caught"] (jN ec)):FnOk P w K mg base CX0 7 f fd ["_law_text_here", "_law_due"] (kJ ec) := by
 refine F.ok scRight (λvs H Q E h=>?_) (λY A J s H vs Q E c h=>?_)
 ·obtain⟨x,v,rfl,_⟩:=h
  rfl
 ·obtain⟨x,v,rfl,hx,k⟩:=h;have j:=scRight.nd;obtain⟨a0,Z,L,_⟩:=r.at_ "OrderError" (by decide);obtain⟨D,xT,_,o⟩:=r.at_ "NoText" (by decide);refine⟨_,(af (aq (i:=2) j rfl (Or.inl rfl) cb)
   (af (aq (i:=3) j rfl (Or.inl rfl) cb)
   (af (pZ (i:=4) (λ_ _ _=>(ai (aq (i:=3) j rfl (Or.inl rfl) (qO b (c.mono (by decide)) rfl (ac (pv 0) ae))))) rfl rfl rfl (r.b "OrderError" (by decide)) Z L j rfl rfl (λ_ _=>(ai (aq (i:=2) j rfl (Or.inl rfl) (pv 4)))))
   (af (aD (au qS (pv 2) cb (ax _)) (ai (av (cw (dg K "tuple" B (ac (pv 1) (ac (cM B) ae))) (cA (bV (aW c.units) (mq c.gd c.units B (ac (pv 3) ae)) (mq c.gd c.units B (ac (pv 1) ae)) (ax _)))))) ay)
   (af (aD (PW.pt (bt (aT (aP (dg K "int" B (ac (pv 1) (ac (pF B) ae))))) (bt (aT (aP (am a (c.mono (by decide)) rfl (ac (pv 2) ae)))) (bH (aP (dg K "bool" B (ac (gZ K (pv 2) rfl) (ac (rF B) ae)))))))) (ai (av bR)) ay)
   (ai (av (cw (dg K "int" B (ac (gZ K (pv 2) rfl) (ac (pF B) ae))) (cA (bV (aW c.units) (gZ K (pv 2) rfl) (pv 1) (ax _))))))))))),?_⟩
  refine⟨_,rfl,aS ⟨rfl,kR hx (λz ss ts q W g O l R=>?_) (λn d W X l e=>⟨ec "NoText",D,rfl,xT,o,λm p=>?_⟩)⟩⟩
  ·have S:=rX g.gn.2.1 g.gn.2.2 g.nm g.few;obtain⟨q',a1,a2,xs,V,hq,_⟩:=rg (O.same l);refine du ?_;dsimp only;refine⟨_,rfl,.non ⟨_,rfl,aw (λ_=>?_) (λh=>absurd (by decide) h)⟩⟩;subst V;refine⟨_,rfl,_,_,true,rfl,.tup hq,rfl,⟨_,rfl,cE ?_⟩⟩;refine⟨_,rfl,aS ⟨_,rfl,.tr R S.sb S.hd S.dp S.ln ?_⟩⟩;refine⟨_,rfl,aS ⟨_,rfl,.tr (O.same l) S.sb S.hd S.dp S.ln (pG (k _ l))⟩⟩
  ·subst X;have a3:d≠m:=ak e p;refine nw p λH2 U T=>?_;have e:=U _ _ e;have M:=r.f "NoText" (by decide);refine⟨_,rfl,du ?_⟩;dsimp only;refine⟨_,rfl,.non ⟨_,rfl,aw (λh=>absurd h (by simp)) (λ_=>ci ?_)⟩⟩;obtain⟨u,t,_,C,N,_⟩:=bU (K:=K) (H:=H2) (Thg.int (n:Int));refine⟨_,rfl,_,u,_,rfl,t,C,_,rfl,aw (λh=>by cases h) (λ_=>?_)⟩;refine⟨_,rfl,aS ⟨m,some d,rfl,T,λH3 I=>⟨_,rfl,aw (λh=>by cases h) (λ_=>?_)⟩⟩⟩;have y:=I _ _ T;have e:=I _ _ e;obtain⟨u,t,_,C,N,_⟩:=bU (K:=K) (H:=H3) (Thg.int (n:Int));refine⟨_,rfl,m,ec "NoText",d,_,.int (n:Int),rfl,y,e,rfl,M,G,_,u,_,rfl,t,N,_,rfl,aw (λh=>by cases h) (λ_=>ci ?_)⟩;refine⟨_,rfl,m,ec "NoText",d,_,.int (n:Int),rfl,y,e,rfl,M,G,_,u,_,rfl,t,C,_,rfl,cE ?_⟩;refine⟨_,rfl,m,ec "NoText",d,_,.int (n:Int),rfl,y,e,rfl,M,G,_,rfl,.sc rfl ?_⟩;rw[if_neg (by decide),ug rfl];exact k _ ((l.trans U).trans I)
theorem kz (c:Nat):∀ {ls:LS},ls≠[]->(Str.join (SP.one c) (ls++[("":Str)])).cps.toList=(Str.join (SP.one c) ls).cps.toList++[c]
 | [],h=>absurd rfl h
 | [x],_=>by
  show (Str.join (SP.one c) [x,("":Str)]).cps.toList=_;rw[SP.join_signs];rfl
 | x::y::r,_=>by
  show (Str.join (SP.one c) (x::y::(r++[("":Str)]))).cps.toList=_;rw[SP.join_signs,SP.join_signs,show y::(r++[("":Str)])=(y::r)++[("":Str)] from rfl,kz c (by simp),vf];rfl
theorem fZ (z:Str):Txt.split (z++"\n") "\n"=Txt.split z "\n"++[("":Str)]:=by
 rw[dY];have e:z++SP.one 10=Str.join (SP.one 10) (Txt.split z (SP.one 10)++[("":Str)]):=by
  refine SP.str_eq ?_;rw[kz 10 (SP.split_ne _ _),StrLaws.join_split,show (z++SP.one 10).cps.toList=z.cps.toList++[10] from Array.toList_append ..]
 rw[e,SP.split_join 10 (by decide) _ (by simp) λw a=>?_];rcases uF.mp a with h | h
 ·exact SP.split_free z 10 (by decide) w h
 ·rw[uE.mp h];decide
theorem ny (d:ls≠[]) (g:cS ls):FB (ls++("":Str)::ext) ls.length:=by
 refine⟨by simp,.inr (by rw[List.take_left];exact g),?_⟩;have e:(ls++("":Str)::ext).take (ls.length+1)=ls++[("":Str)]:=by rw[List.take_append,uB (by omega),show ls.length+1-ls.length=1 by omega];rfl
 rw[e];obtain⟨i,r,rfl⟩:=List.exists_cons_of_ne_nil d;rintro⟨f,_,_,b,h,_⟩;have a:(none:Option (Str × Str))∈(r++[("":Str)]).map aX:=uD.mpr ⟨"",by simp,by decide +kernel⟩;rw[show List.map aX (r++[("":Str)])=b.map some from h] at a;obtain⟨_,_,c⟩:=uD.mp a;cases c
theorem so (g:cS (Txt.split z "\n")):LrV H (z++"\n") (.int (((Txt.split z "\n").length:Nat):Int)):=.inr ⟨_,by rw[fZ];exact ny (SP.split_ne _ _) g,rfl⟩
theorem sO (g:cS (Txt.split z "\n")):LrV H (z++"\n\n") (.int (((Txt.split z "\n").length:Nat):Int)):=.inr ⟨_,by
 rw[show (z++"\n\n":Str)=(z++"\n")++"\n" by rw[Str.append_assoc];exact congrArg (z++·) (by decide +kernel),fZ,fZ,vf];exact ny (SP.split_ne _ _) g,rfl⟩
theorem star_d {X:Cx}{ks:List (Option Expr)}{i es:List Expr}{pos:Pos}:starEach (.Dict ks i pos::es) X.env=(false,eval (.Dict ks i pos) X.env)::starEach es X.env:=rfl
theorem star_u {X:Cx}{o:_}{e:Expr}{es:List Expr}{pos:Pos}:starEach (.UnaryOp o e pos::es) X.env=(false,eval (.UnaryOp o e pos) X.env)::starEach es X.env:=rfl
theorem pI {X:Cx}{z es:List Expr}{i}{pos:Pos}:starEach (.Tuple z i pos::es) X.env=(false,eval (.Tuple z i pos) X.env)::starEach es X.env:=sk
theorem td:PE X (.Dict [] [] pos) iU:=fX
theorem tT {j}:PE X (.UnaryOp .USub (.Constant (.int 1) j z) pos) (tUn (rU λi=>.int (-i)) (tC (.int 1))):=tE sj ag
theorem tV {j}:PE X (.List [.Constant (.str "things") j i] pos) (jc (aV (tC (.str "things")) dR)):=aZ (ac ar ae)
theorem tF {j i}:PE X (.Tuple [.Constant (.str "things") j z] i pos) (oD (aV (tC (.str "things")) dR)):=bc (ac ar ae)
def oE:Stmt->Expr
 | .Assign _ (.Subscript e _ _) _=>e
 | _=>.Name "" ⟨0,0,0,0⟩
def oW:Stmt->Expr->Stmt
 | .Assign ts (.Subscript _ i p) q,e=>.Assign ts (.Subscript e i p) q
 | s,_=>s
@[irreducible] def iK:Expr:=oE ((aU dS).getD 6 (.Pass ⟨0,0,0,0⟩))
theorem re:aU dS=(aU dS).set 6 (oW ((aU dS).getD 6 (.Pass ⟨0,0,0,0⟩)) iK):=by unfold iK;rfl
theorem sQ:PE X iK (jc (aV (tC .non) (aV (tC (.int 5)) (aV (tC (.bl true)) (aV (jc (aV (tC (.str "things")) dR)) (aV (oD (aV (tC (.str "things")) dR)) (aV iU (aV (tUn (rU λi=>.int (-i)) (tC (.int 1))) (aV (tC (.bl false)) dR))))))))):=by
 have e:∃j d k l u t f g s m v n o r c p h a b q,iK=.List [.Constant .none j s,.Constant (.int 5) d m,.Constant (.bool true) k v,.List [.Constant (.str "things") l n] o,.Tuple [.Constant (.str "things") u r] g c,.Dict [] [] p,.UnaryOp .USub (.Constant (.int 1) t h) a,.Constant (.bool false) f b] q:=by
  unfold iK;exact⟨_,_,_,_,_,_,_,_,_,_,_,_,_,_,_,_,_,_,_,_,rfl⟩
 obtain⟨j,d,k,l,u,t,f,g,s,m,v,n,o,r,c,p,h,a,b,q,e⟩:=e;rw[e]
 with_reducible exact aZ (ac cb (ac ag (ac bR (ac tV (ac tF (ac td (ac tT (ac bR (ae) aF) star_u) star_d) pI) sw) aF) aF) aF)
def iB (K:W.Frag):Sp:=λvs H Q _=>∃(a:Addr) (ns:List Int),vs=[.ref a]/\SqL K H a (ns.map V.int)/\∀H',Q (.bl true) H'
theorem scLaw:FnScope ["_law_script","_law_pen_here","_law_things_here","_law_text_here","_law_k","_law_bent_here","_law_many","_law_odd"] ["_law_script"] (ao dS):=⟨rfl,rfl,rfl,by decide +kernel,rfl,by decide +kernel,by decide +kernel⟩
theorem rn (F:Fun K "law" "law" dS f fd) (B:Blt mg) (C:Cal P w K mg base 1 "_law_pen" ["_law_script"] (pp K)) (c:Cal P w K mg base 1 "_law_draw" ["_law_pen_here", "_law_most"] (cV K)) (j:Cal P w K mg base 3 "_law_things" ["_law_pen_here"] (jw K)) (u:Cal P w K mg base 2 "_law_ties" ["_law_pen_here", "_law_things_here"] (mU K)) (y:Cal P w K mg base 1 "_law_text" ["_law_things_here", "_law_ties_here"] iW)
    (d:Cal P w K mg base 3 "_law_bent" ["_law_pen_here","_law_text_here"] (mO K)) (q:Cal P w K mg base 3 "_law_full" ["_law_pen_here"] (mW K)) (b:Cal P w K mg base 7 "_law_right" ["_law_text_here","_law_due"] (kJ ec)) (g:Cal P w K mg base 2 "_law_read" ["_law_text_here"] ki):FnOk P w K mg base CX0 9 f fd ["_law_script"] (iB K):=by
 refine F.ok scLaw (λvs H Q E h=>?_) (λc3 A c2 s H vs Q E o h=>?_)
 ·obtain⟨a,ns,rfl,_⟩:=h
  rfl
 ·obtain⟨a, ns, rfl, hS, k⟩ := h;have M:=scLaw.nd;rw[re];refine⟨_,(af (aq (i:=1) M rfl (Or.inl rfl) (am C (o.mono (by decide)) rfl (ac (pv 0) ae)))
   (af (aq (i:=2) M rfl (Or.inl rfl) (am j (o.mono (by decide)) rfl (ac (pv 1) ae)))
   (af (aq (i:=3) M rfl (Or.inl rfl) (am y (o.mono (by decide)) rfl (ac (pv 2) (ac (am u (o.mono (by decide)) rfl (ac (pv 1) (ac (pv 2) ae))) ae))))
   (af (ce PassesOwn.never rfl (bX rfl B.range (ac ag ae)) (aR (i:=4) M rfl (Or.inl rfl)) (af (aq (i:=5) M rfl (Or.inl rfl) (am d (o.mono (by decide)) rfl (ac (pv 1) (ac (pv 3) ae))))
   (af (aD (au (aW o.units) (am c (o.mono (by decide)) rfl (ac (pv 1) (ac ag ae))) ag (ax _)) (ai (aq (i:=5) M rfl (Or.inl rfl) (am d (o.mono (by decide)) rfl (ac (pv 1) (ac (pv 5) ae))))) ay)
   (af (aD (au (aW o.units) (am c (o.mono (by decide)) rfl (ac (pv 1) (ac ag ae))) ag (ax _)) (ai (aq (i:=5) M rfl (Or.inl rfl) (am q (o.mono (by decide)) rfl (ac (pv 1) ae)))) ay)
   (ai (aD (aT (aP (am b (o.mono (by decide)) rfl (ac (pv 5) (ac (am g (o.mono (by decide)) rfl (ac (pv 5) ae)) ae))))) (ai (av bR)) ay))))))
   (af (aq (i:=6) M rfl (Or.inl rfl) (bb K B (ac (bz K (pv 3) (ac ar ae)) ae)))
   (af (aD (PW.pt (bt (aT (aP (am b (o.mono (by decide)) rfl (ac (aA aJ (pv 3) ar) (ac (pv 6) ae))))) (bH (aT (aP (am b (o.mono (by decide)) rfl (ac (aA aJ (pv 3) ar) (ac (pv 6) ae)))))))) (ai (av bR)) ay)
   (af (aq (i:=7) M rfl (Or.inl rfl) (aB (aG K o.units) sQ (am c (o.mono (by decide)) rfl (ac (pv 1) (ac ag ae))) (λ_ _=>rfl)))
   (ai (av (cw (am b (o.mono (by decide)) rfl (ac (pv 7) (ac ag ae))) (cA (am b (o.mono (by decide)) rfl (ac (pv 3) (ac (am g (o.mono (by decide)) rfl (ac (pv 3) ae)) ae)))))))))))))),?_⟩
  refine⟨_,rfl,a,ns,rfl,hS,λp H1 O=>?_⟩;refine⟨_,rfl,p,a,rfl,O,λn ss H2 a2 a6 D hn a9 a1 v2 b2=>?_⟩;refine⟨_,rfl,_,rfl,_,rfl,p,a,n,ss,rfl,O.but b2 v2,hn,a1,a2,a6,D,λt ts H3 R a8 c7 v3 b3=>?_⟩;have a0:=O.but (b2.trans b3) v3;obtain⟨a3,ht,rp⟩:=R.at_;have a5:∀e∈ts,Nm e.1/\Nm e.2:=λe he=>⟨D _ (R.inn e he).1,D _ (R.inn e he).2⟩
  have c5:=R.few;refine aS ⟨n,t,ss,ts,a3,rfl,b3 _ _ a1 hn,ht,rp,D,by omega,a5,by omega,λH4 s4=>?_⟩;have W7:GW7 (dH ss ts) ss ts:=⟨rfl,⟨a6,D,a2⟩,R.nd,R.few,R.inn⟩
  have a7:=gg D (by omega) a5 (by omega);have I:=nK W7;clear W7;generalize dH ss ts=z at a7 I;have v4:=aY s4 v3;have c8:8000002<=sizeLine:=by decide
  have G:=a0.but (But.of_same s4) v4;clear hn a9 a8 v2 b2 b3 hS O a0 rp ht s4 v3 R;have c4:(Txt.split z "\n").length<=z.length+1:=by rw[dY];exact cF
  refine du ?_;dsimp only;refine⟨_,rfl,by decide,by decide,?_⟩;refine fu (λi V H'=>∃o4 o5,V=[some (.ref a),some (.ref p),some (.ref n),some (.str z),o4,o5,none,none]/\PenV H' p a/\But p H4 H') ⟨none,none,rfl,v4,But.refl _ _⟩ ?_ ?_
  ·rintro i V H7 hi ⟨o4, o5, rfl, v7, b7⟩
   let J:SH:=λV H'=>∃W:Str,V=[some (.ref a),some (.ref p),some (.ref n),some (.str z),some (.int (0+(i:Nat))),some (.str W),none,none]/\W.length<=400100/\PenV H' p a/\But p H4 H'
   refine⟨_,rfl,_,rfl,aS ⟨p,a,z,rfl,G.but b7 v7,by omega,λz1 H8 c6 v8 b8=>?_⟩⟩;have b8:=b7.trans b8;refine du ?_;dsimp only;refine ku J ?zq λN hN=>?_
   case zq =>
    rintro V H9 ⟨W,rfl,lz,X,S⟩;refine ku J ?zq λN hN=>?_
    case zq =>
     rintro V H9 ⟨W,rfl,lz,X,S⟩;refine⟨_,rfl,_,rfl,aS ⟨W,rfl,by omega,λv HA sA ln=>aS ⟨_,_,rfl,.inl ⟨W,rfl,by omega,ln⟩,λHB Y=>⟨_,rfl,iL ?_⟩⟩⟩⟩;have Z:=sA.trans Y;exact⟨_,_,rfl,aY Z X,S.trans (But.of_same Z)⟩
    refine⟨_,rfl,p,a,12,rfl,G.but S X,by decide,by decide,λr9 HA c0 c1 L eA=>.sc rfl ⟨_,rfl,?_⟩⟩;have T:=S.trans (But.of_eq eA);refine aw (λ_=>?_) (λ_=>hN _ _ ⟨W,rfl,lz,L,T⟩);refine⟨_,rfl,aS ⟨p,a,rfl,G.but T L,λz2 HB b0 vB bB=>?_⟩⟩;exact hN _ _ ⟨z2,rfl,by omega,vB,T.trans bB⟩
   refine⟨_,rfl,p,a,3,rfl,G.but b8 v8,by decide,by decide,λr9 H9 c0 c1 X e9=>.sc rfl ⟨_,rfl,?_⟩⟩;have S:=b8.trans (But.of_eq e9);refine aw (λ_=>?_) (λ_=>hN _ _ ⟨z1,rfl,by omega,X,S⟩);refine⟨_,rfl,_,rfl,aS ⟨p,a,z1,rfl,G.but S X,by omega,λz2 HA b0 L T=>?_⟩⟩;exact hN _ _ ⟨z2,rfl,by omega,L,S.trans T⟩
  ·rintro V H7 ⟨o4,o5,rfl,v7,b7⟩;dsimp only;refine⟨_,rfl,rfl,_,_,rfl,rfl,by decide,by omega,λl hl=>?_⟩;refine nw hl λH8 s8 e8=>aS ⟨_,_,rfl,Or.inl ⟨_,.of e8,rfl⟩,?_⟩;rw[ub];refine du ?_;dsimp only;have q1:(z++"\n":Str).length=z.length+1:=by rw[aI];rfl
   have q2:(z++"\n\n":Str).length=z.length+2:=by rw[aI];rfl
   refine⟨_,rfl,.str (by rw[<- aI,q1];omega) ⟨_,rfl,aS ⟨_,_,rfl,.inl ⟨_,rfl,by rw[q1];omega,so I⟩,λH9 Z=>⟨_,rfl,iL ?_⟩⟩⟩⟩;refine⟨_,rfl,.str (by rw[<- aI,q2];omega) ⟨_,rfl,aS ⟨_,_,rfl,.inl ⟨_,rfl,by rw[q2];omega,sO I⟩,λHA sA=>⟨_,rfl,iL (ci ?_)⟩⟩⟩⟩;have U:=(s8.trans Z).trans sA;have L:=aY U v7;have T:=b7.trans (But.of_same U);clear v7 b7 s8 Z sA U e8 hl;dsimp only;refine⟨szl 1,λl1 g1=>?_⟩;refine nw g1 λHB Y eB=>?_;refine⟨szl 1,λl2 g2=>?_⟩;refine nw g2 λHC sC eC=>?_;intro l3 g3;refine nw g3 λHD sD eD=>?_;refine⟨_,rfl,?_⟩;refine⟨szl 8,λl4 g4=>?_⟩;refine nw g4 λHE sE eE=>?_;have a4:=((Y.trans sC).trans sD).trans sE;have eB:=((sC.trans sD).trans sE) _ _ eB;have eC:=(sD.trans sE) _ _ eC;have eD:=sE _ _ eD;have vE:=aY a4 L;have bE:=T.trans (But.of_same a4);have b1:l4≠p:=Ne.symm ((aY ((Y.trans sC).trans sD) L).ne g4);have b5:l1≠p:=Ne.symm (L.ne g1);have b6:l2≠p:=Ne.symm ((aY Y L).ne g2);have b4:l3≠p:=Ne.symm ((aY (Y.trans sC) L).ne g3);refine⟨_,rfl,p,a,8,rfl,G.but bE vE,by decide,by decide,λr HF c0 c1 vF eF=>?_⟩;obtain⟨x,hx,mx⟩:=gJ (m:=8) (xs:=[.non,.int 5,.bl true,.ref l1,.ref l2,.ref l3,.int (-1),.bl false]) rfl c0 c1;have od:Thg HF x/\isS x=false:=by
    simp only[uf,List.not_mem_nil,or_false] at mx;rcases mx with rfl | rfl | rfl | rfl | rfl | rfl | rfl | rfl
    ·exact⟨.non,rfl⟩
    ·exact⟨.int _,rfl⟩
    ·exact⟨.bl _,rfl⟩
    ·exact⟨.lst ((eF l1 b5).trans eB),rfl⟩
    ·exact⟨.tup ((eF l2 b6).trans eC),rfl⟩
    ·exact⟨.dK ((eF l3 b4).trans eD),rfl⟩
    ·exact⟨.int _,rfl⟩
    ·exact⟨.bl _,rfl⟩
   refine .lst (.of ((eF l4 b1).trans eE)) hx ?_;clear mx hx;refine du ?_;dsimp only;refine⟨_,rfl,_,_,rfl,.inr ⟨od.1,od.2,rfl⟩,λHG sG=>⟨_,rfl,cE ?_⟩⟩;refine⟨_,rfl,_,rfl,aS ⟨z,rfl,by omega,λv HI sI ln=>aS ⟨_,_,rfl,.inl ⟨z,rfl,by omega,ln⟩,λHJ sJ=>k _⟩⟩⟩
theorem ar1 (h:us.length=1):∃a,us=[a]:=List.length_eq_one_iff.mp h
theorem ar2 (h:us.length=2):∃z i,us=[z,i]:=by
 obtain⟨z,t,rfl⟩:=List.exists_cons_of_length_eq_add_one h;obtain⟨i,rfl⟩:=ar1 (Nat.succ.inj h);exact⟨z,i,rfl⟩
theorem kits {n:Str}{ps:List (Str × Addr)}{ns:LS}{bs:List Bool}(a:ps.map (·.1)=ns) (g:(ps.map (·.2)).map (λy=>W.kitOne K (.ref x) (.ref y))=bs.map some) (e:bs=ns.map (λy=>y==n||y==("OrderError":Str)):=by decide +kernel):∀q∈ps,W.kitOne K (.ref x) (.ref q.2)=some (q.1==n||q.1==("OrderError":Str)):=by
 subst e;subst a;rw[u6,u6,u6] at g;exact List.map_inj_left.mp g
structure FH (K:W.Frag) (mg:MS) (n:Str) (st:Stmt) (f:Addr) (fd:FuncData):Prop where
 F:Fun K n n st f fd
 g:mg n=some (.ref f)
theorem fh_mk {K:W.Frag}{h:Heap}{mg:MS}{n:Str}{st:Stmt}{f:Addr}{od J:Option Addr}{O:Array (OV)}{U kV z I i ct:Value}(X:K.In h) (G:h.Ns mainGlobals mg) (a:W.nsIn K mainGlobals n=some (some (.ref f)))
    (l:K.lookup f=some ⟨U,od,.func (W.fnOf n n (cq st) (aU st) (ao st) .none kV z I J i ct),O⟩) (c:W.codeIn K i n=true) (k:W.keepIn K (.ref f)=true) :
    FH K mg n st f (W.fnOf n n (cq st) (aU st) (ao st) .none kV z I J i ct):=⟨mS l c k,W.mg_of X G a⟩
section
variable {K:W.Frag}{mg:MS}{n:Str}{st:Stmt}{f:Addr}{fd:FuncData}{r:Nat}{sp:Sp}
theorem FH.cl (h:FH K mg n st f fd) (l:W.OpenLaw) (w:World) (a:Heap) (o:FnOk l.prog w K mg a CX0 r f fd ps sp) (b:∀(kV i G:Value) (I:Option Addr) (z ct:Value) (us:LW),us.length=ps.length->bindArgs (W.fnOf n n (cq st) (aU st) (ao st) .none kV i G I z ct) ⟨us,[]⟩=pure (ps.zip us):=by intro _ _ _ _ _ _ us hl;first | (obtain⟨_,rfl⟩:=ar1 hl;rfl) | (obtain⟨_,_,rfl⟩:=ar2 hl;rfl)):Cal l.prog w K mg a r n ps sp:=⟨_,_,o,h.g,h.F.kp,h.F.binds b⟩
theorem FH.cx (h:FH K mg n st f fd) (l:W.OpenLaw) (w:World) (a:Heap) (o:FnOk l.prog w K mg a (CX1 l.prog w) r f fd ps sp) (b:∀(kV i G:Value) (I:Option Addr) (z ct:Value) (us:LW),us.length=ps.length->bindArgs (W.fnOf n n (cq st) (aU st) (ao st) .none kV i G I z ct) ⟨us,[]⟩=pure (ps.zip us):=by intro _ _ _ _ _ _ us hl;first | (obtain⟨_,rfl⟩:=ar1 hl;rfl) | (obtain⟨_,_,rfl⟩:=ar2 hl;rfl)):CalX l.prog w K mg a r n ps sp:=⟨_,_,o,h.g,h.F.kp,h.F.binds b⟩
end
theorem all_mk {l:W.OpenLaw}{w:World}{K:W.Frag}{h:Heap}{mg:MS}{fa f1 f2 f3 f4 f5 f6 f7 f8 f9 g9 i6 m4 q7 g7 j7 i8 l9 r0 i7 l5 o7 s1 l3 o9 k7:Addr}{d1 d2 d3 d4 d5 d6 d7 d8 d9 m8 i3 i9 p0 i4 n0 n7 o8 m3 i5 l4 m0 m5 p9 l8 l7:FuncData}(X:K.In h) (G:h.Ns mainGlobals mg) (g8:mg "law"=some (.ref fa))
    (h1:FH K mg "is_name" fH f1 d1)
    (h2:FH K mg "web_of" fj f2 d2)
    (h3:FH K mg "places_of" fB f3 d3)
    (h4:FH K mg "are_things" dn f4 d4)
    (h5:FH K mg "are_unlike_names" gh f5 d5)
    (h6:FH K mg "are_unlike" fP f6 d6)
    (h7:FH K mg "first_wrong_tie" gB f7 d7)
    (h8:FH K mg "is_tie_among" ei f8 d8)
    (h9:FH K mg "read_web" eK f9 d9)
    (b6:FH K mg "tie_in" gr g9 m8)
    (c7:FH K mg "_law_pen" nB i6 i3)
    (c6:FH K mg "_law_draw" lc m4 i9)
    (c0:FH K mg "_law_names" bW q7 p0)
    (c1:FH K mg "_law_things" gY g7 i4)
    (c2:FH K mg "_law_ties" lu j7 n0)
    (c3:FH K mg "_law_text" lC i8 n7)
    (e9:FH K mg "_law_sign" kP l9 o8)
    (e3:FH K mg "_law_bent_line" ff r0 m3)
    (c8:FH K mg "_law_bent" kM i7 i5)
    (e2:FH K mg "_law_full" kN l5 l4)
    (c5:FH K mg "_law_is_name" eV o7 m0)
    (e6:FH K mg "_law_read" gt s1 m5)
    (d0:FH K mg "_law_alone" iS l3 p9)
    (g4:FH K mg "_law_right" jy o9 l8)
    (e1:FH K mg "law" dS k7 l7)
    (B:Blt mg) (e0:mg "set"=none)
    {m1:Tok} (y1:W.nsIn K mainGlobals "MOST_SIGNS"=some (some (.int 8 m1)))
    {k6:Tok} (y2:W.nsIn K mainGlobals "MOST_THINGS"=some (some (.int 60 k6)))
    {m7:Tok} (y3:W.nsIn K mainGlobals "MOST_TIES"=some (some (.int 400 m7)))
    {I x2 z x4 x5 x6 x7 x8 x9 a3 a1 O a0 Y J U a6 a2 a5 a4:Addr} (r1:W.nsIn K mainGlobals "OrderError"=some (some (.ref I))) (r2:W.nsIn K mainGlobals "NoWeb"=some (some (.ref x2))) (r3:W.nsIn K mainGlobals "NoText"=some (some (.ref z))) (r4:W.nsIn K mainGlobals "Ring"=some (some (.ref x4))) (r5:W.nsIn K mainGlobals "NoOrder"=some (some (.ref x5))) (r6:W.nsIn K mainGlobals "NoWeights"=some (some (.ref x6))) (r7:W.nsIn K mainGlobals "NoHouse"=some (some (.ref x7))) (r8:W.nsIn K mainGlobals "NoDeed"=some (some (.ref x8))) (r9:W.nsIn K mainGlobals "NoUnit"=some (some (.ref x9))) (k2:W.nsIn K mainGlobals "Twice"=some (some (.ref a3))) (k1:W.nsIn K mainGlobals "Within"=some (some (.ref a1))) (o6:W.nsIn K mainGlobals "NoTie"=some (some (.ref O))) (p7:W.nsIn K mainGlobals "Full"=some (some (.ref a0))) (k3:W.nsIn K mainGlobals "Apart"=some (some (.ref Y))) (n3:W.nsIn K mainGlobals "NoWant"=some (some (.ref J))) (o0:W.nsIn K mainGlobals "TooMany"=some (some (.ref U))) (n1:W.nsIn K mainGlobals "NoUndo"=some (some (.ref a6))) (j1:W.nsIn K mainGlobals "NoRedo"=some (some (.ref a2))) (q2:W.nsIn K mainGlobals "Clash"=some (some (.ref a5))) (o4:W.nsIn K mainGlobals "NoRow"=some (some (.ref a4)))
    (en:W.specialIn K (.builtin "object.__class__") "__get__"=some (some (.builtin "getset_descriptor.__get__"))) (et:W.takesIn K (.builtin "object.__class__")=some true) (ev:W.nsIn K mainGlobals "ValueError"=some none)
    {N1:Addr} {l6 b3 g6:LW} {j8 q1:Str} {l0 m6:Bool} {p5:LS} {n9:Option Bool} {i2:Option Addr} {l1 j9 l2 o2 m2:OV}
    (o1:K.lookup I=some (excClassObj j8 q1 I N1 l6 b3 l0 p5 g6 m6 n9 i2 l1 j9 l2 o2 m2 "ValueError.__new__"))
    (u1:W.nsOkIn K N1=true) (j5:W.nsIn K N1 "__init__"=some none) (p6:W.tailIn K [.type "ValueError",.type "Exception",.type "BaseException",.type "object"] b3=true)
    (n4:W.findIn K (.ref I) "__getattribute__"=some (some (.builtin "BaseException.__getattribute__"))) (o5:W.findIn K (.ref I) "__getattr__"=some none) (n5:W.findIn K (.ref I) "__class__"=some (some (.builtin "object.__class__")))
    (p8:W.mroIn K I (.type "object")=some true) (q5:W.mroIn K I (.type "BaseException")=some true) (n6:(W.clsIn K I).isSome=true)
    (p1:b3.contains (.type "BaseException")=true) (p2:(Value.ref I::b3).contains (.ref I)=true) (w1:W.kitOne K (.ref I) (.type "ValueError")=some true)
    {N3:Addr} {k9 b4 p4:LW} {h0 q3:Str} {i0 s3:Bool} {j4:LS} {j6:Option Bool} {k4:Option Addr} {k8 i1 b8 q9 q8:OV}
    (o3:K.lookup z=some (excClassObj h0 q3 z N3 k9 b4 i0 j4 p4 s3 j6 k4 k8 i1 b8 q9 q8 "ValueError.__new__"))
    {b9:Addr} {f0 g2:Option Addr} {e7:Array (OV)} {g5 g0 c4 b7 e4:Value}
    (u3:W.nsOkIn K N3=true) (k5:W.nsIn K N3 "__init__"=some (some (.ref b9))) (j2:W.tailIn K bmV b4=true)
    (e5:K.lookup b9=some ⟨.type "function",f0,.func (W.fnOf "__init__" "NoText.__init__" (cq cj) (aU cj) (ao cj) .none g5 g0 c4 g2 b7 e4),e7⟩) (n2:W.codeIn K b7 "NoText.__init__"=true) (q4:W.keepIn K (.ref b9)=true) (b8:W.keepIn K (.ref z)=true)
    (j3:W.findIn K (.ref z) "__setattr__"=some (some (.builtin "object.__setattr__"))) (q0:(W.clsIn K z).any (λcd=>iz cd.mro)=true) (s0:W.findIn K (.ref z) "line"=some none) (e8:W.hasDictIn K z=true)
    (m9:W.findIn K (.ref z) "__getattribute__"=some (some (.builtin "BaseException.__getattribute__"))) (k0:W.findIn K (.ref z) "__getattr__"=some none) (j0:W.findIn K (.ref z) "__class__"=some (some (.builtin "object.__class__")))
    (c9:W.mroIn K z (.type "object")=some true) (n8:W.mroIn K z (.type "BaseException")=some true) (s2:(W.clsIn K z).isSome=true)
    (p3:b4.contains (.type "BaseException")=true) (q6:(Value.ref z::b4).contains (.ref I)=true) (w3:W.kitOne K (.ref z) (.type "ValueError")=some true)
    (g3:[I,x2,z,x4,x5,x6,x7,x8,x9,a3,a1,O,a0,Y,J,U,a6,a2,a5,a4].map (λy=>W.kitOne K (.ref z) (.ref y))=[true,false,true,false,false,false,false,false,false,false,false,false,false,false,false,false,false,false,false,false].map some)
    : ∃fd:FuncData,(∀(s:Shared) (v:Value),BindsTo s fd ⟨[v],[]⟩ [("_law_script",v)])/\∀base:Heap,K.In base->base.Ns mainGlobals mg->FnOk l.prog w K mg base CX0 9 fa fd ["_law_script"] (iB K):=by
 have e:=g8.symm.trans e1.g;cases e;have R:=W.mg_of X G y1;have j:=W.mg_of X G y2;have t:=W.mg_of X G y3;have g1:=e1.F;obtain⟨_,_,kV,dc,pm,an,cd,ct,_,rfl,_,_⟩:=g1.ex;refine⟨W.fnOf "law" "law" (cq dS) (aU dS) (ao dS) .none kV dc pm an cd ct,λs v=>.of_eq rfl,λbase XB GB=>?_⟩;have eN:(["OrderError","NoWeb","NoText","Ring","NoOrder","NoWeights","NoHouse","NoDeed","NoUnit","Twice","Within","NoTie","Full","Apart","NoWant","TooMany","NoUndo","NoRedo","Clash","NoRow"]:LS).Nodup:=by decide +kernel
 have eO:dW ([("OrderError",I),("NoWeb",x2),("NoText",z),("Ring",x4),("NoOrder",x5),("NoWeights",x6),("NoHouse",x7),("NoDeed",x8),("NoUnit",x9),("Twice",a3),("Within",a1),("NoTie",O),("Full",a0),("Apart",Y),("NoWant",J),("TooMany",U),("NoUndo",a6),("NoRedo",a2),("Clash",a5),("NoRow",a4)]:List (Str × Addr)) "OrderError"=I:=fF (ps:=[("OrderError",I),("NoWeb",x2),("NoText",z),("Ring",x4),("NoOrder",x5),("NoWeights",x6),("NoHouse",x7),("NoDeed",x8),("NoUnit",x9),("Twice",a3),("Within",a1),("NoTie",O),("Full",a0),("Apart",Y),("NoWant",J),("TooMany",U),("NoUndo",a6),("NoRedo",a2),("Clash",a5),("NoRow",a4)]) eN ("OrderError",I) (.head _);have Er:Errs K mg base (dW ([("OrderError",I),("NoWeb",x2),("NoText",z),("Ring",x4),("NoOrder",x5),("NoWeights",x6),("NoHouse",x7),("NoDeed",x8),("NoUnit",x9),("Twice",a3),("Within",a1),("NoTie",O),("Full",a0),("Apart",Y),("NoWant",J),("TooMany",U),("NoUndo",a6),("NoRedo",a2),("Clash",a5),("NoRow",a4)]:List (Str × Addr))) nX kW:=qz (ps:=[("OrderError",I),("NoWeb",x2),("NoText",z),("Ring",x4),("NoOrder",x5),("NoWeights",x6),("NoHouse",x7),("NoDeed",x8),("NoUnit",x9),("Twice",a3),("Within",a1),("NoTie",O),("Full",a0),("Apart",Y),("NoWant",J),("TooMany",U),("NoUndo",a6),("NoRedo",a2),("Clash",a5),("NoRow",a4)]) (cs:=[("OrderError",I),("NoText",z)]) eN (aH (.head _) (aH (.tail _ (.tail _ (.head _))) dF)) (aH (W.mg_of X G r1) (aH (W.mg_of X G r2) (aH (W.mg_of X G r3) (aH (W.mg_of X G r4) (aH (W.mg_of X G r5) (aH (W.mg_of X G r6) (aH (W.mg_of X G r7) (aH (W.mg_of X G r8) (aH (W.mg_of X G r9) (aH (W.mg_of X G k2) (aH (W.mg_of X G k1) (aH (W.mg_of X G o6) (aH (W.mg_of X G p7) (aH (W.mg_of X G k3) (aH (W.mg_of X G n3) (aH (W.mg_of X G o0) (aH (W.mg_of X G n1) (aH (W.mg_of X G j1) (aH (W.mg_of X G q2) (aH (W.mg_of X G o4) dF)))))))))))))))))))) (aH ⟨n4,o5,n5,en,et,p8,q5,n6⟩ (aH ⟨m9,k0,j0,en,et,c9,n8,s2⟩ dF)) (show ("OrderError":Str)∈kW by decide +kernel) (aH (λh=>absurd rfl h) (aH (λ_=>kits (ps:=[("OrderError",I),("NoWeb",x2),("NoText",z),("Ring",x4),("NoOrder",x5),("NoWeights",x6),("NoHouse",x7),("NoDeed",x8),("NoUnit",x9),("Twice",a3),("Within",a1),("NoTie",O),("Full",a0),("Apart",Y),("NoWant",J),("TooMany",U),("NoUndo",a6),("NoRedo",a2),("Clash",a5),("NoRow",a4)]) (ns:=["OrderError","NoWeb","NoText","Ring","NoOrder","NoWeights","NoHouse","NoDeed","NoUnit","Twice","Within","NoTie","Full","Apart","NoWant","TooMany","NoUndo","NoRedo","Clash","NoRow"]) (n:="NoText") rfl g3) dF)) (aH w1 (aH w3 dF)) (aH ⟨b3,lJ XB o1,p1,(by rw[eO];exact p2)⟩ (aH ⟨b4,lJ XB o3,p3,(by rw[eO];exact q6)⟩ dF)) (W.mg_none_of X G ev) (aH (λ_=>rE XB (W.mg_of X G r1) o1 u1 j5 p6) (aH (λh=>absurd (show ("NoText":Str)∈(["NoText","Ring","NoUnit"]:LS) by decide) h) dF));have M:=mS (st:=cj) e5 n2 q4;have b1:=M.binds (ps:=["self","line"]) λ_ _ _ _ _ _ us hl=>by obtain⟨_,_,rfl⟩:=ar2 hl;rfl
 have N:dW ([("OrderError",I),("NoWeb",x2),("NoText",z),("Ring",x4),("NoOrder",x5),("NoWeights",x6),("NoHouse",x7),("NoDeed",x8),("NoUnit",x9),("Twice",a3),("Within",a1),("NoTie",O),("Full",a0),("Apart",Y),("NoWant",J),("TooMany",U),("NoUndo",a6),("NoRedo",a2),("Clash",a5),("NoRow",a4)]:List (Str × Addr)) "NoText"=z:=fF (ps:=[("OrderError",I),("NoWeb",x2),("NoText",z),("Ring",x4),("NoOrder",x5),("NoWeights",x6),("NoHouse",x7),("NoDeed",x8),("NoUnit",x9),("Twice",a3),("Within",a1),("NoTie",O),("Full",a0),("Apart",Y),("NoWant",J),("TooMany",U),("NoUndo",a6),("NoRedo",a2),("Clash",a5),("NoRow",a4)]) eN ("NoText",z) (.tail _ (.tail _ (.head _)));have o:XSet K (dW ([("OrderError",I),("NoWeb",x2),("NoText",z),("Ring",x4),("NoOrder",x5),("NoWeights",x6),("NoHouse",x7),("NoDeed",x8),("NoUnit",x9),("Twice",a3),("Within",a1),("NoTie",O),("Full",a0),("Apart",Y),("NoWant",J),("TooMany",U),("NoUndo",a6),("NoRedo",a2),("Clash",a5),("NoRow",a4)]:List (Str × Addr)) "NoText") "line":=N.symm ▸ ⟨j3,q0,s0,e8,c9⟩;have b5:XGet K (dW ([("OrderError",I),("NoWeb",x2),("NoText",z),("Ring",x4),("NoOrder",x5),("NoWeights",x6),("NoHouse",x7),("NoDeed",x8),("NoUnit",x9),("Twice",a3),("Within",a1),("NoTie",O),("Full",a0),("Apart",Y),("NoWant",J),("TooMany",U),("NoUndo",a6),("NoRedo",a2),("Clash",a5),("NoRow",a4)]:List (Str × Addr)) "NoText") "line":=⟨o.na,o.hd⟩
 have a7:MkI l.prog w K mg base 1 "NoText" (dW ([("OrderError",I),("NoWeb",x2),("NoText",z),("Ring",x4),("NoOrder",x5),("NoWeights",x6),("NoHouse",x7),("NoDeed",x8),("NoUnit",x9),("Twice",a3),("Within",a1),("NoTie",O),("Full",a0),("Apart",Y),("NoWant",J),("TooMany",U),("NoUndo",a6),("NoRedo",a2),("Clash",a5),("NoRow",a4)]:List (Str × Addr)) "NoText") ["self","line"] (dw K "line"):=N.symm ▸ ⟨_,_,qH XB (W.mg_of X G r3) o3 u3 k5 j2 e5,b8,qt M B,b1⟩;have a8:=c7.cl l w base (sM c7.F B);have a:=c6.cl l w base (pT c6.F B);have m:=c0.cl l w base (nM c0.F B a);have A:=c1.cl l w base (mM c1.F B a m);have P:=c2.cl l w base (qi c2.F B a);have d:=h3.cl l w base (lm h3.F B);have c:=h1.cl l w base (lR h1.F B R);have u:=h8.cl l w base (ot h8.F B c);have L:=h6.cl l w base (lO h6.F B d);have g:=h5.cl l w base (rH h5.F B c L);have k:=h4.cl l w base (rh h4.F B j g);have b:=h7.cl l w base (oC h7.F B t d u);have b0:=h2.cl l w base (mY h2.F B k b);have b2:=b6.cl l w base (ou b6.F B);have H:=h3.cl l w base (sK h3.F B);have C:=h6.cl l w base (pW h6.F B H);have f:=h5.cl l w base (qb h5.F B c C);have D:=h4.cl l w base (pY h4.F B j f);have a9:=b6.cl l w base (pR b6.F B);have r:=h8.cl l w base (lQ h8.F B c);have i:=h7.cl l w base (mC h7.F B t d r);have V:=h9.cx l w base (FnOk.or2 (nC (pU h9.F B b2 k b b0) (oh h9.F B a7 o a9 D i)) (oM h9.F B a7 o));have p:=c3.cl l w base (qM c3.F B);have S:=e9.cl l w base (pN e9.F B a);have q:=e3.cl l w base (oj e3.F B a);have Q:=c8.cl l w base (qg c8.F B a S q);have Z:=e2.cl l w base (qN e2.F B a m p);have x:=c5.cl l w base (nW c5.F B);have T:=e6.cl l w base (nP e6.F B e0 x);have E:=d0.cl l w base (nR d0.F B Er);have F:=g4.cl l w base (nU g4.F B Er b5 V E);exact rn g1 B a8 a A P p Q Z F T
theorem walk {l:W.OpenLaw}{i:LS}{O:(Str -> OV) -> Heap -> Prop}{I:World -> Heap -> Prop}{d:DefRec}{K:Params -> W.Frag}(g:l.most=some 63) (b:d.params.defaults=[])
    (j:∀(w:World) (h:Heap),I w h->(K w.params).In h)
    (F:∀(w:World) (mg:MS) (G:Addr) (h:Heap),(K w.params).In h->h.Ns mainGlobals mg->mg d.name=some (.ref G) ->
     ∃fd:FuncData,(∀(s:Shared) (u:Value),BindsTo s fd ⟨[u],[]⟩ [("_law_script",u)])/\∀base:Heap,(K w.params).In base->base.Ns mainGlobals mg->FnOk l.prog w (K w.params) mg base CX0 9 G fd ["_law_script"] (iB (K w.params))) :
    W.WalkO q i O I l.row.toRowW d [] (λf J=>PySem.call f J) :=
 L2.walk_of (n:=63) (k:=9) (x:="_law_script") (CX:=λ_=>CX0) (sp:=λw=>iB (K w.params)) g (by decide) b ⟨rfl,by decide,by decide,rfl⟩ j F (λ_ _ a e m _ c=>⟨a,e,rfl,c,λ_=>rfl⟩) λ_ _ _ _ _ z=>z
end
end K06
open PySem PySem.W PyProof.Rows
set_option maxRecDepth 100000 in
set_option maxHeartbeats 0 in
theorem PySem.Challenge.cw_orderkeep_k06_texts_of_no_webs_holds : PySem.Challenge.rw_orderkeep_k06_texts_of_no_webs.Holds := by
 w_on;o_law;k_head;(case hw=>w_witness2)
 k_fill
 refine K06.walk (l:=PySem.Challenge.rw_orderkeep_k06_texts_of_no_webs) rfl rfl (λw h Y=>W.kIn_of Y) ?F
 case F =>
  intro w mg fa h KX G hmg;refine' K06.all_mk KX G hmg (K06.fh_mk KX G ?_ ?_ ?_ ?_) (K06.fh_mk KX G ?_ ?_ ?_ ?_) (K06.fh_mk KX G ?_ ?_ ?_ ?_) (K06.fh_mk KX G ?_ ?_ ?_ ?_) (K06.fh_mk KX G ?_ ?_ ?_ ?_) (K06.fh_mk KX G ?_ ?_ ?_ ?_) (K06.fh_mk KX G ?_ ?_ ?_ ?_) (K06.fh_mk KX G ?_ ?_ ?_ ?_) (K06.fh_mk KX G ?_ ?_ ?_ ?_) (K06.fh_mk KX G ?_ ?_ ?_ ?_) (K06.fh_mk KX G ?_ ?_ ?_ ?_) (K06.fh_mk KX G ?_ ?_ ?_ ?_) (K06.fh_mk KX G ?_ ?_ ?_ ?_) (K06.fh_mk KX G ?_ ?_ ?_ ?_) (K06.fh_mk KX G ?_ ?_ ?_ ?_) (K06.fh_mk KX G ?_ ?_ ?_ ?_) (K06.fh_mk KX G ?_ ?_ ?_ ?_) (K06.fh_mk KX G ?_ ?_ ?_ ?_) (K06.fh_mk KX G ?_ ?_ ?_ ?_) (K06.fh_mk KX G ?_ ?_ ?_ ?_) (K06.fh_mk KX G ?_ ?_ ?_ ?_) (K06.fh_mk KX G ?_ ?_ ?_ ?_) (K06.fh_mk KX G ?_ ?_ ?_ ?_) (K06.fh_mk KX G ?_ ?_ ?_ ?_) (K06.fh_mk KX G ?_ ?_ ?_ ?_) ⟨W.mg_none_of KX G ?_,W.mg_none_of KX G ?_,W.mg_none_of KX G ?_,W.mg_none_of KX G ?_,W.mg_none_of KX G ?_,W.mg_none_of KX G ?_,W.mg_none_of KX G ?_,W.mg_none_of KX G ?_,W.mg_none_of KX G ?_,W.mg_none_of KX G ?_,W.mg_none_of KX G ?_,W.mg_none_of KX G ?_,W.mg_none_of KX G ?_,W.mg_none_of KX G ?_,W.mg_none_of KX G ?_⟩ (W.mg_none_of KX G ?_) ?_ ?_ ?_ ?_ ?_ ?_ ?_ ?_ ?_ ?_ ?_ ?_ ?_ ?_ ?_ ?_ ?_ ?_ ?_ ?_ ?_ ?_ ?_ ?_ ?_ ?_ ?_ ?_ ?_ ?_ ?_ ?_ ?_ ?_ ?_ ?_ ?_ ?_ ?_ ?_ ?_ ?_ ?_ ?_ ?_ ?_ ?_ ?_ ?_ ?_ ?_ ?_ ?_ ?_ ?_ ?_ ?_ ?_ ?_ ?_ ?_
  all_goals try k_is
  all_goals try kernel_rfl
  all_goals exact rfl
end
