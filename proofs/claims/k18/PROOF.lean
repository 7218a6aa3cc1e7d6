import PyProof.Rows.All
import Wide.All
import OpenK.AllK
import Wide.FinOn
import Lean
import PyProof.EqAt
import PyProof.EqKinds
import PyProof.TupleCall
import PyProof.StrOps2
import PyProof.DictWalks
import KE.KDictList
import PyProof.Rows.ZipGen
import PyProof.StationsW
import PyProof.ExcClass3
import OpenK.KOwn
import KE.KTryDeep
import KE.KIsAll
import PyProof.ExcAttrAll.ValueError
import PyProof.ExcBaseAll.ValueError
import PyProof.AttrMissHeap
import KE.KDictOf
import PySem.Challenge.RW_orderkeep_k18_exchanges_told
def PySem.W.Fast.tw779448147097250981 := 0
def PySem.W.Fast.tw226027703495237445 := 0
def PySem.W.Fast.tw12283845096119671515 := 0
def PySem.W.Fast.tw5273367900802193263 := 0
def PySem.W.Fast.tw382429425781937409 := 0
def PySem.W.Fast.tw17286628302578923891 := 0
def PySem.W.Fast.tw11290995104756080960 := 0
def PySem.W.Fast.tw16533683931972328152 := 0
def PySem.W.Fast.tw10573773624795494446 := 0
def PySem.W.Fast.tw12216335725326002071 := 0
def PySem.W.Fast.tw16673758335082264406 := 0
def PySem.W.Fast.tw4095758374076810290 := 0
def PySem.W.Fast.tw1177871037803476319 := 0
def PySem.W.Fast.tw18441415537247225036 := 0
def PySem.W.Fast.tw3730714945097979888 := 0
def PySem.W.Fast.tw9846737521728723668 := 0
def PySem.W.Fast.tw1706370546063102905 := 0
def PySem.W.Fast.tw10885299619167103852 := 0
def PySem.W.Fast.tw16679786172420916628 := 0
def PySem.W.Fast.tw17918708387739535182 := 0
def PySem.W.Fast.tw8728484869707329676 := 0
def PySem.W.Fast.tw7337674265428075592 := 0
def PySem.W.Fast.tw16438441548502221567 := 0
def PySem.W.Fast.tw5884147352487373242 := 0
def PySem.W.Fast.tw15895815047405905269 := 0
def PySem.W.Fast.tw11625989702359640237 := 0
def PySem.W.Fast.tw480190002091155238 := 0
def PySem.W.Fast.tw17640794694435161739 := 0
def PySem.W.Fast.tw2881375520997654633 := 0
def PySem.W.Fast.tw8871872397845943868 := 0
def PySem.W.Fast.tw7779986749440962607 := 0
def PySem.W.Fast.tw11813541814720692414 := 0
def PySem.W.Fast.tw11703335289794179637 := 0
def PySem.W.Fast.tw3667981551364294844 := 0
def PySem.W.Fast.tw4062991295669302180 := 0
def PySem.W.Fast.tw16897854779216580303 := 0
def PySem.W.Fast.tw9141336233794422556 := 0
def PySem.W.Fast.tw16115472683464436237 := 0
def PySem.W.Fast.tw470091627966983754 := 0
def PySem.W.Fast.tw8100716180946075372 := 0
def PySem.W.Fast.tw5272333292646057065 := 0
def PySem.W.Fast.tw11260461941363410406 := 0
def PySem.W.Fast.tw14305653841486106336 := 0
def PySem.W.Fast.tw9495390616894188537 := 0
def PySem.W.Fast.tw15963720356938292996 := 0
def PySem.W.Fast.tw3164959214273945213 := 0
def PySem.W.Fast.tw7800027180028077731 := 0
def PySem.W.Fast.tw2607890697279719203 := 0
def PySem.W.Fast.tw12250716914523044852 := 0
def PySem.W.Fast.tw16750988489754519985 := 0
def PySem.W.Fast.tw7123084946005749724 := 0
def PySem.W.Fast.tw8789176037835011209 := 0
def PySem.W.Fast.tw2759004174473336472 := 0
def PySem.W.Fast.tw15091267175007243900 := 0
def PySem.W.Fast.tw10441336985437375652 := 0
def PySem.W.Fast.tw11276960497422710648 := 0
def PySem.W.Fast.tw16947606420366866486 := 0
def PySem.W.Fast.tw12818154981437902399 := 0
def PySem.W.Fast.tw4396297108536225008 := 0
def PySem.W.Fast.tw1018038622517925558 := 0
def PySem.W.Fast.tw3061546828651672493 := 0
def PySem.W.Fast.tw9792941007442398432 := 0
def PySem.W.Fast.tw6293638735554214404 := 0
def PySem.W.Fast.tw1538775545831747296 := 0
def PySem.W.Fast.tw714721552285093484 := 0
def PySem.W.Fast.tw11094061830116343005 := 0
def PySem.W.Fast.tw10147742953127443832 := 0
def PySem.W.Fast.tw8678782077107349942 := 0
def PySem.W.Fast.tw3774020829000698709 := 0
def PySem.W.Fast.tw11418369656637361094 := 0
def PySem.W.Fast.tw8800773716142497849 := 0
def PySem.W.Fast.tw13073818523610934164 := 0
def PySem.W.Fast.tw1981382623607899758 := 0
def PySem.W.Fast.tw14501601857494341257 := 0
def PySem.W.Fast.tw3602975783980593933 := 0
def PySem.W.Fast.tw7222196617866521056 := 0
def PySem.W.Fast.tw5520783246501840737 := 0
def PySem.W.Fast.tw5726889178835465044 := 0
def PySem.W.Fast.tw358438460695096424 := 0
def PySem.W.Fast.tw1493453300267392042 := 0
def PySem.W.Fast.tw9094339541149938009 := 0
def PySem.W.Fast.tw5248422641348484940 := 0
def PySem.W.Fast.tw2367730634351651589 := 0
def PySem.W.Fast.tw12090782672425442563 := 0
def PySem.W.Fast.tw8238154618602242824 := 0
def PySem.W.Fast.tw8283003819789233201 := 0
def PySem.W.Fast.tw12062317820879011064 := 0
def PySem.W.Fast.tw1833360538247515658 := 0
def PySem.W.Fast.tw10898848248639151092 := 0
def PySem.W.Fast.tw12479623831989978726 := 0
def PySem.W.Fast.tw848970675341471324 := 0
def PySem.W.Fast.tw4857369727512384602 := 0
def PySem.W.Fast.tw179404508429116572 := 0
def PySem.W.Fast.tw1938106969356915973 := 0
def PySem.W.Fast.tw17660328097691574882 := 0
def PySem.W.Fast.tw593631590429129963 := 0
def PySem.W.Fast.tw3616314955716266431 := 0
def PySem.W.Fast.tw2265474849604719476 := 0
def PySem.W.Fast.tw7146753147897203086 := 0
def PySem.W.Fast.tw17446209333115121065 := 0
def PySem.W.Fast.tw12445132451792585190 := 0
def PySem.W.Fast.tw8605182813291749301 := 0
def PySem.W.Fast.tw7542047880673360075 := 0
def PySem.W.Fast.tw3184777230311831267 := 0
def PySem.W.Fast.tw17198191091639118644 := 0
def PySem.W.Fast.tw17501431488346583750 := 0
def PySem.W.Fast.tw6904610137593806493 := 0
def PySem.W.Fast.tw8637621165508820976 := 0
def PySem.W.Fast.tw5288619149678927632 := 0
def PySem.W.Fast.tw11332614883174572366 := 0
def PySem.W.Fast.tw6245351744950688714 := 0
def PySem.W.Fast.tw16082267907999401083 := 0
def PySem.W.Fast.tw15400131757677725180 := 0
def PySem.W.Fast.tw11739335248018058386 := 0
def PySem.W.Fast.tw17984280500204760922 := 0
def PySem.W.Fast.tw214231316156379972 := 0
def PySem.W.Fast.tw11695831507809112474 := 0
def PySem.W.Fast.tw10878407804283259052 := 0
def PySem.W.Fast.tw13967512651356898317 := 0
def PySem.W.Fast.tw3875245737463840241 := 0
def PySem.W.Fast.tw5540440083361501348 := 0
def PySem.W.Fast.tw16338784049076848357 := 0
def PySem.W.Fast.tw9086830613094633489 := 0
def PySem.W.Fast.tw17057463598660219577 := 0
def PySem.W.Fast.tw2546038908969892068 := 0
def PySem.W.Fast.tw11914170301018859524 := 0
def PySem.W.Fast.tw17307206257827439360 := 0
def PySem.W.Fast.tw14025395097941159054 := 0
def PySem.W.Fast.tw6074754289796922304 := 0
def PySem.W.Fast.tw1830077605577034228 := 0
def PySem.W.Fast.tw4823816666484367106 := 0
def PySem.W.Fast.tw17027932271596803964 := 0
def PySem.W.Fast.tw7041991914110548694 := 0
def PySem.W.Fast.tw9366778712203198851 := 0
def PySem.W.Fast.tw3500818477965232956 := 0
def PySem.W.Fast.tw6863261163883666422 := 0
def PySem.W.Fast.tw9055974041954830284 := 0
def PySem.W.Fast.tw9877352533032064268 := 0
def PySem.W.Fast.tw3486913326067875585 := 0
def PySem.W.Fast.tw14957025622120966701 := 0
def PySem.W.Fast.tw2986516979290147731 := 0
def PySem.W.Fast.tw6562028159002617321 := 0
def PySem.W.Fast.tw13659878919956576159 := 0
def PySem.W.Fast.tw11215138734877095978 := 0
def PySem.W.Fast.tw6586114509839579233 := 0
def PySem.W.Fast.tw9650768964949205788 := 0
def PySem.W.Fast.tw14310602172844794302 := 0
def PySem.W.Fast.tw6085888331773362825 := 0
def PySem.W.Fast.tw11061500855611472990 := 0
def PySem.W.Fast.tw11484123081482041130 := 0
def PySem.W.Fast.tw9256943136450204135 := 0
def PySem.W.Fast.tw8877479927713649417 := 0
def PySem.W.Fast.tw9807651377657047935 := 0
def PySem.W.Fast.tw264198300937801685 := 0
def PySem.W.Fast.tw17654175795712349954 := 0
def PySem.W.Fast.tw13223572663541533855 := 0
def PySem.W.Fast.tw4513304586682180066 := 0
def PySem.W.Fast.tw5707929662476102271 := 0
def PySem.W.Fast.tw12984687692379436727 := 0
def PySem.W.Fast.tw2892937317503855186 := 0
def PySem.W.Fast.tw10751715227937705815 := 0
def PySem.W.Fast.tw6056907567906487900 := 0
def PySem.W.Fast.tw1413163429400289696 := 0
def PySem.W.Fast.tw13765127622335392326 := 0
def PySem.W.Fast.tw1140422128646348885 := 0
def PySem.W.Fast.tw7961089473159895336 := 0
def PySem.W.Fast.tw6725131292693665801 := 0
def PySem.W.Fast.tw15587469871187307996 := 0
def PySem.W.Fast.tw4233220114255938837 := 0
def PySem.W.Fast.tw11528651416986380577 := 0
def PySem.W.Fast.tw9551489473204084983 := 0
def PySem.W.Fast.tw10023735464610876122 := 0
def PySem.W.Fast.tw2149771100220972000 := 0
def PySem.W.Fast.tw796199503021353813 := 0
def PySem.W.Fast.tw15961733900342480873 := 0
def PySem.W.Fast.tw1122283688130563981 := 0
def PySem.W.Fast.tw9990129405219558029 := 0
def PySem.W.Fast.tw15378994044425451074 := 0
def PySem.W.Fast.tw7176611020275423909 := 0
def PySem.W.Fast.tw7283081855137562586 := 0
def PySem.W.Fast.tw9671604514866251755 := 0
def PySem.W.Fast.tw9915835488260390857 := 0
def PySem.W.Fast.tw15267656090337621003 := 0
def PySem.W.Fast.tw8430430437203129489 := 0
def PySem.W.Fast.tw13621828498633810671 := 0
def PySem.W.Fast.tw1736216100181142864 := 0
def PySem.W.Fast.tw9764605932212110781 := 0
def PySem.W.Fast.tw16965349407554891894 := 0
def PySem.W.Fast.tw12808368314760495496 := 0
def PySem.W.Fast.tw5165576704070249587 := 0
def PySem.W.Fast.tw10535036628307964972 := 0
def PySem.W.Fast.tw2623753584500948202 := 0
def PySem.W.Fast.tw14240695015461577045 := 0
def PySem.W.Fast.tw5353735541981715264 := 0
def PySem.W.Fast.tw17093124688754842996 := 0
def PySem.W.Fast.tw14955339303120864663 := 0
def PySem.W.Fast.tw17359377744959128971 := 0
def PySem.W.Fast.tw16585720133247588370 := 0
def PySem.W.Fast.tw13154887195206760775 := 0
def PySem.W.Fast.tw1990493149032902006 := 0
def PySem.W.Fast.tw3882357303693677849 := 0
def PySem.W.Fast.tw13092312557838117499 := 0
def PySem.W.Fast.tw1668541587722393605 := 0
def PySem.W.Fast.tw6548418379805848820 := 0
def PySem.W.Fast.tw14065676934420786412 := 0
def PySem.W.Fast.tw6591168794754101773 := 0
def PySem.W.Fast.tw18158863123596390772 := 0
def PySem.W.Fast.tw16921306830521540117 := 0
def PySem.W.Fast.tw18062174857830955084 := 0
def PySem.W.Fast.tw3108928012024596071 := 0
def PySem.W.Fast.tw1291504256855613684 := 0
def PySem.W.Fast.tw6278819615490396875 := 0
def PySem.W.Fast.tw1541065064155392025 := 0
def PySem.W.Fast.tw16177801251713191151 := 0
def PySem.W.Fast.tw10543299333435049974 := 0
def PySem.W.Fast.tw2971951492320699485 := 0
def PySem.W.Fast.tw14012345084314954084 := 0
def PySem.W.Fast.tw610689301682012092 := 0
def PySem.W.Fast.tw17906604920176811526 := 0
def PySem.W.Fast.tw17125977227494323412 := 0
def PySem.W.Fast.tw7251293168400431341 := 0
def PySem.W.Fast.tw14508215283590724395 := 0
def PySem.W.Fast.tw8673609413140755591 := 0
def PySem.W.Fast.tw12937582003762989455 := 0
def PySem.W.Fast.tw18395088840892395358 := 0
def PySem.W.Fast.tw11361282565013571983 := 0
def PySem.W.Fast.tw2125837332312667948 := 0
def PySem.W.Fast.tw5399036153933868399 := 0
def PySem.W.Fast.tw3430666450529391794 := 0
def PySem.W.Fast.tw16698193981229721329 := 0
def PySem.W.Fast.tw1700676308976980330 := 0
def PySem.W.Fast.tw13338826800588299554 := 0
def PySem.W.Fast.tw1705325872515722824 := 0
def PySem.W.Fast.tw749293870128831316 := 0
def PySem.W.Fast.tw10577947653140000577 := 0
def PySem.W.Fast.tw10810104993306071098 := 0
def PySem.W.Fast.tw8844364210604203427 := 0
def PySem.W.Fast.tw16022092956414156229 := 0
def PySem.W.Fast.tw12023149031683270669 := 0
def PySem.W.Fast.tw17542061358353512503 := 0
def PySem.W.Fast.tw1892338895168863936 := 0
def PySem.W.Fast.tw14123648968680835645 := 0
def PySem.W.Fast.tw2252896545847389071 := 0
def PySem.W.Fast.tw5456460884020586614 := 0
def PySem.W.Fast.tw4336254904464618191 := 0
def PySem.W.Fast.tw15429790232095406186 := 0
def PySem.W.Fast.tw17881052397431757457 := 0
def PySem.W.Fast.tw9611231902507499062 := 0
def PySem.W.Fast.tw4857698301618874121 := 0
def PySem.W.Fast.tw1144951926035406604 := 0
def PySem.W.Fast.tw13807918495649216123 := 0
def PySem.W.Fast.tw14125092959763046103 := 0
def PySem.W.Fast.tw688164020833262964 := 0
def PySem.W.Fast.tw13528666949171237012 := 0
def PySem.W.Fast.tw17717502603414643802 := 0
def PySem.W.Fast.tw4896878301200221851 := 0
def PySem.W.Fast.tw3837377357490512671 := 0
def PySem.W.Fast.tw8508840258544098942 := 0
def PySem.W.Fast.tw13442382646164214929 := 0
def PySem.W.Fast.tw11261718991311988376 := 0
def PySem.W.Fast.tw1827662261758750243 := 0
def PySem.W.Fast.tw16909875080876662589 := 0
def PySem.W.Fast.tw5662872216870265177 := 0
def PySem.W.Fast.tw842651487908224507 := 0
def PySem.W.Fast.tw17784384524118322420 := 0
def PySem.W.Fast.tw5863470775430813893 := 0
def PySem.W.Fast.tw10301391054869856148 := 0
def PySem.W.Fast.tw18591639251639427 := 0
def PySem.W.Fast.tw6720060114342807291 := 0
def PySem.W.Fast.tw11522434241916628837 := 0
def PySem.W.Fast.tw7025116258605081294 := 0
def PySem.W.Fast.tw15301014486651378362 := 0
def PySem.W.Fast.tw12802514221104733939 := 0
def PySem.W.Fast.tw7899368444246168965 := 0
def PySem.W.Fast.tw2925759456208308253 := 0
def PySem.W.Fast.tw12248776955290747338 := 0
def PySem.W.Fast.tw13941856054984407284 := 0
def PySem.W.Fast.tw17625173088158533481 := 0
def PySem.W.Fast.tw12542764934632571061 := 0
def PySem.W.Fast.tw17555733856776768889 := 0
def PySem.W.Fast.tw2444400746321404155 := 0
def PySem.W.Fast.tw4132751261951685653 := 0
def PySem.W.Fast.tw4101440112507214137 := 0
def PySem.W.Fast.tw12594364773211226481 := 0
def PySem.W.Fast.tw10266379214026279242 := 0
def PySem.W.Fast.tw6815628536171876103 := 0
def PySem.W.Fast.tw15845232352294707417 := 0
def PySem.W.Fast.tw8367121959479674302 := 0
def PySem.W.Fast.tw17211803421660375086 := 0
def PySem.W.Fast.tw11646897626083911072 := 0
def PySem.W.Fast.tw10889443531858898516 := 0
def PySem.W.Fast.tw1554752506839622921 := 0
def PySem.W.Fast.tw16314966764558803282 := 0
def PySem.W.Fast.tw10718591353593706783 := 0
def PySem.W.Fast.tw14961899812077108744 := 0
def PySem.W.Fast.tw13139779779337077402 := 0
def PySem.W.Fast.tw3696300298773785089 := 0
def PySem.W.Fast.tw1539392236419725138 := 0
def PySem.W.Fast.tw17349687529979099201 := 0
def PySem.W.Fast.tw14032117048584335962 := 0
def PySem.W.Fast.tw14092596769106293978 := 0
def PySem.W.Fast.tw6706427415654797379 := 0
def PySem.W.Fast.tw7651083815263554048 := 0
def PySem.W.Fast.tw4785049216805719187 := 0
def PySem.W.Fast.tw6533491085571886085 := 0
def PySem.W.Fast.tw17321015104098921312 := 0
def PySem.W.Fast.tw512038827005610402 := 0
def PySem.W.Fast.tw2831988287250174571 := 0
def PySem.W.Fast.tw9991725162862044266 := 0
def PySem.W.Fast.tw4606797046781340586 := 0
def PySem.W.Fast.tw8681592353292193476 := 0
def PySem.W.Fast.tw13788761248407718099 := 0
def PySem.W.Fast.tw3108163234641662019 := 0
def PySem.W.Fast.tw10296602947435599938 := 0
def PySem.W.Fast.tw1403173493831848021 := 0
def PySem.W.Fast.tw17686407567901912505 := 0
def PySem.W.Fast.tw2177620995930365257 := 0
def PySem.W.Fast.tw4797393859476389338 := 0
def PySem.W.Fast.tw3177376577882869440 := 0
def PySem.W.Fast.tw1432712880243978521 := 0
def PySem.W.Fast.tw4786845146692581826 := 0
def PySem.W.Fast.tw8395637482216198742 := 0
def PySem.W.Fast.tw8903822847259097085 := 0
def PySem.W.Fast.tw14629457289317878081 := 0
def PySem.W.Fast.tw5845478061130610845 := 0
def PySem.W.Fast.tw14516044447125737044 := 0
def PySem.W.Fast.tw2589968490157723147 := 0
def PySem.W.Fast.tw12924308203111402719 := 0
def PySem.W.Fast.tw13521202301979508996 := 0
def PySem.W.Fast.tw594793133965978650 := 0
def PySem.W.Fast.tw657394166549919883 := 0
def PySem.W.Fast.tw15600293631406737631 := 0
def PySem.W.Fast.tw9327082380009877696 := 0
def PySem.W.Fast.tw7427364594273927079 := 0
def PySem.W.Fast.tw16098004894334175721 := 0
def PySem.W.Fast.tw14659750869161813346 := 0
def PySem.W.Fast.tw11339081263086539429 := 0
def PySem.W.Fast.tw8029918332769352907 := 0
def PySem.W.Fast.tw8742277172567895294 := 0
def PySem.W.Fast.tw15360812550468762514 := 0
def PySem.W.Fast.tw17003895050214494203 := 0
def PySem.W.Fast.tw4105501911537873391 := 0
def PySem.W.Fast.tw2460535541713792725 := 0
def PySem.W.Fast.tw2738676002533858485 := 0
def PySem.W.Fast.tw10431967577666781218 := 0
def PySem.W.Fast.tw2272125796282444159 := 0
def PySem.W.Fast.tw5166671987735125259 := 0
def PySem.W.Fast.tw1731295501843722201 := 0
def PySem.W.Fast.tw7462273476746215310 := 0
def PySem.W.Fast.tw8828676280439515389 := 0
def PySem.W.Fast.tw6717652309447227981 := 0
def PySem.W.Fast.tw4147137458868365283 := 0
def PySem.W.Fast.tw8009799944676261729 := 0
def PySem.W.Fast.tw5764148862708160953 := 0
def PySem.W.Fast.tw11193815321198173870 := 0
def PySem.W.Fast.tw1563050624071668999 := 0
def PySem.W.Fast.tw3441013682102825320 := 0
def PySem.W.Fast.tw14579860974619886268 := 0
def PySem.W.Fast.tw4265702153080478662 := 0
def PySem.W.Fast.tw16187794547478566951 := 0
def PySem.W.Fast.tw17676626784159133079 := 0
def PySem.W.Fast.tw5720437091774656797 := 0
def PySem.W.Fast.tw757268213620188637 := 0
def PySem.W.Fast.tw4059560024791996640 := 0
def PySem.W.Fast.tw17989311718421544858 := 0
def PySem.W.Fast.tw6875079863786698254 := 0
def PySem.W.Fast.tw14055834183268126192 := 0
def PySem.W.Fast.tw4007645765224417730 := 0
def PySem.W.Fast.tw8266978352844394793 := 0
def PySem.W.Fast.tw17873958122865748767 := 0
def PySem.W.Fast.tw11733469696655680114 := 0
def PySem.W.Fast.tw13036862660536435650 := 0
def PySem.W.Fast.tw4111555927728726455 := 0
def PySem.W.Fast.tw2786189250075391158 := 0
def PySem.W.Fast.tw14366405700855316579 := 0
def PySem.W.Fast.tw214987379325394383 := 0
def PySem.W.Fast.tw11779880222576376489 := 0
def PySem.W.Fast.tw16590737184884054020 := 0
def PySem.W.Fast.tw4578612072004582938 := 0
def PySem.W.Fast.tw14182147958612969416 := 0
def PySem.W.Fast.tw10754700825978532471 := 0
def PySem.W.Fast.tw10792323466957351478 := 0
def PySem.W.Fast.tw9182795918765230889 := 0
def PySem.W.Fast.tw16018017722581571490 := 0
def PySem.W.Fast.tw2952590720659735126 := 0
def PySem.W.Fast.tw3923762045717056779 := 0
def PySem.W.Fast.tw3626223799945446139 := 0
def PySem.W.Fast.tw5099859117764704779 := 0
def PySem.W.Fast.tw13568106835930778788 := 0
def PySem.W.Fast.tw10953013582641135540 := 0
def PySem.W.Fast.tw15350905657395638810 := 0
def PySem.W.Fast.tw2602815319185093554 := 0
def PySem.W.Fast.tw7538298670154055465 := 0
def PySem.W.Fast.tw5512599159620316012 := 0
def PySem.W.Fast.tw17424928339762749016 := 0
def PySem.W.Fast.tw6347195806858572443 := 0
def PySem.W.Fast.tw2422679088339201947 := 0
def PySem.W.Fast.tw7171867575879573278 := 0
def PySem.W.Fast.tw12977479177766193407 := 0
def PySem.W.Fast.tw5554989981300321105 := 0
def PySem.W.Fast.tw16608776700805095704 := 0
def PySem.W.Fast.tw1658791923849243345 := 0
def PySem.W.Fast.tw6414607580302959459 := 0
def PySem.W.Fast.tw2892468351835040716 := 0
def PySem.W.Fast.tw5037962615040070376 := 0
def PySem.W.Fast.tw7972116202644363196 := 0
def PySem.W.Fast.tw18016859279625014267 := 0
def PySem.W.Fast.tw283819470562887070 := 0
def PySem.W.Fast.tw7619707639530054768 := 0
def PySem.W.Fast.tw9604776696527701179 := 0
def PySem.W.Fast.tw7564058530921412575 := 0
def PySem.W.Fast.tw13777091482632884836 := 0
def PySem.W.Fast.tw8648958114352867586 := 0
def PySem.W.Fast.tw17677901699948038851 := 0
def PySem.W.Fast.tw13794910981581426790 := 0
def PySem.W.Fast.tw14770713635127067548 := 0
def PySem.W.Fast.tw15838447187749320268 := 0
def PySem.W.Fast.tw1780208104574165782 := 0
def PySem.W.Fast.tw6209496714592338144 := 0
def PySem.W.Fast.tw16032580164783885790 := 0
def PySem.W.Fast.tw15146748909113499930 := 0
def PySem.W.Fast.tw10326738477533956460 := 0
def PySem.W.Fast.tw16211875525966176012 := 0
def PySem.W.Fast.tw8975717912029523053 := 0
def PySem.W.Fast.tw2387294127883864173 := 0
def PySem.W.Fast.tw2438101288713361215 := 0
def PySem.W.Fast.tw3562042142150936112 := 0
def PySem.W.Fast.tw13801983810389683166 := 0
def PySem.W.Fast.tw1509008349861878828 := 0
def PySem.W.Fast.tw17670665539899084853 := 0
def PySem.W.Fast.tw7469483802237986122 := 0
def PySem.W.Fast.tw6211492600052321606 := 0
def PySem.W.Fast.tw12459893630535934884 := 0
def PySem.W.Fast.tw7723594290641800685 := 0
def PySem.W.Fast.tw1217897793404812633 := 0
def PySem.W.Fast.tw17230267945463035525 := 0
def PySem.W.Fast.tw8356289175559908253 := 0
def PySem.W.Fast.tw10103081805874192364 := 0
def PySem.W.Fast.tw116751150322055939 := 0
def PySem.W.Fast.tw2678804132616815479 := 0
def PySem.W.Fast.tw15595082854914225220 := 0
def PySem.W.Fast.tw18186028607991241929 := 0
def PySem.W.Fast.tw2173478694186432523 := 0
def PySem.W.Fast.tw2068928384502342303 := 0
def PySem.W.Fast.tw3686218963399996773 := 0
def PySem.W.Fast.tw15720289987872628289 := 0
def PySem.W.Fast.tw17406982829477942759 := 0
def PySem.W.Fast.tw4016855322249992084 := 0
def PySem.W.Fast.tw8500518781859924565 := 0
def PySem.W.Fast.tw3705747460008356648 := 0
def PySem.W.Fast.tw3648685886935005300 := 0
def PySem.W.Fast.tw11886744305669889034 := 0
def PySem.W.Fast.tw17762703294533370305 := 0
def PySem.W.Fast.tw1779757034353310653 := 0
def PySem.W.Fast.tw1679847702444544071 := 0
def PySem.W.Fast.tw6147393343311774798 := 0
def PySem.W.Fast.tw7959334684006779221 := 0
set_option Elab.async false
set_option linter.all false
set_option maxRecDepth 100000
namespace L2
open PySem PySem.Spec PyProof.Rows
noncomputable abbrev Key := Sum Int Str
noncomputable def keyIs : Key → Value → Bool
  | .inl k, v => Value.isInt k v
  | .inr x, v => Value.isStrOf x v
noncomputable def keyH (w : World) : Key → Int
  | .inl k => hashInt k
  | .inr x => hashStr w x
theorem keyIs_shape : ∀ {k : Key} {v : Value}, keyIs k v = true → (∃ i t, k = Sum.inl i ∧ v = Value.int i t) ∨ (∃ x t, k = Sum.inr x ∧ v = Value.str x t)
  | .inl i, v, h => by
    obtain ⟨t, e⟩ := Value.isInt_shape (k := i) (v := v) h
    exact .inl ⟨i, t, rfl, e⟩
  | .inr x, v, h => by
    obtain ⟨t, e⟩ := Value.isStrOf_shape (x := x) (v := v) h
    exact .inr ⟨x, t, rfl, e⟩
theorem keyIs_int (i : Int) (t : Tok) : keyIs (.inl i) (.int i t) = true := by simp [keyIs, Value.isInt]
theorem keyIs_str (x : Str) (t : Tok) : keyIs (.inr x) (.str x t) = true := by simp [keyIs, Value.isStrOf]
theorem key_ll (a b : Int) : decide ((Sum.inl a : Key) = Sum.inl b) = (a == b) := by
  by_cases e : a = b
  · subst e; simp
  · have h : ¬ (Sum.inl a : Key) = Sum.inl b := fun q => e (Sum.inl.inj q)
    rw [decide_eq_false h]
    exact (beq_eq_false_iff_ne.mpr e).symm
theorem key_rr (a b : Str) : decide ((Sum.inr a : Key) = Sum.inr b) = decide (a = b) := by
  by_cases e : a = b
  · subst e; simp
  · have h : ¬ (Sum.inr a : Key) = Sum.inr b := fun q => e (Sum.inr.inj q)
    rw [decide_eq_false h, decide_eq_false e]
theorem key_lr (a : Int) (b : Str) : decide ((Sum.inl a : Key) = Sum.inr b) = false := decide_eq_false (fun q => nomatch q)
theorem key_rl (a : Str) (b : Int) : decide ((Sum.inr a : Key) = Sum.inl b) = false := decide_eq_false (fun q => nomatch q)
noncomputable def mixKind (prog : Program) (w : World) : PySem.KeyKind prog w Key where
  is := keyIs
  hash := keyH w
  inj := fun v a b ha hb => by
    rcases keyIs_shape ha with ⟨i, t, rfl, rfl⟩ | ⟨x, t, rfl, rfl⟩
    · rcases keyIs_shape hb with ⟨j, u, rfl, e⟩ | ⟨y, u, rfl, e⟩
      · injection e with e1 _; rw [e1]
      · exact nomatch e
    · rcases keyIs_shape hb with ⟨j, u, rfl, e⟩ | ⟨y, u, rfl, e⟩
      · exact nomatch e
      · injection e with e1 _; rw [e1]
  byValue := fun k v h => by
    rcases keyIs_shape h with ⟨i, t, rfl, rfl⟩ | ⟨x, t, rfl, rfl⟩ <;> rfl
  pyHash := fun hv h => by
    rcases keyIs_shape hv with ⟨i, t, rfl, rfl⟩ | ⟨x, t, rfl, rfl⟩
    · exact wpAny_pyHash_int h
    · exact wpAny_pyHash_str h
  eqBool := fun hu hv h => by
    rcases keyIs_shape hu with ⟨i, t, rfl, rfl⟩ | ⟨x, t, rfl, rfl⟩
    · rcases keyIs_shape hv with ⟨j, u, rfl, rfl⟩ | ⟨y, u, rfl, rfl⟩
      · rw [key_ll] at h; exact wpAny_eqBool_int h
      · rw [key_lr] at h; exact SeqAt.EqAt.int_str i t y u _ _ _ _ h
    · rcases keyIs_shape hv with ⟨j, u, rfl, rfl⟩ | ⟨y, u, rfl, rfl⟩
      · rw [key_rl] at h; exact SeqAt.EqAt.str_int x t j u _ _ _ _ h
      · rw [key_rr] at h; exact wpAny_eqBool_str h
  «strs» := fun k x t v h => by
    rcases keyIs_shape h with ⟨i, u, rfl, e⟩ | ⟨y, u, rfl, e⟩
    · exact nomatch e
    · injection e with e1 _
      subst e1
      cases v <;> rfl
theorem mixKind_int (prog : Program) (w : World) (i : Int) (t : Tok) : (mixKind prog w).is (.inl i) (.int i t) = true := keyIs_int i t
theorem mixKind_str (prog : Program) (w : World) (x : Str) (t : Tok) : (mixKind prog w).is (.inr x) (.str x t) = true := keyIs_str x t
end L2
namespace L2
open PySem PySem.Spec PyProof.Rows
inductive V where
  | non | bl (b : Bool) | int (i : Int) | str (x : Str) | byt (b : Array UInt8) | flt (b : UInt64) | ref (a : Addr) | ty (n : String)
  deriving DecidableEq
noncomputable def RelV : V → Value → Prop
  | .non, u => u = Value.none
  | .bl b, u => u = Value.bool b
  | .int i, u => ∃ t, u = Value.int i t
  | .str x, u => ∃ t, u = Value.str x t
  | .byt b, u => ∃ t, u = Value.bytes b t
  | .flt b, u => ∃ t, u = Value.float b t
  | .ref a, u => u = Value.ref a
  | .ty n, u => u = Value.type n
noncomputable abbrev Vals : List V → List Value → Prop := Paired RelV
theorem Vals.length {xs : List V} {us : List Value} (r : Vals xs us) : xs.length = us.length := Paired.length r
theorem Vals.get : ∀ {xs : List V} {us : List Value} {i : Nat} {x : V}, Vals xs us → xs[i]? = some x → ∃ u, us[i]? = some u ∧ RelV x u
  | _, _, _, _, .nil, e => by simp at e
  | _, _, 0, _, .cons r _, e => by simp at e; subst e; exact ⟨_, rfl, r⟩
  | _, _, i + 1, x, .cons _ t, e => by
    obtain ⟨u, h1, h2⟩ := Vals.get (i := i) (x := x) t (by simpa using e)
    exact ⟨u, by simpa using h1, h2⟩
theorem Vals.set {x : V} {u : Value} (r : RelV x u) : ∀ {xs : List V} {us : List Value} (i : Nat), Vals xs us → Vals (xs.set i x) (us.set i u)
  | _, _, _, .nil => .nil
  | _, _, 0, .cons _ t => .cons r t
  | _, _, i + 1, .cons q t => .cons q (Vals.set r i t)
theorem Vals.append : ∀ {xs ys : List V} {us ws : List Value}, Vals xs us → Vals ys ws → Vals (xs ++ ys) (us ++ ws)
  | _, _, _, _, .nil, s => s
  | _, _, _, _, .cons r t, s => .cons r (Vals.append t s)
theorem Vals.take : ∀ {xs : List V} {us : List Value} (n : Nat), Vals xs us → Vals (xs.take n) (us.take n)
  | _, _, 0, _ => .nil
  | _, _, _ + 1, .nil => .nil
  | _, _, n + 1, .cons r t => .cons r (Vals.take n t)
theorem Vals.drop : ∀ {xs : List V} {us : List Value} (n : Nat), Vals xs us → Vals (xs.drop n) (us.drop n)
  | _, _, 0, r => r
  | _, _, _ + 1, .nil => .nil
  | _, _, n + 1, .cons _ t => Vals.drop n t
noncomputable def RelO : Option V → Option Value → Prop
  | some v, some u => RelV v u
  | none, none => True
  | _, _ => False
noncomputable def KV {κ : Type} : List (κ × V) → List (κ × Value) → Prop := Paired fun (p : κ × V) (q : κ × Value) => p.1 = q.1 ∧ RelV p.2 q.2
noncomputable def kV : Key → V
  | .inl i => .int i
  | .inr x => .str x
inductive HO where
  /-- a list -/
  | lst (xs : List V)
  /-- a tuple (never changes) -/
  | tup (xs : List V)
  /-- a dict whose keys are ints and texts; one whose keys are tuples of ints and texts (the empty one is both) -/
  | dK (kvs : List (Key × V)) | dT (kvs : List (List Key × V))
  /-- a set of ints: its members, its size -/
  | set (S : Int → Bool) (n : Nat)
  /-- an instance of the class at C, its dict at dx, its attributes -/
  | ins (C dx : Addr) (fs : List (Str × V))
  /-- the dict of the instance at x -/
  | own (x : Addr)
  /-- the dict of an exception -/
  | xd (fs : List (Str × V))
  /-- a bound method, f of x -/
  | met (f x : Addr)
  /-- a range object lo, lo + 1, .. below hi -/
  | rng (lo hi : Int)
  /-- a thing that is known to the object (the script; a dict while a loop walks it): read, never written while it is so -/
  | frz (o : Obj) (u : HO)
  /-- a code object's table -/
  | tbl (ps : Array Value)
  /-- any other thing, by what is true of its one object (a def of one's own: SetO a S n := HO.ext fun h => ..) -/
  | ext (φ : Heap → Prop)
noncomputable abbrev Hp := Addr → Option HO
noncomputable def upd (H : Hp) (a : Addr) (o : HO) : Hp := fun b => if b = a then some o else H b
theorem upd_same {H : Hp} {a : Addr} {o : HO} : upd H a o a = some o := by unfold upd; rw [if_pos rfl]
theorem upd_ne {H : Hp} {a b : Addr} {o : HO} (h : b ≠ a) : upd H a o b = H b := by unfold upd; rw [if_neg h]
theorem upd_upd {H : Hp} {a : Addr} {o u : HO} : upd (upd H a o) a u = upd H a u := by
  funext b; unfold upd; split <;> rfl
theorem ne_of {H : Hp} {a b : Addr} {o u : HO} (h : H a = some o) (h' : H b = some u) (d : o ≠ u) : a ≠ b := by
  intro e; subst e; rw [h] at h'; exact d (Option.some.inj h')
theorem ne_of_none {H : Hp} {a b : Addr} {o : HO} (h : H a = some o) (h' : H b = none) : a ≠ b := by
  intro e; subst e; rw [h] at h'; cases h'
noncomputable def TupN (h : Heap) (a : Addr) (items : Array Value) : Prop := ∃ o, h.get? a = some o ∧ o.cls = .type "tuple" ∧ ∃ n, o.data = .seq items n ∧ o.dict = none
theorem TupN.tup {h : Heap} {a : Addr} {items : Array Value} (x : TupN h a items) : IsTup h a items := let ⟨o, e, c, n, d, _⟩ := x; ⟨o, e, c, n, d⟩
theorem TupN.new (h : Heap) (items : Array Value) : TupN (h.push { cls := .type "tuple", data := .seq items }) h.objs.size items := ⟨_, Heap.get?_push_size _ rfl, rfl, _, rfl, rfl⟩
section
variable (P : Program) (w : World)
noncomputable def ObjOk (H : Hp) (h : Heap) (a : Addr) : HO → Prop
  | .lst xs => xs.length ≤ sizeLine ∧ ∃ (its : List Value) (n : Nat), Vals xs its ∧ h.get? a = some { cls := .type "list", data := .seq its.toArray n }
  | .tup xs => xs.length ≤ sizeLine ∧ ∃ its : List Value, Vals xs its ∧ TupN h a its.toArray
  | .dK kvs => kvs.length ≤ sizeLine ∧ (a == sysModules) = false ∧ ∃ vs, KV kvs vs ∧ h.DictOf (mixKind P w) a vs
  | .dT kvs => kvs.length ≤ sizeLine ∧ (a == sysModules) = false ∧ ∃ xs : List (List Key × Addr × Value),
      Paired (fun (p : List Key × V) (q : List Key × Addr × Value) => p.1 = q.1 ∧ H q.2.1 = some (.tup (p.1.map kV)) ∧ RelV p.2 q.2.2) kvs xs ∧
      ∃ o es ep, h.get? a = some o ∧ o.ExactDict ∧ o.data = .dict es ep ∧ es.toList = xs.map (entryOfKey (tupleKind (mixKind P w))) ∧ (xs.map (·.1)).Nodup
  | .set S n => h.SetOf (intKind P w) a S n
  | .ins C dx fs => H dx = some (.own a) ∧ fs.length ≤ 1000 ∧ dx ≠ a ∧ h.get? a = some (PySem.W.instObj C dx) ∧
      ∃ mA, h.Ns1 dx mA ∧ (∀ f, RelO (fs.lookup f) (mA f)) ∧ PySem.Within mA (fs.map (·.1))
  | .own _ => ∃ o, h.get? a = some o
  | .xd fs => ∃ mA, h.Ns1 a mA ∧ ∀ f, RelO (fs.lookup f) (mA f)
  | .rng lo hi => ∃ t u v, h.get? a = some { cls := .type "range", data := .fields #[.int lo t, .int hi u, .int 1 v] }
  | .frz o u => h.get? a = some o ∧ ObjOk H h a u
  | .tbl ps => h.get? a = some { cls := .none, data := .fields ps }
  | .met f x => h.get? a = some (PySem.W.methodObj (.ref f) (.ref x))
  | .ext φ => φ h ∧ (∃ o, h.get? a = some o) ∧ ∀ h1 h2 : Heap, φ h1 → (∀ o, h1.get? a = some o → h2.get? a = some o) → φ h2
noncomputable def HOk (H : Hp) (h : Heap) : Prop := ∀ a o, H a = some o → ObjOk P w H h a o
end
section
variable {P : Program} {w : World} {H H' : Hp} {h h' : Heap} {a : Addr} {o : HO}
theorem ObjOk.lt (x : ObjOk P w H h a o) : a < h.objs.size := by
  cases o with
  | lst xs => obtain ⟨_, _, _, _, e⟩ := x; exact Heap.lt_size e
  | tup xs => obtain ⟨_, _, _, p⟩ := x; exact p.tup.lt
  | dK kvs => obtain ⟨_, _, _, _, o, _, _, e, _⟩ := x; exact Heap.lt_size e
  | dT kvs => obtain ⟨_, _, _, _, o, _, _, e, _⟩ := x; exact Heap.lt_size e
  | set S n => obtain ⟨o, _, _, _, e, _⟩ := x; exact Heap.lt_size e
  | ins C dx fs => obtain ⟨_, _, _, e, _⟩ := x; exact Heap.lt_size e
  | own y => obtain ⟨_, e⟩ := x; exact Heap.lt_size e
  | xd fs => obtain ⟨_, ⟨_, _, _, e, _⟩, _⟩ := x; exact Heap.lt_size e
  | rng lo hi => obtain ⟨_, _, _, e⟩ := x; exact Heap.lt_size e
  | frz ob u => obtain ⟨e, _⟩ := x; exact Heap.lt_size e
  | tbl ps => exact Heap.lt_size (show h.get? a = some _ from x)
  | met f y => exact Heap.lt_size (show h.get? a = some _ from x)
  | ext φ => obtain ⟨_, ⟨_, e⟩, _⟩ := x; exact Heap.lt_size e
theorem Paired.mapP {α β : Type} {F G : α → β → Prop} : ∀ {l₁ : List α} {l₂ : List β}, Paired F l₁ l₂ → (∀ a b, F a b → G a b) → Paired G l₁ l₂
  | _, _, .nil, _ => .nil
  | _, _, .cons r t, f => .cons (f _ _ r) (Paired.mapP t f)
theorem ObjOk.stay (x : ObjOk P w H h a o) (k : ∀ b u, (b = a ∨ H b = some (.own a)) → h.get? b = some u → h'.get? b = some u)
    (ho : ∀ b, H b = some (.own a) → H' b = some (.own a)) (ht : ∀ b xs, H b = some (.tup xs) → H' b = some (.tup xs)) : ObjOk P w H' h' a o := by
  induction o with
  | lst xs => obtain ⟨z, its, n, r, e⟩ := x; exact ⟨z, its, n, r, k _ _ (.inl rfl) e⟩
  | tup xs => obtain ⟨z, its, r, ob, e, c⟩ := x; exact ⟨z, its, r, ob, k _ _ (.inl rfl) e, c⟩
  | dK kvs => obtain ⟨z, y, vs, r, ob, es, ep, e, c⟩ := x; exact ⟨z, y, vs, r, ob, es, ep, k _ _ (.inl rfl) e, c⟩
  | dT kvs =>
    obtain ⟨z, y, xs, r, ob, es, ep, e, c⟩ := x
    exact ⟨z, y, xs, Paired.mapP r fun p q z => ⟨z.1, ht _ _ z.2.1, z.2.2⟩, ob, es, ep, k _ _ (.inl rfl) e, c⟩
  | set S n => obtain ⟨ob, es, ep, t, e, c⟩ := x; exact ⟨ob, es, ep, t, k _ _ (.inl rfl) e, c⟩
  | ins C dx fs =>
    obtain ⟨d, z, ne, e, mA, ⟨od, es, ep, e2, c⟩, r⟩ := x
    exact ⟨ho _ d, z, ne, k _ _ (.inl rfl) e, mA, ⟨od, es, ep, k _ _ (.inr d) e2, c⟩, r⟩
  | own y => obtain ⟨ob, e⟩ := x; exact ⟨ob, k _ _ (.inl rfl) e⟩
  | xd fs => obtain ⟨mA, ⟨od, es, ep, e, c⟩, r⟩ := x; exact ⟨mA, ⟨od, es, ep, k _ _ (.inl rfl) e, c⟩, r⟩
  | rng lo hi => obtain ⟨t, u, v, e⟩ := x; exact ⟨t, u, v, k _ _ (.inl rfl) e⟩
  | frz ob u ih => obtain ⟨e, q⟩ := x; exact ⟨k _ _ (.inl rfl) e, ih q⟩
  | tbl ps =>
    have e : h.get? a = some { cls := .none, data := .fields ps } := x
    show h'.get? a = some { cls := .none, data := .fields ps }
    exact k a _ (.inl rfl) e
  | met f y =>
    have e : h.get? a = some (PySem.W.methodObj (.ref f) (.ref y)) := x
    show h'.get? a = some (PySem.W.methodObj (.ref f) (.ref y))
    exact k a _ (.inl rfl) e
  | ext φ => obtain ⟨p, ⟨o, e⟩, st⟩ := x; exact ⟨st _ _ p fun o q => k _ _ (.inl rfl) q, ⟨o, k _ _ (.inl rfl) e⟩, st⟩
theorem HOk.lt (x : HOk P w H h) (e : H a = some o) : a < h.objs.size := (x a o e).lt
theorem HOk.fresh (x : HOk P w H h) (e : h.objs.size ≤ a) : H a = none := by
  cases q : H a with
  | none => rfl
  | some u => exact absurd (Nat.lt_of_lt_of_le (x.lt q) e) (Nat.lt_irrefl _)
theorem HOk.kept (x : HOk P w H h) (k : ∀ b u, h.get? b = some u → h'.get? b = some u) : HOk P w H h' := fun a o e =>
  (x a o e).stay (fun b u _ q => k b u q) (fun _ q => q) fun _ _ q => q
theorem HOk.laid (x : HOk P w H h) (k : ∀ b u, h.get? b = some u → h'.get? b = some u) (hp : h.objs.size ≤ a) (new : ObjOk P w (upd H a o) h' a o) : HOk P w (upd H a o) h' := fun b u e => by
  have hn := x.fresh hp
  by_cases hb : b = a
  · subst hb; rw [upd_same] at e; cases e; exact new
  · rw [upd_ne hb] at e
    exact (x b u e).stay (fun c v _ q => k c v q) (fun c q => by rw [upd_ne (ne_of_none q hn)]; exact q) fun c xs q => by rw [upd_ne (ne_of_none q hn)]; exact q
end
noncomputable def Rd (H : Hp) (a : Addr) (u : HO) : Prop := H a = some u ∨ ∃ o, H a = some (.frz o u)
theorem Rd.ok {P : Program} {w : World} {H : Hp} {h : Heap} {a : Addr} {u : HO} (r : Rd H a u) (x : HOk P w H h) : ObjOk P w H h a u := by
  rcases r with r | ⟨o, r⟩
  · exact x a u r
  · obtain ⟨_, q⟩ := x a _ r
    exact q
noncomputable def Mut : Option HO → Prop
  | some (.lst _) => True
  | some (.dK _) => True
  | some (.dT _) => True
  | some (.set _ _) => True
  | some (.ins _ _ _) => True
  | some (.ext _) => True
  | _ => False
section
variable {P : Program} {w : World} {H : Hp} {h h' : Heap} {x e : Addr} {o' : HO}
theorem HOk.write (ok : HOk P w H h) (mu : Mut (H x)) (he : e = x ∨ H e = some (.own x)) (k : ∀ b u, b ≠ e → h.get? b = some u → h'.get? b = some u) (heo : ∃ u, h'.get? e = some u)
    (new : ObjOk P w (upd H x o') h' x o') : HOk P w (upd H x o') h' := fun b u q => by
  have nown : ∀ c y, H c = some (.own y) → c ≠ x := fun c y r z => by subst z; rw [r] at mu; exact mu
  have ntup : ∀ c xs, H c = some (.tup xs) → c ≠ x := fun c xs r z => by subst z; rw [r] at mu; exact mu
  by_cases hb : b = x
  · subst hb; rw [upd_same] at q; cases q; exact new
  · rw [upd_ne hb] at q
    by_cases hbe : b = e
    · have q' : H b = some (.own x) := by
        rcases he with z | z
        · exact absurd (hbe.trans z) hb
        · rw [hbe]; exact z
      rw [q] at q'; cases q'
      obtain ⟨v, hv⟩ := heo
      exact ⟨v, by rw [hbe]; exact hv⟩
    · refine (ok b u q).stay (fun c v hc r => k c v ?_ r) (fun c r => by rw [upd_ne (nown c b r)]; exact r) fun c xs r => by rw [upd_ne (ntup c xs r)]; exact r
      rcases hc with rfl | hc
      · exact hbe
      · rintro rfl
        rcases he with z | z
        · exact nown c b hc z
        · rw [hc] at z; cases z; exact hb rfl
end
structure Un (fs ex : List Addr) (H H' : Hp) (h h' : Heap) : Prop where
  keep : ∀ b o, h.get? b = some o → H b = none → b ∉ fs → b ∉ ex → h'.get? b = some o
  slot : ∀ b o, h.get? b = some o → H b = none → b ∈ fs → b ∉ ex → ∃ sl, h'.get? b = some { o with slots := sl }
  free : ∀ b o, h.get? b = some o → H b = none → b ∉ ex → H' b = none
  there : ∀ b o, h.get? b = some o → b ∉ ex → ∃ o', h'.get? b = some o'
  tups : ∀ b xs, H b = some (.tup xs) → H' b = some (.tup xs)
  frzs : ∀ b o u, H b = some (.frz o u) → H' b = some (.frz o u)
  tbls : ∀ b ps, H b = some (.tbl ps) → ∃ more, H' b = some (.tbl (ps ++ more))
section
variable {fs fs' ex ex' : List Addr} {H H1 H2 : Hp} {h h1 h2 h' : Heap} {a x e : Addr} {o : HO}
theorem Un.any (u : Un fs ex H H1 h h1) {b : Addr} {ob : Obj} (q : h.get? b = some ob) (n : H b = none) (hx : b ∉ ex) : ∃ sl, h1.get? b = some { ob with slots := sl } := by
  by_cases hb : b ∈ fs
  · exact u.slot b ob q n hb hx
  · exact ⟨ob.slots, u.keep b ob q n hb hx⟩
theorem Un.kept (k : ∀ b u, h.get? b = some u → h'.get? b = some u) : Un fs ex H H h h' :=
  ⟨fun b ob q _ _ _ => k b ob q, fun b ob q _ _ _ => ⟨ob.slots, k b ob q⟩, fun _ _ _ n _ => n, fun b ob q _ => ⟨ob, k b ob q⟩, fun _ _ q => q, fun _ _ _ q => q, fun _ ps q => ⟨#[], by rw [q]; simp⟩⟩
theorem Un.refl : Un fs ex H H h h := Un.kept fun _ _ q => q
theorem Un.laid (k : ∀ b u, h.get? b = some u → h'.get? b = some u) (hp : h.objs.size ≤ a) (hn : H a = none) : Un fs ex H (upd H a o) h h' where
  keep := fun b u q _ _ _ => k b u q
  slot := fun b u q _ _ _ => ⟨u.slots, k b u q⟩
  free := fun b u q n _ => by rw [upd_ne (Nat.ne_of_lt (Nat.lt_of_lt_of_le (Heap.lt_size q) hp))]; exact n
  there := fun b u q _ => ⟨u, k b u q⟩
  tups := fun b xs q => by rw [upd_ne (ne_of_none q hn)]; exact q
  frzs := fun b u xs q => by rw [upd_ne (ne_of_none q hn)]; exact q
  tbls := fun b ps q => ⟨#[], by rw [upd_ne (ne_of_none q hn), q]; simp⟩
theorem Un.write (mu : Mut (H x)) (he : e = x ∨ H e = some (.own x)) (k : ∀ b u, b ≠ e → h.get? b = some u → h'.get? b = some u) (heo : ∃ u, h'.get? e = some u) : Un fs ex H (upd H x o) h h' := by
  have hx : ∀ b, H b = none → b ≠ x := fun b n z => by subst z; rw [n] at mu; exact mu
  have hb : ∀ b, H b = none → b ≠ e := fun b n z => by
    subst z
    rcases he with r | r
    · exact hx b n r
    · rw [n] at r; cases r
  have hm : ∀ b u, H b = some u → ¬ Mut (some u) → b ≠ x := fun b u q nm z => by subst z; rw [q] at mu; exact nm mu
  refine ⟨fun b u q n _ _ => k b u (hb b n) q, fun b u q n _ _ => ⟨u.slots, k b u (hb b n) q⟩, fun b u q n _ => by rw [upd_ne (hx b n)]; exact n, fun b u q _ => ?_,
    fun b xs q => by rw [upd_ne (hm b _ q fun z => z)]; exact q, fun b u xs q => by rw [upd_ne (hm b _ q fun z => z)]; exact q, fun b ps q => ⟨#[], by rw [upd_ne (hm b _ q fun z => z), q]; simp⟩⟩
  by_cases hbe : b = e
  · subst hbe; exact heo
  · exact ⟨u, k b u hbe q⟩
end
noncomputable def trk (h : Heap) (H : Hp) : List Addr := (List.range h.objs.size).filter fun a => (H a).isSome
noncomputable def hidT (h : Heap) (H : Hp) : Heap := PySem.W.hideAll h (trk h H)
theorem hidT_size (h : Heap) (H : Hp) : (hidT h H).objs.size = h.objs.size := PySem.W.hideAll_size _ _
theorem hidT_get {h : Heap} {H : Hp} {b : Addr} {o : Obj} (e : h.get? b = some o) (n : H b = none) : (hidT h H).get? b = some o :=
  PySem.W.hideAll_get _ e fun hm => by
    have q : (H b).isSome = true := (List.mem_filter.mp hm).2
    rw [n] at q; simp at q
theorem of_hidT {h : Heap} {H : Hp} {b : Addr} {o : Obj} (e : (hidT h H).get? b = some o) : h.get? b = some o ∧ H b = none := by
  have e' : h.get? b = some o := PySem.W.of_hideAll (trk h H) e
  refine ⟨e', ?_⟩
  cases q : H b with
  | none => rfl
  | some x =>
    have hm : b ∈ trk h H := List.mem_filter.mpr ⟨List.mem_range.mpr (Heap.lt_size e'), by simp [q]⟩
    have z : (hidT h H).get? b = none := PySem.W.hideAll_none (trk h H) hm
    rw [z] at e; cases e
noncomputable def allNews (g h : Heap) (L : Addr) : List (Addr × Obj) := (List.range h.objs.size).filterMap fun a => if a = L ∨ (g.get? a).isSome = true then none else (h.get? a).map fun o => (a, o)
noncomputable def rest (g h : Heap) (L d : Addr) : List (Addr × Obj) := (allNews g h L).filter fun p => decide (p.1 ≠ d)
end L2
namespace L2
open PySem PySem.Spec PyProof.Rows
structure Mod (K : PySem.W.Frag) (mg : Str → Option Value) (base : Heap) : Prop where
  kin : K.In base
  glob : base.Ns mainGlobals mg
  blt : ∃ mb, base.Ns builtinsNs mb ∧ ∀ x : Str, x ≠ "__name__" → mb x = bootBuiltins x
  nolimit : base.NoLimit
structure Cx where
  prog : Program
  w : World
  K : PySem.W.Frag
  mg : Str → Option Value
  base : Heap
  A : Around
  N : List Str
  s₀ : Shared
  H₀ : Hp
  env : Env
  outer : List Env
  stack : List Env
  ex : List Addr
  fn : Str → Bool
  calm : Bool
  pn : List (Addr × Obj)
  xe : Value → Shared → Prop
noncomputable def frs (l : List Env) : List Addr := l.filterMap (·.frame)
noncomputable abbrev Cx.fs (X : Cx) : List Addr := frs X.outer
noncomputable def Vis (sc : Scope) (x : Str) : Prop := sc.names.lookup x = some .local ∨ sc.names.lookup x = some .cell ∨ sc.names.lookup x = some .free
noncomputable def Loc (sc : Scope) (x : Str) : Prop := sc.names.lookup x = some .local ∨ sc.names.lookup x = some .cell
noncomputable def Look (env : Env) (h : Heap) (m : Str → Option Value) (x : Str) (u : Value) : Prop :=
  (env.kindOf x = some .local ∧ m x = some u) ∨ ((env.kindOf x = some .cell ∨ env.kindOf x = some .free) ∧ ∃ c, env.cells.lookup x = some c ∧ h.IsCell c (some u))
structure Cx.Ok (X : Cx) : Prop where
  mod : Mod X.K X.mg X.base
  kind : X.env.scope.kind = .function
  glob : X.env.globals = mainGlobals
  blt : X.env.builtins = builtinsNs
  above : X.s₀.heap.objs.size ≤ X.env.locals
  inj : ∀ x y c, X.env.cells.lookup x = some c → X.env.cells.lookup y = some c → x = y
  has : ∀ x, (X.env.kindOf x = some .cell ∨ X.env.kindOf x = some .free) → ∃ c, X.env.cells.lookup x = some c
  cab : ∀ x c, X.fn x = true → X.env.cells.lookup x = some c → X.s₀.heap.objs.size ≤ c
  hd : X.calm = true → X.A.handled = none
  frames : X.A.frames = some X.stack
  stk : X.stack = X.outer ∨ (X.stack = X.env :: X.outer ∧ X.env.frame = some X.env.locals)
  exf : ∀ b ∈ X.ex, b ≠ X.env.locals ∧ ∀ x c, X.env.cells.lookup x = some c → c ≠ b
  bs : ∀ b o, X.base.get? b = some o → X.s₀.heap.get? b = some o ∧ X.H₀ b = none
  bsz : X.base.objs.size ≤ X.s₀.heap.objs.size
  noex : ∀ b o, X.base.get? b = some o → b ∉ X.ex
  exfs : ∀ b ∈ X.ex, b ∉ X.fs
  funs : X.s₀.heap.FunFrames X.base X.outer
  frf : ∀ b ∈ X.fs, X.H₀ b = none
structure Inv (X : Cx) (pins : List (Addr × Obj)) (σ : List (Option V)) (H : Hp) (s : Shared) : Prop where
  ok : X.Ok
  os : s.os = X.s₀.os
  bare : AllBare s.gens
  base : Un X.fs X.ex X.H₀ H X.s₀.heap s.heap
  loc : ∃ m, s.heap.Ns X.env.locals m ∧ ∀ (i : Nat) (x : Str) (v : V), X.N[i]? = some x → σ[i]? = some (some v) → Vis X.env.scope x → ∃ u, RelV v u ∧ Look X.env s.heap m x u
  cell : ∀ x c, X.env.cells.lookup x = some c → ∃ v, s.heap.IsCell c v
  free : H X.env.locals = none
  freeC : ∀ x c, X.env.cells.lookup x = some c → H c = none
  pin : ∀ p ∈ X.pn ++ pins, s.heap.get? p.1 = some p.2 ∧ H p.1 = none ∧ p.1 ≠ X.env.locals ∧ p.1 ∉ X.fs ∧ ∀ v, p.2.data ≠ .cell v
  hok : HOk X.prog X.w H s.heap
  len : σ.length = X.N.length
section
variable {X : Cx} {pins : List (Addr × Obj)} {σ : List (Option V)} {H H' : Hp} {s : Shared} {h' : Heap}
theorem Cx.Ok.nofr (ok : X.Ok) {b : Addr} {o : Obj} (e : X.base.get? b = some o) : b ∉ X.fs := fun hb => by
  have := (ok.funs.mem hb).1
  rw [e] at this; cases this
theorem Inv.bs (I : Inv X pins σ H s) : ∀ b o, X.base.get? b = some o → s.heap.get? b = some o ∧ H b = none := fun b o e =>
  ⟨I.base.keep b o (I.ok.bs b o e).1 (I.ok.bs b o e).2 (I.ok.nofr e) (I.ok.noex b o e), I.base.free b o (I.ok.bs b o e).1 (I.ok.bs b o e).2 (I.ok.noex b o e)⟩
theorem Inv.bk (I : Inv X pins σ H s) : ∀ b o, X.base.get? b = some o → s.heap.get? b = some o := fun b o e => (I.bs b o e).1
theorem Inv.mod (I : Inv X pins σ H s) : Mod X.K X.mg X.base := I.ok.mod
theorem Inv.kIn (I : Inv X pins σ H s) : X.K.In s.heap := I.ok.mod.kin.keeps I.bk
theorem Inv.lt (I : Inv X pins σ H s) : X.env.locals < s.heap.objs.size := let ⟨_, hn, _⟩ := I.loc; hn.lt
theorem Inv.sz (I : Inv X pins σ H s) : X.s₀.heap.objs.size ≤ s.heap.objs.size := Nat.le_trans I.ok.above (Nat.le_of_lt I.lt)
theorem Inv.nofs (I : Inv X pins σ H s) {a : Addr} (h : s.heap.objs.size ≤ a) : a ∉ X.fs := fun hb => by
  obtain ⟨_, o, ho, _⟩ := I.ok.funs.mem hb
  exact absurd (Nat.lt_of_lt_of_le (Heap.lt_size ho) (Nat.le_trans I.sz h)) (Nat.lt_irrefl _)
theorem Inv.cne (I : Inv X pins σ H s) : ∀ x c, X.env.cells.lookup x = some c → c ≠ X.env.locals := fun x c e z => by
  obtain ⟨v, o, ho, hd⟩ := I.cell x c e
  obtain ⟨m, ⟨o', es, ep, ho', hd', _⟩, _⟩ := I.loc
  rw [z, ho'] at ho; cases ho; rw [hd'] at hd; cases hd
theorem Inv.funs (I : Inv X pins σ H s) : s.heap.FunFrames X.base X.outer := by
  have all : ∀ (l : List Env), (∀ b ∈ frs l, b ∈ X.fs) → X.s₀.heap.FunFrames X.base l → s.heap.FunFrames X.base l := by
    intro l
    induction l with
    | nil => intro _ _; trivial
    | cons env r ih =>
      intro hs hl
      obtain ⟨hk, ⟨L, o, hf, hn, ho, hd⟩, hr⟩ := hl
      have hL : L ∈ X.fs := hs L (by unfold frs; rw [List.filterMap_cons, hf]; exact List.mem_cons_self)
      obtain ⟨sl, e⟩ := I.base.slot L o ho (I.ok.frf L hL) hL fun z => I.ok.exfs L z hL
      exact ⟨hk, ⟨L, _, hf, hn, e, hd⟩, ih (fun b hb => hs b (by unfold frs; rw [List.filterMap_cons, hf]; exact List.mem_cons_of_mem _ hb)) hr⟩
  exact all X.outer (fun _ hb => hb) I.ok.funs
theorem Inv.stack (I : Inv X pins σ H s) : s.heap.FunFrames X.base X.stack := by
  rcases I.ok.stk with e | ⟨e, hf⟩
  · rw [e]; exact I.funs
  · rw [e]
    obtain ⟨m, hn, _⟩ := I.loc
    refine .cons (by rw [I.ok.kind]; decide) hf hn ?_ I.funs
    exact Heap.get?_none_of_le (Nat.le_trans I.ok.bsz I.ok.above)
theorem Inv.stkSub (I : Inv X pins σ H s) : ∀ b ∈ frs X.stack, b ∈ X.env.locals :: X.fs := fun b hb => by
  rcases I.ok.stk with e | ⟨e, hf⟩
  · rw [e] at hb; exact List.mem_cons_of_mem _ hb
  · rw [e] at hb
    unfold frs at hb
    rw [List.filterMap_cons, hf] at hb
    exact hb
theorem Inv.stkFree (I : Inv X pins σ H s) : ∀ b ∈ frs X.stack, H b = none := fun b hb => by
  rcases List.mem_cons.mp (I.stkSub b hb) with e | hb
  · rw [e]; exact I.free
  · obtain ⟨_, o, ho, _⟩ := I.ok.funs.mem hb
    exact I.base.free b o ho (I.ok.frf b hb) fun z => I.ok.exfs b z hb
theorem Inv.step {g' : Array GenState} {t' : Nat} {d' : Drawn} {ch : List Addr} (I : Inv X pins σ H s)
    (hch : ∀ b ∈ ch, (b ∈ X.ex ∨ X.s₀.heap.objs.size ≤ b) ∧ b ≠ X.env.locals ∧ (∀ x c, X.env.cells.lookup x = some c → c ≠ b) ∧ ∀ p ∈ X.pn ++ pins, p.1 ≠ b)
    (keep : ∀ b o, b ≠ X.env.locals → b ∉ X.fs → b ∉ ch → s.heap.get? b = some o → H b = none → h'.get? b = some o)
    (slot : ∀ b o, b ≠ X.env.locals → b ∈ X.fs → b ∉ ch → s.heap.get? b = some o → H b = none → ∃ sl, h'.get? b = some { o with slots := sl }) (free : ∀ b o, b ∉ ch → s.heap.get? b = some o → H b = none → H' b = none)
    (there : ∀ b o, b ∉ ch → s.heap.get? b = some o → ∃ o', h'.get? b = some o')
    (tups : ∀ b xs, H b = some (.tup xs) → H' b = some (.tup xs)) (frzs : ∀ b o u, H b = some (.frz o u) → H' b = some (.frz o u)) (tbls : ∀ b ps, H b = some (.tbl ps) → ∃ more, H' b = some (.tbl (ps ++ more)))
    (ns : ∀ m, s.heap.Ns X.env.locals m → h'.Ns X.env.locals m) (hok : HOk X.prog X.w H' h') (hg : AllBare g') :
    Inv X pins σ H' { s with heap := h', gens := g', drawn := d', toks := t' } := by
  have neL : ∀ b o, X.s₀.heap.get? b = some o → b ≠ X.env.locals := fun b o e => Nat.ne_of_lt (Nat.lt_of_lt_of_le (Heap.lt_size e) I.ok.above)
  have neC : ∀ b o, X.s₀.heap.get? b = some o → b ∉ X.ex → b ∉ ch := fun b o e hx hb => by
    rcases (hch b hb).1 with z | z
    · exact hx z
    · exact absurd (Nat.lt_of_lt_of_le (Heap.lt_size e) z) (Nat.lt_irrefl _)
  have cellK : ∀ x c, X.env.cells.lookup x = some c → ∀ v, s.heap.IsCell c v → h'.IsCell c v := fun x c e v ⟨o, ho, hd⟩ => by
    have nch : c ∉ ch := fun z => (hch c z).2.2.1 x c e rfl
    by_cases hc : c ∈ X.fs
    · obtain ⟨sl, q⟩ := slot c o (I.cne x c e) hc nch ho (I.freeC x c e)
      exact ⟨_, q, hd⟩
    · exact ⟨o, keep c o (I.cne x c e) hc nch ho (I.freeC x c e), hd⟩
  refine ⟨I.ok, I.os, hg, ⟨fun b o e n hb hx => ?_, fun b o e n hb hx => ?_, fun b o e n hx => ?_, fun b o e hx => ?_, fun b xs e => tups b xs (I.base.tups b xs e), fun b o xs e => frzs b o xs (I.base.frzs b o xs e), fun b ps e => ?_⟩, ?_, fun x c e => ?_, ?_, fun x c e => ?_, fun p hp => ?_, hok, I.len⟩
  · exact keep b o (neL b o e) hb (neC b o e hx) (I.base.keep b o e n hb hx) (I.base.free b o e n hx)
  · obtain ⟨sl, e1⟩ := I.base.slot b o e n hb hx
    obtain ⟨sl', e2⟩ := slot b _ (neL b o e) hb (neC b o e hx) e1 (I.base.free b o e n hx)
    exact ⟨sl', e2⟩
  · obtain ⟨o', e1⟩ := I.base.there b o e hx
    exact free b o' (neC b o e hx) e1 (I.base.free b o e n hx)
  · obtain ⟨o', e1⟩ := I.base.there b o e hx
    exact there b o' (neC b o e hx) e1
  · obtain ⟨m1, e1⟩ := I.base.tbls b ps e
    obtain ⟨m2, e2⟩ := tbls b _ e1
    exact ⟨m1 ++ m2, by rw [e2, Array.append_assoc]⟩
  · obtain ⟨m, hn, hl⟩ := I.loc
    refine ⟨m, ns m hn, fun i x v e1 e2 e3 => ?_⟩
    obtain ⟨u, r, l⟩ := hl i x v e1 e2 e3
    refine ⟨u, r, ?_⟩
    rcases l with l | ⟨k, c, e, z⟩
    · exact .inl l
    · exact .inr ⟨k, c, e, cellK x c e _ z⟩
  · obtain ⟨v, z⟩ := I.cell x c e
    exact ⟨v, cellK x c e v z⟩
  · obtain ⟨m, ⟨o, _, _, ho, _⟩, _⟩ := I.loc
    exact free _ o (fun z => (hch _ z).2.1 rfl) ho I.free
  · obtain ⟨v, o, ho, hd⟩ := I.cell x c e
    exact free c o (fun z => (hch c z).2.2.1 x c e rfl) ho (I.freeC x c e)
  · obtain ⟨e, n, ne, nf, d⟩ := I.pin p hp
    have nch : p.1 ∉ ch := fun z => (hch p.1 z).2.2.2 p hp rfl
    exact ⟨keep p.1 p.2 ne nf nch e n, free p.1 p.2 nch e n, ne, nf, d⟩
theorem Inv.un {t' : Nat} (I : Inv X pins σ H s) (u : Un X.fs [] H H' s.heap h') (hok : HOk X.prog X.w H' h') : Inv X pins σ H' { s with heap := h', toks := t' } := by
  obtain ⟨m, ⟨o, es, ep, ho, r⟩, _⟩ := id I.loc
  obtain ⟨sl, hL⟩ := u.any ho I.free (by simp)
  exact I.step (g' := s.gens) (d' := s.drawn) (ch := []) (fun _ z => nomatch z) (fun b o _ hb _ e n => u.keep b o e n hb (by simp)) (fun b o _ hb _ e n => u.slot b o e n hb (by simp)) (fun b o _ e n => u.free b o e n (by simp)) (fun b o _ e => u.there b o e (by simp)) u.tups u.frzs u.tbls (fun m' hm => by
    obtain ⟨o', es', ep', ho', r'⟩ := hm
    rw [ho] at ho'; cases ho'
    exact ⟨_, es', ep', hL, r'⟩) hok I.bare
theorem Inv.call {g' : Array GenState} {t' : Nat} {d' : Drawn} {ch : List Addr} (I : Inv X pins σ H s) (u : Un (frs X.stack) ch H H' s.heap h') (hok : HOk X.prog X.w H' h') (hg : AllBare g')
    (hch : ∀ b ∈ ch, (b ∈ X.ex ∨ X.s₀.heap.objs.size ≤ b) ∧ b ≠ X.env.locals ∧ (∀ x c, X.env.cells.lookup x = some c → c ≠ b) ∧ ∀ p ∈ X.pn ++ pins, p.1 ≠ b) :
    Inv X pins σ H' { s with heap := h', gens := g', drawn := d', toks := t' } := by
  obtain ⟨m, ⟨o, es, ep, ho, r⟩, _⟩ := id I.loc
  obtain ⟨sl, hL⟩ := u.any ho I.free fun z => (hch _ z).2.1 rfl
  exact I.step (ch := ch) hch (fun b o hL hb hc e n => u.keep b o e n (fun z => (List.mem_cons.mp (I.stkSub b z)).elim hL hb) hc) (fun b o _ _ hc e n => u.any e n hc) (fun b o hc e n => u.free b o e n hc) (fun b o hc e => u.there b o e hc) u.tups u.frzs u.tbls (fun m' hm => by
    obtain ⟨o', es', ep', ho', r'⟩ := hm
    rw [ho] at ho'; cases ho'
    exact ⟨_, es', ep', hL, r'⟩) hok hg
theorem Inv.turned {t' : Nat} {it : Addr} (I : Inv X pins σ H s) (k : ∀ b o, b ≠ it → s.heap.get? b = some o → h'.get? b = some o) (hn : H it = none) (hL : it ≠ X.env.locals)
    (h1 : it ∈ X.ex ∨ X.s₀.heap.objs.size ≤ it) (h2 : ∀ x c, X.env.cells.lookup x = some c → c ≠ it) (h3 : ∀ p ∈ X.pn ++ pins, p.1 ≠ it) : Inv X pins σ H { s with heap := h', toks := t' } := by
  have nit : ∀ b u, H b = some u → b ≠ it := fun b u e z => by rw [z, hn] at e; cases e
  refine I.step (g' := s.gens) (d' := s.drawn) (ch := [it]) (fun b hb => ?_) (fun b o _ _ hc e _ => k b o (fun z => hc (by simp [z])) e) (fun b o _ _ hc e _ => ⟨o.slots, k b o (fun z => hc (by simp [z])) e⟩) (fun _ _ _ _ n => n)
    (fun b o hc e => ⟨o, k b o (fun z => hc (by simp [z])) e⟩) (fun _ _ e => e) (fun _ _ _ e => e) (fun b ps e => ⟨#[], by rw [e]; simp⟩) (fun m hm => ?_) (fun b u e => ?_) I.bare
  · have e : b = it := by simpa using hb
    subst e
    exact ⟨h1, hL, h2, h3⟩
  · obtain ⟨o, es, ep, ho, r⟩ := hm
    exact ⟨o, es, ep, k _ o (Ne.symm hL) ho, r⟩
  · refine (I.hok b u e).stay (fun c v hc q => k c v ?_ q) (fun _ q => q) fun _ _ q => q
    rcases hc with z | z
    · rw [z]; exact nit b u e
    · exact nit c _ z
theorem Inv.tok (I : Inv X pins σ H s) (t : Nat) : Inv X pins σ H { s with toks := t } := I.un (h' := s.heap) (t' := t) Un.refl I.hok
theorem Inv.kept {t' : Nat} (I : Inv X pins σ H s) (k : ∀ b u, s.heap.get? b = some u → h'.get? b = some u) : Inv X pins σ H { s with heap := h', toks := t' } := I.un (Un.kept k) (I.hok.kept k)
theorem Inv.laid {a : Addr} {o : HO} {t' : Nat} (I : Inv X pins σ H s) (k : ∀ b u, s.heap.get? b = some u → h'.get? b = some u) (hp : s.heap.objs.size ≤ a) (new : ObjOk X.prog X.w (upd H a o) h' a o) :
    Inv X pins σ (upd H a o) { s with heap := h', toks := t' } := I.un (Un.laid k hp (I.hok.fresh hp)) (I.hok.laid k hp new)
theorem Inv.write {x e : Addr} {o : HO} {t' : Nat} (I : Inv X pins σ H s) (mu : Mut (H x)) (he : e = x ∨ H e = some (.own x)) (k : ∀ b u, b ≠ e → s.heap.get? b = some u → h'.get? b = some u) (heo : ∃ u, h'.get? e = some u)
    (new : ObjOk X.prog X.w (upd H x o) h' x o) : Inv X pins σ (upd H x o) { s with heap := h', toks := t' } := I.un (Un.write mu he k heo) (I.hok.write mu he k heo new)
theorem Inv.pins_of {pins' : List (Addr × Obj)} (I : Inv X pins σ H s) (h : ∀ p ∈ pins', s.heap.get? p.1 = some p.2 ∧ H p.1 = none ∧ p.1 ≠ X.env.locals ∧ p.1 ∉ X.fs ∧ ∀ v, p.2.data ≠ .cell v) : Inv X pins' σ H s :=
  ⟨I.ok, I.os, I.bare, I.base, I.loc, I.cell, I.free, I.freeC, fun p hp => (List.mem_append.mp hp).elim (fun z => I.pin p (List.mem_append_left _ z)) (h p), I.hok, I.len⟩
theorem nodup_ix {N : List Str} (hN : N.Nodup) {i j : Nat} {x : Str} (a : N[i]? = some x) (b : N[j]? = some x) : i = j := by
  obtain ⟨h1, e1⟩ := List.getElem?_eq_some_iff.mp a
  obtain ⟨h2, e2⟩ := List.getElem?_eq_some_iff.mp b
  exact (List.getElem_inj hN).mp (e1.trans e2.symm)
theorem store_ok2 {M : Model} {A : Around} {E : Value → Shared → Prop} {i : Nat} {x : Str} {v : V} {u : Value} {Q : Unit → Shared → Prop} (I : Inv X pins σ H s) (hN : X.N.Nodup) (hi : X.N[i]? = some x) (hx : Loc X.env.scope x) (r : RelV v u)
    (h : ∀ s', Inv X pins (σ.set i (some v)) H s' → (∃ a, Heap.SameBut a s.heap s'.heap ∧ (a = X.env.locals ∨ X.env.cells.lookup x = some a)) → Q () s') (hf : X.fn x = true ∨ X.env.scope.names.lookup x = some .local := by first | exact .inl rfl | exact .inr rfl | assumption) : wpAny M A (storeName X.env x u) Q E s := by
  obtain ⟨m, hn, hl⟩ := id I.loc
  have hcls : (X.env.scope.kind == .class || (X.env.scope.kind == .module && X.env.locals != X.env.globals)) = false := by rw [I.ok.kind]; rfl
  have hiσ : i < σ.length := by rw [I.len]; exact (List.getElem?_eq_some_iff.mp hi).1
  have cne := I.cne
  have tracked : ∀ {a : Addr} {h' : Heap}, (∃ o, s.heap.get? a = some o ∧ H a = none) → Heap.SameBut a s.heap h' → HOk X.prog X.w H h' := fun {a h'} ha hs b ob e => by
    obtain ⟨_, _, hfree⟩ := ha
    refine (I.hok b ob e).stay (fun c w' hc q => (hs.2 c ?_).trans q) (fun _ q => q) fun _ _ q => q
    rintro rfl
    rcases hc with rfl | hc
    · rw [hfree] at e; cases e
    · rw [hfree] at hc; cases hc
  rcases hx with hk | hk
  · refine wpAny_storeName_local hk hn (fun h' hn' hs => ?_) hcls
    obtain ⟨oL, _, _, hoL, _⟩ := id hn
    refine h _ ⟨I.ok, I.os, I.bare, ⟨fun b o e n hb hx => ?_, fun b o e n hb hx => ?_, I.base.free, fun b o e hx => ?_, I.base.tups, I.base.frzs, I.base.tbls⟩, ⟨_, hn', fun j y v' e1 e2 e3 => ?_⟩, fun y c e => ?_, I.free, I.freeC, fun p hp => ?_, tracked ⟨oL, hoL, I.free⟩ hs, by simpa using I.len⟩ ⟨_, hs, .inl rfl⟩
    · exact (hs.2 b (Nat.ne_of_lt (Nat.lt_of_lt_of_le (Heap.lt_size e) I.ok.above))).trans (I.base.keep b o e n hb hx)
    · obtain ⟨sl, e1⟩ := I.base.slot b o e n hb hx
      exact ⟨sl, (hs.2 b (Nat.ne_of_lt (Nat.lt_of_lt_of_le (Heap.lt_size e) I.ok.above))).trans e1⟩
    · obtain ⟨o', e1⟩ := I.base.there b o e hx
      exact ⟨o', (hs.2 b (Nat.ne_of_lt (Nat.lt_of_lt_of_le (Heap.lt_size e) I.ok.above))).trans e1⟩
    · by_cases hj : j = i
      · subst hj
        rw [hi] at e1; cases e1
        rw [List.getElem?_set_self hiσ] at e2
        cases e2
        exact ⟨u, r, .inl ⟨hk, by simp⟩⟩
      · rw [List.getElem?_set_ne (Ne.symm hj)] at e2
        obtain ⟨u', r', q⟩ := hl j y v' e1 e2 e3
        refine ⟨u', r', ?_⟩
        rcases q with ⟨k, e⟩ | ⟨k, c, e, z⟩
        · refine .inl ⟨k, ?_⟩
          have : y ≠ x := fun e => hj (nodup_ix hN e1 (e ▸ hi))
          simp [this, e]
        · exact .inr ⟨k, c, e, z.sameBut hs (cne y c e)⟩
    · obtain ⟨w', z⟩ := I.cell y c e
      exact ⟨w', z.sameBut hs (cne y c e)⟩
    · obtain ⟨e, n, ne, nf, d⟩ := I.pin p hp
      exact ⟨(hs.2 p.1 ne).trans e, n, ne, nf, d⟩
  · have hfn : X.fn x = true := by
      rcases hf with z | z
      · exact z
      · rw [z] at hk; cases hk
    obtain ⟨c, hc⟩ := I.ok.has x (.inl hk)
    obtain ⟨w', z⟩ := I.cell x c hc
    refine wpAny_storeName_cell I.ok.kind hk hc z (fun h' hc' hs => ?_)
    obtain ⟨oc, hoc, hocd⟩ := id z
    refine h { s with heap := h' } ⟨I.ok, I.os, I.bare, ⟨fun b o e n hb hx => ?_, fun b o e n hb hx => ?_, I.base.free, fun b o e hx => ?_, I.base.tups, I.base.frzs, I.base.tbls⟩, ⟨m, hn.sameBut hs (Ne.symm (cne x c hc)), fun j y v' e1 e2 e3 => ?_⟩, fun y c' e => ?_, I.free, I.freeC, fun p hp => ?_, tracked ⟨oc, hoc, I.freeC x c hc⟩ hs, by simpa using I.len⟩ ⟨c, hs, .inr hc⟩
    · exact (hs.2 b (Nat.ne_of_lt (Nat.lt_of_lt_of_le (Heap.lt_size e) (I.ok.cab x c hfn hc)))).trans (I.base.keep b o e n hb hx)
    · obtain ⟨sl, e1⟩ := I.base.slot b o e n hb hx
      exact ⟨sl, (hs.2 b (Nat.ne_of_lt (Nat.lt_of_lt_of_le (Heap.lt_size e) (I.ok.cab x c hfn hc)))).trans e1⟩
    · obtain ⟨o', e1⟩ := I.base.there b o e hx
      exact ⟨o', (hs.2 b (Nat.ne_of_lt (Nat.lt_of_lt_of_le (Heap.lt_size e) (I.ok.cab x c hfn hc)))).trans e1⟩
    · by_cases hj : j = i
      · subst hj
        rw [hi] at e1; cases e1
        rw [List.getElem?_set_self hiσ] at e2
        cases e2
        exact ⟨u, r, .inr ⟨.inl hk, c, hc, hc'⟩⟩
      · rw [List.getElem?_set_ne (Ne.symm hj)] at e2
        obtain ⟨u', r', q⟩ := hl j y v' e1 e2 e3
        refine ⟨u', r', ?_⟩
        rcases q with q | ⟨k, c', e, z'⟩
        · exact .inl q
        · refine .inr ⟨k, c', e, z'.sameBut hs ?_⟩
          rintro rfl
          exact hj (nodup_ix hN e1 (I.ok.inj _ _ _ e hc ▸ hi))
    · by_cases hcc : c' = c
      · subst hcc; exact ⟨_, hc'⟩
      · obtain ⟨w2, z2⟩ := I.cell y c' e
        exact ⟨w2, z2.sameBut hs hcc⟩
    · obtain ⟨e, n, ne, nf, d⟩ := I.pin p hp
      refine ⟨(hs.2 p.1 ?_).trans e, n, ne, nf, d⟩
      intro q
      rw [q, hoc] at e
      have q' : oc = p.2 := Option.some.inj e
      exact d w' (by rw [← q']; exact hocd)
theorem store_ok {M : Model} {A : Around} {E : Value → Shared → Prop} {i : Nat} {x : Str} {v : V} {u : Value} {Q : Unit → Shared → Prop} (I : Inv X pins σ H s) (hN : X.N.Nodup) (hi : X.N[i]? = some x) (hx : Loc X.env.scope x) (r : RelV v u)
    (h : ∀ s', Inv X pins (σ.set i (some v)) H s' → Q () s') (hf : X.fn x = true ∨ X.env.scope.names.lookup x = some .local := by first | exact .inl rfl | exact .inr rfl | assumption) : wpAny M A (storeName X.env x u) Q E s :=
  store_ok2 I hN hi hx r (fun s' I' _ => h s' I') hf
theorem Inv.call' {s' : Shared} {ch : List Addr} (I : Inv X pins σ H s) (ho : s'.os = s.os) (u : Un (frs X.stack) ch H H' s.heap s'.heap) (hok : HOk X.prog X.w H' s'.heap) (hg : AllBare s'.gens)
    (hch : ∀ b ∈ ch, (b ∈ X.ex ∨ X.s₀.heap.objs.size ≤ b) ∧ b ≠ X.env.locals ∧ (∀ x c, X.env.cells.lookup x = some c → c ≠ b) ∧ ∀ p ∈ X.pn ++ pins, p.1 ≠ b) : Inv X pins σ H' s' := by
  obtain ⟨h', g', d', t', o'⟩ := s'
  have e : o' = s.os := ho
  subst e
  exact I.call (g' := g') (t' := t') (d' := d') u hok hg hch
end
noncomputable abbrev XK := Value → Option Addr → Hp → Prop
noncomputable abbrev St := List (Option V)
noncomputable abbrev VK := V → Hp → Prop
noncomputable abbrev TE := St → Hp → VK → Prop
noncomputable abbrev TT := St → Hp → (Bool → Hp → Prop) → Prop
noncomputable abbrev TA := St → Hp → (List V → Hp → Prop) → Prop
structure Ends where
  nx : St → Hp → Prop
  rt : VK
  bk : St → Hp → Prop := fun _ _ => False
  ct : St → Hp → Prop := fun _ _ => False
noncomputable abbrev TS := Ends → St → Hp → Prop
noncomputable def EP (X : Cx) (pins : List (Addr × Obj)) (σ : St) (Q : VK) (u : Value) (s' : Shared) : Prop := ∃ v H', Inv X pins σ H' s' ∧ RelV v u ∧ Q v H'
noncomputable def TP (X : Cx) (pins : List (Addr × Obj)) (σ : St) (Q : Bool → Hp → Prop) (b : Bool) (s' : Shared) : Prop := ∃ H', Inv X pins σ H' s' ∧ Q b H'
noncomputable def AP (X : Cx) (pins : List (Addr × Obj)) (σ : St) (Q : List V → Hp → Prop) (us : List Value) (s' : Shared) : Prop := ∃ vs H', Inv X pins σ H' s' ∧ Vals vs us ∧ Q vs H'
noncomputable def SP (X : Cx) (pins : List (Addr × Obj)) (D : Ends) (f : Flow) (s' : Shared) : Prop :=
  match f with
  | .next => ∃ σ' H', Inv X pins σ' H' s' ∧ D.nx σ' H'
  | .brk => ∃ σ' H', Inv X pins σ' H' s' ∧ D.bk σ' H'
  | .cont => ∃ σ' H', Inv X pins σ' H' s' ∧ D.ct σ' H'
  | .ret u => ∃ v σ' H', Inv X pins σ' H' s' ∧ RelV v u ∧ D.rt v H'
noncomputable def PE (X : Cx) (e : Expr) (t : TE) : Prop :=
  ∀ (pins : List (Addr × Obj)) (s : Shared) (σ : St) (H : Hp) (Q : VK), Inv X pins σ H s → t σ H Q → wpAny (model X.prog X.w) X.A (eval e X.env) (EP X pins σ Q) X.xe s
noncomputable def PT (X : Cx) (e : Expr) (t : TT) : Prop :=
  ∀ (pins : List (Addr × Obj)) (s : Shared) (σ : St) (H : Hp) (Q : Bool → Hp → Prop), Inv X pins σ H s → t σ H Q → wpAny (model X.prog X.w) X.A (isTrue e X.env (eval e X.env)) (TP X pins σ Q) X.xe s
noncomputable def PW (X : Cx) (e : Expr) (t : TT) : Prop :=
  ∀ (whole : Sem Value) (pins : List (Addr × Obj)) (s : Shared) (σ : St) (H : Hp) (Q : Bool → Hp → Prop), Inv X pins σ H s → t σ H Q → wpAny (model X.prog X.w) X.A (isTrue e X.env whole) (TP X pins σ Q) X.xe s
theorem PW.pt {X : Cx} {e : Expr} {t : TT} (h : PW X e t) : PT X e t := h _
noncomputable def PA (X : Cx) (es : List Expr) (t : TA) : Prop :=
  ∀ (pos : Pos) (pins : List (Addr × Obj)) (s : Shared) (σ : St) (H : Hp) (Q : List V → Hp → Prop), Inv X pins σ H s → t σ H Q → wpAny (model X.prog X.w) X.A (spliced (backTo pos (starEach es X.env))) (AP X pins σ Q) X.xe s
noncomputable def PS (X : Cx) (st : Stmt) (t : TS) : Prop :=
  ∀ (pins : List (Addr × Obj)) (s : Shared) (σ : St) (H : Hp) (D : Ends), Inv X pins σ H s → t D σ H → wpAny (model X.prog X.w) X.A (exec st X.env) (SP X pins D) X.xe s
noncomputable def PSs (X : Cx) (st : List Stmt) (t : TS) : Prop :=
  ∀ (pins : List (Addr × Obj)) (s : Shared) (σ : St) (H : Hp) (D : Ends), Inv X pins σ H s → t D σ H → wpAny (model X.prog X.w) X.A (execs st X.env) (SP X pins D) X.xe s
theorem thn {α : Type} {t : Sem α} {Q Q' : α → Shared → Prop} {M : Model} {A : Around} {E : Value → Shared → Prop} {s : Shared} (h : wpAny M A t Q E s) (hQ : ∀ a s, Q a s → Q' a s) : wpAny M A t Q' E s := wpAny_mono h hQ fun _ _ x => x
end L2
namespace L2
open PySem PySem.Spec PyProof.Rows
section
variable {X : Cx}
noncomputable def tVar (i : Nat) : TE := fun σ H Q => ∃ v, σ[i]? = some (some v) ∧ Q v H
noncomputable def tC (v : V) : TE := fun _ H Q => Q v H
theorem pe_var {i : Nat} {x : Str} {pos : Pos} (hN : X.N[i]? = some x) (hv : Vis X.env.scope x) (hd : (x == ("__debug__" : Str)) = false := by decide) (hcd : (x == ("__classdict__" : Str)) = false := by decide) : PE X (.Name x pos) (tVar i) := by
  intro pins s σ H Q I h
  obtain ⟨v, e, h⟩ := h
  obtain ⟨m, hn, hl⟩ := I.loc
  obtain ⟨u, r, l⟩ := hl i x v hN e hv
  have fin : EP X pins σ Q u s := ⟨v, H, I, r, h⟩
  rcases l with ⟨hk, hm⟩ | ⟨hk, c, hc, hcell⟩
  · exact wpAny_Name (wpAny_loadName_local I.ok.kind hk hn hm fin) hd
  · rcases hk with hk | hk
    · exact wpAny_Name (wpAny_loadName_cell I.ok.kind hk hc hcell fin) hd
    · exact wpAny_Name (wpAny_loadName_free I.ok.kind hk hc hcell fin hcd) hd
theorem pe_int {i j pos} : PE X (.Constant (.int i) j pos) (tC (.int i)) := fun _ _ _ H _ I h => wpAny_Constant_int ⟨.int i, H, I.tok _, ⟨_, rfl⟩, h⟩
theorem pe_bl {b j pos} : PE X (.Constant (.bool b) j pos) (tC (.bl b)) := fun _ _ _ H _ I h => Constant_bool ⟨.bl b, H, I, rfl, h⟩
theorem pe_non {j pos} : PE X (.Constant .none j pos) (tC .non) := fun _ _ _ H _ I h => Constant_none ⟨.non, H, I, rfl, h⟩
theorem pe_str {x j pos} : PE X (.Constant (.str x) j pos) (tC (.str x)) := fun _ _ _ H _ I h => Calls.Constant_str ⟨.str x, H, I.tok _, ⟨_, rfl⟩, h⟩
noncomputable def Gl (X : Cx) (x : Str) : Prop := X.env.kindOf x = some .globalImplicit
theorem ld_glob {E : Value → Shared → Prop} {pins : List (Addr × Obj)} {s : Shared} {σ : St} {H : Hp} {x : Str} {u : Value} {pos : Pos} {Q : Value → Shared → Prop} (I : Inv X pins σ H s) (hg : Gl X x) (hm : X.mg x = some u) (h : Q u s)
    (hd : (x == ("__debug__" : Str)) = false := by decide) : wpAny (model X.prog X.w) X.A (eval (.Name x pos) X.env) Q E s :=
  Calls.Name_function_global I.ok.kind hg (Calls.loadGlobal_global (by rw [I.ok.glob]; exact I.mod.glob.keeps I.bk) hm h) hd
theorem ld_blt {E : Value → Shared → Prop} {pins : List (Addr × Obj)} {s : Shared} {σ : St} {H : Hp} {x : Str} {u : Value} {pos : Pos} {Q : Value → Shared → Prop} (I : Inv X pins σ H s) (hg : Gl X x) (hm : X.mg x = none) (hv : bootBuiltins x = some u) (h : Q u s)
    (hn : x ≠ "__name__" := by decide) (hd : (x == ("__debug__" : Str)) = false := by decide) : wpAny (model X.prog X.w) X.A (eval (.Name x pos) X.env) Q E s := by
  obtain ⟨mb, h1, h2⟩ := I.mod.blt
  exact Calls.Name_function_global I.ok.kind hg (Calls.loadGlobal_builtin (by rw [I.ok.glob]; exact I.mod.glob.keeps I.bk) hm (by rw [I.ok.blt]; exact h1.keeps I.bk) ((h2 x hn).trans hv) h) hd
theorem pe_glob {x : Str} {v : V} {u : Value} {pos : Pos} (hg : Gl X x) (hm : X.mg x = some u) (r : RelV v u) (hd : (x == ("__debug__" : Str)) = false := by decide) : PE X (.Name x pos) (tC v) :=
  fun _ _ _ H _ I h => ld_glob I hg hm ⟨v, H, I, r, h⟩ hd
theorem pe_bltn {x : Str} {v : V} {u : Value} {pos : Pos} (hg : Gl X x) (hm : X.mg x = none) (hv : bootBuiltins x = some u) (r : RelV v u) (hn : x ≠ "__name__" := by decide) (hd : (x == ("__debug__" : Str)) = false := by decide) : PE X (.Name x pos) (tC v) :=
  fun _ _ _ H _ I h => ld_blt I hg hm hv ⟨v, H, I, r, h⟩ hn hd
variable {a b : Expr} {ta tb : TE} {pos : Pos}
noncomputable def tB (t : TE) : TT := fun σ H Q => t σ H fun x H1 => ∃ c, x = .bl c ∧ Q c H1
theorem pt_val {e : Expr} {t : TE} (h : PE X e t) (he : ∀ whole, isTrue e X.env whole = (do let v ← whole; standAt e.pos; holding [v] (truthy v)) := by intro _; rfl) : PT X e (tB t) := by
  intro pins s σ H Q I hw
  refine isTrue_plain (thn (h pins s σ H _ I hw) fun v s1 ⟨x, H1, I1, r1, q1⟩ => ?_) (he _)
  obtain ⟨d, rfl, q⟩ := q1
  cases r1
  exact wpAny_truthy_bool ⟨H1, I1, q⟩
variable {tA tB' : TT} {rest : List Expr}
noncomputable def tAnd (t u : TT) : TT := fun σ H Q => t σ H fun c H1 => if c = true then u σ H1 Q else Q false H1
noncomputable def tOr (t u : TT) : TT := fun σ H Q => t σ H fun c H1 => if c = true then Q true H1 else u σ H1 Q
noncomputable def tNot (t : TT) : TT := fun σ H Q => t σ H fun c H1 => Q (!c) H1
theorem pw_and1 (ha : PT X a tA) : PW X (.BoolOp .And [a] pos) tA := by
  intro wh pins s σ H Q I h
  refine isTrue_and (thn (ha pins s σ H Q I h) fun c s1 e => ?_)
  cases c with
  | true => exact isTrue_and_nil e
  | false => exact e
theorem pw_or1 (ha : PT X a tA) : PW X (.BoolOp .Or [a] pos) tA := by
  intro wh pins s σ H Q I h
  refine isTrue_or (thn (ha pins s σ H Q I h) fun c s1 e => ?_)
  cases c with
  | false => exact isTrue_or_nil e
  | true => exact e
theorem pw_and (ha : PT X a tA) (hb : PW X (.BoolOp .And (b :: rest) pos) tB') : PW X (.BoolOp .And (a :: b :: rest) pos) (tAnd tA tB') := by
  intro wh pins s σ H Q I h
  refine isTrue_and (thn (ha pins s σ H _ I h) fun c s1 ⟨H1, I1, q1⟩ => ?_)
  cases c with
  | true => exact hb wh pins s1 σ H1 Q I1 q1
  | false => exact ⟨H1, I1, q1⟩
theorem pw_or (ha : PT X a tA) (hb : PW X (.BoolOp .Or (b :: rest) pos) tB') : PW X (.BoolOp .Or (a :: b :: rest) pos) (tOr tA tB') := by
  intro wh pins s σ H Q I h
  refine isTrue_or (thn (ha pins s σ H _ I h) fun c s1 ⟨H1, I1, q1⟩ => ?_)
  cases c with
  | true => exact ⟨H1, I1, q1⟩
  | false => exact hb wh pins s1 σ H1 Q I1 q1
theorem pt_not (ha : PT X a tA) : PT X (.UnaryOp .Not a pos) (tNot tA) := by
  intro pins s σ H Q I h
  exact isTrue_not (ha pins s σ H (fun c H1 => Q (!c) H1) I h)
noncomputable def tAndV (ta tb : TE) : TE := fun σ H Q => ta σ H fun x H1 => ∃ c, x = .bl c ∧ if c = true then tb σ H1 Q else Q (.bl false) H1
noncomputable def tNotV (ta : TE) : TE := fun σ H Q => ta σ H fun x H1 => ∃ c, x = .bl c ∧ Q (.bl (!c)) H1
theorem pe_one {op} {t : TE} (h : PE X a t) : PE X (.BoolOp op [a] pos) t := fun pins s σ H Q I hw => BoolOp_one (h pins s σ H Q I hw)
theorem pe_and (ha : PE X a ta) (hb : PE X (.BoolOp .And (b :: rest) pos) tb) : PE X (.BoolOp .And (a :: b :: rest) pos) (tAndV ta tb) := by
  intro pins s σ H Q I h
  refine BoolOp_and (thn (ha pins s σ H _ I h) fun v s1 ⟨x, H1, I1, r1, q1⟩ => ?_)
  obtain ⟨c, rfl, q1⟩ := q1
  cases r1
  refine wpAny_truthy_bool ?_
  cases c with
  | true => exact hb pins s1 σ H1 Q I1 q1
  | false => exact ⟨.bl false, H1, I1, rfl, q1⟩
theorem pe_not (ha : PE X a ta) : PE X (.UnaryOp .Not a pos) (tNotV ta) := by
  intro pins s σ H Q I h
  refine UnaryOp_ (thn (ha pins s σ H _ I h) fun v s1 ⟨x, H1, I1, r1, q1⟩ => ?_)
  obtain ⟨c, rfl, q1⟩ := q1
  cases r1
  exact not_of (wpAny_truthy_bool ⟨.bl (!c), H1, I1, rfl, q1⟩)
end
end L2
namespace L2
open PySem PySem.Spec PyProof.Rows
noncomputable def SqL (K : PySem.W.Frag) (H : Hp) (a : Addr) (xs : List V) : Prop :=
  Rd H a (.lst xs) ∨
    ∃ (o : Obj) (its : Array Value) (n : Nat), K.lookup a = some o ∧ o.cls = .type "list" ∧ o.dict = none ∧ o.data = .seq its n ∧ its.size ≤ sizeLine ∧ Vals xs its.toList
noncomputable def SqT (K : PySem.W.Frag) (H : Hp) (a : Addr) (xs : List V) : Prop :=
  Rd H a (.tup xs) ∨
    ∃ (o : Obj) (its : Array Value) (n : Nat), K.lookup a = some o ∧ o.cls = .type "tuple" ∧ o.data = .seq its n ∧ its.size ≤ sizeLine ∧ Vals xs its.toList
noncomputable def absV : Value → Option V
  | .none => some .non
  | .bool b => some (.bl b)
  | .int i _ => some (.int i)
  | .str x _ => some (.str x)
  | .bytes b _ => some (.byt b)
  | .float b _ => some (.flt b)
  | .ref a => some (.ref a)
  | .type n => some (.ty n)
  | _ => none
theorem RelV.abs {x : V} {u : Value} (r : RelV x u) : absV u = some x := by
  cases x with
  | non => cases r; rfl
  | bl _ => cases r; rfl
  | int _ => obtain ⟨t, rfl⟩ := r; rfl
  | str _ => obtain ⟨t, rfl⟩ := r; rfl
  | byt _ => obtain ⟨t, rfl⟩ := r; rfl
  | flt _ => obtain ⟨t, rfl⟩ := r; rfl
  | ref _ => cases r; rfl
  | ty _ => cases r; rfl
theorem RelV.inj {x y : V} {u : Value} (r : RelV x u) (q : RelV y u) : x = y := Option.some.inj (r.abs.symm.trans q.abs)
theorem Vals.inj : ∀ {xs ys : List V} {us : List Value}, Vals xs us → Vals ys us → xs = ys
  | _, _, _, .nil, .nil => rfl
  | _, _, _, .cons r t, .cons r' t' => by rw [r.inj r', Vals.inj t t']
section
variable {X : Cx} {pins : List (Addr × Obj)} {σ : St} {H : Hp} {s : Shared} {a : Addr} {xs ys : List V}
theorem SqL.of {K : PySem.W.Frag} (h : H a = some (.lst xs)) : SqL K H a xs := .inl (.inl h)
theorem SqT.of {K : PySem.W.Frag} (h : H a = some (.tup xs)) : SqT K H a xs := .inl (.inl h)
theorem Inv.list (I : Inv X pins σ H s) (h : SqL X.K H a xs) : ∃ its : List Value, Vals xs its ∧ PlainL s.heap a its.toArray ∧ xs.length ≤ sizeLine := by
  rcases h with h | ⟨o, its, n, hk, hc, hd, hs, hz, r⟩
  · obtain ⟨z, its, n, r, e⟩ := h.ok I.hok
    exact ⟨its, r, ⟨_, n, e, rfl, rfl, rfl⟩, z⟩
  · refine ⟨its.toList, r, ⟨o, n, I.kIn a o hk, hc, hd, by simpa using hs⟩, ?_⟩
    have e := r.length
    simp only [Array.length_toList] at e
    omega
theorem Inv.tuple (I : Inv X pins σ H s) (h : SqT X.K H a xs) : ∃ its : List Value, Vals xs its ∧ IsTup s.heap a its.toArray ∧ xs.length ≤ sizeLine := by
  rcases h with h | ⟨o, its, n, hk, hc, hs, hz, r⟩
  · obtain ⟨z, its, r, p⟩ := h.ok I.hok
    exact ⟨its, r, p.tup, z⟩
  · refine ⟨its.toList, r, ⟨o, I.kIn a o hk, hc, n, by simpa using hs⟩, ?_⟩
    have e := r.length
    simp only [Array.length_toList] at e
    omega
theorem Inv.list_inj (I : Inv X pins σ H s) (h : SqL X.K H a xs) (h' : SqL X.K H a ys) : xs = ys := by
  obtain ⟨its, r, ⟨o, n, e, _, _, d⟩, _⟩ := I.list h
  obtain ⟨its', r', ⟨o', n', e', _, _, d'⟩, _⟩ := I.list h'
  rw [e] at e'; cases e'
  rw [d] at d'
  injection d' with d1 _
  have : its = its' := by simpa using congrArg Array.toList d1
  subst this
  exact r.inj r'
theorem Inv.tuple_inj (I : Inv X pins σ H s) (h : SqT X.K H a xs) (h' : SqT X.K H a ys) : xs = ys := by
  obtain ⟨its, r, ⟨o, e, _, n, d⟩, _⟩ := I.tuple h
  obtain ⟨its', r', ⟨o', e', _, n', d'⟩, _⟩ := I.tuple h'
  rw [e] at e'; cases e'
  rw [d] at d'
  injection d' with d1 _
  have : its = its' := by simpa using congrArg Array.toList d1
  subst this
  exact r.inj r'
end
noncomputable abbrev Cx.wish (X : Cx) (E : Value → Shared → Prop) : Cx := { X with xe := E }
noncomputable abbrev Cx.nox (X : Cx) : Cx := X.wish fun _ _ => False
theorem Cx.Ok.wish {X : Cx} (ok : X.Ok) (E : Value → Shared → Prop) : (X.wish E).Ok :=
  ⟨ok.mod, ok.kind, ok.glob, ok.blt, ok.above, ok.inj, ok.has, ok.cab, ok.hd, ok.frames, ok.stk, ok.exf, ok.bs, ok.bsz, ok.noex, ok.exfs, ok.funs, ok.frf⟩
theorem Cx.Ok.unwish {X : Cx} {E : Value → Shared → Prop} (ok : (X.wish E).Ok) : X.Ok :=
  ⟨ok.mod, ok.kind, ok.glob, ok.blt, ok.above, ok.inj, ok.has, ok.cab, ok.hd, ok.frames, ok.stk, ok.exf, ok.bs, ok.bsz, ok.noex, ok.exfs, ok.funs, ok.frf⟩
section
variable {X : Cx} {pins : List (Addr × Obj)} {σ : St} {H : Hp} {s : Shared} {E : Value → Shared → Prop}
theorem Inv.wish (I : Inv X pins σ H s) (E : Value → Shared → Prop) : Inv (X.wish E) pins σ H s := ⟨I.ok.wish E, I.os, I.bare, I.base, I.loc, I.cell, I.free, I.freeC, I.pin, I.hok, I.len⟩
theorem Inv.unwish (I : Inv (X.wish E) pins σ H s) : Inv X pins σ H s := ⟨I.ok.unwish, I.os, I.bare, I.base, I.loc, I.cell, I.free, I.freeC, I.pin, I.hok, I.len⟩
theorem SP.unwish {D : Ends} {f : Flow} {s' : Shared} (h : SP (X.wish E) pins D f s') : SP X pins D f s' := by
  cases f with
  | next => obtain ⟨σ', H', I, q⟩ := h; exact ⟨σ', H', I.unwish, q⟩
  | brk => obtain ⟨σ', H', I, q⟩ := h; exact ⟨σ', H', I.unwish, q⟩
  | cont => obtain ⟨σ', H', I, q⟩ := h; exact ⟨σ', H', I.unwish, q⟩
  | ret u => obtain ⟨v, σ', H', I, r, q⟩ := h; exact ⟨v, σ', H', I.unwish, r, q⟩
theorem PSs.nox {st : List Stmt} {t : TS} (h : PSs X.nox st t) : PSs X st t := fun pins s σ H D I hw =>
  wpAny_mono (h pins s σ H D (I.wish _) hw) (fun _ _ q => q.unwish) fun _ _ z => False.elim z
end
section
variable {X : Cx} {st : Stmt} {rest : List Stmt} {t u : TS} {e : Expr} {te : TE} {pos : Pos}
noncomputable def tNext : TS := fun D σ H => D.nx σ H
noncomputable def tSeq (t u : TS) : TS := fun D σ H => t { D with nx := u D } σ H
theorem pss_nil : PSs X [] tNext := fun _ _ σ H _ I h => wpAny_execs_nil ⟨σ, H, I, h⟩
theorem pss_cons (h1 : PS X st t) (h2 : PSs X rest u) : PSs X (st :: rest) (tSeq t u) := by
  intro pins s σ H D I h
  refine wpAny_execs_cons (thn (h1 pins s σ H { D with nx := u D } I h) fun f s1 q => ?_)
  cases f with
  | next =>
    obtain ⟨σ', H', I', q⟩ := q
    exact h2 pins s1 σ' H' D I' q
  | ret v => exact q
  | brk => exact q
  | cont => exact q
theorem pss_one (h1 : PS X st t) : PSs X [st] t := by
  intro pins s σ H D I h
  refine wpAny_execs_cons (thn (h1 pins s σ H D I h) fun f s1 q => ?_)
  cases f with
  | next => exact wpAny_execs_nil q
  | ret v => exact q
  | brk => exact q
  | cont => exact q
theorem Inv.quiet {pins : List (Addr × Obj)} {σ : St} {H : Hp} {s : Shared} (I : Inv X pins σ H s) : interactive X.env = false := by simp [interactive, I.ok.kind]
noncomputable def tDrop (te : TE) : TS := fun D σ H => te σ H fun _ H1 => D.nx σ H1
theorem ps_expr (he : PE X e te) (hs : swapsWith e none pos.line X.env = pure false := by rfl) : PS X (.Expr e pos) (tDrop te) := by
  intro pins s σ H D I h
  exact wpAny_Expr_any (thn (he pins s σ H _ I h) fun v s1 ⟨x, H1, I1, r1, q1⟩ => ⟨σ, H1, I1, q1⟩) I.quiet hs
noncomputable def tRet (te : TE) : TS := fun D σ H => te σ H D.rt
theorem ps_ret (he : PE X e te) : PS X (.Return (some e) pos) (tRet te) := by
  intro pins s σ H D I h
  exact wpAny_Return_some (thn (he pins s σ H _ I h) fun v s1 ⟨x, H1, I1, r1, q1⟩ => ⟨x, σ, H1, I1, r1, q1⟩)
noncomputable def tIfS (c : TT) (t u : TS) : TS := fun D σ H => c σ H fun b H1 => if b = true then t D σ H1 else u D σ H1
theorem ps_if {c : Expr} {a b : List Stmt} {tc : TT} (hc : PT X c tc) (ha : PSs X a t) (hb : PSs X b u) : PS X (.If c a b pos) (tIfS tc t u) := by
  intro pins s σ H D I h
  refine wpAny_If (thn (hc pins s σ H _ I h) fun d s1 ⟨H1, I1, q1⟩ => ?_)
  cases d with
  | true => exact ha pins s1 σ H1 D I1 q1
  | false => exact hb pins s1 σ H1 D I1 q1
noncomputable def tNever : TS := fun _ _ _ => False
theorem ps_never : PS X st tNever := fun _ _ _ _ _ _ h => h.elim
theorem pss_never {sts : List Stmt} : PSs X sts tNever := fun _ _ _ _ _ _ h => h.elim
end
noncomputable abbrev TG := V → St → Hp → (St → Hp → Prop) → Prop
noncomputable abbrev TGs := List V → St → Hp → (St → Hp → Prop) → Prop
noncomputable def PG (X : Cx) (target : Expr) (t : TG) : Prop :=
  ∀ (pins : List (Addr × Obj)) (s : Shared) (σ : St) (H : Hp) (v : V) (u : Value) (Q : St → Hp → Prop), Inv X pins σ H s → RelV v u → t v σ H Q →
    wpAny (model X.prog X.w) X.A (assign target X.env u) (fun _ s' => ∃ σ' H', Inv X pins σ' H' s' ∧ Q σ' H') X.xe s
noncomputable def PGs (X : Cx) (ts : List Expr) (t : TGs) : Prop :=
  ∀ (pins : List (Addr × Obj)) (s : Shared) (σ : St) (H : Hp) (vs : List V) (us : List Value) (Q : St → Hp → Prop), Inv X pins σ H s → Vals vs us → t vs σ H Q →
    wpAny (model X.prog X.w) X.A (assignInOrder ((assignEach ts X.env).map (·.2)) us) (fun _ s' => ∃ σ' H', Inv X pins σ' H' s' ∧ Q σ' H') X.xe s
noncomputable abbrev TSet := V → V → V → Hp → (Hp → Prop) → Prop
noncomputable def PSet (X : Cx) (t : TSet) : Prop :=
  ∀ (pins : List (Addr × Obj)) (s : Shared) (σ : St) (H : Hp) (o i v : V) (ov iv u : Value) (Q : Hp → Prop), Inv X pins σ H s → RelV o ov → RelV i iv → RelV v u → t o i v H Q →
    wpAny (model X.prog X.w) X.A (setItem ov iv u) (fun _ s' => ∃ H', Inv X pins σ H' s' ∧ Q H') X.xe s
section
variable {X : Cx} {pos : Pos}
noncomputable def gName (i : Nat) : TG := fun v σ H Q => Q (σ.set i (some v)) H
theorem pg_name {i : Nat} {x : Str} (hN : X.N.Nodup) (hi : X.N[i]? = some x) (hx : Loc X.env.scope x) (hf : X.fn x = true ∨ X.env.scope.names.lookup x = some .local := by first | exact .inl rfl | exact .inr rfl | assumption) : PG X (.Name x pos) (gName i) := by
  intro pins s σ H v u Q I r h
  exact wpAny_assign_Name (store_ok I hN hi hx r (fun s' I' => ⟨_, H, I', h⟩) hf)
noncomputable def gNil : TGs := fun vs σ H Q => vs = [] ∧ Q σ H
noncomputable def gCons (t : TG) (u : TGs) : TGs := fun vs σ H Q => ∃ v r, vs = v :: r ∧ t v σ H fun σ' H' => u r σ' H' Q
theorem pgs_nil : PGs X [] gNil := by
  intro pins s σ H vs us Q I r h
  obtain ⟨e, h⟩ := h
  subst e
  cases r
  exact assignInOrder_nil ⟨σ, H, I, h⟩
theorem pgs_cons {e : Expr} {es : List Expr} {t : TG} {u : TGs} (h1 : PG X e t) (h2 : PGs X es u)
    (hs : (assignEach (e :: es) X.env).map (·.2) = assign e X.env :: (assignEach es X.env).map (·.2) := by rfl) : PGs X (e :: es) (gCons t u) := by
  intro pins s σ H vs us Q I r h
  obtain ⟨v, vr, e1, h⟩ := h
  subst e1
  cases r with
  | cons r rr =>
    rw [hs]
    refine assignInOrder_cons (thn (h1 pins s σ H _ _ _ I r h) fun _ s1 ⟨σ1, H1, I1, q1⟩ => ?_)
    exact h2 pins s1 σ1 H1 _ _ Q I1 rr q1
noncomputable def gTup (K : PySem.W.Frag) (n : Nat) (t : TGs) : TG := fun v σ H Q => ∃ a xs, v = .ref a ∧ SqT K H a xs ∧ xs.length = n ∧ t xs σ H Q
theorem pg_tup {es : List Expr} {k : Nat} {t : TGs} {n : Nat} (hc : X.calm = true) (h : PGs X es t)
    (hn : (assignEach es X.env).length = n := by rfl) (hst : (assignEach es X.env).findIdx? (·.1) = none := by rfl) : PG X (.Tuple es k pos) (gTup X.K n t) := by
  intro pins s σ H v u Q I r hw
  obtain ⟨a, xs, e1, hq, hl, hw⟩ := hw
  subst e1
  cases r
  obtain ⟨its, rv, ht, hz⟩ := I.tuple hq
  refine assign_Tuple_tuple (I.ok.hd hc) ht (by simp [hn, ← hl, rv.length]) hst fun h' hx => ?_
  have I1 : Inv X pins σ H { s with heap := h' } := I.kept (t' := s.toks) fun b o e => hx b o (Nat.ne_of_lt (Heap.lt_size e)) e
  exact h pins _ σ H xs _ Q I1 (by simpa using rv) hw
noncomputable def gSub (to ti : TE) (t : TSet) : TG := fun v σ H Q => to σ H fun o H1 => ti σ H1 fun i H2 => t o i v H2 fun H3 => Q σ H3
theorem pg_sub {o i : Expr} {to ti : TE} {t : TSet} (ho : PE X o to) (hi : PE X i ti) (hs : PSet X t)
    (ha : ∀ v, assign (.Subscript o i pos) X.env v = (do
      let ov ← holding [v] (eval o X.env)
      let iv ← holding [v, ov] (eval i X.env)
      standAt pos
      holding [v, ov, iv] (setItem ov iv v)
      release [v, ov, iv] []) := by intro _; rfl) : PG X (.Subscript o i pos) (gSub to ti t) := by
  intro pins s σ H v u Q I r h
  rw [ha]
  refine wpAny_bind (wpAny_holding (thn (ho pins s σ H _ I h) fun ov s1 ⟨x, H1, I1, r1, q1⟩ => ?_))
  refine wpAny_bind (wpAny_holding (thn (hi pins s1 σ H1 _ I1 q1) fun iv s2 ⟨y, H2, I2, r2, q2⟩ => ?_))
  refine wpAny_bind (wpAny_standAt (wpAny_bind (wpAny_holding (thn (hs pins s2 σ H2 x y v ov iv u _ I2 r1 r2 r q2) fun _ s3 ⟨H3, I3, q3⟩ => ?_))))
  exact wpAny_release ⟨σ, H3, I3, q3⟩
noncomputable def tAsg (te : TE) (g : TG) : TS := fun D σ H => te σ H fun x H1 => g x σ H1 D.nx
theorem ps_asg {tg e : Expr} {te : TE} {g : TG} (he : PE X e te) (hg : PG X tg g) (hs : swapsWithSole [tg] e pos.line X.env = pure false := by rfl) (hw : swappedStores [tg] e X.env = pure none := by rfl)
    (h1 : (assignEach [tg] X.env).map (·.2) = [assign tg X.env] := by rfl) : PS X (.Assign [tg] e pos) (tAsg te g) := by
  intro pins s σ H D I h
  refine wpAny_Assign_stores (thn (he pins s σ H _ I h) fun v s1 ⟨x, H1, I1, r1, q1⟩ => ?_) hs hw
  rw [h1]
  exact thn (hg pins s1 σ H1 x v _ I1 r1 q1) fun _ s2 q => q
theorem ps_set {i : Nat} {x : Str} {e : Expr} {te : TE} {pos' : Pos} (hN : X.N.Nodup) (hi : X.N[i]? = some x) (hx : Loc X.env.scope x) (he : PE X e te) (hs : swapsWith e (some (.Name x pos')) pos.line X.env = pure false := by rfl) (hf : X.fn x = true ∨ X.env.scope.names.lookup x = some .local := by first | exact .inl rfl | exact .inr rfl | assumption) :
    PS X (.Assign [.Name x pos'] e pos) (tAsg te (gName i)) := by
  intro pins s σ H D I h
  refine wpAny_Assign_Name (thn (he pins s σ H _ I h) fun v s1 ⟨y, H1, I1, r1, q1⟩ => ?_) hs
  exact store_ok I1 hN hi hx r1 (fun s2 I2 => ⟨_, H1, I2, q1⟩) hf
noncomputable def tPar (i j : Nat) (ta : TA) : TS := fun D σ H => ta σ H fun vs H1 => ∃ v w, vs = [v, w] ∧ D.nx ((σ.set i (some v)).set j (some w)) H1
theorem ps_par {i j : Nat} {x y : Str} {a b : Expr} {ta : TA} {px py pt : Pos} {kt k2 pt2} (hc : X.calm = true) (hN : X.N.Nodup) (hi : X.N[i]? = some x) (hj : X.N[j]? = some y) (hij : i ≠ j)
    (hx : X.env.scope.names.lookup x = some .local) (hy : X.env.scope.names.lookup y = some .local) (ha : PA X [a, b] ta)
    (hw : swappedStores [.Tuple [.Name x px, .Name y py] kt pt] (.Tuple [a, b] k2 pt2) X.env = pure (some [x, y]))
    (hs : swapsWithSole [.Tuple [.Name x px, .Name y py] kt pt] (.Tuple [a, b] k2 pt2) pos.line X.env = pure false := by rfl) :
    PS X (.Assign [.Tuple [.Name x px, .Name y py] kt pt] (.Tuple [a, b] k2 pt2) pos) (tPar i j ta) := by
  intro pins s σ H D I h
  rw [exec_Assign_arm]
  refine wpAny_bind (wpAny_standAt ?_)
  rw [hs]
  refine wpAny_bind (wpAny_pure ?_)
  rw [if_neg (by decide)]
  refine wpAny_bind (Tuple_ (thn (ha _ pins s σ H _ I h) fun us s1 ⟨vs, H1, I1, r1, q1⟩ => ?_))
  obtain ⟨v, w, e1, q1⟩ := q1
  subst e1
  obtain ⟨u1, u2, rfl, rv, rw'⟩ : ∃ u1 u2, us = [u1, u2] ∧ RelV v u1 ∧ RelV w u2 := by
    cases r1 with
    | cons p q =>
      cases q with
      | cons p' q' =>
        cases q'
        exact ⟨_, _, rfl, p, p'⟩
  refine wpAny_newObj_type ?_ (by show 2 ≤ sizeLine; decide)
  have I2 : Inv X pins σ H1 { s1 with heap := s1.heap.push { cls := .type "tuple", data := .seq [u1, u2].toArray } } := I1.kept (t' := s1.toks) fun b o e => Heap.get?_push_of_some _ e
  rw [hw]
  refine wpAny_bind (wpAny_pure ?_)
  show wpAny (model X.prog X.w) X.A (do rule "assign.swapped-stores"; let items ← unpackItems (.ref s1.heap.objs.size) 2 none; assignInOrder [fun v => bindName X.env y v, fun v => bindName X.env x v] items.reverse; pure Flow.next) _ _ _
  refine wpAny_bind (wpAny_rule (wpAny_bind (unpackItems_tuple (items := #[u1, u2]) (I.ok.hd hc) (IsTup.new s1.heap _) fun h' hx' => ?_)))
  have I3 := I2.kept (h' := h') (t' := s1.toks) fun b o e => hx' b o (Nat.ne_of_lt (Heap.lt_size e)) e
  show wpAny _ _ (assignInOrder [fun v => bindName X.env y v, fun v => bindName X.env x v] [u2, u1] >>= fun _ => pure Flow.next) _ _ _
  refine wpAny_bind (assignInOrder_cons (wpAny_bindName (store_ok I3 hN hj (.inl hy) rw' (fun s2 I4 => ?_) (.inr hy))))
  refine assignInOrder_cons (wpAny_bindName (store_ok I4 hN hi (.inl hx) rv (fun s3 I5 => assignInOrder_nil (wpAny_pure ?_)) (.inr hx)))
  rw [List.set_comm _ _ (Ne.symm hij)] at I5
  exact ⟨_, H1, I5, q1⟩
end
section
variable {X : Cx} {pos : Pos}
noncomputable def tWhile (c : TT) (tb : TS) : TS := fun D σ H => ∃ W : Nat → St → Hp → Prop, (∃ m, W m σ H) ∧ ∀ m σ H, W m σ H →
  c σ H fun b H1 => if b = true then ∃ N : St → Hp → Prop, (∀ σ' H', N σ' H' → ∃ m', m' < m ∧ W m' σ' H') ∧ tb { D with nx := N, ct := N, bk := D.nx } σ H1 else D.nx σ H1
theorem ps_while {c : Expr} {body : List Stmt} {tc : TT} {tb : TS} (hp : PassesOwn (model X.prog X.w) X.A X.env X.xe) (hc : PT X c tc) (hb : PSs X body tb) : PS X (.While c body [] pos) (tWhile tc tb) := by
  intro pins s σ H D I h
  obtain ⟨W, ⟨m0, w0⟩, turn⟩ := h
  refine wpAny_While (codeAny_whileLoop (fun n s' => ∃ σ' H', Inv X pins σ' H' s' ∧ W n σ' H') ?_ m0 ⟨σ, H, I, w0⟩)
  rintro n s1 ⟨σ1, H1, I1, w1⟩
  refine wpAny_passesOwn hp (thn (hc pins s1 σ1 H1 _ I1 (turn n σ1 H1 w1)) fun b s2 ⟨H2, I2, q2⟩ => ?_)
  cases b with
  | true =>
    obtain ⟨N, hN, q2⟩ := q2
    rw [if_pos rfl]
    refine wpAny_passesOwn hp (thn (hb pins s2 σ1 H2 _ I2 q2) fun f s3 q3 => ?_)
    cases f with
    | next =>
      obtain ⟨σ3, H3, I3, n3⟩ := q3
      obtain ⟨m', hm, w3⟩ := hN σ3 H3 n3
      exact ⟨m', hm, σ3, H3, I3, w3⟩
    | cont =>
      obtain ⟨σ3, H3, I3, n3⟩ := q3
      obtain ⟨m', hm, w3⟩ := hN σ3 H3 n3
      exact ⟨m', hm, σ3, H3, I3, w3⟩
    | brk => exact q3
    | ret v => exact q3
  | false =>
    rw [if_neg Bool.false_ne_true]
    exact wpAny_execs_nil ⟨σ1, H2, I2, q2⟩
end
structure It where
  go : Nat → Hp → Prop
  yld : Nat → Hp → V → Hp → Prop
  stop : Nat → Hp → Prop
noncomputable def FpOk (X : Cx) (pins : List (Addr × Obj)) (H : Hp) (b : Addr) : Prop :=
  H b = none ∧ b ≠ X.env.locals ∧ b ∉ X.fs ∧ (b ∈ X.ex ∨ X.s₀.heap.objs.size ≤ b) ∧ (∀ x c, X.env.cells.lookup x = some c → c ≠ b) ∧ ∀ p ∈ X.pn ++ pins, p.1 ≠ b
theorem Inv.fpOk {X : Cx} {pins : List (Addr × Obj)} {σ : St} {H H' : Hp} {s : Shared} {b : Addr} (I : Inv X pins σ H s) (hb : s.heap.objs.size ≤ b) (hn : H' b = none) : FpOk X pins H' b := by
  refine ⟨hn, Nat.ne_of_gt (Nat.lt_of_lt_of_le I.lt hb), I.nofs hb, .inr (Nat.le_trans I.sz hb), fun x c e z => ?_, fun p hp z => ?_⟩
  · obtain ⟨v, q⟩ := I.cell x c e
    exact absurd (Nat.lt_of_lt_of_le q.lt (by rw [z]; exact hb)) (Nat.lt_irrefl _)
  · exact absurd (Nat.lt_of_lt_of_le (Heap.lt_size (I.pin p hp).1) (by rw [z]; exact hb)) (Nat.lt_irrefl _)
structure Turn (P : Program) (w : World) (K : PySem.W.Frag) (tg : Expr) (J : It) (fp : List Addr) (it : Addr) (tn : Nat → Heap → Prop) : Prop where
  mem : it ∈ fp
  obj : ∀ i h, tn i h → ∀ b ∈ fp, ∃ o, h.get? b = some o ∧ ∀ v, o.data ≠ .cell v
  keep : ∀ i h h', tn i h → (∀ b ∈ fp, ∀ o, h.get? b = some o → h'.get? b = some o) → tn i h'
  item : ∀ (X : Cx), X.prog = P → X.w = w → X.K = K → X.calm = true → ∀ (i : Nat) (pins : List (Addr × Obj)) (s : Shared) (σ : St) (H : Hp) (E : Value → Shared → Prop), Inv X pins σ H s → (∀ b ∈ fp, FpOk X pins H b) → tn i s.heap → J.go i H →
    wpAny (model P w) X.A (pyNext (.ref it)) (fun r s1 => ∃ u, r = some u ∧
      wpAny (model P w) X.A (letOwnedTupleGo tg (.ref it) u) (fun _ s2 => ∃ x H', Inv X pins σ H' s2 ∧ RelV x u ∧ J.yld i H x H' ∧ tn (i + 1) s2.heap ∧ ∀ b ∈ fp, H' b = none) E s1) E s
  done : ∀ (X : Cx), X.prog = P → X.w = w → X.K = K → X.calm = true → ∀ (i : Nat) (pins : List (Addr × Obj)) (s : Shared) (σ : St) (H : Hp) (E : Value → Shared → Prop), Inv X pins σ H s → (∀ b ∈ fp, FpOk X pins H b) → tn i s.heap → J.stop i H →
    wpAny (model P w) X.A (pyNext (.ref it)) (fun r s1 => r = none ∧ Inv X pins σ H s1) E s
  self : ∀ (A : Around) (i : Nat) (s : Shared) (Q : Value → Shared → Prop) (E : Value → Shared → Prop), tn i s.heap → Q (.ref it) s → wpAny (model P w) A (pyIter (.ref it)) Q E s
noncomputable abbrev TI := St → Hp → (It → Hp → Prop) → Prop
noncomputable def PIE (X : Cx) (pins : List (Addr × Obj)) (σ : St) (tg : Expr) (R : It → Hp → Prop) (itv : Value) (s2 : Shared) : Prop :=
  ∃ (it : Addr) (fp : List Addr) (tn : Nat → Heap → Prop) (J : It) (H' : Hp), itv = .ref it ∧ Inv X pins σ H' s2 ∧ Turn X.prog X.w X.K tg J fp it tn ∧ tn 0 s2.heap ∧ (∀ b ∈ fp, FpOk X pins H' b) ∧ R J H'
noncomputable def PI (X : Cx) (tg iter : Expr) (wi : TI) : Prop :=
  ∀ (pins : List (Addr × Obj)) (s : Shared) (σ : St) (H : Hp) (R : It → Hp → Prop), Inv X pins σ H s → wi σ H R →
    wpAny (model X.prog X.w) X.A (eval iter X.env) (fun v s1 => wpAny (model X.prog X.w) X.A (pyIter v) (PIE X pins σ tg R) X.xe s1) X.xe s
theorem go_of {M : Model} {A : Around} {E : Value → Shared → Prop} {s : Shared} {tg : Expr} {it : Addr} {u : Value} {o : Obj} {n : String} {vs : Array Value} {Q : Unit → Shared → Prop} (ho : s.heap.get? it = some o) (hc : o.cls = .type n) (hd : o.data = .fields vs)
    (hn : ["enumerate", "zip", "dict_itemiterator", "dict_reverseitemiterator", "odict_iterator", "itertools.zip_longest", "itertools.pairwise"].contains n = false) (hQ : Q () s) : wpAny M A (letOwnedTupleGo tg (.ref it) u) Q E s := by
  unfold letOwnedTupleGo
  cases tg <;> first
    | exact wpAny_pure hQ
    | (cases u <;> first
        | exact wpAny_pure hQ
        | (refine wpAny_bind (wpAny_load ho ?_)
           rw [hc, hd]
           show wpAny M A (if (["enumerate", "zip", "dict_itemiterator", "dict_reverseitemiterator", "odict_iterator", "itertools.zip_longest", "itertools.pairwise"].contains n && vs[0]? == some (rawInt _)) = true then _ else _) Q E s
           rw [if_neg (by intro h; rw [hn, Bool.false_and] at h; cases h)]
           exact wpAny_pure hQ))
noncomputable def Itl (K : PySem.W.Frag) (a : Addr) : It :=
  ⟨fun i H => ∃ xs x, SqL K H a xs ∧ xs[i]? = some x, fun i H x H' => H' = H ∧ ∀ xs, SqL K H a xs → xs[i]? = some x, fun i H => ∃ xs, SqL K H a xs ∧ xs.length ≤ i⟩
noncomputable def Itt (K : PySem.W.Frag) (a : Addr) : It :=
  ⟨fun i H => ∃ xs x, SqT K H a xs ∧ xs[i]? = some x, fun i H x H' => H' = H ∧ ∀ xs, SqT K H a xs → xs[i]? = some x, fun i H => ∃ xs, SqT K H a xs ∧ xs.length ≤ i⟩
noncomputable def Itr (lo : Int) (n : Nat) : It := ⟨fun i _ => i < n, fun i H x H' => H' = H ∧ x = .int (lo + i), fun i _ => n ≤ i⟩
theorem turn_list {P : Program} {w : World} {K : PySem.W.Frag} {tg : Expr} (a it : Addr) : Turn P w K tg (Itl K a) [it] it (fun i h => h.IsListIter it a i) where
  mem := by simp
  obj := fun i h st b hb => by
    have e : b = it := by simpa using hb
    subst e
    obtain ⟨o, e, c, d⟩ := st
    exact ⟨o, e, fun v z => by rw [d] at z; cases z⟩
  keep := fun i h h' st k => st.at fun o e => k it (by simp) o e
  item := by
    intro X hP hw hK hc i pins s σ H E I hf st hg
    subst hP hw hK
    obtain ⟨xs, x, hq, hx⟩ := hg
    obtain ⟨its, rv, p, hz⟩ := I.list hq
    obtain ⟨u, hu, ru⟩ := rv.get hx
    obtain ⟨f0, f1, f2, f3, f4, f5⟩ := hf it (by simp)
    refine wpAny_pyNext_list_item st p.isList (x := u) (by simpa using hu) fun h' st' sb => ?_
    have I1 : Inv X pins σ H { s with heap := h' } := I.turned (t' := s.toks) (fun b o hb e => (sb.2 b hb).trans e) f0 f1 f3 f4 f5
    obtain ⟨o, e, c, d⟩ := id st'
    exact ⟨u, rfl, go_of (s := { s with heap := h' }) e c d (by decide) ⟨x, H, I1, ru, ⟨rfl, fun ys hy => by rw [I.list_inj hy hq]; exact hx⟩, st', fun b hb => (hf b hb).1⟩⟩
  done := by
    intro X hP hw hK hc i pins s σ H E I hf st hg
    subst hP hw hK
    obtain ⟨xs, hq, hx⟩ := hg
    obtain ⟨its, rv, p, hz⟩ := I.list hq
    obtain ⟨f0, f1, f2, f3, f4, f5⟩ := hf it (by simp)
    have hl := rv.length
    exact wpAny_pyNext_list_end (I.ok.hd hc) st p.isList (by simp; omega) fun h' eb => ⟨rfl, I.turned (t' := s.toks) (fun b o hb e => eb b o hb e) f0 f1 f3 f4 f5⟩
  self := fun _ _ _ _ _ st h => wpAny_pyIter_listiter st h
theorem turn_tuple {P : Program} {w : World} {K : PySem.W.Frag} {tg : Expr} (a it : Addr) : Turn P w K tg (Itt K a) [it] it (fun i h => h.IsTupleIter it a i) where
  mem := by simp
  obj := fun i h st b hb => by
    have e : b = it := by simpa using hb
    subst e
    obtain ⟨o, e, c, d⟩ := st
    exact ⟨o, e, fun v z => by rw [d] at z; cases z⟩
  keep := fun i h h' st k => st.at fun o e => k it (by simp) o e
  item := by
    intro X hP hw hK hc i pins s σ H E I hf st hg
    subst hP hw hK
    obtain ⟨xs, x, hq, hx⟩ := hg
    obtain ⟨its, rv, p, hz⟩ := I.tuple hq
    obtain ⟨u, hu, ru⟩ := rv.get hx
    obtain ⟨f0, f1, f2, f3, f4, f5⟩ := hf it (by simp)
    refine wpAny_pyNext_tuple_item st (show s.heap.IsTuple a its.toArray from p) (x := u) (by simpa using hu) fun h' st' sb => ?_
    have I1 : Inv X pins σ H { s with heap := h' } := I.turned (t' := s.toks) (fun b o hb e => (sb.2 b hb).trans e) f0 f1 f3 f4 f5
    obtain ⟨o, e, c, d⟩ := id st'
    exact ⟨u, rfl, go_of (s := { s with heap := h' }) e c d (by decide) ⟨x, H, I1, ru, ⟨rfl, fun ys hy => by rw [I.tuple_inj hy hq]; exact hx⟩, st', fun b hb => (hf b hb).1⟩⟩
  done := by
    intro X hP hw hK hc i pins s σ H E I hf st hg
    subst hP hw hK
    obtain ⟨xs, hq, hx⟩ := hg
    obtain ⟨its, rv, p, hz⟩ := I.tuple hq
    obtain ⟨f0, f1, f2, f3, f4, f5⟩ := hf it (by simp)
    have hl := rv.length
    exact wpAny_pyNext_tuple_end (I.ok.hd hc) st (show s.heap.IsTuple a its.toArray from p) (by simp; omega) fun h' eb => ⟨rfl, I.turned (t' := s.toks) (fun b o hb e => eb b o hb e) f0 f1 f3 f4 f5⟩
  self := fun _ _ _ _ _ st h => wpAny_pyIter_tupleiter st h
theorem turn_range {P : Program} {w : World} {K : PySem.W.Frag} {tg : Expr} (it : Addr) (lo : Int) (n : Nat) : Turn P w K tg (Itr lo n) [it] it (fun i h => IsRangeIter h it (lo + (i : Nat) * 1) ((n : Int) - (i : Nat)) 1) where
  mem := by simp
  obj := fun i h st b hb => by
    have e : b = it := by simpa using hb
    subst e
    exact ⟨_, st, fun v z => by
      have z' : Data.fields _ = Data.cell v := z
      cases z'⟩
  keep := fun i h h' st k => k it (by simp) _ st
  item := by
    intro X hP hw hK hc i pins s σ H E I hf st hg
    subst hP hw hK
    obtain ⟨f0, f1, f2, f3, f4, f5⟩ := hf it (by simp)
    have W := Walks.range (prog := X.prog) (w := X.w) (I.ok.hd hc) it lo 1 n
    refine W.item i s _ _ hg st fun v h' tk hv st' kk => ?_
    obtain ⟨t, rfl⟩ := hv
    have I1 : Inv X pins σ H { s with heap := h', toks := tk } := I.turned (fun b o hb e => kk b o (by simpa using hb) e) f0 f1 f3 f4 f5
    refine ⟨_, rfl, go_of (s := { s with heap := h', toks := tk }) (n := "range_iterator") st' rfl rfl (by decide) ⟨.int (lo + i), H, I1, ⟨t, ?_⟩, ⟨rfl, rfl⟩, st', fun b hb => (hf b hb).1⟩⟩
    rw [Int.mul_one]
  done := by
    intro X hP hw hK hc i pins s σ H E I hf st hg
    subst hP hw hK
    obtain ⟨f0, f1, f2, f3, f4, f5⟩ := hf it (by simp)
    exact wpAny_pyNext_range_end (I.ok.hd hc) st (by have : n ≤ i := hg; omega) fun h' eb => ⟨rfl, I.turned (t' := s.toks) (fun b o hb e => eb b o hb e) f0 f1 f3 f4 f5⟩
  self := fun _ _ _ _ _ st h => wpAny_pyIter_rangeiter st h
end L2
namespace L2
open PySem PySem.Spec PyProof.Rows
section
variable {X : Cx} {tg : Expr}
noncomputable def iList (K : PySem.W.Frag) (tl : TE) : TI := fun σ H R => tl σ H fun x H1 => ∃ a, x = .ref a ∧ (∃ xs, SqL K H1 a xs) ∧ R (Itl K a) H1
noncomputable def iTup (K : PySem.W.Frag) (tl : TE) : TI := fun σ H R => tl σ H fun x H1 => ∃ a, x = .ref a ∧ (∃ xs, SqT K H1 a xs) ∧ R (Itt K a) H1
theorem pi_list {l : Expr} {tl : TE} (hl : PE X l tl) : PI X tg l (iList X.K tl) := by
  intro pins s σ H R I h
  refine thn (hl pins s σ H _ I h) fun v s1 ⟨x, H1, I1, r1, q1⟩ => ?_
  obtain ⟨a, e, ⟨xs, hq⟩, q⟩ := q1
  subst e
  cases r1
  obtain ⟨its, rv, p, hz⟩ := I1.list hq
  refine wpAny_pyIter_list p.isList ?_
  refine ⟨s1.heap.objs.size, [s1.heap.objs.size], _, _, H1, rfl, I1.kept (t' := s1.toks) fun b o e => Heap.get?_push_of_some _ e, turn_list a _, ⟨_, Heap.get?_push_size _ rfl, rfl, rfl⟩, fun b hb => ?_, q⟩
  have e : b = s1.heap.objs.size := by simpa using hb
  subst e
  exact I1.fpOk (Nat.le_refl _) (I1.hok.fresh (Nat.le_refl _))
theorem pi_tup {l : Expr} {tl : TE} (hl : PE X l tl) : PI X tg l (iTup X.K tl) := by
  intro pins s σ H R I h
  refine thn (hl pins s σ H _ I h) fun v s1 ⟨x, H1, I1, r1, q1⟩ => ?_
  obtain ⟨a, e, ⟨xs, hq⟩, q⟩ := q1
  subst e
  cases r1
  obtain ⟨its, rv, p, hz⟩ := I1.tuple hq
  refine wpAny_pyIter_tuple (show s1.heap.IsTuple a its.toArray from p) ?_
  refine ⟨s1.heap.objs.size, [s1.heap.objs.size], _, _, H1, rfl, I1.kept (t' := s1.toks) fun b o e => Heap.get?_push_of_some _ e, turn_tuple a _, ⟨_, Heap.get?_push_size _ rfl, rfl, rfl⟩, fun b hb => ?_, q⟩
  have e : b = s1.heap.objs.size := by simpa using hb
  subst e
  exact I1.fpOk (Nat.le_refl _) (I1.hok.fresh (Nat.le_refl _))
theorem range_it {pins : List (Addr × Obj)} {σ : St} {H : Hp} {s : Shared} {R : It → Hp → Prop} {E : Value → Shared → Prop} {lo hi : Int} {t u v : Tok} {tk : Nat} (I : Inv X pins σ H s) (h1 : -(2 ^ 62) ≤ lo) (h2 : lo < 2 ^ 62) (h3 : -(2 ^ 62) ≤ hi) (h4 : hi < 2 ^ 62)
    (q : R (Itr lo (hi - lo).toNat) H) : wpAny (model X.prog X.w) X.A (pyIter (.ref s.heap.objs.size)) (PIE X pins σ tg R) E { s with heap := s.heap.push { cls := .type "range", data := .fields #[.int lo t, .int hi u, .int 1 v] }, toks := tk } := by
  refine wpAny_pyIter_range (IsRange.new ..) (small_one h1 h2 h3 h4) ?_
  have I1 : Inv X pins σ H { s with heap := s.heap.push { cls := .type "range", data := .fields #[.int lo t, .int hi u, .int 1 v] }, toks := tk } := I.kept fun b o e => Heap.get?_push_of_some _ e
  refine ⟨(s.heap.push { cls := .type "range", data := .fields #[.int lo t, .int hi u, .int 1 v] }).objs.size, [(s.heap.push { cls := .type "range", data := .fields #[.int lo t, .int hi u, .int 1 v] }).objs.size], _, _, H, rfl,
    I1.kept (t' := tk) fun b o e => Heap.get?_push_of_some _ e, turn_range _ lo (hi - lo).toNat, ?_, fun b hb => ?_, q⟩
  · have e1 : lo + ((0 : Nat) : Int) * 1 = lo := by simp
    have e2 : (((hi - lo).toNat : Nat) : Int) - ((0 : Nat) : Int) = Builtin.Range.rangeSize lo hi 1 := by rw [rangeSize_one]; split <;> omega
    show IsRangeIter _ _ (lo + ((0 : Nat) : Int) * 1) ((((hi - lo).toNat : Nat) : Int) - ((0 : Nat) : Int)) 1
    rw [e1, e2]
    exact Heap.get?_push_size _ rfl
  · have e : b = (s.heap.push { cls := .type "range", data := .fields #[.int lo t, .int hi u, .int 1 v] }).objs.size := by simpa using hb
    subst e
    exact I1.fpOk (Nat.le_refl _) (I1.hok.fresh (Nat.le_refl _))
noncomputable def iRng1 (ta : TA) : TI := fun σ H R => ta σ H fun vs H1 => ∃ j : Int, vs = [.int j] ∧ -(2 ^ 62) ≤ j ∧ j < 2 ^ 62 ∧ R (Itr 0 j.toNat) H1
theorem pi_range1 {a : Expr} {ta : TA} {p pos : Pos} (hg : Gl X "range") (hm : X.mg "range" = none) (ha : PA X [a] ta) (hs : starEach [a] X.env = [(false, eval a X.env)] := by rfl) : PI X tg (.Call (.Name "range" p) [a] [] pos) (iRng1 ta) := by
  intro pins s σ H R I h
  refine Call_ (ld_blt I hg hm boot_range (PyProof.Rows.callWith_type1 (thn (ha pos pins s σ H _ I h) fun us s1 ⟨vs, H1, I1, r1, q1⟩ => ?_) hs rfl))
  obtain ⟨j, e, q1, q2, q⟩ := q1
  subst e
  cases r1 with
  | cons r rr =>
    cases rr
    obtain ⟨t, rfl⟩ := r
    exact call_range_1 (range_it I1 (by omega) (by omega) q1 q2 (by simpa using q))
noncomputable def tFor (wi : TI) (g : TG) (tb : TS) : TS := fun D σ H => wi σ H fun J H1 => ∃ W : Nat → Nat → St → Hp → Prop, (∃ m, W 0 m σ H1) ∧ ∀ i m σ H, W i m σ H →
  (J.stop i H ∧ D.nx σ H) ∨ (J.go i H ∧ ∃ N : St → Hp → Prop, (∀ σ' H', N σ' H' → ∃ m', m' < m ∧ W (i + 1) m' σ' H') ∧ ∀ x H', J.yld i H x H' → g x σ H' fun σ2 H2 => tb { D with nx := N, ct := N, bk := D.nx } σ2 H2)
noncomputable def pinsAt (fp : List Addr) (h : Heap) : List (Addr × Obj) := fp.filterMap fun b => (h.get? b).map fun o => (b, o)
theorem mem_pinsAt {fp : List Addr} {h : Heap} {b : Addr} {o : Obj} (hb : b ∈ fp) (e : h.get? b = some o) : (b, o) ∈ pinsAt fp h := List.mem_filterMap.mpr ⟨b, hb, by rw [e]; rfl⟩
theorem of_pinsAt {fp : List Addr} {h : Heap} {p : Addr × Obj} (hp : p ∈ pinsAt fp h) : p.1 ∈ fp ∧ h.get? p.1 = some p.2 := by
  obtain ⟨b, hb, e⟩ := List.mem_filterMap.mp hp
  cases q : h.get? b with
  | none => rw [q] at e; cases e
  | some o =>
    rw [q] at e
    have e' : (b, o) = p := Option.some.inj e
    subst e'
    exact ⟨hb, q⟩
theorem Inv.pinned {pins : List (Addr × Obj)} {σ : St} {H : Hp} {s : Shared} {fp : List Addr} (I : Inv X pins σ H s) (hf : ∀ b ∈ fp, FpOk X pins H b) (ho : ∀ b ∈ fp, ∃ o, s.heap.get? b = some o ∧ ∀ v, o.data ≠ .cell v) : Inv X (pins ++ pinsAt fp s.heap) σ H s :=
  I.pins_of fun p hp => (List.mem_append.mp hp).elim (fun z => I.pin p (List.mem_append_right _ z)) fun z => by
    obtain ⟨hb, e⟩ := of_pinsAt z
    obtain ⟨f0, f1, f2, _⟩ := hf p.1 hb
    obtain ⟨o, e', d⟩ := ho p.1 hb
    rw [e] at e'; cases e'
    exact ⟨e, f0, f1, f2, d⟩
theorem Inv.unpinned {pins pl : List (Addr × Obj)} {σ : St} {H : Hp} {s : Shared} (I : Inv X (pins ++ pl) σ H s) : Inv X pins σ H s := I.pins_of fun p hp => I.pin p (List.mem_append_right _ (List.mem_append_left _ hp))
theorem ps_for {iter : Expr} {body : List Stmt} {wi : TI} {g : TG} {tb : TS} {pos : Pos} (hp : PassesOwn (model X.prog X.w) X.A X.env X.xe) (hc : X.calm = true) (hi : PI X tg iter wi) (hg : PG X tg g) (hb : PSs X body tb)
    (hs : ∀ x, foldedSetIterable iter X.env x = pure x := by intro _; rfl) : PS X (.For tg iter body [] pos) (tFor wi g tb) := by
  intro pins s σ H D I h
  refine wpAny_For (thn (hi pins s σ H _ I h) fun v s1 h1 => thn h1 fun itv s2 h2 => ?_) hs
  obtain ⟨it, fp, tn, J, H2, e, I2, T, st2, f2, W, ⟨m0, w0⟩, turn⟩ := h2
  subst e
  have stat : ∀ {H' : Hp}, (∀ b ∈ fp, H' b = none) → ∀ b ∈ fp, FpOk X pins H' b := fun hn b hb => ⟨hn b hb, (f2 b hb).2⟩
  refine codeAny_forLoop_any (fun n s' => ∃ i σ' H', Inv X pins σ' H' s' ∧ tn i s'.heap ∧ (∀ b ∈ fp, H' b = none) ∧ W i n σ' H') ?_ m0 ⟨0, σ, H2, I2, st2, fun b hb => (f2 b hb).1, w0⟩
  rintro n s3 ⟨i, σ3, H3, I3, st3, fr3, w3⟩
  rcases turn i n σ3 H3 w3 with ⟨stop, qn⟩ | ⟨go, N, hN, step⟩
  · refine wpAny_passesOwn hp (thn (T.done X rfl rfl rfl hc i pins s3 σ3 H3 X.xe I3 (stat fr3) st3 stop) fun r s4 ⟨hr, I4⟩ => ?_)
    subst hr
    exact wpAny_execs_nil ⟨σ3, H3, I4, qn⟩
  · refine wpAny_passesOwn hp (thn (T.item X rfl rfl rfl hc i pins s3 σ3 H3 X.xe I3 (stat fr3) st3 go) fun r s4 ⟨u, hr, h4⟩ => ?_)
    subst hr
    refine wpAny_passesOwn hp (thn h4 fun _ s5 ⟨x, H5, I5, r5, y5, st5, fr5⟩ => ?_)
    have I5' := I5.pinned (stat fr5) (T.obj _ _ st5)
    refine wpAny_passesOwn hp (thn (hg _ s5 σ3 H5 x u _ I5' r5 (step x H5 y5)) fun _ s6 ⟨σ6, H6, I6, q6⟩ => ?_)
    refine wpAny_passesOwn hp (thn (hb _ s6 σ6 H6 _ I6 q6) fun f s7 q7 => ?_)
    have again : ∀ {σ7 : St} {H7 : Hp}, Inv X (pins ++ pinsAt fp s5.heap) σ7 H7 s7 → N σ7 H7 → ∃ m, m < n ∧ ∃ i σ' H', Inv X pins σ' H' s7 ∧ tn i s7.heap ∧ (∀ b ∈ fp, H' b = none) ∧ W i m σ' H' := fun {σ7 H7} I7 n7 => by
      obtain ⟨m', hm, w7⟩ := hN σ7 H7 n7
      refine ⟨m', hm, i + 1, σ7, H7, I7.unpinned, T.keep _ _ _ st5 fun b hb o e => (I7.pin (b, o) (List.mem_append_right _ (List.mem_append_right _ (mem_pinsAt hb e)))).1, fun b hb => ?_, w7⟩
      obtain ⟨o, e, d⟩ := T.obj _ _ st5 b hb
      exact (I7.pin (b, o) (List.mem_append_right _ (List.mem_append_right _ (mem_pinsAt hb e)))).2.1
    cases f with
    | next => obtain ⟨σ7, H7, I7, n7⟩ := q7; exact again I7 n7
    | cont => obtain ⟨σ7, H7, I7, n7⟩ := q7; exact again I7 n7
    | brk => obtain ⟨σ7, H7, I7, q7⟩ := q7; exact ⟨σ7, H7, I7.unpinned, q7⟩
    | ret v => obtain ⟨x7, σ7, H7, I7, r7, q7⟩ := q7; exact ⟨x7, σ7, H7, I7.unpinned, r7, q7⟩
end
theorem for_list {K : PySem.W.Frag} {a : Addr} {xs : List V} {g : TG} {tb : TS} {D : Ends} {σ : St} {H : Hp} (Pv : Nat → St → Hp → Prop) (h0 : Pv 0 σ H) (hl : ∀ i σ H, i ≤ xs.length → Pv i σ H → SqL K H a xs)
    (hs : ∀ i x σ H, xs[i]? = some x → Pv i σ H → g x σ H fun σ2 H2 => tb { D with nx := Pv (i + 1), ct := Pv (i + 1), bk := D.nx } σ2 H2) (hd : ∀ σ H, Pv xs.length σ H → D.nx σ H) :
    ∃ W : Nat → Nat → St → Hp → Prop, (∃ m, W 0 m σ H) ∧ ∀ i m σ H, W i m σ H →
      ((Itl K a).stop i H ∧ D.nx σ H) ∨ ((Itl K a).go i H ∧ ∃ N : St → Hp → Prop, (∀ σ' H', N σ' H' → ∃ m', m' < m ∧ W (i + 1) m' σ' H') ∧ ∀ x H', (Itl K a).yld i H x H' → g x σ H' fun σ2 H2 => tb { D with nx := N, ct := N, bk := D.nx } σ2 H2) := by
  refine ⟨fun i m σ H => m = xs.length - i ∧ i ≤ xs.length ∧ Pv i σ H, ⟨xs.length, by simp, Nat.zero_le _, h0⟩, ?_⟩
  rintro i m σ H ⟨rfl, hi, p⟩
  have q := hl i σ H hi p
  by_cases hlt : i < xs.length
  · refine .inr ⟨⟨xs, xs[i], q, by simp [hlt]⟩, Pv (i + 1), fun σ' H' p' => ⟨xs.length - (i + 1), by omega, rfl, hlt, p'⟩, fun x H' y => ?_⟩
    obtain ⟨e, y⟩ := y
    subst e
    exact hs i x σ _ (y xs q) p
  · have e : i = xs.length := by omega
    subst e
    exact .inl ⟨⟨xs, q, Nat.le_refl _⟩, hd σ H p⟩
theorem for_range {lo : Int} {n : Nat} {g : TG} {tb : TS} {D : Ends} {σ : St} {H : Hp} (Pv : Nat → St → Hp → Prop) (h0 : Pv 0 σ H)
    (hs : ∀ i σ H, i < n → Pv i σ H → g (.int (lo + i)) σ H fun σ2 H2 => tb { D with nx := Pv (i + 1), ct := Pv (i + 1), bk := D.nx } σ2 H2) (hd : ∀ σ H, Pv n σ H → D.nx σ H) :
    ∃ W : Nat → Nat → St → Hp → Prop, (∃ m, W 0 m σ H) ∧ ∀ i m σ H, W i m σ H →
      ((Itr lo n).stop i H ∧ D.nx σ H) ∨ ((Itr lo n).go i H ∧ ∃ N : St → Hp → Prop, (∀ σ' H', N σ' H' → ∃ m', m' < m ∧ W (i + 1) m' σ' H') ∧ ∀ x H', (Itr lo n).yld i H x H' → g x σ H' fun σ2 H2 => tb { D with nx := N, ct := N, bk := D.nx } σ2 H2) := by
  refine ⟨fun i m σ H => m = n - i ∧ i ≤ n ∧ Pv i σ H, ⟨n, by simp, Nat.zero_le _, h0⟩, ?_⟩
  rintro i m σ H ⟨rfl, hi, p⟩
  by_cases hlt : i < n
  · refine .inr ⟨hlt, Pv (i + 1), fun σ' H' p' => ⟨n - (i + 1), by omega, rfl, hlt, p'⟩, fun x H' y => ?_⟩
    obtain ⟨e, y⟩ := y
    subst e y
    exact hs i σ _ hlt p
  · have e : i = n := by omega
    subst e
    exact .inl ⟨Nat.le_refl _, hd σ H p⟩
end L2
namespace L2
open PySem PySem.Spec PyProof.Rows
noncomputable abbrev R2 := V → V → Hp → VK → Prop
noncomputable def OpR (X : Cx) (f : Value → Value → Sem Value) (r : R2) : Prop :=
  ∀ (pins : List (Addr × Obj)) (s : Shared) (σ : St) (H : Hp) (x y : V) (v u : Value) (Q : VK), Inv X pins σ H s → RelV x v → RelV y u → r x y H Q →
    wpAny (model X.prog X.w) X.A (f v u) (EP X pins σ Q) X.xe s
noncomputable def UnR (X : Cx) (f : Value → Sem Value) (r : V → Hp → VK → Prop) : Prop :=
  ∀ (pins : List (Addr × Obj)) (s : Shared) (σ : St) (H : Hp) (x : V) (v : Value) (Q : VK), Inv X pins σ H s → RelV x v → r x H Q →
    wpAny (model X.prog X.w) X.A (f v) (EP X pins σ Q) X.xe s
noncomputable def CallR (X : Cx) (f : Value) (r : List V → Hp → VK → Prop) : Prop :=
  ∀ (pins : List (Addr × Obj)) (s : Shared) (σ : St) (H : Hp) (xs : List V) (us : List Value) (Q : VK), Inv X pins σ H s → Vals xs us → r xs H Q →
    wpAny (model X.prog X.w) X.A (call f us) (EP X pins σ Q) X.xe s
noncomputable def tOp (r : R2) (ta tb : TE) : TE := fun σ H Q => ta σ H fun x H1 => tb σ H1 fun y H2 => r x y H2 Q
noncomputable def tUn (r : V → Hp → VK → Prop) (ta : TE) : TE := fun σ H Q => ta σ H fun x H1 => r x H1 Q
noncomputable def rI (C : Int → Int → Prop) (g : Int → Int → V) : R2 := fun x y H Q => ∃ i j, x = .int i ∧ y = .int j ∧ C i j ∧ Q (g i j) H
noncomputable def rI0 (g : Int → Int → V) : R2 := fun x y H Q => ∃ i j, x = .int i ∧ y = .int j ∧ Q (g i j) H
noncomputable def rU (g : Int → V) : V → Hp → VK → Prop := fun x H Q => ∃ i, x = .int i ∧ Q (g i) H
section
variable {X : Cx} {a b c : Expr} {ta tb tc : TE} {pos : Pos}
theorem binT (ha : PE X a ta) (hb : PE X b tb) {pins : List (Addr × Obj)} {s : Shared} {σ : St} {H : Hp} {R : V → V → Hp → Prop} (I : Inv X pins σ H s)
    (h : ta σ H fun x H1 => tb σ H1 fun y H2 => R x y H2) {Q : Value → Shared → Prop} {f : Value → Value → Sem Value}
    (hf : ∀ v u s2 x y H2, Inv X pins σ H2 s2 → RelV x v → RelV y u → R x y H2 → wpAny (model X.prog X.w) X.A (f v u) Q X.xe s2) :
    wpAny (model X.prog X.w) X.A (eval a X.env) (fun v s₁ => wpAny (model X.prog X.w) X.A (eval b X.env) (fun u s₂ => wpAny (model X.prog X.w) X.A (f v u) Q X.xe s₂) X.xe s₁) X.xe s := by
  refine thn (ha pins s σ H _ I h) fun v s1 ⟨x, H1, I1, r1, q1⟩ => ?_
  refine thn (hb pins s1 σ H1 _ I1 q1) fun u s2 ⟨y, H2, I2, r2, q2⟩ => ?_
  exact hf v u s2 x y H2 I2 r1 r2 q2
theorem pe_op {op : Operator} {r : R2} (ho : OpR X (binaryOp op) r) (ha : PE X a ta) (hb : PE X b tb) : PE X (.BinOp a op b pos) (tOp r ta tb) := by
  intro pins s σ H Q I h
  exact wpAny_BinOp (binT ha hb I h fun v u s2 x y H2 I2 rx ry q => ho pins s2 σ H2 x y v u Q I2 rx ry q)
theorem pe_un {op : UnaryOp} {r : V → Hp → VK → Prop} (ho : UnR X (unaryOp op) r) (ha : PE X a ta) : PE X (.UnaryOp op a pos) (tUn r ta) := by
  intro pins s σ H Q I h
  exact UnaryOp_ (thn (ha pins s σ H _ I h) fun v s1 ⟨x, H1, I1, r1, q1⟩ => ho pins s1 σ H1 x v Q I1 r1 q1)
theorem opI {f : Value → Value → Sem Value} {C : Int → Int → Prop} {g : Int → Int → Int}
    (rule : ∀ (i j : Int) (t u : Tok) (s : Shared) (Q : Value → Shared → Prop) (E : Value → Shared → Prop), C i j → Q (.int (g i j) s.toks) { s with toks := s.toks + 1 } → wpAny (model X.prog X.w) X.A (f (.int i t) (.int j u)) Q E s) :
    OpR X f (rI C fun i j => .int (g i j)) := by
  intro pins s σ H x y v u Q I rx ry h
  obtain ⟨i, j, rfl, rfl, hc, q⟩ := h
  obtain ⟨t, rfl⟩ := rx
  obtain ⟨t', rfl⟩ := ry
  exact rule i j t t' s _ _ hc ⟨.int (g i j), H, I.tok _, ⟨_, rfl⟩, q⟩
theorem opI0 {f : Value → Value → Sem Value} {g : Int → Int → Int}
    (rule : ∀ (i j : Int) (t u : Tok) (s : Shared) (Q : Value → Shared → Prop) (E : Value → Shared → Prop), Q (.int (g i j) s.toks) { s with toks := s.toks + 1 } → wpAny (model X.prog X.w) X.A (f (.int i t) (.int j u)) Q E s) :
    OpR X f (rI0 fun i j => .int (g i j)) := by
  intro pins s σ H x y v u Q I rx ry h
  obtain ⟨i, j, rfl, rfl, q⟩ := h
  obtain ⟨t, rfl⟩ := rx
  obtain ⟨t', rfl⟩ := ry
  exact rule i j t t' s _ _ ⟨.int (g i j), H, I.tok _, ⟨_, rfl⟩, q⟩
theorem opB0 {f : Value → Value → Sem Value} {g : Int → Int → Bool}
    (rule : ∀ (i j : Int) (t u : Tok) (s : Shared) (Q : Value → Shared → Prop) (E : Value → Shared → Prop), Q (.bool (g i j)) s → wpAny (model X.prog X.w) X.A (f (.int i t) (.int j u)) Q E s) :
    OpR X f (rI0 fun i j => .bl (g i j)) := by
  intro pins s σ H x y v u Q I rx ry h
  obtain ⟨i, j, rfl, rfl, q⟩ := h
  obtain ⟨t, rfl⟩ := rx
  obtain ⟨t', rfl⟩ := ry
  exact rule i j t t' s _ _ ⟨.bl (g i j), H, I, rfl, q⟩
noncomputable def CDiv (i j : Int) : Prop := 0 < j ∧ j < 1073741824
noncomputable def CPow (i j : Int) : Prop := 0 ≤ j ∧ j ≤ 1000000 ∧ i.natAbs < 2 ^ 64
noncomputable def CMul (i j : Int) : Prop := (-(2 ^ 64) < i ∧ i < 2 ^ 64) ∨ (-(2 ^ 64) < j ∧ j < 2 ^ 64)
theorem CMul.ok {i j : Int} (h : CMul i j) : IntMulOk i j := by
  rcases h with ⟨h1, h2⟩ | ⟨h1, h2⟩
  · exact .of_left (intBits_le_64 h1 h2)
  · exact .of_right (intBits_le_64 h1 h2)
theorem op_add : OpR X (binaryOp .Add) (rI0 fun i j => .int (i + j)) := opI0 fun _ _ _ _ _ _ _ q => add_int q
theorem op_sub : OpR X (binaryOp .Sub) (rI0 fun i j => .int (i - j)) := opI0 fun _ _ _ _ _ _ _ q => sub_int q
theorem op_mul : OpR X (binaryOp .Mult) (rI CMul fun i j => .int (i * j)) := opI fun _ _ _ _ _ _ _ hc q => mul_int q hc.ok
theorem op_fdiv : OpR X (binaryOp .FloorDiv) (rI CDiv fun i j => .int (i / j)) := opI fun i j _ _ _ _ _ hc q => by
  have h1 : (0 : Int) < j := hc.1
  have h2 : j < 1073741824 := hc.2
  exact floordiv_int (by omega) (by rw [Int.fdiv_eq_ediv_of_nonneg i (by omega)]; exact q) (.inl (PyProof.noPylong_small (by omega)))
theorem op_mod : OpR X (binaryOp .Mod) (rI (fun _ j => 0 < j) fun i j => .int (i % j)) := opI fun i j _ _ _ _ _ hc q => by
  have h1 : (0 : Int) < j := hc
  exact mod_int' (by omega) (by rw [Int.fmod_eq_emod_of_nonneg i (by omega)]; exact q)
theorem op_pow : OpR X (binaryOp .Pow) (rI CPow fun i j => .int (i ^ j.toNat)) := opI fun _ _ _ _ _ _ _ hc q => pow_int_small hc.1 hc.2.1 hc.2.2 q
theorem unI {f : Value → Sem Value} {g : Int → Int}
    (rule : ∀ (i : Int) (t : Tok) (s : Shared) (Q : Value → Shared → Prop) (E : Value → Shared → Prop), Q (.int (g i) s.toks) { s with toks := s.toks + 1 } → wpAny (model X.prog X.w) X.A (f (.int i t)) Q E s) :
    UnR X f (rU fun i => .int (g i)) := by
  intro pins s σ H x v Q I rx h
  obtain ⟨i, rfl, q⟩ := h
  obtain ⟨t, rfl⟩ := rx
  exact rule i t s _ _ ⟨.int (g i), H, I.tok _, ⟨_, rfl⟩, q⟩
theorem un_neg : UnR X (unaryOp .USub) (rU fun i => .int (-i)) := unI fun _ _ _ _ _ q => neg_int q
end
noncomputable def scal : V → V → Bool
  | .non, .non => true | .non, .int _ => true | .int _, .non => true | .non, .bl _ => true | .bl _, .non => true | .non, .str _ => true | .str _, .non => true
  | .int _, .int _ => true | .bl _, .bl _ => true | .str _, .str _ => true | .byt _, .byt _ => true
  | .int _, .str _ => true | .str _, .int _ => true | .bl _, .str _ => true | .str _, .bl _ => true
  | _, _ => false
noncomputable def rEq : R2 := fun x y H Q => scal x y = true ∧ Q (.bl (decide (x = y))) H
noncomputable def rNe : R2 := fun x y H Q => scal x y = true ∧ Q (.bl (!decide (x = y))) H
theorem dec_int {i j : Int} : decide (V.int i = V.int j) = (i == j) := by
  rw [Bool.eq_iff_iff]
  simp
theorem dec_bl {i j : Bool} : decide (V.bl i = V.bl j) = (i == j) := by
  rw [Bool.eq_iff_iff]
  simp
theorem dec_str {i j : Str} : decide (V.str i = V.str j) = (i == j) := by
  rw [Bool.eq_iff_iff]
  simp
theorem dec_byt {i j : Array UInt8} : decide (V.byt i = V.byt j) = (i.toList == j.toList) := by
  rw [Bool.eq_iff_iff]
  cases i
  cases j
  simp
section
variable {X : Cx} {a b c : Expr} {ta tb tc : TE} {pos : Pos}
theorem fin_bl {pins : List (Addr × Obj)} {σ : St} {H : Hp} {s : Shared} {Q : VK} {k k' : Bool} (I : Inv X pins σ H s) (q : Q (.bl k) H) (e : k = k') : EP X pins σ Q (.bool k') s := by
  subst e
  exact ⟨.bl k, H, I, rfl, q⟩
theorem op_eq : OpR X (compareOp .Eq) rEq := by
  intro pins s σ H x y v u Q I rx ry h
  obtain ⟨hs, q⟩ := h
  cases x with
  | non =>
    cases rx
    cases y with
    | non => cases ry; exact PySem.EqNone.eq_none_none (fin_bl I q (by simp))
    | bl j => cases ry; exact PySem.EqNone.eq_none_bool (fin_bl I q (by simp))
    | int j => obtain ⟨t', rfl⟩ := ry; exact PySem.EqNone.eq_none_int (fin_bl I q (by simp))
    | str j => obtain ⟨t', rfl⟩ := ry; exact PySem.EqNone.eq_none_str (fin_bl I q (by simp))
    | _ => exact absurd (show false = true from hs) Bool.false_ne_true
  | bl i =>
    cases rx
    cases y with
    | non => cases ry; exact PySem.EqNone.eq_bool_none (fin_bl I q (by simp))
    | bl j => cases ry; exact eq_bool (fin_bl I q dec_bl)
    | str j => obtain ⟨t', rfl⟩ := ry; exact PySem.EqMixed.eq_bool_str (fin_bl I q (by simp))
    | _ => exact absurd (show false = true from hs) Bool.false_ne_true
  | int i =>
    obtain ⟨t, rfl⟩ := rx
    cases y with
    | non => cases ry; exact PySem.EqNone.eq_int_none (fin_bl I q (by simp))
    | int j => obtain ⟨t', rfl⟩ := ry; exact eq_int (fin_bl I q dec_int)
    | str j => obtain ⟨t', rfl⟩ := ry; exact PySem.EqMixed.eq_int_str (fin_bl I q (by simp))
    | _ => exact absurd (show false = true from hs) Bool.false_ne_true
  | str i =>
    obtain ⟨t, rfl⟩ := rx
    cases y with
    | non => cases ry; exact PySem.EqNone.eq_str_none (fin_bl I q (by simp))
    | bl j => cases ry; exact PySem.EqMixed.eq_str_bool (fin_bl I q (by simp))
    | int j => obtain ⟨t', rfl⟩ := ry; exact PySem.EqMixed.eq_str_int (fin_bl I q (by simp))
    | str j => obtain ⟨t', rfl⟩ := ry; exact eq_str (fin_bl I q dec_str)
    | _ => exact absurd (show false = true from hs) Bool.false_ne_true
  | byt i =>
    obtain ⟨t, rfl⟩ := rx
    cases y with
    | byt j => obtain ⟨t', rfl⟩ := ry; exact PySem.W.eq_bytes (fin_bl I q dec_byt)
    | _ => exact absurd (show false = true from hs) Bool.false_ne_true
  | _ => cases y <;> exact absurd (show false = true from hs) Bool.false_ne_true
theorem op_ne : OpR X (compareOp .NotEq) rNe := by
  intro pins s σ H x y v u Q I rx ry h
  obtain ⟨hs, q⟩ := h
  cases x with
  | non =>
    cases rx
    cases y with
    | non => cases ry; exact PySem.EqNone.ne_none_none (fin_bl I q (by simp))
    | bl j => cases ry; exact PySem.EqNone.ne_none_bool (fin_bl I q (by simp))
    | int j => obtain ⟨t', rfl⟩ := ry; exact PySem.EqNone.ne_none_int (fin_bl I q (by simp))
    | str j => obtain ⟨t', rfl⟩ := ry; exact PySem.EqNone.ne_none_str (fin_bl I q (by simp))
    | _ => exact absurd (show false = true from hs) Bool.false_ne_true
  | bl i =>
    cases rx
    cases y with
    | non => cases ry; exact PySem.EqNone.ne_bool_none (fin_bl I q (by simp))
    | bl j => cases ry; exact ne_bool (fin_bl I q (congrArg not dec_bl))
    | str j => obtain ⟨t', rfl⟩ := ry; exact PySem.EqMixed.ne_bool_str (fin_bl I q (by simp))
    | _ => exact absurd (show false = true from hs) Bool.false_ne_true
  | int i =>
    obtain ⟨t, rfl⟩ := rx
    cases y with
    | non => cases ry; exact PySem.EqNone.ne_int_none (fin_bl I q (by simp))
    | int j => obtain ⟨t', rfl⟩ := ry; exact ne_int (fin_bl I q (congrArg not dec_int))
    | str j => obtain ⟨t', rfl⟩ := ry; exact PySem.EqMixed.ne_int_str (fin_bl I q (by simp))
    | _ => exact absurd (show false = true from hs) Bool.false_ne_true
  | str i =>
    obtain ⟨t, rfl⟩ := rx
    cases y with
    | non => cases ry; exact PySem.EqNone.ne_str_none (fin_bl I q (by simp))
    | bl j => cases ry; exact PySem.EqMixed.ne_str_bool (fin_bl I q (by simp))
    | int j => obtain ⟨t', rfl⟩ := ry; exact PySem.EqMixed.ne_str_int (fin_bl I q (by simp))
    | str j => obtain ⟨t', rfl⟩ := ry; exact ne_str (fin_bl I q (congrArg not dec_str))
    | _ => exact absurd (show false = true from hs) Bool.false_ne_true
  | byt i =>
    obtain ⟨t, rfl⟩ := rx
    cases y with
    | byt j => obtain ⟨t', rfl⟩ := ry; exact PySem.W.ne_bytes (fin_bl I q (congrArg not dec_byt))
    | _ => exact absurd (show false = true from hs) Bool.false_ne_true
  | _ => cases y <;> exact absurd (show false = true from hs) Bool.false_ne_true
theorem op_lt : OpR X (compareOp .Lt) (rI0 fun i j => .bl (decide (i < j))) := opB0 fun _ _ _ _ _ _ _ q => lt_int q
theorem op_le : OpR X (compareOp .LtE) (rI0 fun i j => .bl (decide (i ≤ j))) := opB0 fun _ _ _ _ _ _ _ q => le_int q
theorem op_gt : OpR X (compareOp .Gt) (rI0 fun i j => .bl (decide (j < i))) := opB0 fun _ _ _ _ _ _ _ q => gt_int q
theorem op_ge : OpR X (compareOp .GtE) (rI0 fun i j => .bl (decide (j ≤ i))) := opB0 fun _ _ _ _ _ _ _ q => ge_int q
theorem op_lt_str : OpR X (compareOp .Lt) (fun x y H Q => ∃ i j, x = .str i ∧ y = .str j ∧ Q (.bl (decide (i.cps.toList < j.cps.toList))) H) := by
  intro pins s σ H x y v u Q I rx ry h
  obtain ⟨i, j, rfl, rfl, q⟩ := h
  obtain ⟨t, rfl⟩ := rx
  obtain ⟨t', rfl⟩ := ry
  exact lt_str (fin_bl I q rfl)
theorem op_isN : OpR X (compareOp .Is) (fun x y H Q => y = .non ∧ Q (.bl (decide (x = .non))) H) := by
  intro pins s σ H x y v u Q I rx ry h
  obtain ⟨rfl, q⟩ := h
  cases ry
  refine is_none_gen (fin_bl I q ?_)
  cases x <;> first
    | (cases rx; rfl)
    | (obtain ⟨t, rfl⟩ := rx; rfl)
theorem op_notN : OpR X (compareOp .IsNot) (fun x y H Q => y = .non ∧ Q (.bl (!decide (x = .non))) H) := by
  intro pins s σ H x y v u Q I rx ry h
  obtain ⟨rfl, q⟩ := h
  cases ry
  refine isnot_none_gen (fin_bl I q ?_)
  cases x <;> first
    | (cases rx; rfl)
    | (obtain ⟨t, rfl⟩ := rx; rfl)
theorem nomark (b : Expr) {op : CmpOp} (h : op ≠ .In := by decide) (h2 : op ≠ .NotIn := by decide) : behindInMarks op b = false := by
  have e1 : (op == CmpOp.In) = false := by cases op <;> first | rfl | exact absurd rfl h
  have e2 : (op == CmpOp.NotIn) = false := by cases op <;> first | rfl | exact absurd rfl h2
  cases b <;> simp [behindInMarks, e1, e2]
theorem pe_cmpR {op : CmpOp} {r : R2} (ho : OpR X (compareOp op) r) (ha : PE X a ta) (hb : PE X b tb) (hm : behindInMarks op b = false) : PE X (.Compare a [op] [b] pos) (tOp r ta tb) := by
  intro pins s σ H Q I h
  exact wpAny_Compare1 (binT ha hb I h fun v u s2 x y H2 I2 rx ry q => ho pins s2 σ H2 x y v u Q I2 rx ry q) hm
noncomputable def tTest (t : TE) : TT := fun σ H Q => t σ H fun x H' => ∃ k, x = .bl k ∧ Q k H'
theorem pt_cmpR {op : CmpOp} {r : R2} (ho : OpR X (compareOp op) r) (ha : PE X a ta) (hb : PE X b tb) (hm : behindInMarks op b = false) : PT X (.Compare a [op] [b] pos) (tTest (tOp r ta tb)) := by
  intro pins s σ H Q I h
  refine wpAny_isTrue_Compare1 (thn (ha pins s σ H _ I h) fun v s1 ⟨x, H1, I1, r1, q1⟩ => thn (hb pins s1 σ H1 _ I1 q1) fun u s2 ⟨y, H2, I2, r2, q2⟩ =>
    thn (ho pins s2 σ H2 x y v u _ I2 r1 r2 q2) fun c s3 ⟨z, H3, I3, r3, k, e, q3⟩ => ?_) hm
  subst e
  cases r3
  exact wpAny_truthy_bool ⟨H3, I3, q3⟩
noncomputable def tChain (r r' : R2) (ta tb tc : TE) : TE := fun σ H Q => ta σ H fun x H1 => tb σ H1 fun y H2 => r x y H2 fun z H3 => ∃ k, z = .bl k ∧
  (if k = true then tc σ H3 fun w' H4 => r' y w' H4 Q else Q (.bl false) H3)
theorem pe_chain {op op' : CmpOp} {r r' : R2} (ho : OpR X (compareOp op) r) (ho' : OpR X (compareOp op') r') (ha : PE X a ta) (hb : PE X b tb) (hc : PE X c tc)
    (hm : lastMarks [op, op'] [b, c] = false := by with_unfolding_all rfl) : PE X (.Compare a [op, op'] [b, c] pos) (tChain r r' ta tb tc) := by
  intro pins s σ H Q I h
  refine Compare_chain (thn (ha pins s σ H _ I h) fun v s1 ⟨x, H1, I1, r1, q1⟩ => chain_link (thn (hb pins s1 σ H1 _ I1 q1) fun u s2 ⟨y, H2, I2, r2, q2⟩ =>
    thn (ho pins s2 σ H2 x y v u _ I2 r1 r2 q2) fun d s3 ⟨z, H3, I3, r3, k, e, q3⟩ => ?_)) hm
  subst e
  cases r3
  refine wpAny_truthy_bool ?_
  cases k with
  | false => exact ite_ff ⟨.bl false, H3, I3, rfl, q3⟩
  | true => exact ite_tt (chain_last (thn (hc pins s3 σ H3 _ I3 q3) fun w' s4 ⟨z', H4, I4, r4, q4⟩ => ho' pins s4 σ H4 y z' u w' Q I4 r2 r4 q4))
theorem line63 : (sizeLine : Nat) < 2 ^ 63 := by rw [sizeLine_eq]; decide
theorem op_add_str : OpR X (binaryOp .Add) (fun x y H Q => ∃ i j, x = .str i ∧ y = .str j ∧ i.length + j.length ≤ sizeLine ∧ Q (.str (i ++ j)) H) := by
  intro pins s σ H x y v u Q I rx ry h
  obtain ⟨i, j, rfl, rfl, hz, q⟩ := h
  obtain ⟨t, rfl⟩ := rx
  obtain ⟨t', rfl⟩ := ry
  exact add_str (fun t' tk => ⟨.str (i ++ j), H, I.tok _, ⟨_, rfl⟩, q⟩) hz
theorem vals1 {x : V} {us : List Value} (r : Vals [x] us) : ∃ u, us = [u] ∧ RelV x u := by
  cases r with
  | cons r1 r2 => cases r2; exact ⟨_, rfl, r1⟩
theorem vals2 {x y : V} {us : List Value} (r : Vals [x, y] us) : ∃ u w', us = [u, w'] ∧ RelV x u ∧ RelV y w' := by
  cases r with
  | cons r1 r2 =>
    cases r2 with
    | cons r3 r4 => cases r4; exact ⟨_, _, rfl, r1, r3⟩
theorem call_abs : CallR X (.builtin "abs") (fun xs H Q => ∃ i, xs = [.int i] ∧ Q (.int (if i < 0 then -i else i)) H) := by
  intro pins s σ H xs us Q I r h
  obtain ⟨i, rfl, q⟩ := h
  obtain ⟨u, rfl, t, rfl⟩ := vals1 r
  exact call_abs_int fun u tk => ⟨.int (if i < 0 then -i else i), H, I.tok _, ⟨_, rfl⟩, q⟩
theorem call_max2 (hc : X.calm = true) : CallR X (.builtin "max") (fun xs H Q => ∃ i j, xs = [.int i, .int j] ∧ Q (.int (if j > i then j else i)) H) := by
  intro pins s σ H xs us Q I r h
  obtain ⟨i, j, rfl, q⟩ := h
  obtain ⟨u, w', rfl, ⟨t, rfl⟩, ⟨t', rfl⟩⟩ := vals2 r
  refine max_two_ints (I.ok.hd hc) fun h' tk k => ⟨_, H, I.kept k, ?_, q⟩
  by_cases hj : j > i
  · rw [if_pos hj, if_pos hj]; exact ⟨_, rfl⟩
  · rw [if_neg hj, if_neg hj]; exact ⟨_, rfl⟩
theorem call_int1 : CallR X (.type "int") (fun xs H Q => (∃ i, xs = [.int i] ∧ Q (.int i) H) ∨ ∃ k, xs = [.bl k] ∧ Q (.int (if k then 1 else 0)) H) := by
  intro pins s σ H xs us Q I r h
  rcases h with ⟨i, rfl, q⟩ | ⟨k, rfl, q⟩
  · obtain ⟨u, rfl, t, rfl⟩ := vals1 r
    exact call_int_int ⟨.int i, H, I, ⟨_, rfl⟩, q⟩
  · obtain ⟨u, rfl, r1⟩ := vals1 r
    cases r1
    exact call_int_bool ⟨.int (if k then 1 else 0), H, I.tok _, ⟨_, rfl⟩, q⟩
noncomputable def LenV (K : PySem.W.Frag) (x : V) (H : Hp) (n : Nat) : Prop :=
  match x with
  | .str y => y.length ≤ sizeLine ∧ n = y.length
  | .byt y => y.size ≤ sizeLine ∧ n = y.size
  | .ref p => (∃ xs, SqL K H p xs ∧ n = xs.length) ∨ ∃ xs, SqT K H p xs ∧ n = xs.length
  | _ => False
theorem call_len : CallR X (.builtin "len") (fun xs H Q => ∃ x n, xs = [x] ∧ LenV X.K x H n ∧ Q (.int n) H) := by
  intro pins s σ H xs us Q I r h
  obtain ⟨x, n, rfl, e, q⟩ := h
  obtain ⟨u, rfl, rx⟩ := vals1 r
  have hl := line63
  have hs : sizeLine = 16777216 := sizeLine_eq
  cases x with
  | str y =>
    obtain ⟨t, rfl⟩ := rx
    obtain ⟨hy, e'⟩ : y.length ≤ sizeLine ∧ n = y.length := e
    subst e'
    exact len_str (by omega) ⟨.int _, H, I.tok _, ⟨_, rfl⟩, q⟩
  | byt y =>
    obtain ⟨t, rfl⟩ := rx
    obtain ⟨hy, e'⟩ : y.size ≤ sizeLine ∧ n = y.size := e
    subst e'
    exact PySem.W.len_bytes (by omega) ⟨.int _, H, I.tok _, ⟨_, rfl⟩, q⟩
  | ref p =>
    cases rx
    have e' : (∃ xs, SqL X.K H p xs ∧ n = xs.length) ∨ ∃ xs, SqT X.K H p xs ∧ n = xs.length := e
    rcases e' with ⟨xs, hx, e'⟩ | ⟨xs, hx, e'⟩
    · subst e'
      obtain ⟨its, r', pl, hz⟩ := I.list hx
      have hlen := r'.length
      exact Calls.call_len_list pl.isList (by simp only [List.size_toArray]; omega) ⟨.int xs.length, H, I.tok _, ⟨_, by simp only [List.size_toArray]; rw [hlen]⟩, q⟩
    · subst e'
      obtain ⟨its, r', pl, hz⟩ := I.tuple hx
      have hlen := r'.length
      exact len_tuple pl (by simp only [List.size_toArray]; omega) ⟨.int xs.length, H, I.tok _, ⟨_, by simp only [List.size_toArray]; rw [hlen]⟩, q⟩
  | _ => exact (show False from e).elim
end
end L2
namespace L2
open PySem PySem.Spec PyProof.Rows
structure ObjM (h : Heap) (x dx C : Addr) (mA : Str → Option Value) : Prop where
  obj : h.get? x = some (PySem.W.instObj C dx)
  ns : h.Ns1 dx mA
  ne : dx ≠ x
theorem lookIn_ns {h : Heap} {dx : Addr} {mA : Str → Option Value} (n : h.Ns1 dx mA) : ∃ od, h.get? dx = some od ∧ ∀ name, PySem.W.lookIn name od = some (mA name) := by
  obtain ⟨o, es, ep, ho, hd, hk, _, hm⟩ := n
  refine ⟨o, ho, fun name => ?_⟩
  have e := hm name
  unfold nsFind findBy at e
  rw [← Array.find?_toList] at e
  unfold PySem.W.lookIn
  rw [hd]
  dsimp only
  split
  · rename_i y q
    rw [q] at e
    exact congrArg some e
  · rename_i q
    rw [q] at e
    have a : es.toList.any (·.refKey) = false := by
      rw [List.any_eq_false]
      intro y hy
      obtain ⟨z, t, hkey⟩ := hk y (Array.mem_toList_iff.mp hy)
      simp [DictEntry.refKey, hkey]
    have a' : ¬ es.toList.any (·.refKey) = true := by rw [a]; exact Bool.false_ne_true
    rw [if_neg a']
    exact congrArg some e
theorem ObjM.look {h : Heap} {x dx C : Addr} {mA : Str → Option Value} (I : ObjM h x dx C mA) : ∃ od, PySem.W.InstAt h x (PySem.W.instObj C dx) C (some od) ∧ ∀ name, PySem.W.lookIn name od = some (mA name) :=
  let ⟨od, ho, hl⟩ := lookIn_ns I.ns
  ⟨od, ⟨I.obj, rfl, rfl, ho⟩, hl⟩
theorem RelO.some_of {v : V} {o : Option Value} (r : RelO (some v) o) : ∃ u, o = some u ∧ RelV v u := by
  cases o with
  | none => exact (show False from r).elim
  | some u => exact ⟨u, rfl, r⟩
section
variable {P : Program} {w : World} {H H' : Hp} {h h' : Heap} {a C dx : Addr} {fs fs' : List (Str × V)}
theorem ins_get (hok : HOk P w H h) (e : H a = some (.ins C dx fs)) : ∃ mA, ObjM h a dx C mA ∧ (∀ f, RelO (fs.lookup f) (mA f)) ∧ PySem.Within mA (fs.map (·.1)) ∧ fs.length ≤ 1000 ∧ H dx = some (.own a) := by
  obtain ⟨d, z, ne, ob, mA, n, r, q⟩ := (show ObjOk P w H h a (.ins C dx fs) from hok a _ e)
  exact ⟨mA, ⟨ob, n, ne⟩, r, q, z, d⟩
end
structure Cls (K : PySem.W.Frag) (C : Addr) : Prop where
  pg : PySem.W.plainGet K C Str.empty = true
  hd : PySem.W.hasDictIn K C = true
  po : PySem.W.plainOver K C = true
  sa : PySem.W.findIn K (.ref C) "__setattr__" = some (some (.builtin "object.__setattr__"))
theorem Cls.get {K : PySem.W.Frag} {C : Addr} (c : Cls K C) (f : Str) : PySem.W.plainGet K C f = true := c.pg
section
variable {X : Cx} {pins : List (Addr × Obj)} {σ : St} {H : Hp} {s : Shared} {A : Around} {E : Value → Shared → Prop} {Q : Value → Shared → Prop} {c : Value} {b : Bool}
inductive TyOf (K : PySem.W.Frag) (H : Hp) : V → Value → Prop where
  | non : TyOf K H .non (.type "NoneType")
  | bl (x : Bool) : TyOf K H (.bl x) (.type "bool")
  | int (i : Int) : TyOf K H (.int i) (.type "int")
  | str (x : Str) : TyOf K H (.str x) (.type "str")
  | flt (x : UInt64) : TyOf K H (.flt x) (.type "float")
  | lst {a : Addr} {xs : List V} (e : H a = some (.lst xs)) : TyOf K H (.ref a) (.type "list")
  | frz {a : Addr} {o : Obj} {xs : List V} (e : H a = some (.frz o (.lst xs))) : TyOf K H (.ref a) (.type "list")
  | tup {a : Addr} {xs : List V} (e : H a = some (.tup xs)) : TyOf K H (.ref a) (.type "tuple")
  | dK {a : Addr} {kvs : List (Key × V)} (e : H a = some (.dK kvs)) : TyOf K H (.ref a) (.type "dict")
  | dT {a : Addr} {kvs : List (List Key × V)} (e : H a = some (.dT kvs)) : TyOf K H (.ref a) (.type "dict")
  | ins {a C dx : Addr} {fs : List (Str × V)} (e : H a = some (.ins C dx fs)) (cl : Cls K C) (ha : PySem.W.findIn K (.ref C) "__class__" = some (some (.builtin "object.__class__")))
      (hn : PySem.W.specialIn K (.builtin "object.__class__") "__get__" = some (some (.builtin "getset_descriptor.__get__"))) (htk : PySem.W.takesIn K (.builtin "object.__class__") = some true)
      (hm : PySem.W.mroIn K C (.type "object") = some true) : TyOf K H (.ref a) (.ref C)
theorem isinst_ok {x : V} {u t : Value} (I : Inv X pins σ H s) (rx : RelV x u) (ty : TyOf X.K H x t) (e : PySem.W.kitOne X.K t c = some b) (h : ∀ tk, Q (.bool b) { s with toks := tk }) :
    wpAny (model X.prog X.w) A (call (.builtin "isinstance") [u, c]) Q E s := by
  cases ty with
  | non => cases (show u = Value.none from rx); exact PySem.W.kia_one PySem.W.kitx_none I.kIn True.intro e (fun z => nomatch z) h
  | bl y => cases (show u = Value.bool y from rx); exact PySem.W.kia_one PySem.W.kitx_bool I.kIn True.intro e (fun z => nomatch z) h
  | int i => obtain ⟨t, q⟩ := (show ∃ t, u = Value.int i t from rx); cases q; exact PySem.W.kia_one PySem.W.kitx_int I.kIn True.intro e (fun z => nomatch z) h
  | str y => obtain ⟨t, q⟩ := (show ∃ t, u = Value.str y t from rx); cases q; exact PySem.W.kia_one PySem.W.kitx_str I.kIn True.intro e (fun z => nomatch z) h
  | flt y => obtain ⟨t, q⟩ := (show ∃ t, u = Value.float y t from rx); cases q; exact PySem.W.kia_one PySem.W.kitx_float I.kIn True.intro e (fun z => nomatch z) h
  | @lst a xs ea =>
    cases (show u = Value.ref a from rx)
    obtain ⟨_, _, n, _, h1⟩ := (show ObjOk X.prog X.w H s.heap a (.lst xs) from I.hok a _ ea)
    exact PySem.W.kia_one PySem.W.kitx_list I.kIn ⟨_, h1, rfl⟩ e (fun z => nomatch z) h
  | @frz a ob xs ea =>
    cases (show u = Value.ref a from rx)
    obtain ⟨_, _, _, n, _, h1⟩ := (show ObjOk X.prog X.w H s.heap a (.frz ob (.lst xs)) from I.hok a _ ea)
    exact PySem.W.kia_one PySem.W.kitx_list I.kIn ⟨_, h1, rfl⟩ e (fun z => nomatch z) h
  | @tup a xs ea =>
    cases (show u = Value.ref a from rx)
    obtain ⟨_, _, _, p⟩ := (show ObjOk X.prog X.w H s.heap a (.tup xs) from I.hok a _ ea)
    obtain ⟨o, h1, h2, _⟩ := p
    exact PySem.W.kia_one PySem.W.kitx_tuple I.kIn ⟨o, h1, h2⟩ e (fun z => nomatch z) h
  | @dK a kvs ea =>
    cases (show u = Value.ref a from rx)
    obtain ⟨_, _, vs, _, p⟩ := (show ObjOk X.prog X.w H s.heap a (.dK kvs) from I.hok a _ ea)
    obtain ⟨o, es, ep, h1, h2, _⟩ := p
    exact PySem.W.kia_one PySem.W.kitx_dict I.kIn ⟨o, h1, h2.1⟩ e (fun z => nomatch z) h
  | @dT a kvs ea =>
    cases (show u = Value.ref a from rx)
    obtain ⟨_, _, xs, _, o, es, ep, h1, h2, _⟩ := (show ObjOk X.prog X.w H s.heap a (.dT kvs) from I.hok a _ ea)
    exact PySem.W.kia_one PySem.W.kitx_dict I.kIn ⟨o, h1, h2.1⟩ e (fun z => nomatch z) h
  | @ins a C dx fs ea cl ha hn htk hm =>
    cases (show u = Value.ref a from rx)
    obtain ⟨mA, O, _⟩ := ins_get I.hok ea
    obtain ⟨od, J, _⟩ := O.look
    exact PySem.W.kia_one (PySem.W.kitx_own (cl.get _) cl.hd ha hn htk hm) I.kIn J e (fun z => nomatch z) h
end
end L2
namespace L2
open PySem PySem.Spec PyProof.Rows
structure Room (k : Nat) (A : Around) : Prop where
  hd : A.handled = none
  dp : A.depth + 3 * k + 5 < recursionLimit
  un : A.units + 16 * k + 200 < cLine
  gd : A.guards = some []
theorem Room.mono {j k : Nat} {A : Around} (r : Room k A) (h : j ≤ k) : Room j A := ⟨r.hd, by have := r.dp; omega, by have := r.un; omega, r.gd⟩
theorem Room.deeper {k : Nat} {A : Around} (r : Room (k + 1) A) (env : Env) : Room k (A.deeper env) :=
  ⟨r.hd, by have := r.dp; show A.depth + 1 + 3 * k + 5 < _; omega, by have := r.un; show A.units + 3 + 16 * k + 200 < _; omega, r.gd⟩
theorem Room.depth {k : Nat} {A : Around} (r : Room k A) : A.depth < recursionLimit := by have := r.dp; omega
theorem Room.units {k : Nat} {A : Around} (r : Room k A) : A.units + 64 < cLine := by have := r.un; omega
noncomputable def tNil : TA := fun _ H Q => Q [] H
noncomputable def tCons (ta : TE) (tr : TA) : TA := fun σ H Q => ta σ H fun x H1 => tr σ H1 fun xs H2 => Q (x :: xs) H2
section
variable {X : Cx} {e : Expr} {es : List Expr} {te : TE} {t : TA} {pos : Pos}
theorem pa_nil : PA X [] tNil := fun _ _ _ _ H Q I h => Calls.spliced_nil ⟨[], H, I, .nil, h⟩
theorem pa_cons (ha : PE X e te) (hr : PA X es t) (hs : starEach (e :: es) X.env = (false, eval e X.env) :: starEach es X.env := by rfl) : PA X (e :: es) (tCons te t) := by
  intro pos pins s σ H Q I h
  rw [hs]
  show wpAny _ _ (spliced ((false, eval e X.env) :: backTo pos (starEach es X.env))) _ _ s
  refine Calls.spliced_cons (thn (ha pins s σ H _ I h) fun u s1 ⟨x, H1, I1, r1, q1⟩ => ?_)
  exact thn (hr pos pins s1 σ H1 _ I1 q1) fun us s2 ⟨xs, H2, I2, r2, q2⟩ => ⟨x :: xs, H2, I2, .cons r1 r2, q2⟩
noncomputable def tTup (t : TA) : TE := fun σ H Q => t σ H fun xs H1 => xs.length ≤ sizeLine ∧ ∀ p, H1 p = none → Q (.ref p) (upd H1 p (.tup xs))
noncomputable def tLst (t : TA) : TE := fun σ H Q => t σ H fun xs H1 => xs.length ≤ sizeLine ∧ ∀ p, H1 p = none → Q (.ref p) (upd H1 p (.lst xs))
theorem pe_tup {x1} (h : PA X es t) : PE X (.Tuple es x1 pos) (tTup t) := by
  intro pins s σ H Q I hq
  refine wpAny_Tuple_spliced (thn (h pos pins s σ H _ I hq) fun us s1 ⟨xs, H1, I1, r, z, q⟩ => ⟨by rw [← r.length]; exact z, ?_⟩)
  have hf : H1 s1.heap.objs.size = none := I1.hok.fresh (Nat.le_refl _)
  refine ⟨.ref s1.heap.objs.size, upd H1 s1.heap.objs.size (.tup xs), I1.laid (t' := s1.toks) (fun b u e => Heap.get?_push_of_some _ e) (Nat.le_refl _) ?_, rfl, q _ hf⟩
  exact ⟨z, us, r, ⟨_, Heap.get?_push_size _ rfl, rfl, _, rfl, rfl⟩⟩
theorem pe_lst (h : PA X es t) : PE X (.List es pos) (tLst t) := by
  intro pins s σ H Q I hq
  refine wpAny_List_spliced (thn (h pos pins s σ H _ I hq) fun us s1 ⟨xs, H1, I1, r, z, q⟩ => ⟨by rw [← r.length]; exact z, ?_⟩)
  have hf : H1 s1.heap.objs.size = none := I1.hok.fresh (Nat.le_refl _)
  refine ⟨.ref s1.heap.objs.size, upd H1 s1.heap.objs.size (.lst xs), I1.laid (t' := s1.toks) (fun b u e => Heap.get?_push_of_some _ e) (Nat.le_refl _) ?_, rfl, q _ hf⟩
  exact ⟨z, us, 0, r, Heap.get?_push_size _ rfl⟩
end
noncomputable abbrev Sp := List V → Hp → VK → XK → Prop
noncomputable abbrev CXT := List Env → Hp → Shared → XK → Value → Shared → Prop
structure Env0 (P : Program) (w : World) (K : PySem.W.Frag) (mg : Str → Option Value) (base : Heap) (A : Around) (outer : List Env) (s : Shared) (H : Hp) : Prop where
  frames : A.frames = some outer
  mod : Mod K mg base
  bs : ∀ b o, base.get? b = some o → s.heap.get? b = some o ∧ H b = none
  bsz : base.objs.size ≤ s.heap.objs.size
  funs : s.heap.FunFrames base outer
  frf : ∀ b ∈ frs outer, H b = none
  hok : HOk P w H s.heap
  bare : AllBare s.gens
noncomputable def CE (outer : List Env) (P : Program) (w : World) (H : Hp) (s : Shared) (Q : VK) (u : Value) (s' : Shared) : Prop :=
  ∃ v H', s'.os = s.os ∧ AllBare s'.gens ∧ Un (frs outer) [] H H' s.heap s'.heap ∧ HOk P w H' s'.heap ∧ RelV v u ∧ Q v H'
noncomputable def CR (CX : CXT) (outer : List Env) (P : Program) (w : World) (H : Hp) (s : Shared) (Q : VK) (E : XK) (r : Result) (s' : Shared) : Prop :=
  match r with
  | .ok (.ret u) => CE outer P w H s Q u s'
  | .ok _ => False
  | .error e => CX outer H s E e s'
structure FnOk (P : Program) (w : World) (K : PySem.W.Frag) (mg : Str → Option Value) (base : Heap) (CX : CXT) (k : Nat) (f : Addr) (fd : FuncData) (ps : List Str) (sp : Sp) : Prop where
  len : ∀ vs H Q E, sp vs H Q E → vs.length = ps.length
  run : ∀ (A : Around) (outer : List Env) (s : Shared) (H : Hp) (args : Args) (us : List Value) (vs : List V) (Q : VK) (E : XK), Room k A → Env0 P w K mg base A outer s H → BindsTo s fd args (ps.zip us) → Vals vs us → sp vs H Q E →
    codeAny (model P w) A (.call (.ref f) args) (CR CX outer P w H s Q E) s
theorem FnOk.imp {P : Program} {w : World} {K : PySem.W.Frag} {mg : Str → Option Value} {base : Heap} {CX : CXT} {k : Nat} {f : Addr} {fd : FuncData} {ps : List Str} {sp sp' : Sp} (F : FnOk P w K mg base CX k f fd ps sp)
    (h : ∀ vs H Q E, sp' vs H Q E → sp vs H Q E) : FnOk P w K mg base CX k f fd ps sp' :=
  ⟨fun vs H Q E q => F.len vs H Q E (h _ _ _ _ q), fun A outer s H args us vs Q E hr he hb hv hs => F.run A outer s H args us vs Q E hr he hb hv (h _ _ _ _ hs)⟩
section
variable {X : Cx} {pins : List (Addr × Obj)} {σ : St} {H : Hp} {s s' : Shared}
theorem Inv.env0 (I : Inv X pins σ H s) : Env0 X.prog X.w X.K X.mg X.base X.A X.stack s H :=
  ⟨I.ok.frames, I.ok.mod, I.bs, Nat.le_trans I.ok.bsz I.sz, I.stack, I.stkFree, I.hok, I.bare⟩
theorem Inv.after {Q : VK} {u : Value} (I : Inv X pins σ H s) (h : CE X.stack X.prog X.w H s Q u s') : EP X pins σ Q u s' := by
  obtain ⟨v, H', os, bare, un, hok, r, q⟩ := h
  obtain ⟨hh, g, d, t, os'⟩ := s'
  obtain rfl : os' = s.os := os
  exact ⟨v, H', I.call (h' := hh) (g' := g) (d' := d) (t' := t) (ch := []) un hok bare (fun b z => absurd z (by simp)), r, q⟩
end
noncomputable def tCall (sp : Sp) (dvs : List V) (E : XK) (t : TA) : TE := fun σ H Q => t σ H fun vs H1 => sp (vs ++ dvs) H1 Q E
noncomputable def Binds (K : PySem.W.Frag) (fd : FuncData) (ps : List Str) (ds : List Value) : Prop :=
  ∀ (s : Shared) (us : List Value), K.In s.heap → (us ++ ds).length = ps.length → BindsTo s fd ⟨us, []⟩ (ps.zip (us ++ ds))
theorem Binds.all {K : PySem.W.Frag} {fd : FuncData} {ps : List Str} (h : ∀ us : List Value, us.length = ps.length → bindArgs fd ⟨us, []⟩ = pure (ps.zip us)) : Binds K fd ps [] := fun s us _ hl => by
  rw [List.append_nil] at hl ⊢
  exact .of_eq (h us hl)
noncomputable def Passes (CX : CXT) (X : Cx) (E : XK) : Prop := ∀ (pins : List (Addr × Obj)) (σ : St) (H : Hp) (s : Shared) (e : Value) (s' : Shared), Inv X pins σ H s → CX X.stack H s E e s' → X.xe e s'
section
variable {X : Cx} {CX : CXT} {k : Nat} {f C : Addr} {fd : FuncData} {ps : List Str} {sp : Sp} {dvs : List V} {ds : List Value} {E : XK} {x m : Str} {p pos apos : Pos} {e o : Expr} {es : List Expr} {ta : TE} {t : TA}
theorem run_fn {pins : List (Addr × Obj)} {σ : St} {H : Hp} {s : Shared} {Q : VK} {us : List Value} {vs : List V} (F : FnOk X.prog X.w X.K X.mg X.base CX k f fd ps sp) (hr : Room k X.A) (hb : Binds X.K fd ps ds) (hd : Vals dvs ds) (hx : Passes CX X E)
    (I : Inv X pins σ H s) (r : Vals vs us) (h : sp (vs ++ dvs) H Q E) : wpAny (model X.prog X.w) X.A (call (.ref f) us) (EP X pins σ Q) X.xe s := by
  have r2 : Vals (vs ++ dvs) (us ++ ds) := r.append hd
  have hl : (us ++ ds).length = ps.length := by rw [← r2.length]; exact F.len _ _ _ _ h
  refine wpAny_call (codeAny_mono (F.run X.A X.stack s H ⟨us, []⟩ (us ++ ds) (vs ++ dvs) Q E hr I.env0 (hb s us I.kIn hl) r2 h) fun r s' hq => ?_)
  cases r with
  | error e => exact hx pins σ H s e s' I hq
  | ok fl =>
    cases fl with
    | ret u => exact I.after hq
    | next => exact False.elim hq
    | brk => exact False.elim hq
    | cont => exact False.elim hq
theorem pe_call (F : FnOk X.prog X.w X.K X.mg X.base CX k f fd ps sp) (hr : Room k X.A) (hg : Gl X x) (hm : X.mg x = some (.ref f)) (hk : PySem.W.keepIn X.K (.ref f) = true) (hb : Binds X.K fd ps ds) (hd : Vals dvs ds) (hx : Passes CX X E)
    (ha : PA X (e :: es) t) (hdb : (x == ("__debug__" : Str)) = false := by decide) (he : starEach (e :: es) X.env = (false, eval e X.env) :: starEach es X.env := by rfl) (hpl : (backTo pos (starEach es X.env)).any (·.1) = false := by rfl) :
    PE X (.Call (.Name x p) (e :: es) [] pos) (tCall sp dvs E t) := by
  intro pins s σ H Q I h
  refine wpAny_Call_Name_kw (ld_glob I hg hm ?_ hdb)
  refine PySem.W.callWith_K (h₀ := X.base) I.ok.mod.kin hk (thn (ha pos pins s σ H _ I h) fun us s1 ⟨vs, H1, I1, r, q⟩ => ⟨I1.kIn, ?_⟩) he hpl
  exact run_fn F hr hb hd hx I1 r q
end
structure FnScope (N P : List Str) (sc : Scope) : Prop where
  kind : sc.kind = .function
  co : sc.isCoroutine = false
  gen : sc.isGenerator = false
  nd : N.Nodup
  pre : N.take P.length = P
  par : ∀ x ∈ P, sc.names.lookup x = some .local ∨ sc.names.lookup x = some .cell
  nofree : ∀ y ∈ sc.names, y.2 ≠ .free
theorem bindL_out {kindOf : Str → Option NameKind} {x : Str} : ∀ {binds : List (Str × Value)} {m : Str → Option Value}, (∀ v, (x, v) ∉ binds) → bindL kindOf binds m x = m x
  | [], _, _ => rfl
  | (n, v) :: r, m, h => by
    unfold bindL
    rw [bindL_out fun w hw => h w (List.mem_cons_of_mem _ hw)]
    split
    · have : x ≠ n := by rintro rfl; exact h v List.mem_cons_self
      simp [this]
    · rfl
theorem bindC_out {kindOf : Str → Option NameKind} {x : Str} : ∀ {binds : List (Str × Value)} {m : Str → Option Value}, (∀ v, (x, v) ∉ binds) → bindC kindOf binds m x = m x
  | [], _, _ => rfl
  | (n, v) :: r, m, h => by
    unfold bindC
    rw [bindC_out fun w hw => h w (List.mem_cons_of_mem _ hw)]
    split
    · rfl
    · have : x ≠ n := by rintro rfl; exact h v List.mem_cons_self
      simp [this]
theorem bindL_get {kindOf : Str → Option NameKind} {x : Str} {v : Value} : ∀ {P : List Str} {vs : List Value} {i : Nat} {m : Str → Option Value}, P.Nodup → P[i]? = some x → vs[i]? = some v → kindOf x = some .local →
    bindL kindOf (P.zip vs) m x = some v
  | [], _, _, _, _, h, _, _ => by simp at h
  | _ :: _, [], _, _, _, _, h, _ => by simp at h
  | p :: P, w :: vs, 0, m, nd, h1, h2, hk => by
    simp at h1 h2; subst h1; subst h2
    show bindL kindOf ((p, w) :: P.zip vs) m p = _
    unfold bindL
    rw [bindL_out fun v hv => (List.nodup_cons.mp nd).1 (List.of_mem_zip hv).1, if_pos hk]
    simp
  | p :: P, w :: vs, i + 1, m, nd, h1, h2, hk => by
    show bindL kindOf ((p, w) :: P.zip vs) m x = _
    unfold bindL
    exact bindL_get (i := i) (List.nodup_cons.mp nd).2 (by simpa using h1) (by simpa using h2) hk
theorem bindC_get {kindOf : Str → Option NameKind} {x : Str} {v : Value} : ∀ {P : List Str} {vs : List Value} {i : Nat} {m : Str → Option Value}, P.Nodup → P[i]? = some x → vs[i]? = some v → kindOf x ≠ some .local →
    bindC kindOf (P.zip vs) m x = some v
  | [], _, _, _, _, h, _, _ => by simp at h
  | _ :: _, [], _, _, _, _, h, _ => by simp at h
  | p :: P, w :: vs, 0, m, nd, h1, h2, hk => by
    simp at h1 h2; subst h1; subst h2
    show bindC kindOf ((p, w) :: P.zip vs) m p = _
    unfold bindC
    rw [bindC_out fun v hv => (List.nodup_cons.mp nd).1 (List.of_mem_zip hv).1, if_neg hk]
    simp
  | p :: P, w :: vs, i + 1, m, nd, h1, h2, hk => by
    show bindC kindOf ((p, w) :: P.zip vs) m x = _
    unfold bindC
    exact bindC_get (i := i) (List.nodup_cons.mp nd).2 (by simpa using h1) (by simpa using h2) hk
noncomputable def start (N : List Str) (vs : List V) : St := vs.map some ++ List.replicate (N.length - vs.length) none
noncomputable def cxOf (CX : CXT) (P : Program) (w : World) (K : PySem.W.Frag) (mg : Str → Option Value) (base : Heap) (N : List Str) (qual : Str) (scope : Scope) (f : Addr) (cd : Value) (A : Around) (outer : List Env) (s : Shared) (H : Hp) (E : XK) : Cx where
  prog := P
  w := w
  K := K
  mg := mg
  base := base
  A := A.deeper (envOfC qual scope s.heap.objs.size f cd)
  N := N
  s₀ := s
  H₀ := H
  env := envOfC qual scope s.heap.objs.size f cd
  outer := outer
  stack := envOfC qual scope s.heap.objs.size f cd :: outer
  ex := []
  calm := true
  fn := fun _ => true
  pn := []
  xe := fun e s' => wpAny (model P w) (A.deeper (envOfC qual scope s.heap.objs.size f cd)) (leaving (envOfC qual scope s.heap.objs.size f cd) e) (fun _ s'' => CX outer H s E e s'') (fun e' s'' => CX outer H s E e' s'') s'
theorem cell_has {sc : Scope} {n : Nat} {x : Str} (h : sc.names.lookup x = some .cell) : ∃ c, (cellsFrom n sc.names []).lookup x = some c := by
  have q := PySem.W.cellsFrom_some sc.names n [] (.inl h)
  exact Option.isSome_iff_exists.mp q
theorem inv_start {CX : CXT} {P : Program} {w : World} {K : PySem.W.Frag} {mg : Str → Option Value} {base : Heap} {N ps : List Str} {qual : Str} {scope : Scope} {f : Addr} {cd : Value} {A : Around} {outer : List Env} {s s1 : Shared} {H : Hp} {E : XK} {us : List Value} {vs : List V}
    (S : FnScope N ps scope) (hd : A.handled = none) (e0 : Env0 P w K mg base A outer s H) (hl : vs.length = ps.length) (r : Vals vs us)
    (x : InCallC s s.heap.objs.size (bindL (envOfC qual scope s.heap.objs.size f cd).kindOf (ps.zip us) fun _ => none) (cellsFrom (s.heap.objs.size + 1) scope.names []) (bindC (envOfC qual scope s.heap.objs.size f cd).kindOf (ps.zip us) fun _ => none) s1) :
    Inv (cxOf CX P w K mg base N qual scope f cd A outer s H E) [] (start N vs) H s1 := by
  have hpl : ps.length ≤ N.length := by have := congrArg List.length S.pre; rw [List.length_take] at this; omega
  obtain ⟨h1, tk, rfl, hk⟩ := x.done
  have noA : ∀ b : Addr, b ∉ (cxOf CX P w K mg base N qual scope f cd A outer s H E).ex := fun b z => absurd (show b ∈ ([] : List Addr) from z) (by simp)
  refine ⟨⟨e0.mod, S.kind, rfl, rfl, Nat.le_refl _, fun y z c h1 h2 => ?_, fun y hy => ?_, fun y c _ h => ?_, fun _ => hd, Around.frames_deeper e0.frames, .inr ⟨rfl, rfl⟩, fun b z => absurd z (noA b), e0.bs, e0.bsz, fun b _ _ => noA b, fun b z => absurd z (noA b), e0.funs, e0.frf⟩,
    rfl, e0.bare, Un.kept hk, ⟨_, x.toInCall.ns, fun i y v h1 h2 h3 => ?_⟩, fun y c h => ⟨_, x.cell y c h⟩, e0.hok.fresh (Nat.le_refl _), fun y c h => ?_, fun p hp => absurd (show p ∈ ([] : List (Addr × Obj)) from hp) (by simp), e0.hok.kept hk, ?_⟩
  · exact name_of_addr x.apart (PySem.mem_of_lookup h1) (PySem.mem_of_lookup h2)
  · have hy : scope.names.lookup y = some .cell ∨ scope.names.lookup y = some .free := hy
    rcases hy with hy | hy
    · exact cell_has hy
    · exact absurd rfl (S.nofree _ (PySem.mem_of_lookup hy))
  · exact Nat.le_of_lt (x.above y c (PySem.mem_of_lookup h))
  · have hi : i < vs.length := by
      unfold start at h2
      by_cases hi : i < vs.length
      · exact hi
      · rw [List.getElem?_append_right (by simpa using hi)] at h2
        rw [List.getElem?_replicate] at h2
        split at h2 <;> cases h2
    have ha : vs[i]? = some v := by
      unfold start at h2
      rw [List.getElem?_append_left (by simpa using hi), List.getElem?_map] at h2
      cases e : vs[i]? with
      | none => rw [e] at h2; cases h2
      | some a => rw [e] at h2; cases h2; rfl
    obtain ⟨u, hu, rv⟩ := r.get ha
    have hp : ps[i]? = some y := by
      rw [← S.pre, List.getElem?_take_of_lt (by omega)]; exact h1
    have ndP : ps.Nodup := by rw [← S.pre]; exact S.nd.sublist (List.take_sublist _ _)
    refine ⟨u, rv, ?_⟩
    rcases S.par y (List.mem_of_getElem? hp) with k | k
    · exact .inl ⟨k, bindL_get ndP hp hu k⟩
    · obtain ⟨c, e⟩ := cell_has (n := s.heap.objs.size + 1) k
      refine .inr ⟨.inl k, c, e, ?_⟩
      have q := x.cell y c e
      rw [bindC_get ndP hp hu (by show scope.names.lookup y ≠ _; rw [k]; decide)] at q
      exact q
  · exact e0.hok.fresh (Nat.le_of_lt (x.above y c (PySem.mem_of_lookup h)))
  · unfold start
    show _ = N.length
    rw [List.length_append, List.length_map, List.length_replicate]
    omega
theorem fn_of {CX : CXT} {P : Program} {w : World} {K : PySem.W.Frag} {mg : Str → Option Value} {base : Heap} {k : Nat} {f : Addr} {name qual : Str} {params : Arguments} {body : List Stmt} {scope : Scope} {dV kV doc pm cdv ct oc : Value} {an od : Option Addr}
    {osl : Array (Option Value)} {N ps : List Str} {sp : Sp} (lk : K.lookup f = some ⟨oc, od, .func (PySem.W.fnOf name qual params body scope dV kV doc pm an cdv ct), osl⟩) (hcd : PySem.W.codeIn K cdv qual = true) (S : FnScope N ps scope)
    (len : ∀ vs H Q E, sp vs H Q E → vs.length = ps.length)
    (hbody : ∀ (A : Around) (outer : List Env) (s : Shared) (H : Hp) (vs : List V) (Q : VK) (E : XK), Room k (A.deeper (envOfC qual scope s.heap.objs.size f cdv)) → sp vs H Q E →
      ∃ t, PSs (cxOf CX P w K mg base N qual scope f cdv A outer s H E) body t ∧ t { nx := fun _ H' => Q .non H', rt := Q } (start N vs) H) :
    FnOk P w K mg base CX (k + 1) f (PySem.W.fnOf name qual params body scope dV kV doc pm an cdv ct) ps sp := by
  refine ⟨len, fun A outer s H args us vs Q E hr e0 hb r hsp => ?_⟩
  have hl := len _ _ _ _ hsp
  have KX : K.In s.heap := e0.mod.kin.keeps fun b o e => (e0.bs b o e).1
  have lim : s.heap.NoLimit := e0.mod.nolimit.keeps fun b o e => (e0.bs b o e).1
  have hkind : ∀ y ∈ ps.zip us, scope.names.lookup y.1 = some .local ∨ (scope.names.lookup y.1 = some .cell ∧ ((cellsFrom (s.heap.objs.size + 1) scope.names []).lookup y.1).isSome = true) := fun ⟨n, v⟩ hy => by
    rcases S.par n (List.of_mem_zip hy).1 with q | q
    · exact .inl q
    · exact .inr ⟨q, PySem.W.cellsFrom_some _ _ _ (.inl q)⟩
  refine codeAny_call_function hr.depth (KX _ _ lk) rfl S.co S.gen rfl (PySem.W.codeRec_of KX hcd) (hb _ _ _ _ ?_)
  refine wpAny_newFunctionEnv_cells S.kind hkind fun env he s1 x => ?_
  subst he
  refine ⟨lim.keeps x.toInCall.keep, codeAny_func ?_⟩
  obtain ⟨t, ht, hq⟩ := hbody A outer s H vs Q E (hr.deeper _) hsp
  have I : Inv (cxOf CX P w K mg base N qual scope f cdv A outer s H E) [] (start N vs) H s1 := inv_start S hr.hd e0 hl r x
  refine wpAny_mono (ht [] s1 (start N vs) H _ I hq) (fun fl s' hs => ?_) fun e s' hs => hs
  have fin : ∀ {σ' : St} {H' : Hp} {v : V} {u : Value}, Inv (cxOf CX P w K mg base N qual scope f cdv A outer s H E) [] σ' H' s' → RelV v u → Q v H' → CE outer P w H s Q u s' :=
    fun {σ' H' v u} J rv q => ⟨v, H', J.os, J.bare, J.base, J.hok, rv, q⟩
  cases fl with
  | ret u =>
    obtain ⟨v, σ', H', J, rv, q⟩ := hs
    exact fin J rv q
  | next =>
    obtain ⟨σ', H', J, q⟩ := hs
    exact fin (v := V.non) (u := Value.none) J rfl q
  | brk =>
    obtain ⟨_, _, _, q⟩ := hs
    exact False.elim q
  | cont =>
    obtain ⟨_, _, _, q⟩ := hs
    exact False.elim q
end L2
namespace L2
open PySem PySem.Spec PyProof.Rows
section
variable {X : Cx} {x : Str} {p pos : Pos} {e : Expr} {es : List Expr} {t : TA} {id T : String} {r : List V → Hp → VK → Prop}
noncomputable def tCB (r : List V → Hp → VK → Prop) (t : TA) : TE := fun σ H Q => t σ H fun vs H1 => r vs H1 Q
theorem pe_callB (hc : CallR X (.builtin id) r) (hg : Gl X x) (hm : X.mg x = none) (hv : bootBuiltins x = some (.builtin id)) (ha : PA X (e :: es) t) (hn : x ≠ "__name__" := by decide) (hdb : (x == ("__debug__" : Str)) = false := by decide)
    (he : starEach (e :: es) X.env = (false, eval e X.env) :: starEach es X.env := by rfl) (hpl : (backTo pos (starEach es X.env)).any (·.1) = false := by rfl) : PE X (.Call (.Name x p) (e :: es) [] pos) (tCB r t) := by
  intro pins s σ H Q I h
  refine wpAny_Call_Name_kw (ld_blt I hg hm hv ?_ hn hdb)
  exact PyProof.Rows.callWith_builtin1 (thn (ha pos pins s σ H _ I h) fun us s1 ⟨vs, H1, I1, r1, q1⟩ => hc pins s1 σ H1 vs us Q I1 r1 q1) he hpl
theorem pe_callTy (hc : CallR X (.type T) r) (hg : Gl X x) (hm : X.mg x = none) (hv : bootBuiltins x = some (.type T)) (ha : PA X (e :: es) t) (hn : x ≠ "__name__" := by decide) (hdb : (x == ("__debug__" : Str)) = false := by decide)
    (he : starEach (e :: es) X.env = (false, eval e X.env) :: starEach es X.env := by rfl) (hpl : (backTo pos (starEach es X.env)).any (·.1) = false := by rfl) : PE X (.Call (.Name x p) (e :: es) [] pos) (tCB r t) := by
  intro pins s σ H Q I h
  refine wpAny_Call_Name_kw (ld_blt I hg hm hv ?_ hn hdb)
  exact PyProof.Rows.callWith_type1 (thn (ha pos pins s σ H _ I h) fun us s1 ⟨vs, H1, I1, r1, q1⟩ => hc pins s1 σ H1 vs us Q I1 r1 q1) he hpl
end
end L2
namespace HT
open PySem PyProof.Rows
section
open PySem.SeqAt
open PySem.AutoSeq1 (wpAny_loadPart')
open PySem.MeetsSeq PySem.MeetsSeq2 PySem.MeetsSeq3
end
section
variable {prog : Program} {w : World} {A : Around} {E : Value → Shared → Prop} {s : Shared}
noncomputable def sIx (n d : Nat) : Option Int → Nat
  | none => d
  | some v => if v < 0 then (v + (n : Int)).toNat else min v.toNat n
theorem sIx_none (n d : Nat) : sIx n d none = d := rfl
theorem sIx_nat (n d k : Nat) : sIx n d (some (k : Int)) = min k n := by
  show (if (k : Int) < 0 then ((k : Int) + (n : Int)).toNat else min (k : Int).toNat n) = min k n
  rw [if_neg (by omega), Int.toNat_natCast]
end
end HT
namespace L2
open PySem PySem.Spec PyProof.Rows
noncomputable abbrev TO := St → Hp → (Option Int → Hp → Prop) → Prop
noncomputable def PO (X : Cx) (e : Option Expr) (t : TO) : Prop :=
  ∀ (pins : List (Addr × Obj)) (s : Shared) (σ : St) (H : Hp) (Q : Option Int → Hp → Prop), Inv X pins σ H s → t σ H Q →
    wpAny (model X.prog X.w) X.A (evalPart e X.env) (fun u s' => ∃ o H', Inv X pins σ H' s' ∧ IsPart u o ∧ Q o H') X.xe s
noncomputable def tNoPart : TO := fun _ H Q => Q none H
noncomputable def tPart (t : TE) : TO := fun σ H Q => t σ H fun x H1 => ∃ i, x = .int i ∧ Q (some i) H1
section
variable {X : Cx} {e : Expr} {te : TE} {lo hi : Option Expr} {tl th : TO} {pos p2 : Pos}
theorem po_none : PO X none tNoPart := by
  intro pins s σ H Q I h
  rw [evalPart_none]
  exact wpAny_pure ⟨none, H, I, .none, h⟩
theorem po_some (h : PE X e te) : PO X (some e) (tPart te) := by
  intro pins s σ H Q I hw
  rw [evalPart_some]
  refine thn (h pins s σ H _ I hw) fun u s1 ⟨x, H1, I1, r1, q1⟩ => ?_
  obtain ⟨i, rfl, q⟩ := q1
  obtain ⟨t, rfl⟩ := r1
  exact ⟨some i, H1, I1, .int i t, q⟩
noncomputable def SlR (X : Cx) (r : V → Option Int → Option Int → Hp → VK → Prop) : Prop :=
  ∀ (pins : List (Addr × Obj)) (s : Shared) (σ : St) (H : Hp) (x : V) (v vl vu : Value) (lo hi : Option Int) (sl : Addr) (Q : VK), Inv X pins σ H s → RelV x v → s.heap.IsSliceOf sl vl vu .none → IsPart vl lo → IsPart vu hi → r x lo hi H Q →
    ∃ T id, typeLookup (.type T) "__getitem__" = pure (some (.builtin id)) ∧ s.TypeIs v T ∧ wpAny (model X.prog X.w) X.A (getItem v (.ref sl)) (EP X pins σ Q) X.xe s
noncomputable def tSl (r : V → Option Int → Option Int → Hp → VK → Prop) (te : TE) (tl th : TO) : TE := fun σ H Q => te σ H fun x H1 => tl σ H1 fun l H2 => th σ H2 fun u H3 => r x l u H3 Q
theorem pe_slice {r : V → Option Int → Option Int → Hp → VK → Prop} (hr : SlR X r) (he : PE X e te) (hl : PO X lo tl) (hu : PO X hi th) : PE X (.Subscript e (.Slice lo hi none p2) pos) (tSl r te tl th) := by
  intro pins s σ H Q I h
  refine Subscript_ (thn (he pins s σ H _ I h) fun v s1 ⟨x, H1, I1, r1, q1⟩ => ?_)
  refine wpAny_Slice (thn (hl pins s1 σ H1 _ I1 q1) fun vl s2 ⟨l, H2, I2, pl, q2⟩ => thn (hu pins s2 σ H2 _ I2 q2) fun vu s3 ⟨u, H3, I3, pu, q3⟩ => ?_)
  rw [evalPart_none]
  refine wpAny_pure ?_
  have I4 : Inv X pins σ H3 { s3 with heap := s3.heap.push { cls := .type "slice", data := .fields #[vl, vu, .none] } } := I3.kept (t' := s3.toks) fun b ob q => Heap.get?_push_of_some _ q
  obtain ⟨T, id, hT, ht, hg⟩ := hr pins { s3 with heap := s3.heap.push { cls := .type "slice", data := .fields #[vl, vu, .none] } } σ H3 x v vl vu l u s3.heap.objs.size Q I4 r1 (Heap.IsSliceOf.new ..) pl pu q3
  show wpAny (model X.prog X.w) X.A (subscriptTail e (.Slice lo hi none p2) v (.ref s3.heap.objs.size)) (EP X pins σ Q) X.xe { s3 with heap := s3.heap.push { cls := .type "slice", data := .fields #[vl, vu, .none] } }
  exact tail_any (ops := [.ref s3.heap.objs.size, v]) ht hT hg (by with_unfolding_all rfl)
noncomputable def cutV (xs : List V) (lo hi : Option Int) : List V := (xs.drop (HT.sIx xs.length 0 lo)).take (HT.sIx xs.length xs.length hi - HT.sIx xs.length 0 lo)
theorem cutV_length (xs : List V) (lo hi : Option Int) : (cutV xs lo hi).length ≤ xs.length := by
  unfold cutV
  rw [List.length_take, List.length_drop]
  omega
end
end L2
namespace L2
open PySem PySem.Spec PyProof.Rows
noncomputable def ixN (n : Nat) (i : Int) : Option Nat := if 0 ≤ i then (if i < n then some i.toNat else none) else if -(n : Int) ≤ i then some (i + n).toNat else none
noncomputable def atI {α : Type} (xs : List α) (i : Int) : Option α := (ixN xs.length i).bind fun j => xs[j]?
theorem ixN_seq {n : Nat} {i : Int} {j : Nat} (h : ixN n i = some j) : seqIndex? i n = some j ∧ j < n ∧ -(n : Int) ≤ i ∧ i < n := by
  unfold ixN at h
  by_cases h0 : 0 ≤ i
  · rw [if_pos h0] at h
    by_cases h1 : i < n
    · rw [if_pos h1] at h
      have e : i.toNat = j := Option.some.inj h
      exact ⟨by rw [seqIndex_of h0 h1, e], by omega, by omega, h1⟩
    · rw [if_neg h1] at h; cases h
  · rw [if_neg h0] at h
    by_cases h1 : -(n : Int) ≤ i
    · rw [if_pos h1] at h
      have e : (i + n).toNat = j := Option.some.inj h
      exact ⟨by rw [seqIndex_neg (by omega) h1, e], by omega, h1, by omega⟩
    · rw [if_neg h1] at h; cases h
theorem atI_get {α : Type} {xs : List α} {i : Int} {v : α} (h : atI xs i = some v) : ∃ j, seqIndex? i xs.length = some j ∧ xs[j]? = some v ∧ j < xs.length ∧ -(xs.length : Int) ≤ i ∧ i < xs.length := by
  unfold atI at h
  cases e : ixN xs.length i with
  | none => rw [e] at h; cases h
  | some j =>
    rw [e] at h
    obtain ⟨h1, h2, h3, h4⟩ := ixN_seq e
    exact ⟨j, h1, h, h2, h3, h4⟩
theorem atI_nat {α : Type} {xs : List α} {j : Nat} {v : α} (h : xs[j]? = some v) : atI xs (j : Int) = some v := by
  have hj : j < xs.length := (List.getElem?_eq_some_iff.mp h).1
  have e : ixN xs.length (j : Int) = some j := by
    unfold ixN
    rw [if_pos (by omega), if_pos (by omega)]; simp
  unfold atI; rw [e]; exact h
theorem atI_last {α : Type} (xs : List α) (v : α) : atI (xs ++ [v]) (-1) = some v := by
  have hl : (xs ++ [v]).length = xs.length + 1 := by simp
  have e : ixN (xs ++ [v]).length (-1) = some xs.length := by
    unfold ixN
    rw [hl, if_neg (by decide), if_pos (by omega)]
    congr 1
    omega
  unfold atI
  rw [e]
  show (xs ++ [v])[xs.length]? = some v
  simp
noncomputable def PlainIx (b : Expr) : Prop := ∀ o i, subscripted b false o i = operate [o, i] (getItem o i)
noncomputable def IxR (X : Cx) (r : R2) : Prop :=
  ∀ (value slice : Expr) (pins : List (Addr × Obj)) (s : Shared) (σ : St) (H : Hp) (x y : V) (v u : Value) (Q : VK), Inv X pins σ H s → RelV x v → RelV y u → r x y H Q →
    subscripted slice false v u = operate [v, u] (getItem v u) → wpAny (model X.prog X.w) X.A (subscriptTail value slice v u) (EP X pins σ Q) X.xe s
noncomputable def MtR (X : Cx) (id : String) (r : V → List V → Hp → VK → Prop) : Prop :=
  ∀ (pins : List (Addr × Obj)) (s : Shared) (σ : St) (H : Hp) (x : V) (xs : List V) (v : Value) (us : List Value) (Q : VK), Inv X pins σ H s → RelV x v → Vals xs us → r x xs H Q →
    wpAny (model X.prog X.w) X.A (call (.builtin id) (v :: us)) (EP X pins σ Q) X.xe s
section
variable {X : Cx} {a b : Expr} {ta tb : TE} {pos : Pos}
theorem pe_ix {r : R2} (hr : IxR X r) (ha : PE X a ta) (hb : PE X b tb) (hs : PlainIx b) : PE X (.Subscript a b pos) (tOp r ta tb) := by
  intro pins s σ H Q I h
  exact Subscript_ (binT ha hb I h fun v u s2 x y H2 I2 rx ry q => hr a b pins s2 σ H2 x y v u Q I2 rx ry q (hs _ _))
noncomputable def rIxL (K : PySem.W.Frag) : R2 := fun x y H Q => ∃ p xs i v, x = .ref p ∧ y = .int i ∧ SqL K H p xs ∧ atI xs i = some v ∧ Q v H
noncomputable def rIxT (K : PySem.W.Frag) : R2 := fun x y H Q => ∃ p xs i v, x = .ref p ∧ y = .int i ∧ SqT K H p xs ∧ atI xs i = some v ∧ Q v H
noncomputable def rIxS : R2 := fun x y H Q => ∃ z i c, x = .str z ∧ y = .int i ∧ z.length ≤ sizeLine ∧ atI z.cps.toList i = some c ∧ Q (.str ⟨#[c]⟩) H
theorem ix_list : IxR X (rIxL X.K) := by
  intro value slice pins s σ H x y v u Q I rx ry h hs
  obtain ⟨p, xs, i, z, rfl, rfl, hq, he, q⟩ := h
  cases rx
  obtain ⟨t, rfl⟩ := ry
  obtain ⟨its, r, pl, hz⟩ := I.list hq
  obtain ⟨j, h1, h2, h3, h4, h5⟩ := atI_get he
  obtain ⟨w, ew, rw'⟩ := r.get h2
  have hl := r.length
  have hn := line63
  have fin : EP X pins σ Q w s := ⟨z, H, I, rw', q⟩
  by_cases h0 : 0 ≤ i
  · have hj : i.toNat = j := by
      rw [seqIndex_of h0 h5] at h1
      exact Option.some.inj h1
    exact item_listR pl.isList h0 (by omega) (by rw [hj]; simpa using ew) fin hs
  · have hj : (i + (its.toArray.size : Int)).toNat = j := by
      rw [seqIndex_neg (by omega) h4] at h1
      rw [List.size_toArray, ← hl]
      exact Option.some.inj h1
    exact subscriptTail_builtinR (x := w) pl.isList.typeIs slot_list_getitem.lookup
      (wpAny_getItem_list_neg (Q := fun r s' => r = w ∧ EP X pins σ Q r s') pl.isList (by omega) (by rw [List.size_toArray] <;> omega) (by omega) (by rw [hj]; simpa using ew) ⟨rfl, fin⟩) hs
theorem ix_tup : IxR X (rIxT X.K) := by
  intro value slice pins s σ H x y v u Q I rx ry h hs
  obtain ⟨p, xs, i, z, rfl, rfl, hq, he, q⟩ := h
  cases rx
  obtain ⟨t, rfl⟩ := ry
  obtain ⟨its, r, pl, hz⟩ := I.tuple hq
  obtain ⟨j, h1, h2, h3, h4, h5⟩ := atI_get he
  obtain ⟨w, ew, rw'⟩ := r.get h2
  have hl := r.length
  have hn := line63
  have fin : EP X pins σ Q w s := ⟨z, H, I, rw', q⟩
  exact subscriptTail_builtinR (x := w) pl.typeIs slot_tuple_getitem.lookup
    (getItem_tuple (j := j) (Q := fun r s' => r = w ∧ EP X pins σ Q r s') pl (by omega) (by omega) (by rw [List.size_toArray, ← hl]; exact h1) (by simpa using ew) ⟨rfl, fin⟩) hs
theorem ix_str : IxR X rIxS := by
  intro value slice pins s σ H x y v u Q I rx ry h hs
  obtain ⟨z, i, c, rfl, rfl, hz, he, q⟩ := h
  obtain ⟨t, rfl⟩ := rx
  obtain ⟨t', rfl⟩ := ry
  obtain ⟨j, h1, h2, h3, h4, h5⟩ := atI_get he
  have hl : z.cps.toList.length = z.length := by simp [Str.length]
  rw [hl] at h1 h4 h5
  have hn := line63
  exact tail_any (typeIs_str s z t) slot_str_getitem.lookup (getItem_str (c := c) (by
    have e1 : decide (i < -(2 ^ 63 : Int)) = false := decide_eq_false (by omega)
    have e2 : decide (i ≥ 2 ^ 63) = false := decide_eq_false (by omega)
    rw [e1, e2, Bool.or_false]) (by rw [h1]; simpa using h2) ⟨.str ⟨#[c]⟩, H, I.tok _, ⟨_, rfl⟩, q⟩) hs
theorem mapSeq_set (its : List Value) (n j : Nat) (u : Value) : Obj.mapSeq (·.setIfInBounds j u) { cls := .type "list", data := .seq its.toArray n } = { cls := .type "list", data := .seq (its.set j u).toArray n } := by
  simp [Obj.mapSeq]
theorem Inv.lst {pins : List (Addr × Obj)} {σ : St} {H : Hp} {s : Shared} {p : Addr} {xs : List V} (I : Inv X pins σ H s) (h : H p = some (.lst xs)) :
    ∃ (its : List Value) (n : Nat), Vals xs its ∧ s.heap.get? p = some { cls := .type "list", data := .seq its.toArray n } ∧ xs.length ≤ sizeLine := by
  obtain ⟨z, its, n, r, e⟩ := I.hok p _ h
  exact ⟨its, n, r, e, z⟩
theorem Inv.lstUpd {pins : List (Addr × Obj)} {σ : St} {H : Hp} {s : Shared} {p : Addr} {xs ys : List V} {its its' : List Value} {n n' : Nat} {f : Obj → Obj} (I : Inv X pins σ H s) (h : H p = some (.lst xs))
    (ho : s.heap.get? p = some { cls := .type "list", data := .seq its.toArray n }) (hf : f { cls := .type "list", data := .seq its.toArray n } = { cls := .type "list", data := .seq its'.toArray n' }) (r : Vals ys its') (hz : ys.length ≤ sizeLine) (t : Nat) :
    Inv X pins σ (upd H p (.lst ys)) { s with heap := s.heap.update p f, toks := t } := by
  have e : (s.heap.update p f).get? p = some { cls := .type "list", data := .seq its'.toArray n' } := by
    rw [Heap.get?_update_self f ho (by rw [hf] <;> rfl), hf]
  refine I.write (x := p) (e := p) (by rw [h]; trivial) (.inl rfl) (fun b u hb q => (Heap.get?_update_other _ _ (Ne.symm hb)).trans q) ⟨_, e⟩ ?_
  exact ⟨hz, its', n', r, e⟩
noncomputable def rSetL : V → V → V → Hp → (Hp → Prop) → Prop := fun o i v H Q => ∃ p xs k j, o = .ref p ∧ i = .int k ∧ H p = some (.lst xs) ∧ ixN xs.length k = some j ∧ Q (upd H p (.lst (xs.set j v)))
theorem set_list : PSet X rSetL := by
  intro pins s σ H o i v ov iv u Q I ro ri rv h
  obtain ⟨p, xs, k, j, rfl, rfl, hp, hj, q⟩ := h
  cases ro
  obtain ⟨t, rfl⟩ := ri
  obtain ⟨its, n, r, ho, hz⟩ := I.lst hp
  obtain ⟨h1, h2, h3, h4⟩ := ixN_seq hj
  have hl := r.length
  have hn := line63
  have I' : Inv X pins σ (upd H p (.lst (xs.set j v))) { s with heap := s.heap.update p (Obj.mapSeq (·.setIfInBounds j u)) } :=
    I.lstUpd hp ho (mapSeq_set its n j u) (r.set rv j) (by rw [List.length_set]; exact hz) s.toks
  by_cases h0 : 0 ≤ k
  · have hk : k.toNat = j := by
      rw [seqIndex_of h0 h4] at h1
      exact Option.some.inj h1
    exact PySem.W.ki_setAt ho h0 (by omega) (by rw [List.size_toArray, ← hl]; exact h4) (by rw [hk]; exact ⟨_, I', q⟩)
  · have hk : (k + (its.toArray.size : Int)).toNat = j := by
      rw [seqIndex_neg (by omega) h3] at h1
      rw [List.size_toArray, ← hl]
      exact Option.some.inj h1
    exact PySem.W.ki_setBack ho (by omega) (by rw [List.size_toArray, ← hl]; exact h3) (by omega) (by rw [hk]; exact ⟨_, I', q⟩)
theorem slice_bounds (lo hi : Option Int) (n : Nat) : (sliceBounds lo hi none n).1 = ((HT.sIx n 0 lo : Nat) : Int) ∧ (sliceBounds lo hi none n).2.1 = ((HT.sIx n n hi : Nat) : Int) ∧ (sliceBounds lo hi none n).2.2 = 1 := by
  refine ⟨?_, ?_, rfl⟩
  · cases lo with
    | none => simp [sliceBounds, HT.sIx]
    | some i =>
      simp only [sliceBounds, HT.sIx, Option.getD_none, show (1 : Int) > 0 by decide, if_true]
      by_cases h : i < 0
      · simp only [h, if_true] <;> omega
      · simp only [h, if_false] <;> omega
  · cases hi with
    | none => simp [sliceBounds, HT.sIx]
    | some i =>
      simp only [sliceBounds, HT.sIx, Option.getD_none, show (1 : Int) > 0 by decide, if_true]
      by_cases h : i < 0
      · simp only [h, if_true] <;> omega
      · simp only [h, if_false] <;> omega
theorem slicePick_cut (its : List Value) (lo hi : Option Int) : slicePick its.toArray lo hi none = ((its.drop (HT.sIx its.length 0 lo)).take (HT.sIx its.length its.length hi - HT.sIx its.length 0 lo)).toArray := by
  obtain ⟨h1, h2, h3⟩ := slice_bounds lo hi its.toArray.size
  unfold slicePick
  rw [h1, h2, h3]
  simp only [sliceRange_one, pick_run, List.size_toArray] <;> rfl
noncomputable def rSlL (K : PySem.W.Frag) : V → Option Int → Option Int → Hp → VK → Prop := fun x lo hi H Q => ∃ a xs, x = .ref a ∧ SqL K H a xs ∧ ∀ p, H p = none → Q (.ref p) (upd H p (.lst (cutV xs lo hi)))
theorem sl_list : SlR X (rSlL X.K) := by
  intro pins s σ H x v vl vu lo hi sl Q I rx hs pl pu h
  obtain ⟨a, xs, rfl, hx, q⟩ := h
  cases rx
  obtain ⟨its, r, ht, hz⟩ := I.list hx
  have hlen := r.length
  refine ⟨"list", _, slot_list_getitem.lookup, ht.isList.typeIs, ?_⟩
  refine wpAny_getItem_list_slice ht.isList hs pl pu .none (by simp) ?_ (by rw [List.size_toArray] <;> omega)
  rw [slicePick_cut, ← hlen]
  refine ⟨.ref s.heap.objs.size, _, I.laid (t' := s.toks) (o := .lst (cutV xs lo hi)) (fun b ob q => Heap.get?_push_of_some _ q) (Nat.le_refl _) ?_, rfl, q _ (I.hok.fresh (Nat.le_refl _))⟩
  exact ⟨Nat.le_trans (cutV_length xs lo hi) hz, _, 0, (r.drop (HT.sIx xs.length 0 lo)).take (HT.sIx xs.length xs.length hi - HT.sIx xs.length 0 lo), Heap.get?_push_size _ rfl⟩
noncomputable def flatV : V → Bool
  | .non => true
  | .bl _ => true
  | .int _ => true
  | .str _ => true
  | _ => false
noncomputable def eqV : V → V → Bool
  | .non, .non => true
  | .bl a, .bl b => a == b
  | .bl a, .int b => (if a then 1 else 0) == b
  | .int a, .bl b => a == (if b then 1 else 0)
  | .int a, .int b => a == b
  | .str a, .str b => a == b
  | _, _ => false
theorem eqAt_V {A : Around} {s : Shared} {y x : V} {u v : Value} (ry : RelV y u) (rx : RelV x v) (fy : flatV y = true) (fx : flatV x = true) : SeqAt.EqAt A s u v (eqV y x) := by
  cases y with
  | non =>
    cases ry
    cases x with
    | non => cases rx; exact SeqAt.EqAt.same _
    | bl b => cases rx; exact SeqAt.EqAt.none_bool b
    | int b => obtain ⟨t, rfl⟩ := rx; exact SeqAt.EqAt.none_int b t
    | str b => obtain ⟨t, rfl⟩ := rx; exact SeqAt.EqAt.none_str b t
    | _ => exact absurd (show false = true from fx) Bool.false_ne_true
  | bl a =>
    cases ry
    cases x with
    | non => cases rx; exact SeqAt.EqAt.bool_none a
    | bl b => cases rx; exact SeqAt.EqAt.bool_bool a b
    | int b => obtain ⟨t, rfl⟩ := rx; exact SeqAt.EqAt.bool_int a b t
    | str b => obtain ⟨t, rfl⟩ := rx; exact SeqAt.EqAt.bool_str a b t
    | _ => exact absurd (show false = true from fx) Bool.false_ne_true
  | int a =>
    obtain ⟨t', rfl⟩ := ry
    cases x with
    | non => cases rx; exact SeqAt.EqAt.int_none a t'
    | bl b => cases rx; exact SeqAt.EqAt.int_bool a t' b
    | int b => obtain ⟨t, rfl⟩ := rx; exact SeqAt.EqAt.int_int a t' b t
    | str b => obtain ⟨t, rfl⟩ := rx; exact SeqAt.EqAt.int_str a t' b t
    | _ => exact absurd (show false = true from fx) Bool.false_ne_true
  | str a =>
    obtain ⟨t', rfl⟩ := ry
    cases x with
    | non => cases rx; exact SeqAt.EqAt.str_none a t'
    | bl b => cases rx; exact SeqAt.EqAt.str_bool a t' b
    | int b => obtain ⟨t, rfl⟩ := rx; exact SeqAt.EqAt.str_int a t' b t
    | str b => obtain ⟨t, rfl⟩ := rx; exact SeqAt.EqAt.str_str a t' b t
    | _ => exact absurd (show false = true from fx) Bool.false_ne_true
  | _ => exact absurd (show false = true from fy) Bool.false_ne_true
noncomputable def eqU (x : V) (u : Value) : Bool := match u with
  | .none => eqV .non x
  | .bool b => eqV (.bl b) x
  | .int i _ => eqV (.int i) x
  | .str z _ => eqV (.str z) x
  | _ => false
theorem eqU_of {x y : V} {u : Value} (r : RelV y u) (f : flatV y = true) : eqU x u = eqV y x := by
  cases y with
  | non => cases r; rfl
  | bl b => cases r; rfl
  | int i => obtain ⟨t, rfl⟩ := r; rfl
  | str z => obtain ⟨t, rfl⟩ := r; rfl
  | _ => exact absurd (show false = true from f) Bool.false_ne_true
theorem any_eqU {x : V} : ∀ {xs : List V} {us : List Value}, Vals xs us → xs.all flatV = true → us.any (eqU x) = xs.any fun y => eqV y x
  | _, _, .nil, _ => rfl
  | y :: xs, u :: us, .cons r t, f => by
    rw [List.all_cons, Bool.and_eq_true] at f
    rw [List.any_cons, List.any_cons, eqU_of r f.1, any_eqU t f.2]
theorem mem_eqAt {A : Around} {s : Shared} {x : V} {v : Value} (rx : RelV x v) (fx : flatV x = true) : ∀ {xs : List V} {us : List Value}, Vals xs us → xs.all flatV = true → ∀ u ∈ us, SeqAt.EqAt A s u v (eqU x u)
  | _, _, .nil, _ => fun u hu => by cases hu
  | y :: xs, u :: us, .cons r t, f => fun u' hu => by
    rw [List.all_cons, Bool.and_eq_true] at f
    rcases List.mem_cons.mp hu with rfl | hu
    · rw [eqU_of r f.1]; exact eqAt_V r rx f.1 fx
    · exact mem_eqAt rx fx t f.2 u' hu
noncomputable def inV (x : V) (xs : List V) : Bool := xs.any fun y => eqV y x
noncomputable def rIn (K : PySem.W.Frag) (neg : Bool) : R2 := fun x y H Q => ∃ p xs, y = .ref p ∧ (SqL K H p xs ∨ SqT K H p xs) ∧ flatV x = true ∧ xs.all flatV = true ∧ Q (.bl (if neg then !inV x xs else inV x xs)) H
theorem op_in_seq : OpR X (compareOp .In) (rIn X.K false) := by
  intro pins s σ H x y v u Q I rx ry h
  obtain ⟨p, xs, rfl, hq, fx, fs, q⟩ := h
  cases ry
  rcases hq with hq | hq
  · obtain ⟨its, r, pl, hz⟩ := I.list hq
    refine SeqAt.in_listAt (eqU x) pl.isList (fun w hw => mem_eqAt rx fx r fs w (by simpa using hw)) ⟨.bl _, H, I, rfl, ?_⟩
    rw [show its.toArray.any (eqU x) = its.any (eqU x) by simp, any_eqU r fs]
    exact q
  · obtain ⟨its, r, pl, hz⟩ := I.tuple hq
    refine SeqAt.in_tupleAt (eqU x) pl (fun w hw => mem_eqAt rx fx r fs w (by simpa using hw)) ⟨.bl _, H, I, rfl, ?_⟩
    rw [show its.toArray.any (eqU x) = its.any (eqU x) by simp, any_eqU r fs]
    exact q
theorem op_notIn_seq : OpR X (compareOp .NotIn) (rIn X.K true) := by
  intro pins s σ H x y v u Q I rx ry h
  obtain ⟨p, xs, rfl, hq, fx, fs, q⟩ := h
  cases ry
  rcases hq with hq | hq
  · obtain ⟨its, r, pl, hz⟩ := I.list hq
    refine SeqAt.notIn_listAt (eqU x) pl.isList (fun w hw => mem_eqAt rx fx r fs w (by simpa using hw)) ⟨.bl _, H, I, rfl, ?_⟩
    rw [show its.toArray.any (eqU x) = its.any (eqU x) by simp, any_eqU r fs]
    exact q
  · obtain ⟨its, r, pl, hz⟩ := I.tuple hq
    refine SeqAt.notIn_tupleAt (eqU x) pl (fun w hw => mem_eqAt rx fx r fs w (by simpa using hw)) ⟨.bl _, H, I, rfl, ?_⟩
    rw [show its.toArray.any (eqU x) = its.any (eqU x) by simp, any_eqU r fs]
    exact q
theorem CallR.or {f : Value} {r r' : List V → Hp → VK → Prop} (h : CallR X f r) (h' : CallR X f r') : CallR X f (fun xs H Q => r xs H Q ∨ r' xs H Q) := by
  intro pins s σ H xs us Q I rs q
  rcases q with q | q
  · exact h pins s σ H xs us Q I rs q
  · exact h' pins s σ H xs us Q I rs q
theorem call_list_of : CallR X (.type "list") (fun xs H Q => ∃ p ys, xs = [.ref p] ∧ (SqL X.K H p ys ∨ SqT X.K H p ys) ∧ ∀ l, H l = none → Q (.ref l) (upd H l (.lst ys))) := by
  intro pins s σ H xs us Q I r h
  obtain ⟨p, ys, rfl, hq, q⟩ := h
  obtain ⟨u, rfl, rx⟩ := vals1 r
  cases rx
  have fin : ∀ (its : List Value), Vals ys its → ys.length ≤ sizeLine → ∀ (h' : Heap) (c' : Nat), (∀ b o', s.heap.get? b = some o' → h'.get? b = some o') →
      h'.get? s.heap.objs.size = some { cls := .type "list", dict := none, data := .seq its.toArray c', slots := #[] } → EP X pins σ Q (.ref s.heap.objs.size) { s with heap := h' } := fun its r' hz h' c' kp e =>
    ⟨.ref s.heap.objs.size, _, I.laid (t' := s.toks) kp (Nat.le_refl _) (show ObjOk X.prog X.w _ h' _ (.lst ys) from ⟨hz, its, c', r', e⟩), rfl, q _ (I.hok.fresh (Nat.le_refl _))⟩
  rcases hq with hq | hq
  · obtain ⟨its, r', pl, hz⟩ := I.list hq
    have hlen := r'.length
    obtain ⟨o, ho, hc, n, hd⟩ := pl.isList
    exact call_list_seq p (.inl rfl) ho hc hd (fun h' c' kp e => fin its r' hz h' c' kp e) (by simp only [List.size_toArray] <;> omega)
  · obtain ⟨its, r', pl, hz⟩ := I.tuple hq
    have hlen := r'.length
    obtain ⟨o, ho, hc, n, hd⟩ := pl
    exact call_list_seq p (.inr rfl) ho hc hd (fun h' c' kp e => fin its r' hz h' c' kp e) (by simp only [List.size_toArray] <;> omega)
theorem call_tuple_of : CallR X (.type "tuple") (fun xs H Q => ∃ p ys, xs = [.ref p] ∧ ((SqL X.K H p ys ∧ ∀ l, H l = none → Q (.ref l) (upd H l (.tup ys))) ∨ (SqT X.K H p ys ∧ Q (.ref p) H))) := by
  intro pins s σ H xs us Q I r h
  obtain ⟨p, ys, rfl, h⟩ := h
  obtain ⟨u, rfl, rx⟩ := vals1 r
  cases rx
  rcases h with ⟨hq, q⟩ | ⟨hq, q⟩
  · obtain ⟨its, r', pl, hz⟩ := I.list hq
    have hlen := r'.length
    refine call_tuple_list pl.isList (fun h' kp => ?_) (by simp only [List.size_toArray] <;> omega)
    have I1 : Inv X pins σ H { s with heap := h' } := I.kept (t' := s.toks) kp
    have I2 : Inv X pins σ (upd H h'.objs.size (.tup ys)) { s with heap := h'.push { cls := .type "tuple", data := .seq its.toArray } } :=
      I1.laid (t' := s.toks) (fun b o e => Heap.get?_push_of_some _ e) (Nat.le_refl _) (show ObjOk X.prog X.w _ _ _ (.tup ys) from ⟨hz, its, r', TupN.new _ _⟩)
    exact ⟨.ref h'.objs.size, _, I2, rfl, q _ (I1.hok.fresh (Nat.le_refl _))⟩
  · obtain ⟨its, r', pl, hz⟩ := I.tuple hq
    exact call_tuple_same pl ⟨.ref p, H, I, rfl, q⟩
noncomputable def tyV (K : PySem.W.Frag) (T : String) (x : V) (H : Hp) : Prop := match x with
  | .str _ => T = "str"
  | .int _ => T = "int"
  | .ref p => (T = "list" ∧ ∃ xs, SqL K H p xs) ∨ (T = "tuple" ∧ ∃ o, K.lookup p = some o ∧ o.cls = .type "tuple" ∧ o.dict = none) ∨
      (T = "dict" ∧ ((∃ kvs, H p = some (.dK kvs)) ∨ ∃ kvs, H p = some (.dT kvs))) ∨ (T = "set" ∧ ∃ S n, H p = some (.set S n))
  | _ => False
theorem tyV_is {pins : List (Addr × Obj)} {σ : St} {H : Hp} {s : Shared} {T : String} {x : V} {v : Value} (I : Inv X pins σ H s) (r : RelV x v) (ty : tyV X.K T x H) :
    s.TypeIs v T ∧ ∀ a, v = .ref a → ∃ ob, s.heap.get? a = some ob ∧ ob.dict = none := by
  cases x with
  | str z =>
    obtain ⟨t, rfl⟩ := r
    cases (show T = "str" from ty)
    exact ⟨typeIs_str s z t, fun _ e => nomatch e⟩
  | int i =>
    obtain ⟨t, rfl⟩ := r
    cases (show T = "int" from ty)
    exact ⟨typeIs_int s i t, fun _ e => nomatch e⟩
  | ref p =>
    cases r
    rcases ty with ⟨rfl, xs, hq⟩ | ⟨rfl, o, hk, hc, hd⟩ | ⟨rfl, hk⟩ | ⟨rfl, S, n, hk⟩
    · obtain ⟨its, _, pl, _⟩ := I.list hq
      refine ⟨pl.isList.typeIs, fun a e => ?_⟩
      cases e
      obtain ⟨o, n, e, c, hd, _⟩ := pl
      exact ⟨o, e, hd⟩
    · refine ⟨⟨o, I.kIn p o hk, hc⟩, fun a e => ?_⟩
      cases e
      exact ⟨o, I.kIn _ o hk, hd⟩
    · have z : ∃ o, s.heap.get? p = some o ∧ o.ExactDict := by
        rcases hk with ⟨kvs, hk⟩ | ⟨kvs, hk⟩
        · obtain ⟨_, _, _, _, o, _, _, e, ex, _⟩ := I.hok p _ hk
          exact ⟨o, e, ex⟩
        · obtain ⟨_, _, _, _, o, _, _, e, ex, _⟩ := I.hok p _ hk
          exact ⟨o, e, ex⟩
      obtain ⟨o, e, ex⟩ := z
      refine ⟨⟨o, e, ex.1⟩, fun a e2 => ?_⟩
      cases e2
      exact ⟨o, e, ex.2.1⟩
    · obtain ⟨o, _, _, _, e, ex, _⟩ := I.hok p _ hk
      refine ⟨⟨o, e, ex.1⟩, fun a e2 => ?_⟩
      cases e2
      exact ⟨o, e, ex.2.1⟩
  | _ => exact False.elim ty
noncomputable def tBM (K : PySem.W.Frag) (T : String) (r : V → List V → Hp → VK → Prop) (to : TE) (t : TA) : TE := fun σ H Q => to σ H fun x H1 => tyV K T x H1 ∧ t σ H1 fun xs H2 => r x xs H2 Q
variable {o e : Expr} {es : List Expr} {to : TE} {t : TA} {name : Str} {apos cpos : Pos} {T id : String} {r : V → List V → Hp → VK → Prop}
theorem pe_bm (pa : PlainAttrs T) (slot : Slot T name id) (hty : typeOf (.builtin id) = pure (.type "method_descriptor")) (hm : MtR X id r) (ho : PE X o to) (ha : PA X (e :: es) t)
    (hbase : attributeBase o name X.env (eval o X.env) = eval o X.env := by rfl)
    (hfew : ((backTo cpos (starEach (e :: es) X.env)).all (fun x => !x.1) && (backToKw cpos (keywordEach [] X.env)).all (fun x => x.1.isSome)
      && decide ((e :: es).length + ([] : List Keyword).length + (if ([] : List Keyword).isEmpty then 0 else 1) < 30)) = true := by rfl)
    (hline : (apos.endLine == cpos.line) = true := by rfl) (hs : starEach (e :: es) X.env = (false, eval e X.env) :: starEach es X.env := by rfl) (hplain : (backTo cpos (starEach es X.env)).any (·.1) = false := by rfl) :
    PE X (.Call (.Attribute o name apos) (e :: es) [] cpos) (tBM X.K T r to t) := by
  intro pins s σ H Q I h
  refine wpAny_Call_method_late hbase hfew hline rfl (thn (ho pins s σ H _ I h) fun v s1 ⟨x, H1, I1, r1, ty, q1⟩ => ?_)
  obtain ⟨h1, h2⟩ := tyV_is I1 r1 ty
  refine ⟨T, id, pa, slot, hty, h1, h2, ?_⟩
  have hA := ha cpos pins s1 σ H1 _ I1 q1
  rw [hs] at hA ⊢
  refine Calls.callWith_builtin (by show (false || (backTo cpos (starEach es X.env)).any (·.1)) = false; rw [hplain] <;> rfl) (Calls.evalArgs_plain ?_)
  exact thn hA fun us s2 ⟨vs, H2, I2, r2, q2⟩ => hm pins s2 σ H2 x vs v us Q I2 r1 r2 q2
end
end L2
namespace L2
open PySem PySem.Spec PyProof.Rows
noncomputable def MtM (X : Cx) (id : String) (r : V → List V → Hp → VK → Prop) : Prop :=
  ∀ (pins : List (Addr × Obj)) (s : Shared) (σ : St) (H : Hp) (x : V) (xs : List V) (v : Value) (us : List Value) (Q : VK), Inv X pins σ H s → RelV x v → Vals xs us → r x xs H Q →
    wpAny (model X.prog X.w) X.A (call (.builtin id) (v :: us)) (EP X pins σ Q) X.xe s
theorem Vals.one : ∀ {x : V} {us : List Value}, Vals [x] us → ∃ u, us = [u] ∧ RelV x u
  | _, _, .cons r .nil => ⟨_, rfl, r⟩
theorem Vals.eraseIdx : ∀ {xs : List V} {us : List Value} (i : Nat), Vals xs us → Vals (xs.eraseIdx i) (us.eraseIdx i)
  | _, _, _, .nil => .nil
  | _, _, 0, .cons _ t => t
  | _, _, i + 1, .cons r t => .cons r (Vals.eraseIdx i t)
theorem Vals.reverse {xs : List V} {us : List Value} (h : Vals xs us) : Vals xs.reverse us.reverse := by
  induction h with
  | nil => exact .nil
  | cons r t ih => rw [List.reverse_cons, List.reverse_cons]; exact Vals.append ih (.cons r .nil)
section
variable {X : Cx} {pins : List (Addr × Obj)} {σ : St} {H : Hp} {s : Shared} {l b : Addr} {xs ys zs : List V}
theorem Inv.lset {its its' : List Value} {n : Nat} {f : Array Value → Array Value} {t' : Nat} (I : Inv X pins σ H s) (hH : H l = some (.lst xs))
    (e : s.heap.get? l = some { cls := .type "list", data := .seq its.toArray n }) (hf : f its.toArray = its'.toArray) (hv : Vals ys its') (hz : ys.length ≤ sizeLine) :
    Inv X pins σ (upd H l (.lst ys)) { s with heap := s.heap.update l (Obj.mapSeq f), toks := t' } := by
  have q := PySem.IsL.update e f
  rw [hf] at q
  refine I.write (x := l) (e := l) (by rw [hH]; exact trivial) (.inl rfl) (fun b' u hb hu => (Heap.get?_update_other s.heap (Obj.mapSeq f) (Ne.symm hb)).trans hu) ⟨_, q⟩ ?_
  exact ⟨hz, its', _, hv, q⟩
theorem Inv.lnew {its : List Value} {t' : Nat} (I : Inv X pins σ H s) (hv : Vals ys its) (hz : ys.length ≤ sizeLine) :
    Inv X pins σ (upd H s.heap.objs.size (.lst ys)) { s with heap := s.heap.push { cls := .type "list", data := .seq its.toArray }, toks := t' } :=
  I.laid (fun _ _ q => Heap.get?_push_of_some _ q) (Nat.le_refl _) ⟨hz, its, 0, hv, Heap.get?_push_size _ rfl⟩
theorem Inv.fresh (I : Inv X pins σ H s) : H s.heap.objs.size = none := I.hok.fresh (Nat.le_refl _)
theorem Inv.lstM (I : Inv X pins σ H s) (hH : H l = some (.lst xs)) : xs.length ≤ sizeLine ∧ ∃ (its : List Value) (n : Nat), Vals xs its ∧ xs.length = its.length ∧ s.heap.get? l = some { cls := .type "list", data := .seq its.toArray n } := by
  obtain ⟨z, its, n, r, e⟩ := I.hok l _ hH
  exact ⟨z, its, n, r, r.length, e⟩
end
section
variable {X : Cx}
noncomputable def rAppend : V → List V → Hp → VK → Prop := fun x vs H Q => ∃ l xs y, x = .ref l ∧ vs = [y] ∧ H l = some (.lst xs) ∧ xs.length < sizeLine ∧ Q .non (upd H l (.lst (xs ++ [y])))
theorem mt_append : MtM X "list.append" rAppend := by
  intro pins s σ H x vs v us Q I rx rv h
  obtain ⟨l, xs, y, rfl, rfl, hH, hz, q⟩ := h
  cases rx
  obtain ⟨u, rfl, ru⟩ := rv.one
  obtain ⟨z, its, n, r, hl, e⟩ := I.lstM hH
  refine call_meets F.slot_list_append ⟨_, e, rfl⟩ F.entry_list_append (F.args_list_append_2 _ _) (PySem.list_append l its.toArray n u (by rw [List.size_toArray]; omega)) ⟨e, ?_⟩
  refine ⟨.non, _, I.lset (its' := its ++ [u]) hH e (by simp) (r.append (.cons ru .nil)) ?_, rfl, q⟩
  rw [List.length_append, List.length_singleton]
  omega
noncomputable def rCat : R2 := fun x y H Q => ∃ l b xs zs, x = .ref l ∧ y = .ref b ∧ H l = some (.lst xs) ∧ H b = some (.lst zs) ∧ xs.length + zs.length ≤ sizeLine ∧ ∀ p, H p = none → Q (.ref p) (upd H p (.lst (xs ++ zs)))
theorem op_cat : OpR X (binaryOp .Add) rCat := by
  intro pins s σ H x y v u Q I rx ry h
  obtain ⟨l, b, xs, zs, rfl, rfl, hH, hB, hz, q⟩ := h
  cases rx
  cases ry
  obtain ⟨z, its, n, r, hl, e⟩ := I.lstM hH
  obtain ⟨z2, its2, n2, r2, hl2, e2⟩ := I.lstM hB
  refine PySem.P.add_list e e2 ?_ (by rw [List.size_toArray, List.size_toArray]; omega)
  have ea : its.toArray ++ its2.toArray = (its ++ its2).toArray := by simp
  rw [ea]
  exact ⟨.ref _, _, I.lnew (t' := s.toks) (r.append r2) (by rw [List.length_append]; omega), rfl, q _ I.fresh⟩
end
end L2
namespace L2
open PySem PySem.Spec PyProof.Rows
section
variable {κ : Type} [DecidableEq κ]
noncomputable def valV (kvs : List (κ × V)) (k : κ) : Option V := (kvs.find? fun kv => decide (kv.1 = k)).map (·.2)
noncomputable def putK (kvs : List (κ × V)) (k : κ) (v : V) : List (κ × V) :=
  if (kvs.any fun kv => decide (kv.1 = k)) = true then kvs.map (fun kv => if kv.1 = k then (kv.1, v) else kv) else kvs ++ [(k, v)]
theorem valV_nil {k : κ} : valV ([] : List (κ × V)) k = none := rfl
theorem valV_pos {p : κ × V} {r : List (κ × V)} {k : κ} (e : p.1 = k) : valV (p :: r) k = some p.2 := by simp [valV, List.find?_cons, e]
theorem valV_neg {p : κ × V} {r : List (κ × V)} {k : κ} (e : ¬ p.1 = k) : valV (p :: r) k = valV r k := by simp [valV, List.find?_cons, e]
theorem valV_any (k : κ) : ∀ kvs : List (κ × V), (kvs.any fun kv => decide (kv.1 = k)) = (valV kvs k).isSome
  | [] => rfl
  | p :: r => by
    rw [List.any_cons]
    by_cases e : p.1 = k
    · simp only [valV_pos e, decide_eq_true e, Bool.true_or, Option.isSome_some]
    · rw [valV_neg e, decide_eq_false e, Bool.false_or]; exact valV_any k r
theorem valV_map (k j : κ) (y : V) : ∀ kvs : List (κ × V), valV (kvs.map fun kv => if kv.1 = k then (kv.1, y) else kv) j = (valV kvs j).map fun x => if j = k then y else x
  | [] => rfl
  | p :: r => by
    have ih := valV_map k j y r
    rw [List.map_cons]
    by_cases h : p.1 = k
    · rw [if_pos h]
      by_cases e : p.1 = j
      · rw [valV_pos (p := (p.1, y)) e, valV_pos e, Option.map_some, if_pos (e.symm.trans h)]
      · rw [valV_neg (p := (p.1, y)) e, valV_neg e, ih]
    · rw [if_neg h]
      by_cases e : p.1 = j
      · rw [valV_pos (p := p) e, valV_pos e, Option.map_some, if_neg (fun z => h (e.trans z))]
      · rw [valV_neg (p := p) e, valV_neg e, ih]
theorem valV_snoc (k j : κ) (y : V) : ∀ kvs : List (κ × V), valV kvs k = none → valV (kvs ++ [(k, y)]) j = if j = k then some y else valV kvs j
  | [], _ => by
    by_cases e : k = j
    · rw [if_pos e.symm]; exact valV_pos (p := (k, y)) e
    · rw [if_neg (fun z => e z.symm)]; exact valV_neg (p := (k, y)) e
  | p :: r, hn => by
    rw [List.cons_append]
    have hk : ¬ p.1 = k := fun z => by rw [valV_pos z] at hn; cases hn
    rw [valV_neg hk] at hn
    have ih := valV_snoc k j y r hn
    by_cases e : p.1 = j
    · rw [valV_pos e, valV_pos e, if_neg (fun z => hk (e.trans z))]
    · rw [valV_neg e, valV_neg e, ih]
theorem valV_put (kvs : List (κ × V)) (k j : κ) (y : V) : valV (putK kvs k y) j = if j = k then some y else valV kvs j := by
  unfold putK
  by_cases a : (kvs.any fun kv => decide (kv.1 = k)) = true
  · rw [if_pos a, valV_map]
    rw [valV_any] at a
    by_cases e : j = k
    · obtain ⟨x, hx⟩ := Option.isSome_iff_exists.mp a
      rw [if_pos e, e, hx, Option.map_some, if_pos rfl]
    · rw [if_neg e]
      cases valV kvs j with
      | none => rfl
      | some x => rw [Option.map_some, if_neg e]
  · rw [if_neg a]
    refine valV_snoc k j y kvs ?_
    rw [valV_any] at a
    cases q : valV kvs k with
    | none => rfl
    | some x => rw [q] at a; exact (a rfl).elim
theorem length_putK (kvs : List (κ × V)) (k : κ) (v : V) : (putK kvs k v).length ≤ kvs.length + 1 := by
  unfold putK
  split
  · rw [List.length_map]; omega
  · rw [List.length_append, List.length_cons, List.length_nil]; omega
theorem putK_new {kvs : List (κ × V)} {k : κ} (v : V) (h : valV kvs k = none) : putK kvs k v = kvs ++ [(k, v)] := by
  unfold putK
  rw [valV_any, h]
  exact if_neg (by decide)
theorem RelO.isSome_eq {o : Option V} {u : Option Value} (r : RelO o u) : o.isSome = u.isSome := by
  cases o with
  | none => cases u with
    | none => rfl
    | some _ => exact (show False from r).elim
  | some _ => cases u with
    | none => exact (show False from r).elim
    | some _ => rfl
theorem KV.val {kvs : List (κ × V)} {vs : List (κ × Value)} (r : KV kvs vs) (k : κ) : RelO (valV kvs k) (valueAt vs k) := by
  unfold KV at r
  induction r with
  | nil => exact True.intro
  | @cons p q ps qs h t ih =>
    obtain ⟨h1, h2⟩ := h
    by_cases e : p.1 = k
    · have e' : q.1 = k := h1.symm.trans e
      have b : valueAt (q :: qs) k = some q.2 := by simp [valueAt, List.find?_cons, e']
      rw [valV_pos e, b]; exact h2
    · have e' : ¬ q.1 = k := fun z => e (h1.trans z)
      have b : valueAt (q :: qs) k = valueAt qs k := by simp [valueAt, List.find?_cons, e']
      rw [valV_neg e, b]; exact ih
theorem KV.any {kvs : List (κ × V)} {vs : List (κ × Value)} (r : KV kvs vs) (k : κ) : (kvs.any fun kv => decide (kv.1 = k)) = vs.any fun kv => decide (kv.1 = k) := by
  unfold KV at r
  induction r with
  | nil => rfl
  | cons h t ih => rw [List.any_cons, List.any_cons, ih, h.1]
theorem KV.repl {kvs : List (κ × V)} {vs : List (κ × Value)} (r : KV kvs vs) (k : κ) {y : V} {u : Value} (ry : RelV y u) :
    KV (kvs.map fun kv => if kv.1 = k then (kv.1, y) else kv) (vs.map fun kv => if kv.1 = k then (kv.1, u) else kv) := by
  unfold KV at r ⊢
  induction r with
  | nil => exact .nil
  | @cons p q ps qs h t ih =>
    rw [List.map_cons, List.map_cons]
    refine .cons ?_ ih
    obtain ⟨h1, h2⟩ := h
    by_cases e : p.1 = k
    · rw [if_pos e, if_pos (h1.symm.trans e)]; exact ⟨h1, ry⟩
    · rw [if_neg e, if_neg (fun z => e (h1.trans z))]; exact ⟨h1, h2⟩
theorem KV.put {kvs : List (κ × V)} {vs : List (κ × Value)} (r : KV kvs vs) (k : κ) {y : V} {u : Value} (ry : RelV y u) : KV (putK kvs k y) (stored vs k u) := by
  unfold putK stored
  rw [r.any k]
  by_cases e : (vs.any fun kv => decide (kv.1 = k)) = true
  · rw [if_pos e, if_pos e]; exact r.repl k ry
  · rw [if_neg e, if_neg e]; exact Paired.snoc r ⟨rfl, ry⟩
theorem KV.length {kvs : List (κ × V)} {vs : List (κ × Value)} (r : KV kvs vs) : kvs.length = vs.length := Paired.length r
end
theorem kV_is {P : Program} {w : World} {k : Key} {u : Value} (r : RelV (kV k) u) : (mixKind P w).is k u = true := by
  cases k with
  | inl i => obtain ⟨t, e⟩ := (show ∃ t, u = Value.int i t from r); subst e; exact mixKind_int P w i t
  | inr x => obtain ⟨t, e⟩ := (show ∃ t, u = Value.str x t from r); subst e; exact mixKind_str P w x t
theorem items_are {P : Program} {w : World} : ∀ {ks : List Key} {us : List Value}, Vals (ks.map kV) us → ItemsAre (mixKind P w) ks us
  | [], _, r => by rw [List.map_nil] at r; cases r; exact .nil
  | k :: ks, _, r => by
    rw [List.map_cons] at r
    cases r with
    | cons h t => exact .cons (kV_is h) (items_are t)
noncomputable abbrev KT (H : Hp) : List (List Key × V) → List (List Key × Addr × Value) → Prop := Paired fun p q => p.1 = q.1 ∧ H q.2.1 = some (.tup (p.1.map kV)) ∧ RelV p.2 q.2.2
theorem KT.val {H : Hp} {kvs : List (List Key × V)} {xs : List (List Key × Addr × Value)} (r : KT H kvs xs) (k : List Key) : RelO (valV kvs k) ((atKey xs k).map (·.2)) := by
  induction r with
  | nil => exact True.intro
  | @cons p q ps qs h t ih =>
    obtain ⟨h1, _, h2⟩ := h
    by_cases e : p.1 = k
    · have e' : q.1 = k := h1.symm.trans e
      have b : atKey (q :: qs) k = some q.2 := by simp [atKey, List.find?_cons, e']
      rw [valV_pos e, b]; exact h2
    · have e' : ¬ q.1 = k := fun z => e (h1.trans z)
      have b : atKey (q :: qs) k = atKey qs k := by simp [atKey, List.find?_cons, e']
      rw [valV_neg e, b]; exact ih
theorem KT.repl {H : Hp} {kvs : List (List Key × V)} {xs : List (List Key × Addr × Value)} (r : KT H kvs xs) (k : List Key) {y : V} {u : Value} (ry : RelV y u) :
    KT H (kvs.map fun kv => if kv.1 = k then (kv.1, y) else kv) (xs.map (putAt k u)) := by
  induction r with
  | nil => exact .nil
  | @cons p q ps qs h t ih =>
    rw [List.map_cons, List.map_cons]
    refine .cons ?_ ih
    obtain ⟨h1, h2, h3⟩ := h
    unfold putAt
    by_cases e : p.1 = k
    · rw [if_pos e, if_pos (h1.symm.trans e)]; exact ⟨h1, h2, ry⟩
    · rw [if_neg e, if_neg (fun z => e (h1.trans z))]; exact ⟨h1, h2, h3⟩
theorem KT.put {H : Hp} {kvs : List (List Key × V)} {xs : List (List Key × Addr × Value)} (r : KT H kvs xs) (k : List Key) {b : Addr} {y : V} {u : Value} (hb : H b = some (.tup (k.map kV))) (ry : RelV y u) :
    KT H (putK kvs k y) (storedH xs k b u) := by
  have e : (kvs.any fun kv => decide (kv.1 = k)) = (atKey xs k).isSome := by
    rw [valV_any, (r.val k).isSome_eq, Option.isSome_map]
  unfold putK storedH
  rw [e]
  by_cases q : (atKey xs k).isSome = true
  · rw [if_pos q, if_pos q]; exact r.repl k ry
  · rw [if_neg q, if_neg q]; exact Paired.snoc r ⟨rfl, hb, ry⟩
theorem KT.keeps {H H' : Hp} {kvs : List (List Key × V)} {xs : List (List Key × Addr × Value)} (r : KT H kvs xs) (ht : ∀ b ys, H b = some (.tup ys) → H' b = some (.tup ys)) : KT H' kvs xs :=
  Paired.mapP r fun _ _ z => ⟨z.1, ht _ _ z.2.1, z.2.2⟩
section
variable {P : Program} {w : World} {H : Hp} {h : Heap} {a : Addr}
theorem rd_of {u : HO} (ok : HOk P w H h) (e : Rd H a u) : ObjOk P w H h a u := e.ok ok
theorem dk_rd {kvs : List (Key × V)} (ok : HOk P w H h) (e : Rd H a (.dK kvs)) : kvs.length ≤ sizeLine ∧ (a == sysModules) = false ∧ ∃ vs, KV kvs vs ∧ h.DictOf (mixKind P w) a vs :=
  show ObjOk P w H h a (.dK kvs) from rd_of ok e
theorem dk_of {kvs : List (Key × V)} (ok : HOk P w H h) (e : H a = some (.dK kvs)) : kvs.length ≤ sizeLine ∧ (a == sysModules) = false ∧ ∃ vs, KV kvs vs ∧ h.DictOf (mixKind P w) a vs := dk_rd ok (.inl e)
theorem key_of {ks : List Key} (ok : HOk P w H h) (e : H a = some (.tup (ks.map kV))) : (tupleKind (mixKind P w)).is h ks a := by
  obtain ⟨_, its, r, o, h1, h2, n, h3, _⟩ := (show ObjOk P w H h a (.tup (ks.map kV)) from ok a _ e)
  exact ⟨o, its.toArray, n, h1, h2, h3, by simpa using items_are r⟩
theorem dt_rd {kvs : List (List Key × V)} (ok : HOk P w H h) (e : Rd H a (.dT kvs)) : kvs.length ≤ sizeLine ∧ (a == sysModules) = false ∧
    ∃ xs, KT H kvs xs ∧ h.DictOfH (tupleKind (mixKind P w)) a xs := by
  obtain ⟨z, y, xs, r, o, es, ep, h1, h2, h3, h4, h5⟩ := (show ObjOk P w H h a (.dT kvs) from rd_of ok e)
  refine ⟨z, y, xs, r, o, es, ep, h1, h2, h3, h4, fun x hx => ?_, h5⟩
  have all : ∀ {l : List (List Key × V)} {m : List (List Key × Addr × Value)}, KT H l m → ∀ x ∈ m, (tupleKind (mixKind P w)).is h x.1 x.2.1 := by
    intro l m q
    induction q with
    | nil => intro x hx; exact nomatch hx
    | @cons p q ps qs hq t ih =>
      intro x hx
      rcases List.mem_cons.mp hx with e | hx
      · subst e
        exact key_of ok (by rw [← hq.1]; exact hq.2.1)
      · exact ih x hx
  exact all r x hx
theorem dt_of {kvs : List (List Key × V)} (ok : HOk P w H h) (e : H a = some (.dT kvs)) : kvs.length ≤ sizeLine ∧ (a == sysModules) = false ∧
    ∃ xs, KT H kvs xs ∧ h.DictOfH (tupleKind (mixKind P w)) a xs := dt_rd ok (.inl e)
end
noncomputable def DGet (H : Hp) (a : Addr) (y : V) (r : Option V) : Prop :=
  (∃ kvs k, Rd H a (.dK kvs) ∧ y = kV k ∧ r = valV kvs k) ∨ ∃ kvs k b, Rd H a (.dT kvs) ∧ y = .ref b ∧ H b = some (.tup (k.map kV)) ∧ r = valV kvs k
noncomputable def DPut (H : Hp) (a : Addr) (y v : V) (H' : Hp) : Prop :=
  (∃ kvs k, H a = some (.dK kvs) ∧ y = kV k ∧ kvs.length < sizeLine ∧ H' = upd H a (.dK (putK kvs k v))) ∨
  ∃ kvs k b, H a = some (.dT kvs) ∧ y = .ref b ∧ H b = some (.tup (k.map kV)) ∧ kvs.length < sizeLine ∧ H' = upd H a (.dT (putK kvs k v))
theorem DGet.k {H : Hp} {a : Addr} {kvs : List (Key × V)} {k : Key} (e : H a = some (.dK kvs)) : DGet H a (kV k) (valV kvs k) := .inl ⟨kvs, k, .inl e, rfl, rfl⟩
theorem DPut.k {H : Hp} {a : Addr} {kvs : List (Key × V)} {k : Key} {v : V} (e : H a = some (.dK kvs)) (hl : kvs.length < sizeLine) : DPut H a (kV k) v (upd H a (.dK (putK kvs k v))) := .inl ⟨kvs, k, e, rfl, hl, rfl⟩
theorem DPut.t {H : Hp} {a b : Addr} {kvs : List (List Key × V)} {k : List Key} {v : V} (e : H a = some (.dT kvs)) (eb : H b = some (.tup (k.map kV))) (hl : kvs.length < sizeLine) :
    DPut H a (.ref b) v (upd H a (.dT (putK kvs k v))) := .inr ⟨kvs, k, b, e, rfl, eb, hl, rfl⟩
section
variable {X : Cx} {pins : List (Addr × Obj)} {σ : St} {H : Hp} {s : Shared} {a : Addr} {y v : V} {u r : Value} {o : Option V} {A : Around} {E : Value → Shared → Prop}
theorem Inv.big (I : Inv X pins σ H s) : sysModules < s.heap.objs.size := by
  have h : mainGlobals < s.heap.objs.size := (I.mod.glob.keeps I.bk).lt
  exact Nat.lt_trans (by decide) h
theorem d_getItem {Q : Value → Shared → Prop} (hu : A.units + 1 < cLine) (I : Inv X pins σ H s) (g : DGet H a y (some v)) (ry : RelV y u) (h : ∀ w' s', Inv X pins σ H s' → RelV v w' → Q w' s') :
    wpAny (model X.prog X.w) A (getItem (.ref a) u) Q E s := by
  rcases g with ⟨kvs, k, e, ey, l⟩ | ⟨kvs, k, b, e, ey, eb, l⟩
  · subst ey
    obtain ⟨z, hd, vs, rel, dd⟩ := dk_rd I.hok e
    obtain ⟨w', hw, rw'⟩ := RelO.some_of (v := v) (o := valueAt vs k) (by rw [l]; exact rel.val k)
    exact wpAny_getItem_of (kV_is ry) dd.mapOf hw (h w' _ (I.tok _) rw')
  · subst ey
    cases (show u = Value.ref b from ry)
    obtain ⟨z, hd, xs, rel, dd⟩ := dt_rd I.hok e
    obtain ⟨w', hw, rw'⟩ := RelO.some_of (v := v) (o := (atKey xs k).map (·.2)) (by rw [l]; exact rel.val k)
    obtain ⟨p, hp, hp2⟩ := Option.map_eq_some_iff.mp hw
    refine wpAny_getItem_heap (tupleKind_room_in1 hu) (key_of I.hok eb) dd hp ?_
    rw [hp2]
    exact h w' _ (I.tok _) rw'
theorem d_in {Q : Value → Shared → Prop} (hu : A.units + 1 < cLine) (I : Inv X pins σ H s) (g : DGet H a y o) (ry : RelV y u) (h : ∀ s', Inv X pins σ H s' → Q (.bool o.isSome) s') :
    wpAny (model X.prog X.w) A (compareOp .In u (.ref a)) Q E s := by
  rcases g with ⟨kvs, k, e, ey, l⟩ | ⟨kvs, k, b, e, ey, eb, l⟩
  · subst ey
    obtain ⟨z, hd, vs, rel, dd⟩ := dk_rd I.hok e
    refine wpAny_in_of (kV_is ry) hd dd.mapOf ?_
    rw [← (rel.val k).isSome_eq, ← l]
    exact h _ (I.tok _)
  · subst ey
    cases (show u = Value.ref b from ry)
    obtain ⟨z, hd, xs, rel, dd⟩ := dt_rd I.hok e
    refine wpAny_in_heap (tupleKind_room_in1 hu) (key_of I.hok eb) hd dd ?_
    have q := (rel.val k).isSome_eq
    rw [Option.isSome_map] at q
    rw [← q, ← l]
    exact h _ (I.tok _)
theorem d_notIn {Q : Value → Shared → Prop} (hu : A.units + 1 < cLine) (I : Inv X pins σ H s) (g : DGet H a y o) (ry : RelV y u) (h : ∀ s', Inv X pins σ H s' → Q (.bool (!o.isSome)) s') :
    wpAny (model X.prog X.w) A (compareOp .NotIn u (.ref a)) Q E s := by
  rcases g with ⟨kvs, k, e, ey, l⟩ | ⟨kvs, k, b, e, ey, eb, l⟩
  · subst ey
    obtain ⟨z, hd, vs, rel, dd⟩ := dk_rd I.hok e
    refine wpAny_notIn_of (kV_is ry) hd dd.mapOf ?_
    rw [← (rel.val k).isSome_eq, ← l]
    exact h _ (I.tok _)
  · subst ey
    cases (show u = Value.ref b from ry)
    obtain ⟨z, hd, xs, rel, dd⟩ := dt_rd I.hok e
    refine wpAny_notIn_heap (tupleKind_room_in1 hu) (key_of I.hok eb) hd dd ?_
    have q := (rel.val k).isSome_eq
    rw [Option.isSome_map] at q
    rw [← q, ← l]
    exact h _ (I.tok _)
theorem d_write {h' : Heap} {t' : Nat} {ob : HO} (I : Inv X pins σ H s) (mu : Mut (H a)) (hs : Heap.SameBut a s.heap h') (he : ∃ q, h'.get? a = some q) (new : ObjOk X.prog X.w (upd H a ob) h' a ob) :
    Inv X pins σ (upd H a ob) { s with heap := h', toks := t' } :=
  I.write (x := a) (e := a) mu (.inl rfl) (fun b q hb z => (hs.2 b hb).trans z) he new
theorem dk_new {P : Program} {w : World} {H' : Hp} {h' : Heap} {kvs : List (Key × V)} {vs : List (Key × Value)} (z : kvs.length ≤ sizeLine) (hd : (a == sysModules) = false) (rel : KV kvs vs) (dd : h'.DictOf (mixKind P w) a vs) :
    ObjOk P w H' h' a (.dK kvs) := ⟨z, hd, vs, rel, dd⟩
theorem d_setItem {H' : Hp} {Q : Unit → Shared → Prop} (hu : A.units + 1 < cLine) (I : Inv X pins σ H s) (g : DPut H a y v H') (ry : RelV y u) (rv : RelV v r) (h : ∀ s', Inv X pins σ H' s' → Q () s') :
    wpAny (model X.prog X.w) A (setItem (.ref a) u r) Q E s := by
  rcases g with ⟨kvs, k, e, ey, l, eH⟩ | ⟨kvs, k, b, e, ey, eb, l, eH⟩
  · subst ey eH
    obtain ⟨z, hd, vs, rel, dd⟩ := dk_of I.hok e
    have hz : vs.length ≤ sizeLine := by rw [← rel.length]; exact z
    have hl : (putK kvs k v).length ≤ sizeLine := by have := length_putK kvs k v; omega
    refine wpAny_setItem_pairs (hsz := hz) (kV_is ry) dd fun h' dd' hs => h _ ?_
    have he : ∃ q, h'.get? a = some q := let ⟨q, _, _, hq, _⟩ := dd'; ⟨q, hq⟩
    exact d_write I (by rw [e]; exact True.intro) hs he (dk_new hl hd (rel.put k rv) dd')
  · subst ey eH
    cases (show u = Value.ref b from ry)
    obtain ⟨z, hd, xs, rel, dd⟩ := dt_of I.hok e
    have hz : xs.length ≤ sizeLine := by rw [← Paired.length rel]; exact z
    have hl : (putK kvs k v).length ≤ sizeLine := by have := length_putK kvs k v; omega
    refine wpAny_setItem_heap (hsz := hz) (tupleKind_room_in1 hu) (key_of I.hok eb) dd fun h' dd' hs => h _ ?_
    obtain ⟨q, es, ep, hq, h2, h3, h4, _, h5⟩ := dd'
    refine d_write I (by rw [e]; exact True.intro) hs ⟨q, hq⟩ ⟨hl, hd, _, (rel.put k eb rv).keeps fun c ys ec => ?_, q, es, ep, hq, h2, h3, h4, h5⟩
    rw [upd_ne (ne_of ec e (fun z => nomatch z))]
    exact ec
end
section
variable {X : Cx} {pins : List (Addr × Obj)} {σ : St} {H : Hp} {s : Shared} {a : Addr} {kvs : List (Key × V)} {k : Key} {u : Value} {A : Around} {E : Value → Shared → Prop}
theorem d_len {Q : Value → Shared → Prop} (I : Inv X pins σ H s) (e : Rd H a (.dK kvs)) (h : ∀ t s', Inv X pins σ H s' → Q (.int kvs.length t) s') : wpAny (model X.prog X.w) A (call (.builtin "len") [.ref a]) Q E s := by
  obtain ⟨z, hd, vs, rel, dd⟩ := dk_rd I.hok e
  refine call_len_dict hd dd (by rw [← rel.length]; rw [sizeLine_eq] at z; omega) ?_
  rw [← rel.length]
  exact h _ _ (I.tok _)
end
theorem dict_typeIs {X : Cx} {pins : List (Addr × Obj)} {σ : St} {H : Hp} {s : Shared} {a : Addr} {y : V} {o : Option V} (I : Inv X pins σ H s) (g : DGet H a y o) : s.TypeIs (.ref a) "dict" := by
  rcases g with ⟨kvs, k, e, _, _⟩ | ⟨kvs, k, b, e, _, _, _⟩
  · obtain ⟨_, _, vs, _, dd⟩ := dk_rd I.hok e
    exact dd.typeIs
  · obtain ⟨_, _, xs, _, dd⟩ := dt_rd I.hok e
    exact dd.typeIs
theorem dk_empty {P : Program} {w : World} {H : Hp} (h : Heap) (hb : sysModules < h.objs.size) : ObjOk P w H (h.push { cls := .type "dict", data := .dict #[] }) h.objs.size (.dK []) :=
  ⟨Nat.zero_le _, beq_eq_false_iff_ne.mpr (Ne.symm (Nat.ne_of_lt hb)), [], .nil, Heap.DictOf.new h⟩
theorem dt_empty {P : Program} {w : World} {H : Hp} (h : Heap) (hb : sysModules < h.objs.size) : ObjOk P w H (h.push { cls := .type "dict", data := .dict #[] }) h.objs.size (.dT []) :=
  ⟨Nat.zero_le _, beq_eq_false_iff_ne.mpr (Ne.symm (Nat.ne_of_lt hb)), [], .nil, _, #[], 0, Heap.get?_push_size _ rfl, ⟨rfl, rfl, rfl⟩, rfl, rfl, List.nodup_nil⟩
noncomputable def tDNewK : TE := fun _ H Q => ∀ p, H p = none → Q (.ref p) (upd H p (.dK []))
noncomputable def tDNewT : TE := fun _ H Q => ∀ p, H p = none → Q (.ref p) (upd H p (.dT []))
section
variable {X : Cx} {pos : Pos}
theorem pe_dnewK : PE X (.Dict [] [] pos) tDNewK := fun pins s σ H Q I h =>
  wpAny_Dict_empty ⟨.ref s.heap.objs.size, _, I.laid (a := s.heap.objs.size) (o := .dK []) (t' := s.toks) (fun _ _ q => Heap.get?_push_of_some _ q) (Nat.le_refl _) (dk_empty s.heap I.big), rfl, h _ (I.hok.fresh (Nat.le_refl _))⟩
theorem pe_dnewT : PE X (.Dict [] [] pos) tDNewT := fun pins s σ H Q I h =>
  wpAny_Dict_empty ⟨.ref s.heap.objs.size, _, I.laid (a := s.heap.objs.size) (o := .dT []) (t' := s.toks) (fun _ _ q => Heap.get?_push_of_some _ q) (Nat.le_refl _) (dt_empty s.heap I.big), rfl, h _ (I.hok.fresh (Nat.le_refl _))⟩
end
end L2
namespace Att
open PySem PySem.W PySem.Calls PyProof.Rows
theorem ints_of_wellAll {P : Params} {h : Heap} : ∀ (ns : List Int) (vs : List Value), WellAll P h vs (ns.map WData.int) → IntsAre vs ns := by
  intro ns
  induction ns with
  | nil =>
    intro vs w
    rw [List.map_nil] at w
    cases w
    exact .nil
  | cons n ns ih =>
    intro vs w
    rw [List.map_cons] at w
    cases w with
    | cons a b =>
      cases a
      exact .cons _ _ (ih _ b)
theorem script_of {l : OpenLaw} {n : Nat} (hn : l.most = some n) {P : Params} {h : Heap} {args : List WData} {vals : List Value}
    (hpre : l.row.toRowW.claim.pre args = true) (hwl : WellAll P h vals args) :
    ∃ a vs ns, vals = [Value.ref a] ∧ args = [WData.list (ns.map WData.int)] ∧ h.get? a = some { cls := .type "list", data := .seq vs.toArray } ∧ IntsAre vs ns ∧ ns.length ≤ n := by
  have hsh : WShape.hasAll [] args [.list .int] = true := (pre_splitW hpre).1
  have hc : l.pre.holds [] { args := args } = true := (pre_splitW hpre).2
  obtain ⟨d, r, rfl, h1, h2⟩ := hasAllW_cons hsh
  obtain rfl := hasAllW_nil h2
  obtain ⟨xs, rfl, h3⟩ := hasW_list h1
  obtain ⟨ns, rfl⟩ := items_int h3
  have hlen : ns.length ≤ n := by
    unfold OpenLaw.pre at hc
    have h4 : (WTm.not (.lt (.lit (.int (n : Int))) (.len (.arg 0)))).holds [] { args := [.list (ns.map .int)] } = true := by
      have h4 := (holds_andW hc).1
      rw [hn] at h4
      exact h4
    have h5 := condW_of h4 (w_not (w_lt w_lit (w_len_list (w_arg rfl))))
    rw [List.length_map] at h5
    refine Nat.le_of_not_lt fun q => ?_
    have q' : (n : Int) < ((ns.length : Nat) : Int) := by omega
    first
      | (rw [decide_eq_true q'] at h5; exact absurd h5 (by decide))
      | (simp at h5; omega)
  cases hwl with
  | cons w1 w2 =>
    cases w2
    cases w1 with
    | list ho hall => exact ⟨_, _, ns, rfl, rfl, ho, ints_of_wellAll ns _ hall, hlen⟩
theorem post_true (l : OpenLaw) (args : List WData) : l.row.toRowW.claim.post args (.bool true) args = true :=
  postW_of (r := l.row.toRowW) (X := (true == true))
    (show WShape.has [] (.bool true) .bool = true by first | rfl | decide | simp [WShape.has, WShape.arms, WShape.armsAll])
    (show (WTm.eq .res (.lit (.bool true))).value [] { args := args, res := some (.bool true), after := args } = some (.bool (true == true)) from w_eq_bool (w_res rfl) w_lit) rfl
theorem attach_call {l : OpenLaw} {n : Nat} {q : Program} {loose : List Str} {XP : (Str → Option Value) → Heap → Prop} {YP : World → Heap → Prop} {d : DefRec}
    (hn : l.most = some n) (hdf : d.params.defaults = [])
    (call : ∀ (w : World) (s₀ s₁ : Shared) (mg mb : Str → Option Value) (fa : Addr) (o : Obj) (pm cd doc : Value) (a : Addr) (vs : List Value) (ns : List Int),
      Ground q loose [] XP w s₀ mg mb s₁.heap → YP w s₁.heap →
      s₁.heap.get? fa = some o → o.data = .func (docDef d.name d.params d.body d.scope pm cd doc) → s₁.heap.CodeRec cd d.name → mg d.name = some (.ref fa) →
      s₁.heap.get? a = some { cls := .type "list", data := .seq vs.toArray } → IntsAre vs ns → ns.length ≤ n → s₁.gens = #[] →
      codeAny (model l.prog w) callerA (.call (.ref fa) ⟨[.ref a], []⟩) (fun r s' => r = .ok (.ret (.bool true)) ∧ OldK s₁.heap s'.heap ∧ s'.os = s₁.os ∧ AllBare s'.gens) s₁) :
    WalkO q loose XP YP l.row.toRowW d [] (fun f vs => PySem.call f vs) := by
  intro w s₀ s₁ mg mb G Y fa o pm cd doc dV kV ho hd hcd hD hmg hg args vals as hpre hlay hrd hwl hlo
  obtain rfl : dV = .none := Dflts.none hD hdf
  obtain rfl : kV = .none := Dflts.noKw hD
  obtain ⟨a, vs, ns, rfl, rfl, hobj, hints, hlen⟩ := script_of hn hpre hwl
  refine enter_call (codeAny_mono (call w s₀ s₁ mg mb fa o pm cd doc a vs ns G Y ho (fd_plain hd) hcd hmg hobj hints hlen hg) fun r s' hq => ?_)
  obtain ⟨rfl, h2, h3, h4⟩ := hq
  exact ⟨.inl ⟨.bool true, .bool true, [], rfl, fun _ => rfl, .bool true, post_true l _, fun _ => ⟨List.Pairwise.nil, fun _ hm => (nomatch hm)⟩⟩, h2, h3, h4⟩
end Att
namespace L2
open PySem PySem.Spec PyProof.Rows
theorem vals_ints : ∀ {vs : List Value} {ns : List Int}, IntsAre vs ns → Vals (ns.map V.int) vs
  | _, _, .nil => .nil
  | _, _, .cons n t h => .cons ⟨t, rfl⟩ (vals_ints h)
noncomputable def Only (H : Hp) : Prop := ∀ b, H b = none ∨ ∃ o xs, H b = some (.frz o (.lst xs))
theorem law_call {P : Program} {w : World} {K : PySem.W.Frag} {mg mb : Str → Option Value} {CX : CXT} {k : Nat} {fa a : Addr} {fd : FuncData} {x : Str} {sp : Sp} {s₁ : Shared} {vs : List Value} {ns : List Int}
    (KX : K.In s₁.heap) (hns : s₁.heap.Ns mainGlobals mg) (hb : s₁.heap.Ns builtinsNs mb) (hbb : ∀ x : Str, x ≠ "__name__" → mb x = bootBuiltins x) (hlim : s₁.heap.NoLimit) (hg : s₁.gens = #[])
    (ha : s₁.heap.get? a = some { cls := .type "list", data := .seq vs.toArray }) (hi : IntsAre vs ns) (hl : ns.length ≤ sizeLine) (hr : Room k callerA)
    (F : ∀ base : Heap, K.In base → base.Ns mainGlobals mg → FnOk P w K mg base CX k fa fd [x] sp) (hbind : ∀ (s : Shared) (u : Value), BindsTo s fd ⟨[u], []⟩ [(x, u)])
    (hsp : ∀ H : Hp, Only H → SqL K H a (ns.map V.int) → sp [.ref a] H (fun v _ => v = .bl true) fun _ _ _ => False)
    (hCX : ∀ H e s', CX [] H s₁ (fun _ _ _ => False) e s' → False) :
    codeAny (model P w) callerA (.call (.ref fa) ⟨[.ref a], []⟩) (fun r s' => r = .ok (.ret (.bool true)) ∧ OldK s₁.heap s'.heap ∧ s'.os = s₁.os ∧ AllBare s'.gens) s₁ := by
  have rv := vals_ints hi
  have lenV := hi.length
  have core : ∀ H : Hp, Only H → SqL K H a (ns.map V.int) → HOk P w H s₁.heap → (∀ b, H b ≠ none → b = a) → (H a ≠ none → K.lookup a = none) →
      codeAny (model P w) callerA (.call (.ref fa) ⟨[.ref a], []⟩) (fun r s' => r = .ok (.ret (.bool true)) ∧ OldK s₁.heap s'.heap ∧ s'.os = s₁.os ∧ AllBare s'.gens) s₁ := by
    intro H hO hS hok hA hK
    have base_of : ∀ {b : Addr} {o : Obj}, s₁.heap.get? b = some o → H b = none → (hidT s₁.heap H).get? b = some o := fun e n => hidT_get e n
    have noA : ∀ {b : Addr} {o : Obj} {es : Array DictEntry} {ep : Nat}, s₁.heap.get? b = some o → o.data = .dict es ep → H b = none := fun {b o es ep} e d => by
      cases q : H b with
      | none => rfl
      | some u =>
        have e' : b = a := hA b (by rw [q]; simp)
        subst e'
        rw [ha] at e; cases e
        have d' : Data.seq vs.toArray _ = Data.dict es ep := d
        cases d'
    have nsK : ∀ {b : Addr} {m : Str → Option Value}, s₁.heap.Ns b m → (hidT s₁.heap H).Ns b m := fun {b m} ⟨o, es, ep, e, d, r⟩ => ⟨o, es, ep, base_of e (noA e d), d, r⟩
    have hKb : K.In (hidT s₁.heap H) := fun b o e => base_of (KX b o e) (by
      cases q : H b with
      | none => rfl
      | some u =>
        have e' : b = a := hA b (by rw [q]; simp)
        subst e'
        rw [hK (by rw [q]; simp)] at e; cases e)
    have hM : Mod K mg (hidT s₁.heap H) := ⟨hKb, nsK hns, ⟨mb, nsK hb, hbb⟩, let ⟨mc, h1, h2⟩ := hlim; ⟨mc, nsK h1, h2⟩⟩
    have e0 : Env0 P w K mg (hidT s₁.heap H) callerA [] s₁ H := ⟨rfl, hM, fun b o e => of_hidT e, Nat.le_of_eq (hidT_size _ _), trivial, fun b hb => absurd (show b ∈ ([] : List Addr) from hb) (by simp), hok, .of_eq hg⟩
    refine codeAny_mono ((F _ hKb (nsK hns)).run callerA [] s₁ H ⟨[.ref a], []⟩ [.ref a] [.ref a] _ _ hr e0 (hbind s₁ (.ref a)) (.cons rfl .nil) (hsp H hO hS)) fun r s' h => ?_
    cases r with
    | error e => exact (hCX H e s' h).elim
    | ok fl =>
      cases fl with
      | next => exact False.elim h
      | brk => exact False.elim h
      | cont => exact False.elim h
      | ret u =>
        obtain ⟨v, H', os, bare, un, hok', r', q⟩ := h
        have q' : v = .bl true := q
        subst q'
        obtain rfl : u = Value.bool true := r'
        refine ⟨rfl, OldK.of_keep fun b o e => ?_, os, bare⟩
        cases q : H b with
        | none => exact un.keep b o e q (by intro z; exact absurd (show b ∈ ([] : List Addr) from z) (by simp)) (by simp)
        | some u =>
          rcases hO b with z | ⟨ob, xs, z⟩
          · rw [q] at z; cases z
          · have z2 := un.frzs b ob _ z
            obtain ⟨e1, _⟩ := hok b _ z
            obtain ⟨e2, _⟩ := hok' b _ z2
            rw [e] at e1; cases e1
            exact e2
  cases hk : K.lookup a with
  | some o =>
    have e := KX a o hk
    rw [ha] at e
    cases e
    refine core (fun _ => none) (fun _ => .inl rfl) (.inr ⟨_, vs.toArray, _, hk, rfl, rfl, rfl, by rw [List.size_toArray, lenV]; exact hl, by simpa using rv⟩) (fun b u z => by have z' : (none : Option HO) = some u := z; cases z') (fun b z => absurd rfl z) fun z => absurd rfl z
  | none =>
    refine core (fun b => if b = a then some (.frz { cls := .type "list", data := .seq vs.toArray } (.lst (ns.map V.int))) else none) (fun b => ?_) (.inl (.inr ⟨{ cls := .type "list", data := .seq vs.toArray }, if_pos rfl⟩)) (fun b u z => ?_) (fun b z => ?_) fun _ => hk
    · by_cases hb : b = a
      · exact .inr ⟨_, _, if_pos hb⟩
      · exact .inl (if_neg hb)
    · by_cases hb : b = a
      · have z' := (if_pos hb).symm.trans z
        cases z'
        subst hb
        exact ⟨ha, by rw [List.length_map]; exact hl, vs, _, rv, ha⟩
      · have z' := (if_neg hb).symm.trans z
        cases z'
    · by_cases hb : b = a
      · exact hb
      · exact absurd (if_neg hb) z
end L2
namespace L2
open PySem PySem.Spec PyProof.Rows
theorem walk_of {l : PySem.W.OpenLaw} {n k : Nat} {q : Program} {loose : List Str} {XP : (Str → Option Value) → Heap → Prop} {YP : World → Heap → Prop} {d : DefRec} {K : Params → PySem.W.Frag} {CX : World → CXT} {sp : World → Sp} {x : Str}
    (hn : l.most = some n) (hn2 : n ≤ sizeLine) (hdf : d.params.defaults = []) (hr : Room k callerA)
    (hY : ∀ (w : World) (h : Heap), YP w h → (K w.params).In h)
    (F : ∀ (w : World) (mg : Str → Option Value) (fa : Addr) (h : Heap), (K w.params).In h → h.Ns mainGlobals mg → mg d.name = some (.ref fa) →
      ∃ fd : FuncData, (∀ (s : Shared) (u : Value), BindsTo s fd ⟨[u], []⟩ [(x, u)]) ∧
        ∀ base : Heap, (K w.params).In base → base.Ns mainGlobals mg → FnOk l.prog w (K w.params) mg base (CX w) k fa fd [x] (sp w))
    (hsp : ∀ (w : World) (H : Hp) (a : Addr) (ns : List Int), ns.length ≤ n → Only H → SqL (K w.params) H a (ns.map V.int) → sp w [.ref a] H (fun v _ => v = .bl true) fun _ _ _ => False)
    (hCX : ∀ (w : World) (H : Hp) (s : Shared) (e : Value) (s' : Shared), CX w [] H s (fun _ _ _ => False) e s' → False) :
    PySem.W.WalkO q loose XP YP l.row.toRowW d [] (fun f vs => PySem.call f vs) := by
  refine Att.attach_call hn hdf fun w s₀ s₁ mg mb fa o pm cd doc a vs ns G Y ho hd hcd hmg hobj hints hlen hg => ?_
  have KX := hY w _ Y
  obtain ⟨fd, hb, hF⟩ := F w mg fa _ KX G.T.g hmg
  exact law_call KX G.T.g G.T.b G.T.builtins G.T.nolimit hg hobj hints (Nat.le_trans hlen hn2) hr hF hb (fun H hO hS => hsp w H a ns hlen hO hS) fun H e s' => hCX w H s₁ e s'
end L2
namespace L2
open PySem PySem.Spec PyProof.Rows
noncomputable def defArgs (s : Stmt) : Arguments := match s with
  | .FunctionDef _ a _ _ _ _ _ _ _ _ => a
  | _ => { posonlyargs := [], args := [], vararg := none, kwonlyargs := [], kw_defaults := [], kwarg := none, defaults := [] }
noncomputable def defBody (s : Stmt) : List Stmt := match s with
  | .FunctionDef _ _ b _ _ _ _ _ _ _ => b
  | _ => []
noncomputable def defScope (s : Stmt) : Scope := match s with
  | .FunctionDef _ _ _ _ _ _ sc _ _ _ => sc
  | _ => { kind := .function, names := [], isGenerator := false, isCoroutine := false }
noncomputable abbrev CX0 : CXT := fun _ _ _ _ _ _ => False
noncomputable abbrev E0 : XK := fun _ _ _ => False
theorem pass0 {X : Cx} : Passes CX0 X E0 := fun _ _ _ _ _ _ _ h => h.elim
structure Fun (K : PySem.W.Frag) (x qual : Str) (st : Stmt) (f : Addr) (fd : FuncData) : Prop where
  ex : ∃ (oc : Value) (od : Option Addr) (kV doc pm : Value) (an : Option Addr) (cdv ct : Value) (osl : Array (Option Value)),
    fd = PySem.W.fnOf x qual (defArgs st) (defBody st) (defScope st) .none kV doc pm an cdv ct ∧ K.lookup f = some ⟨oc, od, .func fd, osl⟩ ∧ PySem.W.codeIn K cdv qual = true
  kp : PySem.W.keepIn K (.ref f) = true
section
variable {P : Program} {w : World} {K : PySem.W.Frag} {mg : Str → Option Value} {base : Heap}
theorem Fun.ok {x qual : Str} {st : Stmt} {f : Addr} {fd : FuncData} {N ps : List Str} {k : Nat} {sp : Sp} (F : Fun K x qual st f fd) (S : FnScope N ps (defScope st)) (len : ∀ vs H Q E, sp vs H Q E → vs.length = ps.length)
    (hbody : ∀ (cdv : Value) (A : Around) (outer : List Env) (s : Shared) (H : Hp) (vs : List V) (Q : VK) (E : XK), Room k (A.deeper (envOfC qual (defScope st) s.heap.objs.size f cdv)) → sp vs H Q E →
      ∃ t, PSs (cxOf CX0 P w K mg base N qual (defScope st) f cdv A outer s H E).nox (defBody st) t ∧ t { nx := fun _ H' => Q .non H', rt := Q } (start N vs) H) : FnOk P w K mg base CX0 (k + 1) f fd ps sp := by
  obtain ⟨oc, od, kV, doc, pm, an, cdv, ct, osl, rfl, lk, hcd⟩ := F.ex
  refine fn_of lk hcd S len fun A outer s H vs Q E hr hsp => ?_
  obtain ⟨t, h, q⟩ := hbody cdv A outer s H vs Q E hr hsp
  exact ⟨t, h.nox, q⟩
theorem Fun.binds {x qual : Str} {st : Stmt} {f : Addr} {fd : FuncData} {ps : List Str} (F : Fun K x qual st f fd)
    (h : ∀ (kV doc pm : Value) (an : Option Addr) (cdv ct : Value) (us : List Value), us.length = ps.length → bindArgs (PySem.W.fnOf x qual (defArgs st) (defBody st) (defScope st) .none kV doc pm an cdv ct) ⟨us, []⟩ = pure (ps.zip us)) : Binds K fd ps [] := by
  obtain ⟨oc, od, kV, doc, pm, an, cdv, ct, osl, rfl, lk, hcd⟩ := F.ex
  exact .all (h kV doc pm an cdv ct)
theorem fun_mk {x qual : Str} {st : Stmt} {f : Addr} {oc : Value} {od an : Option Addr} {osl : Array (Option Value)} {kV doc pm cdv ct : Value} (l : K.lookup f = some ⟨oc, od, .func (PySem.W.fnOf x qual (defArgs st) (defBody st) (defScope st) .none kV doc pm an cdv ct), osl⟩)
    (c : PySem.W.codeIn K cdv qual = true) (k : PySem.W.keepIn K (.ref f) = true) : Fun K x qual st f (PySem.W.fnOf x qual (defArgs st) (defBody st) (defScope st) .none kV doc pm an cdv ct) := ⟨⟨oc, od, kV, doc, pm, an, cdv, ct, osl, rfl, l, c⟩, k⟩
end
theorem small1000 {n : Nat} (h : n ≤ 1000) : n < sizeLine := Nat.lt_of_le_of_lt h (by decide)
section
variable {X : Cx}
theorem pv (i : Nat) {x : Str} {pos : Pos} (hN : X.N[i]? = some x := by rfl) (hv : Vis X.env.scope x := by first | exact Or.inl rfl | exact Or.inr (Or.inl rfl) | exact Or.inr (Or.inr rfl)) (hd : (x == ("__debug__" : Str)) = false := by decide)
    (hcd : (x == ("__classdict__" : Str)) = false := by decide) : PE X (.Name x pos) (tVar i) := pe_var hN hv hd hcd
theorem call_lenD : CallR X (.builtin "len") (fun xs H Q => ∃ a kvs, xs = [V.ref a] ∧ H a = some (.dK kvs) ∧ Q (.int kvs.length) H) := by
  intro pins s σ H xs us Q I r h
  obtain ⟨a, kvs, rfl, ha, q⟩ := h
  obtain ⟨u, rfl, ru⟩ := vals1 r
  cases ru
  exact d_len I (.inl ha) fun t s' I' => ⟨.int kvs.length, H, I', ⟨t, rfl⟩, q⟩
end
theorem iteF {A B : Prop} (h : B) : if false = true then A else B := by
  rw [if_neg Bool.false_ne_true]
  exact h
theorem iteT {A B : Prop} (h : A) : if true = true then A else B := by
  rw [if_pos rfl]
  exact h
theorem ite2 {c A B : Prop} [Decidable c] (h1 : c → A) (h2 : ¬ c → B) : if c then A else B := by
  by_cases h : c
  · rw [if_pos h]
    exact h1 h
  · rw [if_neg h]
    exact h2 h
noncomputable def Same (H H' : Hp) : Prop := ∀ b o, H b = some o → H' b = some o
theorem Same.refl (H : Hp) : Same H H := fun _ _ h => h
theorem Same.trans {H H1 H2 : Hp} (a : Same H H1) (b : Same H1 H2) : Same H H2 := fun c o h => b c o (a c o h)
section
variable {κ : Type} [DecidableEq κ]
theorem valV_not {kvs : List (κ × V)} {k : κ} (h : valV kvs k = none) : ¬ k ∈ kvs.map (·.1) := by
  intro m
  obtain ⟨p, hp, e⟩ := List.mem_map.mp m
  have q : (kvs.any fun kv => decide (kv.1 = k)) = true := List.any_eq_true.mpr ⟨p, hp, decide_eq_true e⟩
  rw [valV_any, h] at q
  exact absurd q (by simp)
theorem valV_in {kvs : List (κ × V)} {k : κ} {v : V} (h : valV kvs k = some v) : k ∈ kvs.map (·.1) := by
  have q : (kvs.any fun kv => decide (kv.1 = k)) = true := by
    rw [valV_any, h]
    all_goals rfl
  obtain ⟨p, hp, e⟩ := List.any_eq_true.mp q
  exact List.mem_map.mpr ⟨p, hp, of_decide_eq_true e⟩
theorem nd_snoc : ∀ {l : List κ} {k : κ}, l.Nodup → ¬ k ∈ l → (l ++ [k]).Nodup
  | [], k, _, _ => by simp
  | a :: r, k, h, hk => by
    obtain ⟨h1, h2⟩ := List.nodup_cons.mp h
    show (a :: (r ++ [k])).Nodup
    refine List.nodup_cons.mpr ⟨fun m => ?_, nd_snoc h2 fun m => hk (List.mem_cons.mpr (Or.inr m))⟩
    rcases List.mem_append.mp m with q | q
    · exact h1 q
    · exact hk (List.mem_cons.mpr (Or.inl (List.mem_singleton.mp q).symm))
theorem nd_putK {kvs : List (κ × V)} {k : κ} (v : V) (hn : (kvs.map (·.1)).Nodup) (h : valV kvs k = none) : ((putK kvs k v).map (·.1)).Nodup := by
  rw [putK_new v h, List.map_append]
  exact nd_snoc hn (valV_not h)
end
end L2
set_option maxHeartbeats 4000000
namespace L2
open PySem PySem.Spec PyProof.Rows
theorem clos_go {env : Env} {f : Str × NameKind → List (Str × Addr) → Sem (ForInStep (List (Str × Addr)))}
    (f1 : ∀ n k r, k ≠ NameKind.free → f (n, k) r = pure (.yield r))
    (f2 : ∀ n c r, env.cells.lookup n = some c → f (n, NameKind.free) r = pure (.yield ((n, c) :: r))) :
    ∀ (names : List (Str × NameKind)) (acc : List (Str × Addr)),
    (∀ y ∈ names, y.2 = NameKind.free → ∃ c, env.cells.lookup y.1 = some c) →
    (∀ x c, acc.lookup x = some c → env.cells.lookup x = some c) →
    ∃ cl, forIn names acc f = (pure cl : Sem (List (Str × Addr))) ∧ (∀ x c, cl.lookup x = some c → env.cells.lookup x = some c) ∧
      (∀ x, (acc.lookup x).isSome = true → (cl.lookup x).isSome = true) ∧ ∀ y ∈ names, y.2 = NameKind.free → (cl.lookup y.1).isSome = true
  | [], acc, _, h => ⟨acc, by rw [List.forIn_nil], h, fun _ q => q, fun y hy => nomatch hy⟩
  | (n, k) :: r, acc, hn, h => by
    by_cases hk : k = NameKind.free
    · subst hk
      obtain ⟨c, hc⟩ := hn (n, .free) List.mem_cons_self rfl
      have hc' : env.cells.lookup n = some c := hc
      obtain ⟨cl, e, a, b, d⟩ := clos_go f1 f2 r ((n, c) :: acc) (fun y hy => hn y (List.mem_cons_of_mem _ hy)) (fun x c' q => by
        rw [List.lookup_cons] at q
        cases e : x == n with
        | true =>
          rw [e] at q
          cases q
          rw [show x = n from LawfulBEq.eq_of_beq e]
          exact hc'
        | false =>
          rw [e] at q
          exact h x c' q)
      refine ⟨cl, ?_, a, fun x q => b x ?_, fun y hy hf => ?_⟩
      · rw [List.forIn_cons, f2 n c acc hc', pure_bind]
        exact e
      · rw [List.lookup_cons]
        cases x == n with
        | true => rfl
        | false => exact q
      · rcases List.mem_cons.mp hy with rfl | hy
        · refine b _ ?_
          rw [List.lookup_cons]
          simp
        · exact d y hy hf
    · obtain ⟨cl, e, a, b, d⟩ := clos_go f1 f2 r acc (fun y hy => hn y (List.mem_cons_of_mem _ hy)) h
      refine ⟨cl, ?_, a, b, fun y hy hf => ?_⟩
      · rw [List.forIn_cons, f1 n k acc hk, pure_bind]
        exact e
      · rcases List.mem_cons.mp hy with rfl | hy
        · exact absurd hf hk
        · exact d y hy hf
theorem clos_ok {scope : Scope} {env : Env} (hf : ∀ y ∈ scope.names, y.2 = NameKind.free → ∃ c, env.cells.lookup y.1 = some c) :
    ∃ cl, closureFor scope env = pure cl ∧ (∀ x c, cl.lookup x = some c → env.cells.lookup x = some c) ∧
      ∀ y ∈ scope.names, y.2 = NameKind.free → ∃ c, cl.lookup y.1 = some c := by
  have go := clos_go (env := env) (f := fun (x : Str × NameKind) (r : List (Str × Addr)) => match x with
      | (name, kind) => if (kind == NameKind.free) = true then do let c ← cellOf env name; pure (ForInStep.yield ((name, c) :: r)) else pure (ForInStep.yield r))
    (fun n k r hk => by
      have z : (k == NameKind.free) = false := by simpa using hk
      simp only [z, Bool.false_eq_true, if_false])
    (fun n c r hc => by
      simp only [beq_self_eq_true, if_true, cellOf, hc, pure_bind])
    scope.names [] hf (fun x c q => by cases q)
  obtain ⟨cl, e, a, _, d⟩ := go
  refine ⟨cl, ?_, a, fun y hy z => Option.isSome_iff_exists.mp (d y hy z)⟩
  simp only [closureFor]
  first
    | exact e
    | (simp only [bind_pure]; exact e)
    | (refine Eq.trans ?_ e; simp only [bind_pure])
noncomputable def cxC (X : Cx) (scope : Scope) (N : List Str) (cl : List (Str × Addr)) (C : Addr) (s₀ : Shared) (H₀ : Hp) (ex : List Addr) : Cx where
  prog := X.prog
  w := X.w
  K := X.K
  mg := X.mg
  base := X.base
  A := X.A
  N := N
  s₀ := s₀
  H₀ := H₀
  env := compEnvC scope cl C X.env
  outer := X.stack
  stack := X.stack
  ex := ex
  fn := fun _ => false
  calm := X.calm
  pn := []
  xe := fun _ _ => False
noncomputable def inSt (k : Nat) (fr : List Nat) (σ : St) : St := List.replicate k none ++ fr.map fun i => (σ[i]?).join
noncomputable def frOk (osc scope : Scope) (NX : List Str) (fr : List Nat) : Bool := fr.all fun i => match NX[i]? with
  | some x => (decide (osc.names.lookup x = some .cell) || decide (osc.names.lookup x = some .free)) && decide (scope.names.lookup x = some .free)
  | none => false
structure CompSc (osc scope : Scope) (NX own : List Str) (fr : List Nat) (N : List Str) : Prop where
  kind : scope.kind = .function
  nocell : ∀ y ∈ scope.names, y.2 ≠ NameKind.cell
  loc : ∀ y ∈ scope.names, y.2 = NameKind.local → scope.names.lookup y.1 = some .local
  free : ∀ y ∈ scope.names, y.2 = NameKind.free → osc.names.lookup y.1 = some .cell ∨ osc.names.lookup y.1 = some .free
  names : N.map some = own.map some ++ fr.map fun i => NX[i]?
  outer : frOk osc scope NX fr = true
noncomputable def compOk (osc scope : Scope) (NX own : List Str) (fr : List Nat) (N : List Str) : Bool :=
  decide (scope.kind = .function) && (scope.names.all (fun y => decide (y.2 ≠ NameKind.cell)) && (scope.names.all (fun y => decide (y.2 = NameKind.local → scope.names.lookup y.1 = some .local)) &&
    (scope.names.all (fun y => decide (y.2 = NameKind.free → (osc.names.lookup y.1 = some .cell ∨ osc.names.lookup y.1 = some .free))) && (decide (N.map some = own.map some ++ fr.map fun i => NX[i]?) && frOk osc scope NX fr))))
theorem CompSc.of {osc scope : Scope} {NX own : List Str} {fr : List Nat} {N : List Str} (h : compOk osc scope NX own fr N = true) : CompSc osc scope NX own fr N := by
  unfold compOk at h
  simp only [Bool.and_eq_true, decide_eq_true_eq, List.all_eq_true] at h
  obtain ⟨h1, h2, h3, h4, h5, h6⟩ := h
  exact ⟨h1, h2, h3, h4, h5, h6⟩
theorem CompSc.len {osc scope : Scope} {NX own : List Str} {fr : List Nat} {N : List Str} (S : CompSc osc scope NX own fr N) : N.length = own.length + fr.length := by
  have h := congrArg List.length S.names
  simpa using h
theorem lookup_relabel_free {env : Env} : ∀ {names : List (Str × NameKind)} {x : Str}, names.lookup x = some .free →
    (names.map fun (n, k) => if (k == NameKind.free && env.scope.kind == .function && env.kindOf n == some .cell) then (n, NameKind.cell) else (n, k)).lookup x = some .cell ∨
    (names.map fun (n, k) => if (k == NameKind.free && env.scope.kind == .function && env.kindOf n == some .cell) then (n, NameKind.cell) else (n, k)).lookup x = some .free
  | [], _, h => by simp at h
  | (n, k) :: r, x, h => by
    have ih := @lookup_relabel_free env r x
    cases hx : x == n with
    | true =>
      simp only [List.lookup_cons, hx] at h
      cases h
      simp only [List.map_cons]
      split
      · left; simp [List.lookup_cons, hx]
      · right; simp [List.lookup_cons, hx]
    | false =>
      simp only [List.lookup_cons, hx] at h
      simp only [List.map_cons]
      split
      · simp only [List.lookup_cons, hx]; exact ih h
      · simp only [List.lookup_cons, hx]; exact ih h
theorem of_relabel {env : Env} : ∀ {names : List (Str × NameKind)} {x : Str} {k' : NameKind},
    (names.map fun (n, k) => if (k == NameKind.free && env.scope.kind == .function && env.kindOf n == some .cell) then (n, NameKind.cell) else (n, k)).lookup x = some k' →
    k' = .cell ∨ k' = .free → (∀ y ∈ names, y.2 ≠ NameKind.cell) → ∃ y ∈ names, y.1 = x ∧ y.2 = .free
  | [], _, _, h, _, _ => by simp at h
  | (n, k) :: r, x, k', h, hk, nc => by
    have ih := @of_relabel env r x k'
    simp only [List.map_cons] at h
    cases hx : x == n with
    | true =>
      have ex : x = n := LawfulBEq.eq_of_beq hx
      refine ⟨(n, k), List.mem_cons_self, ex.symm, ?_⟩
      have nck : k ≠ .cell := nc (n, k) List.mem_cons_self
      by_cases z : k = .free
      · exact z
      · have zb : (k == NameKind.free) = false := by simpa using z
        simp only [zb, Bool.false_and, Bool.false_eq_true, if_false, List.lookup_cons, hx] at h
        cases h
        rcases hk with q | q
        · exact absurd q nck
        · exact absurd q z
    | false =>
      have h' : (r.map fun (n, k) => if (k == NameKind.free && env.scope.kind == .function && env.kindOf n == some .cell) then (n, NameKind.cell) else (n, k)).lookup x = some k' := by
        split at h
        · simpa only [List.lookup_cons, hx] using h
        · simpa only [List.lookup_cons, hx] using h
      obtain ⟨y, hy, a, b⟩ := ih h' hk fun z hz => nc z (List.mem_cons_of_mem _ hz)
      exact ⟨y, List.mem_cons_of_mem _ hy, a, b⟩
section
variable {X : Cx} {pins : List (Addr × Obj)} {σ : St} {H : Hp} {s : Shared}
noncomputable def PTs (X : Cx) (ifs : List Expr) (t : TT) : Prop :=
  ∀ (pins : List (Addr × Obj)) (s : Shared) (σ : St) (H : Hp) (Q : Bool → Hp → Prop), Inv X pins σ H s → t σ H Q →
    wpAny (model X.prog X.w) X.A (forIn ifs true fun c r => if r = true then do let ok ← isTrue c X.env (eval c X.env); pure (ForInStep.yield ok) else pure (ForInStep.yield r)) (TP X pins σ Q) X.xe s
noncomputable def tYes : TT := fun _ H Q => Q true H
theorem pts_nil : PTs X [] tYes := fun _ _ _ H _ I h => wpAny_tests_nil ⟨H, I, h⟩
theorem pts_one {c : Expr} {t : TT} (h : PT X c t) : PTs X [c] t := fun pins s σ H Q I q => wpAny_tests_one (h pins s σ H Q I q)
theorem nx {α : Type} {t : Sem α} {Q Q' : α → Shared → Prop} {M : Model} {A : Around} {E : Value → Shared → Prop} {s : Shared} (h : wpAny M A t Q (fun _ _ => False) s) (hQ : ∀ a s, Q a s → Q' a s) : wpAny M A t Q' E s :=
  wpAny_mono h hQ fun _ _ f => f.elim
theorem inv_block {scope : Scope} {own : List Str} {fr : List Nat} {N : List Str} {cl : List (Str × Addr)} {s3 s4 : Shared} {H3 : Hp} {fp : List Addr} {m : Str → Option Value}
    (hc : X.calm = true) (S : CompSc X.env.scope scope X.N own fr N)
    (c1 : ∀ x c, cl.lookup x = some c → X.env.cells.lookup x = some c) (c2 : ∀ y ∈ scope.names, y.2 = NameKind.free → ∃ c, cl.lookup y.1 = some c)
    (I3 : Inv X pins σ H3 s3) (f3 : ∀ b ∈ fp, FpOk X pins H3 b ∧ b < s3.heap.objs.size)
    (hk : ∀ b o, s3.heap.get? b = some o → s4.heap.get? b = some o) (hn : s4.heap.Ns s3.heap.objs.size m) (ho : s4.os = s3.os) (hg : s4.gens = s3.gens) :
    Inv (cxC X scope N cl s3.heap.objs.size s3 H3 fp) [] (inSt own.length fr σ) H3 s4 := by
  have kindF : (compEnvC scope cl s3.heap.objs.size X.env).scope.kind = .function := by
    show (relabel scope X.env).kind = .function
    exact S.kind
  refine ⟨⟨I3.ok.mod, kindF, I3.ok.glob, I3.ok.blt, Nat.le_refl _, ?_, ?_, ?_, I3.ok.hd, I3.ok.frames, .inl rfl, ?_, ?_, ?_, ?_, ?_, I3.stack, I3.stkFree⟩, ho, ?_, Un.kept hk, ⟨m, hn, ?_⟩, ?_, ?_, ?_, ?_, I3.hok.kept hk, ?_⟩
  · exact fun x y c h1 h2 => I3.ok.inj x y c (c1 x c h1) (c1 y c h2)
  · intro x hx
    have hx' : (relabel scope X.env).names.lookup x = some .cell ∨ (relabel scope X.env).names.lookup x = some .free := hx
    obtain ⟨k', hk', hkk⟩ : ∃ k', (relabel scope X.env).names.lookup x = some k' ∧ (k' = NameKind.cell ∨ k' = NameKind.free) := by
      rcases hx' with q | q
      · exact ⟨_, q, .inl rfl⟩
      · exact ⟨_, q, .inr rfl⟩
    obtain ⟨y, hy, e, hf⟩ := of_relabel (env := X.env) hk' hkk S.nocell
    subst e
    exact c2 y hy hf
  · exact fun x c h => by cases h
  · intro b hb
    obtain ⟨f, hl⟩ := f3 b hb
    refine ⟨Nat.ne_of_lt hl, fun x c h => f.2.2.2.2.1 x c (c1 x c h)⟩
  · exact fun b o e => I3.bs b o e
  · exact Nat.le_trans I3.ok.bsz I3.sz
  · intro b o e hb
    obtain ⟨f, hl⟩ := f3 b hb
    rcases f.2.2.2.1 with z | z
    · exact I3.ok.noex b o e z
    · exact absurd (Nat.lt_of_lt_of_le (Heap.lt_size e) (Nat.le_trans I3.ok.bsz z)) (Nat.lt_irrefl _)
  · intro b hb
    obtain ⟨f, hl⟩ := f3 b hb
    show b ∉ frs X.stack
    intro z
    rcases List.mem_cons.mp (I3.stkSub b z) with q | q
    · exact f.2.1 q
    · exact f.2.2.1 q
  · rw [hg]; exact I3.bare
  · intro i x v h1 h2 h3
    have h1 : N[i]? = some x := h1
    obtain ⟨m0, hn0, hl0⟩ := I3.loc
    have hi : own.length ≤ i := by
      refine Nat.le_of_not_lt fun q => ?_
      unfold inSt at h2
      rw [List.getElem?_append_left (by simpa using q), List.getElem?_replicate] at h2
      split at h2 <;> cases h2
    obtain ⟨j, rfl⟩ := Nat.exists_eq_add_of_le hi
    have h2' : (fr.map fun i => (σ[i]?).join)[j]? = some (some v) := by
      unfold inSt at h2
      rw [List.getElem?_append_right (by simp)] at h2
      simpa using h2
    rw [List.getElem?_map] at h2'
    cases ej : fr[j]? with
    | none => rw [ej] at h2'; cases h2'
    | some k =>
      rw [ej] at h2'
      have e2 : (σ[k]?).join = some v := Option.some.inj h2'
      have eσ : σ[k]? = some (some v) := by
        cases q : σ[k]? with
        | none => rw [q] at e2; cases e2
        | some o => rw [q] at e2; exact congrArg some e2
      have eN : X.N[k]? = some x := by
        have q := congrArg (fun l => l[own.length + j]?) S.names
        simp only [List.getElem?_map, h1, List.getElem?_append_right (show (own.map some).length ≤ own.length + j by simp), List.length_map, Nat.add_sub_cancel_left, ej, Option.map_some] at q
        exact (Option.some.inj q).symm
      have ok := List.all_eq_true.mp S.outer k (List.mem_of_getElem? ej)
      rw [eN] at ok
      simp only [Bool.and_eq_true, Bool.or_eq_true, decide_eq_true_eq] at ok
      obtain ⟨ok1, ok2⟩ := ok
      have vis : Vis X.env.scope x := .inr ok1
      obtain ⟨u, r, l⟩ := hl0 k x v eN eσ vis
      refine ⟨u, r, ?_⟩
      rcases l with ⟨l, _⟩ | ⟨_, c, e, z⟩
      · have l : X.env.scope.names.lookup x = some .local := l
        rcases ok1 with q | q
        · rw [l] at q; cases q
        · rw [l] at q; cases q
      · obtain ⟨c', e'⟩ := c2 (x, .free) (PySem.mem_of_lookup ok2) rfl
        have e' : cl.lookup x = some c' := e'
        have ec : c' = c := Option.some.inj ((c1 x c' e').symm.trans e)
        subst ec
        refine .inr ⟨lookup_relabel_free (env := X.env) ok2, c', e', ?_⟩
        obtain ⟨o, h1, h2⟩ := z
        exact ⟨o, hk _ _ h1, h2⟩
  · intro x c e
    obtain ⟨v, o, h1, h2⟩ := I3.cell x c (c1 x c e)
    exact ⟨v, o, hk _ _ h1, h2⟩
  · exact I3.hok.fresh (Nat.le_refl _)
  · exact fun x c e => I3.freeC x c (c1 x c e)
  · intro p hp
    exact absurd hp (by simp [cxC])
  · show (inSt own.length fr σ).length = N.length
    rw [S.len]
    simp [inSt]
end
section
variable {prog : Program} {w : World} {A : Around} {R : Result → Shared → Prop} {s : Shared}
theorem comp_loop {elt tg iter : Expr} {ifs : List Expr} {scope : Scope} {pos : Pos} {it acc : Value} {env : Env} (J : Nat → Shared → Prop)
    (turn : ∀ k s, J k s → ∀ E : Value → Shared → Prop, wpAny (model prog w) A (pyNext it) (fun r s1 => match r with
      | none => R (.ok .next) s1
      | some v => wpAny (model prog w) A (letOwnedTupleGo tg it v) (fun _ s2 => wpAny (model prog w) A (assign tg env v) (fun _ s3 =>
          wpAny (model prog w) A (forIn ifs true fun c r => if r = true then do let ok ← isTrue c env (eval c env); pure (ForInStep.yield ok) else pure (ForInStep.yield r)) (fun ok s4 =>
            if ok = true then wpAny (model prog w) A (eval elt env) (fun x s5 => wpAny (model prog w) A (call (.builtin "list.append") [acc, x]) (fun _ s6 => ∃ m, m < k ∧ J m s6) E s5) E s4
            else ∃ m, m < k ∧ J m s4) E s3) E s2) E s1) E s)
    (k : Nat) (h : J k s) : codeAny (model prog w) A (.compLoop (.ListComp elt [⟨tg, iter, ifs, 0⟩] scope pos) 0 it acc env) R s := by
  refine codeAny_loop rfl J (fun k s hJ => ?_) k h
  show wpAny _ A ((compTurn (.ListComp elt [⟨tg, iter, ifs, 0⟩] scope pos) 0 it acc env).onRaise (fun e => do noteFrame e env; theTreesLotGoes e)) _ _ s
  refine wpAny_noted ?_
  rw [compTurn_list]
  refine wpAny_bind (wpAny_standAt (wpAny_bind (thn (turn k s hJ _) fun r s1 h1 => ?_)))
  cases r with
  | none => exact wpAny_pure h1
  | some v =>
    refine wpAny_bind (thn h1 fun _ s2 h2 => wpAny_bind (thn h2 fun _ s3 h3 => wpAny_bind (thn h3 fun ok s4 h4 => ?_)))
    cases ok with
    | false => exact wpAny_pure ⟨rfl, h4⟩
    | true => exact wpAny_bind (wpAny_bind (thn h4 fun x s5 h5 => wpAny_bind (thn h5 fun _ s6 h6 => wpAny_pure (wpAny_pure ⟨rfl, h6⟩))))
end
noncomputable def tCompW (k : Nat) (fr : List Nat) (g : TG) (tc : TT) (te : TE) (J : It) (σ : St) (H1 : Hp) (Q : VK) : Prop :=
  ∀ D, H1 D = none → ∃ W : Nat → Nat → List V → St → Hp → Prop, (∃ m, W 0 m [] (inSt k fr σ) (upd H1 D (.lst []))) ∧ ∀ i m acc σ' H', W i m acc σ' H' → H' D = some (.lst acc) →
    (J.stop i H' ∧ Q (.ref D) H') ∨ (J.go i H' ∧ ∃ N : List V → St → Hp → Prop, (∀ acc' σ2 H2, N acc' σ2 H2 → ∃ m', m' < m ∧ W (i + 1) m' acc' σ2 H2) ∧ ∀ x H2, J.yld i H' x H2 → g x σ' H2 fun σ2 H3 => tc σ2 H3 fun b H4 =>
      if b = true then te σ2 H4 fun y H5 => H5 D = some (.lst acc) ∧ acc.length < sizeLine ∧ N (acc ++ [y]) σ2 (upd H5 D (.lst (acc ++ [y])))
      else H4 D = some (.lst acc) ∧ N acc σ2 H4)
noncomputable def tComp (k : Nat) (fr : List Nat) (wi : TI) (g : TG) (tc : TT) (te : TE) : TE := fun σ H Q => wi σ H fun J H1 => tCompW k fr g tc te J σ H1 Q
section
variable {X : Cx} {pins : List (Addr × Obj)} {σ : St} {H : Hp} {s : Shared} {tg elt iter : Expr} {ifs : List Expr} {scope : Scope} {pos : Pos}
theorem comp_block {own : List Str} {fr : List Nat} {N : List Str} {cl : List (Str × Addr)} {H2 : Hp} {s2 : Shared} {fp : List Addr} {it : Addr} {J : It} {tn : Nat → Heap → Prop} {g : TG} {tc : TT} {te : TE} {Q : VK} {E : Value → Shared → Prop} {POST : Value → Addr → Result → Shared → Prop}
    (hc : X.calm = true) (S : CompSc X.env.scope scope X.N own fr N)
    (c1 : ∀ x c, cl.lookup x = some c → X.env.cells.lookup x = some c) (c2 : ∀ y ∈ scope.names, y.2 = NameKind.free → ∃ c, cl.lookup y.1 = some c)
    (hg : ∀ C s₀ H₀ ex, PG (cxC X scope N cl C s₀ H₀ ex) tg g) (ht : ∀ C s₀ H₀ ex, PTs (cxC X scope N cl C s₀ H₀ ex) ifs tc) (he : ∀ C s₀ H₀ ex, PE (cxC X scope N cl C s₀ H₀ ex) elt te)
    (I2 : Inv X pins σ H2 s2) (T : Turn X.prog X.w X.K tg J fp it tn) (t2 : tn 0 s2.heap) (f2 : ∀ b ∈ fp, FpOk X pins H2 b) (q : tCompW own.length fr g tc te J σ H2 Q)
    (fin : ∀ D C s' H' m, Inv X pins σ H' s' → FpOk X pins H' C → s'.heap.Ns C m → Q (.ref D) H' → POST (.ref D) C (.ok .next) s') :
    wpAny (model X.prog X.w) X.A (newList []) (fun acc s3 => wpAny (model X.prog X.w) X.A (newFunctionEnv scope X.env.globals cl [] X.env.qual none .none (some X.env)) (fun cenv s4 =>
      codeAny (model X.prog X.w) X.A (.compStart (.ListComp elt [⟨tg, iter, ifs, 0⟩] scope pos) 0 (.ref it) acc { cenv with scope := relabel scope X.env }) (POST acc cenv.locals) s4) E s3) E s2 := by
  refine wpAny_newObj_type (wpAny_newFunctionEnv S.nocell (by intro y hy; simp at hy) (fun h4 ns4 sb4 => ?_) S.kind)
  dsimp only at ns4 sb4 ⊢
  have hD : H2 s2.heap.objs.size = none := I2.hok.fresh (Nat.le_refl _)
  obtain ⟨W, ⟨m0, w0⟩, turn⟩ := q s2.heap.objs.size hD
  have I3 : Inv X pins σ (upd H2 s2.heap.objs.size (.lst [])) { s2 with heap := s2.heap.push { cls := .type "list", dict := none, data := .seq ([] : List Value).toArray }, toks := s2.toks } :=
    I2.laid (fun b u q => Heap.get?_push_of_some _ q) (Nat.le_refl _) ⟨Nat.zero_le _, [], _, .nil, Heap.get?_push_size _ rfl⟩
  generalize hh3 : s2.heap.push { cls := .type "list", dict := none, data := .seq ([] : List Value).toArray } = h3 at *
  have z3 : h3.objs.size = s2.heap.objs.size + 1 := by rw [← hh3, Heap.size_push]
  have k23 : ∀ b o, s2.heap.get? b = some o → h3.get? b = some o := fun b o e => by rw [← hh3]; exact Heap.get?_push_of_some _ e
  have k34 : ∀ b o, h3.get? b = some o → h4.get? b = some o := fun b o e => sb4.extBut b o (Nat.ne_of_lt (Heap.lt_size e)) (Heap.get?_push_of_some _ e)
  have fpl : ∀ b ∈ fp, b < s2.heap.objs.size := fun b hb => by
    obtain ⟨o, e, _⟩ := T.obj _ _ t2 b hb
    exact Heap.lt_size e
  have f3 : ∀ b ∈ fp, FpOk X pins (upd H2 s2.heap.objs.size (.lst [])) b ∧ b < h3.objs.size := fun b hb => by
    refine ⟨⟨?_, (f2 b hb).2⟩, by rw [z3]; exact Nat.lt_succ_of_lt (fpl b hb)⟩
    rw [upd_ne (Nat.ne_of_lt (fpl b hb))]
    exact (f2 b hb).1
  generalize hs3 : ({ s2 with heap := h3, toks := s2.toks } : Shared) = s3 at I3
  have es3 : s3.heap = h3 := by rw [← hs3]
  have hs3' : ({ s2 with heap := h3 } : Shared) = s3 := hs3
  have I4 := inv_block (s3 := s3) (s4 := { s3 with heap := h4, toks := s3.toks + ([] : List (Str × Value)).length }) hc S c1 c2 I3 (by rw [es3]; exact f3) (by rw [es3]; exact k34) (m := fun x => ([] : List (Str × Value)).reverse.lookup x) (by rw [es3]; exact ns4) rfl rfl
  rw [es3] at I4
  have stat : ∀ {H' : Hp} {s' : Shared} {σ' : St} {pl : List (Addr × Obj)}, Inv (cxC X scope N cl h3.objs.size s3 (upd H2 s2.heap.objs.size (.lst [])) fp) pl σ' H' s' → (∀ p ∈ pl, p.1 ∉ fp) → (∀ b ∈ fp, H' b = none) → ∀ b ∈ fp, FpOk (cxC X scope N cl h3.objs.size s3 (upd H2 s2.heap.objs.size (.lst [])) fp) pl H' b := fun {H' s' σ' pl} I' hpl hn b hb => by
    refine ⟨hn b hb, Nat.ne_of_lt (f3 b hb).2, I'.ok.exfs b hb, .inl hb, fun x c e => (f2 b hb).2.2.2.2.1 x c (c1 x c e), fun p hp => ?_⟩
    intro z
    exact hpl p (by simpa [cxC] using hp) (z ▸ hb)
  have loop : ∀ s4 : Shared, s4 = { s3 with heap := h4, toks := s3.toks + ([] : List (Str × Value)).length } →
      codeAny (model X.prog X.w) X.A (.compLoop (.ListComp elt [⟨tg, iter, ifs, 0⟩] scope pos) 0 (.ref it) (.ref s2.heap.objs.size) (compEnvC scope cl h3.objs.size X.env)) (POST (.ref s2.heap.objs.size) h3.objs.size) s4 := by
    rintro s4 rfl
    refine comp_loop (fun n s' => ∃ i acc σ' H', Inv (cxC X scope N cl h3.objs.size s3 (upd H2 s2.heap.objs.size (.lst [])) fp) [] σ' H' s' ∧ tn i s'.heap ∧ (∀ b ∈ fp, H' b = none) ∧ H' s2.heap.objs.size = some (.lst acc) ∧ W i n acc σ' H') ?_ m0
      ⟨0, [], _, _, I4, T.keep _ _ _ t2 fun b hb o e => k34 b o (k23 b o e), fun b hb => (f3 b hb).1.1, upd_same, w0⟩
    rintro n s5 ⟨i, acc, σ5, H5, I5, t5, fr5, d5, w5⟩ E'
    rcases turn i n acc σ5 H5 w5 d5 with ⟨stop, qn⟩ | ⟨go, NN, hNN, step⟩
    · refine thn (T.done (cxC X scope N cl h3.objs.size s3 (upd H2 s2.heap.objs.size (.lst [])) fp) rfl rfl rfl hc i [] s5 σ5 H5 E' I5 (stat I5 (by simp) fr5) t5 stop) fun r s6 ⟨hr, I6⟩ => ?_
      subst hr
      obtain ⟨m6, n6, _⟩ := id I6.loc
      have J6 : Inv X pins σ H5 s6 := I3.call' (ch := fp) I6.os I6.base I6.hok I6.bare fun b hb => ⟨(f2 b hb).2.2.2.1, (f2 b hb).2.1, (f2 b hb).2.2.2.2.1, (f2 b hb).2.2.2.2.2⟩
      exact fin _ _ s6 H5 m6 J6 (I2.fpOk (by rw [z3]; exact Nat.le_succ _) I6.free) n6 qn
    · refine thn (T.item (cxC X scope N cl h3.objs.size s3 (upd H2 s2.heap.objs.size (.lst [])) fp) rfl rfl rfl hc i [] s5 σ5 H5 E' I5 (stat I5 (by simp) fr5) t5 go) fun r s6 ⟨u, hr, h6⟩ => ?_
      subst hr
      refine thn h6 fun _ s7 ⟨x, H7, I7, r7, y7, t7, fr7⟩ => ?_
      have I7' := I7.pinned (stat I7 (by simp) fr7) (T.obj _ _ t7)
      have backTn : ∀ {s' : Shared} {H' : Hp} {σ' : St}, Inv (cxC X scope N cl h3.objs.size s3 (upd H2 s2.heap.objs.size (.lst [])) fp) ([] ++ pinsAt fp s7.heap) σ' H' s' → tn (i + 1) s'.heap ∧ ∀ b ∈ fp, H' b = none := fun {s' H' σ'} I' => by
        refine ⟨T.keep _ _ _ t7 fun b hb o e => (I'.pin (b, o) (List.mem_append_right _ (List.mem_append_right _ (mem_pinsAt hb e)))).1, fun b hb => ?_⟩
        obtain ⟨o, e, _⟩ := T.obj _ _ t7 b hb
        exact (I'.pin (b, o) (List.mem_append_right _ (List.mem_append_right _ (mem_pinsAt hb e)))).2.1
      refine nx (hg _ _ _ _ _ s7 σ5 H7 x u _ I7' r7 (step x H7 y7)) fun _ s8 ⟨σ8, H8, I8, q8⟩ => ?_
      refine nx (ht _ _ _ _ _ s8 σ8 H8 _ I8 q8) fun ok s9 ⟨H9, I9, q9⟩ => ?_
      cases ok with
      | false =>
        obtain ⟨d9, n9⟩ := q9
        obtain ⟨m', hm, w9⟩ := hNN _ _ _ n9
        obtain ⟨a1, a2⟩ := backTn I9
        exact ⟨m', hm, i + 1, acc, σ8, H9, I9.unpinned, a1, a2, d9, w9⟩
      | true =>
        rw [if_pos rfl]
        refine nx (he _ _ _ _ _ s9 σ8 H9 _ I9 q9) fun y s10 ⟨v, H10, I10, r10, d10, l10, n10⟩ => ?_
        obtain ⟨m', hm, w10⟩ := hNN _ _ _ n10
        refine nx (mt_append _ s10 σ8 H10 (.ref s2.heap.objs.size) [v] (.ref s2.heap.objs.size) [y] (fun _ H' => H' = upd H10 s2.heap.objs.size (.lst (acc ++ [v]))) I10 rfl (.cons r10 .nil) ⟨_, acc, v, rfl, rfl, d10, l10, rfl⟩) fun _ s11 ⟨_, H11, I11, _, e11⟩ => ?_
        subst e11
        obtain ⟨a1, a2⟩ := backTn I11
        exact ⟨m', hm, i + 1, _, σ8, _, I11.unpinned, a1, a2, upd_same, w10⟩
  exact codeAny_compStart_list (loop _ (by rw [← hs3])) (T.self _ 0 _ _ _ (T.keep _ _ _ t2 fun b hb o e => k34 b o (k23 b o e)) (loop _ (by rw [← hs3])))
theorem pe_comp (osc : Scope) (NX own : List Str) (fr : List Nat) (N : List Str) {wi : TI} {g : TG} {tc : TT} {te : TE} (hc : X.calm = true)
    (hi : PI X tg iter wi) (hg : ∀ cl C s₀ H₀ ex, PG (cxC X scope N cl C s₀ H₀ ex) tg g) (ht : ∀ cl C s₀ H₀ ex, PTs (cxC X scope N cl C s₀ H₀ ex) ifs tc) (he : ∀ cl C s₀ H₀ ex, PE (cxC X scope N cl C s₀ H₀ ex) elt te)
    (hs : ∀ x, foldedSetIterable iter X.env x = pure x := by intro _; rfl) (hosc : X.env.scope = osc := by rfl) (hNX : X.N = NX := by rfl) (hS : compOk osc scope NX own fr N = true := by decide +kernel) :
    PE X (.ListComp elt [⟨tg, iter, ifs, 0⟩] scope pos) (tComp own.length fr wi g tc te) := by
  intro pins s σ H Q I h
  have S : CompSc X.env.scope scope X.N own fr N := by rw [hosc, hNX]; exact CompSc.of hS
  obtain ⟨cl, ecl, c1, c2⟩ := clos_ok (scope := scope) (env := X.env) fun y hy hf => I.ok.has y.1 (S.free y hy hf)
  rw [eval_ListComp]
  refine wpAny_comprehension_free (use := none) rfl hs ecl S.kind S.loc (thn (hi pins s σ H _ I h) fun v s1 h1 => thn h1 fun itv s2 h2 => ?_)
  obtain ⟨it, fp, tn, J, H2, e, I2, T, t2, f2, q⟩ := h2
  subst e
  refine comp_block (POST := fun acc C => compPost (model X.prog X.w) X.A X.xe none (EP X pins σ Q) acc C) hc S c1 c2 (hg cl) (ht cl) (he cl) I2 T t2 f2 q fun D C s' H' m I' fC ns q' => ?_
  refine ⟨m, ns, fun h' sb => ⟨.ref D, H', ?_, rfl, q'⟩⟩
  obtain ⟨g0, g1, _, g3, g4, g5⟩ := fC
  exact I'.turned (t' := s'.toks) (fun b o hb e => (sb.2 b hb).trans e) g0 g1 g3 g4 g5
theorem ps_setC {wi : TI} {g : TG} {tc : TT} {te : TE} {i : Nat} {x : Str} {px spos : Pos} (hN : X.N.Nodup) (hi' : X.N[i]? = some x) (hx : X.env.scope.names.lookup x = some .local)
    (hsw : swapsWith (.ListComp elt [⟨tg, iter, ifs, 0⟩] scope pos) (some (.Name x px)) spos.line X.env = pure true)
    (osc : Scope) (NX own : List Str) (fr : List Nat) (N : List Str) (hc : X.calm = true)
    (hi : PI X tg iter wi) (hg : ∀ cl C s₀ H₀ ex, PG (cxC X scope N cl C s₀ H₀ ex) tg g) (ht : ∀ cl C s₀ H₀ ex, PTs (cxC X scope N cl C s₀ H₀ ex) ifs tc) (he : ∀ cl C s₀ H₀ ex, PE (cxC X scope N cl C s₀ H₀ ex) elt te)
    (hs : ∀ x, foldedSetIterable iter X.env x = pure x := by intro _; rfl) (hosc : X.env.scope = osc := by rfl) (hNX : X.N = NX := by rfl) (hS : compOk osc scope NX own fr N = true := by decide +kernel) :
    PS X (.Assign [.Name x px] (.ListComp elt [⟨tg, iter, ifs, 0⟩] scope pos) spos) (tAsg (tComp own.length fr wi g tc te) (gName i)) := by
  intro pins s σ H D I h
  have S : CompSc X.env.scope scope X.N own fr N := by rw [hosc, hNX]; exact CompSc.of hS
  obtain ⟨cl, ecl, c1, c2⟩ := clos_ok (scope := scope) (env := X.env) fun y hy hf => I.ok.has y.1 (S.free y hy hf)
  rw [exec_Assign_Name_used _ _ _ _ hsw]
  refine wpAny_bind (wpAny_standAt (wpAny_bind ?_))
  show wpAny _ X.A (do let _ ← comprehension (.ListComp elt [⟨tg, iter, ifs, 0⟩] scope pos) scope X.env _ (newList []) false (eval iter X.env) (some (assign (.Name x px) X.env))) _ _ s
  refine wpAny_bind (thn (wpAny_comprehension_free (use := some (assign (.Name x px) X.env)) (Q := fun _ s' => SP X pins D .next s') rfl hs ecl S.kind S.loc (thn (hi pins s σ H _ I h) fun v s1 h1 => thn h1 fun itv s2 h2 => ?_)) fun _ s' hq => wpAny_pure (wpAny_pure hq))
  obtain ⟨it, fp, tn, J, H2, e, I2, T, t2, f2, q⟩ := h2
  subst e
  refine comp_block (POST := fun acc C => compPost (model X.prog X.w) X.A X.xe (some (assign (.Name x px) X.env)) (fun _ s' => SP X pins D .next s') acc C) hc S c1 c2 (hg cl) (ht cl) (he cl) I2 T t2 f2 q fun D' C s' H' m I' fC ns q' => ?_
  show wpAny _ X.A (assign (.Name x px) X.env (.ref D')) _ _ s'
  refine wpAny_assign_Name (store_ok2 I' hN hi' (.inl hx) (show RelV (.ref D') (.ref D') from rfl) (fun s3 I3 sb => ?_) (.inr hx))
  obtain ⟨a, sb, ha⟩ := sb
  obtain ⟨g0, g1, g2, g3, g4, g5⟩ := fC
  have aC : C ≠ a := by
    rcases ha with z | z
    · rw [z]; exact g1
    · exact fun w => g4 x a z w.symm
  refine ⟨m, ns.sameBut sb aC, fun h' sb' => ⟨_, H', ?_, q'⟩⟩
  exact I3.turned (t' := s3.toks) (fun b o hb e => (sb'.2 b hb).trans e) g0 g1 g3 g4 g5
end
end L2
namespace L2
open PySem PySem.Spec PyProof.Rows
noncomputable def sgV (x : Str) (i : Nat) : Option V := (x.cps[i]?).map fun c => V.str ⟨#[c]⟩
noncomputable def Its (x : Str) : It := ⟨fun i _ => i < x.cps.size, fun i H v H' => H' = H ∧ sgV x i = some v, fun i _ => x.cps.size ≤ i⟩
theorem turn_signs {P : Program} {w : World} {K : PySem.W.Frag} {tg : Expr} (T : String) (it : Addr) (x : Str) (t : Tok)
    (hn : ["enumerate", "zip", "dict_itemiterator", "dict_reverseitemiterator", "odict_iterator", "itertools.zip_longest", "itertools.pairwise"].contains T = false)
    (W : ∀ A : Around, A.handled = none → Walks P w A it [it] [it] x.cps.size (SignAt x) (fun i h => h.IsStrIter it T x t i))
    (hs : ∀ (A : Around) (i : Nat) (s : Shared) (Q : Value → Shared → Prop) (E : Value → Shared → Prop), s.heap.IsStrIter it T x t i → Q (.ref it) s → wpAny (model P w) A (pyIter (.ref it)) Q E s) :
    Turn P w K tg (Its x) [it] it (fun i h => h.IsStrIter it T x t i ∧ i ≤ x.cps.size) where
  mem := by simp
  obj := fun i h st b hb => by
    have e : b = it := by simpa using hb
    subst e
    obtain ⟨o, e, c, d⟩ := st.1
    exact ⟨o, e, fun v z => by rw [d] at z; cases z⟩
  keep := fun i h h' st k => ⟨by
    obtain ⟨o, e, c⟩ := st.1
    exact ⟨o, k it (by simp) o e, c⟩, st.2⟩
  item := by
    intro X hP hw hK hc i pins s σ H E I hf st hg
    subst hP hw hK
    obtain ⟨f0, f1, f2, f3, f4, f5⟩ := hf it (by simp)
    refine (W X.A (I.ok.hd hc)).item i s _ _ hg st.1 fun v h' tk hv st' kk => ?_
    obtain ⟨c, u, hcp, rfl⟩ := hv
    have I1 : Inv X pins σ H { s with heap := h', toks := tk } := I.turned (fun b o hb e => kk b o (by simpa using hb) e) f0 f1 f3 f4 f5
    obtain ⟨o, e, cc, d⟩ := id st'
    refine ⟨_, rfl, go_of (s := { s with heap := h', toks := tk }) e cc d hn ⟨.str ⟨#[c]⟩, H, I1, ⟨u, rfl⟩, ⟨rfl, ?_⟩, ⟨st', ?_⟩, fun b hb => (hf b hb).1⟩⟩
    · unfold sgV; rw [hcp]; rfl
    · exact hg
  done := by
    intro X hP hw hK hc i pins s σ H E I hf st hg
    subst hP hw hK
    obtain ⟨f0, f1, f2, f3, f4, f5⟩ := hf it (by simp)
    have e : i = x.cps.size := Nat.le_antisymm st.2 hg
    subst e
    exact (W X.A (I.ok.hd hc)).done s _ _ st.1 fun h' tk kk => ⟨rfl, I.turned (fun b o hb e => kk b o (by simpa using hb) e) f0 f1 f3 f4 f5⟩
  self := fun A i s Q E st h => hs A i s Q E st.1 h
noncomputable def iStr (tl : TE) : TI := fun σ H R => tl σ H fun x H1 => ∃ z, x = .str z ∧ R (Its z) H1
theorem pi_str {X : Cx} {tg l : Expr} {tl : TE} (hl : PE X l tl) : PI X tg l (iStr tl) := by
  intro pins s σ H R I h
  refine thn (hl pins s σ H _ I h) fun v s1 ⟨x, H1, I1, r1, q1⟩ => ?_
  obtain ⟨z, e, q⟩ := q1
  subst e
  obtain ⟨t, rfl⟩ := r1
  have fin : ∀ (T : String), ["enumerate", "zip", "dict_itemiterator", "dict_reverseitemiterator", "odict_iterator", "itertools.zip_longest", "itertools.pairwise"].contains T = false →
      (∀ A : Around, A.handled = none → Walks X.prog X.w A s1.heap.objs.size [s1.heap.objs.size] [s1.heap.objs.size] z.cps.size (SignAt z) (fun i h => h.IsStrIter s1.heap.objs.size T z t i)) →
      (∀ (A : Around) (i : Nat) (s : Shared) (Q : Value → Shared → Prop) (E : Value → Shared → Prop), s.heap.IsStrIter s1.heap.objs.size T z t i → Q (.ref s1.heap.objs.size) s → wpAny (model X.prog X.w) A (pyIter (.ref s1.heap.objs.size)) Q E s) →
      PIE X pins σ tg R (.ref s1.heap.objs.size) { s1 with heap := s1.heap.push { cls := .type T, data := .fields #[.str z t, .int 0 0] } } := fun T hn W hs => by
    refine ⟨_, [s1.heap.objs.size], _, _, H1, rfl, I1.kept (t' := s1.toks) fun b o e => Heap.get?_push_of_some _ e, turn_signs T _ z t hn W hs, ⟨⟨_, Heap.get?_push_size _ rfl, rfl, rfl⟩, Nat.zero_le _⟩, fun b hb => ?_, q⟩
    have e : b = s1.heap.objs.size := by simpa using hb
    subst e
    exact I1.fpOk (Nat.le_refl _) (I1.hok.fresh (Nat.le_refl _))
  cases ha : z.cps.all (· < 128)
  · exact wpAny_pyIter_wide ha (fin "str_iterator" (by decide) (fun A hA => Walks.strWide hA _ z t) fun A i s Q E st h => wpAny_pyIter_striter_wide st h)
  · exact wpAny_pyIter_ascii ha (fin "str_ascii_iterator" (by decide) (fun A hA => Walks.strAscii hA _ z t) fun A i s Q E st h => wpAny_pyIter_striter_ascii st h)
noncomputable def Ite (K : PySem.W.Frag) (a : Addr) : It :=
  ⟨fun i H => ∃ xs x, SqL K H a xs ∧ xs[i]? = some x, fun i H v H' => ∃ p x, H p = none ∧ v = .ref p ∧ (∀ xs, SqL K H a xs → xs[i]? = some x) ∧ H' = upd H p (.tup [.int i, x]), fun i H => ∃ xs, SqL K H a xs ∧ xs.length ≤ i⟩
theorem turn_enum {P : Program} {w : World} {K : PySem.W.Frag} {elts : List Expr} {k : Nat} {tp : Pos} (a e it : Addr) (hne : e ≠ it) :
    Turn P w K (.Tuple elts k tp) (Ite K a) [e, it] e (fun i h => (∃ old, IsEnum h e it i old) ∧ h.IsListIter it a i) where
  mem := by simp
  obj := fun i h st b hb => by
    obtain ⟨⟨old, he⟩, hit⟩ := st
    have hb : b = e ∨ b = it := by simpa using hb
    rcases hb with z | z
    · subst z
      exact ⟨_, he, fun v z => by cases z⟩
    · subst z
      obtain ⟨o, e1, c, d⟩ := hit
      exact ⟨o, e1, fun v z => by rw [d] at z; cases z⟩
  keep := fun i h h' st kk => by
    obtain ⟨⟨old, he⟩, hit⟩ := st
    exact ⟨⟨old, kk e (by simp) _ he⟩, hit.at fun o q => kk it (by simp) o q⟩
  item := by
    intro X hP hw hK hc i pins s σ H E I hf st hg
    subst hP hw hK
    obtain ⟨⟨old, he⟩, hit⟩ := st
    obtain ⟨xs, x, hq, hx⟩ := hg
    obtain ⟨its, rv, p, hz⟩ := I.list hq
    obtain ⟨u, hu, ru⟩ := rv.get hx
    obtain ⟨f0, f1, f2, f3, f4, f5⟩ := hf e (by simp)
    obtain ⟨g0, g1, g2, g3, g4, g5⟩ := hf it (by simp)
    refine wpAny_pyNext_enum_item he hit p.isList (x := u) (by simpa using hu) hne fun h1 ho hit1 ht1 hz1 k1 => ?_
    have hel : e < s.heap.objs.size := Heap.lt_size he
    have hil : it < s.heap.objs.size := by obtain ⟨o, q, _⟩ := hit; exact Heap.lt_size q
    refine ⟨_, rfl, wpAny_letOwnedTupleGo_enum ho fun h2 he2 sb2 => ?_⟩
    have sb2 : Heap.SameBut e h1 h2 := sb2
    have T2 : h2.get? s.heap.objs.size = some { cls := .type "tuple", data := .seq #[.int i s.toks, u] } := (sb2.2 _ (Nat.ne_of_gt hel)).trans ht1
    have hp : H s.heap.objs.size = none := I.hok.fresh (Nat.le_refl _)
    have nit : ∀ b v, H b = some v → b ≠ e ∧ b ≠ it := fun b v q => ⟨fun z => (by rw [z, f0] at q; cases q), fun z => (by rw [z, g0] at q; cases q)⟩
    have kk : ∀ b o, b ≠ e → b ≠ it → s.heap.get? b = some o → h2.get? b = some o := fun b o n1 n2 q => (sb2.2 b n1).trans (k1 b o n1 n2 q)
    have up : ∀ b v, H b = some v → upd H s.heap.objs.size (.tup [.int i, x]) b = some v := fun b v q => by rw [upd_ne (ne_of_none q hp)]; exact q
    have I1 : Inv X pins σ (upd H s.heap.objs.size (.tup [.int i, x])) { s with heap := h2, gens := s.gens, drawn := s.drawn, toks := s.toks + 1 } := by
      refine I.step (g' := s.gens) (d' := s.drawn) (ch := [e, it]) (fun b hb => ?_) (fun b o _ _ hb q _ => kk b o (fun z => hb (by simp [z])) (fun z => hb (by simp [z])) q) (fun b o _ _ hb q _ => ⟨o.slots, kk b o (fun z => hb (by simp [z])) (fun z => hb (by simp [z])) q⟩) (fun b o _ q n => ?_)
        (fun b o hb q => ⟨o, kk b o (fun z => hb (by simp [z])) (fun z => hb (by simp [z])) q⟩) (fun b ys q => up b _ q) (fun b o v q => up b _ q) (fun b ps q => ⟨#[], by rw [up b _ q]; simp⟩) (fun m hm => ?_) (fun b v q => ?_) I.bare
      · have hb : b = e ∨ b = it := by simpa using hb
        rcases hb with z | z
        · subst z; exact ⟨f3, f1, f4, f5⟩
        · subst z; exact ⟨g3, g1, g4, g5⟩
      · rw [upd_ne (Nat.ne_of_lt (Heap.lt_size q))]; exact n
      · obtain ⟨o, es, ep, ho, r⟩ := hm
        exact ⟨o, es, ep, kk _ o (Ne.symm f1) (Ne.symm g1) ho, r⟩
      · by_cases hb : b = s.heap.objs.size
        · subst hb
          rw [upd_same] at q
          have q' : HO.tup [V.int i, x] = v := Option.some.inj q
          subst q'
          exact ⟨by show 2 ≤ sizeLine; decide, [.int i s.toks, u], .cons ⟨_, rfl⟩ (.cons ru .nil), ⟨_, T2, rfl, _, rfl, rfl⟩⟩
        · rw [upd_ne hb] at q
          refine (I.hok b v q).stay (fun c v' hc q' => ?_) (fun c q => up c _ q) fun c ys q => up c _ q
          rcases hc with z | z
          · rw [z] at q' ⊢; exact kk b v' (nit b v q).1 (nit b v q).2 q'
          · exact kk c v' (nit c _ z).1 (nit c _ z).2 q'
    refine ⟨.ref s.heap.objs.size, upd H s.heap.objs.size (.tup [.int i, x]), I1, rfl, ⟨_, x, hp, rfl, fun ys hy => by rw [I.list_inj hy hq]; exact hx, rfl⟩, ⟨⟨u, ?_⟩, ?_⟩, fun b hb => ?_⟩
    · exact (by simpa using he2)
    · exact hit1.at fun o q => (sb2.2 it (Ne.symm hne)).trans q
    · have hb : b = e ∨ b = it := by simpa using hb
      rcases hb with z | z
      · rw [z, upd_ne (Nat.ne_of_lt hel)]; exact f0
      · rw [z, upd_ne (Nat.ne_of_lt hil)]; exact g0
  done := by
    intro X hP hw hK hc i pins s σ H E I hf st hg
    subst hP hw hK
    obtain ⟨⟨old, he⟩, hit⟩ := st
    obtain ⟨xs, hq, hx⟩ := hg
    obtain ⟨its, rv, p, hz⟩ := I.list hq
    obtain ⟨g0, g1, g2, g3, g4, g5⟩ := hf it (by simp)
    have hl := rv.length
    exact wpAny_pyNext_enum_end (I.ok.hd hc) he hit p.isList (by simp; omega) fun h' eb => ⟨rfl, I.turned (t' := s.toks) (fun b o hb q => eb b o hb q) g0 g1 g3 g4 g5⟩
  self := fun _ _ _ _ _ st h => by
    obtain ⟨⟨old, he⟩, _⟩ := st
    exact wpAny_pyIter_enum he h
noncomputable def iEnum (K : PySem.W.Frag) (ta : TA) : TI := fun σ H R => ta σ H fun vs H1 => ∃ a, vs = [.ref a] ∧ (∃ xs, SqL K H1 a xs) ∧ R (Ite K a) H1
theorem pi_enum {X : Cx} {elts : List Expr} {k : Nat} {tp : Pos} {a : Expr} {ta : TA} {p pos : Pos} (hg : Gl X "enumerate") (hm : X.mg "enumerate" = none) (ha : PA X [a] ta) (hs : starEach [a] X.env = [(false, eval a X.env)] := by rfl) :
    PI X (.Tuple elts k tp) (.Call (.Name "enumerate" p) [a] [] pos) (iEnum X.K ta) := by
  intro pins s σ H R I h
  refine Call_ (ld_blt I hg hm boot_enumerate (PyProof.Rows.callWith_type1 (thn (ha pos pins s σ H _ I h) fun us s1 ⟨vs, H1, I1, r1, q1⟩ => ?_) hs rfl))
  obtain ⟨a, e, ⟨xs, hq⟩, q⟩ := q1
  subst e
  obtain ⟨u, rfl, ru⟩ := vals1 r1
  cases ru
  obtain ⟨its, rv, pl, hz⟩ := I1.list hq
  refine call_enumerate_list pl.isList fun h' he hit hz' k' => ?_
  refine wpAny_pyIter_enum (s := { s1 with heap := h' }) he ?_
  refine ⟨_, [s1.heap.objs.size + 1, s1.heap.objs.size], _, _, H1, rfl, I1.kept (t' := s1.toks) k', turn_enum a _ _ (Nat.succ_ne_self _), ⟨⟨_, he⟩, hit⟩, fun b hb => ?_, q⟩
  have hb : b = s1.heap.objs.size + 1 ∨ b = s1.heap.objs.size := by simpa using hb
  rcases hb with z | z
  · subst z; exact I1.fpOk (Nat.le_succ _) (I1.hok.fresh (Nat.le_succ _))
  · subst z; exact I1.fpOk (Nat.le_refl _) (I1.hok.fresh (Nat.le_refl _))
end L2
namespace L2
open PySem PySem.Spec PyProof.Rows
mutual
inductive Rep (H : Hp) : V → PyData → Prop
  | non : Rep H .non .none
  | bl (b : Bool) : Rep H (.bl b) (.bool b)
  | int (i : Int) : Rep H (.int i) (.int i)
  | str (x : Str) : Rep H (.str x) (.str x)
  | lst {a : Addr} {xs : List V} {ds : List PyData} : H a = some (.lst xs) → RepAll H xs ds → Rep H (.ref a) (.list ds)
  | tup {a : Addr} {xs : List V} {ds : List PyData} : H a = some (.tup xs) → RepAll H xs ds → Rep H (.ref a) (.tuple ds)
inductive RepAll (H : Hp) : List V → List PyData → Prop
  | nil : RepAll H [] []
  | cons {x : V} {xs : List V} {d : PyData} {ds : List PyData} : Rep H x d → RepAll H xs ds → RepAll H (x :: xs) (d :: ds)
end
mutual
theorem Rep.reads {P : Program} {w : World} {H : Hp} {h : Heap} (ok : HOk P w H h) : ∀ {v : V} {d : PyData} {u : Value}, Rep H v d → RelV v u → ∃ as, Reads h u d as
  | _, _, _, .non, r => by cases r; exact ⟨_, .none⟩
  | _, _, _, .bl b, r => by cases r; exact ⟨_, .bool b⟩
  | _, _, _, .int i, r => by obtain ⟨t, rfl⟩ := r; exact ⟨_, .int i t⟩
  | _, _, _, .str x, r => by obtain ⟨t, rfl⟩ := r; exact ⟨_, .str x t⟩
  | _, _, _, .lst (a := a) (xs := xs) e rs, r => by
    cases r
    obtain ⟨_, its, n, rv, eh⟩ := (show ObjOk P w H h a (.lst xs) from ok a _ e)
    obtain ⟨as, z⟩ := RepAll.reads ok rs rv
    exact ⟨_, .list eh rfl rfl (by simpa using z)⟩
  | _, _, _, .tup (a := a) (xs := xs) e rs, r => by
    cases r
    obtain ⟨_, its, rv, o, eh, hc, n, hd, _⟩ := (show ObjOk P w H h a (.tup xs) from ok a _ e)
    obtain ⟨as, z⟩ := RepAll.reads ok rs rv
    exact ⟨_, .tuple eh hc hd (by simpa using z)⟩
theorem RepAll.reads {P : Program} {w : World} {H : Hp} {h : Heap} (ok : HOk P w H h) : ∀ {vs : List V} {ds : List PyData} {us : List Value}, RepAll H vs ds → Vals vs us → ∃ as, ReadsAll h us ds as
  | _, _, _, .nil, r => by cases r; exact ⟨_, .nil⟩
  | _, _, _, .cons q qs, r => by
    cases r with
    | cons r1 r2 =>
      obtain ⟨as, z⟩ := Rep.reads ok q r1
      obtain ⟨bs, zs⟩ := RepAll.reads ok qs r2
      exact ⟨_, .cons z zs⟩
end
mutual
theorem Rep.same {H H' : Hp} (s : Same H H') : ∀ {v : V} {d : PyData}, Rep H v d → Rep H' v d
  | _, _, .non => .non
  | _, _, .bl b => .bl b
  | _, _, .int i => .int i
  | _, _, .str x => .str x
  | _, _, .lst e rs => .lst (s _ _ e) (rs.same s)
  | _, _, .tup e rs => .tup (s _ _ e) (rs.same s)
theorem RepAll.same {H H' : Hp} (s : Same H H') : ∀ {vs : List V} {ds : List PyData}, RepAll H vs ds → RepAll H' vs ds
  | _, _, .nil => .nil
  | _, _, .cons q qs => .cons (q.same s) (qs.same s)
end
section
variable {X : Cx}
noncomputable def shp (d : PyData) : Prop := SeqAt.shaped d = true
noncomputable def rEqD : R2 := fun x y H Q => ∃ da db, Rep H x da ∧ Rep H y db ∧ shp da ∧ shp db ∧ Q (.bl (PyData.eqv da db)) H
noncomputable def rNeD : R2 := fun x y H Q => ∃ da db, Rep H x da ∧ Rep H y db ∧ shp da ∧ shp db ∧ Q (.bl (!PyData.eqv da db)) H
theorem op_eqD (hu : X.A.units + 64 < cLine) : OpR X (compareOp .Eq) rEqD := by
  intro pins s σ H x y v u Q I rx ry h
  obtain ⟨da, db, ra, rb, sa, sb, q⟩ := h
  obtain ⟨as, za⟩ := ra.reads I.hok rx
  obtain ⟨bs, zb⟩ := rb.reads I.hok ry
  exact eq_dataH za zb sa sb hu ⟨.bl _, H, I, rfl, q⟩
theorem op_neD (hu : X.A.units + 64 < cLine) : OpR X (compareOp .NotEq) rNeD := by
  intro pins s σ H x y v u Q I rx ry h
  obtain ⟨da, db, ra, rb, sa, sb, q⟩ := h
  obtain ⟨as, za⟩ := ra.reads I.hok rx
  obtain ⟨bs, zb⟩ := rb.reads I.hok ry
  exact ne_dataH za zb sa sb hu ⟨.bl _, H, I, rfl, q⟩
theorem op_le_str : OpR X (compareOp .LtE) (fun x y H Q => ∃ i j, x = .str i ∧ y = .str j ∧ Q (.bl (!decide (j.cps.toList < i.cps.toList))) H) := by
  intro pins s σ H x y v u Q I rx ry h
  obtain ⟨i, j, rfl, rfl, q⟩ := h
  obtain ⟨t, rfl⟩ := rx
  obtain ⟨t', rfl⟩ := ry
  exact PySem.P.le_str (fin_bl I q (by simp))
theorem all_range (bs : List Bool) : ((List.range bs.length).all fun i => bs.getD i false) = bs.all id := by
  rw [Bool.eq_iff_iff, List.all_eq_true, List.all_eq_true]
  constructor
  · intro h b hb
    obtain ⟨i, hi, rfl⟩ := List.mem_iff_getElem.mp hb
    have := h i (by simpa using hi)
    simpa [List.getD_eq_getElem?_getD, hi] using this
  · intro h i hi
    have hi : i < bs.length := by simpa using hi
    have := h bs[i] (List.getElem_mem hi)
    simpa [List.getD_eq_getElem?_getD, hi] using this
theorem vals_bl {bs : List Bool} {its : List Value} (r : Vals (bs.map V.bl) its) {i : Nat} {v : Value} (e : its[i]? = some v) : v = .bool (bs.getD i false) := by
  have hl := r.length
  rw [List.length_map] at hl
  have hi : i < bs.length := by rw [hl]; exact (List.getElem?_eq_some_iff.mp e).1
  obtain ⟨u, hu, ru⟩ := r.get (i := i) (x := V.bl (bs.getD i false)) (by rw [List.getElem?_map]; simp [List.getD_eq_getElem?_getD, hi])
  rw [e] at hu
  cases hu
  exact ru
theorem call_all_bl (hc : X.calm = true) : CallR X (.builtin "all") (fun xs H Q => ∃ p bs, xs = [.ref p] ∧ H p = some (.lst (List.map V.bl bs)) ∧ Q (.bl (bs.all id)) H) := by
  intro pins s σ H xs us Q I r h
  obtain ⟨p, bs, rfl, e, q⟩ := h
  obtain ⟨u, rfl, ru⟩ := vals1 r
  cases ru
  obtain ⟨hz, its, n, rv, eh⟩ := (show ObjOk X.prog X.w H s.heap p (.lst (List.map V.bl bs)) from I.hok p _ e)
  have hl : s.heap.IsList p its.toArray := ⟨_, eh, rfl, n, rfl⟩
  have hlen : its.length = bs.length := by have := rv.length; rw [List.length_map] at this; exact this.symm
  have hpl : p < s.heap.objs.size := Heap.lt_size eh
  refine call_all_walk (wpAny_pyIter_list hl ?_)
  refine ⟨s.heap.objs.size, [s.heap.objs.size, p], [s.heap.objs.size], its.toArray.size, _, _, fun i => bs.getD i false, rfl,
    Walks.list (A := X.A.in1) (I.ok.hd hc) _ p (Nat.ne_of_lt hpl) its.toArray, ⟨⟨_, Heap.get?_push_size _ rfl, rfl, rfl⟩, ⟨_, Heap.get?_push_of_some _ eh, rfl, n, rfl⟩⟩, ?_, fun h' tk hk => ?_⟩
  · intro i v s' Q' E' hv hQ'
    have hv : its[i]? = some v := by simpa using hv
    rw [vals_bl rv hv]
    exact wpAny_pure hQ'
  · refine ⟨.bl _, H, I.kept fun b o eb => hk b o (by simpa using Nat.ne_of_lt (Heap.lt_size eb)) (Heap.get?_push_of_some _ eb), rfl, ?_⟩
    rw [List.size_toArray, hlen, all_range]
    exact q
theorem strs_of : ∀ {ys : List Str} {us : List Value}, Vals (ys.map V.str) us → StrsAre us ys
  | [], us, r => by cases r; exact .nil
  | y :: ys, us, r => by
    cases r with
    | cons r1 r2 =>
      obtain ⟨t, rfl⟩ := r1
      exact .cons y t (strs_of r2)
noncomputable def rJoin : V → List V → Hp → VK → Prop := fun x xs H Q => ∃ z p ys, x = .str z ∧ xs = [.ref p] ∧ H p = some (.lst (List.map V.str ys)) ∧ (ys.map (·.length)).sum + ys.length * z.length ≤ 16777216 ∧ Q (.str (Txt.join z ys)) H
theorem mt_join : MtR X "str.join" rJoin := by
  intro pins s σ H x xs v us Q I rx rv h
  obtain ⟨z, p, ys, rfl, rfl, e, hz, q⟩ := h
  obtain ⟨t, rfl⟩ := rx
  obtain ⟨u, rfl, ru⟩ := vals1 rv
  cases ru
  obtain ⟨_, its, n, rv, eh⟩ := (show ObjOk X.prog X.w H s.heap p (.lst (List.map V.str ys)) from I.hok p _ e)
  exact join_list (D := p) (items := its.toArray) ⟨_, eh, rfl, n, rfl⟩ (by simpa using strs_of rv) hz fun t' k => ⟨.str _, H, I.tok k, ⟨t', rfl⟩, q⟩
noncomputable def rSlS : V → Option Int → Option Int → Hp → VK → Prop := fun x lo hi H Q => ∃ z, x = .str z ∧ z.length ≤ sizeLine ∧ Q (.str (Txt.slice z lo hi)) H
theorem sl_str : SlR X rSlS := by
  intro pins s σ H x v vl vu lo hi sl Q I rx hs pl pu h
  obtain ⟨z, rfl, hz, q⟩ := h
  obtain ⟨t, rfl⟩ := rx
  refine ⟨"str", _, PySem.F.slot_str_getitem.lookup, typeIs_str _ _ _, ?_⟩
  obtain ⟨o, h1, h2, h3⟩ := hs
  have fin : ∀ t' k, EP X pins σ Q (.str (Txt.slice z lo hi) t') { s with toks := k } := fun t' k => ⟨.str _, H, I.tok k, ⟨t', rfl⟩, q⟩
  cases pl with
  | none => cases pu with
    | none => exact wpAny_getItem_str_slice (l := none) (u := none) (st := none) ⟨o, h1, h2, h3⟩ rfl (post_val_or_str ⟨Nat.le_trans (Txt.slice_le z _ _) hz, fin⟩)
    | int j tj => exact wpAny_getItem_str_slice (l := none) (u := some (j, tj)) (st := none) ⟨o, h1, h2, h3⟩ rfl (post_val_or_str ⟨Nat.le_trans (Txt.slice_le z _ _) hz, fin⟩)
  | int i ti => cases pu with
    | none => exact wpAny_getItem_str_slice (l := some (i, ti)) (u := none) (st := none) ⟨o, h1, h2, h3⟩ rfl (post_val_or_str ⟨Nat.le_trans (Txt.slice_le z _ _) hz, fin⟩)
    | int j tj => exact wpAny_getItem_str_slice (l := some (i, ti)) (u := some (j, tj)) (st := none) ⟨o, h1, h2, h3⟩ rfl (post_val_or_str ⟨Nat.le_trans (Txt.slice_le z _ _) hz, fin⟩)
noncomputable def rIsi (K : PySem.W.Frag) (c : String) : List V → Hp → VK → Prop := fun xs H Q => ∃ x t b, xs = [x, .ty c] ∧ TyOf K H x t ∧ PySem.W.kitOne K t (.type c) = some b ∧ Q (.bl b) H
theorem call_isi (c : String) : CallR X (.builtin "isinstance") (rIsi X.K c) := by
  intro pins s σ H xs us Q I r h
  obtain ⟨x, t, b, rfl, ty, e, q⟩ := h
  obtain ⟨u, w', rfl, ru, rw'⟩ := vals2 r
  cases rw'
  exact isinst_ok I ru ty e fun tk => ⟨.bl b, H, I.tok tk, rfl, q⟩
noncomputable def rRepr : List V → Hp → VK → Prop := fun xs H Q => ∃ x d, xs = [x] ∧ Rep H x d ∧ d.showable = true ∧ d.hasDict = false ∧ d.depth ≤ 16 ∧ d.shown.length ≤ sizeLine ∧ Q (.str d.shown) H
theorem call_repr_tree (hg : X.A.guards = some []) (hu : X.A.units + 64 < cLine) : CallR X (.builtin "repr") rRepr := by
  intro pins s σ H xs us Q I r h
  obtain ⟨x, d, rfl, rep, hs, hd, hdp, hz, q⟩ := h
  obtain ⟨u, rfl, ru⟩ := vals1 r
  have rd := rep.reads I.hok ru
  have byRef : ∀ a, u = .ref a → wpAny (model X.prog X.w) X.A (call (.builtin "repr") [.ref a]) (EP X pins σ Q) X.xe s := fun a e => by
    subst e
    obtain ⟨as, rd⟩ := rd
    exact repr_of_reads' rd hs (PyData.noDict_hsm hd) hg (by omega) (fun _ _ e => e) (fun h' u' tk hk => ⟨.str _, H, I.kept hk, ⟨u', rfl⟩, q⟩) hz
  cases rep with
  | non => cases ru; exact PySem.P.repr_of_none ⟨.str _, H, I.tok _, ⟨_, rfl⟩, q⟩
  | bl b => cases ru; exact PySem.P.repr_of_bool ⟨.str _, H, I.tok _, ⟨_, rfl⟩, q⟩
  | int i =>
    obtain ⟨t, rfl⟩ := ru
    exact PySem.P.repr_of_int (by simpa [PyData.showable] using hs) ⟨.str _, H, I.tok _, ⟨_, rfl⟩, q⟩
  | str y =>
    obtain ⟨t, rfl⟩ := ru
    exact PySem.P.repr_of_str ⟨.str _, H, I.tok _, ⟨_, rfl⟩, q⟩ hz
  | lst e rs => cases ru; exact byRef _ rfl
  | tup e rs => cases ru; exact byRef _ rfl
noncomputable def isFl : V → Bool
  | .non | .bl _ | .int _ | .str _ => true
  | _ => false
noncomputable def flD : V → PyData
  | .bl b => .bool b
  | .int i => .int i
  | .str x => .str x
  | _ => .none
theorem fl_reads {h : Heap} {v : V} {u : Value} (f : isFl v = true) (r : RelV v u) : Reads h u (flD v) [] := by
  cases v with
  | non => cases r; exact .none
  | bl b => cases r; exact .bool b
  | int i => obtain ⟨t, rfl⟩ := r; exact .int i t
  | str x => obtain ⟨t, rfl⟩ := r; exact .str x t
  | _ => cases f
theorem fl_pairs {P : Program} {w : World} {h : Heap} : ∀ {kvs : List (Key × V)} {vs : List (Key × Value)} {es : List DictEntry}, KV kvs vs → Pairs (mixKind P w) es vs → kvs.all (fun p => isFl p.2) = true →
    ReadsAll h (es.map (·.key)) ((kvs.map fun p => (flD (kV p.1), flD p.2)).map (·.1)) [] ∧ ReadsAll h (es.map (·.val)) ((kvs.map fun p => (flD (kV p.1), flD p.2)).map (·.2)) []
  | [], _, _, r, q, _ => by
    cases r
    cases q
    exact ⟨.nil, .nil⟩
  | p :: kvs, vs, es, r, q, f => by
    cases r with
    | @cons _ b _ vs' r1 r2 =>
      cases q with
      | cons qk qv q2 =>
        rw [List.all_cons, Bool.and_eq_true] at f
        obtain ⟨a1, a2⟩ := fl_pairs r2 q2 f.2
        rename_i en es'
        have k1 : Reads h en.key (flD (kV p.1)) [] := by
          have hk := qk
          rw [← r1.1] at hk
          rcases keyIs_shape hk with ⟨i, t, e1, e2⟩ | ⟨x, t, e1, e2⟩
          · rw [e1, e2]; exact .int i t
          · rw [e1, e2]; exact .str x t
        have v1 : Reads h en.val (flD p.2) [] := by
          rw [qv]
          exact fl_reads f.1 r1.2
        exact ⟨.cons k1 a1, .cons v1 a2⟩
noncomputable def dictD (kvs : List (Key × V)) : PyData := .dict (kvs.map fun p => (flD (kV p.1), flD p.2))
inductive ReprR (H : Hp) : V → VK → Prop
  | tr {x : V} {d : PyData} {Q : VK} : Rep H x d → d.showable = true → d.hasDict = false → d.depth ≤ 16 → d.shown.length ≤ sizeLine → Q (.str d.shown) H → ReprR H x Q
  | dc {a : Addr} {kvs : List (Key × V)} {Q : VK} : H a = some (.dK kvs) → kvs.all (fun p => isFl p.2) = true → (dictD kvs).showable = true → (dictD kvs).depth ≤ 16 → (dictD kvs).shown.length ≤ sizeLine → Q (.str (dictD kvs).shown) H → ReprR H (.ref a) Q
noncomputable def rReprX : List V → Hp → VK → Prop := fun xs H Q => ∃ x, xs = [x] ∧ ReprR H x Q
theorem call_reprX (hg : X.A.guards = some []) (hu : X.A.units + 64 < cLine) : CallR X (.builtin "repr") rReprX := by
  intro pins s σ H xs us Q I r h
  obtain ⟨x, rfl, h⟩ := h
  cases h with
  | tr rep hs hd hdp hz q => exact call_repr_tree hg hu pins s σ H _ us Q I r ⟨_, _, rfl, rep, hs, hd, hdp, hz, q⟩
  | @dc a kvs _ e f hs hdp hz q =>
    obtain ⟨u, rfl, ru⟩ := vals1 r
    cases ru
    obtain ⟨_, hsys, vs, rv, o, es, ep, h1, h2, h3, _, h5, _⟩ := (show ObjOk X.prog X.w H s.heap a (.dK kvs) from I.hok a _ e)
    obtain ⟨k1, k2⟩ := fl_pairs (h := s.heap) rv h5 f
    have rd : Reads s.heap (.ref a) (dictD kvs) (a :: [] ++ []) := .dict h1 h2.1 h3 k1 k2
    refine repr_of_reads' rd hs (fun _ hm => ?_) hg (by omega) (fun _ _ e => e) (fun h' u' tk hk => ⟨.str _, H, I.kept hk, ⟨u', rfl⟩, q⟩) hz
    have : sysModules = a := by simpa using hm
    rw [this] at hsys
    simp at hsys
theorem any_readOf {P : Program} {w : World} {H : Hp} {h : Heap} (ok : HOk P w H h) {d : PyData} : ∀ {xs : List V} {ds : List PyData} {us : List Value}, RepAll H xs ds → Vals xs us → PyData.canLayAll0 ds = true → us.any (fun u => PyData.eqv (SeqAt.readOf h u) d) = ds.any fun e => PyData.eqv e d
  | _, _, _, .nil, r, _ => by cases r; rfl
  | _, _, _, .cons q qs, r, hl => by
    cases r with
    | cons r1 r2 =>
      have hl' := Bool.and_eq_true_iff.mp (show (PyData.canLay0 _ && PyData.canLayAll0 _) = true from hl)
      obtain ⟨as, z⟩ := q.reads ok r1
      rw [List.any_cons, List.any_cons, SeqAt.readOf_eq hl'.1 z, any_readOf ok qs r2 hl'.2]
theorem mem_readOf {P : Program} {w : World} {H : Hp} {A : Around} {s : Shared} (ok : HOk P w H s.heap) {d : PyData} {x : V} {v : Value} {bs : List Addr} (zx : Reads s.heap v d bs) (hd : d.canLay0 = true) (hu : A.units + d.depth < cLine) :
    ∀ {xs : List V} {ds : List PyData} {us : List Value}, RepAll H xs ds → Vals xs us → PyData.canLayAll0 ds = true → ∀ u ∈ us, SeqAt.EqAt A s u v (PyData.eqv (SeqAt.readOf s.heap u) d)
  | _, _, _, .nil, r, _ => by cases r; intro u hu; cases hu
  | _, _, _, .cons q qs, r, hl => by
    cases r with
    | cons r1 r2 =>
      have hl' := Bool.and_eq_true_iff.mp (show (PyData.canLay0 _ && PyData.canLayAll0 _) = true from hl)
      intro u hm
      rcases List.mem_cons.mp hm with rfl | hm
      · obtain ⟨as, z⟩ := q.reads ok r1
        rw [SeqAt.readOf_eq hl'.1 z]
        exact SeqAt.eqAt_reads _ _ _ _ _ _ _ _ z zx hl'.1 hd (Nat.lt_of_le_of_lt (Nat.add_le_add_left (Nat.min_le_right _ _) _) hu)
      · exact mem_readOf (x := x) ok zx hd hu qs r2 hl'.2 u hm
noncomputable def rInD (neg : Bool) : R2 := fun x y H Q => ∃ p xs ds d, y = .ref p ∧ H p = some (.lst xs) ∧ RepAll H xs ds ∧ Rep H x d ∧ PyData.canLayAll0 ds = true ∧ d.canLay0 = true ∧ d.depth ≤ 16 ∧
  Q (.bl (if neg then !(ds.any fun e => PyData.eqv e d) else ds.any fun e => PyData.eqv e d)) H
theorem op_inD (hu : X.A.units + 64 < cLine) : OpR X (compareOp .In) (rInD false) := by
  intro pins s σ H x y v u Q I rx ry h
  obtain ⟨p, xs, ds, d, rfl, e, rs, r, cs, c, dp, q⟩ := h
  cases ry
  obtain ⟨_, its, n, rv, eh⟩ := (show ObjOk X.prog X.w H s.heap p (.lst xs) from I.hok p _ e)
  obtain ⟨bs, zx⟩ := r.reads I.hok rx
  refine SeqAt.in_listAt (fun u => PyData.eqv (SeqAt.readOf s.heap u) d) ⟨_, eh, rfl, n, rfl⟩ (fun w hw => mem_readOf (x := x) I.hok zx c (by show X.A.units + 1 + d.depth < cLine; omega) rs rv cs w (by simpa using hw)) ⟨.bl _, H, I, rfl, ?_⟩
  rw [show its.toArray.any (fun u => PyData.eqv (SeqAt.readOf s.heap u) d) = its.any (fun u => PyData.eqv (SeqAt.readOf s.heap u) d) by simp, any_readOf I.hok rs rv cs]
  exact q
theorem op_notInD (hu : X.A.units + 64 < cLine) : OpR X (compareOp .NotIn) (rInD true) := by
  intro pins s σ H x y v u Q I rx ry h
  obtain ⟨p, xs, ds, d, rfl, e, rs, r, cs, c, dp, q⟩ := h
  cases ry
  obtain ⟨_, its, n, rv, eh⟩ := (show ObjOk X.prog X.w H s.heap p (.lst xs) from I.hok p _ e)
  obtain ⟨bs, zx⟩ := r.reads I.hok rx
  refine SeqAt.notIn_listAt (fun u => PyData.eqv (SeqAt.readOf s.heap u) d) ⟨_, eh, rfl, n, rfl⟩ (fun w hw => mem_readOf (x := x) I.hok zx c (by show X.A.units + 1 + d.depth < cLine; omega) rs rv cs w (by simpa using hw)) ⟨.bl _, H, I, rfl, ?_⟩
  rw [show its.toArray.any (fun u => PyData.eqv (SeqAt.readOf s.heap u) d) = its.any (fun u => PyData.eqv (SeqAt.readOf s.heap u) d) by simp, any_readOf I.hok rs rv cs]
  exact q
end
end L2
namespace L2
open PySem PySem.Spec PyProof.Rows
structure Cal (P : Program) (w : World) (K : PySem.W.Frag) (mg : Str → Option Value) (base : Heap) (k : Nat) (x : Str) (ps : List Str) (sp : Sp) : Prop where
  ex : ∃ (f : Addr) (fd : FuncData), FnOk P w K mg base CX0 k f fd ps sp ∧ mg x = some (.ref f) ∧ PySem.W.keepIn K (.ref f) = true ∧ Binds K fd ps []
section
variable {X : Cx} {x : Str} {ps : List Str} {sp : Sp} {k j : Nat} {p pos : Pos} {e : Expr} {es : List Expr} {t : TA}
theorem pe_cal (c : Cal X.prog X.w X.K X.mg X.base k x ps sp) (hr : Room k X.A) (hg : Gl X x) (ha : PA X (e :: es) t)
    (hs : starEach (e :: es) X.env = (false, eval e X.env) :: starEach es X.env := by rfl) (hpl : (backTo pos (starEach es X.env)).any (·.1) = false := by rfl) (hdb : (x == ("__debug__" : Str)) = false := by decide) :
    PE X (.Call (.Name x p) (e :: es) [] pos) (tCall sp [] E0 t) := by
  obtain ⟨f, fd, G, mf, kp, b⟩ := c.ex
  exact pe_call G hr hg mf kp b .nil pass0 ha (hdb := hdb) (he := hs) (hpl := hpl)
end
section
variable {X : Cx}
inductive AddR (H : Hp) : V → V → VK → Prop
  | int {i j : Int} {Q : VK} : Q (.int (i + j)) H → AddR H (.int i) (.int j) Q
  | str {i j : Str} {Q : VK} : i.length + j.length ≤ sizeLine → Q (.str (i ++ j)) H → AddR H (.str i) (.str j) Q
  | lst {l b : Addr} {xs zs : List V} {Q : VK} : H l = some (.lst xs) → H b = some (.lst zs) → xs.length + zs.length ≤ sizeLine → (∀ p, H p = none → Q (.ref p) (upd H p (.lst (xs ++ zs)))) → AddR H (.ref l) (.ref b) Q
theorem op_addX : OpR X (binaryOp .Add) (fun x y H Q => AddR H x y Q) := by
  intro pins s σ H x y v u Q I rx ry h
  cases h with
  | int q => exact op_add pins s σ H _ _ v u Q I rx ry ⟨_, _, rfl, rfl, q⟩
  | str hz q => exact op_add_str pins s σ H _ _ v u Q I rx ry ⟨_, _, rfl, rfl, hz, q⟩
  | lst h1 h2 hz q => exact op_cat pins s σ H _ _ v u Q I rx ry ⟨_, _, _, _, rfl, rfl, h1, h2, hz, q⟩
inductive EqR (neg : Bool) (H : Hp) : V → V → VK → Prop
  | sc {x y : V} {Q : VK} : scal x y = true → Q (.bl (if neg then !decide (x = y) else decide (x = y))) H → EqR neg H x y Q
  | tr {x y : V} {da db : PyData} {Q : VK} : Rep H x da → Rep H y db → shp da → shp db → Q (.bl (if neg then !PyData.eqv da db else PyData.eqv da db)) H → EqR neg H x y Q
theorem op_eqX (hu : X.A.units + 64 < cLine) : OpR X (compareOp .Eq) (fun x y H Q => EqR false H x y Q) := by
  intro pins s σ H x y v u Q I rx ry h
  cases h with
  | sc h q => exact op_eq pins s σ H _ _ v u Q I rx ry ⟨h, q⟩
  | tr ra rb sa sb q => exact op_eqD hu pins s σ H _ _ v u Q I rx ry ⟨_, _, ra, rb, sa, sb, q⟩
theorem op_neX (hu : X.A.units + 64 < cLine) : OpR X (compareOp .NotEq) (fun x y H Q => EqR true H x y Q) := by
  intro pins s σ H x y v u Q I rx ry h
  cases h with
  | sc h q => exact op_ne pins s σ H _ _ v u Q I rx ry ⟨h, q⟩
  | tr ra rb sa sb q => exact op_neD hu pins s σ H _ _ v u Q I rx ry ⟨_, _, ra, rb, sa, sb, q⟩
inductive SlX (K : PySem.W.Frag) (H : Hp) : V → Option Int → Option Int → VK → Prop
  | str {z : Str} {lo hi : Option Int} {Q : VK} : z.length ≤ sizeLine → Q (.str (Txt.slice z lo hi)) H → SlX K H (.str z) lo hi Q
  | lst {a : Addr} {xs : List V} {lo hi : Option Int} {Q : VK} : SqL K H a xs → (∀ p, H p = none → Q (.ref p) (upd H p (.lst (cutV xs lo hi)))) → SlX K H (.ref a) lo hi Q
theorem sl_X : SlR X (fun x lo hi H Q => SlX X.K H x lo hi Q) := by
  intro pins s σ H x v vl vu lo hi sl Q I rx hs pl pu h
  cases h with
  | str hz q => exact sl_str pins s σ H _ v vl vu lo hi sl Q I rx hs pl pu ⟨_, rfl, hz, q⟩
  | lst h1 q => exact sl_list pins s σ H _ v vl vu lo hi sl Q I rx hs pl pu ⟨_, _, rfl, h1, q⟩
end
section
variable {X : Cx}
inductive CmR (f : Int → Int → Bool) (g : Str → Str → Bool) (H : Hp) : V → V → VK → Prop
  | int {i j : Int} {Q : VK} : Q (.bl (f i j)) H → CmR f g H (.int i) (.int j) Q
  | str {i j : Str} {Q : VK} : Q (.bl (g i j)) H → CmR f g H (.str i) (.str j) Q
theorem op_leX : OpR X (compareOp .LtE) (fun x y H Q => CmR (fun i j => decide (i ≤ j)) (fun i j => !decide (j.cps.toList < i.cps.toList)) H x y Q) := by
  intro pins s σ H x y v u Q I rx ry h
  cases h with
  | int q => exact op_le pins s σ H _ _ v u Q I rx ry ⟨_, _, rfl, rfl, q⟩
  | str q => exact op_le_str pins s σ H _ _ v u Q I rx ry ⟨_, _, rfl, rfl, q⟩
theorem op_ltX : OpR X (compareOp .Lt) (fun x y H Q => CmR (fun i j => decide (i < j)) (fun i j => decide (i.cps.toList < j.cps.toList)) H x y Q) := by
  intro pins s σ H x y v u Q I rx ry h
  cases h with
  | int q => exact op_lt pins s σ H _ _ v u Q I rx ry ⟨_, _, rfl, rfl, q⟩
  | str q => exact op_lt_str pins s σ H _ _ v u Q I rx ry ⟨_, _, rfl, rfl, q⟩
inductive IsB (neg : Bool) (H : Hp) : V → V → VK → Prop
  | int {i : Int} {b : Bool} {Q : VK} : Q (.bl neg) H → IsB neg H (.int i) (.bl b) Q
  | bl {c b : Bool} {Q : VK} : Q (.bl (if neg then !decide (c = b) else decide (c = b))) H → IsB neg H (.bl c) (.bl b) Q
  | non {x : V} {Q : VK} : Q (.bl (if neg then !decide (x = .non) else decide (x = .non))) H → IsB neg H x .non Q
theorem op_isNotX : OpR X (compareOp .IsNot) (fun x y H Q => IsB true H x y Q) := by
  intro pins s σ H x y v u Q I rx ry h
  cases h with
  | int q =>
    obtain ⟨t, rfl⟩ := rx
    cases ry
    exact wpAny_isNot_other (by rfl) (by intro z; cases z) ⟨.bl _, H, I, rfl, q⟩
  | @bl c b _ q =>
    cases rx
    cases ry
    exact wpAny_isNot_plain (by rfl) (fin_bl I q (by cases c <;> cases b <;> rfl))
  | non q => exact op_notN pins s σ H _ _ v u Q I rx ry ⟨rfl, q⟩
theorem op_isX : OpR X (compareOp .Is) (fun x y H Q => IsB false H x y Q) := by
  intro pins s σ H x y v u Q I rx ry h
  cases h with
  | int q =>
    obtain ⟨t, rfl⟩ := rx
    cases ry
    exact wpAny_is_other (by rfl) (by intro z; cases z) ⟨.bl _, H, I, rfl, q⟩
  | @bl c b _ q =>
    cases rx
    cases ry
    exact wpAny_is_plain (by rfl) (fin_bl I q (by cases c <;> cases b <;> rfl))
  | non q => exact op_isN pins s σ H _ _ v u Q I rx ry ⟨rfl, q⟩
theorem m_join (K : PySem.W.Frag) {o e : Expr} {to : TE} {t : TA} {apos cpos : Pos} (ho : PE X o to) (ha : PA X [e] t)
    (hbase : attributeBase o "join" X.env (eval o X.env) = eval o X.env := by rfl)
    (hfew : ((backTo cpos (starEach [e] X.env)).all (fun x => !x.1) && (backToKw cpos (keywordEach [] X.env)).all (fun x => x.1.isSome)
      && decide ([e].length + ([] : List Keyword).length + (if ([] : List Keyword).isEmpty then 0 else 1) < 30)) = true := by rfl)
    (hline : (apos.endLine == cpos.line) = true := by rfl) (hs : starEach [e] X.env = (false, eval e X.env) :: starEach [] X.env := by rfl) (hplain : (backTo cpos (starEach [] X.env)).any (·.1) = false := by rfl) (hK : X.K = K := by rfl) :
    PE X (.Call (.Attribute o "join" apos) [e] [] cpos) (tBM K "str" rJoin to t) := hK ▸ pe_bm PySem.F.plainAttrs_str PySem.F.slot_str_join PySem.F.type_str_join mt_join ho ha hbase hfew hline hs hplain
theorem m_append (K : PySem.W.Frag) {o e : Expr} {to : TE} {t : TA} {apos cpos : Pos} (ho : PE X o to) (ha : PA X [e] t)
    (hbase : attributeBase o "append" X.env (eval o X.env) = eval o X.env := by rfl)
    (hfew : ((backTo cpos (starEach [e] X.env)).all (fun x => !x.1) && (backToKw cpos (keywordEach [] X.env)).all (fun x => x.1.isSome)
      && decide ([e].length + ([] : List Keyword).length + (if ([] : List Keyword).isEmpty then 0 else 1) < 30)) = true := by rfl)
    (hline : (apos.endLine == cpos.line) = true := by rfl) (hs : starEach [e] X.env = (false, eval e X.env) :: starEach [] X.env := by rfl) (hplain : (backTo cpos (starEach [] X.env)).any (·.1) = false := by rfl) (hK : X.K = K := by rfl) :
    PE X (.Call (.Attribute o "append" apos) [e] [] cpos) (tBM K "list" rAppend to t) := hK ▸ pe_bm PySem.F.plainAttrs_list PySem.F.slot_list_append PySem.F.type_list_append mt_append ho ha hbase hfew hline hs hplain
theorem sl_K (K : PySem.W.Frag) (hK : X.K = K := by rfl) : SlR X (fun x lo hi H Q => SlX K H x lo hi Q) := hK ▸ sl_X
theorem pi_listK (K : PySem.W.Frag) {tg l : Expr} {tl : TE} (hl : PE X l tl) (hK : X.K = K := by rfl) : PI X tg l (iList K tl) := hK ▸ pi_list hl
theorem pi_tupK (K : PySem.W.Frag) {tg l : Expr} {tl : TE} (hl : PE X l tl) (hK : X.K = K := by rfl) : PI X tg l (iTup K tl) := hK ▸ pi_tup hl
end
theorem gYes {i : Nat} {v : V} {σ : St} {H : Hp} {A B : St → Hp → Prop} (h : A (σ.set i (some v)) H) : gName i v σ H fun σ2 H3 => tYes σ2 H3 fun b H4 => if b = true then A σ2 H4 else B σ2 H4 := by
  show (if true = true then A (σ.set i (some v)) H else B (σ.set i (some v)) H)
  rw [if_pos rfl]
  exact h
section
variable {K : PySem.W.Frag} {k : Nat} {fr : List Nat} {g : TG} {tc : TT} {te : TE} {σ : St} {H1 : Hp} {Q : VK}
theorem comp_items {J : It} (xs : List V) (Ok : Hp → Prop) (hgo : ∀ i H, Ok H → i < xs.length → J.go i H) (hyl : ∀ i H x H', Ok H → i < xs.length → J.yld i H x H' → H' = H ∧ xs[i]? = some x) (hst : ∀ H, Ok H → J.stop xs.length H)
    (Pv : Addr → Nat → List V → St → Hp → Prop)
    (h : ∀ D, H1 D = none → Pv D 0 [] (inSt k fr σ) (upd H1 D (.lst [])) ∧ (∀ i acc σ' H', i ≤ xs.length → Pv D i acc σ' H' → H' D = some (.lst acc) → Ok H') ∧
      (∀ i acc σ' H' x, xs[i]? = some x → Pv D i acc σ' H' → H' D = some (.lst acc) → g x σ' H' fun σ2 H3 => tc σ2 H3 fun b H4 =>
        if b = true then te σ2 H4 fun y H5 => H5 D = some (.lst acc) ∧ acc.length < sizeLine ∧ Pv D (i + 1) (acc ++ [y]) σ2 (upd H5 D (.lst (acc ++ [y]))) else H4 D = some (.lst acc) ∧ Pv D (i + 1) acc σ2 H4) ∧
      ∀ acc σ' H', Pv D xs.length acc σ' H' → H' D = some (.lst acc) → Q (.ref D) H') : tCompW k fr g tc te J σ H1 Q := by
  intro D hD
  obtain ⟨h0, hok, hs, hd⟩ := h D hD
  refine ⟨fun i m acc σ' H' => m = xs.length - i ∧ i ≤ xs.length ∧ Pv D i acc σ' H', ⟨xs.length, by simp, Nat.zero_le _, h0⟩, ?_⟩
  rintro i m acc σ' H' ⟨rfl, hi, p⟩ hacc
  have ok := hok i acc σ' H' hi p hacc
  by_cases hlt : i < xs.length
  · refine .inr ⟨hgo i H' ok hlt, Pv D (i + 1), fun acc' σ2 H2 p' => ⟨xs.length - (i + 1), by omega, rfl, hlt, p'⟩, fun x H2 y => ?_⟩
    obtain ⟨e, hx⟩ := hyl i H' x H2 ok hlt y
    subst e
    exact hs i acc σ' H2 x hx p hacc
  · have e : i = xs.length := by omega
    subst e
    exact .inl ⟨hst H' ok, hd acc σ' H' p hacc⟩
noncomputable def rngV (n : Nat) : List V := (List.range n).map fun i => V.int (0 + (i : Nat))
theorem comp_range {n : Nat} (Pv : Addr → Nat → List V → St → Hp → Prop)
    (h : ∀ D, H1 D = none → Pv D 0 [] (inSt k fr σ) (upd H1 D (.lst [])) ∧
      (∀ i acc σ' H', i < n → Pv D i acc σ' H' → H' D = some (.lst acc) → g (.int (0 + (i : Nat))) σ' H' fun σ2 H3 => tc σ2 H3 fun b H4 =>
        if b = true then te σ2 H4 fun y H5 => H5 D = some (.lst acc) ∧ acc.length < sizeLine ∧ Pv D (i + 1) (acc ++ [y]) σ2 (upd H5 D (.lst (acc ++ [y]))) else H4 D = some (.lst acc) ∧ Pv D (i + 1) acc σ2 H4) ∧
      ∀ acc σ' H', Pv D n acc σ' H' → H' D = some (.lst acc) → Q (.ref D) H') : tCompW k fr g tc te (Itr 0 n) σ H1 Q := by
  have hl : (rngV n).length = n := by simp [rngV]
  refine comp_items (rngV n) (fun _ => True) (fun i H _ hi => by rw [hl] at hi; exact hi) (fun i H x H' _ hi y => ⟨y.1, ?_⟩) (fun H _ => by show n ≤ (rngV n).length; rw [hl]; exact Nat.le_refl _) Pv fun D hD => ?_
  · rw [hl] at hi
    rw [y.2]
    simp [rngV, hi]
  · obtain ⟨a, b, c⟩ := h D hD
    refine ⟨a, fun _ _ _ _ _ _ _ => trivial, fun i acc σ' H' x hx p hacc => ?_, by rw [hl]; exact c⟩
    have hi : i < n := by rw [← hl]; exact (List.getElem?_eq_some_iff.mp hx).1
    have e : x = V.int (0 + (i : Nat)) := by
      simp [rngV, hi] at hx
      rw [← hx]; simp
    subst e
    exact b i acc σ' H' hi p hacc
theorem comp_list {a : Addr} (xs : List V) (Pv : Addr → Nat → List V → St → Hp → Prop)
    (h : ∀ D, H1 D = none → Pv D 0 [] (inSt k fr σ) (upd H1 D (.lst [])) ∧ (∀ i acc σ' H', i ≤ xs.length → Pv D i acc σ' H' → H' D = some (.lst acc) → SqL K H' a xs) ∧
      (∀ i acc σ' H' x, xs[i]? = some x → Pv D i acc σ' H' → H' D = some (.lst acc) → g x σ' H' fun σ2 H3 => tc σ2 H3 fun b H4 =>
        if b = true then te σ2 H4 fun y H5 => H5 D = some (.lst acc) ∧ acc.length < sizeLine ∧ Pv D (i + 1) (acc ++ [y]) σ2 (upd H5 D (.lst (acc ++ [y]))) else H4 D = some (.lst acc) ∧ Pv D (i + 1) acc σ2 H4) ∧
      ∀ acc σ' H', Pv D xs.length acc σ' H' → H' D = some (.lst acc) → Q (.ref D) H') : tCompW k fr g tc te (Itl K a) σ H1 Q :=
  comp_items xs (fun H => SqL K H a xs) (fun i H q hi => ⟨xs, xs[i], q, by simp [hi]⟩) (fun i H x H' q hi y => ⟨y.1, y.2 xs q⟩) (fun H q => ⟨xs, q, Nat.le_refl _⟩) Pv h
theorem comp_tup {a : Addr} (xs : List V) (Pv : Addr → Nat → List V → St → Hp → Prop)
    (h : ∀ D, H1 D = none → Pv D 0 [] (inSt k fr σ) (upd H1 D (.lst [])) ∧ (∀ i acc σ' H', i ≤ xs.length → Pv D i acc σ' H' → H' D = some (.lst acc) → SqT K H' a xs) ∧
      (∀ i acc σ' H' x, xs[i]? = some x → Pv D i acc σ' H' → H' D = some (.lst acc) → g x σ' H' fun σ2 H3 => tc σ2 H3 fun b H4 =>
        if b = true then te σ2 H4 fun y H5 => H5 D = some (.lst acc) ∧ acc.length < sizeLine ∧ Pv D (i + 1) (acc ++ [y]) σ2 (upd H5 D (.lst (acc ++ [y]))) else H4 D = some (.lst acc) ∧ Pv D (i + 1) acc σ2 H4) ∧
      ∀ acc σ' H', Pv D xs.length acc σ' H' → H' D = some (.lst acc) → Q (.ref D) H') : tCompW k fr g tc te (Itt K a) σ H1 Q :=
  comp_items xs (fun H => SqT K H a xs) (fun i H q hi => ⟨xs, xs[i], q, by simp [hi]⟩) (fun i H x H' q hi y => ⟨y.1, y.2 xs q⟩) (fun H q => ⟨xs, q, Nat.le_refl _⟩) Pv h
noncomputable def signsV (z : Str) : List V := z.cps.toList.map fun c => V.str ⟨#[c]⟩
theorem comp_str {z : Str} (Pv : Addr → Nat → List V → St → Hp → Prop)
    (h : ∀ D, H1 D = none → Pv D 0 [] (inSt k fr σ) (upd H1 D (.lst [])) ∧
      (∀ i acc σ' H' c, z.cps.toList[i]? = some c → Pv D i acc σ' H' → H' D = some (.lst acc) → g (.str ⟨#[c]⟩) σ' H' fun σ2 H3 => tc σ2 H3 fun b H4 =>
        if b = true then te σ2 H4 fun y H5 => H5 D = some (.lst acc) ∧ acc.length < sizeLine ∧ Pv D (i + 1) (acc ++ [y]) σ2 (upd H5 D (.lst (acc ++ [y]))) else H4 D = some (.lst acc) ∧ Pv D (i + 1) acc σ2 H4) ∧
      ∀ acc σ' H', Pv D z.cps.toList.length acc σ' H' → H' D = some (.lst acc) → Q (.ref D) H') : tCompW k fr g tc te (Its z) σ H1 Q := by
  have hl : (signsV z).length = z.cps.toList.length := by simp [signsV]
  refine comp_items (signsV z) (fun _ => True) (fun i H _ hi => by rw [hl] at hi; show i < z.cps.size; simpa using hi) (fun i H x H' _ hi y => ⟨y.1, ?_⟩) (fun H _ => by show z.cps.size ≤ (signsV z).length; rw [hl]; simp) Pv fun D hD => ?_
  · have y2 := y.2
    unfold sgV at y2
    simp only [signsV, List.getElem?_map, Array.getElem?_toList]
    exact y2
  · obtain ⟨a, b, c⟩ := h D hD
    refine ⟨a, fun _ _ _ _ _ _ _ => trivial, fun i acc σ' H' x hx p hacc => ?_, by rw [hl]; exact c⟩
    simp only [signsV, List.getElem?_map] at hx
    cases e : z.cps.toList[i]? with
    | none => rw [e] at hx; cases hx
    | some cc =>
      rw [e] at hx
      cases hx
      exact b i acc σ' H' cc e p hacc
end
noncomputable def But (p : Addr) (H H' : Hp) : Prop := ∀ b o, b ≠ p → H b = some o → H' b = some o
theorem But.refl (p : Addr) (H : Hp) : But p H H := fun _ _ _ h => h
theorem But.trans {p : Addr} {H H1 H2 : Hp} (a : But p H H1) (b : But p H1 H2) : But p H H2 := fun c o n h => b c o n (a c o n h)
theorem But.upd {p : Addr} {H : Hp} {o : HO} : But p H (upd H p o) := fun b o' n h => by rw [upd_ne n]; exact h
theorem But.of_same {p : Addr} {H H' : Hp} (s : Same H H') : But p H H' := fun b o _ h => s b o h
theorem Same.new {H : Hp} {p : Addr} {o : HO} (h : H p = none) : Same H (upd H p o) := fun b o' e => by rw [upd_ne (ne_of_none e h)]; exact e
theorem Rd.but {p : Addr} {H H' : Hp} (b : But p H H') {a : Addr} {u : HO} (n : a ≠ p) (h : Rd H a u) : Rd H' a u := by
  rcases h with h | ⟨o, h⟩
  · exact .inl (b _ _ n h)
  · exact .inr ⟨o, b _ _ n h⟩
theorem SqL.but {K : PySem.W.Frag} {p : Addr} {H H' : Hp} (b : But p H H') {a : Addr} {xs : List V} (n : a ≠ p) (h : SqL K H a xs) : SqL K H' a xs := by
  rcases h with h | h
  · exact .inl (h.but b n)
  · exact .inr h
structure Blt (mg : Str → Option Value) : Prop where
  len : mg "len" = none
  range : mg "range" = none
  abs : mg "abs" = none
  all : mg "all" = none
  repr : mg "repr" = none
  isinstance : mg "isinstance" = none
  str : mg "str" = none
  int : mg "int" = none
  bool : mg "bool" = none
  enumerate : mg "enumerate" = none
  list : mg "list" = none
  tuple : mg "tuple" = none
  dict : mg "dict" = none
  min : mg "min" = none
  max : mg "max" = none
section
variable {X : Cx} {p pos : Pos} {e f : Expr} {t : TA}
noncomputable def rLen (K : PySem.W.Frag) : List V → Hp → VK → Prop := fun xs H Q => ∃ x n, xs = [x] ∧ LenV K x H n ∧ Q (.int n) H
noncomputable def rAbs : List V → Hp → VK → Prop := fun xs H Q => ∃ i, xs = [.int i] ∧ Q (.int (if i < 0 then -i else i)) H
noncomputable def rAll : List V → Hp → VK → Prop := fun xs H Q => ∃ p bs, xs = [.ref p] ∧ H p = some (.lst (List.map V.bl bs)) ∧ Q (.bl (bs.all id)) H
theorem b_len (K : PySem.W.Frag) (B : Blt X.mg) (ha : PA X [e] t) (hg : Gl X "len" := by rfl) (he : starEach [e] X.env = (false, eval e X.env) :: starEach [] X.env := by rfl) (hpl : (backTo pos (starEach [] X.env)).any (·.1) = false := by rfl) (hK : X.K = K := by rfl) : PE X (.Call (.Name "len" p) [e] [] pos) (tCB (rLen K) t) :=
  hK ▸ pe_callB call_len hg B.len PySem.boot_len ha (by decide) (by decide) he hpl
theorem b_abs (B : Blt X.mg) (ha : PA X [e] t) (hg : Gl X "abs" := by rfl) (he : starEach [e] X.env = (false, eval e X.env) :: starEach [] X.env := by rfl) (hpl : (backTo pos (starEach [] X.env)).any (·.1) = false := by rfl) : PE X (.Call (.Name "abs" p) [e] [] pos) (tCB rAbs t) :=
  pe_callB call_abs hg B.abs boot_abs ha (by decide) (by decide) he hpl
theorem b_all (hc : X.calm = true) (B : Blt X.mg) (ha : PA X [e] t) (hg : Gl X "all" := by rfl) (he : starEach [e] X.env = (false, eval e X.env) :: starEach [] X.env := by rfl) (hpl : (backTo pos (starEach [] X.env)).any (·.1) = false := by rfl) : PE X (.Call (.Name "all" p) [e] [] pos) (tCB rAll t) :=
  pe_callB (call_all_bl hc) hg B.all boot_all ha (by decide) (by decide) he hpl
theorem b_repr (gd : X.A.guards = some []) (hu : X.A.units + 64 < cLine) (B : Blt X.mg) (ha : PA X [e] t) (hg : Gl X "repr" := by rfl) (he : starEach [e] X.env = (false, eval e X.env) :: starEach [] X.env := by rfl) (hpl : (backTo pos (starEach [] X.env)).any (·.1) = false := by rfl) : PE X (.Call (.Name "repr" p) [e] [] pos) (tCB rReprX t) :=
  pe_callB (call_reprX gd hu) hg B.repr boot_repr ha (by decide) (by decide) he hpl
theorem b_isi (K : PySem.W.Frag) (c : String) (B : Blt X.mg) (ha : PA X [e, f] t) (hg : Gl X "isinstance" := by rfl) (he : starEach [e, f] X.env = (false, eval e X.env) :: starEach [f] X.env := by rfl) (hpl : (backTo pos (starEach [f] X.env)).any (·.1) = false := by rfl) (hK : X.K = K := by rfl) : PE X (.Call (.Name "isinstance" p) [e, f] [] pos) (tCB (rIsi K c) t) :=
  hK ▸ pe_callB (call_isi c) hg B.isinstance boot_isinstance ha (by decide) (by decide) he hpl
theorem g_str (B : Blt X.mg) (hg : Gl X "str" := by rfl) : PE X (.Name "str" p) (tC (.ty "str")) := pe_bltn hg B.str PyProof.Rows.boot_str rfl
theorem g_list (B : Blt X.mg) (hg : Gl X "list" := by rfl) : PE X (.Name "list" p) (tC (.ty "list")) := pe_bltn hg B.list (show bootBuiltins "list" = some (.type "list") by decide +kernel) rfl
end
end L2
namespace L2
open PySem PySem.Spec PyProof.Rows PySem.Builtin PySem.Builtin.Str
noncomputable def Asc (z : Str) : Prop := ∀ c ∈ z.cps.toList, c < 128
theorem Asc.app {x y : Str} (hx : Asc x) (hy : Asc y) : Asc (x ++ y) := fun c hc => by
  have hc : c ∈ (x.cps ++ y.cps).toList := hc
  rw [Array.toList_append] at hc
  rcases List.mem_append.mp hc with h | h
  · exact hx c h
  · exact hy c h
theorem Asc.nil : Asc Str.empty := fun c hc => by
  have hc : c ∈ (#[] : Array Nat).toList := hc
  simp at hc
theorem len_app (x y : Str) : (x ++ y).length = x.length + y.length := by
  show (x.cps ++ y.cps).size = x.cps.size + y.cps.size
  rw [Array.size_append]
theorem Asc.joinS {sep : Str} (hs : Asc sep) : ∀ {ys : List Str}, (∀ y ∈ ys, Asc y) → Asc (Str.join sep ys)
  | [], _ => Asc.nil
  | [y], h => h y (by simp)
  | y :: z :: r, h => by
    show Asc (y ++ sep ++ Str.join sep (z :: r))
    exact ((h y (by simp)).app hs).app (Asc.joinS hs fun x hx => h x (List.mem_cons_of_mem _ hx))
theorem Asc.join {sep : Str} {ys : List Str} (hs : Asc sep) (h : ∀ y ∈ ys, Asc y) : Asc (Txt.join sep ys) := by
  unfold Txt.join
  rw [StrLaws.glued_eq_join]
  exact Asc.joinS hs h
theorem len_join (sep : Str) (ys : List Str) : (Txt.join sep ys).length ≤ (ys.map (·.length)).sum + ys.length * sep.length := by
  unfold Txt.join
  rw [size_glued]
  exact Nat.add_le_add_left (Nat.mul_le_mul_right _ (Nat.sub_le _ _)) _
theorem sum_le {ys : List Str} {n : Nat} (h : ∀ y ∈ ys, y.length ≤ n) : (ys.map (·.length)).sum ≤ ys.length * n := by
  induction ys with
  | nil => simp
  | cons y r ih =>
    have h1 := h y (by simp)
    have h2 := ih fun z hz => h z (List.mem_cons_of_mem _ hz)
    simp only [List.map_cons, List.sum_cons, List.length_cons]
    rw [Nat.succ_mul]
    omega
theorem at_ok {α : Type} {xs : List α} {j : Int} (h0 : 0 ≤ j) (h1 : j < xs.length) : ∃ v, atI xs j = some v ∧ v ∈ xs := by
  obtain ⟨k, rfl⟩ := Int.eq_ofNat_of_zero_le h0
  have hk : k < xs.length := by omega
  exact ⟨xs[k], atI_nat (by simp [hk]), List.getElem_mem hk⟩
theorem at_int {ns : List Int} {j : Int} (h0 : 0 ≤ j) (h1 : j < (ns.map V.int).length) : ∃ c, atI (ns.map V.int) j = some (.int c) := by
  obtain ⟨v, e, m⟩ := at_ok h0 h1
  obtain ⟨c, _, rfl⟩ := List.mem_map.mp m
  exact ⟨c, e⟩
theorem fst_small (x : Int) : -(2 ^ 64) < x % 2147483647 ∧ x % 2147483647 < 2 ^ 64 := by
  have h1 := Int.emod_nonneg x (show (2147483647 : Int) ≠ 0 by decide)
  have h2 := Int.emod_lt_of_pos x (show (0 : Int) < 2147483647 by decide)
  omega
noncomputable def PenV (H : Hp) (p a : Addr) : Prop := ∃ (i n : Int), H p = some (.lst [.ref a, .int i, .int n]) ∧ 0 ≤ i ∧ 0 ≤ n
noncomputable def Pen (K : PySem.W.Frag) (H : Hp) (p a : Addr) : Prop := (∃ ns : List Int, ∀ H', But p H H' → SqL K H' a (ns.map V.int)) ∧ PenV H p a
theorem Pen.but {K : PySem.W.Frag} {H H' : Hp} {p a : Addr} (h : Pen K H p a) (b : But p H H') (v : PenV H' p a) : Pen K H' p a := ⟨let ⟨ns, q⟩ := h.1; ⟨ns, fun H2 b2 => q H2 (b.trans b2)⟩, v⟩
theorem Pen.new {K : PySem.W.Frag} {H : Hp} {p a : Addr} {ns : List Int} {o : HO} (h : SqL K H a (ns.map V.int)) (hp : H p = none) (v : PenV (upd H p o) p a) : Pen K (upd H p o) p a := by
  refine ⟨⟨ns, fun H' b => ?_⟩, v⟩
  rcases h with h | h
  · have n : a ≠ p := by
      rcases h with h | ⟨ob, h⟩
      · exact ne_of_none h hp
      · exact ne_of_none h hp
    have s : Same H (upd H p o) := Same.new hp
    exact SqL.but (fun c o' n' e => b c o' n' (s c o' e)) n (.inl h)
  · exact .inr h
theorem PenV.upd {H : Hp} {p a D : Addr} {o : HO} (h : PenV H p a) (n : p ≠ D) : PenV (L2.upd H D o) p a := let ⟨i, m, e, q⟩ := h; ⟨i, m, by rw [upd_ne n]; exact e, q⟩
theorem PenV.ne {H : Hp} {p a D : Addr} (h : PenV H p a) (e : H D = none) : p ≠ D := let ⟨_, _, q, _⟩ := h; ne_of_none q e
theorem But.at {p D : Addr} {H H' : Hp} {o : HO} (b : But p H H') (hD : H D = none) : But p H (L2.upd H' D o) := fun c o' n h => by rw [upd_ne (ne_of_none h hD)]; exact b c o' n h
theorem But.of_eq {p : Addr} {H H' : Hp} (h : ∀ b, b ≠ p → H' b = H b) : But p H H' := fun b o n e => (h b n).trans e
theorem But.free {p D : Addr} {H H' : Hp} (b : But p H H') (n : D ≠ p) (h : H' D = none) : H D = none := by
  cases e : H D with
  | none => rfl
  | some o => rw [b D o n e] at h; cases h
noncomputable def spDraw (K : PySem.W.Frag) : Sp := fun vs H Q _ => ∃ (p a : Addr) (m : Int), vs = [.ref p, .int m] ∧ Pen K H p a ∧ 0 < m ∧ m < 1073741824 ∧ ∀ r H', 0 ≤ r → r < m → PenV H' p a → (∀ b, b ≠ p → H' b = H b) → Q (.int r) H'
end L2
namespace L2
open PySem PySem.Spec PyProof.Rows
section
variable {X : Cx}
inductive InR (K : PySem.W.Frag) (neg : Bool) (H : Hp) : V → V → VK → Prop
  | dic {a : Addr} {y : V} {o : Option V} {Q : VK} : DGet H a y o → Q (.bl (if neg then !o.isSome else o.isSome)) H → InR K neg H y (.ref a) Q
  | seq {p : Addr} {x : V} {xs : List V} {Q : VK} : (SqL K H p xs ∨ SqT K H p xs) → flatV x = true → xs.all flatV = true → Q (.bl (if neg then !inV x xs else inV x xs)) H → InR K neg H x (.ref p) Q
  | tr {p : Addr} {x : V} {xs : List V} {ds : List PyData} {d : PyData} {Q : VK} : H p = some (.lst xs) → RepAll H xs ds → Rep H x d → PyData.canLayAll0 ds = true → d.canLay0 = true → d.depth ≤ 16 →
      Q (.bl (if neg then !(ds.any fun e => PyData.eqv e d) else ds.any fun e => PyData.eqv e d)) H → InR K neg H x (.ref p) Q
theorem op_inX (K : PySem.W.Frag) (hu : X.A.units + 64 < cLine) (hK : X.K = K := by rfl) : OpR X (compareOp .In) (fun x y H Q => InR K false H x y Q) := by
  subst hK
  intro pins s σ H x y v u Q I rx ry h
  cases h with
  | dic g q =>
    cases ry
    exact d_in (by omega) I g rx fun s' I' => ⟨.bl _, H, I', rfl, q⟩
  | seq hq fx fs q => exact op_in_seq pins s σ H _ _ v u Q I rx ry ⟨_, _, rfl, hq, fx, fs, q⟩
  | tr e rs r cs c dp q => exact op_inD hu pins s σ H _ _ v u Q I rx ry ⟨_, _, _, _, rfl, e, rs, r, cs, c, dp, q⟩
theorem op_notInX (K : PySem.W.Frag) (hu : X.A.units + 64 < cLine) (hK : X.K = K := by rfl) : OpR X (compareOp .NotIn) (fun x y H Q => InR K true H x y Q) := by
  subst hK
  intro pins s σ H x y v u Q I rx ry h
  cases h with
  | dic g q =>
    cases ry
    exact d_notIn (by omega) I g rx fun s' I' => ⟨.bl _, H, I', rfl, q⟩
  | seq hq fx fs q => exact op_notIn_seq pins s σ H _ _ v u Q I rx ry ⟨_, _, rfl, hq, fx, fs, q⟩
  | tr e rs r cs c dp q => exact op_notInD hu pins s σ H _ _ v u Q I rx ry ⟨_, _, _, _, rfl, e, rs, r, cs, c, dp, q⟩
inductive IxX (K : PySem.W.Frag) (H : Hp) : V → V → VK → Prop
  | lst {p : Addr} {xs : List V} {i : Int} {v : V} {Q : VK} : SqL K H p xs → atI xs i = some v → Q v H → IxX K H (.ref p) (.int i) Q
  | tup {p : Addr} {xs : List V} {i : Int} {v : V} {Q : VK} : SqT K H p xs → atI xs i = some v → Q v H → IxX K H (.ref p) (.int i) Q
  | str {z : Str} {i : Int} {c : Nat} {Q : VK} : z.length ≤ sizeLine → atI z.cps.toList i = some c → Q (.str ⟨#[c]⟩) H → IxX K H (.str z) (.int i) Q
  | dic {a : Addr} {y v : V} {Q : VK} : DGet H a y (some v) → Q v H → IxX K H (.ref a) y Q
theorem ix_X (K : PySem.W.Frag) (hu : X.A.units + 64 < cLine) (hK : X.K = K := by rfl) : IxR X (fun x y H Q => IxX K H x y Q) := by
  subst hK
  intro value slice pins s σ H x y v u Q I rx ry h hs
  cases h with
  | lst hq e q => exact ix_list value slice pins s σ H _ _ v u Q I rx ry ⟨_, _, _, _, rfl, rfl, hq, e, q⟩ hs
  | tup hq e q => exact ix_tup value slice pins s σ H _ _ v u Q I rx ry ⟨_, _, _, _, rfl, rfl, hq, e, q⟩ hs
  | str hz e q => exact ix_str value slice pins s σ H _ _ v u Q I rx ry ⟨_, _, _, rfl, rfl, hz, e, q⟩ hs
  | dic g q =>
    cases rx
    exact tail_any (dict_typeIs I g) PySem.F.slot_dict_getitem.lookup (d_getItem (by omega) I g ry fun w' s3 I3 rw' => ⟨_, H, I3, rw', q⟩) hs
inductive SetX (H : Hp) : V → V → V → (Hp → Prop) → Prop
  | lst {p : Addr} {xs : List V} {k : Int} {j : Nat} {v : V} {Q : Hp → Prop} : H p = some (.lst xs) → ixN xs.length k = some j → Q (upd H p (.lst (xs.set j v))) → SetX H (.ref p) (.int k) v Q
  | dic {a : Addr} {y v : V} {H' : Hp} {Q : Hp → Prop} : DPut H a y v H' → Q H' → SetX H (.ref a) y v Q
theorem set_X (hu : X.A.units + 64 < cLine) : PSet X (fun o i v H Q => SetX H o i v Q) := by
  intro pins s σ H o i v ov iv u Q I ro ri rv h
  cases h with
  | lst e ej q => exact set_list pins s σ H _ _ _ ov iv u Q I ro ri rv ⟨_, _, _, _, rfl, rfl, e, ej, q⟩
  | dic g q =>
    cases ro
    exact d_setItem (by omega) I g ri rv fun s4 I4 => ⟨_, I4, q⟩
theorem pg_tupK (K : PySem.W.Frag) {es : List Expr} {k : Nat} {pos : Pos} {t : TGs} {n : Nat} (hc : X.calm = true) (h : PGs X es t)
    (hn : (assignEach es X.env).length = n := by rfl) (hst : (assignEach es X.env).findIdx? (·.1) = none := by rfl) (hK : X.K = K := by rfl) : PG X (.Tuple es k pos) (gTup K n t) := hK ▸ pg_tup hc h hn hst
theorem pi_enumK (K : PySem.W.Frag) {elts : List Expr} {k : Nat} {tp : Pos} {a : Expr} {ta : TA} {p pos : Pos} (hg : Gl X "enumerate") (hm : X.mg "enumerate" = none) (ha : PA X [a] ta) (hs : starEach [a] X.env = [(false, eval a X.env)] := by rfl) (hK : X.K = K := by rfl) :
    PI X (.Tuple elts k tp) (.Call (.Name "enumerate" p) [a] [] pos) (iEnum K ta) := hK ▸ pi_enum hg hm ha hs
variable {p pos p2 pos2 : Pos} {e f : Expr} {t : TA}
end
end L2
namespace L2
open PySem PySem.Spec PyProof.Rows
section
variable {X : Cx} {p pos p2 pos2 : Pos} {e f : Expr} {t : TA}
noncomputable def rTupL (K : PySem.W.Frag) : List V → Hp → VK → Prop := fun xs H Q => ∃ a ys, xs = [.ref a] ∧ SqL K H a ys ∧ ∀ l, H l = none → Q (.ref l) (upd H l (.tup ys))
theorem b_tuple (K : PySem.W.Frag) (B : Blt X.mg) (ha : PA X [e] t) (hg : Gl X "tuple" := by rfl) (he : starEach [e] X.env = (false, eval e X.env) :: starEach [] X.env := by rfl) (hpl : (backTo pos (starEach [] X.env)).any (·.1) = false := by rfl) (hK : X.K = K := by rfl) :
    PE X (.Call (.Name "tuple" p) [e] [] pos) (tCB (rTupL K) t) := by
  subst hK
  refine pe_callTy (r := rTupL X.K) (fun pins s σ H xs us Q I r h => ?_) hg B.tuple (show bootBuiltins "tuple" = some (.type "tuple") by decide +kernel) ha (by decide) (by decide) he hpl
  obtain ⟨a, ys, rfl, hq, q⟩ := h
  exact call_tuple_of pins s σ H _ us Q I r ⟨a, ys, rfl, .inl ⟨hq, q⟩⟩
noncomputable def rRange : List V → Hp → VK → Prop := fun xs H Q => ∃ n : Int, xs = [.int n] ∧ ∀ r, H r = none → Q (.ref r) (upd H r (.rng 0 n))
theorem b_range (B : Blt X.mg) (ha : PA X [e] t) (hg : Gl X "range" := by rfl) (he : starEach [e] X.env = (false, eval e X.env) :: starEach [] X.env := by rfl) (hpl : (backTo pos (starEach [] X.env)).any (·.1) = false := by rfl) :
    PE X (.Call (.Name "range" p) [e] [] pos) (tCB rRange t) := by
  refine pe_callTy (r := rRange) (fun pins s σ H xs us Q I r h => ?_) hg B.range boot_range ha (by decide) (by decide) he hpl
  obtain ⟨n, rfl, q⟩ := h
  obtain ⟨u, rfl, ru⟩ := vals1 r
  obtain ⟨tk, rfl⟩ := ru
  exact call_range_1 ⟨.ref _, _, I.laid (o := .rng 0 n) (fun b o e => Heap.get?_push_of_some _ e) (Nat.le_refl _) ⟨_, _, _, Heap.get?_push_size _ rfl⟩, rfl, q _ (I.hok.fresh (Nat.le_refl _))⟩
inductive LstR (K : PySem.W.Frag) (H : Hp) : V → VK → Prop
  | seq {a : Addr} {ys : List V} {Q : VK} : (SqL K H a ys ∨ SqT K H a ys) → (∀ l, H l = none → Q (.ref l) (upd H l (.lst ys))) → LstR K H (.ref a) Q
  | rng {a : Addr} {n : Nat} {Q : VK} : H a = some (.rng 0 (n : Int)) → n ≤ 1000 → (∀ l, H l = none → Q (.ref l) (upd H l (.lst (rngV n)))) → LstR K H (.ref a) Q
noncomputable def rLst (K : PySem.W.Frag) : List V → Hp → VK → Prop := fun xs H Q => ∃ x, xs = [x] ∧ LstR K H x Q
theorem vals_rng {n : Nat} {its : List Value} (hl : its.length = n) (h : ∀ i v, its[i]? = some v → ∃ t, v = Value.int (0 + (i : Nat) * 1) t) : Vals (rngV n) its := by
  subst hl
  have key : ∀ (its : List Value) (k : Nat), (∀ i v, its[i]? = some v → ∃ t, v = Value.int (0 + ((k + i : Nat) : Int)) t) → Vals ((List.range' k its.length).map fun i => V.int (0 + (i : Nat))) its := by
    intro its
    induction its with
    | nil => intro k _; exact .nil
    | cons u r ih =>
      intro k h
      rw [List.length_cons, List.range'_succ, List.map_cons]
      refine .cons ?_ (ih (k + 1) fun i v e => ?_)
      · obtain ⟨t, e⟩ := h 0 u rfl
        exact ⟨t, by rw [e, Nat.add_zero]⟩
      · obtain ⟨t, e'⟩ := h (i + 1) v (by simpa using e)
        exact ⟨t, by rw [e', show ((k + (i + 1) : Nat) : Int) = ((k + 1 + i : Nat) : Int) by omega]⟩
  have := key its 0 fun i v e => by
    obtain ⟨t, e'⟩ := h i v e
    exact ⟨t, by rw [e', Int.mul_one, Nat.zero_add]⟩
  rw [rngV, List.range_eq_range']
  exact this
theorem b_list (K : PySem.W.Frag) (hc : X.calm = true) (B : Blt X.mg) (ha : PA X [e] t) (hg : Gl X "list" := by rfl) (he : starEach [e] X.env = (false, eval e X.env) :: starEach [] X.env := by rfl) (hpl : (backTo pos (starEach [] X.env)).any (·.1) = false := by rfl) (hK : X.K = K := by rfl) :
    PE X (.Call (.Name "list" p) [e] [] pos) (tCB (rLst K) t) := by
  subst hK
  refine pe_callTy (r := rLst X.K) (fun pins s σ H xs us Q I r h => ?_) hg B.list (show bootBuiltins "list" = some (.type "list") by decide +kernel) ha (by decide) (by decide) he hpl
  obtain ⟨x, rfl, h⟩ := h
  cases h with
  | seq hq q => exact call_list_of pins s σ H _ us Q I r ⟨_, _, rfl, hq, q⟩
  | @rng a n _ ea hn q =>
    obtain ⟨u, rfl, ru⟩ := vals1 r
    cases ru
    obtain ⟨t1, t2, t3, eh⟩ := (show ObjOk X.prog X.w H s.heap a (.rng 0 (n : Int)) from I.hok a _ ea)
    refine call_list_range (n := n) (I.ok.hd hc) eh (small_one (by decide) (by decide) (by omega) (by omega)) (by rw [rangeSize_one]; split <;> omega) (by omega) fun h' tk acc' c' hk hl hi => ?_
    have hv : Vals (rngV n) acc'.toList := vals_rng (by simpa using hi.1) fun i v e => hi.2 i v (by simpa using e)
    refine ⟨.ref _, _, I.laid (o := .lst (rngV n)) hk (Nat.le_refl _) ⟨?_, acc'.toList, c', hv, by simpa using hl⟩, rfl, q _ (I.hok.fresh (Nat.le_refl _))⟩
    have : (rngV n).length = n := by simp [rngV]
    rw [this]
    exact Nat.le_of_lt (small1000 hn)
theorem b_max (hc : X.calm = true) (B : Blt X.mg) (ha : PA X [e, f] t) (hg : Gl X "max" := by rfl) (he : starEach [e, f] X.env = (false, eval e X.env) :: starEach [f] X.env := by rfl) (hpl : (backTo pos (starEach [f] X.env)).any (·.1) = false := by rfl) :
    PE X (.Call (.Name "max" p) [e, f] [] pos) (tCB (fun xs H Q => ∃ i j, xs = [.int i, .int j] ∧ Q (.int (if j > i then j else i)) H) t) :=
  pe_callB (call_max2 hc) hg B.max (show bootBuiltins "max" = some (.builtin "max") by decide +kernel) ha (by decide) (by decide) he hpl
theorem ins_at {its : List Value} {u : Value} {k : Nat} {x : Int} (hx : x = (k : Int)) (hk : k ≤ its.length) :
    (fun xs : Array Value => have k := if x < 0 then (x + (xs.size : Int)).toNat else min x.toNat xs.size; (xs.extract 0 k).push u ++ xs.extract k) its.toArray = (its.take k ++ u :: its.drop k).toArray := by
  subst hx
  simp only [List.size_toArray]
  rw [if_neg (by omega), Int.toNat_natCast, Nat.min_eq_left hk]
  simp [List.extract_eq_drop_take]
  exact List.take_of_length_le (by rw [List.length_drop]; omega)
noncomputable def rInsert : V → List V → Hp → VK → Prop := fun x vs H Q => ∃ l xs i k y, x = .ref l ∧ vs = [.int i, y] ∧ i = ((k : Nat) : Int) ∧ H l = some (.lst xs) ∧ k ≤ xs.length ∧ xs.length < sizeLine ∧ Q .non (upd H l (.lst (xs.take k ++ y :: xs.drop k)))
theorem mt_insert : MtR X "list.insert" rInsert := by
  intro pins s σ H x vs v us Q I rx rv h
  obtain ⟨l, xs, i, k, y, rfl, rfl, hi, hH, hk, hz, q⟩ := h
  cases rx
  obtain ⟨u1, u2, rfl, r1, r2⟩ := vals2 rv
  obtain ⟨t, rfl⟩ := r1
  obtain ⟨z, its, n, r, hl, e⟩ := I.lstM hH
  have hs : its.length ≤ sizeLine := by omega
  have hfit : Builtin.List.listFitsIndex i = true := by
    have h1 : i < 2 ^ 63 := by have := line63; omega
    exact fitsIndex_both (by omega) h1
  have ME := PySem.AutoSeq1.list_insert_list_int_val_1 l its.toArray n i t u2 (by simp [hfit]) (by rw [List.size_toArray]; exact hs)
  refine call_meets F.slot_list_insert ⟨_, e, rfl⟩ F.entry_list_insert (F.args_list_insert_3 _ _ _) ME ⟨e, ?_⟩
  refine ⟨.non, _, I.lset (its' := its.take k ++ u2 :: its.drop k) hH e (ins_at hi (by omega)) (Vals.append (r.take k) (.cons r2 (r.drop k))) ?_, rfl, q⟩
  simp only [List.length_append, List.length_cons, List.length_take, List.length_drop]
  omega
theorem m_insert (K : PySem.W.Frag) {o e f : Expr} {to : TE} {t : TA} {apos cpos : Pos} (ho : PE X o to) (ha : PA X [e, f] t)
    (hbase : attributeBase o "insert" X.env (eval o X.env) = eval o X.env := by rfl)
    (hfew : ((backTo cpos (starEach [e, f] X.env)).all (fun x => !x.1) && (backToKw cpos (keywordEach [] X.env)).all (fun x => x.1.isSome)
      && decide ([e, f].length + ([] : List Keyword).length + (if ([] : List Keyword).isEmpty then 0 else 1) < 30)) = true := by rfl)
    (hline : (apos.endLine == cpos.line) = true := by rfl) (hs : starEach [e, f] X.env = (false, eval e X.env) :: starEach [f] X.env := by rfl) (hplain : (backTo cpos (starEach [f] X.env)).any (·.1) = false := by rfl) (hK : X.K = K := by rfl) :
    PE X (.Call (.Attribute o "insert" apos) [e, f] [] cpos) (tBM K "list" rInsert to t) := hK ▸ pe_bm PySem.F.plainAttrs_list PySem.F.slot_list_insert PySem.F.type_list_insert mt_insert ho ha hbase hfew hline hs hplain
end
end L2
namespace L2
open PySem PySem.Spec PyProof.Rows
noncomputable def Nm (s : Str) : Prop := 1 ≤ s.length ∧ s.length ≤ 8 ∧ ∀ c ∈ s.cps.toList, 97 ≤ c ∧ c ≤ 122
theorem Nm.asc {s : Str} (h : Nm s) : Asc s := fun c hc => by have := h.2.2 c hc; omega
noncomputable def tieD (e : Nat × Nat) : PyData := .tuple [.int e.1, .int e.2]
noncomputable def pairD (e : Str × Str) : PyData := .tuple [.str e.1, .str e.2]
noncomputable def webD (ss : List Str) (ts : List (Str × Str)) : PyData := .tuple [.tuple (ss.map .str), .tuple (ts.map pairD)]
section
variable {H H' : Hp}
theorem Rep.tupI {v : V} {ds : List PyData} (h : Rep H v (.tuple ds)) : ∃ a xs, v = .ref a ∧ H a = some (.tup xs) ∧ RepAll H xs ds := by
  cases h with
  | tup e r => exact ⟨_, _, rfl, e, r⟩
theorem Rep.strI {v : V} {s : Str} (h : Rep H v (.str s)) : v = .str s := by cases h; rfl
theorem Rep.intI {v : V} {i : Int} (h : Rep H v (.int i)) : v = .int i := by cases h; rfl
theorem RepAll.nilI {xs : List V} (h : RepAll H xs []) : xs = [] := by cases h; rfl
theorem RepAll.consI {xs : List V} {d : PyData} {ds : List PyData} (h : RepAll H xs (d :: ds)) : ∃ y ys, xs = y :: ys ∧ Rep H y d ∧ RepAll H ys ds := by
  cases h with
  | cons a b => exact ⟨_, _, rfl, a, b⟩
theorem RepAll.strs : ∀ {xs : List V} {ss : List Str}, RepAll H xs (ss.map PyData.str) → xs = ss.map V.str
  | _, [], h => by rw [h.nilI]; rfl
  | _, s :: ss, h => by
    obtain ⟨y, ys, rfl, a, b⟩ := RepAll.consI h
    rw [a.strI, RepAll.strs b]; rfl
theorem RepAll.of_strs : ∀ (ss : List Str), RepAll H (ss.map V.str) (ss.map PyData.str)
  | [] => .nil
  | s :: ss => .cons (.str s) (RepAll.of_strs ss)
theorem RepAll.len {xs : List V} {ds : List PyData} (h : RepAll H xs ds) : xs.length = ds.length := by
  induction ds generalizing xs with
  | nil => rw [h.nilI]; rfl
  | cons d ds ih =>
    obtain ⟨y, ys, rfl, a, b⟩ := h.consI
    simp [ih b]
theorem RepAll.get {xs : List V} {ds : List PyData} (h : RepAll H xs ds) {i : Nat} {x : V} (e : xs[i]? = some x) : ∃ d, ds[i]? = some d ∧ Rep H x d := by
  induction ds generalizing xs i with
  | nil => rw [h.nilI] at e; simp at e
  | cons d ds ih =>
    obtain ⟨y, ys, rfl, a, b⟩ := h.consI
    cases i with
    | zero => simp at e; subst e; exact ⟨d, rfl, a⟩
    | succ i => simpa using ih b (by simpa using e)
theorem RepAll.append {xs ys : List V} {ds es : List PyData} (h : RepAll H xs ds) (g : RepAll H ys es) : RepAll H (xs ++ ys) (ds ++ es) := by
  induction ds generalizing xs with
  | nil => rw [h.nilI]; exact g
  | cons d ds ih =>
    obtain ⟨y, zs, rfl, a, b⟩ := h.consI
    exact .cons a (ih b)
theorem RepAll.take {xs : List V} {ds : List PyData} (h : RepAll H xs ds) : ∀ k, RepAll H (xs.take k) (ds.take k) := by
  induction ds generalizing xs with
  | nil => intro k; rw [h.nilI]; simp; exact .nil
  | cons d ds ih =>
    obtain ⟨y, zs, rfl, a, b⟩ := h.consI
    intro k
    cases k with
    | zero => exact .nil
    | succ k => exact .cons a (ih b k)
theorem RepAll.drop {xs : List V} {ds : List PyData} (h : RepAll H xs ds) : ∀ k, RepAll H (xs.drop k) (ds.drop k) := by
  induction ds generalizing xs with
  | nil => intro k; rw [h.nilI]; simp; exact .nil
  | cons d ds ih =>
    obtain ⟨y, zs, rfl, a, b⟩ := h.consI
    intro k
    cases k with
    | zero => exact .cons a b
    | succ k => exact ih b k
theorem tie_at {v : V} {e : Nat × Nat} (h : Rep H v (tieD e)) : ∃ a, v = .ref a ∧ H a = some (.tup [.int e.1, .int e.2]) := by
  obtain ⟨a, xs, rfl, ha, r⟩ := Rep.tupI h
  obtain ⟨y, ys, rfl, r1, r⟩ := r.consI
  obtain ⟨z, zs, rfl, r2, r⟩ := r.consI
  have e1 := RepAll.nilI r
  subst e1
  rw [r1.intI, r2.intI] at ha
  exact ⟨a, rfl, ha⟩
theorem pair_at {v : V} {e : Str × Str} (h : Rep H v (pairD e)) : ∃ a, v = .ref a ∧ H a = some (.tup [.str e.1, .str e.2]) := by
  obtain ⟨a, xs, rfl, ha, r⟩ := Rep.tupI h
  obtain ⟨y, ys, rfl, r1, r⟩ := r.consI
  obtain ⟨z, zs, rfl, r2, r⟩ := r.consI
  have e1 := RepAll.nilI r
  subst e1
  rw [r1.strI, r2.strI] at ha
  exact ⟨a, rfl, ha⟩
theorem tie_rep {a : Addr} {i j : Nat} (h : H a = some (.tup [.int i, .int j])) : Rep H (.ref a) (tieD (i, j)) := .tup h (.cons (.int _) (.cons (.int _) .nil))
theorem pair_rep {a : Addr} {s t : Str} (h : H a = some (.tup [.str s, .str t])) : Rep H (.ref a) (pairD (s, t)) := .tup h (.cons (.str _) (.cons (.str _) .nil))
theorem web_at {v : V} {ss : List Str} {ts : List (Str × Str)} (h : Rep H v (webD ss ts)) : ∃ q a b xs, v = .ref q ∧ H q = some (.tup [.ref a, .ref b]) ∧ H a = some (.tup (ss.map V.str)) ∧ H b = some (.tup xs) ∧ RepAll H xs (ts.map pairD) := by
  obtain ⟨q, ws, rfl, hq, r0⟩ := Rep.tupI h
  obtain ⟨y, ys, rfl, r1, r3⟩ := r0.consI
  obtain ⟨z, zs, rfl, r2, r4⟩ := r3.consI
  obtain ⟨a, xa, rfl, ha, ra⟩ := Rep.tupI r1
  obtain ⟨b, xb, rfl, hb, rb⟩ := Rep.tupI r2
  have e1 := RepAll.nilI r4
  subst e1
  have e2 := RepAll.strs ra
  subst e2
  exact ⟨q, a, b, xb, rfl, hq, ha, hb, rb⟩
end
theorem canLay_ties : ∀ es : List (Nat × Nat), PyData.canLayAll0 (es.map tieD) = true
  | [] => rfl
  | e :: es => by
    show (PyData.canLay0 (tieD e) && PyData.canLayAll0 (es.map tieD)) = true
    rw [canLay_ties es]
    rfl
theorem depth_ties : ∀ es : List (Nat × Nat), PyData.depthAll (es.map tieD) ≤ 1
  | [] => by decide
  | e :: es => by
    show max (PyData.depth (tieD e)) (PyData.depthAll (es.map tieD)) ≤ 1
    have h1 : PyData.depth (tieD e) = 1 := rfl
    have h2 := depth_ties es
    omega
theorem shp_ties (es : List (Nat × Nat)) : shp (.list (es.map tieD)) := by
  show (PyData.canLayAll0 (es.map tieD) && decide (PyData.depthAll (es.map tieD) + 1 ≤ 64)) = true
  have := depth_ties es
  rw [canLay_ties, decide_eq_true (by omega)]
  rfl
end L2
set_option autoImplicit false
namespace MG
variable {α : Type}
variable {R : α → α → Prop} {x : α}
end MG
namespace MG
variable {α : Type} {R : α → α → Prop} {x : α}
end MG
namespace L2
open PySem PySem.Spec PyProof.Rows
noncomputable def namesD (ss : List Str) : PyData := .list (ss.map .str)
theorem canLay_nm {s : Str} (h : Nm s) : PyData.canLay0 (.str s) = true := by
  show (s.cps.all (· < 0x110000)) = true
  rw [← Array.all_toList, List.all_eq_true]
  intro c hc
  have := h.2.2 c hc
  exact decide_eq_true (by omega)
theorem canLay_strs : ∀ ss : List Str, (∀ s ∈ ss, Nm s) → PyData.canLayAll0 (ss.map PyData.str) = true
  | [], _ => rfl
  | s :: ss, h => by
    show (PyData.canLay0 (.str s) && PyData.canLayAll0 (ss.map PyData.str)) = true
    rw [canLay_strs ss fun x hx => h x (List.mem_cons_of_mem _ hx), canLay_nm (h s (by simp))]
    rfl
theorem depth_strs : ∀ ss : List Str, PyData.depthAll (ss.map PyData.str) = 0
  | [] => rfl
  | s :: ss => by
    show max (PyData.depth (.str s)) (PyData.depthAll (ss.map PyData.str)) = 0
    rw [depth_strs ss]; rfl
theorem showable_strs : ∀ ss : List Str, PyData.showableAll (ss.map PyData.str) = true
  | [] => rfl
  | s :: ss => by
    show (PyData.showable (.str s) && PyData.showableAll (ss.map PyData.str)) = true
    rw [showable_strs ss]; rfl
theorem shp_names {ss : List Str} (h : ∀ s ∈ ss, Nm s) : shp (namesD ss) := by
  show (PyData.canLayAll0 (ss.map PyData.str) && decide (PyData.depthAll (ss.map PyData.str) + 1 ≤ 64)) = true
  rw [canLay_strs ss h, depth_strs]; rfl
theorem textFrom_le {n : Nat} : ∀ (ts : List Str) (k : Nat) (acc : Str), (∀ t ∈ ts, t.length ≤ n) → (textFrom k acc ts).length ≤ acc.length + ts.length * (n + 2)
  | [], k, acc, _ => by show acc.length ≤ acc.length + 0 * _; omega
  | t :: r, k, acc, h => by
    have h1 := textFrom_le r (k + 1) (acc ++ (if k > 0 then ", " else "" : String) ++ t) fun u hu => h u (List.mem_cons_of_mem _ hu)
    have h2 := h t (by simp)
    have e : (acc ++ (if k > 0 then ", " else "" : String) ++ t).length ≤ acc.length + 2 + t.length := by
      rw [len_app, len_app]
      have : (Str.ofString (if k > 0 then ", " else "" : String)).length ≤ 2 := by split <;> decide
      show acc.length + (Str.ofString (if k > 0 then ", " else "" : String)).length + t.length ≤ _
      omega
    show (textFrom (k + 1) (acc ++ (if k > 0 then ", " else "" : String) ++ t) r).length ≤ acc.length + (r.length + 1) * (n + 2)
    rw [Nat.succ_mul]
    omega
theorem shownAll_strs : ∀ ss : List Str, PyData.shownAll (ss.map PyData.str) = ss.map reprText
  | [] => rfl
  | s :: ss => by
    show PyData.shown (.str s) :: PyData.shownAll (ss.map PyData.str) = _
    rw [shownAll_strs ss]; rfl
theorem Nm.repr {s : Str} (h : Nm s) : (reprText s).length ≤ 82 := by
  have := StrLaws.reprText_len s fun c hc => Nat.lt_trans (h.asc c hc) (by decide)
  have := h.2.1
  omega
theorem shown_names {ss : List Str} (h : ∀ s ∈ ss, Nm s) (hl : ss.length ≤ 1000) : (namesD ss).shown.length ≤ sizeLine := by
  show (listText (PyData.shownAll (ss.map PyData.str))).length ≤ sizeLine
  rw [shownAll_strs]
  show (textFrom 0 "[" (ss.map reprText) ++ "]").length ≤ sizeLine
  rw [len_app]
  have h1 := textFrom_le (n := 82) (ss.map reprText) 0 "[" fun t ht => by
    obtain ⟨s, hs, rfl⟩ := List.mem_map.mp ht
    exact (h s hs).repr
  rw [List.length_map] at h1
  have h2 : ss.length * (82 + 2) ≤ 1000 * (82 + 2) := Nat.mul_le_mul_right _ hl
  have h3 : (Str.ofString "[").length = 1 := rfl
  have h4 : (Str.ofString "]").length = 1 := rfl
  show (textFrom 0 (Str.ofString "[") (ss.map reprText)).length + (Str.ofString "]").length ≤ sizeLine
  have h5 : (84002 : Nat) ≤ sizeLine := by decide
  have h1 : (textFrom 0 (Str.ofString "[") (ss.map reprText)).length ≤ (Str.ofString "[").length + ss.length * (82 + 2) := h1
  omega
structure Shw (d : PyData) : Prop where
  sh : shp d
  sb : d.showable = true
  hd : d.hasDict = false
  dp : d.depth ≤ 16
  ln : d.shown.length ≤ sizeLine
theorem Shw.names {ss : List Str} (h : ∀ s ∈ ss, Nm s) (hl : ss.length ≤ 1000) : Shw (namesD ss) :=
  ⟨shp_names h, showable_strs ss, PyData.hasDict_of_canLay _ (SeqAt.canLay_of_shaped (shp_names h)), by show PyData.depthAll (ss.map PyData.str) + 1 ≤ 16; rw [depth_strs]; decide, shown_names h hl⟩
theorem eqv_shp {d : PyData} (h : shp d) : PyData.eqv d d = true := SeqAt.eqv_refl d (SeqAt.canLay_of_shaped h)
noncomputable def spSame : Sp := fun vs H Q _ => ∃ x y d, vs = [x, y] ∧ Rep H x d ∧ Rep H y d ∧ Shw d ∧ Q (.bl true) H
theorem for_enum {K : PySem.W.Frag} {a : Addr} {xs : List V} {g : TG} {tb : TS} {D : Ends} {σ : St} {H : Hp} (Pv : Nat → St → Hp → Prop) (h0 : Pv 0 σ H) (hl : ∀ i σ H, i ≤ xs.length → Pv i σ H → SqL K H a xs)
    (hs : ∀ i x σ H p, xs[i]? = some x → Pv i σ H → H p = none → g (.ref p) σ (upd H p (.tup [.int i, x])) fun σ2 H2 => tb { D with nx := Pv (i + 1), ct := Pv (i + 1), bk := D.nx } σ2 H2) (hd : ∀ σ H, Pv xs.length σ H → D.nx σ H) :
    ∃ W : Nat → Nat → St → Hp → Prop, (∃ m, W 0 m σ H) ∧ ∀ i m σ H, W i m σ H →
      ((Ite K a).stop i H ∧ D.nx σ H) ∨ ((Ite K a).go i H ∧ ∃ N : St → Hp → Prop, (∀ σ' H', N σ' H' → ∃ m', m' < m ∧ W (i + 1) m' σ' H') ∧ ∀ x H', (Ite K a).yld i H x H' → g x σ H' fun σ2 H2 => tb { D with nx := N, ct := N, bk := D.nx } σ2 H2) := by
  refine ⟨fun i m σ H => m = xs.length - i ∧ i ≤ xs.length ∧ Pv i σ H, ⟨xs.length, by simp, Nat.zero_le _, h0⟩, ?_⟩
  rintro i m σ H ⟨rfl, hi, p⟩
  have q := hl i σ H hi p
  by_cases hlt : i < xs.length
  · refine .inr ⟨⟨xs, xs[i], q, by simp [hlt]⟩, Pv (i + 1), fun σ' H' p' => ⟨xs.length - (i + 1), by omega, rfl, hlt, p'⟩, fun x H' y => ?_⟩
    obtain ⟨r, z, hr, rfl, hz, rfl⟩ := y
    exact hs i z σ H r (hz xs q) p hr
  · have e : i = xs.length := by omega
    subst e
    exact .inl ⟨⟨xs, q, Nat.le_refl _⟩, hd σ H p⟩
structure Web (H : Hp) (v : V) (ss : List Str) (ts : List (Str × Str)) : Prop where
  rep : Rep H v (webD ss ts)
  nd : ss.Nodup
  nm : ∀ s ∈ ss, Nm s
  len : ss.length ≤ 60
  few : ts.length ≤ 401
  inn : ∀ e ∈ ts, e.1 ∈ ss ∧ e.2 ∈ ss
theorem Web.same {H H' : Hp} {v : V} {ss : List Str} {ts : List (Str × Str)} (h : Web H v ss ts) (s : Same H H') : Web H' v ss ts := ⟨h.rep.same s, h.nd, h.nm, h.len, h.few, h.inn⟩
end L2
namespace MG
variable {α : Type} {R : α → α → Prop} {x : α}
noncomputable def swp (es : List (Nat × Nat)) : List (Nat × Nat) := es.map fun e => (e.2, e.1)
variable {es : List (Nat × Nat)} {goal : Nat}
end MG
namespace MG
variable {es : List (Nat × Nat)}
end MG
namespace L2
open PySem PySem.Spec PyProof.Rows
theorem same_free {H H' : Hp} {b : Addr} (s : Same H H') (h : H' b = none) : H b = none := by
  cases q : H b with
  | none => rfl
  | some o => rw [s _ _ q] at h; cases h
theorem same_at {H H' : Hp} {b : Addr} {o : HO} (s : Same H H') (h : H b = none) : Same H (upd H' b o) := fun c o' hc => by
  rw [upd_ne (ne_of_none hc h)]; exact s _ _ hc
theorem penSame {H H' : Hp} {p a : Addr} (s : Same H H') (v : PenV H p a) : PenV H' p a := let ⟨i, m, e, q⟩ := v; ⟨i, m, s _ _ e, q⟩
section
variable {X : Cx} {p pos p2 pos2 : Pos} {e f : Expr} {t : TA}
theorem vals_get {xs : List V} {us : List Value} (r : Vals xs us) {j : Nat} {u : Value} (e : us[j]? = some u) : ∃ x, xs[j]? = some x ∧ RelV x u := by
  induction r generalizing j with
  | nil => simp at e
  | @cons a b as bs h t ih =>
    cases j with
    | zero => simp at e; subst e; exact ⟨a, rfl, h⟩
    | succ j => simpa using ih (by simpa using e)
end
end L2
namespace MG
section
variable {α : Type} [DecidableEq α]
noncomputable def ix : List α → α → Nat
  | [], _ => 0
  | a :: r, x => if a = x then 0 else ix r x + 1
theorem ix_here (a : α) (r : List α) : ix (a :: r) a = 0 := by show (if a = a then 0 else _) = 0; rw [if_pos rfl]
theorem ix_next {a x : α} (r : List α) (h : a ≠ x) : ix (a :: r) x = ix r x + 1 := by show (if a = x then 0 else _) = _; rw [if_neg h]
theorem ix_at {l : List α} (nd : l.Nodup) : ∀ {i : Nat} {x : α}, l[i]? = some x → ix l x = i := by
  induction l with
  | nil => intro i x e; simp at e
  | cons a r ih =>
    intro i x e
    have ⟨h1, h2⟩ := List.nodup_cons.mp nd
    cases i with
    | zero => simp at e; subst e; exact ix_here a r
    | succ i =>
      have e' : r[i]? = some x := by simpa using e
      have hx := List.mem_of_getElem? e'
      rw [ix_next r (fun q : a = x => h1 (q ▸ hx)), ih h2 e']
theorem at_ix {l : List α} {x : α} (h : x ∈ l) : l[ix l x]? = some x := by
  induction l with
  | nil => cases h
  | cons a r ih =>
    by_cases q : a = x
    · subst q; rw [ix_here]; rfl
    · rw [ix_next r q]
      rcases List.mem_cons.mp h with h | h
      · exact absurd h.symm q
      · simpa using ih h
theorem ix_lt {l : List α} {x : α} (h : x ∈ l) : ix l x < l.length := (List.getElem?_eq_some_iff.mp (at_ix h)).1
theorem ix_inj {l : List α} {x y : α} (h : x ∈ l) (g : y ∈ l) (e : ix l x = ix l y) : x = y := by
  have h1 := at_ix h
  rw [e, at_ix g] at h1
  exact (Option.some.inj h1).symm
noncomputable def invR (pos : α → Nat) : List α → List (α × α)
  | [] => []
  | a :: r => ((r.filter fun b => decide (pos b < pos a)).map fun b => (a, b)) ++ invR pos r
theorem len_inv {pos : α → Nat} : ∀ (l : List α), (invR pos l).length ≤ l.length * l.length
  | [] => Nat.le_refl _
  | a :: r => by
    have h1 := len_inv (pos := pos) r
    have h2 := List.length_filter_le (fun b => decide (pos b < pos a)) r
    show (((r.filter fun b => decide (pos b < pos a)).map fun b => (a, b)) ++ invR pos r).length ≤ (r.length + 1) * (r.length + 1)
    rw [List.length_append, List.length_map, Nat.succ_mul, Nat.mul_succ]
    omega
end
variable {es : List (Nat × Nat)}
noncomputable def Fwd (es : List (Nat × Nat)) : Prop := ∃ r : Nat → Nat, ∀ e ∈ es, r e.1 < r e.2
noncomputable def freeB (es : List (Nat × Nat)) (left : List Nat) (k : Nat) : Bool := !(es.any fun e => decide (e.1 ∈ left) && decide (e.2 = k))
theorem freeB_iff {left : List Nat} {k : Nat} : freeB es left k = true ↔ ∀ e ∈ es, e.1 ∈ left → e.2 ≠ k := by
  unfold freeB
  rw [Bool.not_eq_true', ← Bool.not_eq_true, List.any_eq_true]
  constructor
  · intro h e he h1 h2
    exact h ⟨e, he, by rw [decide_eq_true h1, decide_eq_true h2]; rfl⟩
  · rintro h ⟨e, he, q⟩
    rw [Bool.and_eq_true, decide_eq_true_iff, decide_eq_true_iff] at q
    exact h e he q.1 q.2
noncomputable def freeL (es : List (Nat × Nat)) (left : List Nat) : List Nat := left.filter (freeB es left)
theorem least (r : Nat → Nat) : ∀ (l : List Nat), l ≠ [] → ∃ k ∈ l, ∀ j ∈ l, r k ≤ r j
  | [], h => absurd rfl h
  | [a], _ => ⟨a, by simp, fun j hj => by rw [List.mem_singleton.mp hj]; exact Nat.le_refl _⟩
  | a :: b :: l, _ => by
    obtain ⟨k, hk, h⟩ := least r (b :: l) (by simp)
    by_cases q : r a ≤ r k
    · refine ⟨a, by simp, fun j hj => ?_⟩
      rcases List.mem_cons.mp hj with rfl | hj
      · exact Nat.le_refl _
      · exact Nat.le_trans q (h j hj)
    · refine ⟨k, List.mem_cons_of_mem _ hk, fun j hj => ?_⟩
      rcases List.mem_cons.mp hj with rfl | hj
      · omega
      · exact h j hj
theorem Fwd.free (f : Fwd es) {left : List Nat} (h : left ≠ []) : freeL es left ≠ [] := by
  obtain ⟨r, hr⟩ := f
  obtain ⟨k, hk, hm⟩ := least r left h
  have : k ∈ freeL es left := List.mem_filter.mpr ⟨hk, freeB_iff.mpr fun e he h1 h2 => by
    have := hr e he
    have := hm _ h1
    subst h2
    omega⟩
  intro q
  rw [q] at this
  cases this
noncomputable def Ord (es : List (Nat × Nat)) (ks : List Nat) : Prop := ∀ e ∈ es, ∀ (j : Nat), ks[j]? = some e.2 → ∃ i, i < j ∧ ks[i]? = some e.1
structure Drw (es : List (Nat × Nat)) (n : Nat) (left found : List Nat) : Prop where
  pm : (left ++ found).Perm (List.range n)
  od : Ord es found
theorem Drw.start {n : Nat} : Drw es n (List.range n) [] := ⟨by simp, fun e he j h => by simp at h⟩
theorem Drw.step {n : Nat} {left found : List Nat} (h : Drw es n left found) (val : ∀ e ∈ es, e.1 < n ∧ e.2 < n) {k : Nat} (hk : k ∈ freeL es left) : Drw es n (left.erase k) (found ++ [k]) := by
  obtain ⟨h1, h2⟩ := List.mem_filter.mp hk
  have hf := freeB_iff.mp h2
  refine ⟨?_, ?_⟩
  · refine List.Perm.trans ?_ h.pm
    have p1 : (left.erase k ++ (found ++ [k])).Perm (k :: left.erase k ++ found) := by
      have : (left.erase k ++ (found ++ [k])).Perm (left.erase k ++ (k :: found)) := List.Perm.append_left _ List.perm_append_comm
      exact this.trans List.perm_middle
    exact p1.trans ((List.perm_cons_erase h1).symm.append_right _)
  · intro e he j hj
    by_cases q : j < found.length
    · rw [List.getElem?_append_left q] at hj
      obtain ⟨i, hi, hg⟩ := h.od e he j hj
      exact ⟨i, hi, by rw [List.getElem?_append_left (by omega)]; exact hg⟩
    · rw [List.getElem?_append_right (by omega)] at hj
      have hjl := (List.getElem?_eq_some_iff.mp hj).1
      have ej : j = found.length := by simp at hjl; omega
      subst ej
      have ek : k = e.2 := by simpa using hj
      have hn : e.1 ∉ left := fun z => hf e he z ek.symm
      have hm : e.1 ∈ left ++ found := h.pm.mem_iff.mpr (List.mem_range.mpr (val e he).1)
      have hm : e.1 ∈ found := by
        rcases List.mem_append.mp hm with q | q
        · exact absurd q hn
        · exact q
      obtain ⟨i, hi, ei⟩ := List.mem_iff_getElem.mp hm
      exact ⟨i, hi, by rw [List.getElem?_append_left hi, List.getElem?_eq_getElem hi, ei]⟩
theorem Drw.len {n : Nat} {left found : List Nat} (h : Drw es n left found) : left.length + found.length = n := by
  have := h.pm.length_eq
  simpa using this
theorem Drw.done {n : Nat} {found : List Nat} (h : Drw es n [] found) : found.Perm (List.range n) ∧ Ord es found := ⟨by simpa using h.pm, h.od⟩
end MG
namespace L2
open PySem PySem.Spec PyProof.Rows
section
variable {X : Cx} {p pos p2 pos2 : Pos} {e f : Expr} {t : TA}
noncomputable def isIntV (i : Int) : Value → Bool
  | .int j _ => j == i
  | _ => false
noncomputable def rRemove : V → List V → Hp → VK → Prop := fun x vs H Q => ∃ l ns i, x = .ref l ∧ vs = [.int i] ∧ H l = some (.lst (List.map V.int ns)) ∧ i ∈ ns ∧ Q .non (upd H l (.lst (List.map V.int (ns.erase i))))
theorem vals_erase {ns : List Int} {its : List Value} (r : Vals (List.map V.int ns) its) {i : Int} (h : i ∈ ns) :
    ∃ j, j < its.length ∧ (∀ v, its[j]? = some v → isIntV i v = true) ∧ (∀ m v, m < j → its[m]? = some v → isIntV i v = false) ∧ ns.erase i = ns.eraseIdx j := by
  induction ns generalizing its with
  | nil => cases h
  | cons a ns ih =>
    cases r with
    | @cons _ u _ us r1 r2 =>
      obtain ⟨t, rfl⟩ := r1
      by_cases q : a = i
      · subst q
        refine ⟨0, by simp, fun v e => ?_, fun m v hm => by omega, ?_⟩
        · have : Value.int a t = v := by simpa using e
          rw [← this]; show (a == a) = true; simp
        · simp
      · have hi : i ∈ ns := by
          rcases List.mem_cons.mp h with z | z
          · exact absurd z.symm q
          · exact z
        obtain ⟨j, h1, h2, h3, h4⟩ := ih r2 hi
        refine ⟨j + 1, by simpa using h1, fun v e => h2 v (by simpa using e), fun m v hm e => ?_, ?_⟩
        · cases m with
          | zero =>
            have : Value.int a t = v := by simpa using e
            rw [← this]
            show (a == i) = false
            simpa using q
          | succ m => exact h3 m v (by omega) (by simpa using e)
        · rw [List.erase_cons_tail (by simpa using q), h4]; rfl
theorem map_eraseIdx' {α β : Type} (f : α → β) : ∀ (l : List α) (j : Nat), (l.eraseIdx j).map f = (l.map f).eraseIdx j
  | [], _ => rfl
  | _ :: _, 0 => rfl
  | a :: l, j + 1 => by show f a :: (l.eraseIdx j).map f = f a :: (l.map f).eraseIdx j; rw [map_eraseIdx' f l j]
theorem mt_remove : MtR X "list.remove" rRemove := by
  intro pins s σ H x vs v us Q I rx rv h
  obtain ⟨l, ns, i, rfl, rfl, hH, hi, q⟩ := h
  cases rx
  obtain ⟨u, rfl, ru⟩ := vals1 rv
  obtain ⟨t, rfl⟩ := ru
  obtain ⟨z, its, n, r, hl, e⟩ := I.lstM hH
  obtain ⟨j, h1, h2, h3, h4⟩ := vals_erase r hi
  have hs : its.length ≤ sizeLine := by omega
  have hint : ∀ y, y ∈ its → ∃ k t, y = Value.int k t := fun y hy => by
    obtain ⟨m, hm, em⟩ := List.mem_iff_getElem.mp hy
    obtain ⟨x, hx, rx⟩ := vals_get r (List.getElem?_eq_getElem hm)
    rw [List.getElem?_map] at hx
    cases q : ns[m]? with
    | none => rw [q] at hx; cases hx
    | some k =>
      rw [q] at hx
      cases hx
      obtain ⟨t, et⟩ := rx
      exact ⟨k, t, by rw [← em]; exact et⟩
  have ME := PySem.MeetsSeq.list_remove l its.toArray n (.int i t) (isIntV i) (fun y hy => by
    obtain ⟨k, t', rfl⟩ := hint y (by simpa using hy)
    exact PySem.MeetsSeq.EqGives.int k i t' t) j (by simpa using h1) (by simpa using h2 _ (List.getElem?_eq_getElem h1)) (fun m hm hlt => by
      have hm' : m < its.length := by simpa using hm
      simpa using h3 m _ hlt (List.getElem?_eq_getElem hm')) (by rw [List.size_toArray]; exact hs)
  refine call_meets F.slot_list_remove ⟨_, e, rfl⟩ F.entry_list_remove (F.args_list_remove_2 _ _) ME ⟨e, ?_⟩
  refine ⟨.non, _, I.lset (its' := its.eraseIdx j) hH e ?_ (by rw [h4, map_eraseIdx']; exact r.eraseIdx j) ?_, rfl, q⟩
  · rw [show its.toArray.eraseIdxIfInBounds j = (its.eraseIdx j).toArray by simp [Array.eraseIdxIfInBounds, h1]]
  · rw [List.length_map]
    have := List.length_erase_le (l := ns) (a := i)
    rw [List.length_map] at z
    omega
theorem m_remove (K : PySem.W.Frag) {o e : Expr} {to : TE} {t : TA} {apos cpos : Pos} (ho : PE X o to) (ha : PA X [e] t)
    (hbase : attributeBase o "remove" X.env (eval o X.env) = eval o X.env := by rfl)
    (hfew : ((backTo cpos (starEach [e] X.env)).all (fun x => !x.1) && (backToKw cpos (keywordEach [] X.env)).all (fun x => x.1.isSome)
      && decide ([e].length + ([] : List Keyword).length + (if ([] : List Keyword).isEmpty then 0 else 1) < 30)) = true := by rfl)
    (hline : (apos.endLine == cpos.line) = true := by rfl) (hs : starEach [e] X.env = (false, eval e X.env) :: starEach [] X.env := by rfl) (hplain : (backTo cpos (starEach [] X.env)).any (·.1) = false := by rfl) (hK : X.K = K := by rfl) :
    PE X (.Call (.Attribute o "remove" apos) [e] [] cpos) (tBM K "list" rRemove to t) := hK ▸ pe_bm PySem.F.plainAttrs_list PySem.F.slot_list_remove PySem.F.type_list_remove mt_remove ho ha hbase hfew hline hs hplain
end
end L2
namespace MG
variable {es : List (Nat × Nat)} {goal : Nat}
end MG
namespace L2
open PySem PySem.Spec PyProof.Rows
open PySem.AutoSeq1 (wpAny_loadPart')
section
variable {prog : Program} {w : World} {A : Around} {E : Value → Shared → Prop} {s : Shared}
theorem nextT_item {jt tt : Addr} {i : Nat} {its : Array Value} {y : Value} {Q : Value → Shared → Prop} (hj : s.heap.IsTupleIter jt tt i) (htt : s.heap.IsTuple tt its) (hy : its[i]? = some y)
    (hQ : ∀ h', h'.IsTupleIter jt tt (i + 1) → Heap.SameBut jt s.heap h' → Q y { s with heap := h' }) : wpAny (model prog w) A (Builtin.SmallTypes.nextOf (.ref jt)) Q E s := by
  obtain ⟨oj, hoj, cj, dj⟩ := id hj
  obtain ⟨ot, hot, _, nt, dt⟩ := htt
  unfold Builtin.SmallTypes.nextOf
  refine wpAny_bind (wpAny_callSpecial?_slot (name := Str.ofString "__next__") hj.typeIs F.slot_tuple_iterator_next (wpAny_call_entry F.slot_tuple_iterator_next hj.typeIs F.entry_tuple_iterator_next ?_ (F.args_tuple_iterator_next_1 _)))
  show wpAny _ _ (field (.ref jt) 0 >>= _) _ _ s
  refine wpAny_bind (wpAny_field hoj dj (x := .ref tt) rfl ?_)
  show wpAny _ _ (if (Value.ref tt == Value.none) = true then _ else _) _ _ s
  rw [if_neg (show ¬ ((Value.ref tt == Value.none) = true) from Bool.false_ne_true)]
  show wpAny _ _ (field (.ref jt) 1 >>= _) _ _ s
  refine wpAny_bind (wpAny_field hoj dj (x := .int i 0) rfl (wpAny_bind (wpAny_seqItems hot dt ?_)))
  simp only [Int.toNat_natCast, hy]
  refine wpAny_bind (wpAny_setField hoj dj (by simp) (wpAny_pure ⟨y, rfl, wpAny_pure (hQ _ ?_ (Heap.SameBut.update ..))⟩))
  exact ⟨_, Heap.get?_update_self _ hoj (Obj.isFreed_of_fields (Obj.data_mapFields dj _)), (Obj.cls_mapFields ..).trans cj, by rw [Obj.data_mapFields dj]; simp [rawInt]⟩
theorem nextT_end {jt tt : Addr} {i : Nat} {its : Array Value} {Q : Value → Shared → Prop} (hh : A.handled = none) (hj : s.heap.IsTupleIter jt tt i) (htt : s.heap.IsTuple tt its) (hy : its[i]? = none)
    (hE : ∀ h' e, Heap.ExtBut jt s.heap h' → (∃ o, h'.get? e = some o ∧ o.cls = .type "StopIteration") → E (.ref e) { s with heap := h' }) : wpAny (model prog w) A (Builtin.SmallTypes.nextOf (.ref jt)) Q E s := by
  obtain ⟨oj, hoj, cj, dj⟩ := id hj
  obtain ⟨ot, hot, _, nt, dt⟩ := htt
  unfold Builtin.SmallTypes.nextOf
  refine wpAny_bind (wpAny_callSpecial?_slot (name := Str.ofString "__next__") hj.typeIs F.slot_tuple_iterator_next (wpAny_call_entry F.slot_tuple_iterator_next hj.typeIs F.entry_tuple_iterator_next ?_ (F.args_tuple_iterator_next_1 _)))
  show wpAny _ _ (field (.ref jt) 0 >>= _) _ _ s
  refine wpAny_bind (wpAny_field hoj dj (x := .ref tt) rfl ?_)
  show wpAny _ _ (if (Value.ref tt == Value.none) = true then _ else _) _ _ s
  rw [if_neg (show ¬ ((Value.ref tt == Value.none) = true) from Bool.false_ne_true)]
  show wpAny _ _ (field (.ref jt) 1 >>= _) _ _ s
  refine wpAny_bind (wpAny_field hoj dj (x := .int i 0) rfl (wpAny_bind (wpAny_seqItems hot dt ?_)))
  simp only [Int.toNat_natCast, hy]
  refine wpAny_bind (wpAny_rule (wpAny_bind (wpAny_setField hoj dj (by simp) ?_)))
  show wpAny _ _ (newExc (.type "StopIteration") [] >>= _) _ _ _
  refine wpAny_bind ?_
  simp only [newExc, newTuple]
  refine wpAny_bind (wpAny_newObj_type (wpAny_bind (m := firstArgMember _ _) (wpAny_of_eq (a := Value.none) (by first | rfl | (simp only [firstArgMember]; rfl)) ?_)) (by size_fits))
  refine wpAny_newObj_type ?_ (by size_fits)
  simp only [raiseNew]
  refine wpAny_bind (wpAny_handled ?_)
  first | rw [show A.in1.handled = none from hh] | rw [hh]
  refine wpAny_bind (wpAny_pure (wpAny_throw (hE _ _ (((Heap.SameBut.update ..).extBut.push _).push _) ⟨_, Heap.get?_push_size _ rfl, rfl⟩)))
theorem drawsT {prog : Program} {w : World} {A : Around} (hh : A.handled = none) (jt tt : Addr) (hne : tt ≠ jt) (its : Array Value) :
    Draws prog w A jt [jt, tt] its.size (fun i y => its[i]? = some y) (fun i h => h.IsTupleIter jt tt i ∧ h.IsTuple tt its) where
  live := fun i h st => let ⟨o, e, _⟩ := st.1; ⟨o, e⟩
  frame := fun i h h' st k => ⟨let ⟨o, e, r⟩ := st.1; ⟨o, k jt (by simp) o e, r⟩, let ⟨o, e, r⟩ := st.2; ⟨o, k tt (by simp) o e, r⟩⟩
  item := fun i s Q E hi st hQ => nextT_item st.1 st.2 (y := its[i]) (by simp [hi]) fun h' j' sb => hQ _ h' s.toks (by simp [hi]) ⟨j', st.2.extBut sb.extBut hne⟩ sb
  done := fun s Q E st hE => nextT_end hh st.1 st.2 (by simp) hE
set_option maxHeartbeats 1000000 in
theorem meets_enumT (l : Addr) (its : Array Value) (n : Nat) (dct : Option Addr) (sl : Array (Option Value)) :
    Meets (Builtin.«enumerate.__new__» ⟨[.type "enumerate", .ref l], []⟩) (fun _ R s => s.heap.get? l = some { cls := .type "tuple", dict := dct, data := .seq its n, slots := sl } ∧
      R (.ok (.ret (.ref (s.heap.push { cls := .type "tuple_iterator", data := .fields #[.ref l, .int 0 0] }).objs.size)))
        { s with heap := (s.heap.push { cls := .type "tuple_iterator", data := .fields #[.ref l, .int 0 0] }).push { cls := .type "enumerate", data := .fields #[.none, .bool false, .ref s.heap.objs.size, rawInt 0, .none, .none] } }) :=
  .of_wp fun prog w A R s h => by
    obtain ⟨h0, g0, d0, t0, os0⟩ := s
    obtain ⟨hl, h⟩ := h
    have hsub := sub_enumerate
    have hT : Heap.IsTuple (Shared.heap ⟨h0, g0, d0, t0, os0⟩) l its := ⟨_, hl, rfl, n, rfl⟩
    wp_walk using wpAny_loadPart' hl
    refine wpAny_stack_any fun st => wpAny_pure ?_
    split
    · rename_i c _ _ _ _ _
      cases (c == Value.type "enumerate")
      · wp_walk using wpAny_loadPart' hl, wpAny_pyIter_tuple hT
        exact ⟨_, rfl, h⟩
      · wp_walk using wpAny_loadPart' hl, wpAny_pyIter_tuple hT
        exact ⟨_, rfl, h⟩
    · wp_walk using wpAny_loadPart' hl, wpAny_pyIter_tuple hT
      exact ⟨_, rfl, h⟩
theorem call_enumT {l : Addr} {its : Array Value} {Q : Value → Shared → Prop} (hT : s.heap.IsTuple l its)
    (h : ∀ h', IsEnum h' (s.heap.objs.size + 1) s.heap.objs.size 0 .none → h'.IsTupleIter s.heap.objs.size l 0 → (∀ b o, s.heap.get? b = some o → h'.get? b = some o) → Q (.ref (s.heap.objs.size + 1)) { s with heap := h' }) :
    wpAny (model prog w) A (call (.type "enumerate") [.ref l]) Q E s := by
  obtain ⟨⟨c, dct, dt, sl⟩, hl, hc, n, hd⟩ := hT
  replace hc : c = .type "tuple" := hc
  replace hd : dt = .seq its n := hd
  subst hc hd
  refine callType_new F.called_enumerate (by decide) (F.typeCall_enumerate_1 _) (F.newCall_enumerate_1 _) (fun obj => F.args_object_init_2 obj _) F.entry_enumerate_new (meets_enumT l its n dct sl) ⟨hl, ?_⟩
  have hz : (s.heap.push { cls := .type "tuple_iterator", data := .fields #[.ref l, .int 0 0] }).objs.size = s.heap.objs.size + 1 := Heap.size_push ..
  show _ ∧ _
  rw [hz]
  have he : IsEnum ((s.heap.push { cls := .type "tuple_iterator", data := .fields #[.ref l, .int 0 0] }).push { cls := .type "enumerate", data := .fields #[.none, .bool false, .ref s.heap.objs.size, rawInt 0, .none, .none] }) (s.heap.objs.size + 1) s.heap.objs.size 0 .none := by
    have := Heap.get?_push_size (s.heap.push { cls := .type "tuple_iterator", data := .fields #[.ref l, .int 0 0] }) (o := { cls := .type "enumerate", data := .fields #[.none, .bool false, .ref s.heap.objs.size, rawInt 0, .none, .none] }) rfl
    rw [hz] at this; exact this
  exact ⟨⟨_, he, rfl⟩, h _ he ⟨_, Heap.get?_push_of_some _ (Heap.get?_push_size _ rfl), rfl, rfl⟩ fun b o x => Heap.get?_push_of_some _ (Heap.get?_push_of_some _ x)⟩
end
noncomputable def IteT (K : PySem.W.Frag) (a : Addr) : It :=
  ⟨fun i H => ∃ xs x, SqT K H a xs ∧ xs[i]? = some x, fun i H v H' => ∃ p x, H p = none ∧ v = .ref p ∧ (∀ xs, SqT K H a xs → xs[i]? = some x) ∧ H' = upd H p (.tup [.int i, x]), fun i H => ∃ xs, SqT K H a xs ∧ xs.length ≤ i⟩
theorem turn_enumT {P : Program} {w : World} {K : PySem.W.Frag} {elts : List Expr} {k : Nat} {tp : Pos} (a e it : Addr) (hne : e ≠ it) :
    Turn P w K (.Tuple elts k tp) (IteT K a) [e, it] e (fun i h => (∃ old, IsEnum h e it i old) ∧ h.IsTupleIter it a i) where
  mem := by simp
  obj := fun i h st b hb => by
    obtain ⟨⟨old, he⟩, hit⟩ := st
    have hb : b = e ∨ b = it := by simpa using hb
    rcases hb with z | z
    · subst z
      exact ⟨_, he, fun v z => by cases z⟩
    · subst z
      obtain ⟨o, e1, c, d⟩ := hit
      exact ⟨o, e1, fun v z => by rw [d] at z; cases z⟩
  keep := fun i h h' st kk => by
    obtain ⟨⟨old, he⟩, hit⟩ := st
    exact ⟨⟨old, kk e (by simp) _ he⟩, let ⟨o, q, r⟩ := hit; ⟨o, kk it (by simp) o q, r⟩⟩
  item := by
    intro X hP hw hK hc i pins s σ H E I hf st hg
    subst hP hw hK
    obtain ⟨⟨old, he⟩, hit⟩ := st
    obtain ⟨xs, x, hq, hx⟩ := hg
    obtain ⟨its, rv, p, hz⟩ := I.tuple hq
    obtain ⟨u, hu, ru⟩ := rv.get hx
    obtain ⟨f0, f1, f2, f3, f4, f5⟩ := hf e (by simp)
    obtain ⟨g0, g1, g2, g3, g4, g5⟩ := hf it (by simp)
    have hel : e < s.heap.objs.size := Heap.lt_size he
    have hil : it < s.heap.objs.size := by obtain ⟨o, q, _⟩ := hit; exact Heap.lt_size q
    have hae : a ≠ e := fun z => by
      obtain ⟨o, q, c, _⟩ := p
      rw [z, he] at q; cases q; simp at c
    have hai : a ≠ it := fun z => by
      obtain ⟨o, q, c, _⟩ := p
      obtain ⟨o', q', c', _⟩ := hit
      rw [z, q'] at q; cases q; rw [c] at c'; simp at c'
    have hul := (List.getElem?_eq_some_iff.mp hu).1
    refine wpAny_pyNext_enum_itemD (drawsT (A := X.A.in1) (show X.A.in1.handled = none from I.ok.hd hc) it a hai its.toArray) he ⟨hit, p⟩ (by simpa using hul) hne (by simp [hne, Ne.symm hae]) fun u' h1 tk hu' ho hit1 ht1 hz1 k1 => ?_
    have eu : u' = u := by
      have : its[i]? = some u' := by simpa using hu'
      rw [hu] at this
      exact (Option.some.inj this).symm
    subst eu
    refine ⟨_, rfl, wpAny_letOwnedTupleGo_enum ho fun h2 he2 sb2 => ?_⟩
    have sb2 : Heap.SameBut e h1 h2 := sb2
    have T2 : h2.get? s.heap.objs.size = some { cls := .type "tuple", data := .seq #[.int i tk, u'] } := (sb2.2 _ (Nat.ne_of_gt hel)).trans ht1
    have hp : H s.heap.objs.size = none := I.hok.fresh (Nat.le_refl _)
    have nit : ∀ b v, H b = some v → b ≠ e ∧ b ≠ it := fun b v q => ⟨fun z => (by rw [z, f0] at q; cases q), fun z => (by rw [z, g0] at q; cases q)⟩
    have kk : ∀ b o, b ≠ e → b ≠ it → s.heap.get? b = some o → h2.get? b = some o := fun b o n1 n2 q => (sb2.2 b n1).trans (k1 b o n1 n2 q)
    have up : ∀ b v, H b = some v → upd H s.heap.objs.size (.tup [.int i, x]) b = some v := fun b v q => by rw [upd_ne (ne_of_none q hp)]; exact q
    have I1 : Inv X pins σ (upd H s.heap.objs.size (.tup [.int i, x])) { s with heap := h2, gens := s.gens, drawn := s.drawn, toks := tk + 1 } := by
      refine I.step (g' := s.gens) (d' := s.drawn) (ch := [e, it]) (fun b hb => ?_) (fun b o _ _ hb q _ => kk b o (fun z => hb (by simp [z])) (fun z => hb (by simp [z])) q) (fun b o _ _ hb q _ => ⟨o.slots, kk b o (fun z => hb (by simp [z])) (fun z => hb (by simp [z])) q⟩) (fun b o _ q n => ?_)
        (fun b o hb q => ⟨o, kk b o (fun z => hb (by simp [z])) (fun z => hb (by simp [z])) q⟩) (fun b ys q => up b _ q) (fun b o v q => up b _ q) (fun b ps q => ⟨#[], by rw [up b _ q]; simp⟩) (fun m hm => ?_) (fun b v q => ?_) I.bare
      · have hb : b = e ∨ b = it := by simpa using hb
        rcases hb with z | z
        · subst z; exact ⟨f3, f1, f4, f5⟩
        · subst z; exact ⟨g3, g1, g4, g5⟩
      · rw [upd_ne (Nat.ne_of_lt (Heap.lt_size q))]; exact n
      · obtain ⟨o, es, ep, ho, r⟩ := hm
        exact ⟨o, es, ep, kk _ o (Ne.symm f1) (Ne.symm g1) ho, r⟩
      · by_cases hb : b = s.heap.objs.size
        · subst hb
          rw [upd_same] at q
          have q' : HO.tup [V.int i, x] = v := Option.some.inj q
          subst q'
          exact ⟨by show 2 ≤ sizeLine; decide, [.int i tk, u'], .cons ⟨_, rfl⟩ (.cons ru .nil), ⟨_, T2, rfl, _, rfl, rfl⟩⟩
        · rw [upd_ne hb] at q
          refine (I.hok b v q).stay (fun c v' hc q' => ?_) (fun c q => up c _ q) fun c ys q => up c _ q
          rcases hc with z | z
          · rw [z] at q' ⊢; exact kk b v' (nit b v q).1 (nit b v q).2 q'
          · exact kk c v' (nit c _ z).1 (nit c _ z).2 q'
    refine ⟨.ref s.heap.objs.size, upd H s.heap.objs.size (.tup [.int i, x]), I1, rfl, ⟨_, x, hp, rfl, fun ys hy => by rw [I.tuple_inj hy hq]; exact hx, rfl⟩, ⟨⟨u', ?_⟩, ?_⟩, fun b hb => ?_⟩
    · exact (by simpa using he2)
    · obtain ⟨o, q, r⟩ := hit1.1
      exact ⟨o, (sb2.2 it (Ne.symm hne)).trans q, r⟩
    · have hb : b = e ∨ b = it := by simpa using hb
      rcases hb with z | z
      · rw [z, upd_ne (Nat.ne_of_lt hel)]; exact f0
      · rw [z, upd_ne (Nat.ne_of_lt hil)]; exact g0
  done := by
    intro X hP hw hK hc i pins s σ H E I hf st hg
    subst hP hw hK
    obtain ⟨⟨old, he⟩, hit⟩ := st
    obtain ⟨xs, hq, hx⟩ := hg
    obtain ⟨its, rv, p, hz⟩ := I.tuple hq
    obtain ⟨g0, g1, g2, g3, g4, g5⟩ := hf it (by simp)
    have hl := rv.length
    have hT : s.TypeIs (.ref e) "enumerate" := ⟨_, he, rfl⟩
    unfold pyNext
    refine wpAny_bind (wpAny_attempt (wpAny_callSpecial?_slot (name := Str.ofString "__next__") hT F.slot_enumerate_next (wpAny_call_entry F.slot_enumerate_next hT F.entry_enumerate_next ?_ (F.args_enumerate_next_1 _))))
    show wpAny _ _ (field (.ref e) 2 >>= _) _ _ _
    refine wpAny_bind (wpAny_field he rfl (x := .ref it) rfl (wpAny_bind (nextT_end (I.ok.hd hc) hit p (by simp; omega) fun h' x he' hx' => ?_)))
    obtain ⟨o, ho, hc'⟩ := hx'
    refine wpAny_bind (wpAny_isInstance (T := "StopIteration") (b := true) ⟨o, ho, hc'⟩ isSubtype_stop ?_)
    exact wpAny_pure ⟨rfl, I.turned (t' := s.toks) (fun b o hb q => he' b o hb q) g0 g1 g3 g4 g5⟩
  self := fun _ _ _ _ _ st h => by
    obtain ⟨⟨old, he⟩, _⟩ := st
    exact wpAny_pyIter_enum he h
inductive EnmR (K : PySem.W.Frag) (H : Hp) : V → (It → Hp → Prop) → Prop
  | lst {a : Addr} {xs : List V} {R : It → Hp → Prop} : SqL K H a xs → R (Ite K a) H → EnmR K H (.ref a) R
  | tup {a : Addr} {xs : List V} {R : It → Hp → Prop} : SqT K H a xs → R (IteT K a) H → EnmR K H (.ref a) R
noncomputable def iEnumX (K : PySem.W.Frag) (ta : TA) : TI := fun σ H R => ta σ H fun vs H1 => ∃ x, vs = [x] ∧ EnmR K H1 x R
theorem pi_enumX (K : PySem.W.Frag) {X : Cx} {elts : List Expr} {k : Nat} {tp : Pos} {a : Expr} {ta : TA} {p pos : Pos} (hg : Gl X "enumerate") (hm : X.mg "enumerate" = none) (ha : PA X [a] ta) (hs : starEach [a] X.env = [(false, eval a X.env)] := by rfl) (hK : X.K = K := by rfl) :
    PI X (.Tuple elts k tp) (.Call (.Name "enumerate" p) [a] [] pos) (iEnumX K ta) := by
  subst hK
  intro pins s σ H R I h
  refine Call_ (ld_blt I hg hm boot_enumerate (PyProof.Rows.callWith_type1 (thn (ha pos pins s σ H _ I h) fun us s1 ⟨vs, H1, I1, r1, q1⟩ => ?_) hs rfl))
  obtain ⟨x, e, q⟩ := q1
  subst e
  obtain ⟨u, rfl, ru⟩ := vals1 r1
  have fin : ∀ b, b = s1.heap.objs.size + 1 ∨ b = s1.heap.objs.size → FpOk X pins H1 b := fun b hb => by
    rcases hb with z | z
    · subst z; exact I1.fpOk (Nat.le_succ _) (I1.hok.fresh (Nat.le_succ _))
    · subst z; exact I1.fpOk (Nat.le_refl _) (I1.hok.fresh (Nat.le_refl _))
  cases q with
  | lst hq q =>
    cases ru
    obtain ⟨its, rv, pl, hz⟩ := I1.list hq
    refine call_enumerate_list pl.isList fun h' he hit hz' k' => wpAny_pyIter_enum (s := { s1 with heap := h' }) he ?_
    exact ⟨_, [s1.heap.objs.size + 1, s1.heap.objs.size], _, _, H1, rfl, I1.kept (t' := s1.toks) k', turn_enum _ _ _ (Nat.succ_ne_self _), ⟨⟨_, he⟩, hit⟩, fun b hb => fin b (by simpa using hb), q⟩
  | tup hq q =>
    cases ru
    obtain ⟨its, rv, pl, hz⟩ := I1.tuple hq
    refine call_enumT pl fun h' he hit k' => wpAny_pyIter_enum (s := { s1 with heap := h' }) he ?_
    exact ⟨_, [s1.heap.objs.size + 1, s1.heap.objs.size], _, _, H1, rfl, I1.kept (t' := s1.toks) k', turn_enumT _ _ _ (Nat.succ_ne_self _), ⟨⟨_, he⟩, hit⟩, fun b hb => fin b (by simpa using hb), q⟩
theorem for_enumT {K : PySem.W.Frag} {a : Addr} {xs : List V} {g : TG} {tb : TS} {D : Ends} {σ : St} {H : Hp} (Pv : Nat → St → Hp → Prop) (h0 : Pv 0 σ H) (hl : ∀ i σ H, i ≤ xs.length → Pv i σ H → SqT K H a xs)
    (hs : ∀ i x σ H p, xs[i]? = some x → Pv i σ H → H p = none → g (.ref p) σ (upd H p (.tup [.int i, x])) fun σ2 H2 => tb { D with nx := Pv (i + 1), ct := Pv (i + 1), bk := D.nx } σ2 H2) (hd : ∀ σ H, Pv xs.length σ H → D.nx σ H) :
    ∃ W : Nat → Nat → St → Hp → Prop, (∃ m, W 0 m σ H) ∧ ∀ i m σ H, W i m σ H →
      ((IteT K a).stop i H ∧ D.nx σ H) ∨ ((IteT K a).go i H ∧ ∃ N : St → Hp → Prop, (∀ σ' H', N σ' H' → ∃ m', m' < m ∧ W (i + 1) m' σ' H') ∧ ∀ x H', (IteT K a).yld i H x H' → g x σ H' fun σ2 H2 => tb { D with nx := N, ct := N, bk := D.nx } σ2 H2) := by
  refine ⟨fun i m σ H => m = xs.length - i ∧ i ≤ xs.length ∧ Pv i σ H, ⟨xs.length, by simp, Nat.zero_le _, h0⟩, ?_⟩
  rintro i m σ H ⟨rfl, hi, p⟩
  have q := hl i σ H hi p
  by_cases hlt : i < xs.length
  · refine .inr ⟨⟨xs, xs[i], q, by simp [hlt]⟩, Pv (i + 1), fun σ' H' p' => ⟨xs.length - (i + 1), by omega, rfl, hlt, p'⟩, fun x H' y => ?_⟩
    obtain ⟨r, z, hr, rfl, hz, rfl⟩ := y
    exact hs i z σ H r (hz xs q) p hr
  · have e : i = xs.length := by omega
    subst e
    exact .inl ⟨⟨xs, q, Nat.le_refl _⟩, hd σ H p⟩
end L2
namespace L2
open PySem PySem.Spec PyProof.Rows
inductive Thg (H : Hp) : V → Prop
  | non : Thg H .non
  | bl (b : Bool) : Thg H (.bl b)
  | int (i : Int) : Thg H (.int i)
  | str {z : Str} : z.length ≤ sizeLine → Thg H (.str z)
  | lst {a : Addr} {xs : List V} : H a = some (.lst xs) → Thg H (.ref a)
  | tup {a : Addr} {xs : List V} : H a = some (.tup xs) → Thg H (.ref a)
  | dK {a : Addr} {kvs : List (Key × V)} : H a = some (.dK kvs) → Thg H (.ref a)
  | dT {a : Addr} {kvs : List (List Key × V)} : H a = some (.dT kvs) → Thg H (.ref a)
theorem Thg.same {H H' : Hp} {x : V} (h : Thg H x) (s : Same H H') : Thg H' x := by
  cases h with
  | non => exact .non
  | bl b => exact .bl b
  | int i => exact .int i
  | str z => exact .str z
  | lst e => exact .lst (s _ _ e)
  | tup e => exact .tup (s _ _ e)
  | dK e => exact .dK (s _ _ e)
  | dT e => exact .dT (s _ _ e)
noncomputable def isS : V → Bool
  | .str _ => true
  | _ => false
noncomputable def isI : V → Bool
  | .int _ | .bl _ => true
  | _ => false
noncomputable def isB : V → Bool
  | .bl _ => true
  | _ => false
noncomputable def isL (H : Hp) : V → Bool
  | .ref a => match H a with
    | some (.lst _) => true
    | _ => false
  | _ => false
noncomputable def isT (H : Hp) : V → Bool
  | .ref a => match H a with
    | some (.tup _) => true
    | _ => false
  | _ => false
theorem isL_of {H : Hp} {a : Addr} {xs : List V} (e : H a = some (.lst xs)) : isL H (.ref a) = true := by show (match H a with | some (.lst _) => true | _ => false) = true; rw [e]
theorem isT_of {H : Hp} {a : Addr} {xs : List V} (e : H a = some (.tup xs)) : isT H (.ref a) = true := by show (match H a with | some (.tup _) => true | _ => false) = true; rw [e]
theorem isL_inv {H : Hp} {x : V} (h : isL H x = true) : ∃ a xs, x = .ref a ∧ H a = some (.lst xs) := by
  cases x with
  | ref a =>
    have h : (match H a with | some (.lst _) => true | _ => false) = true := h
    split at h
    · rename_i xs e; exact ⟨a, xs, rfl, e⟩
    · cases h
  | _ => cases h
theorem isL_not {H : Hp} {a : Addr} {o : HO} (e : H a = some o) (n : ∀ xs, o ≠ .lst xs) : isL H (.ref a) = false := by
  show (match H a with | some (.lst _) => true | _ => false) = false
  rw [e]; split
  · rename_i xs q; exact absurd (Option.some.inj q) (n xs)
  · rfl
theorem isT_not {H : Hp} {a : Addr} {o : HO} (e : H a = some o) (n : ∀ xs, o ≠ .tup xs) : isT H (.ref a) = false := by
  show (match H a with | some (.tup _) => true | _ => false) = false
  rw [e]; split
  · rename_i xs q; exact absurd (Option.some.inj q) (n xs)
  · rfl
theorem ty_thg {K : PySem.W.Frag} {H : Hp} {x : V} (h : Thg H x) : ∃ t, TyOf K H x t ∧ PySem.W.kitOne K t (.type "str") = some (isS x) ∧ PySem.W.kitOne K t (.type "int") = some (isI x) ∧ PySem.W.kitOne K t (.type "bool") = some (isB x) ∧
    PySem.W.kitOne K t (.type "list") = some (isL H x) ∧ PySem.W.kitOne K t (.type "tuple") = some (isT H x) := by
  cases h with
  | non => exact ⟨_, .non, by rfl, by rfl, by rfl, by rfl, by rfl⟩
  | bl b => exact ⟨_, .bl b, by rfl, by rfl, by rfl, by rfl, by rfl⟩
  | int i => exact ⟨_, .int i, by rfl, by rfl, by rfl, by rfl, by rfl⟩
  | str z => exact ⟨_, .str _, by rfl, by rfl, by rfl, by rfl, by rfl⟩
  | lst e => exact ⟨_, .lst e, by rfl, by rfl, by rfl, by rw [isL_of e]; rfl, by rw [isT_not e (fun _ z => by cases z)]; rfl⟩
  | tup e => exact ⟨_, .tup e, by rfl, by rfl, by rfl, by rw [isL_not e (fun _ z => by cases z)]; rfl, by rw [isT_of e]; rfl⟩
  | dK e => exact ⟨_, .dK e, by rfl, by rfl, by rfl, by rw [isL_not e (fun _ z => by cases z)]; rfl, by rw [isT_not e (fun _ z => by cases z)]; rfl⟩
  | dT e => exact ⟨_, .dT e, by rfl, by rfl, by rfl, by rw [isL_not e (fun _ z => by cases z)]; rfl, by rw [isT_not e (fun _ z => by cases z)]; rfl⟩
noncomputable def isLow (c : Nat) : Bool := decide (97 ≤ c) && decide (c ≤ 122)
noncomputable def isNm : V → Bool
  | .str z => decide (1 ≤ z.length) && (decide (z.length ≤ 8) && z.cps.toList.all isLow)
  | _ => false
theorem isNm_iff {z : Str} : isNm (.str z) = true ↔ Nm z := by
  show (decide (1 ≤ z.length) && (decide (z.length ≤ 8) && z.cps.toList.all isLow)) = true ↔ _
  rw [Bool.and_eq_true, Bool.and_eq_true, decide_eq_true_iff, decide_eq_true_iff, List.all_eq_true]
  unfold Nm
  constructor
  · rintro ⟨h1, h2, h3⟩
    refine ⟨h1, h2, fun c hc => ?_⟩
    have h := h3 c hc
    unfold isLow at h
    rw [Bool.and_eq_true, decide_eq_true_iff, decide_eq_true_iff] at h
    exact h
  · rintro ⟨h1, h2, h3⟩
    refine ⟨h1, h2, fun c hc => ?_⟩
    unfold isLow
    rw [Bool.and_eq_true, decide_eq_true_iff, decide_eq_true_iff]
    exact h3 c hc
theorem lt_one (c d : Nat) : decide ([c] < [d]) = decide (c < d) := by
  by_cases h : c < d
  · rw [decide_eq_true h]; exact decide_eq_true (List.Lex.rel h)
  · rw [decide_eq_false h]
    refine decide_eq_false fun z => ?_
    cases z with
    | rel z => exact h z
    | cons z => cases z
noncomputable def spIsName : Sp := fun vs H Q _ => ∃ x, vs = [x] ∧ Thg H x ∧ ∀ H', Same H H' → Q (.bl (isNm x)) H'
noncomputable def pK (e : Str × Str) : List Key := [.inr e.1, .inr e.2]
theorem pK_inj {e f : Str × Str} (h : pK e = pK f) : e = f := by
  unfold pK at h
  have h1 := List.cons.inj h
  have h2 := List.cons.inj h1.2
  exact Prod.ext (Sum.inr.inj h1.1) (Sum.inr.inj h2.1)
inductive PlR (H : Hp) : V → VK → Prop
  | nm {a : Addr} {xs : List Str} {Q : VK} : (H a = some (.lst (List.map V.str xs)) ∨ H a = some (.tup (List.map V.str xs))) → xs.length ≤ 1000 →
      (∀ d kvs H', Same H H' → H d = none → H' d = some (.dK kvs) → (∀ s, (valV kvs (.inr s)).isSome = true ↔ s ∈ xs) → (∀ s v, valV kvs (.inr s) = some v → ∃ j : Nat, v = .int j ∧ xs[j]? = some s) → (kvs.map (·.1)).Nodup → (∀ k ∈ kvs.map (·.1), ∃ s ∈ xs, k = Sum.inr s) → Q (.ref d) H') → PlR H (.ref a) Q
  | pr {a : Addr} {refs : List V} {ps : List (Str × Str)} {Q : VK} : (H a = some (.lst refs) ∨ H a = some (.tup refs)) → RepAll H refs (ps.map pairD) → ps.length ≤ 1000 →
      (∀ d kvs H', Same H H' → H d = none → H' d = some (.dT kvs) → (∀ e : Str × Str, (valV kvs (pK e)).isSome = true ↔ e ∈ ps) → Q (.ref d) H') → PlR H (.ref a) Q
noncomputable def spPlacesX : Sp := fun vs H Q _ => ∃ x, vs = [x] ∧ PlR H x Q
section
variable {X : Cx} {p pos p2 pos2 : Pos} {e f : Expr} {t : TA}
inductive IntR (H : Hp) : V → VK → Prop
  | int {i : Int} {Q : VK} : Q (.int i) H → IntR H (.int i) Q
  | bl {b : Bool} {Q : VK} : Q (.int (if b then 1 else 0)) H → IntR H (.bl b) Q
theorem b_int (B : Blt X.mg) (ha : PA X [e] t) (hg : Gl X "int" := by rfl) (he : starEach [e] X.env = (false, eval e X.env) :: starEach [] X.env := by rfl) (hpl : (backTo pos (starEach [] X.env)).any (·.1) = false := by rfl) :
    PE X (.Call (.Name "int" p) [e] [] pos) (tCB (fun xs H Q => ∃ x, xs = [x] ∧ IntR H x Q) t) := by
  refine pe_callTy (r := fun xs H Q => ∃ x, xs = [x] ∧ IntR H x Q) (fun pins s σ H xs us Q I r h => ?_) hg B.int PyProof.Rows.boot_int ha (by decide) (by decide) he hpl
  obtain ⟨x, rfl, h⟩ := h
  cases h with
  | int q => exact call_int1 pins s σ H _ us Q I r (.inl ⟨_, rfl, q⟩)
  | bl q => exact call_int1 pins s σ H _ us Q I r (.inr ⟨_, rfl, q⟩)
end
end L2
namespace L2
open PySem PySem.Spec PyProof.Rows
section
variable {X : Cx} {p pos : Pos} {e : Expr} {t : TA}
noncomputable def rLenD : List V → Hp → VK → Prop := fun xs H Q => ∃ a kvs, xs = [V.ref a] ∧ H a = some (.dK kvs) ∧ Q (.int kvs.length) H
theorem b_lenD (B : Blt X.mg) (ha : PA X [e] t) (hg : Gl X "len" := by rfl) (he : starEach [e] X.env = (false, eval e X.env) :: starEach [] X.env := by rfl) (hpl : (backTo pos (starEach [] X.env)).any (·.1) = false := by rfl) : PE X (.Call (.Name "len" p) [e] [] pos) (tCB rLenD t) :=
  pe_callB call_lenD hg B.len PySem.boot_len ha (by decide) (by decide) he hpl
end
theorem twice_of {α : Type} [DecidableEq α] : ∀ {l : List α}, ¬ l.Nodup → ∃ l1 a l2, l = l1 ++ a :: l2 ∧ a ∈ l2
  | [], h => absurd List.nodup_nil h
  | x :: l, h => by
    by_cases q : x ∈ l
    · exact ⟨[], x, l, rfl, q⟩
    · have h : ¬ l.Nodup := fun z => h (List.nodup_cons.mpr ⟨q, z⟩)
      obtain ⟨l1, a, l2, e, m⟩ := twice_of h
      exact ⟨x :: l1, a, l2, by rw [e]; rfl, m⟩
theorem len_keys {α : Type} [DecidableEq α] {ks ws : List α} (nd : ks.Nodup) (h1 : ∀ k ∈ ks, k ∈ ws) (h2 : ∀ w ∈ ws, w ∈ ks) : ks.length = ws.length ↔ ws.Nodup := by
  constructor
  · intro hl
    refine Classical.byContradiction fun hn => ?_
    obtain ⟨l1, a, l2, e, m⟩ := twice_of hn
    have := nd.length_le_of_subset (l₂ := l1 ++ l2) fun k hk => by
      have := h1 k hk
      rw [e] at this
      rcases List.mem_append.mp this with q | q
      · exact List.mem_append_left _ q
      · rcases List.mem_cons.mp q with q | q
        · rw [q]; exact List.mem_append_right _ m
        · exact List.mem_append_right _ q
    rw [hl, e, List.length_append, List.length_append, List.length_cons] at this
    omega
  · intro hw
    exact Nat.le_antisymm (nd.length_le_of_subset h1) (hw.length_le_of_subset h2)
theorem len_kvs {kvs : List (Key × V)} {ws : List Str} (nd : (kvs.map (·.1)).Nodup) (ks : ∀ k ∈ kvs.map (·.1), ∃ s ∈ ws, k = Sum.inr s) (hin : ∀ s, (valV kvs (.inr s)).isSome = true ↔ s ∈ ws) : kvs.length = ws.length ↔ ws.Nodup := by
  have h := len_keys (ks := kvs.map (·.1)) (ws := ws.map (Sum.inr : Str → Key)) nd (fun k hk => by
      obtain ⟨s, hs, rfl⟩ := ks k hk
      exact List.mem_map.mpr ⟨s, hs, rfl⟩) (fun k hk => by
      obtain ⟨s, hs, rfl⟩ := List.mem_map.mp hk
      obtain ⟨v, hv⟩ := Option.isSome_iff_exists.mp ((hin s).mpr hs)
      exact valV_in hv)
  rw [List.length_map, List.length_map] at h
  rw [h]
  constructor
  · intro q
    exact List.Pairwise.of_map (Sum.inr : Str → Key) (fun a b n e => n (by rw [e])) q
  · intro q
    exact List.Pairwise.map _ (fun a b n e => n (Sum.inr.inj e)) q
noncomputable def inSS (ss : List Str) : V → Bool
  | .str s => decide (s ∈ ss)
  | _ => false
noncomputable def lstB (H : Hp) (ss : List Str) : V → Bool
  | .ref a => match H a with
    | some (.lst xs) => xs.all (inSS ss)
    | _ => false
  | _ => false
theorem lstB_lst {H : Hp} {ss : List Str} {a : Addr} {xs : List V} (e : H a = some (.lst xs)) : lstB H ss (.ref a) = xs.all (inSS ss) := by
  show (match H a with | some (.lst xs) => xs.all (inSS ss) | _ => false) = _
  rw [e]
theorem lstB_not {H : Hp} {ss : List Str} {x : V} (h : isL H x = false) : lstB H ss x = false := by
  cases x with
  | ref a =>
    show (match H a with | some (.lst xs) => xs.all (inSS ss) | _ => false) = false
    split
    · rename_i xs e; rw [isL_of e] at h; cases h
    · rfl
  | _ => rfl
theorem all_inSS {ss : List Str} : ∀ {xs : List V}, xs.all (inSS ss) = true → ∃ ws, xs = List.map V.str ws ∧ ∀ w ∈ ws, w ∈ ss
  | [], _ => ⟨[], rfl, fun w hw => by cases hw⟩
  | x :: xs, h => by
    rw [List.all_cons, Bool.and_eq_true] at h
    obtain ⟨ws, e, m⟩ := all_inSS h.2
    cases x with
    | str s =>
      have hs : s ∈ ss := of_decide_eq_true h.1
      refine ⟨s :: ws, by rw [e]; rfl, fun w hw => ?_⟩
      rcases List.mem_cons.mp hw with q | q
      · rw [q]; exact hs
      · exact m w q
    | _ => exact absurd h.1 (by simp [inSS])
theorem inSS_all {ss : List Str} {ws : List Str} (h : ∀ w ∈ ws, w ∈ ss) : (List.map V.str ws).all (inSS ss) = true := by
  rw [List.all_map, List.all_eq_true]
  intro w hw
  exact decide_eq_true (h w hw)
end L2
namespace L2
open PySem PySem.Spec PyProof.Rows PySem.Builtin PySem.Builtin.Str
theorem star_c {c : Const} {j : Nat} {p : Pos} {es : List Expr} {env : Env} : starEach (.Constant c j p :: es) env = (false, eval (.Constant c j p) env) :: starEach es env := rfl
theorem star_n {x : Str} {p : Pos} {es : List Expr} {env : Env} : starEach (.Name x p :: es) env = (false, eval (.Name x p) env) :: starEach es env := rfl
theorem star_s {x y : Expr} {p : Pos} {es : List Expr} {env : Env} : starEach (.Subscript x y p :: es) env = (false, eval (.Subscript x y p) env) :: starEach es env := rfl
theorem star_b {x y : Expr} {o : Operator} {p : Pos} {es : List Expr} {env : Env} : starEach (.BinOp x o y p :: es) env = (false, eval (.BinOp x o y p) env) :: starEach es env := rfl
theorem star_f {x : Expr} {xs : List Expr} {ks : List Keyword} {p : Pos} {es : List Expr} {env : Env} : starEach (.Call x xs ks p :: es) env = (false, eval (.Call x xs ks p) env) :: starEach es env := rfl
theorem star_d {xs : List (Option Expr)} {ys : List Expr} {p : Pos} {es : List Expr} {env : Env} : starEach (.Dict xs ys p :: es) env = (false, eval (.Dict xs ys p) env) :: starEach es env := rfl
end L2
namespace L2
open PySem PySem.Spec PyProof.Rows
theorem shownAll_map : ∀ ds : List PyData, PyData.shownAll ds = ds.map PyData.shown
  | [] => rfl
  | d :: ds => by
    show PyData.shown d :: PyData.shownAll ds = _
    rw [shownAll_map ds]; rfl
structure Sw (d : PyData) (n k : Nat) : Prop where
  lay : d.canLay0 = true
  sb : d.showable = true
  dp : d.depth ≤ k
  ln : d.shown.length ≤ n
theorem Sw.all {n k : Nat} : ∀ {ds : List PyData}, (∀ d ∈ ds, Sw d n k) → PyData.canLayAll0 ds = true ∧ PyData.showableAll ds = true ∧ PyData.depthAll ds ≤ k
  | [], _ => ⟨rfl, rfl, Nat.zero_le _⟩
  | d :: ds, h => by
    obtain ⟨a, b, c⟩ := Sw.all fun x hx => h x (List.mem_cons_of_mem _ hx)
    have q := h d (by simp)
    refine ⟨?_, ?_, ?_⟩
    · show (PyData.canLay0 d && PyData.canLayAll0 ds) = true
      rw [q.lay, a]; rfl
    · show (PyData.showable d && PyData.showableAll ds) = true
      rw [q.sb, b]; rfl
    · show max (PyData.depth d) (PyData.depthAll ds) ≤ k
      have := q.dp
      omega
theorem Sw.list {n k : Nat} {ds : List PyData} (h : ∀ d ∈ ds, Sw d n k) : Sw (.list ds) (2 + ds.length * (n + 2)) (k + 1) := by
  obtain ⟨a, b, c⟩ := Sw.all h
  refine ⟨a, b, (by show PyData.depthAll ds + 1 ≤ k + 1; omega), ?_⟩
  show (listText (PyData.shownAll ds)).length ≤ _
  rw [shownAll_map]
  have h1 := textFrom_le (n := n) (ds.map PyData.shown) 0 "[" fun t ht => by
    obtain ⟨e, he, rfl⟩ := List.mem_map.mp ht
    exact (h e he).ln
  rw [List.length_map] at h1
  have h3 : (Str.ofString "[").length = 1 := rfl
  have h4 : (Str.ofString "]").length = 1 := rfl
  have h1 : (textFrom 0 (Str.ofString "[") (ds.map PyData.shown)).length ≤ (Str.ofString "[").length + ds.length * (n + 2) := h1
  show (textFrom 0 "[" (ds.map PyData.shown) ++ "]").length ≤ _
  rw [len_app]
  show (textFrom 0 (Str.ofString "[") (ds.map PyData.shown)).length + (Str.ofString "]").length ≤ _
  omega
theorem Sw.shw {d : PyData} {n k : Nat} (h : Sw d n k) (hk : k ≤ 16) (hn : n ≤ sizeLine) : Shw d := by
  have sh : shp d := by
    show (PyData.canLay0 d && decide (PyData.depth d ≤ 64)) = true
    have := h.dp
    rw [h.lay, decide_eq_true (by omega)]; rfl
  exact ⟨sh, h.sb, PyData.hasDict_of_canLay _ (SeqAt.canLay_of_shaped sh), Nat.le_trans h.dp hk, Nat.le_trans h.ln hn⟩
theorem join_le {n : Nat} : ∀ (ts : List Str), (∀ t ∈ ts, t.length ≤ n) → (Str.join ", " ts).length ≤ ts.length * (n + 2)
  | [], _ => Nat.zero_le _
  | [y], h => by
    have := h y (by simp)
    show y.length ≤ 1 * (n + 2)
    omega
  | y :: z :: r, h => by
    have h1 := join_le (z :: r) fun t ht => h t (List.mem_cons_of_mem _ ht)
    have h2 := h y (by simp)
    have h3 : (Str.ofString ", ").length = 2 := rfl
    show (y ++ ", " ++ Str.join ", " (z :: r)).length ≤ ((z :: r).length + 1) * (n + 2)
    rw [len_app, len_app, Nat.succ_mul]
    show y.length + (Str.ofString ", ").length + _ ≤ _
    omega
theorem Sw.tuple {n k : Nat} {ds : List PyData} (h : ∀ d ∈ ds, Sw d n k) : Sw (.tuple ds) (3 + ds.length * (n + 2)) (k + 1) := by
  obtain ⟨a, b, c⟩ := Sw.all h
  refine ⟨a, b, (by show PyData.depthAll ds + 1 ≤ k + 1; omega), ?_⟩
  show (tupleText (PyData.shownAll ds)).length ≤ _
  rw [shownAll_map]
  have h1 := join_le (n := n) (ds.map PyData.shown) fun t ht => by
    obtain ⟨e, he, rfl⟩ := List.mem_map.mp ht
    exact (h e he).ln
  rw [List.length_map] at h1
  have h3 : (Str.ofString "(").length = 1 := rfl
  have h4 : ∀ b : Bool, (Str.ofString (if b then ",)" else ")" : String)).length ≤ 2 := by intro b; cases b <;> decide
  show (("(" : Str) ++ Str.join ", " (ds.map PyData.shown) ++ (if (ds.map PyData.shown).length == 1 then ",)" else ")" : String)).length ≤ _
  rw [len_app, len_app]
  have h5 := h4 ((ds.map PyData.shown).length == 1)
  show (Str.ofString "(").length + _ + (Str.ofString (if (ds.map PyData.shown).length == 1 then ",)" else ")" : String)).length ≤ _
  omega
end L2
namespace MG
noncomputable def exch {α : Type} (l : List α) (k : Nat) : List α := l.take k ++ ((l.drop (k + 1)).take 1 ++ (l.drop k).take 1) ++ l.drop (k + 2)
theorem map_exch {α β : Type} (f : α → β) (l : List α) (k : Nat) : (exch l k).map f = exch (l.map f) k := by
  unfold exch
  simp [List.map_take, List.map_drop]
theorem exch_at {α : Type} {l : List α} {k : Nat} {x y : α} (hx : l[k]? = some x) (hy : l[k + 1]? = some y) : exch l k = l.take k ++ [y, x] ++ l.drop (k + 2) := by
  unfold exch
  have h1 := (List.getElem?_eq_some_iff.mp hx).1
  have h2 := (List.getElem?_eq_some_iff.mp hy).1
  have e1 : (l.drop k).take 1 = [x] := by
    rw [List.drop_eq_getElem_cons h1, List.take_succ_cons, List.take_zero, (List.getElem?_eq_some_iff.mp hx).2]
  have e2 : (l.drop (k + 1)).take 1 = [y] := by
    rw [List.drop_eq_getElem_cons h2, List.take_succ_cons, List.take_zero, (List.getElem?_eq_some_iff.mp hy).2]
  rw [e1, e2]; rfl
theorem exch_perm {α : Type} {l : List α} {k : Nat} (h : k + 1 < l.length) : (exch l k).Perm l := by
  obtain ⟨x, hx⟩ : ∃ x, l[k]? = some x := ⟨_, List.getElem?_eq_getElem (by omega)⟩
  obtain ⟨y, hy⟩ : ∃ y, l[k + 1]? = some y := ⟨_, List.getElem?_eq_getElem h⟩
  rw [exch_at hx hy]
  have e : l = l.take k ++ (x :: y :: l.drop (k + 2)) := by
    have h1 := (List.getElem?_eq_some_iff.mp hx)
    have h2 := (List.getElem?_eq_some_iff.mp hy)
    rw [← h1.2, ← h2.2, ← List.drop_eq_getElem_cons h2.1, ← List.drop_eq_getElem_cons h1.1, List.take_append_drop]
  have q : (l.take k ++ [y, x] ++ l.drop (k + 2)).Perm (l.take k ++ (x :: y :: l.drop (k + 2))) := by
    rw [List.append_assoc]
    exact List.Perm.append_left _ (List.Perm.swap x y _)
  rw [← e] at q
  exact q
end MG
namespace L2
open PySem PySem.Spec PyProof.Rows
theorem cutV_from (xs : List V) (k : Nat) : cutV xs (some (k : Int)) none = xs.drop k := by
  unfold cutV
  rw [HT.sIx_nat, HT.sIx_none]
  by_cases h : k ≤ xs.length
  · rw [Nat.min_eq_left h, List.take_of_length_le (by rw [List.length_drop]; omega)]
  · rw [Nat.min_eq_right (by omega), List.drop_of_length_le (Nat.le_refl _), List.drop_of_length_le (by omega)]; simp
theorem cutV_to (xs : List V) (k : Nat) (h : k ≤ xs.length) : cutV xs none (some (k : Int)) = xs.take k := by
  unfold cutV
  rw [HT.sIx_nat, HT.sIx_none, Nat.min_eq_left h, List.drop_zero, Nat.sub_zero]
end L2
namespace MG
variable {α : Type}
theorem inv_cons (pos : α → Nat) (a : α) (l : List α) : (invR pos (a :: l)).length = (l.filter fun b => decide (pos b < pos a)).length + (invR pos l).length := by
  show (((l.filter fun b => decide (pos b < pos a)).map fun b => (a, b)) ++ invR pos l).length = _
  rw [List.length_append, List.length_map]
theorem inv_swap (pos : α → Nat) {x y : α} {r : List α} (h : pos y < pos x) : ∀ l : List α, (invR pos (l ++ y :: x :: r)).length + 1 = (invR pos (l ++ x :: y :: r)).length
  | [] => by
    show (invR pos (y :: x :: r)).length + 1 = (invR pos (x :: y :: r)).length
    rw [inv_cons, inv_cons, inv_cons, inv_cons, List.filter_cons, List.filter_cons]
    rw [if_neg (by simp; omega), if_pos (by simpa using h), List.length_cons]
    omega
  | a :: l => by
    have ih := inv_swap pos h (r := r) l
    show (invR pos (a :: (l ++ y :: x :: r))).length + 1 = (invR pos (a :: (l ++ x :: y :: r))).length
    rw [inv_cons, inv_cons]
    have p : (l ++ y :: x :: r).Perm (l ++ x :: y :: r) := List.Perm.append_left _ (List.Perm.swap x y r)
    have q := (p.filter fun b => decide (pos b < pos a)).length_eq
    omega
theorem inv_exch {pos : α → Nat} {l : List α} {m : Nat} {x y : α} (hx : l[m]? = some x) (hy : l[m + 1]? = some y) (h : pos y < pos x) : (invR pos (exch l m)).length + 1 = (invR pos l).length := by
  have h1 := (List.getElem?_eq_some_iff.mp hx)
  have h2 := (List.getElem?_eq_some_iff.mp hy)
  have e : l = l.take m ++ (x :: y :: l.drop (m + 2)) := by
    rw [← h1.2, ← h2.2, ← List.drop_eq_getElem_cons h2.1, ← List.drop_eq_getElem_cons h1.1, List.take_append_drop]
  have q := inv_swap pos h (r := l.drop (m + 2)) (l.take m)
  rw [← e] at q
  rw [exch_at hx hy, List.append_assoc]
  exact q
end MG
namespace L2
open PySem PySem.Spec PyProof.Rows
namespace SP
open PySem.Builtin PySem.Builtin.Str PySem.StrLaws
noncomputable abbrev one (c : Nat) : Str := ⟨#[c]⟩
end SP
end L2
namespace L2
open PySem PySem.Spec PyProof.Rows
theorem sumN_le {n : Nat} : ∀ (ys : List Str), (∀ y ∈ ys, y.length ≤ n) → (ys.map (·.length)).sum ≤ ys.length * n
  | [], _ => by simp
  | y :: r, h => by
    have h1 := sumN_le r fun t ht => h t (List.mem_cons_of_mem _ ht)
    have h2 := h y (by simp)
    rw [List.map_cons, List.sum_cons, List.length_cons, Nat.succ_mul]
    omega
end L2
namespace L2
open PySem PySem.Spec PyProof.Rows
inductive ItD (H : Hp) : V → PyData → Prop
  | tr {x : V} {d : PyData} : Rep H x d → d.hasDict = false → ItD H x d
  | dc {a : Addr} : H a = some (.dK []) → ItD H (.ref a) (.dict [])
inductive ItAll (H : Hp) : List V → List PyData → Prop
  | nil : ItAll H [] []
  | cons {x : V} {d : PyData} {xs : List V} {ds : List PyData} : ItD H x d → ItAll H xs ds → ItAll H (x :: xs) (d :: ds)
theorem ItD.same {H H' : Hp} {x : V} {d : PyData} (h : ItD H x d) (s : Same H H') : ItD H' x d := by
  cases h with
  | tr a b => exact .tr (a.same s) b
  | dc a => exact .dc (s _ _ a)
theorem ItAll.same {H H' : Hp} (s : Same H H') : ∀ {xs : List V} {ds : List PyData}, ItAll H xs ds → ItAll H' xs ds
  | _, _, .nil => .nil
  | _, _, .cons a b => .cons (a.same s) (b.same s)
theorem ItD.reads {P : Program} {w : World} {H : Hp} {h : Heap} {x : V} {d : PyData} {u : Value} (ok : HOk P w H h) (i : ItD H x d) (r : RelV x u) : ∃ as, Reads h u d as ∧ (d.hasDict = true → sysModules ∉ as) := by
  cases i with
  | tr rep hd =>
    obtain ⟨as, rd⟩ := rep.reads ok r
    exact ⟨as, rd, PyData.noDict_hsm hd⟩
  | @dc a e =>
    cases r
    obtain ⟨_, hsys, vs, rv, o, es, ep, h1, h2, h3, _, h5, _⟩ := (show ObjOk P w H h a (.dK []) from ok a _ e)
    obtain ⟨k1, k2⟩ := fl_pairs (h := h) rv h5 (kvs := []) rfl
    refine ⟨a :: [] ++ [], .dict h1 h2.1 h3 k1 k2, fun _ hm => ?_⟩
    have : sysModules = a := by simpa using hm
    rw [this] at hsys
    simp at hsys
theorem mix_all {P : Program} {w : World} {H : Hp} {h : Heap} (ok : HOk P w H h) : ∀ {xs : List V} {ds : List PyData} {us : List Value}, ItAll H xs ds → Vals xs us → PyData.showableAll ds = true → (∀ t ∈ PyData.shownAll ds, t.length ≤ sizeLine) →
    ∃ bs cs, ReadsAll h us ds cs ∧ ReadAtMost h (PyData.depthAll ds) bs ∧ ReprAllK P w bs h (PyData.depthAll ds) us (PyData.shownAll ds)
  | _, _, _, .nil, .nil, _, _ => ⟨[], [], .nil, (fun _ h => nomatch h), by simp only [PyData.shownAll]; exact .nil⟩
  | _, _, _, .cons (d := d) (ds := ds) i is, .cons r rs, hs, hz => by
    have hs' : d.showable = true ∧ PyData.showableAll ds = true := by simpa [PyData.showableAll] using hs
    obtain ⟨as, rd, hsm⟩ := i.reads ok r
    obtain ⟨b1, hb1, k1⟩ := ReprK.of_reads (prog := P) (w := w) rd hs'.1 hsm (hz _ (by simp only [PyData.shownAll]; exact List.mem_cons_self ..))
    obtain ⟨b2, c2, r2, hb2, k2⟩ := mix_all ok is rs hs'.2 (fun t ht => hz t (by simp only [PyData.shownAll]; exact List.mem_cons_of_mem _ ht))
    have e1 : d.depth ≤ PyData.depthAll (d :: ds) := by simp only [PyData.depthAll]; omega
    have e2 : PyData.depthAll ds ≤ PyData.depthAll (d :: ds) := by simp only [PyData.depthAll]; omega
    refine ⟨b1 ++ b2, as ++ c2, .cons rd r2, (hb1.mono e1).append (hb2.mono e2), ?_⟩
    simp only [PyData.shownAll]
    exact .cons ((k1.more (fun b hb => List.mem_append_left _ hb)).level_le e1) (k2.more_le (fun b hb => List.mem_append_right _ hb) e2)
noncomputable def rReprM : List V → Hp → VK → Prop := fun vs H Q => ∃ a xs ds, vs = [.ref a] ∧ H a = some (.lst xs) ∧ ItAll H xs ds ∧ PyData.showableAll ds = true ∧ PyData.depthAll ds ≤ 15 ∧ (PyData.list ds).shown.length ≤ sizeLine ∧ Q (.str (PyData.list ds).shown) H
section
variable {X : Cx}
theorem call_reprM (hg : X.A.guards = some []) (hu : X.A.units + 64 < cLine) : CallR X (.builtin "repr") rReprM := by
  intro pins s σ H vs us Q I r h
  obtain ⟨a, xs, ds, rfl, ea, it, hs, hdp, hz, q⟩ := h
  obtain ⟨u, rfl, ru⟩ := vals1 r
  cases ru
  cases it with
  | nil => exact call_repr_tree hg hu pins s σ H _ _ Q I r ⟨_, _, rfl, .lst ea .nil, hs, rfl, by show 0 + 1 ≤ 16; decide, hz, q⟩
  | @cons x d xs' ds' i is =>
    obtain ⟨hz0, its, n, rv, eh⟩ := (show ObjOk X.prog X.w H s.heap a (.lst (x :: xs')) from I.hok a _ ea)
    have hz' : (listText (PyData.shownAll (d :: ds'))).length ≤ sizeLine := by simpa only [PyData.shown] using hz
    obtain ⟨bs, cs, rd, hb, hk⟩ := mix_all (P := X.prog) (w := X.w) I.hok (.cons i is) rv hs (fun t ht => Nat.le_trans (listText_mem_le ht) hz')
    have hna : a ∉ bs := not_mem_of_deeper (Reads.list eh rfl rfl (by simpa using rd)) (by simp only [PyData.depth]; omega) hb
    have hT : s.TypeIs (.ref a) "list" := ⟨_, eh, rfl⟩
    cases rv with
    | @cons _ u0 _ us0 r0 rs0 =>
      refine call_repr_slot (by omega) hT F.slot_list_repr.toG ?_
      refine call_list_reprK (d := PyData.depthAll (d :: ds')) eh rfl rfl hna (by simpa using hk.length_eq) (fun j y e => hk.item j y (by simpa using e)) (show X.A.in1.guards = some [] from hg) (fun b _ => Clear.nil b) (by show X.A.units + 1 + (PyData.depthAll (d :: ds') + 1) < cLine; omega) (fun _ _ e => e) (fun h' u' tk hk' => ?_) hz'
      refine ⟨_, _, rfl, .str _, H, I.kept hk', ⟨u', rfl⟩, ?_⟩
      simpa only [PyData.shown] using q
variable {p pos : Pos} {e : Expr} {t : TA}
end
end L2
namespace L2
open PySem PySem.Spec PyProof.Rows
section
variable {prog : Program} {w : World} {A : Around} {E : Value → Shared → Prop} {s : Shared}
theorem draw_listL {it t : Addr} {items : Array Value} (hne : t ≠ it) : ∀ (n i : Nat) (s : Shared) (Q : List Value → Shared → Prop), s.heap.IsListIter it t i → s.heap.IsList t items → i + n ≤ items.size →
    (∀ h', h'.IsListIter it t (i + n) → Heap.SameBut it s.heap h' → Q ((items.toList.drop i).take n) { s with heap := h' }) → wpAny (model prog w) A (draw (.ref it) n) Q E s
  | 0, i, s, Q, hit, _, _, hQ => by
    show wpAny _ _ (pure []) Q E s
    exact wpAny_pure (by simpa using hQ s.heap hit (Heap.SameBut.refl ..))
  | n + 1, i, s, Q, hit, ht, hle, hQ => by
    have hlt : i < items.size := by omega
    show wpAny _ _ (pyNext (.ref it) >>= _) Q E s
    refine wpAny_bind (wpAny_pyNext_list_item hit ht (x := items[i]) (by simp [hlt]) fun h₁ hit₁ hs₁ => ?_)
    refine wpAny_bind (wpAny_holding (draw_listL hne n (i + 1) _ _ hit₁ (ht.at fun o e => hs₁.extBut _ _ hne e) (by omega) fun h₂ hit₂ hs₂ => wpAny_pure ?_))
    have hd : items.toList.drop i = items[i] :: items.toList.drop (i + 1) := by simp [List.drop_eq_getElem_cons, hlt]
    have := hQ h₂ (by rw [show i + (n + 1) = i + 1 + n by omega]; exact hit₂) (hs₁.trans hs₂)
    rw [hd, List.take_succ_cons] at this
    exact this
theorem unpackItems_listL {t : Addr} {items : Array Value} {Q : List Value → Shared → Prop} (hh : A.handled = none) (ht : s.heap.IsList t items)
    (hQ : ∀ h', Heap.ExtBut s.heap.objs.size s.heap h' → Q items.toList { s with heap := h' }) : wpAny (model prog w) A (unpackItems (.ref t) items.size none) Q E s := by
  have hlt : t ≠ s.heap.objs.size := by obtain ⟨o, ho, _⟩ := ht; exact Nat.ne_of_lt (Heap.lt_size ho)
  have hT : s.TypeIs (.ref t) "list" := by obtain ⟨o, ho, hc, _⟩ := ht; exact ⟨o, ho, hc⟩
  unfold unpackItems
  refine wpAny_bind ?_
  · unfold notIterableAtAll
    refine wpAny_bind (wpAny_specialOf hT F.slot_list_iter.lookup ?_)
    refine wpAny_pure ?_
    simp only [Bool.false_eq_true, if_false]
    refine wpAny_bind (wpAny_holding (wpAny_pyIter_list ht ?_))
    refine wpAny_bind (wpAny_holding (draw_listL hlt items.size 0 _ _ ⟨_, Heap.get?_push_size _ rfl, rfl, rfl⟩ (ht.at fun o e => Heap.get?_push_of_some _ e) (by omega) fun h₁ hit₁ hs₁ => ?_))
    have hall : List.take items.size (List.drop 0 items.toList) = items.toList := by
      rw [List.drop_zero]; exact List.take_of_length_le (by simp)
    rw [hall]
    rw [if_neg (by simp)]
    have ht₁ : h₁.IsList t items := ht.at fun o e => hs₁.extBut _ _ hlt (Heap.get?_push_of_some _ e)
    refine wpAny_bind (wpAny_holding (wpAny_pyNext_list_end hh hit₁ ht₁ (by simp) fun h₂ he₂ => ?_))
    simp only [Option.isSome_none, Bool.false_eq_true, if_false]
    refine wpAny_pure (hQ h₂ fun b o hb e => he₂ b o hb (hs₁.extBut b o hb (Heap.get?_push_of_some _ e)))
end
noncomputable def gLst (K : PySem.W.Frag) (n : Nat) (t : TGs) : TG := fun v σ H Q => ∃ a xs, v = .ref a ∧ SqL K H a xs ∧ xs.length = n ∧ t xs σ H Q
theorem pg_lstK (K : PySem.W.Frag) {X : Cx} {es : List Expr} {k : Nat} {pos : Pos} {t : TGs} {n : Nat} (hc : X.calm = true) (h : PGs X es t)
    (hn : (assignEach es X.env).length = n := by rfl) (hst : (assignEach es X.env).findIdx? (·.1) = none := by rfl) (hK : X.K = K := by rfl) : PG X (.Tuple es k pos) (gLst K n t) := by
  subst hK
  intro pins s σ H v u Q I r hw
  obtain ⟨a, xs, e1, hq, hl, hw⟩ := hw
  subst e1
  cases r
  obtain ⟨its, rv, ht, hz⟩ := I.list hq
  rw [assign_Tuple]
  refine wpAny_bind (wpAny_standAt ?_)
  unfold unpack
  rw [show (assignEach es X.env).length = its.toArray.size by simp [hn, ← hl, rv.length], hst]
  refine wpAny_bind (wpAny_holding (unpackItems_listL (I.ok.hd hc) ht.isList fun h' hx => ?_))
  have I1 : Inv X pins σ H { s with heap := h' } := I.kept (t' := s.toks) fun b o e => hx b o (Nat.ne_of_lt (Heap.lt_size e)) e
  exact h pins _ σ H xs _ Q I1 (by simpa using rv) hw
end L2
namespace L2
open PySem PySem.Spec PyProof.Rows
section
variable {X : Cx}
theorem slicePick_rev (its : List Value) : slicePick its.toArray none none (some (-1)) = its.reverse.toArray := by
  unfold slicePick
  have hb : sliceBounds none none (some (-1)) its.toArray.size = ((its.length : Int) - 1, -1, -1) := by
    simp [sliceBounds]
  rw [hb]
  show (List.filterMap _ (sliceRange ((its.length : Int) - 1) (-1) (-1))).toArray = _
  have hr : sliceRange ((its.length : Int) - 1) (-1) (-1) = (List.range its.length).map fun k => its.length - 1 - k := by
    unfold sliceRange
    have hc : (if (-1 : Int) > 0 then (if (its.length : Int) - 1 < -1 then (-1 - ((its.length : Int) - 1) + -1 - 1) / -1 else 0) else (if (its.length : Int) - 1 > -1 then ((its.length : Int) - 1 - -1 - -1 - 1) / (-(-1)) else 0)) = (its.length : Int) := by
      rw [if_neg (by decide)]
      by_cases h : (its.length : Int) - 1 > -1
      · rw [if_pos h]
        show ((its.length : Int) - 1 - -1 - -1 - 1) / 1 = _
        rw [Int.ediv_one]
        omega
      · rw [if_neg h]
        omega
    show List.map _ (List.range (Int.toNat _)) = _
    rw [hc, Int.toNat_natCast]
    refine List.map_congr_left fun k hk => ?_
    have := List.mem_range.mp hk
    omega
  rw [hr]
  congr 1
  apply List.ext_getElem?
  intro j
  have hfm : ∀ ks : List Nat, (∀ k ∈ ks, k < its.length) → List.filterMap (fun x => its.toArray[x]?) (ks.map fun k => its.length - 1 - k) = ks.map fun k => its.getD (its.length - 1 - k) .none := by
    intro ks
    induction ks with
    | nil => intro _; rfl
    | cons k r ih =>
      intro h
      have hk := h k (by simp)
      rw [List.map_cons, List.map_cons, List.filterMap_cons]
      have e : its.toArray[its.length - 1 - k]? = some (its.getD (its.length - 1 - k) .none) := by
        rw [List.getD_eq_getElem?_getD, List.getElem?_toArray, List.getElem?_eq_getElem (by omega)]
        rfl
      rw [e, ih fun x hx => h x (List.mem_cons_of_mem _ hx)]
  have hfm := hfm (List.range its.length) fun k hk => List.mem_range.mp hk
  rw [hfm, List.getElem?_map]
  by_cases hj : j < its.length
  · rw [List.getElem?_range hj, List.getElem?_reverse hj, List.getElem?_eq_getElem (by omega)]
    show some (its.getD (its.length - 1 - j) .none) = _
    rw [List.getD_eq_getElem?_getD, List.getElem?_eq_getElem (by omega)]
    rfl
  · rw [List.getElem?_eq_none (by simpa using hj), List.getElem?_eq_none (by rw [List.length_reverse]; omega)]
    rfl
noncomputable def rRev (K : PySem.W.Frag) (te : TE) (ts : TO) : TE := fun σ H Q => te σ H fun x H1 => ts σ H1 fun i H2 => ∃ a xs, i = some (-1) ∧ x = .ref a ∧ SqL K H2 a xs ∧ ∀ l, H2 l = none → Q (.ref l) (upd H2 l (.lst xs.reverse))
theorem pe_rev (K : PySem.W.Frag) {e st : Expr} {te : TE} {ts : TO} {p3 pos : Pos} (he : PE X e te) (hst : PO X (some st) ts) (hK : X.K = K := by rfl) : PE X (.Subscript e (.Slice none none (some st) p3) pos) (rRev K te ts) := by
  subst hK
  intro pins s σ H Q I h
  refine Subscript_ (thn (he pins s σ H _ I h) fun v s1 ⟨x, H1, I1, r1, q1⟩ => ?_)
  refine wpAny_Slice ?_
  rw [evalPart_none]
  refine wpAny_pure (wpAny_pure ?_)
  refine thn (hst pins s1 σ H1 _ I1 q1) fun vs s2 ⟨i, H2, I2, pi, q2⟩ => ?_
  obtain ⟨a, xs, rfl, rfl, hx, q⟩ := q2
  cases r1
  have I4 : Inv X pins σ H2 { s2 with heap := s2.heap.push { cls := .type "slice", data := .fields #[.none, .none, vs] } } := I2.kept (t' := s2.toks) fun b ob q => Heap.get?_push_of_some _ q
  obtain ⟨its, r, ht, hz⟩ := I4.list hx
  have hlen := r.length
  show wpAny (model X.prog X.w) X.A (subscriptTail e (.Slice none none (some st) p3) (.ref a) (.ref s2.heap.objs.size)) (EP X pins σ Q) X.xe { s2 with heap := s2.heap.push { cls := .type "slice", data := .fields #[.none, .none, vs] } }
  refine tail_any (ops := [.ref a, .ref s2.heap.objs.size]) ht.isList.typeIs slot_list_getitem.lookup ?_ (by with_unfolding_all rfl)
  refine wpAny_getItem_list_slice ht.isList (Heap.IsSliceOf.new ..) .none .none pi (by simp) ?_ (by rw [List.size_toArray] <;> omega)
  rw [slicePick_rev]
  refine ⟨.ref _, _, I4.laid (t' := s2.toks) (o := .lst xs.reverse) (fun b ob q => Heap.get?_push_of_some _ q) (Nat.le_refl _) ?_, rfl, q _ (I4.hok.fresh (Nat.le_refl _))⟩
  exact ⟨by rw [List.length_reverse]; exact hz, _, 0, r.reverse, Heap.get?_push_size _ rfl⟩
noncomputable def rReprY : List V → Hp → VK → Prop := fun xs H Q => rReprX xs H Q ∨ rReprM xs H Q
variable {p pos : Pos} {e : Expr} {t : TA}
theorem b_reprY (gd : X.A.guards = some []) (hu : X.A.units + 64 < cLine) (B : Blt X.mg) (ha : PA X [e] t) (hg : Gl X "repr" := by rfl) (he : starEach [e] X.env = (false, eval e X.env) :: starEach [] X.env := by rfl) (hpl : (backTo pos (starEach [] X.env)).any (·.1) = false := by rfl) : PE X (.Call (.Name "repr" p) [e] [] pos) (tCB rReprY t) :=
  pe_callB ((call_reprX gd hu).or (call_reprM gd hu)) hg B.repr boot_repr ha (by decide) (by decide) he hpl
end
end L2
namespace MG
variable {es : List (Nat × Nat)} {goal : Nat}
end MG
set_option maxHeartbeats 400000
set_option maxHeartbeats 4000000
namespace L2
open PySem PySem.Spec PyProof.Rows
theorem once {G T : Prop} (m : T → G) (t : T) : G := m t
theorem once2 {G : Prop} {T C : Nat → Hp → Prop} (m : (∀ y HC, C y HC → T y HC) → G) (t : ∀ y HC, C y HC → T y HC) : G := m t
end L2
namespace MG
noncomputable def mx : List Int → Int
  | [] => 0
  | x :: l => max x (mx l)
noncomputable def dp (es : List (Nat × Nat)) (W : Nat → Int) : Nat → Nat → Int
  | 0, _ => 0
  | k + 1, v => W v + mx ((es.filter fun e => decide (e.2 = v)).map fun e => dp es W k e.1)
end MG
namespace L2
open PySem
theorem len_shown {i : Int} {k : Nat} (hk : 0 < k) (h : i.natAbs < 10 ^ k) : (PyData.shown (.int i)).length ≤ k + 1 := by
  have e := (Nat.length_repr_le_iff (n := i.natAbs) hk).mpr h
  show (Str.ofString (toString i)).length ≤ k + 1
  rw [ofString_length]
  cases i with
  | ofNat m =>
    have e : m.repr.length ≤ k := e
    show m.repr.length ≤ k + 1
    omega
  | negSucc m =>
    have e : m.succ.repr.length ≤ k := e
    show ("-" ++ m.succ.repr).length ≤ k + 1
    rw [String.length_append]
    show 1 + m.succ.repr.length ≤ k + 1
    omega
theorem sw_int {i : Int} (h : i.natAbs < 10 ^ 40) : Sw (.int i) 41 0 := by
  refine ⟨rfl, ?_, Nat.le_refl 0, len_shown (by decide) h⟩
  show decide (i.natAbs.log2 < 1920) = true
  refine decide_eq_true ?_
  by_cases q : i.natAbs = 0
  · rw [q]; decide
  · rw [Nat.log2_lt q]
    exact Nat.lt_trans h (by decide +kernel)
end L2
namespace L2
open PySem
theorem perm_of {α : Type} [DecidableEq α] : ∀ {l m : List α}, l.Nodup → (∀ x ∈ l, x ∈ m) → m.length ≤ l.length → l.Perm m
  | [], m, _, _, h => by
    have : m = [] := List.length_eq_zero_iff.mp (by have := h; rw [List.length_nil] at this; omega)
    rw [this]
  | x :: l, m, nd, sub, h => by
    obtain ⟨n1, n2⟩ := List.nodup_cons.mp nd
    have hx := sub x (by simp)
    have pe := (List.perm_cons_erase hx)
    have le := pe.length_eq
    rw [List.length_cons] at le h
    refine (List.Perm.cons x (perm_of n2 (fun y hy => ?_) (by omega))).trans pe.symm
    exact (List.mem_erase_of_ne (fun z : y = x => n1 (z ▸ hy))).mpr (sub y (List.mem_cons_of_mem _ hy))
end L2
namespace L2
open PySem PySem.Spec PyProof.Rows
theorem ObjOk.obj {P : Program} {w : World} {H : Hp} {h : Heap} {a : Addr} {o : HO} (x : ObjOk P w H h a o) : ∃ ob, h.get? a = some ob := by
  cases o with
  | lst xs => obtain ⟨_, _, _, _, e⟩ := x; exact ⟨_, e⟩
  | tup xs => obtain ⟨_, _, _, ob, e, _⟩ := x; exact ⟨_, e⟩
  | dK kvs => obtain ⟨_, _, _, _, o, _, _, e, _⟩ := x; exact ⟨_, e⟩
  | dT kvs => obtain ⟨_, _, _, _, o, _, _, e, _⟩ := x; exact ⟨_, e⟩
  | set S n => obtain ⟨o, _, _, _, e, _⟩ := x; exact ⟨_, e⟩
  | ins C dx fs => obtain ⟨_, _, _, e, _⟩ := x; exact ⟨_, e⟩
  | own y => obtain ⟨_, e⟩ := x; exact ⟨_, e⟩
  | xd fs => obtain ⟨_, ⟨_, _, _, e, _⟩, _⟩ := x; exact ⟨_, e⟩
  | rng lo hi => obtain ⟨_, _, _, e⟩ := x; exact ⟨_, e⟩
  | frz ob u => obtain ⟨e, _⟩ := x; exact ⟨_, e⟩
  | tbl ps => exact ⟨_, (show h.get? a = some _ from x)⟩
  | met f y => exact ⟨_, (show h.get? a = some _ from x)⟩
  | ext φ => obtain ⟨_, e, _⟩ := x; exact e
noncomputable def CX1 (P : Program) (w : World) : CXT := fun outer H s E e s' =>
  ∃ (a t : Addr) (cls : Value) (B : Heap) (H' : Hp), e = .ref a ∧ s'.os = s.os ∧ AllBare s'.gens ∧ Un (frs outer) [] H H' s.heap s'.heap ∧ HOk P w H' s'.heap ∧ Heap.FlyingW B outer a cls (.ref t) s'.heap ∧ H' a = none ∧
    (∀ b u, H' b = some u → ∃ o, s'.heap.get? b = some o ∧ B.get? b = some o) ∧ (∀ b o, s.heap.get? b = some o → H b = none → b ∉ frs outer → B.get? b = some o) ∧ (∀ b o, s.heap.get? b = some o → b ∉ frs outer → ∃ o', B.get? b = some o') ∧ E cls (some a) H'
theorem raise1 {P : Program} {w : World} {K : PySem.W.Frag} {mg : Str → Option Value} {base : Heap} {N : List Str} {qual : Str} {scope : Scope} {f : Addr} {cd : Value} {A : Around} {outer : List Env} {s : Shared} {H : Hp} {E : XK} {pins : List (Addr × Obj)} {σ : St} {H1 : Hp} {s1 : Shared} {h' : Heap} {e : Addr} {cls : Value} {args : List Value}
    (I : Inv (cxOf (CX1 P w) P w K mg base N qual scope f cd A outer s H E) pins σ H1 s1) (hx : Heap.MadeExcOf s1.heap h' e cls args) (q : E cls (some e) H1) :
    (cxOf (CX1 P w) P w K mg base N qual scope f cd A outer s H E).xe (.ref e) { s1 with heap := h' } := by
  show wpAny (model P w) (A.deeper (envOfC qual scope s.heap.objs.size f cd)) (leaving (envOfC qual scope s.heap.objs.size f cd) (.ref e)) (fun _ s'' => CX1 P w outer H s E (.ref e) s'') (fun e' s'' => CX1 P w outer H s E e' s'') { s1 with heap := h' }
  have hin : ∀ env ∈ (envOfC qual scope s.heap.objs.size f cd :: outer), ∀ b, env.frame = some b → b ∈ frs (envOfC qual scope s.heap.objs.size f cd :: outer) := fun env he b hb => List.mem_filterMap.mpr ⟨env, he, hb⟩
  refine wpAny_leaves_madeW (s := { s1 with heap := h' }) (base := PySem.W.hideAll s1.heap (frs (envOfC qual scope s.heap.objs.size f cd :: outer))) (outer := outer) (L := s.heap.objs.size) I.ok.frames rfl (fun b o z => PySem.W.of_hideAll _ z) (PySem.W.funFrames_hide I.stack hin) hx fun h2 t x1 x2 x3 x4 => ?_
  have trk : ∀ b u, H1 b = some u → ∃ o, s1.heap.get? b = some o ∧ (PySem.W.hideAll s1.heap (frs (envOfC qual scope s.heap.objs.size f cd :: outer))).get? b = some o := fun b u eb => by
    obtain ⟨o, ho⟩ := ObjOk.obj (I.hok b u eb)
    refine ⟨o, ho, PySem.W.hideAll_get _ ho fun z => ?_⟩
    have := I.stkFree b z
    rw [eb] at this; cases this
  have old : ∀ b o, s.heap.get? b = some o → H b = none → b ∉ frs outer → (PySem.W.hideAll s1.heap (frs (envOfC qual scope s.heap.objs.size f cd :: outer))).get? b = some o := fun b o z n hb => by
    have e1 : s1.heap.get? b = some o := I.base.keep b o z n hb (by intro y; cases y)
    refine PySem.W.hideAll_get _ e1 fun y => ?_
    rcases List.mem_cons.mp (I.stkSub b y) with r | r
    · have r : b = s.heap.objs.size := r
      exact absurd (r ▸ Heap.lt_size z) (Nat.lt_irrefl _)
    · exact hb r
  have exi : ∀ b o, s.heap.get? b = some o → b ∉ frs outer → ∃ o', (PySem.W.hideAll s1.heap (frs (envOfC qual scope s.heap.objs.size f cd :: outer))).get? b = some o' := fun b o z hb => by
    obtain ⟨o1, e1⟩ := I.base.there b o z (by intro y; cases y)
    refine ⟨o1, PySem.W.hideAll_get _ e1 fun y => ?_⟩
    rcases List.mem_cons.mp (I.stkSub b y) with r | r
    · have r : b = s.heap.objs.size := r
      exact absurd (r ▸ Heap.lt_size z) (Nat.lt_irrefl _)
    · exact hb r
  refine ⟨e, t, cls, _, H1, rfl, I.os, I.bare, ?_, fun c o ec => (I.hok c o ec).stay (fun d u hd q' => ?_) (fun _ z => z) fun _ _ z => z, x1, ?_, fun b u eb => ?_, old, exi, q⟩
  · refine ⟨fun b o z n hb _ => x1.1 b o (old b o z n hb), fun b o z n hb hx' => ?_, fun b o z n hx' => I.base.free b o z n hx', fun b o z hx' => ?_, I.base.tups, I.base.frzs, I.base.tbls⟩
    · obtain ⟨sl, e1⟩ := I.base.slot b o z n hb hx'
      obtain ⟨_, o1, g1, g2⟩ := (I.ok.funs.mem hb)
      have : o1 = o := Option.some.inj (g1.symm.trans z)
      subst this
      obtain ⟨sl2, e2⟩ := x4 b _ (hx.keeps b _ e1) (by intro vs y; exact g2 vs y)
      exact ⟨sl2, e2⟩
    · by_cases hb : b ∈ frs outer
      · obtain ⟨_, o1, g1, _⟩ := x1.2.2.1.mem hb
        exact ⟨_, g1⟩
      · obtain ⟨o', e1⟩ := exi b o z hb
        exact ⟨o', x1.1 b o' e1⟩
  · have tr : ∃ z, H1 d = some z := by
      rcases hd with r | r
      · exact ⟨_, r ▸ ec⟩
      · exact ⟨_, r⟩
    obtain ⟨z, hz⟩ := tr
    obtain ⟨o1, e1, e2⟩ := trk d z hz
    have : u = o1 := Option.some.inj (q'.symm.trans e1)
    rw [this]
    exact x1.1 d o1 e2
  · cases z : H1 e with
    | none => rfl
    | some u =>
      obtain ⟨o, ho⟩ := ObjOk.obj (I.hok e u z)
      rw [hx.new] at ho; cases ho
  · obtain ⟨o1, e1, e2⟩ := trk b u eb
    exact ⟨o1, x1.1 b o1 e2, e2⟩
end L2
namespace L2
open PySem PySem.Spec PyProof.Rows
noncomputable def tRaise (E : XK) (C : Addr) (ta : TA) : TS := fun _ σ H => ta σ H fun vs H1 => vs.length ≤ sizeLine ∧ ∀ e, H1 e = none → E (.ref C) (some e) H1
theorem ps_raise1 {P : Program} {w : World} {K : PySem.W.Frag} {mg : Str → Option Value} {base : Heap} {N : List Str} {qual : Str} {scope : Scope} {f : Addr} {cd : Value} {A : Around} {outer : List Env} {s : Shared} {H : Hp} {E : XK}
    {x : Str} {C : Addr} {bm bmN : List Value} {B Bn newId nid initId inN : String} {np cpos pos : Pos} {e₀ : Expr} {rest : List Expr} {ta : TA} (O : OwnCls x C bm newId mg base) (Fn : ExcBaseFacts Bn newId inN bmN) (hBn : bm.contains (.type Bn) = true) (FB : ExcBaseFacts B nid initId bm)
    (hg : Gl (cxOf (CX1 P w) P w K mg base N qual scope f cd A outer s H E) x) (ha : PA (cxOf (CX1 P w) P w K mg base N qual scope f cd A outer s H E) (e₀ :: rest) ta)
    (he : starEach (e₀ :: rest) (cxOf (CX1 P w) P w K mg base N qual scope f cd A outer s H E).env = (false, eval e₀ (cxOf (CX1 P w) P w K mg base N qual scope f cd A outer s H E).env) :: starEach rest (cxOf (CX1 P w) P w K mg base N qual scope f cd A outer s H E).env := by rfl)
    (hpl : (backTo cpos (starEach rest (cxOf (CX1 P w) P w K mg base N qual scope f cd A outer s H E).env)).any (·.1) = false := by rfl) (hdb : (x == ("__debug__" : Str)) = false := by decide) :
    PS (cxOf (CX1 P w) P w K mg base N qual scope f cd A outer s H E) (.Raise (some (.Call (.Name x np) (e₀ :: rest) [] cpos)) none pos) (tRaise E C ta) := by
  intro pins s1 σ H1 D I h
  obtain ⟨tl, Nn, nm, q, bs, hdct, sn, sub, ab, col, dd, k0, k1, k2, k3, k5, mN, hC, hN, hni, T⟩ := O.obj
  refine wpAny_Raise_call_subU (C := C) (nm := nm) (q := q) (N := Nn) (bs := bs) (bm := tl) (hdct := hdct) (sn := sn) (sub := sub) (ab := ab) (col := col) (dd := dd) (k0 := k0) (k1 := k1) (k2 := k2) (k3 := k3) (k5 := k5)
    Fn hBn FB (mN := mN) (T.hasType FB.hasBase) (I.ok.hd rfl) (by rw [he]; show (false || _) = false; rw [Bool.false_or]; exact hpl) hni (ld_glob I hg O.bound ?_ hdb)
  refine ⟨rfl, ?_⟩
  rw [he]
  have key := ha cpos pins s1 σ H1 _ I h
  rw [he] at key
  refine Calls.evalArgs_plain (thn key fun us s2 hh => ?_)
  obtain ⟨vs, H2, I2, r, hl, q2⟩ := hh
  have bk := I2.bk
  refine ⟨rfl, by rw [← r.length]; exact hl, bk _ _ hC, hN.keeps bk, T.keeps bk, fun h' e hm => raise1 I2 hm (q2 e ?_)⟩
  cases z : H2 e with
  | none => rfl
  | some u =>
    obtain ⟨o, ho⟩ := ObjOk.obj (I2.hok e u z)
    rw [hm.new] at ho; cases ho
end L2
namespace L2
open PySem PySem.Spec PyProof.Rows
section
variable {M : Model} {A : Around} {E : Value → Shared → Prop} {nm q nm' q' : Str} {C N D N' : Addr} {bs bm bs' bm' : List Value} {hdct hdct' : Bool} {sn sn' : List Str} {sub sub' : List Value} {ab ab' : Bool} {col col' : Option Bool} {dd dd' : Option Addr} {k0 k1 k2 k3 k5 j0 j1 j2 j3 j5 : Option Value} {newId newId' : String}
theorem matches_own {h : Heap} {g : Array GenState} {d : Drawn} {t : Nat} {os : OsState} {e : Addr} {oe : Obj} {Q : Bool → Shared → Prop}
    (hC : h.get? C = some (excClassObj nm q C N bs bm hdct sn sub ab col dd k0 k1 k2 k3 k5 newId)) (he : h.get? e = some oe) (hcls : oe.cls = .ref C)
    (hD : h.get? D = some (excClassObj nm' q' D N' bs' bm' hdct' sn' sub' ab' col' dd' j0 j1 j2 j3 j5 newId')) (hb : bm'.contains (.type "BaseException") = true)
    (hin : (Value.ref C :: bm).contains (.ref D) = true) (hq : Q true ⟨h, g, d, t, os⟩) : wpAny M A (excMatches (.ref e) (.ref D)) Q E ⟨h, g, d, t, os⟩ := by
  have hcB : (Value.ref D :: bm').contains (.type "BaseException") = true := by rw [List.contains_cons, hb, Bool.or_true]
  have f := tc_notTuple
  unfold excMatches
  repeat first
    | (with_reducible refine wpAny_loadPart_at he ?_
       rw [hcls])
    | with_reducible refine wpAny_loadPart_at hD ?_
    | (with_reducible refine wpAny_isSubtype_exc hD ?_
       rw [hcB])
    | (with_reducible refine wpAny_isSubtype_exc hC ?_
       rw [hin])
    | wp_step
  exact hq
end
theorem inv_fly {X : Cx} {pins : List (Addr × Obj)} {σ : St} {H1 H' : Hp} {s1 s' : Shared} {B h5 : Heap} {a t : Addr} {cls : Value} (I : Inv X pins σ H1 s1) (hst : X.stack = X.env :: X.outer) (hfr : X.env.frame = some X.env.locals)
    (os : s'.os = s1.os) (bare : AllBare s'.gens) (un : Un (frs X.stack) [] H1 H' s1.heap s'.heap) (hok : HOk X.prog X.w H' s'.heap) (fl : Heap.FlyingW B X.stack a cls (.ref t) h5) (sm : s'.heap.UpToSlots h5)
    (TB : ∀ b u, H' b = some u → ∃ o, s'.heap.get? b = some o ∧ B.get? b = some o) (KB : ∀ b o, s1.heap.get? b = some o → H1 b = none → b ∉ frs X.stack → B.get? b = some o) (AB : ∀ b o, s1.heap.get? b = some o → b ∉ frs X.stack → ∃ o', B.get? b = some o') :
    Inv X pins σ H' { s' with heap := h5 } := by
  obtain ⟨hh, g, d, tk, os'⟩ := s'
  obtain rfl : os' = s1.os := os
  have efr : frs X.stack = X.env.locals :: X.fs := by rw [hst]; unfold frs; rw [List.filterMap_cons, hfr]; rfl
  have nin : ∀ b, b ≠ X.env.locals → b ∉ X.fs → b ∉ frs X.stack := fun b n1 n2 z => by
    rw [efr] at z
    rcases List.mem_cons.mp z with r | r
    · exact n1 r
    · exact n2 r
  have inn : ∀ b, b ∈ X.fs → b ∈ frs X.stack := fun b hb => by rw [efr]; exact List.mem_cons_of_mem _ hb
  have nof : ∀ {b : Addr} {o : Obj}, b ∈ frs X.stack → s1.heap.get? b = some o → ∀ vs, o.data ≠ .fields vs := fun hb e vs => by
    obtain ⟨_, o1, g1, g2⟩ := I.stack.mem hb
    have := Option.some.inj (g1.symm.trans e)
    exact this ▸ g2 vs
  have slot : ∀ b o, b ∈ frs X.stack → s1.heap.get? b = some o → H1 b = none → ∃ sl, h5.get? b = some { o with slots := sl } := fun b o hb e n => by
    obtain ⟨sl, e1⟩ := un.slot b o e n hb (by intro z; cases z)
    obtain ⟨sl2, e2⟩ := sm b _ e1 (fun vs z => nof hb e vs z)
    exact ⟨sl2, e2⟩
  show Inv X pins σ H' { s1 with heap := h5, gens := g, drawn := d, toks := tk }
  refine Inv.step (s := s1) (h' := h5) (g' := g) (d' := d) (t' := tk) (ch := []) I (fun b hb => by cases hb) (fun b o n1 n2 _ e n => fl.1 b o (KB b o e n (nin b n1 n2))) (fun b o _ hb _ e n => slot b o (inn b hb) e n) (fun b o _ e n => un.free b o e n (by intro z; cases z)) (fun b o _ e => ?_) un.tups un.frzs un.tbls (fun m hn => ?_) (fun c o ec => (hok c o ec).stay (fun d u hd q' => ?_) (fun _ z => z) fun _ _ z => z) bare
  · by_cases hb : b ∈ frs X.stack
    · obtain ⟨_, o1, g1, _⟩ := fl.2.2.1.mem hb
      exact ⟨_, g1⟩
    · obtain ⟨o', e1⟩ := AB b o e hb
      exact ⟨o', fl.1 b o' e1⟩
  · obtain ⟨o, es, ep, ho, hd, r⟩ := hn
    obtain ⟨sl, e1⟩ := slot X.env.locals o (by rw [efr]; simp) ho I.free
    exact ⟨_, es, ep, e1, hd, r⟩
  · have tr : ∃ z, H' d = some z := by
      rcases hd with r | r
      · exact ⟨_, r ▸ ec⟩
      · exact ⟨_, r⟩
    obtain ⟨z, hz⟩ := tr
    obtain ⟨o1, e1, e2⟩ := TB d z hz
    have : u = o1 := Option.some.inj (q'.symm.trans e1)
    rw [this]
    exact fl.1 d o1 e2
end L2
namespace L2
open PySem PySem.Spec PyProof.Rows
noncomputable abbrev Cx.mark (X : Cx) (e : Value) (E : Value → Shared → Prop) : Cx := { X with A := X.A.mark (some e), calm := false, xe := E }
section
variable {X : Cx} {pins : List (Addr × Obj)} {σ : St} {H : Hp} {s : Shared} {e : Value} {E : Value → Shared → Prop}
theorem Cx.Ok.mark (ok : X.Ok) : (X.mark e E).Ok :=
  ⟨ok.mod, ok.kind, ok.glob, ok.blt, ok.above, ok.inj, ok.has, ok.cab, fun z => (by cases z), ok.frames, ok.stk, ok.exf, ok.bs, ok.bsz, ok.noex, ok.exfs, ok.funs, ok.frf⟩
theorem Inv.mark (I : Inv X pins σ H s) : Inv (X.mark e E) pins σ H s := ⟨I.ok.mark, I.os, I.bare, I.base, I.loc, I.cell, I.free, I.freeC, I.pin, I.hok, I.len⟩
theorem Inv.unmark (ok : X.Ok) (I : Inv (X.mark e E) pins σ H s) : Inv X pins σ H s := ⟨ok, I.os, I.bare, I.base, I.loc, I.cell, I.free, I.freeC, I.pin, I.hok, I.len⟩
theorem unname {M : Model} {A : Around} {i : Nat} {n : Str} {pos : Pos} {Q : Unit → Shared → Prop} (I : Inv X pins σ H s) (hN : X.N.Nodup) (hi : X.N[i]? = some n) (hk : X.env.kindOf n = some .local)
    (h : ∀ s', Inv X pins (σ.set i none) H s' → Q () s') : wpAny M A (do bindName X.env n .none; unbindBehindTheSuite X.env n pos) Q E s := by
  obtain ⟨m, hn, hl⟩ := id I.loc
  have hcls : (X.env.scope.kind == .class || (X.env.scope.kind == .module && X.env.locals != X.env.globals)) = false := by rw [I.ok.kind]; rfl
  have hiσ : i < σ.length := by rw [I.len]; exact (List.getElem?_eq_some_iff.mp hi).1
  have cne := I.cne
  refine wpAny_nameGoes_keeps hk hn hcls fun h' v hn' hs => ?_
  obtain ⟨oL, _, _, hoL, _⟩ := id hn
  have tracked : HOk X.prog X.w H h' := fun b ob e => by
    refine (I.hok b ob e).stay (fun c w' hc q => (hs.2 c ?_).trans q) (fun _ q => q) fun _ _ q => q
    rintro rfl
    rcases hc with z | hc
    · have := I.free; rw [z] at this; rw [this] at e; cases e
    · rw [I.free] at hc; cases hc
  refine h _ ⟨I.ok, I.os, I.bare, ⟨fun b o e n hb hx => ?_, fun b o e n hb hx => ?_, I.base.free, fun b o e hx => ?_, I.base.tups, I.base.frzs, I.base.tbls⟩, ⟨_, hn', fun j y v' e1 e2 e3 => ?_⟩, fun y c e => ?_, I.free, I.freeC, fun p hp => ?_, tracked, by simpa using I.len⟩
  · exact (hs.2 b (Nat.ne_of_lt (Nat.lt_of_lt_of_le (Heap.lt_size e) I.ok.above))).trans (I.base.keep b o e n hb hx)
  · obtain ⟨sl, e1⟩ := I.base.slot b o e n hb hx
    exact ⟨sl, (hs.2 b (Nat.ne_of_lt (Nat.lt_of_lt_of_le (Heap.lt_size e) I.ok.above))).trans e1⟩
  · obtain ⟨o', e1⟩ := I.base.there b o e hx
    exact ⟨o', (hs.2 b (Nat.ne_of_lt (Nat.lt_of_lt_of_le (Heap.lt_size e) I.ok.above))).trans e1⟩
  · by_cases hj : j = i
    · subst hj
      rw [List.getElem?_set_self hiσ] at e2
      cases e2
    · rw [List.getElem?_set_ne (Ne.symm hj)] at e2
      obtain ⟨u', r', q⟩ := hl j y v' e1 e2 e3
      refine ⟨u', r', ?_⟩
      rcases q with ⟨k, e⟩ | ⟨k, c, e, z⟩
      · refine .inl ⟨k, ?_⟩
        have : y ≠ n := fun e => hj (nodup_ix hN e1 (e ▸ hi))
        simp [this, e]
      · exact .inr ⟨k, c, e, z.sameBut hs (cne y c e)⟩
  · obtain ⟨w', z⟩ := I.cell y c e
    exact ⟨w', z.sameBut hs (cne y c e)⟩
  · obtain ⟨e, n, ne, nf, d⟩ := I.pin p hp
    exact ⟨(hs.2 p.1 ne).trans e, n, ne, nf, d⟩
theorem Inv.track {σ1 : St} {H1 : Hp} {s1 : Shared} {a : Addr} {o : HO} (I1 : Inv X pins σ1 H1 s1) (I : Inv X pins σ H s) (hn : s1.heap.get? a = none) (ha : H a = none) (new : ObjOk X.prog X.w (upd H a o) s.heap a o) : Inv X pins σ (upd H a o) s := by
  have h0 : ∀ ob, X.s₀.heap.get? a = some ob → a ∈ X.ex := fun ob e => by
    by_cases hx : a ∈ X.ex
    · exact hx
    · obtain ⟨o', e'⟩ := I1.base.there a ob e hx
      rw [hn] at e'; cases e'
  have ne : ∀ {b : Addr} {u : HO}, H b = some u → b ≠ a := fun e z => by rw [z, ha] at e; cases e
  have dif : ∀ {b : Addr} {ob : Obj}, s1.heap.get? b = some ob → b ≠ a := fun e z => by rw [z, hn] at e; cases e
  obtain ⟨m1, hn1, _⟩ := id I1.loc
  obtain ⟨oL, _, _, hoL, _⟩ := hn1
  refine ⟨I.ok, I.os, I.bare, ⟨I.base.keep, I.base.slot, fun b ob e n hx => ?_, I.base.there, fun b xs e => ?_, fun b x y e => ?_, fun b ps e => ?_⟩, I.loc, I.cell, ?_, fun x c e => ?_, fun p hp => ?_, fun b u e => ?_, I.len⟩
  · have : b ≠ a := fun z => hx (z ▸ h0 ob (z ▸ e))
    rw [upd_ne this]; exact I.base.free b ob e n hx
  · have z := I.base.tups b xs e
    rw [upd_ne (ne z)]; exact z
  · have z := I.base.frzs b x y e
    rw [upd_ne (ne z)]; exact z
  · obtain ⟨more, z⟩ := I.base.tbls b ps e
    exact ⟨more, by rw [upd_ne (ne z)]; exact z⟩
  · rw [upd_ne (dif hoL)]; exact I.free
  · obtain ⟨v, oc, z, _⟩ := I1.cell x c e
    rw [upd_ne (dif z)]; exact I.freeC x c e
  · obtain ⟨e1, n1, r⟩ := I.pin p hp
    obtain ⟨e2, _⟩ := I1.pin p hp
    exact ⟨e1, by rw [upd_ne (dif e2)]; exact n1, r⟩
  · by_cases hb : b = a
    · subst hb; rw [upd_same] at e; cases e; exact new
    · rw [upd_ne hb] at e
      exact (I.hok b u e).stay (fun _ _ _ z => z) (fun c q => by rw [upd_ne (ne q)]; exact q) fun c xs q => by rw [upd_ne (ne q)]; exact q
end
noncomputable def XAt (h : Heap) (C : Addr) (bm : List Value) : Prop :=
  ∃ nm q N bs hdct sn sub ab col dd k0 k1 k2 k3 k5 newId, h.get? C = some (excClassObj nm q C N bs bm hdct sn sub ab col dd k0 k1 k2 k3 k5 newId)
noncomputable def xObj (a C : Addr) : HO := .ext fun h => ∃ o, h.get? a = some o ∧ o.cls = .ref C
noncomputable def tTry1 (base : Heap) (sp : Sp) (dvs : List V) (t : TA) (Dc : Addr) (i : Nat) (tb : TS) : TS := fun D σ H => t σ H fun vs H1 => sp (vs ++ dvs) H1 (fun _ H2 => D.nx σ H2)
  fun cls ea H2 => ∃ C bm, cls = .ref C ∧ XAt base C bm ∧ (Value.ref C :: bm).contains (.ref Dc) = true ∧ ∀ a, ea = some a → H2 a = none →
    tb { nx := fun σ' H' => D.nx (σ'.set i none) H', rt := D.rt, bk := fun σ' H' => D.bk (σ'.set i none) H', ct := fun σ' H' => D.ct (σ'.set i none) H' } (σ.set i (some (.ref a))) (upd H2 a (xObj a C))
theorem call_wish {X : Cx} {pins : List (Addr × Obj)} {σ : St} {H : Hp} {s : Shared} {f : Addr} {cpos : Pos} {e : Expr} {es : List Expr} {t : TA} {Q0 : List V → Hp → Prop} {Q : Value → Shared → Prop} {E : Value → Shared → Prop}
    (ha : ∀ xe, PA (X.wish xe) (e :: es) t) (I : Inv X pins σ H s) (hk : PySem.W.keepIn X.K (.ref f) = true) (h : t σ H Q0) (k : ∀ us s1 vs H1, Inv X pins σ H1 s1 → Vals vs us → Q0 vs H1 → wpAny (model X.prog X.w) X.A (call (.ref f) us) Q E s1)
    (he : starEach (e :: es) X.env = (false, eval e X.env) :: starEach es X.env) (hpl : (backTo cpos (starEach es X.env)).any (·.1) = false) :
    wpAny (model X.prog X.w) X.A (callWith cpos (.ref f) [] (backTo cpos (starEach (e :: es) X.env)) (backToKw cpos (keywordEach [] X.env))) Q E s := by
  have key := ha E cpos pins s σ H Q0 (I.wish E) h
  refine PySem.W.callWith_K (h₀ := X.base) I.ok.mod.kin hk (wpAny_mono key (fun us s1 hh => ?_) fun _ _ z => z) he hpl
  obtain ⟨vs, H1, I1', r, q⟩ := hh
  exact ⟨I1'.kIn, k us s1 vs H1 I1'.unwish r q⟩
theorem ps_try1 {X : Cx} {k : Nat} {f Dc : Addr} {fd : FuncData} {ps : List Str} {sp : Sp} {dvs : List V} {ds : List Value} {bmD : List Value} {x Dn n : Str} {i : Nat} {p q cpos epos hpos tpos : Pos} {e : Expr} {es : List Expr} {t : TA} {b₀ : Stmt} {suite : List Stmt} {tb : TS}
    (F : FnOk X.prog X.w X.K X.mg X.base (CX1 X.prog X.w) k f fd ps sp) (hr : Room k X.A) (hg : Gl X x) (hm : X.mg x = some (.ref f)) (hk : PySem.W.keepIn X.K (.ref f) = true) (hb : Binds X.K fd ps ds) (hd : Vals dvs ds) (ha : ∀ xe, PA (X.wish xe) (e :: es) t)
    (hst : X.stack = X.env :: X.outer) (hfr : X.env.frame = some X.env.locals) (hgD : Gl X Dn) (hmD : X.mg Dn = some (.ref Dc)) (hD : XAt X.base Dc bmD) (hDb : bmD.contains (.type "BaseException") = true)
    (hN : X.N.Nodup) (hi : X.N[i]? = some n) (hl : X.env.scope.names.lookup n = some .local) (hs : ∀ a xe, PSs (X.mark (.ref a) xe) (b₀ :: suite) tb)
    (hdb : (x == ("__debug__" : Str)) = false := by decide) (hdD : (Dn == ("__debug__" : Str)) = false := by decide) (he : starEach (e :: es) X.env = (false, eval e X.env) :: starEach es X.env := by rfl) (hpl : (backTo cpos (starEach es X.env)).any (·.1) = false := by rfl)
    (hsw : swapsWith (.Call (.Name x p) (e :: es) [] cpos) none epos.line X.env = pure false := by rfl) :
    PS X (.Try [.Expr (.Call (.Name x p) (e :: es) [] cpos) epos] [.ExceptHandler (some (.Name Dn q)) (some n) (b₀ :: suite) hpos] [] [] tpos) (tTry1 X.base sp dvs t Dc i tb) := by
  intro pins s σ H D I h
  refine wpAny_Try_except (wpAny_execs_cons (wpAny_Expr_any (wpAny_Call_Name_kw (ld_glob I hg hm ?_ hdb)) I.quiet hsw))
  refine call_wish ha I hk h (fun us s1 vs H1 I1 r q => ?_) he hpl
  have r2 : Vals (vs ++ dvs) (us ++ ds) := r.append hd
  have hlen : (us ++ ds).length = ps.length := by rw [← r2.length]; exact F.len _ _ _ _ q
  refine wpAny_call (codeAny_mono (F.run X.A X.stack s1 H1 ⟨us, []⟩ (us ++ ds) (vs ++ dvs) _ _ hr I1.env0 (hb s1 us I1.kIn hlen) r2 q) fun r s' hq => ?_)
  cases r with
  | ok fl =>
    cases fl with
    | ret u =>
      obtain ⟨v, H2, I2, _, q2⟩ := I1.after hq
      exact wpAny_execs_nil (wpAny_execs_nil ⟨σ, H2, I2, q2⟩)
    | next => exact False.elim hq
    | brk => exact False.elim hq
    | cont => exact False.elim hq
  | error ev =>
    obtain ⟨a, tt, cls, B, H', rfl, os, bare, un, hok, fl, hna, TB, KB, AB, C, bm, rfl, hC, hin, hq2⟩ := hq
    have fl' : Heap.FlyingW B (X.env :: X.outer) a (.ref C) (.ref tt) s'.heap := hst ▸ fl
    have ne1 : s1.heap.get? a = none := by
      cases z : s1.heap.get? a with
      | none => rfl
      | some ob =>
        by_cases hb : a ∈ frs X.stack
        · obtain ⟨_, o1, g1, g2⟩ := fl.2.2.1.mem hb
          obtain ⟨_, _, _, oe, vs', _, _, _, he', _, hd', _⟩ := fl
          rw [g1] at he'; cases he'
          exact absurd hd' (g2 vs')
        · obtain ⟨o', e'⟩ := AB a ob z hb
          have := fl.2.1
          rw [e'] at this; cases this
    have hfrm : X.A.frames = some (X.env :: X.outer) := hst ▸ I.ok.frames
    refine wpAny_looks_onW hfrm hfr fl' fun h4 f4 sm4 => ?_
    refine wpAny_landsW f4 fun h5 f5 sm5 => ?_
    have I5 : Inv X pins σ H' { s' with heap := h5 } := inv_fly I1 hst hfr os bare un hok (hst ▸ f5) (sm4.trans sm5) TB KB AB
    refine wpAny_handleBy_cons (codeAny_handlers_test (ld_glob (X := X.mark (.ref a) (fun _ _ => False)) I5.mark hgD hmD ?_ hdD)) (by intro z; cases z)
    obtain ⟨oe, ge, gc⟩ := f5.there
    obtain ⟨nm, qq, NN, bs, hdct, sn, sub, ab, col, dd, k0, k1, k2, k3, k5, newId, gC⟩ := hC
    obtain ⟨nm', qq', NN', bs', hdct', sn', sub', ab', col', dd', j0, j1, j2, j3, j5, newId', gD⟩ := hD
    refine matches_own (I5.bk _ _ gC) ge gc (I5.bk _ _ gD) hDb hin (codeAny_handlers_suite_as (lands_againW f5 fun h6 f6 sm6 => ?_))
    have I6 : Inv X pins σ H' { s' with heap := h6 } := inv_fly I1 hst hfr os bare un hok (hst ▸ f6) ((sm4.trans sm5).trans sm6) TB KB AB
    obtain ⟨o6, g6, c6⟩ := f6.there
    have I7 : Inv X pins σ (upd H' a (xObj a C)) { s' with heap := h6 } := Inv.track I1 I6 ne1 hna ⟨⟨o6, g6, c6⟩, ⟨o6, g6⟩, fun h1 h2 ⟨o, e1, e2⟩ z => ⟨o, z o e1, e2⟩⟩
    refine store_ok (v := .ref a) I7 hN hi (.inl hl) rfl (fun s8 I8 => ?_) (.inr hl)
    refine wpAny_mono (hs a _ pins s8 _ _ _ I8.mark (hq2 a rfl hna)) (fun fl s9 h9 => ?_) fun ev s9 h9 => h9
    cases fl with
    | next =>
      obtain ⟨σ', H9, I9, q9⟩ := h9
      exact unname (I9.unmark I.ok) hN hi hl fun s' I' => ⟨_, _, I', q9⟩
    | brk =>
      obtain ⟨σ', H9, I9, q9⟩ := h9
      exact unname (I9.unmark I.ok) hN hi hl fun s' I' => ⟨_, _, I', q9⟩
    | cont =>
      obtain ⟨σ', H9, I9, q9⟩ := h9
      exact unname (I9.unmark I.ok) hN hi hl fun s' I' => ⟨_, _, I', q9⟩
    | ret u =>
      obtain ⟨v, σ', H9, I9, r9, q9⟩ := h9
      exact unname (I9.unmark I.ok) hN hi hl fun s' I' => ⟨v, _, _, I', r9, q9⟩
end L2
namespace L2
open PySem PySem.Spec PyProof.Rows
section
open PySem.W PySem.Calls Builtin Builtin.ObjectAttr Builtin.Getset_descriptor
structure XFacts (K : Frag) (C : Addr) : Prop where
  ga : findIn K (.ref C) "__getattribute__" = some (some (.builtin "BaseException.__getattribute__"))
  gb : findIn K (.ref C) "__getattr__" = some none
  ha : findIn K (.ref C) "__class__" = some (some (.builtin "object.__class__"))
  hn : specialIn K (.builtin "object.__class__") "__get__" = some (some (.builtin "getset_descriptor.__get__"))
  ht : takesIn K (.builtin "object.__class__") = some true
  hm : mroIn K C (.type "object") = some true
  hb : mroIn K C (.type "BaseException") = some true
  cl : (clsIn K C).isSome = true
noncomputable def XIs (x C : Addr) (h : Heap) : Prop := ∃ o, h.get? x = some o ∧ o.cls = .ref C
variable {K : Frag} {x C : Addr} {h : Heap} {M : Model}
theorem XIs.type (p : XIs x C h) : Looks M h (typeOf (.ref x)) (.ref C) := by
  obtain ⟨o, e, c⟩ := p
  exact c ▸ (Looks.ld e).andThen .now
theorem XFacts.found (Z : XFacts K C) (X : K.In h) : Looks M h (find (.ref x) (.ref C) "__class__") (.bind (.builtin "getset_descriptor.__get__") (.builtin "object.__class__")) := by
  have l1 := looks_findIn (M := M) X Z.ha
  have l2 : Looks M h (getOf (some (.builtin "object.__class__"))) (some (.builtin "getset_descriptor.__get__")) := looks_specialIn X Z.hn
  have l3 : Looks M h (dataDescriptor? (some (.builtin "object.__class__")) (some (.builtin "getset_descriptor.__get__"))) (some (.builtin "getset_descriptor.__get__", .builtin "object.__class__")) := (looks_takesIn (M := M) X Z.ht).andThen .now
  exact l1.andThen (l2.andThen (l3.andThen (Looks.tag .now)))
variable {prog : Program} {w : World} {A : Around} {E : Value → Shared → Prop} {s : Shared}
theorem xe_get {R : Result → Shared → Prop} {tp : Value} (Z : XFacts K C) (X : K.In s.heap) (p : XIs x C s.heap) (h : R (.ok (.ret (.ref C))) s) :
    codeAny (model prog w) A (.call (.builtin "getset_descriptor.__get__") ⟨[.builtin "object.__class__", .ref x, tp], []⟩) R s := by
  have q1 := p.type (M := model prog w)
  have q2 := looks_mroIn (M := model prog w) X Z.hm
  obtain ⟨hh, g, dr, t, os⟩ := s
  refine codeAny_call_builtin KF.slot_gs.plain KF.entry_gs (KF.slot_gs.check _ _ _ _ _ _ _ _ KF.type_class (KF.args_gs _ _ _) ?_)
  simp only [Builtin.«getset_descriptor.__get__», descrGet, dga_obj]
  refine wpAny_bind (wpAny_pure ?_)
  simp only [descrGetter, descrCheckInstance, descrNameAndClass, isInstance, KF.owner_class]
  repeat lk
  refine ⟨Code.quiet_builtin _ (by decide +kernel), codeAny_builtin KF.entry_class ?_⟩
  simp only [Builtin.«object.__class__», shownTypeOf]
  repeat lk
  exact h
theorem xe_ga {tk : Tok} {R : Result → Shared → Prop} (Z : XFacts K C) (X : K.In s.heap) (p : XIs x C s.heap) (h : R (.ok (.ret (.ref C))) s) :
    codeAny (model prog w) A (.call (.builtin "BaseException.__getattribute__") ⟨[.ref x, .str "__class__" tk], []⟩) R s := by
  have q1 := p.type (M := model prog w)
  have q2 := looks_mroIn (M := model prog w) X Z.hb
  have q3 := Z.found (M := model prog w) (x := x) X
  have hk : builtinKind "BaseException.__getattribute__" = some .slot := by decide +kernel
  have hsp : splitId "BaseException.__getattribute__" = some ("BaseException", "__getattribute__") := by decide +kernel
  have ha := PySem.F.args_bexc_ga (.ref x) (.str "__class__" tk)
  obtain ⟨hh, g, dr, t, os⟩ := s
  refine codeAny_call_builtin PySem.F.attr_ValueError.ga.plain PySem.F.entry_bexc_ga ?_
  simp only [checkBuiltinCall, hk, hsp]
  refine wpAny_bind ?_
  unfold isInstance
  repeat lk
  show wpAny _ _ (run (.call (.builtin "getset_descriptor.__get__") ⟨[.builtin "object.__class__", .ref x, .ref C], []⟩) none) _ _ _
  refine wpAny_run (xe_get Z X p ?_)
  exact wpAny_pure (wpAny_pure h)
theorem xe_class {Q : Option Value → Shared → Prop} (Z : XFacts K C) (X : K.In s.heap) (p : XIs x C s.heap) (h : Q (some (.ref C)) { s with toks := s.toks + 1 }) : wpAny (model prog w) A (getAttr? (.ref x) "__class__") Q E s := by
  have q1 := p.type (M := model prog w)
  have q2 := looks_findIn (M := model prog w) X Z.ga
  have q4 := looks_findIn (M := model prog w) X Z.gb
  have f3 := PySem.F.attr_ValueError.ga.bind (.ref x)
  obtain ⟨hh, g, dr, t, os⟩ := s
  simp only [getAttr?, getAttrBy?, getAttrBy]
  refine wpAny_bind (wpAny_mkText (wpAny_bind (wpAny_attempt (wpAny_holding (wpAny_bind (q1.at (wpAny_bind (q2.at ?_))))))))
  show wpAny _ _ (getAttrByItsOwn _ _ _ _ _ _) _ _ _
  refine wpAny_bind ?_
  show wpAny _ _ (typeLookup (.ref C) "__getattr__") _ _ _
  refine q4.at (wpAny_bind (wpAny_attempt (wpAny_holding ?_)))
  show wpAny _ _ (boundAndCalled _ _ _) _ _ _
  unfold boundAndCalled
  rw [f3]
  refine wpAny_bind (wpAny_pure ?_)
  show wpAny _ _ (call (.builtin "BaseException.__getattribute__") [.ref x, .str "__class__" t]) _ _ _
  refine wpAny_call (xe_ga Z X p ?_)
  show wpAny _ _ (handedOut (Value.ref C)) _ _ _
  exact handed_on rfl (wpAny_pure h)
theorem kitx_exc (Z : XFacts K C) : KitX K (.ref x) (.ref C) (XIs x C) where
  ty := fun _ _ _ p => p.type
  it := fun M h X _ => by
    obtain ⟨cd, hc⟩ := Option.isSome_iff_exists.mp Z.cl
    unfold clsIn at hc
    split at hc
    · rename_i ho
      intro A' Q' E' s' k q
      unfold isType loadHead
      exact wpAny_bind (wpAny_loadPart (k _ _ (X _ _ ho)) (wpAny_pure q))
    · cases hc
  ne := fun h tp dd its n sl X htp => by
    obtain ⟨cd, hc⟩ := Option.isSome_iff_exists.mp Z.cl
    refine Bool.eq_false_iff.mpr fun q => ?_
    cases Value.ref.inj (beq_iff_eq.mp q)
    unfold clsIn at hc
    split at hc
    · rename_i ho
      cases (X _ _ ho).symm.trans htp
    · cases hc
  ca := fun X p k => xe_class Z X p k
end
section
variable {X : Cx} {pins : List (Addr × Obj)} {σ : St} {H : Hp} {s : Shared} {A : Around} {E : Value → Shared → Prop} {Q : Value → Shared → Prop} {e f : Expr} {t : TA} {p pos : Pos}
theorem xobj_is {a C : Addr} (I : Inv X pins σ H s) (h : H a = some (xObj a C)) : XIs a C s.heap := (show ObjOk X.prog X.w H s.heap a (xObj a C) from I.hok a _ h).1
noncomputable def rIsx (K : PySem.W.Frag) : List V → Hp → VK → Prop := fun xs H Q => ∃ a C c u b, xs = [.ref a, c] ∧ H a = some (xObj a C) ∧ XFacts K C ∧ (∀ v, RelV c v → v = u) ∧ PySem.W.kitOne K (.ref C) u = some b ∧ Q (.bl b) H
theorem call_isx : CallR X (.builtin "isinstance") (rIsx X.K) := by
  intro pins s σ H xs us Q I r h
  obtain ⟨a, C, c, u, b, rfl, ea, Z, ru, e, q⟩ := h
  obtain ⟨v1, v2, rfl, r1, r2⟩ := vals2 r
  cases r1
  cases ru v2 r2
  exact PySem.W.kia_one (kitx_exc Z) I.kIn (xobj_is I ea) e (fun z => nomatch z) fun tk => ⟨.bl b, H, I.tok tk, rfl, q⟩
theorem b_isx (K : PySem.W.Frag) (B : Blt X.mg) (ha : PA X [e, f] t) (hg : Gl X "isinstance" := by rfl) (he : starEach [e, f] X.env = (false, eval e X.env) :: starEach [f] X.env := by rfl) (hpl : (backTo pos (starEach [f] X.env)).any (·.1) = false := by rfl) (hK : X.K = K := by rfl) :
    PE X (.Call (.Name "isinstance" p) [e, f] [] pos) (tCB (rIsx K) t) :=
  hK ▸ pe_callB call_isx hg B.isinstance boot_isinstance ha (by decide) (by decide) he hpl
noncomputable def rIsxT (K : PySem.W.Frag) : List V → Hp → VK → Prop := fun xs H Q => ∃ (a C tp : Addr) (cs : List Addr) (b : Bool), xs = [.ref a, .ref tp] ∧ H a = some (xObj a C) ∧ H tp = some (.tup (cs.map V.ref)) ∧ XFacts K C ∧ PySem.W.kitAny K (.ref C) (cs.map Value.ref) = some b ∧ Q (.bl b) H
theorem vals_refs : ∀ {cs : List Addr} {its : List Value}, Vals (cs.map V.ref) its → its = cs.map Value.ref
  | [], _, .nil => rfl
  | c :: cs, _, .cons r t => by
    cases r
    exact congrArg _ (vals_refs t)
theorem call_isxT : CallR X (.builtin "isinstance") (rIsxT X.K) := by
  intro pins s σ H xs us Q I r h
  obtain ⟨a, C, tp, cs, b, rfl, ea, et, Z, e, q⟩ := h
  obtain ⟨v1, v2, rfl, r1, r2⟩ := vals2 r
  cases r1
  cases r2
  obtain ⟨_, its, rv, ⟨oc, od, odt, osl⟩, h1, h2, n, h3, _⟩ := (show ObjOk X.prog X.w H s.heap tp (.tup _) from I.hok tp _ et)
  have h2 : oc = .type "tuple" := h2
  have h3 : odt = .seq its.toArray n := h3
  subst h2 h3
  cases vals_refs rv
  exact PySem.W.kia_tup (kitx_exc Z) I.kIn (xobj_is I ea) h1 e (fun z => nomatch z) fun tk => ⟨.bl b, H, I.tok tk, rfl, q⟩
theorem b_isxT (K : PySem.W.Frag) (B : Blt X.mg) (ha : PA X [e, f] t) (hg : Gl X "isinstance" := by rfl) (he : starEach [e, f] X.env = (false, eval e X.env) :: starEach [f] X.env := by rfl) (hpl : (backTo pos (starEach [f] X.env)).any (·.1) = false := by rfl) (hK : X.K = K := by rfl) :
    PE X (.Call (.Name "isinstance" p) [e, f] [] pos) (tCB (rIsxT K) t) :=
  hK ▸ pe_callB call_isxT hg B.isinstance boot_isinstance ha (by decide) (by decide) he hpl
end
end L2
namespace L2
open PySem PySem.Spec PyProof.Rows
section
variable {P : Program} {w : World} {K : PySem.W.Frag} {mg : Str → Option Value} {base : Heap}
theorem Fun.okX {x qual : Str} {st : Stmt} {f : Addr} {fd : FuncData} {N ps : List Str} {k : Nat} {sp : Sp} (F : Fun K x qual st f fd) (S : FnScope N ps (defScope st)) (len : ∀ vs H Q E, sp vs H Q E → vs.length = ps.length)
    (hbody : ∀ (cdv : Value) (A : Around) (outer : List Env) (s : Shared) (H : Hp) (vs : List V) (Q : VK) (E : XK), Room k (A.deeper (envOfC qual (defScope st) s.heap.objs.size f cdv)) → sp vs H Q E →
      ∃ t, PSs (cxOf (CX1 P w) P w K mg base N qual (defScope st) f cdv A outer s H E) (defBody st) t ∧ t { nx := fun _ H' => Q .non H', rt := Q } (start N vs) H) : FnOk P w K mg base (CX1 P w) (k + 1) f fd ps sp := by
  obtain ⟨oc, od, kV, doc, pm, an, cdv, ct, osl, rfl, lk, hcd⟩ := F.ex
  exact fn_of lk hcd S len fun A outer s H vs Q E hr hsp => hbody cdv A outer s H vs Q E hr hsp
structure CalX (P : Program) (w : World) (K : PySem.W.Frag) (mg : Str → Option Value) (base : Heap) (k : Nat) (x : Str) (ps : List Str) (sp : Sp) : Prop where
  ex : ∃ (f : Addr) (fd : FuncData), FnOk P w K mg base (CX1 P w) k f fd ps sp ∧ mg x = some (.ref f) ∧ PySem.W.keepIn K (.ref f) = true ∧ Binds K fd ps []
variable {x : Str} {C N : Addr} {bmB bm bs : List Value} {newId : String} {nm q : Str} {hdct : Bool} {sn : List Str} {sub : List Value} {ab : Bool} {col : Option Bool} {dd : Option Addr} {k0 k1 k2 k3 k5 : Option Value} {h : Heap}
theorem own_mk (X : K.In h) (bound : mg x = some (.ref C)) (lk : K.lookup C = some (excClassObj nm q C N bs bm hdct sn sub ab col dd k0 k1 k2 k3 k5 newId)) (ok : PySem.W.nsOkIn K N = true) (ni : PySem.W.nsIn K N "__init__" = some none)
    (tl : PySem.W.tailIn K bmB bm = true) : OwnCls x C bmB newId mg h :=
  ⟨bound, bm, N, nm, q, bs, hdct, sn, sub, ab, col, dd, k0, k1, k2, k3, k5, _, X _ _ lk, .of_isNs (PySem.W.isNs_of_in X ok), PySem.W.nsMap_none_of_in X ok ni, PySem.W.tail_of_in X tl⟩
theorem xat_mk (X : K.In h) (lk : K.lookup C = some (excClassObj nm q C N bs bm hdct sn sub ab col dd k0 k1 k2 k3 k5 newId)) : XAt h C bm :=
  ⟨nm, q, N, bs, hdct, sn, sub, ab, col, dd, k0, k1, k2, k3, k5, newId, X _ _ lk⟩
end
end L2
namespace L2
open PySem PySem.Spec PyProof.Rows
theorem ps_tryC {X : Cx} {k : Nat} {Dc : Addr} {ps : List Str} {sp : Sp} {bmD : List Value} {x Dn n : Str} {i : Nat} {p q cpos epos hpos tpos : Pos} {e : Expr} {es : List Expr} {t : TA} {b₀ : Stmt} {suite : List Stmt} {tb : TS}
    (c : CalX X.prog X.w X.K X.mg X.base k x ps sp) (hr : Room k X.A) (hg : Gl X x) (ha : ∀ xe, PA (X.wish xe) (e :: es) t)
    (hst : X.stack = X.env :: X.outer) (hfr : X.env.frame = some X.env.locals) (hgD : Gl X Dn) (hmD : X.mg Dn = some (.ref Dc)) (hD : XAt X.base Dc bmD) (hDb : bmD.contains (.type "BaseException") = true)
    (hN : X.N.Nodup) (hi : X.N[i]? = some n) (hl : X.env.scope.names.lookup n = some .local) (hs : ∀ a xe, PSs (X.mark (.ref a) xe) (b₀ :: suite) tb)
    (hdb : (x == ("__debug__" : Str)) = false := by decide) (hdD : (Dn == ("__debug__" : Str)) = false := by decide) (he : starEach (e :: es) X.env = (false, eval e X.env) :: starEach es X.env := by rfl) (hpl : (backTo cpos (starEach es X.env)).any (·.1) = false := by rfl)
    (hsw : swapsWith (.Call (.Name x p) (e :: es) [] cpos) none epos.line X.env = pure false := by rfl) :
    PS X (.Try [.Expr (.Call (.Name x p) (e :: es) [] cpos) epos] [.ExceptHandler (some (.Name Dn q)) (some n) (b₀ :: suite) hpos] [] [] tpos) (tTry1 X.base sp [] t Dc i tb) := by
  obtain ⟨f, fd, G, mf, kp, b⟩ := c.ex
  exact ps_try1 G hr hg mf kp b .nil ha hst hfr hgD hmD hD hDb hN hi hl hs hdb hdD he hpl hsw
structure Errs (K : PySem.W.Frag) (mg : Str → Option Value) (base : Heap) (ec : Str → Addr) (l c : List Str) : Prop where
  b : ∀ x ∈ l, mg x = some (.ref (ec x))
  f : ∀ x ∈ c, XFacts K (ec x)
  ord : ("OrderError" : Str) ∈ c
  kit : ∀ x ∈ c, x ≠ "OrderError" → ∀ y ∈ l, PySem.W.kitOne K (.ref (ec x)) (.ref (ec y)) = some (y == x || y == ("OrderError" : Str))
  val : ∀ x ∈ c, PySem.W.kitOne K (.ref (ec x)) (.type "ValueError") = some true
  at_ : ∀ x ∈ c, ∃ bm, XAt base (ec x) bm ∧ bm.contains (.type "BaseException") = true ∧ (Value.ref (ec x) :: bm).contains (.ref (ec "OrderError")) = true
  nv : mg "ValueError" = none
  own : ∀ x ∈ c, x ∉ (["NoText", "Ring", "NoUnit"] : List Str) → OwnCls x (ec x) [.type "ValueError", .type "Exception", .type "BaseException", .type "object"] "ValueError.__new__" mg base
theorem kitAny_false {K : PySem.W.Frag} {t : Value} : ∀ {cs : List Value}, (∀ c ∈ cs, PySem.W.kitOne K t c = some false) → PySem.W.kitAny K t cs = some false
  | [], _ => rfl
  | c :: cs, h => by
    unfold PySem.W.kitAny
    rw [h c (List.mem_cons_self ..)]
    exact kitAny_false fun d hd => h d (List.mem_cons_of_mem _ hd)
section
variable {K : PySem.W.Frag} {mg : Str → Option Value} {base : Heap} {ec : Str → Addr} {l c : List Str}
theorem Errs.none_of (Er : Errs K mg base ec l c) {x : Str} (hx : x ∈ c) (hn : x ≠ "OrderError") {ys : List Str} (h : ∀ y ∈ ys, y ∈ l ∧ y ≠ x ∧ y ≠ "OrderError") : PySem.W.kitAny K (.ref (ec x)) ((ys.map ec).map Value.ref) = some false := by
  refine kitAny_false fun d hc => ?_
  rw [List.map_map] at hc
  obtain ⟨y, hy, rfl⟩ := List.mem_map.mp hc
  obtain ⟨h1, h2, h3⟩ := h y hy
  show PySem.W.kitOne K (.ref (ec x)) (.ref (ec y)) = some false
  rw [Er.kit x hx hn y h1]
  simp [h2, h3]
end
theorem ps_raiseV {P : Program} {w : World} {K : PySem.W.Frag} {mg : Str → Option Value} {base : Heap} {ec : Str → Addr} {l c : List Str} {N : List Str} {qual : Str} {scope : Scope} {f : Addr} {cd : Value} {A : Around} {outer : List Env} {s : Shared} {H : Hp} {E : XK}
    {x : Str} {np cpos pos : Pos} {e₀ : Expr} {rest : List Expr} {ta : TA} (Er : Errs K mg base ec l c) (hx : x ∈ c) (hi : x ∉ (["NoText", "Ring", "NoUnit"] : List Str))
    (hg : Gl (cxOf (CX1 P w) P w K mg base N qual scope f cd A outer s H E) x) (ha : PA (cxOf (CX1 P w) P w K mg base N qual scope f cd A outer s H E) (e₀ :: rest) ta)
    (he : starEach (e₀ :: rest) (cxOf (CX1 P w) P w K mg base N qual scope f cd A outer s H E).env = (false, eval e₀ (cxOf (CX1 P w) P w K mg base N qual scope f cd A outer s H E).env) :: starEach rest (cxOf (CX1 P w) P w K mg base N qual scope f cd A outer s H E).env := by rfl)
    (hpl : (backTo cpos (starEach rest (cxOf (CX1 P w) P w K mg base N qual scope f cd A outer s H E).env)).any (·.1) = false := by rfl) (hdb : (x == ("__debug__" : Str)) = false := by decide) :
    PS (cxOf (CX1 P w) P w K mg base N qual scope f cd A outer s H E) (.Raise (some (.Call (.Name x np) (e₀ :: rest) [] cpos)) none pos) (tRaise E (ec x) ta) :=
  ps_raise1 (Er.own x hx hi) PySem.F.excBase_ValueError (by decide) PySem.F.excBase_ValueError hg ha he hpl hdb
theorem b_ValueError : bootBuiltins "ValueError" = some (.type "ValueError") := by decide +kernel
end L2
namespace MG
variable {α : Type}
noncomputable def RtTo (g : α → Nat) (l : List α) (k : Nat) : Prop := ∀ j x y, j < k → l[j]? = some x → l[j + 1]? = some y → g x ≤ g y
noncomputable def Fu (g : α → Nat) (l : List α) (k : Nat) : Prop := RtTo g l k ∧ ∃ x y, l[k]? = some x ∧ l[k + 1]? = some y ∧ g y < g x
theorem Fu.lt {g : α → Nat} {l : List α} {k : Nat} (h : Fu g l k) : k + 1 < l.length := by
  obtain ⟨_, x, y, _, hy, _⟩ := h
  exact (List.getElem?_eq_some_iff.mp hy).1
theorem Fu.uniq {g : α → Nat} {l : List α} {k m : Nat} (h : Fu g l k) (h2 : Fu g l m) : k = m := by
  obtain ⟨a, x, y, hx, hy, hl⟩ := h
  obtain ⟨b, u, v, hu, hv, hm⟩ := h2
  rcases Nat.lt_trichotomy k m with q | q | q
  · have := b k x y q hx hy; omega
  · exact q
  · have := a m u v q hu hv; omega
theorem Fu.not {g : α → Nat} {l : List α} {k : Nat} (h : Fu g l k) (d : RtTo g l l.length) : False := by
  have hl := h.lt
  obtain ⟨a, x, y, hx, hy, hlt⟩ := h
  have := d k x y (by omega) hx hy
  omega
inductive Bub (g : α → Nat) (xs : List α) : Nat → List Nat → List α → Prop
  | zero : Bub g xs 0 [] xs
  | step {n k : Nat} {t : List Nat} {ys : List α} : Bub g xs n t ys → Fu g ys k → Bub g xs (n + 1) (t ++ [k]) (exch ys k)
theorem Bub.uniq {g : α → Nat} {xs : List α} : ∀ {n : Nat} {t u : List Nat} {ys zs : List α}, Bub g xs n t ys → Bub g xs n u zs → t = u ∧ ys = zs := by
  intro n t u ys zs h
  induction h generalizing u zs with
  | zero =>
    intro h2
    cases h2
    exact ⟨rfl, rfl⟩
  | step b f ih =>
    intro h2
    cases h2 with
    | step b2 f2 =>
      obtain ⟨rfl, rfl⟩ := ih b2
      have := f.uniq f2
      subst this
      exact ⟨rfl, rfl⟩
theorem Bub.back {g : α → Nat} {xs : List α} {n m : Nat} {t : List Nat} {ys : List α} (h : Bub g xs m t ys) (hn : n < m) : ∃ u zs k, Bub g xs n u zs ∧ Fu g zs k := by
  induction h with
  | zero => omega
  | @step m k t ys b f ih =>
    by_cases q : n < m
    · exact ih q
    · have : n = m := by omega
      subst this
      exact ⟨t, ys, k, b, f⟩
theorem Bub.fin {g : α → Nat} {xs : List α} {n m : Nat} {t u : List Nat} {ys zs : List α} (h : Bub g xs n t ys) (d : RtTo g ys ys.length) (h2 : Bub g xs m u zs) (d2 : RtTo g zs zs.length) : t = u ∧ ys = zs := by
  rcases Nat.lt_trichotomy n m with q | q | q
  · obtain ⟨a, b, k, c, e⟩ := h2.back q
    obtain ⟨_, rfl⟩ := h.uniq c
    exact absurd (e.not d) id
  · subst q
    exact h.uniq h2
  · obtain ⟨a, b, k, c, e⟩ := h.back q
    obtain ⟨_, rfl⟩ := h2.uniq c
    exact absurd (e.not d2) id
theorem Bub.perm {g : α → Nat} {xs : List α} {n : Nat} {t : List Nat} {ys : List α} (h : Bub g xs n t ys) : ys.Perm xs := by
  induction h with
  | zero => exact List.Perm.refl _
  | step b f ih => exact (exch_perm f.lt).trans ih
theorem Bub.inv {g : α → Nat} {xs : List α} {n : Nat} {t : List Nat} {ys : List α} (h : Bub g xs n t ys) : (invR g ys).length + n = (invR g xs).length := by
  induction h with
  | zero => rfl
  | step b f ih =>
    obtain ⟨_, x, y, hx, hy, hl⟩ := f
    have := inv_exch hx hy hl
    omega
theorem Bub.len {g : α → Nat} {xs : List α} {n : Nat} {t : List Nat} {ys : List α} (h : Bub g xs n t ys) : t.length = n := by
  induction h with
  | zero => rfl
  | step b f ih => rw [List.length_append, ih]; rfl
theorem Bub.few [DecidableEq α] {g : α → Nat} {xs : List α} {n : Nat} {t : List Nat} {ys : List α} (h : Bub g xs n t ys) (hx : xs.length ≤ 60) : t.length ≤ 3600 := by
  have h1 := h.inv
  have h2 := h.len
  have h3 := len_inv (pos := g) xs
  have h4 : xs.length * xs.length ≤ 60 * 60 := Nat.mul_le_mul hx hx
  omega
theorem Bub.lt {g : α → Nat} {xs : List α} {n : Nat} {t : List Nat} {ys : List α} (h : Bub g xs n t ys) : ∀ k ∈ t, k + 1 < xs.length := by
  induction h with
  | zero => intro k hk; cases hk
  | step b f ih =>
    intro j hj
    rcases List.mem_append.mp hj with q | q
    · exact ih j q
    · rw [List.mem_singleton.mp q]
      have := f.lt
      rw [b.perm.length_eq] at this
      exact this
theorem Bub.led {g : α → Nat} {xs : List α} {n : Nat} {t : List Nat} {ys : List α} (h : Bub g xs n t ys) : t.foldl exch xs = ys := by
  induction h with
  | zero => rfl
  | step b f ih => rw [List.foldl_append, ih]; rfl
theorem right_eq [DecidableEq α] {os ys : List α} (nd : os.Nodup) (pm : ys.Perm os) (d : RtTo (ix os) ys ys.length) : ys = os := by
  have ln := pm.length_eq
  have ndy : ys.Nodup := pm.nodup_iff.mpr nd
  have mem : ∀ {x}, x ∈ ys → x ∈ os := fun h => pm.mem_iff.mp h
  have up : ∀ j, ∀ h : j < ys.length, j ≤ ix os (ys[j]'h) := by
    intro j
    induction j with
    | zero => intro h; omega
    | succ j ih =>
      intro h
      have h0 : j < ys.length := by omega
      have a := ih h0
      have b := d j _ _ h0 (List.getElem?_eq_getElem h0) (List.getElem?_eq_getElem h)
      have c : ix os (ys[j]'h0) ≠ ix os (ys[j + 1]'h) := fun z => by
        have := ix_inj (mem (List.getElem_mem h0)) (mem (List.getElem_mem h)) z
        have := (List.getElem_inj ndy).mp this
        omega
      omega
  have dn : ∀ m j, ∀ h : j < ys.length, j + m + 1 = ys.length → ix os (ys[j]'h) ≤ j := by
    intro m
    induction m with
    | zero =>
      intro j h e
      have := ix_lt (mem (List.getElem_mem h))
      omega
    | succ m ih =>
      intro j h e
      have h1 : j + 1 < ys.length := by omega
      have a := ih (j + 1) h1 (by omega)
      have b := d j _ _ h (List.getElem?_eq_getElem h) (List.getElem?_eq_getElem h1)
      have c : ix os (ys[j]'h) ≠ ix os (ys[j + 1]'h1) := fun z => by
        have := ix_inj (mem (List.getElem_mem h)) (mem (List.getElem_mem h1)) z
        have := (List.getElem_inj ndy).mp this
        omega
      omega
  refine List.ext_getElem ln fun j h1 h2 => ?_
  have a := up j h1
  have b := dn (ys.length - 1 - j) j h1 (by omega)
  have e : ix os (ys[j]'h1) = j := by omega
  have q := at_ix (mem (List.getElem_mem h1))
  rw [e, List.getElem?_eq_getElem h2] at q
  exact (Option.some.inj q).symm
theorem exch_left {l : List α} {k j : Nat} (hk : k + 1 < l.length) (h : j < k) : (exch l k)[j]? = l[j]? := by
  unfold exch
  rw [List.append_assoc, List.getElem?_append_left (by rw [List.length_take]; omega), List.getElem?_take_of_lt h]
end MG
namespace MG
theorem set_exch {α : Type} {x y : α} : ∀ {l : List α} {k : Nat}, l[k]? = some x → l[k + 1]? = some y → (l.set k y).set (k + 1) x = exch l k
  | [], k, h, _ => by simp at h
  | [a], k, _, h => by simp at h
  | a :: b :: r, 0, h, g => by
    have h : a = x := by simpa using h
    have g : b = y := by simpa using g
    subst h g
    rfl
  | a :: b :: r, k + 1, h, g => by
    have h : (b :: r)[k]? = some x := by simpa using h
    have g : (b :: r)[k + 1]? = some y := by simpa using g
    show a :: ((b :: r).set k y).set (k + 1) x = a :: exch (b :: r) k
    rw [set_exch h g]
end MG
namespace L2
open PySem
theorem comp_enum {K : PySem.W.Frag} {k : Nat} {fr : List Nat} {g : TG} {tc : TT} {te : TE} {σ : St} {H1 : Hp} {Q : VK} {a : Addr} (xs : List V) (Pv : Addr → Nat → List V → St → Hp → Prop)
    (h : ∀ D, H1 D = none → Pv D 0 [] (inSt k fr σ) (upd H1 D (.lst [])) ∧ (∀ i acc σ' H', i ≤ xs.length → Pv D i acc σ' H' → H' D = some (.lst acc) → SqL K H' a xs) ∧
      (∀ i acc σ' H' x p, xs[i]? = some x → Pv D i acc σ' H' → H' D = some (.lst acc) → H' p = none → g (.ref p) σ' (upd H' p (.tup [.int i, x])) fun σ2 H3 => tc σ2 H3 fun b H4 =>
        if b = true then te σ2 H4 fun y H5 => H5 D = some (.lst acc) ∧ acc.length < sizeLine ∧ Pv D (i + 1) (acc ++ [y]) σ2 (upd H5 D (.lst (acc ++ [y]))) else H4 D = some (.lst acc) ∧ Pv D (i + 1) acc σ2 H4) ∧
      ∀ acc σ' H', Pv D xs.length acc σ' H' → H' D = some (.lst acc) → Q (.ref D) H') : tCompW k fr g tc te (Ite K a) σ H1 Q := by
  intro D hD
  obtain ⟨h0, hok, hs, hd⟩ := h D hD
  refine ⟨fun i m acc σ' H' => m = xs.length - i ∧ i ≤ xs.length ∧ Pv D i acc σ' H', ⟨xs.length, by simp, Nat.zero_le _, h0⟩, ?_⟩
  rintro i m acc σ' H' ⟨rfl, hi, p⟩ hacc
  have oka := hok i acc σ' H' hi p hacc
  by_cases hlt : i < xs.length
  · refine .inr ⟨⟨xs, xs[i], oka, by simp [hlt]⟩, Pv D (i + 1), fun acc' σ2 H2 p' => ⟨xs.length - (i + 1), by omega, rfl, hlt, p'⟩, fun v H2 yl => ?_⟩
    obtain ⟨q, x, hq, rfl, hx, rfl⟩ := yl
    exact hs i acc σ' H' x q (hx xs oka) p hacc hq
  · have e : i = xs.length := by omega
    subst e
    exact .inl ⟨⟨xs, oka, Nat.le_refl _⟩, hd acc σ' H' p hacc⟩
noncomputable def relS (scope osc : Scope) : Scope := { scope with names := scope.names.map fun (n, k) => if (k == NameKind.free && osc.kind == .function && osc.names.lookup n == some .cell) then (n, NameKind.cell) else (n, k) }
theorem pe_compI {X : Cx} {tg elt iter : Expr} {ifs : List Expr} {scope : Scope} {pos : Pos} (osc : Scope) (NX own : List Str) (fr : List Nat) (N : List Str) {wi : TI} {g : TG} {tc : TT} {te : TE} {sc0 : Scope} (hc : X.calm = true)
    (hi : PI X tg iter wi) (hg : ∀ cl C s₀ H₀ ex, PG (cxC X scope N cl C s₀ H₀ ex) tg g) (ht : ∀ cl C s₀ H₀ ex, PTs (cxC X scope N cl C s₀ H₀ ex) ifs tc) (he : ∀ cl C s₀ H₀ ex, PE (cxC X scope N cl C s₀ H₀ ex) elt te)
    (hs : ∀ x, foldedSetIterable iter X.env x = pure x := by intro _; rfl) (hosc : X.env.scope = relS sc0 osc := by rfl) (hNX : X.N = NX := by rfl) (hS : compOk (relS sc0 osc) scope NX own fr N = true := by decide +kernel) :
    PE X (.ListComp elt [⟨tg, iter, ifs, 0⟩] scope pos) (tComp own.length fr wi g tc te) := pe_comp (relS sc0 osc) NX own fr N hc hi hg ht he hs hosc hNX hS
theorem with_rest {R J : St → Hp → Prop} {G : Prop} (main : (∀ σ H, J σ H → R σ H) → G) (rest : ∀ σ H, J σ H → R σ H) : G := main rest
theorem onceU {G T : Prop} (m : (Unit → T) → G) (t : T) : G := m fun _ => t
end L2
namespace L2
open PySem PySem.Spec PyProof.Rows
noncomputable def ecOf (ps : List (Str × Addr)) (x : Str) : Addr := (ps.lookup x).getD 0
theorem ecOf_at : ∀ {ps : List (Str × Addr)}, (ps.map (·.1)).Nodup → ∀ p ∈ ps, ecOf ps p.1 = p.2
  | [], _, p, h => by cases h
  | q :: ps, nd, p, h => by
    rw [List.map_cons, List.nodup_cons] at nd
    unfold ecOf
    rcases List.mem_cons.mp h with rfl | h
    · rw [List.lookup_cons]; simp
    · have ne : p.1 ≠ q.1 := fun z => nd.1 (z ▸ List.mem_map.mpr ⟨p, h, rfl⟩)
      have : (p.1 == q.1) = false := by simpa using ne
      rw [List.lookup_cons, this]
      exact ecOf_at nd.2 p h
theorem fa_nil {α : Type} {P : α → Prop} : ∀ x ∈ ([] : List α), P x := fun x h => by cases h
theorem fa_cons {α : Type} {P : α → Prop} {a : α} {l : List α} (h : P a) (g : ∀ x ∈ l, P x) : ∀ x ∈ a :: l, P x := fun x hx => by
  rcases List.mem_cons.mp hx with rfl | hx
  · exact h
  · exact g x hx
variable {K : PySem.W.Frag} {mg : Str → Option Value} {base : Heap}
theorem errs_mk {ps cs : List (Str × Addr)} (nd : (ps.map (·.1)).Nodup) (sub : ∀ p ∈ cs, p ∈ ps) (b : ∀ p ∈ ps, mg p.1 = some (.ref p.2)) (f : ∀ p ∈ cs, XFacts K p.2) (ord : ("OrderError" : Str) ∈ cs.map (·.1))
    (kit : ∀ p ∈ cs, p.1 ≠ "OrderError" → ∀ q ∈ ps, PySem.W.kitOne K (.ref p.2) (.ref q.2) = some (q.1 == p.1 || q.1 == ("OrderError" : Str))) (val : ∀ p ∈ cs, PySem.W.kitOne K (.ref p.2) (.type "ValueError") = some true)
    (at_ : ∀ p ∈ cs, ∃ bm, XAt base p.2 bm ∧ bm.contains (.type "BaseException") = true ∧ (Value.ref p.2 :: bm).contains (.ref (ecOf ps "OrderError")) = true) (nv : mg "ValueError" = none)
    (own : ∀ p ∈ cs, p.1 ∉ (["NoText", "Ring", "NoUnit"] : List Str) → OwnCls p.1 p.2 [.type "ValueError", .type "Exception", .type "BaseException", .type "object"] "ValueError.__new__" mg base) : Errs K mg base (ecOf ps) (ps.map (·.1)) (cs.map (·.1)) := by
  have e := ecOf_at nd
  have q : ∀ {x : Str}, x ∈ ps.map (·.1) → ∃ p ∈ ps, p.1 = x := fun h => by obtain ⟨p, hp, rfl⟩ := List.mem_map.mp h; exact ⟨p, hp, rfl⟩
  have r : ∀ {x : Str}, x ∈ cs.map (·.1) → ∃ p ∈ cs, p.1 = x := fun h => by obtain ⟨p, hp, rfl⟩ := List.mem_map.mp h; exact ⟨p, hp, rfl⟩
  refine ⟨fun x hx => ?_, fun x hx => ?_, ord, fun x hx hn y hy => ?_, fun x hx => ?_, fun x hx => ?_, nv, fun x hx hn => ?_⟩
  · obtain ⟨p, hp, rfl⟩ := q hx
    rw [e p hp]; exact b p hp
  · obtain ⟨p, hp, rfl⟩ := r hx
    rw [e p (sub p hp)]; exact f p hp
  · obtain ⟨p, hp, rfl⟩ := r hx
    obtain ⟨p2, hp2, rfl⟩ := q hy
    rw [e p (sub p hp), e p2 hp2]; exact kit p hp hn p2 hp2
  · obtain ⟨p, hp, rfl⟩ := r hx
    rw [e p (sub p hp)]; exact val p hp
  · obtain ⟨p, hp, rfl⟩ := r hx
    rw [e p (sub p hp)]; exact at_ p hp
  · obtain ⟨p, hp, rfl⟩ := r hx
    rw [e p (sub p hp)]; exact own p hp hn
end L2
namespace K18
open PySem L2
noncomputable def top (i : Nat) : Stmt := PySem.Challenge.pw_orderkeep_k18_exchanges_told.main.body.getD i (.Pass ⟨0, 0, 0, 0⟩)
noncomputable abbrev sIsName : Stmt := top 23
noncomputable abbrev sPlaces : Stmt := top 25
noncomputable abbrev sLists : Stmt := top 26
noncomputable abbrev sIsOrder : Stmt := top 28
noncomputable abbrev sExchs : Stmt := top 30
noncomputable abbrev sLed : Stmt := top 31
noncomputable abbrev sFirstU : Stmt := top 32
noncomputable abbrev sExch : Stmt := top 33
noncomputable abbrev sTake : Stmt := top 35
noncomputable abbrev sNames : Stmt := top 36
noncomputable abbrev sTies : Stmt := top 37
noncomputable abbrev sBuilt : Stmt := top 38
noncomputable abbrev sWeb : Stmt := top 39
noncomputable abbrev sSame : Stmt := top 40
noncomputable abbrev sFree : Stmt := top 41
noncomputable abbrev sDrawn : Stmt := top 42
noncomputable abbrev sOthers : Stmt := top 43
noncomputable abbrev sLLed : Stmt := top 44
noncomputable abbrev sDue : Stmt := top 45
noncomputable abbrev sNoOrd : Stmt := top 46
noncomputable abbrev sRefused : Stmt := top 47
noncomputable abbrev sRight : Stmt := top 48
noncomputable abbrev sLaw : Stmt := top 49
section
variable {P : Program} {w : World} {K : PySem.W.Frag} {mg : Str → Option Value} {base : Heap}
noncomputable def spNames (K : PySem.W.Frag) : Sp := fun vs H Q _ => ∃ (p a : Addr) (m : Nat), vs = [.ref p, .int (m : Int)] ∧ Pen K H p a ∧ m ≤ 60 ∧
  ∀ l ss H', ss.length = m → ss.Nodup → (∀ s ∈ ss, Nm s) → H' l = some (.lst (List.map V.str ss)) → l ≠ p → PenV H' p a → But p H H' → Q (.ref l) H'
theorem scTake : FnScope ["_law_pen", "_law_many", "_law_digit", "_law_at", "_law_cell", "_law_one", "_law_two"] ["_law_pen", "_law_many"] (defScope sTake) := ⟨rfl, rfl, rfl, by decide +kernel, rfl, by decide +kernel, by decide +kernel⟩
theorem two_small (x : Int) : -(2 ^ 64) < x % 2147483587 ∧ x % 2147483587 < 2 ^ 64 := by
  have h1 := Int.emod_nonneg x (show (2147483587 : Int) ≠ 0 by decide)
  have h2 := Int.emod_lt_of_pos x (show (0 : Int) < 2147483587 by decide)
  omega
theorem cell_small (x : Int) : -(2 ^ 64) < x % 2147483629 + 1 ∧ x % 2147483629 + 1 < 2 ^ 64 := by
  have h1 := Int.emod_nonneg x (show (2147483629 : Int) ≠ 0 by decide)
  have h2 := Int.emod_lt_of_pos x (show (0 : Int) < 2147483629 by decide)
  omega
theorem ok_take {f : Addr} {fd : FuncData} (F : Fun K "_law_take" "_law_take" sTake f fd) (B : Blt mg) : FnOk P w K mg base CX0 1 f fd ["_law_pen", "_law_many"] (spDraw K) := by
  refine F.ok scTake (fun vs H Q E h => ?_) (fun cdv A outer s H vs Q E hr h => ?_)
  · obtain ⟨p, a, m, rfl, _⟩ := h
    rfl
  · obtain ⟨p, a, m, rfl, ⟨⟨ns, hS⟩, i, n, hp, hi, hn⟩, hm, hm2, k⟩ := h
    have ku : ∀ (H1 : Hp) (o : HO), (∀ b, b ≠ p → H1 b = H b) → ∀ b, b ≠ p → (upd H1 p o) b = H b := fun H1 o q b n => by rw [upd_ne n]; exact q b n
    have nd := scTake.nd
    refine ⟨_, (pss_cons (ps_if (pt_cmpR op_gt (pe_ix (ix_X K hr.units) (pv 0) pe_int (fun _ _ => rfl)) pe_int (nomark _)) (pss_cons (ps_set (i := 2) nd rfl (Or.inl rfl) (pe_op op_mod (pe_ix (ix_X K hr.units) (pv 0) pe_int (fun _ _ => rfl)) (pv 1)))
      (pss_cons (ps_asg (pe_op op_fdiv (pe_ix (ix_X K hr.units) (pv 0) pe_int (fun _ _ => rfl)) (pv 1)) (pg_sub (pv 0) pe_int (set_X hr.units)))
      (pss_one (ps_ret (pv 2))))) pss_nil)
      (pss_cons (ps_set (i := 3) nd rfl (Or.inl rfl) (pe_ix (ix_X K hr.units) (pv 0) pe_int (fun _ _ => rfl)))
      (pss_cons (ps_asg (pe_op op_addX (pv 3) pe_int) (pg_sub (pv 0) pe_int (set_X hr.units)))
      (pss_cons (ps_set (i := 4) nd rfl (Or.inl rfl) pe_int)
      (pss_cons (ps_if (pt_cmpR op_gt (b_len K B (pa_cons (pe_ix (ix_X K hr.units) (pv 0) pe_int (fun _ _ => rfl)) pa_nil)) pe_int (nomark _)) (pss_one (ps_set (i := 4) nd rfl (Or.inl rfl) (pe_ix (ix_X K hr.units) (pe_ix (ix_X K hr.units) (pv 0) pe_int (fun _ _ => rfl)) (pe_op op_mod (pv 3) (b_len K B (pa_cons (pe_ix (ix_X K hr.units) (pv 0) pe_int (fun _ _ => rfl)) pa_nil))) (fun _ _ => rfl)))) pss_nil)
      (pss_cons (ps_if (PW.pt (pw_and (pt_cmpR op_ltX (pv 3) (b_len K B (pa_cons (pe_ix (ix_X K hr.units) (pv 0) pe_int (fun _ _ => rfl)) pa_nil)) (nomark _)) (pw_and1 (pt_cmpR op_ge (b_abs B (pa_cons (pv 4) pa_nil)) (pe_op op_pow pe_int pe_int) (nomark _))))) (pss_cons (ps_asg (pe_op op_fdiv (b_abs B (pa_cons (pv 4) pa_nil)) (pv 1)) (pg_sub (pv 0) pe_int (set_X hr.units)))
      (pss_one (ps_ret (pe_op op_mod (b_abs B (pa_cons (pv 4) pa_nil)) (pv 1))))) pss_nil)
      (pss_cons (ps_set (i := 5) nd rfl (Or.inl rfl) (pe_op op_mod (pe_op op_mul (pe_op op_addX (pe_op op_mod (pv 4) pe_int) pe_int) (pe_op op_addX (pe_op op_mul pe_int (pv 3)) pe_int)) pe_int))
      (pss_cons (ps_set (i := 6) nd rfl (Or.inl rfl) (pe_op op_mod (pe_op op_addX (pe_op op_addX (pe_op op_mul (pv 5) (pv 5)) (pe_op op_mul pe_int (pv 3))) pe_int) pe_int))
      (pss_one (ps_ret (pe_op op_mod (pe_op op_fdiv (pe_op op_mod (pe_op op_mul (pv 6) (pe_op op_addX (pe_op op_mod (pv 6) pe_int) pe_int)) pe_int) pe_int) (pv 1)))))))))))), ?_⟩
    refine ⟨_, rfl, .lst (.of hp) rfl ⟨_, _, rfl, rfl, _, rfl, ?_⟩⟩
    refine ite2 (fun h => ?_) (fun h => ?_)
    · refine ⟨_, rfl, .lst (.of hp) rfl ⟨_, rfl, _, _, rfl, rfl, hm, ?_⟩⟩
      refine ⟨_, rfl, .lst (.of hp) rfl ⟨_, rfl, _, _, rfl, rfl, ⟨hm, hm2⟩, ?_⟩⟩
      refine ⟨_, rfl, .lst (j := 2) hp rfl ?_⟩
      refine ⟨_, rfl, ?_⟩
      exact k _ _ (Int.emod_nonneg _ (by omega)) (Int.emod_lt_of_pos _ hm) ⟨i, n / m, upd_same, hi, Int.ediv_nonneg hn (by omega)⟩ (ku H _ fun _ _ => rfl)
    · refine ⟨_, rfl, .lst (.of hp) rfl ?_⟩
      refine ⟨_, rfl, .int ?_⟩
      refine ⟨_, rfl, .lst (j := 1) hp rfl ?_⟩
      have hp1 : (upd H p (.lst ([V.ref a, V.int i, V.int n].set 1 (V.int (i + 1))))) p = some (.lst [.ref a, .int (i + 1), .int n]) := upd_same
      have hS1 : SqL K (upd H p (.lst ([V.ref a, V.int i, V.int n].set 1 (V.int (i + 1))))) a (ns.map V.int) := hS _ But.upd
      have b1 : ∀ b, b ≠ p → (upd H p (.lst ([V.ref a, V.int i, V.int n].set 1 (V.int (i + 1))))) b = H b := ku H _ fun _ _ => rfl
      generalize upd H p (.lst ([V.ref a, V.int i, V.int n].set 1 (V.int (i + 1)))) = H1 at hp1 hS1 b1 ⊢
      have fin : ∀ c : Int, 0 ≤ c → Q (.int (c % m)) H1 := fun c hc => k _ _ (Int.emod_nonneg _ (by omega)) (Int.emod_lt_of_pos _ hm) ⟨i + 1, n, hp1, by omega, hn⟩ b1
      refine ⟨_, rfl, .lst (.of hp1) rfl ⟨_, _, rfl, Or.inl ⟨_, hS1, rfl⟩, _, _, rfl, rfl, _, rfl, ?_⟩⟩
      refine ite2 (fun h => ?a) (fun h => ?b)
      case' a =>
        have hl : (0 : Int) < ((ns.map V.int).length : Nat) := of_decide_eq_true h
        obtain ⟨c, hc⟩ := at_int (ns := ns) (j := i % ((ns.map V.int).length : Nat)) (Int.emod_nonneg _ (by omega)) (Int.emod_lt_of_pos _ hl)
        refine ⟨_, rfl, .lst (.of hp1) rfl ⟨_, rfl, _, rfl, .lst (.of hp1) rfl ⟨_, _, rfl, Or.inl ⟨_, hS1, rfl⟩, _, _, rfl, rfl, hl, .lst hS1 hc ?_⟩⟩⟩
      all_goals
        refine ⟨_, rfl, _, rfl, .lst (.of hp1) rfl ⟨_, _, rfl, Or.inl ⟨_, hS1, rfl⟩, .int ⟨_, rfl, ?_⟩⟩⟩
        refine ite2 (fun h1 => ?_) (fun h1 => ?_)
        · refine ⟨_, rfl, _, rfl, _, _, rfl, rfl, ⟨by decide, by decide, by decide⟩, _, _, rfl, rfl, _, rfl, ?_⟩
          refine ite2 (fun h2 => ?_) (fun h2 => ?_)
          · refine ⟨_, rfl, _, rfl, _, rfl, _, _, rfl, rfl, ⟨hm, hm2⟩, ?_⟩
            refine ⟨_, rfl, .lst (j := 2) hp1 rfl ?_⟩
            refine ⟨_, rfl, _, rfl, _, rfl, _, _, rfl, rfl, hm, ?_⟩
            refine k _ _ (Int.emod_nonneg _ (by omega)) (Int.emod_lt_of_pos _ hm) ⟨i + 1, _, upd_same, by omega, Int.ediv_nonneg (by split <;> omega) (by omega)⟩ (ku H1 _ b1)
          · refine ⟨_, rfl, _, _, rfl, rfl, (by show (0 : Int) < _; decide), .int ⟨_, rfl, _, _, rfl, rfl, .inl ⟨by decide, by decide⟩, .int ⟨_, _, rfl, rfl, .inl (cell_small _), _, _, rfl, rfl, (by show (0 : Int) < _; decide), ?_⟩⟩⟩
            refine ⟨_, rfl, _, rfl, _, _, rfl, rfl, .inl (fst_small _), _, rfl, _, _, rfl, rfl, .inl ⟨by decide, by decide⟩, .int (.int ⟨_, _, rfl, rfl, (by show (0 : Int) < _; decide), ?_⟩)⟩
            refine ⟨_, rfl, _, rfl, _, _, rfl, rfl, (by show (0 : Int) < _; decide), .int ⟨_, _, rfl, rfl, .inl (two_small _), _, _, rfl, rfl, (by show (0 : Int) < _; decide), _, _, rfl, rfl, ⟨by decide, by decide⟩, _, rfl, _, _, rfl, rfl, hm, ?_⟩⟩
            exact fin _ (Int.ediv_nonneg (Int.emod_nonneg _ (by decide)) (by decide))
        · refine ⟨_, rfl, _, _, rfl, rfl, (by show (0 : Int) < _; decide), .int ⟨_, rfl, _, _, rfl, rfl, .inl ⟨by decide, by decide⟩, .int ⟨_, _, rfl, rfl, .inl (cell_small _), _, _, rfl, rfl, (by show (0 : Int) < _; decide), ?_⟩⟩⟩
          refine ⟨_, rfl, _, rfl, _, _, rfl, rfl, .inl (fst_small _), _, rfl, _, _, rfl, rfl, .inl ⟨by decide, by decide⟩, .int (.int ⟨_, _, rfl, rfl, (by show (0 : Int) < _; decide), ?_⟩)⟩
          refine ⟨_, rfl, _, rfl, _, _, rfl, rfl, (by show (0 : Int) < _; decide), .int ⟨_, _, rfl, rfl, .inl (two_small _), _, _, rfl, rfl, (by show (0 : Int) < _; decide), _, _, rfl, rfl, ⟨by decide, by decide⟩, _, rfl, _, _, rfl, rfl, hm, ?_⟩⟩
          exact fin _ (Int.ediv_nonneg (Int.emod_nonneg _ (by decide)) (by decide))
end
end K18
namespace K18
open PySem L2
section
variable {P : Program} {w : World} {K : PySem.W.Frag} {mg : Str → Option Value} {base : Heap}
theorem let_at {j : Int} (h0 : 0 ≤ j) (h1 : j < 26) : atI ("abcdefghijklmnopqrstuvwxyz" : Str).cps.toList j = some (97 + j.toNat) := by
  obtain ⟨k, rfl⟩ := Int.eq_ofNat_of_zero_le h0
  have hk : k < 26 := by omega
  exact (by decide +kernel : ∀ k : Nat, k < 26 → atI ("abcdefghijklmnopqrstuvwxyz" : Str).cps.toList (k : Int) = some (97 + (k : Int).toNat)) k hk
theorem one_nm {c : Nat} (h : 97 ≤ c) (h2 : c ≤ 122) : Nm ⟨#[c]⟩ := ⟨Nat.le_refl 1, by show 1 ≤ 8; decide, fun d hd => by
  have : d = c := by simpa using hd
  omega⟩
theorem two_nm {c d : Nat} {t : Str} (hc : 97 ≤ c ∧ c ≤ 122) (hd : 97 ≤ d ∧ d ≤ 122) (ht : t.length ≤ 6) (ha : ∀ x ∈ t.cps.toList, 97 ≤ x ∧ x ≤ 122) : Nm (⟨#[c]⟩ ++ ⟨#[d]⟩ ++ t) := by
  refine ⟨?_, ?_, fun x hx => ?_⟩
  · rw [len_app, len_app]; show 1 ≤ 1 + 1 + _; omega
  · rw [len_app, len_app]; show 1 + 1 + t.length ≤ 8; omega
  · have hx : x ∈ (#[c] ++ #[d] ++ t.cps).toList := hx
    simp only [Array.toList_append, List.mem_append] at hx
    rcases hx with (hx | hx) | hx
    · have : x = c := by simpa using hx
      omega
    · have : x = d := by simpa using hx
      omega
    · exact ha x hx
theorem two_inj {c d c' d' : Nat} {t t' : Str} (h : (⟨#[c]⟩ ++ ⟨#[d]⟩ ++ t : Str) = ⟨#[c']⟩ ++ ⟨#[d']⟩ ++ t') : c = c' ∧ d = d' := by
  have h : (#[c] ++ #[d] ++ t.cps).toList = (#[c'] ++ #[d'] ++ t'.cps).toList := congrArg (fun s : Str => s.cps.toList) h
  simp only [Array.toList_append, List.cons_append, List.nil_append, List.cons.injEq] at h
  exact ⟨h.1, h.2.1⟩
noncomputable def Low (t : Str) : Prop := ∀ x ∈ t.cps.toList, 97 ≤ x ∧ x ≤ 122
theorem Low.app {x y : Str} (hx : Low x) (hy : Low y) : Low (x ++ y) := fun c hc => by
  have hc : c ∈ (x.cps ++ y.cps).toList := hc
  rw [Array.toList_append] at hc
  rcases List.mem_append.mp hc with h | h
  · exact hx c h
  · exact hy c h
theorem Low.slice {x : Str} (h : Low x) (l u : Option Int) : Low (Txt.slice x l u) := by
  unfold Txt.slice
  split
  · exact h
  · intro c hc
    have hc : c ∈ (List.filterMap (x.cps[·]?) (Builtin.Str.strSliceIndices l u 1 x.length)).toArray.toList := hc
    rw [List.toList_toArray] at hc
    obtain ⟨i, _, e⟩ := List.mem_filterMap.mp hc
    exact h c (by simpa using Array.mem_of_getElem? e)
theorem Low.joinS {sep : Str} (hs : Low sep) : ∀ {ys : List Str}, (∀ y ∈ ys, Low y) → Low (Str.join sep ys)
  | [], _ => fun c hc => by
    have hc : c ∈ (#[] : Array Nat).toList := hc
    simp at hc
  | [y], h => h y (by simp)
  | y :: z :: r, h => by
    show Low (y ++ sep ++ Str.join sep (z :: r))
    exact ((h y (by simp)).app hs).app (Low.joinS hs fun x hx => h x (List.mem_cons_of_mem _ hx))
theorem Low.join {sep : Str} {ys : List Str} (hs : Low sep) (h : ∀ y ∈ ys, Low y) : Low (Txt.join sep ys) := by
  unfold Txt.join
  rw [StrLaws.glued_eq_join]
  exact Low.joinS hs h
theorem nodup_snoc {α : Type} {l : List α} {x : α} (h : l.Nodup) (hx : x ∉ l) : (l ++ [x]).Nodup := by
  rw [List.nodup_append]
  exact ⟨h, by simp, fun a ha b hb => by
    have : b = x := by simpa using hb
    subst this
    exact fun e => hx (e ▸ ha)⟩
theorem num_inj {r st : Int} {i j : Nat} (hst : st = 1 ∨ st = 675 ∨ st = 27 ∨ st = 211 ∨ st = 79) (hj : j < i) (hi : i < 60) : (r + st * (j : Int)) % 676 ≠ (r + st * (0 + (i : Nat) : Int)) % 676 := by
  rcases hst with rfl | rfl | rfl | rfl | rfl <;> omega
theorem scNames : FnScope ["_law_pen", "_law_many", "_law_letters", "_law_begin", "_law_step", "_law_tail", "_law_found", "_law_k", "_law_number", "_law_size"] ["_law_pen", "_law_many"] (defScope sNames) := ⟨rfl, rfl, rfl, by decide +kernel, rfl, by decide +kernel, by decide +kernel⟩
theorem ok_names {f : Addr} {fd : FuncData} (F : Fun K "_law_names" "_law_names" sNames f fd) (B : Blt mg) (c_law_take : Cal P w K mg base 1 "_law_take" ["_law_pen", "_law_many"] (spDraw K)) : FnOk P w K mg base CX0 2 f fd ["_law_pen", "_law_many"] (spNames K) := by
  refine F.ok scNames (fun vs H Q E h => ?_) (fun cdv A outer s H vs Q E hr h => ?_)
  · obtain ⟨p, a, m, rfl, _⟩ := h
    rfl
  · obtain ⟨p, a, m, rfl, hP, hm, k⟩ := h
    have nd := scNames.nd
    refine ⟨_, (pss_cons (ps_set (i := 2) nd rfl (Or.inr rfl) pe_str)
      (pss_cons (ps_set (i := 3) nd rfl (Or.inr rfl) (pe_cal c_law_take (hr.mono (by decide)) rfl (pa_cons (pv 0) (pa_cons pe_int pa_nil))))
      (pss_cons (ps_if (PW.pt (pw_and (pt_cmpR op_ltX (pv 1) pe_int (nomark _)) (pw_and1 (pt_cmpR (op_eqX hr.units) (pe_cal c_law_take (hr.mono (by decide)) rfl (pa_cons (pv 0) (pa_cons pe_int pa_nil))) pe_int (nomark _))))) (pss_one (ps_ret (pe_comp (defScope sNames) ["_law_pen", "_law_many", "_law_letters", "_law_begin", "_law_step", "_law_tail", "_law_found", "_law_k", "_law_number", "_law_size"] ["_law_k"] [2, 3] ["_law_k", "_law_letters", "_law_begin"] rfl (pi_range1 rfl B.range (pa_cons (pv 1) pa_nil)) (fun _ _ _ _ _ => (pg_name (i := 0) (show (["_law_k", "_law_letters", "_law_begin"] : List Str).Nodup by decide) rfl (Or.inl rfl))) (fun _ _ _ _ _ => pts_nil) (fun _ _ _ _ _ => (pe_ix (ix_X K hr.units) (pv 1) (pe_op op_mod (pe_op op_addX (pv 2) (pe_op op_mul pe_int (pv 0))) pe_int) (fun _ _ => rfl)))))) pss_nil)
      (pss_cons (ps_set (i := 4) nd rfl (Or.inl rfl) (pe_ix (ix_X K hr.units) (pe_lst (pa_cons pe_int (pa_cons pe_int (pa_cons pe_int (pa_cons pe_int (pa_cons pe_int pa_nil star_c) star_c) star_c) star_c) star_c)) (pe_cal c_law_take (hr.mono (by decide)) rfl (pa_cons (pv 0) (pa_cons pe_int pa_nil))) (fun _ _ => rfl)))
      (pss_cons (ps_set (i := 5) nd rfl (Or.inl rfl) (m_join K pe_str (pa_cons (pe_comp (defScope sNames) ["_law_pen", "_law_many", "_law_letters", "_law_begin", "_law_step", "_law_tail", "_law_found", "_law_k", "_law_number", "_law_size"] ["_law_k"] [2, 0] ["_law_k", "_law_letters", "_law_pen"] rfl (pi_range1 rfl B.range (pa_cons (pe_cal c_law_take (hr.mono (by decide)) rfl (pa_cons (pv 0) (pa_cons pe_int pa_nil))) pa_nil)) (fun _ _ _ _ _ => (pg_name (i := 0) (show (["_law_k", "_law_letters", "_law_pen"] : List Str).Nodup by decide) rfl (Or.inl rfl))) (fun _ _ _ _ _ => pts_nil) (fun _ _ _ _ _ => (pe_ix (ix_X K hr.units) (pv 1) (pe_cal c_law_take (hr.mono (by decide)) rfl (pa_cons (pv 2) (pa_cons pe_int pa_nil))) (fun _ _ => rfl)))) pa_nil)))
      (pss_cons (ps_set (i := 6) nd rfl (Or.inl rfl) (pe_lst pa_nil))
      (pss_cons (ps_for PassesOwn.never rfl (pi_range1 rfl B.range (pa_cons (pv 1) pa_nil)) (pg_name (i := 7) nd rfl (Or.inl rfl)) (pss_cons (ps_set (i := 8) nd rfl (Or.inl rfl) (pe_op op_mod (pe_op op_addX (pv 3) (pe_op op_mul (pv 4) (pv 7))) pe_int))
      (pss_cons (ps_set (i := 9) nd rfl (Or.inl rfl) (pe_cal c_law_take (hr.mono (by decide)) rfl (pa_cons (pv 0) (pa_cons (pe_op op_addX (b_len K B (pa_cons (pv 5) pa_nil)) pe_int) pa_nil))))
      (pss_one (ps_expr (m_append K (pv 6) (pa_cons (pe_op op_addX (pe_op op_addX (pe_ix (ix_X K hr.units) (pv 2) (pe_op op_fdiv (pv 8) pe_int) (fun _ _ => rfl)) (pe_ix (ix_X K hr.units) (pv 2) (pe_op op_mod (pv 8) pe_int) (fun _ _ => rfl))) (pe_slice (sl_K K) (pv 5) po_none (po_some (pv 9)))) pa_nil)))))))
      (pss_one (ps_ret (pv 6)))))))))), ?_⟩
    refine ⟨_, rfl, p, a, 676, rfl, hP, by decide, by decide, fun r1 H1 h10 h11 v1 e1 => ?_⟩
    have b1 := But.of_eq e1
    refine ⟨_, rfl, .int ⟨_, rfl, ?_⟩⟩
    have lL : ("abcdefghijklmnopqrstuvwxyz" : Str).length ≤ sizeLine := by decide +kernel
    refine ite2 (fun h1 => ?a) (fun h1 => ?b)
    case' a =>
      refine ⟨_, rfl, p, a, 4, rfl, hP.but b1 v1, by decide, by decide, fun r2 H2 h20 h21 v2 e2 => .sc rfl ⟨_, rfl, ?_⟩⟩
      have b2 := b1.trans (But.of_eq e2)
      have h1 : (m : Int) < 27 := of_decide_eq_true h1
      refine ite2 (fun _ => ?c) (fun _ => ?d)
      case c =>
        refine ⟨_, rfl, _, rfl, by omega, by omega, ?_⟩
        refine comp_range (fun D i acc σ' H' => ∃ o ss, σ' = [o, some (.str "abcdefghijklmnopqrstuvwxyz"), some (.int r1)] ∧ acc = List.map V.str ss ∧ ss.length = i ∧ (∀ (j : Nat) (s : Str), ss[j]? = some s → ∃ c : Nat, s = ⟨#[c]⟩ ∧ (c : Int) = 97 + (r1 + 7 * (j : Int)) % 26) ∧ ss.Nodup ∧ PenV H' p a ∧ But p H H' ∧ H D = none ∧ p ≠ D) fun D hD => ⟨?_, ?_, ?_⟩
        · have hDp := v2.ne hD
          have hD0 := b2.free (Ne.symm hDp) hD
          exact ⟨none, [], rfl, rfl, rfl, (fun j s e => by simp at e), List.nodup_nil, v2.upd hDp, b2.at hD0, hD0, hDp⟩
        · rintro i acc σ' H' hi ⟨o, ss, rfl, rfl, hl, hj, hnd, v, b, hD0, hDp⟩ hacc
          refine gYes ?_
          refine ⟨_, rfl, _, rfl, _, rfl, _, _, rfl, rfl, .inl ⟨by decide, by decide⟩, .int ⟨_, _, rfl, rfl, (by show (0 : Int) < _; decide), ?_⟩⟩
          have g0 := Int.emod_nonneg (r1 + 7 * (0 + (i : Nat) : Int)) (show (26 : Int) ≠ 0 by decide)
          have g1 := Int.emod_lt_of_pos (r1 + 7 * (0 + (i : Nat) : Int)) (show (0 : Int) < 26 by decide)
          refine .str lL (let_at g0 g1) ⟨hacc, ?_, _, ss ++ [⟨#[97 + ((r1 + 7 * (0 + (i : Nat) : Int)) % 26).toNat]⟩], rfl, by simp, by simp [hl], ?_, ?_, v.upd hDp, b.at hD0, hD0, hDp⟩
          · rw [List.length_map, hl]; exact small1000 (by omega)
          · intro j s e
            by_cases q : j < ss.length
            · rw [List.getElem?_append_left q] at e
              exact hj j s e
            · rw [List.getElem?_append_right (by omega)] at e
              have : j = i := by
                have := (List.getElem?_eq_some_iff.mp e).1
                simp at this
                omega
              subst this
              rw [hl, Nat.sub_self] at e
              cases e
              exact ⟨_, rfl, by omega⟩
          · refine nodup_snoc hnd fun hm => ?_
            obtain ⟨j, hjl, e⟩ := List.mem_iff_getElem.mp hm
            obtain ⟨c, ec, hc⟩ := hj j _ (List.getElem?_eq_getElem hjl)
            rw [e] at ec
            have ec : [97 + ((r1 + 7 * (0 + (i : Nat) : Int)) % 26).toNat] = [c] := congrArg (fun s : Str => s.cps.toList) ec
            have ec : 97 + ((r1 + 7 * (0 + (i : Nat) : Int)) % 26).toNat = c := by simpa using ec
            omega
        · rintro acc σ' H' ⟨o, ss, rfl, rfl, hl, hj, hnd, v, b, hD0, hDp⟩ hacc
          refine k D ss H' (by simpa using hl) hnd (fun s hs => ?_) hacc (Ne.symm hDp) v b
          obtain ⟨j, hjl, e⟩ := List.mem_iff_getElem.mp hs
          obtain ⟨c, ec, hc⟩ := hj j _ (List.getElem?_eq_getElem hjl)
          rw [e] at ec
          subst ec
          exact one_nm (by omega) (by omega)
      have v1 := v2
      have b1 := b2
    all_goals
      refine ⟨(by show 5 ≤ sizeLine; decide), fun l hl => ?_⟩
      have hpl := v1.ne hl
      have b1 := b1.at (o := .lst [V.int 1, V.int 675, V.int 27, V.int 211, V.int 79]) (b1.free (Ne.symm hpl) hl)
      refine ⟨_, rfl, p, a, 5, rfl, hP.but b1 (v1.upd hpl), by decide, by decide, fun r3 H3 h30 h31 v3 e3 => ?_⟩
      have hl3 : H3 l = some (.lst [V.int 1, V.int 675, V.int 27, V.int 211, V.int 79]) := (e3 l (Ne.symm hpl)).trans upd_same
      have b3 := b1.trans (But.of_eq e3)
      obtain ⟨st, est, hst⟩ : ∃ st, atI [V.int 1, V.int 675, V.int 27, V.int 211, V.int 79] r3 = some (.int st) ∧ (st = 1 ∨ st = 675 ∨ st = 27 ∨ st = 211 ∨ st = 79) := by
        have hr3 : r3 = 0 ∨ r3 = 1 ∨ r3 = 2 ∨ r3 = 3 ∨ r3 = 4 := by omega
        rcases hr3 with rfl | rfl | rfl | rfl | rfl
        · exact ⟨_, rfl, by omega⟩
        · exact ⟨_, rfl, by omega⟩
        · exact ⟨_, rfl, by omega⟩
        · exact ⟨_, rfl, by omega⟩
        · exact ⟨_, rfl, by omega⟩
      refine .lst (.of hl3) est ?_
      clear hl3 e3
      refine ⟨rfl, ?_⟩
      refine ⟨_, rfl, p, a, 7, rfl, hP.but b3 v3, by decide, by decide, fun r4 H4 h40 h41 v4 e4 => ⟨r4, rfl, by omega, by omega, ?_⟩⟩
      have b4 := b3.trans (But.of_eq e4)
      refine comp_range (fun D i acc σ' H' => ∃ o ys, σ' = [o, some (.str "abcdefghijklmnopqrstuvwxyz"), some (.ref p)] ∧ acc = List.map V.str ys ∧ ys.length = i ∧ (∀ y ∈ ys, y.length = 1 ∧ Low y) ∧ PenV H' p a ∧ But p H H' ∧ H D = none ∧ p ≠ D) fun D hD => ⟨?_, ?_, ?_⟩
      · have hDp := v4.ne hD
        have hD0 := b4.free (Ne.symm hDp) hD
        exact ⟨none, [], rfl, rfl, rfl, (fun y hy => by cases hy), v4.upd hDp, b4.at hD0, hD0, hDp⟩
      · rintro i acc σ' H' hi ⟨o, ys, rfl, rfl, hl, hys, v, b, hD0, hDp⟩ hacc
        refine gYes ?_
        refine ⟨_, rfl, _, rfl, p, a, 26, rfl, hP.but b v, by decide, by decide, fun r5 H5 h50 h51 v5 e5 => ?_⟩
        refine .str lL (let_at h50 h51) ⟨(e5 D (Ne.symm hDp)).trans hacc, ?_, _, ys ++ [⟨#[97 + r5.toNat]⟩], rfl, by simp, by simp [hl], ?_, v5.upd hDp, (b.trans (But.of_eq e5)).at hD0, hD0, hDp⟩
        · rw [List.length_map, hl]; exact small1000 (by omega)
        · intro y hy
          rcases List.mem_append.mp hy with hy | hy
          · exact hys y hy
          · have : y = ⟨#[97 + r5.toNat]⟩ := by simpa using hy
            subst this
            exact ⟨rfl, (one_nm (by omega) (by omega)).2.2⟩
      · rintro acc σ' H5 ⟨o, ys, rfl, rfl, hl, hys, v5, b5, hD0, hDp⟩ hacc
        have hsum := sum_le (n := 1) fun y hy => Nat.le_of_eq (hys y hy).1
        have hlj := len_join "" ys
        have e0 : ("" : Str).length = 0 := by decide +kernel
        have hj : Low (Txt.join "" ys) := Low.join (fun c hc => by
          have hc : c ∈ ("" : Str).cps.toList := hc
          rw [show ("" : Str).cps.toList = [] by decide +kernel] at hc
          cases hc) fun y hy => (hys y hy).2
        rw [e0] at hlj
        refine ⟨_, D, ys, rfl, rfl, hacc, by rw [e0]; omega, ?_⟩
        have htl : (Txt.join "" ys).length ≤ 6 := by omega
        generalize Txt.join "" ys = z at hj htl ⊢
        have hz : z.length ≤ sizeLine := Nat.le_of_lt (small1000 (by omega))
        refine ⟨(by show 0 ≤ sizeLine; decide), fun fl hfl => ?_⟩
        have hpf := v5.ne hfl
        have hf0 := b5.free (Ne.symm hpf) hfl
        refine ⟨_, rfl, _, rfl, by omega, by omega, ?_⟩
        refine for_range (fun i σ H' => ∃ o7 o8 o9 ss, σ = [some (.ref p), some (.int (m : Int)), some (.str "abcdefghijklmnopqrstuvwxyz"), some (.int r1), some (.int st), some (.str z), some (.ref fl), o7, o8, o9] ∧ H' fl = some (.lst (List.map V.str ss)) ∧ ss.length = i ∧
            (∀ (j : Nat) (s : Str), ss[j]? = some s → ∃ (c d : Nat) (x : Str), s = ⟨#[c]⟩ ++ ⟨#[d]⟩ ++ x ∧ (c : Int) = 97 + (r1 + st * (j : Int)) % 676 / 26 ∧ (d : Int) = 97 + (r1 + st * (j : Int)) % 676 % 26) ∧ (∀ s ∈ ss, Nm s) ∧ ss.Nodup ∧ PenV H' p a ∧ But p H H')
          ⟨none, none, none, [], rfl, upd_same, rfl, (fun j s e => by simp at e), (fun s hs => by cases hs), List.nodup_nil, v5.upd hpf, b5.at hf0⟩ ?_ ?_
        · rintro i σ H6 hi ⟨o7, o8, o9, ss, rfl, hf, hl6, hj6, hnm, hnd6, v6, b6⟩
          refine ⟨_, rfl, _, rfl, _, rfl, _, _, rfl, rfl, .inl ⟨by omega, by omega⟩, .int ⟨_, _, rfl, rfl, (by show (0 : Int) < _; decide), ?_⟩⟩
          have n0 := Int.emod_nonneg (r1 + st * (0 + (i : Nat) : Int)) (show (676 : Int) ≠ 0 by decide)
          have n1 := Int.emod_lt_of_pos (r1 + st * (0 + (i : Nat) : Int)) (show (0 : Int) < 676 by decide)
          have hnew : ∀ j : Nat, j < i → (r1 + st * (j : Int)) % 676 ≠ (r1 + st * (0 + (i : Nat) : Int)) % 676 := fun j hj => num_inj hst hj (by omega)
          have hnum : (r1 + st * (0 + (i : Nat) : Int)) % 676 = (r1 + st * (i : Int)) % 676 := by rw [Int.zero_add]
          refine ⟨_, rfl, _, rfl, _, _, rfl, ⟨hz, rfl⟩, .int ⟨p, a, _, rfl, hP.but b6 v6, by omega, by omega, fun r7 H7 h70 h71 v7 e7 => ?_⟩⟩
          have hf7 : H7 fl = some (.lst (List.map V.str ss)) := (e7 fl (Ne.symm hpf)).trans hf
          have b7 := b6.trans (But.of_eq e7)
          have sl := Txt.slice_le z none (some r7)
          have q0 : 0 ≤ ((r1 + st * (0 + (i : Nat) : Int)) % 676) / 26 ∧ ((r1 + st * (0 + (i : Nat) : Int)) % 676) / 26 < 26 := by omega
          have q1 : 0 ≤ ((r1 + st * (0 + (i : Nat) : Int)) % 676) % 26 ∧ ((r1 + st * (0 + (i : Nat) : Int)) % 676) % 26 < 26 := by omega
          refine ⟨_, rfl, .inl ⟨rfl, _, .of hf7⟩, ?_⟩
          refine ⟨_, rfl, _, rfl, _, _, rfl, rfl, ⟨by decide, by decide⟩, .str lL (let_at q0.1 q0.2) ⟨_, rfl, _, rfl, _, _, rfl, rfl, (by show (0 : Int) < _; decide), .str lL (let_at q1.1 q1.2) (.str (by show 1 + 1 ≤ sizeLine; decide) ⟨_, rfl, _, rfl, _, rfl, .str hz (.str ?_ ⟨fl, _, _, rfl, rfl, hf7, ?_, ?_⟩)⟩)⟩⟩
          · rw [len_app]
            have := small1000 (n := 8) (by omega)
            show 1 + 1 + _ ≤ sizeLine
            omega
          · rw [List.length_map, hl6]; exact small1000 (by omega)
          · refine ⟨_, _, _, ss ++ [⟨#[97 + (((r1 + st * (0 + (i : Nat) : Int)) % 676) / 26).toNat]⟩ ++ ⟨#[97 + (((r1 + st * (0 + (i : Nat) : Int)) % 676) % 26).toNat]⟩ ++ Txt.slice z none (some r7)], rfl, ?_, by simp [hl6], ?_, ?_, ?_, v7.upd hpf, b7.at hf0⟩
            · rw [upd_same]; simp
            · intro j s e
              by_cases q : j < ss.length
              · rw [List.getElem?_append_left q] at e
                exact hj6 j s e
              · rw [List.getElem?_append_right (by omega)] at e
                have : j = i := by
                  have := (List.getElem?_eq_some_iff.mp e).1
                  simp at this
                  omega
                subst this
                rw [hl6, Nat.sub_self] at e
                cases e
                exact ⟨_, _, _, rfl, by omega, by omega⟩
            · intro s hs
              rcases List.mem_append.mp hs with hs | hs
              · exact hnm s hs
              · rw [List.mem_singleton.mp hs]
                exact two_nm (by omega) (by omega) (by omega) (hj.slice _ _)
            · refine nodup_snoc hnd6 fun hm => ?_
              obtain ⟨j, hjl, e⟩ := List.mem_iff_getElem.mp hm
              obtain ⟨c, d, x, ec, hc, hd⟩ := hj6 j _ (List.getElem?_eq_getElem hjl)
              rw [e] at ec
              obtain ⟨e1, e2⟩ := two_inj ec
              refine hnew j (by omega) ?_
              omega
        · rintro σ H6 ⟨o7, o8, o9, ss, rfl, hf, hl6, hj6, hnm, hnd6, v6, b6⟩
          exact ⟨_, rfl, k fl ss H6 (by simpa using hl6) hnd6 hnm hf (Ne.symm hpf) v6 b6⟩
end
end K18
namespace K18
open PySem L2
section
variable {P : Program} {w : World} {K : PySem.W.Frag} {mg : Str → Option Value} {base : Heap}
noncomputable def natV (xs : List Nat) : List V := xs.map fun x : Nat => V.int (x : Int)
theorem Rep.tieBut {H H' : Hp} {p : Addr} {ys : List V} (hp : H p = some (.lst ys)) (b : But p H H') {v : V} {e : Nat × Nat} (h : Rep H v (tieD e)) : Rep H' v (tieD e) := by
  obtain ⟨a, rfl, ha⟩ := tie_at h
  exact tie_rep (b a _ (ne_of ha hp (by intro z; cases z)) ha)
theorem RepAll.tieBut {H H' : Hp} {p : Addr} {ys : List V} (hp : H p = some (.lst ys)) (b : But p H H') : ∀ {es : List (Nat × Nat)} {xs : List V}, RepAll H xs (es.map tieD) → RepAll H' xs (es.map tieD)
  | [], xs, h => by rw [RepAll.nilI h]; exact .nil
  | e :: es, xs, h => by
    obtain ⟨y, ys', rfl, a, c⟩ := RepAll.consI h
    exact .cons (Rep.tieBut hp b a) (RepAll.tieBut hp b c)
theorem penAt {H : Hp} {p a : Addr} (v : PenV H p a) : ∃ ys, H p = some (.lst ys) := let ⟨_, _, e, _⟩ := v; ⟨_, e⟩
theorem nat_at {xs : List Nat} {i : Nat} (h : i < xs.length) : atI (natV xs) (i : Int) = some (.int ((xs[i] : Nat) : Int)) := atI_nat (by simp [natV, h])
theorem natV_len (xs : List Nat) : (natV xs).length = xs.length := by simp [natV]
theorem ins_perm {α : Type} (xs : List α) (j : Nat) (x : α) : (xs.take j ++ x :: xs.drop j).Perm (x :: xs) := by
  refine List.perm_middle.trans ?_
  rw [List.take_append_drop]
noncomputable def spTies (K : PySem.W.Frag) : Sp := fun vs H Q _ => ∃ (p a : Addr) (n c : Nat) (kd : Int), vs = [.ref p, .int (n : Int), .int (c : Int), .int kd] ∧ Pen K H p a ∧ 0 < n ∧ n ≤ 60 ∧ c ≤ 400 ∧
  ∀ (l : Addr) (refs : List V) (es : List (Nat × Nat)) (H' : Hp), H' l = some (.lst refs) → RepAll H' refs (es.map tieD) → (∀ e ∈ es, e.1 < n ∧ e.2 < n) → es.length ≤ 401 → (kd = 1 → MG.Fwd es) → l ≠ p → PenV H' p a → But p H H' → Q (.ref l) H'
theorem scTies : FnScope ["_law_pen", "_law_size", "_law_count", "_law_kind", "_law_line", "_law_k", "_law_found", "_law_one", "_law_other"] ["_law_pen", "_law_size", "_law_count", "_law_kind"] (defScope sTies) := ⟨rfl, rfl, rfl, by decide +kernel, rfl, by decide +kernel, by decide +kernel⟩
theorem ok_ties {f : Addr} {fd : FuncData} (F : Fun K "_law_ties" "_law_ties" sTies f fd) (B : Blt mg) (c_law_take : Cal P w K mg base 1 "_law_take" ["_law_pen", "_law_many"] (spDraw K)) : FnOk P w K mg base CX0 2 f fd ["_law_pen", "_law_size", "_law_count", "_law_kind"] (spTies K) := by
  refine F.ok scTies (fun vs H Q E h => ?_) (fun cdv A outer s H vs Q E hr h => ?_)
  · obtain ⟨p, a, n, c, kd, rfl, _⟩ := h
    rfl
  · obtain ⟨p, a, n, c, kd, rfl, hP, hn0, hn, hc, k⟩ := h
    have nd := scTies.nd
    have v0 := hP.2
    refine ⟨_, (pss_cons (ps_set (i := 4) nd rfl (Or.inl rfl) (pe_lst pa_nil))
      (pss_cons (ps_for PassesOwn.never rfl (pi_range1 rfl B.range (pa_cons (pv 1) pa_nil)) (pg_name (i := 5) nd rfl (Or.inl rfl)) (pss_one (ps_expr (m_insert K (pv 4) (pa_cons (pe_cal c_law_take (hr.mono (by decide)) rfl (pa_cons (pv 0) (pa_cons (pe_op op_addX (pv 5) pe_int) pa_nil))) (pa_cons (pv 5) pa_nil))))))
      (pss_cons (ps_set (i := 6) nd rfl (Or.inl rfl) (pe_lst pa_nil))
      (pss_cons (ps_for PassesOwn.never rfl (pi_range1 rfl B.range (pa_cons (pv 2) pa_nil)) (pg_name (i := 5) nd rfl (Or.inl rfl)) (pss_cons (ps_set (i := 7) nd rfl (Or.inl rfl) (pe_cal c_law_take (hr.mono (by decide)) rfl (pa_cons (pv 0) (pa_cons (pv 1) pa_nil))))
      (pss_cons (ps_set (i := 8) nd rfl (Or.inl rfl) (pe_cal c_law_take (hr.mono (by decide)) rfl (pa_cons (pv 0) (pa_cons (pv 1) pa_nil))))
      (pss_cons (ps_if (pt_cmpR (op_eqX hr.units) (pe_cal c_law_take (hr.mono (by decide)) rfl (pa_cons (pv 0) (pa_cons pe_int pa_nil))) pe_int (nomark _)) (pss_one (ps_set (i := 8) nd rfl (Or.inl rfl) (pe_op op_mod (pe_op op_addX (pv 7) pe_int) (pv 1)))) pss_nil)
      (pss_cons (ps_if (PW.pt (pw_and (pt_cmpR op_gt (pv 3) pe_int (nomark _)) (pw_and1 (pt_cmpR op_gt (pv 7) (pv 8) (nomark _))))) (pss_one (ps_par (i := 7) (j := 8) rfl nd rfl rfl (by decide) rfl rfl (pa_cons (pv 8) (pa_cons (pv 7) pa_nil)) rfl)) pss_nil)
      (pss_one (ps_if (PW.pt (pw_and (PW.pt (pw_or (pt_cmpR (op_eqX hr.units) (pv 3) pe_int (nomark _)) (pw_or1 (pt_cmpR op_ltX (pv 7) (pv 8) (nomark _))))) (pw_and1 (pt_cmpR (op_notInX K hr.units) (pe_tup (pa_cons (pe_ix (ix_X K hr.units) (pv 4) (pv 7) (fun _ _ => rfl)) (pa_cons (pe_ix (ix_X K hr.units) (pv 4) (pv 8) (fun _ _ => rfl)) pa_nil))) (pv 6) (by with_unfolding_all rfl))))) (pss_one (ps_expr (m_append K (pv 6) (pa_cons (pe_tup (pa_cons (pe_ix (ix_X K hr.units) (pv 4) (pv 7) (fun _ _ => rfl)) (pa_cons (pe_ix (ix_X K hr.units) (pv 4) (pv 8) (fun _ _ => rfl)) pa_nil))) pa_nil)))) pss_nil)))))))
      (pss_cons (ps_if (PW.pt (pw_and (pt_cmpR (op_eqX hr.units) (pv 3) pe_int (nomark _)) (pw_and1 (pt_cmpR (op_neX hr.units) (pv 6) (pe_lst pa_nil) (nomark _))))) (pss_cons (ps_asg (pe_ix (ix_X K hr.units) (pv 6) (pe_cal c_law_take (hr.mono (by decide)) rfl (pa_cons (pv 0) (pa_cons (b_len K B (pa_cons (pv 6) pa_nil)) pa_nil))) (fun _ _ => rfl)) (pg_tupK (n := 2) K rfl (pgs_cons (pg_name (i := 7) nd rfl (Or.inl rfl)) (pgs_cons (pg_name (i := 8) nd rfl (Or.inl rfl)) pgs_nil))))
      (pss_one (ps_if (PW.pt (pw_and (pt_cmpR (op_notInX K hr.units) (pe_tup (pa_cons (pv 8) (pa_cons (pv 7) pa_nil))) (pv 6) (by with_unfolding_all rfl)) (pw_and1 (pt_cmpR op_ltX (b_len K B (pa_cons (pv 6) pa_nil)) pe_int (nomark _))))) (pss_one (ps_expr (m_insert K (pv 6) (pa_cons (pe_cal c_law_take (hr.mono (by decide)) rfl (pa_cons (pv 0) (pa_cons (pe_op op_addX (b_len K B (pa_cons (pv 6) pa_nil)) pe_int) pa_nil))) (pa_cons (pe_tup (pa_cons (pv 8) (pa_cons (pv 7) pa_nil))) pa_nil))))) pss_nil))) pss_nil)
      (pss_one (ps_ret (pv 6)))))))), ?_⟩
    refine ⟨(by show 0 ≤ sizeLine; decide), fun lo hlo => ?_⟩
    have hpo := v0.ne hlo
    refine ⟨_, rfl, _, rfl, by omega, by omega, ?_⟩
    refine for_range (fun i σ H' => ∃ o5 xs, σ = [some (.ref p), some (.int (n : Int)), some (.int (c : Int)), some (.int kd), some (.ref lo), o5, none, none, none] ∧ H' lo = some (.lst (natV xs)) ∧ xs.length = i ∧ (∀ x ∈ xs, x < i) ∧ xs.Nodup ∧ PenV H' p a ∧ But p H H')
      ⟨none, [], rfl, upd_same, rfl, (fun x hx => by cases hx), List.nodup_nil, v0.upd hpo, (But.refl p H).at hlo⟩ ?_ ?_
    · rintro i σ H1 hi ⟨o5, xs, rfl, ho1, hl1, hx1, hnd1, v1, b1⟩
      have hi : i < n := by simpa using hi
      refine ⟨_, rfl, .inl ⟨rfl, _, .of ho1⟩, _, rfl, _, rfl, .int ⟨p, a, _, rfl, hP.but b1 v1, by omega, by omega, fun r H2 h0 h1 v2 e2 => ?_⟩⟩
      obtain ⟨j, rfl⟩ := Int.eq_ofNat_of_zero_le h0
      have ho2 : H2 lo = some (.lst (natV xs)) := (e2 lo (Ne.symm hpo)).trans ho1
      have hln := natV_len xs
      refine ⟨_, rfl, lo, _, _, j, _, rfl, rfl, rfl, ho2, by omega, by rw [hln]; exact small1000 (by omega), ?_⟩
      have pm := ins_perm xs j i
      refine ⟨_, xs.take j ++ i :: xs.drop j, rfl, ?_, ?_, ?_, ?_, v2.upd hpo, (b1.trans (But.of_eq e2)).at hlo⟩
      · rw [upd_same]
        simp [natV, List.map_take, List.map_drop]
      · rw [pm.length_eq, List.length_cons, hl1]
      · intro x hx
        rcases List.mem_cons.mp (pm.mem_iff.mp hx) with rfl | hx
        · omega
        · have := hx1 x hx; omega
      · exact pm.nodup_iff.mpr (List.nodup_cons.mpr ⟨fun z => by have := hx1 _ z; omega, hnd1⟩)
    · rintro σ H1 ⟨o5, xs, rfl, ho1, hl1, hx1, hnd1, v1, b1⟩
      have hl1 : xs.length = n := by simpa using hl1
      have hx1 : ∀ x ∈ xs, x < n := fun x hx => by simpa using hx1 x hx
      refine ⟨(by show 0 ≤ sizeLine; decide), fun lf hlf => ?_⟩
      have hpf := v1.ne hlf
      have hf0 := b1.free (Ne.symm hpf) hlf
      have hof : lo ≠ lf := ne_of_none ho1 hlf
      refine ⟨_, rfl, _, rfl, by omega, by omega, ?_⟩
      refine for_range (fun i σ H' => ∃ o5 o7 o8 refs es, σ = [some (.ref p), some (.int (n : Int)), some (.int (c : Int)), some (.int kd), some (.ref lo), o5, some (.ref lf), o7, o8] ∧ H' lo = some (.lst (natV xs)) ∧ H' lf = some (.lst refs) ∧ RepAll H' refs (es.map tieD) ∧ (∀ e ∈ es, e.1 < n ∧ e.2 < n) ∧ es.length ≤ i ∧ (kd = 1 → ∀ e ∈ es, MG.ix xs e.1 < MG.ix xs e.2) ∧ PenV H' p a ∧ But p H H')
        ⟨_, none, none, [], [], rfl, by rw [upd_ne hof]; exact ho1, upd_same, .nil, (fun e he => by cases he), Nat.le_refl _, (fun _ e he => by cases he), v1.upd hpf, b1.at hf0⟩ ?_ ?_
      · rintro i σ H2 hi ⟨o5, o7, o8, refs, es, rfl, ho2, hf2, rp2, he2, hl2, hk2, v2, b2⟩
        have hi : i < c := by simpa using hi
        have hn62 : ((n : Nat) : Int) < 1073741824 := by omega
        refine ⟨_, rfl, _, rfl, p, a, _, rfl, hP.but b2 v2, by omega, hn62, fun r1 H3 h10 h11 v3 e3 => ?_⟩
        have b3 := b2.trans (But.of_eq e3)
        refine ⟨_, rfl, _, rfl, p, a, _, rfl, hP.but b3 v3, by omega, hn62, fun r2 H4 h20 h21 v4 e4 => ?_⟩
        have b4 := b3.trans (But.of_eq e4)
        obtain ⟨n1, rfl⟩ := Int.eq_ofNat_of_zero_le h10
        obtain ⟨n2, rfl⟩ := Int.eq_ofNat_of_zero_le h20
        refine ⟨_, rfl, p, a, 2, rfl, hP.but b4 v4, by decide, by decide, fun r3 H5 h30 h31 v5 e5 => .sc rfl ⟨_, rfl, ?_⟩⟩
        have b5 := b4.trans (But.of_eq e5)
        have ho5 : H5 lo = some (.lst (natV xs)) := by rw [e5 lo (Ne.symm hpo), e4 lo (Ne.symm hpo), e3 lo (Ne.symm hpo)]; exact ho2
        have hf5 : H5 lf = some (.lst refs) := by rw [e5 lf (Ne.symm hpf), e4 lf (Ne.symm hpf), e3 lf (Ne.symm hpf)]; exact hf2
        have rp5 : RepAll H5 refs (es.map tieD) := by
          obtain ⟨_, hpv⟩ := penAt v2
          exact RepAll.tieBut hpv (((But.of_eq e3).trans (But.of_eq e4)).trans (But.of_eq e5)) rp2
        clear e3 e4 e5 b3 b4 v3 v4 ho2 hf2 rp2
        have g1 : n1 < n := by omega
        refine ite2 (fun _ => ?a) (fun _ => ?b)
        case' a =>
          refine ⟨_, rfl, .int ⟨_, rfl, _, _, rfl, rfl, (by show (0 : Int) < (n : Int); omega), ?_⟩⟩
          have g0 := Int.emod_nonneg ((n1 : Int) + 1) (show (n : Int) ≠ 0 by omega)
          have g2 := Int.emod_lt_of_pos ((n1 : Int) + 1) (show (0 : Int) < (n : Int) by omega)
          obtain ⟨o, eo⟩ := Int.eq_ofNat_of_zero_le g0
          have ho : o < n := by omega
          dsimp only
          rw [eo]
        case' b =>
          have ho : n2 < n := by omega
          obtain ⟨o, rfl⟩ : ∃ o, o = n2 := ⟨_, rfl⟩
        all_goals
          refine ⟨_, rfl, _, _, rfl, rfl, _, rfl, ?_⟩
          refine ite2 (fun _ => ?_) (fun _ => ?_)
          all_goals first
            | (refine ⟨_, rfl, _, rfl, _, _, rfl, rfl, _, rfl, ?_⟩
               refine ite2 (fun _ => ?_) (fun _ => ?_))
            | refine iteF ?_
          all_goals first
            | (refine ⟨_, rfl, _, rfl, _, _, rfl, ?_⟩
               have g1' := g1
               have g1 := ho
               have ho := g1'
               clear g1'
               obtain ⟨x, rfl⟩ : ∃ x, x = o := ⟨_, rfl⟩
               obtain ⟨y, rfl⟩ : ∃ y, y = n1 := ⟨_, rfl⟩)
            | (obtain ⟨x, rfl⟩ : ∃ x, x = n1 := ⟨_, rfl⟩
               obtain ⟨y, rfl⟩ : ∃ y, y = o := ⟨_, rfl⟩)
          all_goals
            have ax := nat_at (xs := xs) (i := x) (by omega)
            have ay := nat_at (xs := xs) (i := y) (by omega)
            refine ⟨_, rfl, .sc rfl ⟨_, rfl, ?_⟩⟩
            refine ite2 (fun hk0 => ?_) (fun hk0 => ?_)
            all_goals first
              | (have hk0 : V.int kd = V.int 0 := of_decide_eq_true hk0
                 have hxy : kd = 1 → x < y := fun z => by rw [z] at hk0; cases hk0
                 refine iteT ?_)
              | (refine ⟨_, rfl, _, rfl, .int ⟨_, rfl, ?_⟩⟩
                 refine ite2 (fun hxy => ?_) (fun hxy => ?_))
            all_goals first
              | (have hxy : kd = 1 → x < y := fun _ => by
                   have z : (x : Int) < (y : Int) := of_decide_eq_true hxy
                   omega)
              | skip
            all_goals first
              | exact iteF ⟨_, _, _, refs, es, rfl, ho5, hf5, rp5, he2, by omega, hk2, v5, b5⟩
              | skip
            all_goals
              refine ⟨_, rfl, _, rfl, .lst (.of ho5) ax ⟨_, rfl, _, rfl, .lst (.of ho5) ay ⟨(by show 2 ≤ sizeLine; decide), fun tq htq => ?_⟩⟩⟩
              have sq := Same.new (o := .tup [V.int ((xs[x] : Nat) : Int), V.int ((xs[y] : Nat) : Int)]) htq
              have hpq := v5.ne htq
              refine ⟨_, rfl, .tr (sq _ _ hf5) (rp5.same sq) (tie_rep (i := xs[x]) (j := xs[y]) upd_same) (canLay_ties es) rfl (by show 1 ≤ 16; decide) ⟨_, rfl, ?_⟩⟩
              have ho6 := sq _ _ ho5
              have hf6 := sq _ _ hf5
              have rp6 := rp5.same sq
              have v6 : PenV _ p a := v5.upd (o := .tup [V.int ((xs[x] : Nat) : Int), V.int ((xs[y] : Nat) : Int)]) hpq
              have b6 := b5.at (o := .tup [V.int ((xs[x] : Nat) : Int), V.int ((xs[y] : Nat) : Int)]) (b5.free (Ne.symm hpq) htq)
              generalize upd H5 tq (.tup [V.int ((xs[x] : Nat) : Int), V.int ((xs[y] : Nat) : Int)]) = H6 at ho6 hf6 rp6 v6 b6 ⊢
              refine ite2 (fun _ => ?_) (fun _ => ?_)
              · refine ⟨_, rfl, .inl ⟨rfl, _, .of hf6⟩, ?_⟩
                refine ⟨_, rfl, _, rfl, .lst (.of ho6) ax ⟨_, rfl, _, rfl, .lst (.of ho6) ay ⟨(by show 2 ≤ sizeLine; decide), fun tr htr => ?_⟩⟩⟩
                have sr := Same.new (o := .tup [V.int ((xs[x] : Nat) : Int), V.int ((xs[y] : Nat) : Int)]) htr
                have hpr := v6.ne htr
                have hlr : lf ≠ tr := ne_of_none hf6 htr
                have rlen := rp6.len
                rw [List.length_map] at rlen
                refine ⟨lf, _, _, rfl, rfl, sr _ _ hf6, by rw [rlen]; exact small1000 (by omega), ?_⟩
                refine ⟨_, _, _, refs ++ [.ref tr], es ++ [(xs[x], xs[y])], rfl, ?_, upd_same, ?_, ?_, ?_, ?_, ?_, ?_⟩
                · rw [upd_ne hof]; exact sr _ _ ho6
                · rw [List.map_append]
                  refine RepAll.append ?_ (.cons ?_ .nil)
                  · exact RepAll.tieBut (p := lf) (sr _ _ hf6) But.upd (rp6.same sr)
                  · refine tie_rep ?_
                    rw [upd_ne (Ne.symm hlr)]; exact upd_same
                · intro e he
                  rcases List.mem_append.mp he with he | he
                  · exact he2 e he
                  · rw [List.mem_singleton.mp he]
                    exact ⟨hx1 _ (List.getElem_mem _), hx1 _ (List.getElem_mem _)⟩
                · rw [List.length_append]; show _ + 1 ≤ _; omega
                · intro z e he
                  rcases List.mem_append.mp he with he | he
                  · exact hk2 z e he
                  · rw [List.mem_singleton.mp he]
                    show MG.ix xs xs[x] < MG.ix xs xs[y]
                    rw [MG.ix_at hnd1 (i := x) (List.getElem?_eq_getElem _), MG.ix_at hnd1 (i := y) (List.getElem?_eq_getElem _)]
                    exact hxy z
                · exact (v6.upd hpr).upd hpf
                · exact (b6.at (b6.free (Ne.symm hpr) htr)).at hf0
              · exact ⟨_, _, _, refs, es, rfl, ho6, hf6, rp6, he2, by omega, hk2, v6, b6⟩
      · rintro σ H2 ⟨o5, o7, o8, refs, es, rfl, ho2, hf2, rp2, he2, hl2, hk2, v2, b2⟩
        have hl2 : es.length ≤ c := by simpa using hl2
        have rlen := rp2.len
        rw [List.length_map] at rlen
        have hfw : kd = 1 → MG.Fwd es := fun z => ⟨MG.ix xs, hk2 z⟩
        refine ⟨_, rfl, .sc rfl ⟨_, rfl, ?_⟩⟩
        refine ite2 (fun hk => ?_) (fun _ => ?_)
        · have hk : V.int kd = V.int 2 := of_decide_eq_true hk
          have hn1 : ∀ {A : Prop}, kd = 1 → A := fun z => by rw [z] at hk; cases hk
          refine ⟨_, rfl, (by show 0 ≤ sizeLine; decide), fun le hle => ?_⟩
          have se := Same.new (o := .lst []) hle
          have hpe := v2.ne hle
          refine .tr (.lst (se _ _ hf2) (rp2.same se)) (.lst upd_same .nil) (shp_ties es) (by rfl) ⟨_, rfl, ?_⟩
          have hf3 := se _ _ hf2
          have rp3 := rp2.same se
          have v3 : PenV _ p a := v2.upd (o := .lst []) hpe
          have b3 := b2.at (o := .lst []) (b2.free (Ne.symm hpe) hle)
          generalize upd H2 le (.lst []) = H3 at hf3 rp3 v3 b3 ⊢
          refine ite2 (fun hne => ?_) (fun _ => ?_)
          · have hpos : 0 < es.length := by
              cases es with
              | nil => exact absurd hne (by decide)
              | cons e es => simp
            refine ⟨_, rfl, _, rfl, _, rfl, _, _, rfl, Or.inl ⟨_, .of hf3, rfl⟩, p, a, _, rfl, hP.but b3 v3, by omega, by rw [rlen]; omega, fun r H4 h0 h1 v4 e4 => ?_⟩
            obtain ⟨j, rfl⟩ := Int.eq_ofNat_of_zero_le h0
            have hj : j < refs.length := by omega
            have hf4 := (e4 lf (Ne.symm hpf)).trans hf3
            obtain ⟨_, hpv⟩ := penAt v3
            have rp4 := RepAll.tieBut hpv (But.of_eq e4) rp3
            have b4 := b3.trans (But.of_eq e4)
            have gj : refs[j]? = some refs[j] := by simp [hj]
            obtain ⟨d, hd, rd⟩ := rp4.get gj
            rw [List.getElem?_map] at hd
            obtain ⟨e, he, rfl⟩ : ∃ e, es[j]? = some e ∧ tieD e = d := by
              cases q : es[j]? with
              | none => rw [q] at hd; cases hd
              | some e => rw [q] at hd; exact ⟨e, rfl, Option.some.inj hd⟩
            obtain ⟨ta, eta, hta⟩ := tie_at rd
            rw [eta] at gj
            have hev := he2 e (List.mem_of_getElem? he)
            refine .lst (.of hf4) (atI_nat gj) ?_
            refine ⟨ta, _, rfl, .of hta, rfl, _, _, rfl, _, _, rfl, rfl, ?_⟩
            refine ⟨_, rfl, _, rfl, (by show 2 ≤ sizeLine; decide), fun tq htq => ?_⟩
            have sq := Same.new (o := .tup [V.int ((e.2 : Nat) : Int), V.int ((e.1 : Nat) : Int)]) htq
            have hpq := v4.ne htq
            refine ⟨_, rfl, .tr (sq _ _ hf4) (rp4.same sq) (tie_rep (i := e.2) (j := e.1) upd_same) (canLay_ties es) rfl (by show 1 ≤ 16; decide) ⟨_, rfl, ?_⟩⟩
            have hf5 := sq _ _ hf4
            have rp5 := rp4.same sq
            have v5 : PenV _ p a := v4.upd (o := .tup [V.int ((e.2 : Nat) : Int), V.int ((e.1 : Nat) : Int)]) hpq
            have b5 := b4.at (o := .tup [V.int ((e.2 : Nat) : Int), V.int ((e.1 : Nat) : Int)]) (b4.free (Ne.symm hpq) htq)
            generalize upd H4 tq (.tup [V.int ((e.2 : Nat) : Int), V.int ((e.1 : Nat) : Int)]) = H5 at hf5 rp5 v5 b5 ⊢
            refine ite2 (fun _ => ?_) (fun _ => ?_)
            · refine ⟨_, rfl, _, _, rfl, Or.inl ⟨_, .of hf5, rfl⟩, .int ⟨_, rfl, ?_⟩⟩
              refine ite2 (fun _ => ?_) (fun _ => ?_)
              · refine ⟨_, rfl, .inl ⟨rfl, _, .of hf5⟩, _, rfl, _, rfl, _, _, rfl, Or.inl ⟨_, .of hf5, rfl⟩, .int ⟨p, a, _, rfl, hP.but b5 v5, by omega, by rw [rlen]; omega, fun r6 H6 h60 h61 v6 e6 => ?_⟩⟩
                obtain ⟨j6, rfl⟩ := Int.eq_ofNat_of_zero_le h60
                have hf6 := (e6 lf (Ne.symm hpf)).trans hf5
                obtain ⟨_, hpv5⟩ := penAt v5
                have rp6 := RepAll.tieBut hpv5 (But.of_eq e6) rp5
                have b6 := b5.trans (But.of_eq e6)
                refine ⟨_, rfl, _, rfl, (by show 2 ≤ sizeLine; decide), fun tr htr => ?_⟩
                have sr := Same.new (o := .tup [V.int ((e.2 : Nat) : Int), V.int ((e.1 : Nat) : Int)]) htr
                have hpr := v6.ne htr
                have hlr : lf ≠ tr := ne_of_none hf6 htr
                refine ⟨lf, _, _, j6, _, rfl, rfl, rfl, sr _ _ hf6, by omega, by rw [rlen]; exact small1000 (by omega), ?_⟩
                refine ⟨_, rfl, k lf _ (es.take j6 ++ (e.2, e.1) :: es.drop j6) _ upd_same ?_ ?_ ?_ (fun z => hn1 z) (Ne.symm hpf) ((v6.upd hpr).upd hpf) ((b6.at (b6.free (Ne.symm hpr) htr)).at hf0)⟩
                · rw [List.map_append, List.map_cons, List.map_take, List.map_drop]
                  have rp7 := RepAll.tieBut (p := lf) (H' := upd (upd H6 tr (.tup [V.int ((e.2 : Nat) : Int), V.int ((e.1 : Nat) : Int)])) lf (.lst (refs.take j6 ++ V.ref tr :: refs.drop j6))) (sr _ _ hf6) But.upd (rp6.same sr)
                  refine RepAll.append (rp7.take j6) (.cons ?_ (rp7.drop j6))
                  refine tie_rep ?_
                  rw [upd_ne (Ne.symm hlr)]; exact upd_same
                · intro x hx
                  rcases List.mem_append.mp hx with hx | hx
                  · exact he2 x (List.mem_of_mem_take hx)
                  · rcases List.mem_cons.mp hx with rfl | hx
                    · exact ⟨hev.2, hev.1⟩
                    · exact he2 x (List.mem_of_mem_drop hx)
                · simp only [List.length_append, List.length_cons, List.length_take, List.length_drop]
                  omega
              · exact ⟨_, rfl, k lf refs es H5 hf5 rp5 he2 (by omega) (fun z => hn1 z) (Ne.symm hpf) v5 b5⟩
            · exact iteF ⟨_, rfl, k lf refs es H5 hf5 rp5 he2 (by omega) (fun z => hn1 z) (Ne.symm hpf) v5 b5⟩
          · exact ⟨_, rfl, k lf refs es H3 hf3 rp3 he2 (by omega) (fun z => hn1 z) (Ne.symm hpf) v3 b3⟩
        · exact iteF ⟨_, rfl, k lf refs es H2 hf2 rp2 he2 (by omega) hfw (Ne.symm hpf) v2 b2⟩
end
end K18
namespace K18
open PySem L2
section
variable {P : Program} {w : World} {K : PySem.W.Frag} {mg : Str → Option Value} {base : Heap}
structure Built (H : Hp) (n t : Addr) (ss : List Str) (es : List (Nat × Nat)) : Prop where
  nm : H n = some (.lst (List.map V.str ss))
  nd : ss.Nodup
  ok : ∀ s ∈ ss, Nm s
  len : ss.length ≤ 60
  ti : ∃ refs, H t = some (.lst refs) ∧ RepAll H refs (es.map tieD)
  val : ∀ e ∈ es, e.1 < ss.length ∧ e.2 < ss.length
  few : es.length ≤ 401
theorem Built.same {H H' : Hp} {n t : Addr} {ss : List Str} {es : List (Nat × Nat)} (h : Built H n t ss es) (s : Same H H') : Built H' n t ss es :=
  ⟨s _ _ h.nm, h.nd, h.ok, h.len, let ⟨refs, a, b⟩ := h.ti; ⟨refs, s _ _ a, b.same s⟩, h.val, h.few⟩
theorem Built.but {H H' : Hp} {p n t : Addr} {ss : List Str} {es : List (Nat × Nat)} (h : Built H n t ss es) {ys : List V} (hp : H p = some (.lst ys)) (b : But p H H') (hn : n ≠ p) (ht : t ≠ p) : Built H' n t ss es :=
  ⟨b _ _ hn h.nm, h.nd, h.ok, h.len, let ⟨refs, a, c⟩ := h.ti; ⟨refs, b _ _ ht a, RepAll.tieBut hp b c⟩, h.val, h.few⟩
noncomputable def spBuilt (K : PySem.W.Frag) : Sp := fun vs H Q _ => ∃ (p a : Addr), vs = [.ref p] ∧ Pen K H p a ∧
  ∀ q n t ss es H', H' q = some (.tup [.ref n, .ref t]) → Built H' n t ss es → (False → MG.Fwd es) → n ≠ p → t ≠ p → PenV H' p a → But p H H' → Q (.ref q) H'
theorem scBuilt : FnScope ["_law_pen", "_law_sort", "_law_size", "_law_names_here", "_law_kind", "_law_count"] ["_law_pen"] (defScope sBuilt) := ⟨rfl, rfl, rfl, by decide +kernel, rfl, by decide +kernel, by decide +kernel⟩
theorem ok_built {f : Addr} {fd : FuncData} (F : Fun K "_law_built" "_law_built" sBuilt f fd) (B : Blt mg) (c_law_take : Cal P w K mg base 1 "_law_take" ["_law_pen", "_law_many"] (spDraw K)) (c_law_names : Cal P w K mg base 2 "_law_names" ["_law_pen", "_law_many"] (spNames K))
    (c_law_ties : Cal P w K mg base 2 "_law_ties" ["_law_pen", "_law_size", "_law_count", "_law_kind"] (spTies K)) : FnOk P w K mg base CX0 4 f fd ["_law_pen"] (spBuilt K) := by
  refine F.ok scBuilt (fun vs H Q E h => ?_) (fun cdv A outer s H vs Q E hr h => ?_)
  · obtain ⟨p, a, rfl, _⟩ := h
    rfl
  · obtain ⟨p, a, rfl, hP, k⟩ := h
    have nd := scBuilt.nd
    refine ⟨_, (pss_cons (ps_set (i := 1) nd rfl (Or.inl rfl) (pe_cal c_law_take (hr.mono (by decide)) rfl (pa_cons (pv 0) (pa_cons pe_int pa_nil))))
      (pss_cons (ps_set (i := 2) nd rfl (Or.inl rfl) (pe_op op_addX pe_int (pe_cal c_law_take (hr.mono (by decide)) rfl (pa_cons (pv 0) (pa_cons pe_int pa_nil)))))
      (pss_cons (ps_if (pt_cmpR (op_eqX hr.units) (pv 1) pe_int (nomark _)) (pss_one (ps_set (i := 2) nd rfl (Or.inl rfl) (pe_op op_sub pe_int (pe_cal c_law_take (hr.mono (by decide)) rfl (pa_cons (pv 0) (pa_cons pe_int pa_nil)))))) pss_nil)
      (pss_cons (ps_if (pt_cmpR (op_eqX hr.units) (pv 1) pe_int (nomark _)) (pss_one (ps_set (i := 2) nd rfl (Or.inl rfl) (pe_cal c_law_take (hr.mono (by decide)) rfl (pa_cons (pv 0) (pa_cons pe_int pa_nil))))) pss_nil)
      (pss_cons (ps_set (i := 3) nd rfl (Or.inl rfl) (pe_cal c_law_names (hr.mono (by decide)) rfl (pa_cons (pv 0) (pa_cons (pv 2) pa_nil))))
      (pss_cons (ps_set (i := 4) nd rfl (Or.inl rfl) (pe_ix (ix_X K hr.units) (pe_lst (pa_cons pe_int (pa_cons pe_int (pa_cons pe_int (pa_cons pe_int pa_nil))))) (pe_cal c_law_take (hr.mono (by decide)) rfl (pa_cons (pv 0) (pa_cons pe_int pa_nil))) (fun _ _ => rfl)))
      (pss_cons (ps_set (i := 5) nd rfl (Or.inl rfl) (pe_cal c_law_take (hr.mono (by decide)) rfl (pa_cons (pv 0) (pa_cons (pe_op op_addX (pe_op op_mul pe_int (pv 2)) pe_int) pa_nil))))
      (pss_cons (ps_if (pt_cmpR (op_eqX hr.units) (pv 2) pe_int (nomark _)) (pss_one (ps_ret (pe_tup (pa_cons (pv 3) (pa_cons (pe_lst pa_nil) pa_nil))))) pss_nil)
      (pss_one (ps_ret (pe_tup (pa_cons (pv 3) (pa_cons (pe_cal c_law_ties (hr.mono (by decide)) rfl (pa_cons (pv 0) (pa_cons (pv 2) (pa_cons (pv 5) (pa_cons (pv 4) pa_nil))))) pa_nil))))))))))))), ?_⟩
    refine ⟨_, rfl, p, a, 8, rfl, hP, by decide, by decide, fun r1 H1 h10 h11 v1 e1 => ?_⟩
    have b1 := But.of_eq e1
    refine ⟨_, rfl, p, a, 10, rfl, hP.but b1 v1, by decide, by decide, fun r2 H2 h20 h21 v2 e2 => .int ?_⟩
    have b2 := b1.trans (But.of_eq e2)
    obtain ⟨m0, em0⟩ := Int.eq_ofNat_of_zero_le (show 0 ≤ 3 + r2 by omega)
    have hm : m0 ≤ 60 := by omega
    rw [em0]
    refine ⟨_, rfl, .sc rfl ⟨_, rfl, ?_⟩⟩
    refine ite2 (fun _ => ?a) (fun _ => ?b)
    case' a =>
      refine ⟨_, rfl, p, a, 11, rfl, hP.but b2 v2, by decide, by decide, fun r3 H3 h30 h31 v3 e3 => ⟨_, _, rfl, rfl, ?_⟩⟩
      have b2 := b2.trans (But.of_eq e3)
      have v2 := v3
      obtain ⟨m, em⟩ := Int.eq_ofNat_of_zero_le (show 0 ≤ 30 - r3 by omega)
      have hm : m ≤ 60 := by omega
      dsimp only
      rw [em]
    case' b =>
      obtain ⟨m, rfl⟩ : ∃ m, m = m0 := ⟨_, rfl⟩
    all_goals
      refine ⟨_, rfl, .sc rfl ⟨_, rfl, ?_⟩⟩
      refine ite2 (fun _ => ?_) (fun _ => ?_)
      all_goals first
        | (refine ⟨_, rfl, p, a, 3, rfl, hP.but b2 v2, by decide, by decide, fun r4 H4 h40 h41 v4 e4 => ?_⟩
           have b2 := b2.trans (But.of_eq e4)
           have v2 := v4
           obtain ⟨m, rfl⟩ := Int.eq_ofNat_of_zero_le h40
           have hm : m ≤ 60 := by omega)
        | skip
      all_goals
        refine ⟨_, rfl, _, rfl, p, a, m, rfl, hP.but b2 v2, hm, fun ln ss H5 hl5 hnd5 hnm5 hln5 hnp5 v5 b5 => ?_⟩
        have b5 := b2.trans b5
        refine ⟨(by show 4 ≤ sizeLine; decide), fun l hl => ?_⟩
        have hpl := v5.ne hl
        have hnl : ln ≠ l := ne_of_none hln5 hl
        have b5' := b5.at (o := .lst [V.int 1, V.int 1, V.int 1, V.int 2]) (b5.free (Ne.symm hpl) hl)
        refine ⟨_, rfl, p, a, 4, rfl, hP.but b5' (v5.upd hpl), by decide, by decide, fun r6 H6 h60 h61 v6 e6 => ?_⟩
        have hl6 : H6 l = some (.lst [V.int 1, V.int 1, V.int 1, V.int 2]) := (e6 l (Ne.symm hpl)).trans upd_same
        have hln6 : H6 ln = some (.lst (List.map V.str ss)) := by rw [e6 ln hnp5, upd_ne hnl]; exact hln5
        have b6 := b5'.trans (But.of_eq e6)
        obtain ⟨kd, ekd, hkd⟩ : ∃ kd, atI [V.int 1, V.int 1, V.int 1, V.int 2] r6 = some (.int kd) ∧ (False → kd = 1) := by
          have hr6 : r6 = 0 ∨ r6 = 1 ∨ r6 = 2 ∨ r6 = 3 := by omega
          rcases hr6 with rfl | rfl | rfl | rfl <;> exact ⟨_, rfl, by first | exact fun _ => rfl | exact fun z => z.elim⟩
        refine .lst (.of hl6) ekd ?_
        refine ⟨_, rfl, _, rfl, _, _, rfl, rfl, .inl ⟨by decide, by decide⟩, .int ⟨p, a, _, rfl, hP.but b6 v6, by omega, by omega, fun r7 H7 h70 h71 v7 e7 => ?_⟩⟩
        have hln7 := (e7 ln hnp5).trans hln6
        have b7 := b6.trans (But.of_eq e7)
        obtain ⟨c0, rfl⟩ := Int.eq_ofNat_of_zero_le h70
        have hc : c0 ≤ 400 := by omega
        obtain ⟨c, rfl⟩ : ∃ c, c = c0 := ⟨_, rfl⟩
        all_goals
          refine ⟨_, rfl, .sc rfl ⟨_, rfl, ?_⟩⟩
          refine ite2 (fun _ => ?_) (fun hz => ?_)
          · refine ⟨_, rfl, (by show 0 ≤ sizeLine; decide), fun le hle => ⟨(by show 2 ≤ sizeLine; decide), fun q hq => ?_⟩⟩
            have s1 := Same.new (o := .lst []) hle
            have s2 := Same.new (o := .tup [V.ref ln, V.ref le]) hq
            have hpe := v7.ne hle
            have hpq := (v7.upd (o := .lst []) hpe).ne hq
            have b8 := b7.at (o := .lst []) (b7.free (Ne.symm hpe) hle)
            exact k q ln le ss [] _ upd_same ⟨(s1.trans s2) _ _ hln7, hnd5, hnm5, by omega, ⟨[], s2 _ _ upd_same, .nil⟩, (fun e he => by cases he), by simp⟩ (fun _ => ⟨fun _ => 0, fun e he => by cases he⟩) hnp5 (Ne.symm hpe) ((v7.upd hpe).upd hpq) (b8.at (b8.free (Ne.symm hpq) hq))
          · have hm0 : m ≠ 0 := by
              rintro rfl
              exact hz (by rfl)
            refine ⟨_, rfl, _, rfl, _, rfl, _, rfl, _, rfl, p, a, m, c, kd, rfl, hP.but b7 v7, by omega, hm, hc, fun lt refs es H9 hlt rp hval hlen hfw hltp v9 b9 => ⟨(by show 2 ≤ sizeLine; decide), fun q hq => ?_⟩⟩
            have hln9 := b9 ln _ hnp5 hln7
            have b9 := b7.trans b9
            have s2 := Same.new (o := .tup [V.ref ln, V.ref lt]) hq
            have hpq := v9.ne hq
            exact k q ln lt ss es _ upd_same ⟨s2 _ _ hln9, hnd5, hnm5, by omega, ⟨refs, s2 _ _ hlt, rp.same s2⟩, (fun e he => by rw [hl5]; exact hval e he), hlen⟩ (fun z => hfw (hkd z)) hnp5 hltp (v9.upd hpq) (b9.at (b9.free (Ne.symm hpq) hq))
end
end K18
namespace K18
open PySem L2
section
variable {P : Program} {w : World} {K : PySem.W.Frag} {mg : Str → Option Value} {base : Heap}
noncomputable def nmP (ss : List Str) (e : Nat × Nat) : Str × Str := (ss.getD e.1 "", ss.getD e.2 "")
theorem str_at {ss : List Str} {i : Nat} (h : i < ss.length) : atI (List.map V.str ss) (i : Int) = some (.str (ss.getD i "")) := atI_nat (by simp [h, List.getD_eq_getElem?_getD])
theorem Rep.pairBut {H H' : Hp} {p : Addr} {ys : List V} (hp : H p = some (.lst ys)) (b : But p H H') {v : V} {e : Str × Str} (h : Rep H v (pairD e)) : Rep H' v (pairD e) := by
  obtain ⟨a, rfl, ha⟩ := pair_at h
  exact pair_rep (b a _ (ne_of ha hp (by intro z; cases z)) ha)
theorem RepAll.pairBut {H H' : Hp} {p : Addr} {ys : List V} (hp : H p = some (.lst ys)) (b : But p H H') : ∀ {es : List (Str × Str)} {xs : List V}, RepAll H xs (es.map pairD) → RepAll H' xs (es.map pairD)
  | [], xs, h => by rw [RepAll.nilI h]; exact .nil
  | e :: es, xs, h => by
    obtain ⟨y, ys', rfl, a, c⟩ := RepAll.consI h
    exact .cons (Rep.pairBut hp b a) (RepAll.pairBut hp b c)
theorem gYes2 {x : V} {q : Addr} {u v : V} {σ : St} {H : Hp} {A B : St → Hp → Prop} (hx : x = .ref q) (hq : SqT K H q [u, v]) (h : A ((σ.set 0 (some u)).set 1 (some v)) H) :
    gTup K 2 (gCons (gName 0) (gCons (gName 1) gNil)) x σ H fun σ2 H3 => tYes σ2 H3 fun b H4 => if b = true then A σ2 H4 else B σ2 H4 := by
  subst hx
  refine ⟨q, _, rfl, hq, rfl, _, _, rfl, _, _, rfl, rfl, ?_⟩
  show (if true = true then A ((σ.set 0 (some u)).set 1 (some v)) H else B ((σ.set 0 (some u)).set 1 (some v)) H)
  rw [if_pos rfl]
  exact h
noncomputable def spWeb : Sp := fun vs H Q _ => ∃ n t ss es, vs = [.ref n, .ref t] ∧ Built H n t ss es ∧ ∀ q H', Same H H' → Rep H' (.ref q) (webD ss (es.map (nmP ss))) → Q (.ref q) H'
theorem scWeb : FnScope ["_law_names_here", "_law_ties_here"] ["_law_names_here", "_law_ties_here"] (defScope sWeb) := ⟨rfl, rfl, rfl, by decide +kernel, rfl, by decide +kernel, by decide +kernel⟩
theorem ok_web {f : Addr} {fd : FuncData} (F : Fun K "_law_web" "_law_web" sWeb f fd) (B : Blt mg) : FnOk P w K mg base CX0 1 f fd ["_law_names_here", "_law_ties_here"] spWeb := by
  refine F.ok scWeb (fun vs H Q E h => ?_) (fun cdv A outer s H vs Q E hr h => ?_)
  · obtain ⟨n, t, ss, es, rfl, _⟩ := h
    rfl
  · obtain ⟨n, t, ss, es, rfl, hB, k⟩ := h
    have nd := scWeb.nd
    refine ⟨_, (pss_one (ps_ret (pe_tup (pa_cons (b_tuple K B (pa_cons (pv 0) pa_nil)) (pa_cons (b_tuple K B (pa_cons (pe_comp (defScope sWeb) ["_law_names_here", "_law_ties_here"] ["_law_one", "_law_other"] [0] ["_law_one", "_law_other", "_law_names_here"] rfl (pi_listK K (pv 1)) (fun _ _ _ _ _ => (pg_tupK (n := 2) K rfl (pgs_cons (pg_name (i := 0) (show (["_law_one", "_law_other", "_law_names_here"] : List Str).Nodup by decide) rfl (Or.inl rfl)) (pgs_cons (pg_name (i := 1) (show (["_law_one", "_law_other", "_law_names_here"] : List Str).Nodup by decide) rfl (Or.inl rfl)) pgs_nil)))) (fun _ _ _ _ _ => pts_nil) (fun _ _ _ _ _ => (pe_tup (pa_cons (pe_ix (ix_X K hr.units) (pv 2) (pv 0) (fun _ _ => rfl)) (pa_cons (pe_ix (ix_X K hr.units) (pv 2) (pv 1) (fun _ _ => rfl)) pa_nil))))) pa_nil)) pa_nil))))), ?_⟩
    refine ⟨_, rfl, n, _, rfl, .of hB.nm, fun l1 h1 => ?_⟩
    have s1 := Same.new (o := .tup (List.map V.str ss)) h1
    have e1 : upd H l1 (.tup (List.map V.str ss)) l1 = some (.tup (List.map V.str ss)) := upd_same
    have hB1 := hB.same s1
    generalize upd H l1 (.tup (List.map V.str ss)) = H1 at s1 e1 hB1 ⊢
    obtain ⟨refs, ht, rp⟩ := hB1.ti
    have rlen := rp.len
    rw [List.length_map] at rlen
    refine ⟨_, rfl, t, rfl, ⟨_, .of ht⟩, ?_⟩
    refine comp_list refs (fun D i acc σ' H' => ∃ o1 o2, σ' = [o1, o2, some (.ref n)] ∧ RepAll H' acc (((es.take i).map (nmP ss)).map pairD) ∧ Same H1 H' ∧ H1 D = none) fun D hD => ⟨?_, ?_, ?_, ?_⟩
    · exact ⟨none, none, rfl, .nil, Same.new hD, hD⟩
    · rintro i acc σ' H' _ ⟨o1, o2, rfl, _, sm, _⟩ _
      exact .of (sm _ _ ht)
    · rintro i acc σ' H' x hx ⟨o1, o2, rfl, rpa, sm, hD0⟩ hacc
      obtain ⟨d, hd, rd⟩ := (rp.same sm).get hx
      rw [List.getElem?_map] at hd
      obtain ⟨e, he, rfl⟩ : ∃ e, es[i]? = some e ∧ tieD e = d := by
        cases q : es[i]? with
        | none => rw [q] at hd; cases hd
        | some e => rw [q] at hd; exact ⟨e, rfl, Option.some.inj hd⟩
      obtain ⟨ta, eta, hta⟩ := tie_at rd
      have hev := hB1.val e (List.mem_of_getElem? he)
      have hn' := sm _ _ hB1.nm
      have alen := rpa.len
      simp only [List.length_map, List.length_take] at alen
      have hil := (List.getElem?_eq_some_iff.mp he).1
      refine gYes2 eta (.of hta) ?_
      refine ⟨_, rfl, _, rfl, .lst (.of hn') (str_at hev.1) ⟨_, rfl, _, rfl, .lst (.of hn') (str_at hev.2) ⟨(by show 2 ≤ sizeLine; decide), fun q hq => ?_⟩⟩⟩
      have sq := Same.new (o := .tup [V.str (ss.getD e.1 ""), V.str (ss.getD e.2 "")]) hq
      have hDq : D ≠ q := ne_of_none hacc hq
      refine ⟨sq _ _ hacc, small1000 (by have := hB1.few; omega), _, _, rfl, ?_, ?_, hD0⟩
      · rw [List.take_add_one, he, List.map_append, List.map_append]
        refine RepAll.append (RepAll.pairBut (p := D) (sq _ _ hacc) But.upd (rpa.same sq)) (.cons ?_ .nil)
        refine pair_rep ?_
        rw [upd_ne (Ne.symm hDq)]; exact upd_same
      · intro b o hb
        rw [upd_ne (ne_of_none hb hD0)]
        exact sq _ _ (sm _ _ hb)
    · rintro acc σ' H' ⟨o1, o2, rfl, rpa, sm, hD0⟩ hacc
      rw [rlen, List.take_of_length_le (Nat.le_refl _)] at rpa
      refine ⟨D, _, rfl, .of hacc, fun l2 h2 => ⟨(by show 2 ≤ sizeLine; decide), fun q hq => ?_⟩⟩
      have s2 := Same.new (o := .tup acc) h2
      have s3 := Same.new (o := .tup [V.ref l1, V.ref l2]) hq
      refine k q _ ((s1.trans sm).trans (s2.trans s3)) (.tup upd_same (.cons (.tup ((sm.trans (s2.trans s3)) _ _ e1) (RepAll.of_strs ss)) (.cons (.tup (s3 _ _ upd_same) (rpa.same (s2.trans s3))) .nil)))
end
end K18
namespace K18
open PySem L2
section
variable {P : Program} {w : World} {K : PySem.W.Frag} {mg : Str → Option Value} {base : Heap}
theorem canLay_pairs : ∀ ts : List (Str × Str), (∀ e ∈ ts, Nm e.1 ∧ Nm e.2) → PyData.canLayAll0 (ts.map pairD) = true
  | [], _ => rfl
  | e :: ts, h => by
    show (PyData.canLay0 (pairD e) && PyData.canLayAll0 (ts.map pairD)) = true
    rw [canLay_pairs ts fun x hx => h x (List.mem_cons_of_mem _ hx)]
    have := h e (by simp)
    show ((PyData.canLay0 (.str e.1) && (PyData.canLay0 (.str e.2) && true)) && true) = true
    rw [canLay_nm this.1, canLay_nm this.2]; rfl
theorem depth_pairs : ∀ ts : List (Str × Str), PyData.depthAll (ts.map pairD) ≤ 1
  | [] => by decide
  | e :: es => by
    show max (PyData.depth (pairD e)) (PyData.depthAll (es.map pairD)) ≤ 1
    have h1 : PyData.depth (pairD e) = 1 := rfl
    have h2 := depth_pairs es
    omega
theorem shp_web {ss : List Str} {ts : List (Str × Str)} (h : ∀ s ∈ ss, Nm s) (g : ∀ e ∈ ts, Nm e.1 ∧ Nm e.2) : shp (webD ss ts) := by
  show ((PyData.canLayAll0 (ss.map PyData.str) && (PyData.canLayAll0 (ts.map pairD) && true)) && decide (max (PyData.depthAll (ss.map PyData.str) + 1) (max (PyData.depthAll (ts.map pairD) + 1) 0) + 1 ≤ 64)) = true
  have := depth_pairs ts
  rw [canLay_strs ss h, canLay_pairs ts g, depth_strs, decide_eq_true (by omega)]
  rfl
theorem web_shp {H : Hp} {v : V} {ss : List Str} {ts : List (Str × Str)} (W : Web H v ss ts) : shp (webD ss ts) := shp_web W.nm fun e he => ⟨W.nm _ (W.inn e he).1, W.nm _ (W.inn e he).2⟩
theorem web_but {H H' : Hp} {p : Addr} {ys : List V} (hp : H p = some (.lst ys)) (b : But p H H') {v : V} {ss : List Str} {ts : List (Str × Str)} (W : Web H v ss ts) : Web H' v ss ts := by
  refine ⟨?_, W.nd, W.nm, W.len, W.few, W.inn⟩
  obtain ⟨q, c, d, xs, rfl, hq, hc, hd, rp⟩ := web_at W.rep
  have k : ∀ a zs, H a = some (.tup zs) → H' a = some (.tup zs) := fun a zs h => b a _ (ne_of h hp (by intro z; cases z)) h
  exact .tup (k _ _ hq) (.cons (.tup (k _ _ hc) (RepAll.of_strs ss)) (.cons (.tup (k _ _ hd) (RepAll.pairBut hp b rp)) .nil))
theorem mem_getD {ss : List Str} {i : Nat} (h : i < ss.length) : ss.getD i "" ∈ ss := by
  rw [List.getD_eq_getElem?_getD, List.getElem?_eq_getElem h]
  exact List.getElem_mem h
theorem web_of {H H' : Hp} {n t : Addr} {ss : List Str} {es : List (Nat × Nat)} {v : V} (B : Built H n t ss es) (r : Rep H' v (webD ss (es.map (nmP ss)))) : Web H' v ss (es.map (nmP ss)) :=
  ⟨r, B.nd, B.ok, B.len, by rw [List.length_map]; exact B.few, fun e he => by
    obtain ⟨f, hf, rfl⟩ := List.mem_map.mp he
    have := B.val f hf
    exact ⟨mem_getD this.1, mem_getD this.2⟩⟩
theorem rng_nat (n : Nat) : rngV n = natV (List.range n) := by
  unfold rngV natV
  simp
end
end K18
namespace K18
open PySem L2
section
variable {P : Program} {w : World} {K : PySem.W.Frag} {mg : Str → Option Value} {base : Heap}
theorem in_nat (a : Nat) (xs : List Nat) : inV (V.int (a : Int)) (natV xs) = decide (a ∈ xs) := by
  rw [Bool.eq_iff_iff, decide_eq_true_iff]
  unfold inV natV
  rw [List.any_eq_true]
  constructor
  · rintro ⟨y, hy, q⟩
    obtain ⟨b, hb, rfl⟩ := List.mem_map.mp hy
    have q : ((b : Int) == (a : Int)) = true := q
    have q : (b : Int) = a := by simpa using q
    have : b = a := by omega
    subst this; exact hb
  · intro h
    refine ⟨_, List.mem_map.mpr ⟨a, h, rfl⟩, ?_⟩
    show ((a : Int) == (a : Int)) = true
    simp
theorem flat_nat (xs : List Nat) : (natV xs).all flatV = true := by
  unfold natV
  rw [List.all_map, List.all_eq_true]
  intro x _; rfl
theorem nat_at? {xs : List Nat} {i x : Nat} (h : xs[i]? = some x) : atI (natV xs) (i : Int) = some (.int (x : Int)) := atI_nat (by simp [natV, h])
theorem nat_get {xs : List Nat} {i : Nat} {x : V} (h : (natV xs)[i]? = some x) : ∃ j, xs[i]? = some j ∧ V.int ((j : Nat) : Int) = x := by
  unfold natV at h
  rw [List.getElem?_map] at h
  cases q : xs[i]? with
  | none => rw [q] at h; cases h
  | some e => rw [q] at h; exact ⟨e, rfl, Option.some.inj h⟩
theorem str_get {ss : List Str} {i : Nat} {x : V} (h : (List.map V.str ss)[i]? = some x) : ∃ s, ss[i]? = some s ∧ V.str s = x := by
  rw [List.getElem?_map] at h
  cases q : ss[i]? with
  | none => rw [q] at h; cases h
  | some e => rw [q] at h; exact ⟨e, rfl, Option.some.inj h⟩
theorem tie_get {H : Hp} {refs : List V} {es : List (Nat × Nat)} (rp : RepAll H refs (es.map tieD)) {j : Nat} {x : V} (hx : refs[j]? = some x) : ∃ e ta, es[j]? = some e ∧ x = .ref ta ∧ H ta = some (.tup [.int ((e.1 : Nat) : Int), .int ((e.2 : Nat) : Int)]) := by
  obtain ⟨d, hd, rd⟩ := rp.get hx
  rw [List.getElem?_map] at hd
  cases q : es[j]? with
  | none => rw [q] at hd; cases hd
  | some e =>
    rw [q] at hd
    have hd : tieD e = d := Option.some.inj hd
    rw [← hd] at rd
    obtain ⟨ta, h1, h2⟩ := tie_at rd
    exact ⟨e, ta, rfl, h1, h2⟩
noncomputable def numsD (xs : List Nat) : PyData := .list (xs.map fun x : Nat => PyData.int (x : Int))
theorem repAll_nat {H : Hp} : ∀ xs : List Nat, RepAll H (natV xs) (xs.map fun x : Nat => PyData.int (x : Int))
  | [] => .nil
  | x :: xs => .cons (.int _) (repAll_nat xs)
theorem nums_rep {H : Hp} {a : Addr} {xs : List Nat} (h : H a = some (.lst (natV xs))) : Rep H (.ref a) (numsD xs) := .lst h (repAll_nat xs)
theorem shp_nums (xs : List Nat) : shp (numsD xs) := by
  have a : ∀ xs : List Nat, PyData.canLayAll0 (xs.map fun x : Nat => PyData.int (x : Int)) = true ∧ PyData.depthAll (xs.map fun x : Nat => PyData.int (x : Int)) = 0 := by
    intro xs
    induction xs with
    | nil => exact ⟨rfl, rfl⟩
    | cons x xs ih =>
      refine ⟨?_, ?_⟩
      · show (PyData.canLay0 (.int (x : Int)) && PyData.canLayAll0 (xs.map fun x : Nat => PyData.int (x : Int))) = true
        rw [ih.1]; rfl
      · show max (PyData.depth (.int (x : Int))) (PyData.depthAll (xs.map fun x : Nat => PyData.int (x : Int))) = 0
        rw [ih.2]; rfl
  show (PyData.canLayAll0 (xs.map fun x : Nat => PyData.int (x : Int)) && decide (PyData.depthAll (xs.map fun x : Nat => PyData.int (x : Int)) + 1 ≤ 64)) = true
  rw [(a xs).1, (a xs).2]; rfl
theorem eqv_nil_nums (xs : List Nat) : PyData.eqv (numsD xs) (.list []) = decide (xs = []) := by
  cases xs with
  | nil => rfl
  | cons x xs => rfl
theorem natV_ints (xs : List Nat) : natV xs = List.map V.int (xs.map fun x : Nat => (x : Int)) := by unfold natV; rw [List.map_map]; rfl
theorem erase_nat (k : Nat) : ∀ xs : List Nat, (xs.map fun x : Nat => (x : Int)).erase (k : Int) = (xs.erase k).map fun x : Nat => (x : Int)
  | [] => rfl
  | x :: xs => by
    by_cases q : x = k
    · subst q; simp
    · have q' : (x : Int) ≠ (k : Int) := by omega
      rw [List.map_cons, List.erase_cons_tail (by simpa using q'), List.erase_cons_tail (by simpa using q), erase_nat k xs]; rfl
noncomputable def spFree : Sp := fun vs H Q _ => ∃ (ll t : Addr) (left : List Nat) (refs : List V) (es : List (Nat × Nat)), vs = [.ref ll, .ref t] ∧ H ll = some (.lst (natV left)) ∧ left.length ≤ 1000 ∧ H t = some (.lst refs) ∧ RepAll H refs (es.map tieD) ∧ es.length ≤ 900 ∧
  ∀ l H', Same H H' → H l = none → H' l = some (.lst (natV (MG.freeL es left))) → Q (.ref l) H'
theorem scFree : FnScope ["_law_left", "_law_ties_here", "_law_bound", "_law_one", "_law_other"] ["_law_left", "_law_ties_here"] (defScope sFree) := ⟨rfl, rfl, rfl, by decide +kernel, rfl, by decide +kernel, by decide +kernel⟩
theorem ok_free {f : Addr} {fd : FuncData} (F : Fun K "_law_free" "_law_free" sFree f fd) (B : Blt mg) : FnOk P w K mg base CX0 1 f fd ["_law_left", "_law_ties_here"] spFree := by
  refine F.ok scFree (fun vs H Q E h => ?_) (fun cdv A outer s H vs Q E hr h => ?_)
  · obtain ⟨ll, t, left, refs, es, rfl, _⟩ := h
    rfl
  · obtain ⟨ll, t, left, refs, es, rfl, hll, hlen, ht, rp, hel, k⟩ := h
    have nd := scFree.nd
    refine ⟨_, (pss_cons (ps_set (i := 2) nd rfl (Or.inr rfl) pe_dnewK)
      (pss_cons (ps_for PassesOwn.never rfl (pi_listK K (pv 1)) (pg_tupK (n := 2) K rfl (pgs_cons (pg_name (i := 3) nd rfl (Or.inl rfl)) (pgs_cons (pg_name (i := 4) nd rfl (Or.inl rfl)) pgs_nil))) (pss_one (ps_if (pt_cmpR (op_inX K hr.units) (pv 3) (pv 0) (by with_unfolding_all rfl)) (pss_one (ps_asg pe_bl (pg_sub (pv 2) (pv 4) (set_X hr.units)))) pss_nil)))
      (pss_one (ps_ret (pe_comp (defScope sFree) ["_law_left", "_law_ties_here", "_law_bound", "_law_one", "_law_other"] ["_law_k"] [2] ["_law_k", "_law_bound"] rfl (pi_listK K (pv 0)) (fun _ _ _ _ _ => (pg_name (i := 0) (show (["_law_k", "_law_bound"] : List Str).Nodup by decide) rfl (Or.inl rfl))) (fun _ _ _ _ _ => (pts_one (pt_cmpR (op_notInX K hr.units) (pv 0) (pv 1) (by with_unfolding_all rfl)))) (fun _ _ _ _ _ => (pv 0))))))), ?_⟩
    have rlen := rp.len
    rw [List.length_map] at rlen
    intro d hd
    have s0 := Same.new (o := .dK []) hd
    refine ⟨_, rfl, t, rfl, ⟨_, .of (s0 _ _ ht)⟩, ?_⟩
    refine for_list (xs := refs) (fun j σ H' => ∃ o3 o4 kvs, σ = [some (.ref ll), some (.ref t), some (.ref d), o3, o4] ∧ Same H H' ∧ H' d = some (.dK kvs) ∧ kvs.length ≤ j ∧ ∀ x : Nat, (valV kvs (.inl (x : Int))).isSome = true ↔ ∃ e ∈ es.take j, e.1 ∈ left ∧ e.2 = x) ?_ ?_ ?_ ?_
    · refine ⟨none, none, [], rfl, s0, upd_same, Nat.le_refl _, fun x => ?_⟩
      simp [valV_nil]
    · rintro j σ H' hj ⟨o3, o4, kvs, rfl, sm, _⟩
      exact .of (sm _ _ ht)
    · rintro j x σ H' hx ⟨o3, o4, kvs, rfl, sm, hk, hkl, hin⟩
      obtain ⟨e, ta, he, rfl, hta⟩ := tie_get (rp.same sm) hx
      have hjl := (List.getElem?_eq_some_iff.mp he).1
      have tk : ∀ (q : Nat × Nat), q ∈ es.take (j + 1) ↔ q ∈ es.take j ∨ q = e := fun q => by
        rw [List.take_add_one, he, List.mem_append]
        simp
      refine ⟨ta, _, rfl, .of hta, rfl, _, _, rfl, _, _, rfl, rfl, ?_⟩
      refine ⟨_, rfl, _, rfl, .seq (.inl (.of (sm _ _ hll))) rfl (flat_nat _) ⟨_, rfl, ?_⟩⟩
      rw [in_nat]
      refine ite2 (fun h1 => ?_) (fun h1 => ?_)
      · have h1 : e.1 ∈ left := by simpa using h1
        refine ⟨_, rfl, _, rfl, .dic (DPut.k (k := .inl ((e.2 : Nat) : Int)) hk (small1000 (by omega))) ⟨_, _, _, rfl, ?_, upd_same, ?_, fun x => ?_⟩⟩
        · intro c o hc
          rw [upd_ne (ne_of_none hc hd)]
          exact sm _ _ hc
        · have := length_putK kvs (.inl ((e.2 : Nat) : Int)) (V.bl true)
          omega
        · rw [valV_put]
          by_cases q : x = e.2
          · subst q
            rw [if_pos rfl]
            exact ⟨fun _ => ⟨e, (tk e).mpr (.inr rfl), h1, rfl⟩, fun _ => rfl⟩
          · rw [if_neg (fun z => q (by have := Sum.inl.inj z; omega)), hin x]
            constructor
            · rintro ⟨f, hf, h2⟩
              exact ⟨f, (tk f).mpr (.inl hf), h2⟩
            · rintro ⟨f, hf, h2, h3⟩
              rcases (tk f).mp hf with hf | hf
              · exact ⟨f, hf, h2, h3⟩
              · subst hf; exact absurd h3.symm q
      · have h1 : e.1 ∉ left := by simpa using h1
        refine ⟨_, _, kvs, rfl, sm, hk, by omega, fun x => ?_⟩
        rw [hin x]
        constructor
        · rintro ⟨f, hf, h2⟩
          exact ⟨f, (tk f).mpr (.inl hf), h2⟩
        · rintro ⟨f, hf, h2, h3⟩
          rcases (tk f).mp hf with hf | hf
          · exact ⟨f, hf, h2, h3⟩
          · subst hf; exact absurd h2 h1
    · rintro σ H1 ⟨o3, o4, kvs, rfl, s1, hk, hkl, hin⟩
      rw [rlen, List.take_of_length_le (Nat.le_refl _)] at hin
      have hfb : ∀ x : Nat, (!(valV kvs (.inl (x : Int))).isSome) = MG.freeB es left x := fun x => by
        rw [Bool.eq_iff_iff, MG.freeB_iff, Bool.not_eq_true', ← Bool.not_eq_true, hin x]
        constructor
        · intro h e he h1 h2
          exact h ⟨e, he, h1, h2⟩
        · rintro h ⟨e, he, h1, h2⟩
          exact h e he h1 h2
      refine ⟨_, rfl, ll, rfl, ⟨_, .of (s1 _ _ hll)⟩, ?_⟩
      refine comp_list (natV left) (fun D i acc σ' H' => ∃ o, σ' = [o, some (.ref d)] ∧ acc = natV ((left.take i).filter (MG.freeB es left)) ∧ Same H1 H' ∧ H1 D = none) fun D hD => ⟨?_, ?_, ?_, ?_⟩
      · exact ⟨none, rfl, rfl, Same.new hD, hD⟩
      · rintro i acc σ' H' _ ⟨o, rfl, _, sm, _⟩ _
        exact .of (sm _ _ (s1 _ _ hll))
      · rintro i acc σ' H' x hx ⟨o, rfl, rfl, sm, hD0⟩ hacc
        obtain ⟨j, hj, rfl⟩ := nat_get hx
        have hil := (List.getElem?_eq_some_iff.mp hj).1
        refine ⟨_, rfl, _, rfl, .dic (DGet.k (k := .inl (j : Int)) (sm _ _ hk)) ⟨_, rfl, ?_⟩⟩
        have hfj := hfb j
        refine ite2 (fun h1 => ?_) (fun h1 => ?_)
        · have h1 : (!(valV kvs (.inl (j : Int))).isSome) = true := h1
          rw [hfj] at h1
          refine ⟨_, rfl, hacc, ?_, _, rfl, ?_, same_at sm hD0, hD0⟩
          · rw [natV_len]
            have h2 := List.length_filter_le (MG.freeB es left) (left.take i)
            rw [List.length_take] at h2
            exact small1000 (by omega)
          · rw [List.take_add_one, hj, List.filter_append]
            simp [natV, h1]
        · have h1 : ¬ (!(valV kvs (.inl (j : Int))).isSome) = true := h1
          rw [hfj] at h1
          refine ⟨hacc, _, rfl, ?_, sm, hD0⟩
          rw [List.take_add_one, hj, List.filter_append]
          simp [natV, h1]
      · rintro acc σ' H2 ⟨o, rfl, rfl, s2, hD0⟩ hacc
        rw [natV_len, List.take_of_length_le (Nat.le_refl _)] at hacc
        exact k D H2 (s1.trans s2) (same_free s1 hD0) hacc
end
end K18
namespace K18
open PySem L2
section
variable {P : Program} {w : World} {K : PySem.W.Frag} {mg : Str → Option Value} {base : Heap}
noncomputable def spDrawn (K : PySem.W.Frag) : Sp := fun vs H Q _ => ∃ (p a : Addr) (n : Nat) (t : Addr) (refs : List V) (es : List (Nat × Nat)), vs = [.ref p, .int (n : Int), .ref t] ∧ Pen K H p a ∧ H t = some (.lst refs) ∧ t ≠ p ∧ RepAll H refs (es.map tieD) ∧ es.length ≤ 900 ∧ (∀ e ∈ es, e.1 < n ∧ e.2 < n) ∧ n ≤ 60 ∧
  (∀ left : List Nat, left ≠ [] → MG.freeL es left = [] → ∀ H', PenV H' p a → But p H H' → Q .non H') ∧
  ∀ l ks H', ks.Perm (List.range n) → MG.Ord es ks → H' l = some (.lst (natV ks)) → H l = none → l ≠ p → PenV H' p a → But p H H' → Q (.ref l) H'
theorem scDrawn : FnScope ["_law_pen", "_law_size", "_law_ties_here", "_law_left", "_law_found", "_law_some", "_law_k"] ["_law_pen", "_law_size", "_law_ties_here"] (defScope sDrawn) := ⟨rfl, rfl, rfl, by decide +kernel, rfl, by decide +kernel, by decide +kernel⟩
theorem ok_drawn {f : Addr} {fd : FuncData} (F : Fun K "_law_drawn" "_law_drawn" sDrawn f fd) (B : Blt mg) (c_law_take : Cal P w K mg base 1 "_law_take" ["_law_pen", "_law_many"] (spDraw K)) (c_law_free : Cal P w K mg base 1 "_law_free" ["_law_left", "_law_ties_here"] spFree) : FnOk P w K mg base CX0 2 f fd ["_law_pen", "_law_size", "_law_ties_here"] (spDrawn K) := by
  refine F.ok scDrawn (fun vs H Q E h => ?_) (fun cdv A outer s H vs Q E hr h => ?_)
  · obtain ⟨p, a, n, t, refs, es, rfl, _⟩ := h
    rfl
  · obtain ⟨p, a, n, t, refs, es, rfl, hP, ht, htp, rp, hel, val, hn, k0, k⟩ := h
    have nd := scDrawn.nd
    have v0 := hP.2
    refine ⟨_, (pss_cons (ps_set (i := 3) nd rfl (Or.inl rfl) (b_list K rfl B (pa_cons (b_range B (pa_cons (pv 1) pa_nil)) pa_nil)))
      (pss_cons (ps_set (i := 4) nd rfl (Or.inl rfl) (pe_lst pa_nil))
      (pss_cons (ps_while PassesOwn.never (pt_cmpR (op_neX hr.units) (pv 3) (pe_lst pa_nil) (nomark _)) (pss_cons (ps_set (i := 5) nd rfl (Or.inl rfl) (pe_cal c_law_free (hr.mono (by decide)) rfl (pa_cons (pv 3) (pa_cons (pv 2) pa_nil))))
      (pss_cons (ps_if (pt_cmpR (op_eqX hr.units) (pv 5) (pe_lst pa_nil) (nomark _)) (pss_one (ps_ret pe_non)) pss_nil)
      (pss_cons (ps_set (i := 6) nd rfl (Or.inl rfl) (pe_ix (ix_X K hr.units) (pv 5) (pe_cal c_law_take (hr.mono (by decide)) rfl (pa_cons (pv 0) (pa_cons (b_len K B (pa_cons (pv 5) pa_nil)) pa_nil))) (fun _ _ => rfl)))
      (pss_cons (ps_expr (m_remove K (pv 3) (pa_cons (pv 6) pa_nil)))
      (pss_one (ps_expr (m_append K (pv 4) (pa_cons (pv 6) pa_nil)))))))))
      (pss_one (ps_ret (pv 4)))))), ?_⟩
    refine ⟨_, rfl, _, rfl, fun r hr1 => ⟨_, rfl, .rng upd_same (by omega) fun ll hll => ?_⟩⟩
    have e1 : upd (upd H r (.rng 0 (n : Nat))) ll (.lst (rngV n)) ll = some (.lst (natV (List.range n))) := by rw [upd_same, rng_nat]
    have v1 : PenV (upd (upd H r (.rng 0 (n : Nat))) ll (.lst (rngV n))) p a := penSame ((Same.new hr1).trans (Same.new hll)) v0
    have b1 : But p H (upd (upd H r (.rng 0 (n : Nat))) ll (.lst (rngV n))) := But.of_same ((Same.new hr1).trans (Same.new hll))
    have hlp : ll ≠ p := Ne.symm ((v0.upd (o := .rng 0 (n : Nat)) (v0.ne hr1)).ne hll)
    have hll0 : H ll = none := same_free (Same.new hr1) hll
    generalize upd (upd H r (.rng 0 (n : Nat))) ll (.lst (rngV n)) = H1 at e1 v1 b1 ⊢
    refine ⟨(by show 0 ≤ sizeLine; decide), fun lf hlf => ?_⟩
    have hpf := v1.ne hlf
    have hlf0 := b1.free (Ne.symm hpf) hlf
    have hlne : ll ≠ lf := ne_of_none e1 hlf
    refine ⟨fun m σ H' => ∃ left found o5 o6, m = left.length ∧ σ = [some (.ref p), some (.int (n : Int)), some (.ref t), some (.ref ll), some (.ref lf), o5, o6] ∧ H' ll = some (.lst (natV left)) ∧ H' lf = some (.lst (natV found)) ∧ MG.Drw es n left found ∧ PenV H' p a ∧ But p H H',
      ⟨_, List.range n, [], none, none, rfl, rfl, by rw [upd_ne hlne]; exact e1, upd_same, MG.Drw.start, v1.upd hpf, b1.at hlf0⟩, ?_⟩
    rintro m σ H2 ⟨left, found, o5, o6, rfl, rfl, hl2, hf2, dr, v2, b2⟩
    have dlen := dr.len
    refine ⟨_, rfl, (by show 0 ≤ sizeLine; decide), fun le hle => ?_⟩
    have se := Same.new (o := .lst []) hle
    refine .tr (nums_rep (se _ _ hl2)) (.lst upd_same .nil) (shp_nums left) (by rfl) ⟨_, rfl, ?_⟩
    have hl3 := se _ _ hl2
    have hf3 := se _ _ hf2
    have v3 : PenV _ p a := v2.upd (o := .lst []) (v2.ne hle)
    have b3 := b2.at (o := .lst []) (b2.free (Ne.symm (v2.ne hle)) hle)
    generalize upd H2 le (.lst []) = H3 at hl3 hf3 v3 b3 ⊢
    rw [eqv_nil_nums]
    refine ite2 (fun hc => ?_) (fun hc => ?_)
    · have hne : left ≠ [] := by simpa using hc
      have hpos : 0 < left.length := List.length_pos_iff.mpr hne
      refine ⟨fun σ' H' => ∃ left' found o5 o6, left'.length < left.length ∧ σ' = [some (.ref p), some (.int (n : Int)), some (.ref t), some (.ref ll), some (.ref lf), o5, o6] ∧ H' ll = some (.lst (natV left')) ∧ H' lf = some (.lst (natV found)) ∧ MG.Drw es n left' found ∧ PenV H' p a ∧ But p H H',
        fun σ' H' ⟨left', found, o5, o6, hlt, p⟩ => ⟨left'.length, hlt, left', found, o5, o6, rfl, p⟩, ?_⟩
      have ht3 := b3 _ _ htp ht
      obtain ⟨_, hpv⟩ := penAt v0
      have rp3 := RepAll.tieBut hpv b3 rp
      refine ⟨_, rfl, _, rfl, ll, t, left, refs, es, rfl, hl3, by omega, ht3, rp3, hel, fun ls H4 s4 hls0 hls => ?_⟩
      have v4 := penSame s4 v3
      have b4 := b3.trans (But.of_same s4)
      refine ⟨_, rfl, (by show 0 ≤ sizeLine; decide), fun le hle => ?_⟩
      have se := Same.new (o := .lst []) hle
      refine .tr (nums_rep (se _ _ hls)) (.lst upd_same .nil) (shp_nums _) (by rfl) ⟨_, rfl, ?_⟩
      have hl5 := se _ _ (s4 _ _ hl3)
      have hf5 := se _ _ (s4 _ _ hf3)
      have hls5 := se _ _ hls
      have v5 : PenV _ p a := v4.upd (o := .lst []) (v4.ne hle)
      have b5 := b4.at (o := .lst []) (b4.free (Ne.symm (v4.ne hle)) hle)
      have hlsp : ls ≠ p := fun z => by
        obtain ⟨_, _, e, _⟩ := v3
        rw [z, e] at hls0; cases hls0
      generalize upd H4 le (.lst []) = H5 at hl5 hf5 hls5 v5 b5 ⊢
      have e0 : (if false = true then !PyData.eqv (numsD (MG.freeL es left)) (.list []) else PyData.eqv (numsD (MG.freeL es left)) (.list [])) = decide (MG.freeL es left = []) := by rw [if_neg (by decide), eqv_nil_nums]
      rw [e0]
      refine ite2 (fun hz => ?_) (fun hz => ?_)
      · exact k0 left hne (of_decide_eq_true hz) H5 v5 b5
      · have hz : MG.freeL es left ≠ [] := fun q => hz (decide_eq_true q)
        have hfpos : 0 < (MG.freeL es left).length := List.length_pos_iff.mpr hz
        have hfle := List.length_filter_le (MG.freeB es left) left
        have hfle : (MG.freeL es left).length ≤ left.length := hfle
        have hnl := natV_len (MG.freeL es left)
        refine ⟨_, rfl, _, rfl, _, rfl, _, _, rfl, Or.inl ⟨_, .of hls5, rfl⟩, p, a, _, rfl, hP.but b5 v5, by omega, by omega, fun r H6 h0 h1 v6 e6 => ?_⟩
        obtain ⟨j, rfl⟩ := Int.eq_ofNat_of_zero_le h0
        have hj : j < (MG.freeL es left).length := by omega
        obtain ⟨kk, hkk⟩ : ∃ kk, (MG.freeL es left)[j]? = some kk := ⟨_, List.getElem?_eq_getElem hj⟩
        have hmem := List.mem_of_getElem? hkk
        have hml := (List.mem_filter.mp hmem).1
        have hl6 := (e6 ll hlp).trans hl5
        have hf6 := (e6 lf (Ne.symm hpf)).trans hf5
        refine .lst (.of ((e6 ls hlsp).trans hls5)) (nat_at? hkk) ?_
        have b6 := b5.trans (But.of_eq e6)
        have hl6' : H6 ll = some (.lst (List.map V.int (left.map fun x : Nat => (x : Int)))) := by rw [← natV_ints]; exact hl6
        refine ⟨_, rfl, .inl ⟨rfl, _, .of hl6⟩, _, rfl, ll, _, _, rfl, rfl, hl6', List.mem_map.mpr ⟨kk, hml, rfl⟩, ?_⟩
        rw [erase_nat, ← natV_ints]
        have hf7 : upd H6 ll (.lst (natV (left.erase kk))) lf = some (.lst (natV found)) := by rw [upd_ne (Ne.symm hlne)]; exact hf6
        refine ⟨_, rfl, .inl ⟨rfl, _, .of hf7⟩, _, rfl, lf, _, _, rfl, rfl, hf7, by rw [natV_len]; exact small1000 (by omega), ?_⟩
        have hle1 := List.length_erase_of_mem hml
        refine ⟨left.erase kk, found ++ [kk], _, _, by omega, rfl, ?_, ?_, dr.step val hmem, ?_, ?_⟩
        · rw [upd_ne hlne, upd_same]
        · rw [upd_same]; simp [natV]
        · exact (v6.upd (Ne.symm hlp)).upd hpf
        · exact (b6.at hll0).at hlf0
    · have hz : left = [] := by simpa using hc
      subst hz
      obtain ⟨q1, q2⟩ := dr.done
      exact ⟨_, rfl, k lf found H3 q1 q2 hf3 hlf0 (Ne.symm hpf) v3 b3⟩
end
end K18
namespace K18
open PySem L2
section
variable {P : Program} {w : World} {K : PySem.W.Frag} {mg : Str → Option Value} {base : Heap}
theorem scPlaces : FnScope ["things", "places", "place", "thing"] ["things"] (defScope sPlaces) := ⟨rfl, rfl, rfl, by decide +kernel, rfl, by decide +kernel, by decide +kernel⟩
theorem pair_get {H : Hp} {refs : List V} {ps : List (Str × Str)} (rp : RepAll H refs (ps.map pairD)) {j : Nat} {x : V} (hx : refs[j]? = some x) : ∃ e ta, ps[j]? = some e ∧ x = .ref ta ∧ H ta = some (.tup [.str e.1, .str e.2]) := by
  obtain ⟨d, hd, rd⟩ := rp.get hx
  rw [List.getElem?_map] at hd
  cases q : ps[j]? with
  | none => rw [q] at hd; cases hd
  | some e =>
    rw [q] at hd
    have hd : pairD e = d := Option.some.inj hd
    rw [← hd] at rd
    obtain ⟨ta, h1, h2⟩ := pair_at rd
    exact ⟨e, ta, rfl, h1, h2⟩
structure PlN (H H' : Hp) (d : Addr) (xs : List Str) (i : Nat) (kvs : List (Key × V)) : Prop where
  sm : Same H H'
  at_ : H' d = some (.dK kvs)
  len : kvs.length ≤ i
  inn : ∀ s, (valV kvs (.inr s)).isSome = true ↔ s ∈ xs.take i
  ix : ∀ s v, valV kvs (.inr s) = some v → ∃ j : Nat, v = .int j ∧ xs[j]? = some s
  nd : (kvs.map (·.1)).Nodup
  ks : ∀ k ∈ kvs.map (·.1), ∃ s ∈ xs, k = Sum.inr s
theorem map_putK {kvs : List (Key × V)} {k : Key} {v : V} (h : (valV kvs k).isSome = true) : (putK kvs k v).map (·.1) = kvs.map (·.1) := by
  unfold putK
  rw [if_pos (by rw [valV_any]; exact h), List.map_map]
  refine List.map_congr_left fun p _ => ?_
  show (if p.1 = k then (p.1, v) else p).1 = p.1
  split <;> rfl
theorem PlN.step {H H' : Hp} {d p : Addr} {xs : List Str} {i : Nat} {kvs : List (Key × V)} {t : Str} {o : HO} (h : PlN H H' d xs i kvs) (hd : H d = none) (hp : H' p = none) (ht : xs[i]? = some t) :
    PlN H (upd (upd H' p o) d (.dK (putK kvs (.inr t) (.int (i : Nat))))) d xs (i + 1) (putK kvs (.inr t) (.int (i : Nat))) := by
  refine ⟨?_, upd_same, ?_, ?_, ?_, ?_, ?_⟩
  · intro b o hb
    rw [upd_ne (ne_of_none hb hd)]
    exact Same.new hp _ _ (h.sm _ _ hb)
  · have := length_putK kvs (.inr t) (V.int (i : Nat))
    have := h.len
    omega
  · intro s
    rw [valV_put, List.take_add_one, ht, List.mem_append]
    by_cases q : s = t
    · subst q
      simp
    · rw [if_neg (fun z => q (Sum.inr.inj z)), h.inn s]
      simp [q]
  · intro s v e
    rw [valV_put] at e
    by_cases q : s = t
    · subst q
      rw [if_pos rfl] at e
      exact ⟨i, (Option.some.inj e).symm, ht⟩
    · rw [if_neg (fun z => q (Sum.inr.inj z))] at e
      exact h.ix s v e
  · cases q : valV kvs (.inr t) with
    | none => exact nd_putK _ h.nd q
    | some v => rw [map_putK (by rw [q]; rfl)]; exact h.nd
  · intro k hk
    cases q : valV kvs (.inr t) with
    | none =>
      rw [putK_new _ q, List.map_append] at hk
      rcases List.mem_append.mp hk with hk | hk
      · exact h.ks k hk
      · have : k = Sum.inr t := by simpa using hk
        exact ⟨t, List.mem_of_getElem? ht, this⟩
    | some v => rw [map_putK (by rw [q]; rfl)] at hk; exact h.ks k hk
theorem ok_placesX {f : Addr} {fd : FuncData} (F : Fun K "places_of" "places_of" sPlaces f fd) (B : Blt mg) : FnOk P w K mg base CX0 1 f fd ["things"] spPlacesX := by
  refine F.ok scPlaces (fun vs H Q E h => ?_) (fun cdv A outer s H vs Q E hr h => ?_)
  · obtain ⟨x, rfl, _⟩ := h
    rfl
  · obtain ⟨x, rfl, h⟩ := h
    have nd := scPlaces.nd
    cases h with
    | @nm a xs _ ha hl k =>
      refine ⟨_, (pss_cons (ps_set (i := 1) nd rfl (Or.inl rfl) pe_dnewK)
      (pss_cons (ps_for PassesOwn.never rfl (pi_enumX K rfl B.enumerate (pa_cons (pv 0) pa_nil)) (pg_tupK (n := 2) K rfl (pgs_cons (pg_name (i := 2) nd rfl (Or.inl rfl)) (pgs_cons (pg_name (i := 3) nd rfl (Or.inl rfl)) pgs_nil))) (pss_one (ps_asg (pv 2) (pg_sub (pv 1) (pv 3) (set_X hr.units)))))
      (pss_one (ps_ret (pv 1))))), ?_⟩
      intro d hd
      have s0 := Same.new (o := .dK []) hd
      have start : PlN H (upd H d (.dK [])) d xs 0 [] := ⟨s0, upd_same, Nat.le_refl _, (fun s => by simp [valV_nil]), (fun s v e => by cases e), List.nodup_nil, (fun k hk => by cases hk)⟩
      rcases ha with ha | ha
      · refine ⟨_, rfl, _, rfl, .lst (.of (s0 _ _ ha)) ?_⟩
        refine for_enum (xs := List.map V.str xs) (fun i σ H' => ∃ o1 o2 kvs, σ = [some (.ref a), some (.ref d), o1, o2] ∧ PlN H H' d xs i kvs) ?_ ?_ ?_ ?_
        · exact ⟨none, none, [], rfl, start⟩
        · rintro i σ H' hi ⟨o1, o2, kvs, rfl, pl⟩
          exact .of (pl.sm _ _ ha)
        · rintro i x σ H' p hx ⟨o1, o2, kvs, rfl, pl⟩ hp
          obtain ⟨t, ht, rfl⟩ := str_get hx
          have hil := (List.getElem?_eq_some_iff.mp ht).1
          have hdp : d ≠ p := ne_of_none pl.at_ hp
          have := pl.len
          refine ⟨p, _, rfl, .of upd_same, rfl, _, _, rfl, _, _, rfl, rfl, ?_⟩
          exact ⟨_, rfl, _, rfl, _, rfl, .dic (DPut.k (k := .inr t) (by rw [upd_ne hdp]; exact pl.at_) (small1000 (by omega))) ⟨_, _, _, rfl, pl.step hd hp ht⟩⟩
        · rintro σ H' ⟨o1, o2, kvs, rfl, pl⟩
          have hin := pl.inn
          rw [List.length_map, List.take_of_length_le (Nat.le_refl _)] at hin
          exact ⟨_, rfl, k d kvs H' pl.sm hd pl.at_ hin pl.ix pl.nd pl.ks⟩
      · refine ⟨_, rfl, _, rfl, .tup (.of (s0 _ _ ha)) ?_⟩
        refine for_enumT (xs := List.map V.str xs) (fun i σ H' => ∃ o1 o2 kvs, σ = [some (.ref a), some (.ref d), o1, o2] ∧ PlN H H' d xs i kvs) ?_ ?_ ?_ ?_
        · exact ⟨none, none, [], rfl, start⟩
        · rintro i σ H' hi ⟨o1, o2, kvs, rfl, pl⟩
          exact .of (pl.sm _ _ ha)
        · rintro i x σ H' p hx ⟨o1, o2, kvs, rfl, pl⟩ hp
          obtain ⟨t, ht, rfl⟩ := str_get hx
          have hil := (List.getElem?_eq_some_iff.mp ht).1
          have hdp : d ≠ p := ne_of_none pl.at_ hp
          have := pl.len
          refine ⟨p, _, rfl, .of upd_same, rfl, _, _, rfl, _, _, rfl, rfl, ?_⟩
          exact ⟨_, rfl, _, rfl, _, rfl, .dic (DPut.k (k := .inr t) (by rw [upd_ne hdp]; exact pl.at_) (small1000 (by omega))) ⟨_, _, _, rfl, pl.step hd hp ht⟩⟩
        · rintro σ H' ⟨o1, o2, kvs, rfl, pl⟩
          have hin := pl.inn
          rw [List.length_map, List.take_of_length_le (Nat.le_refl _)] at hin
          exact ⟨_, rfl, k d kvs H' pl.sm hd pl.at_ hin pl.ix pl.nd pl.ks⟩
    | @pr a refs ps _ ha rp hl k =>
      refine ⟨_, (pss_cons (ps_set (i := 1) nd rfl (Or.inl rfl) pe_dnewT)
      (pss_cons (ps_for PassesOwn.never rfl (pi_enumX K rfl B.enumerate (pa_cons (pv 0) pa_nil)) (pg_tupK (n := 2) K rfl (pgs_cons (pg_name (i := 2) nd rfl (Or.inl rfl)) (pgs_cons (pg_name (i := 3) nd rfl (Or.inl rfl)) pgs_nil))) (pss_one (ps_asg (pv 2) (pg_sub (pv 1) (pv 3) (set_X hr.units)))))
      (pss_one (ps_ret (pv 1))))), ?_⟩
      have rlen := rp.len
      rw [List.length_map] at rlen
      intro d hd
      have s0 := Same.new (o := .dT []) hd
      have turn : ∀ (i : Nat) (e : Str × Str) (ta p : Addr) (H' : Hp) (kvs : List (List Key × V)), Same H H' → H' d = some (.dT kvs) → kvs.length ≤ i → i < ps.length → (∀ f : Str × Str, (valV kvs (pK f)).isSome = true ↔ f ∈ ps.take i) → ps[i]? = some e → H' p = none →
          Same H (upd (upd H' p (.tup [.int (i : Nat), .ref ta])) d (.dT (putK kvs (pK e) (.int (i : Nat))))) ∧ (putK kvs (pK e) (V.int (i : Nat))).length ≤ i + 1 ∧ ∀ f : Str × Str, (valV (putK kvs (pK e) (V.int (i : Nat))) (pK f)).isSome = true ↔ f ∈ ps.take (i + 1) := by
        intro i e ta p H' kvs sm hk hkl hi hin he hp
        refine ⟨?_, ?_, fun f => ?_⟩
        · intro b o hb
          rw [upd_ne (ne_of_none hb hd)]
          exact Same.new hp _ _ (sm _ _ hb)
        · have := length_putK kvs (pK e) (V.int (i : Nat))
          omega
        · rw [valV_put, List.take_add_one, he, List.mem_append]
          by_cases q : f = e
          · subst q; simp
          · rw [if_neg (fun z => q (pK_inj z)), hin f]
            simp [q]
      rcases ha with ha | ha
      · refine ⟨_, rfl, _, rfl, .lst (.of (s0 _ _ ha)) ?_⟩
        refine for_enum (xs := refs) (fun i σ H' => ∃ o1 o2 kvs, σ = [some (.ref a), some (.ref d), o1, o2] ∧ Same H H' ∧ H' d = some (.dT kvs) ∧ kvs.length ≤ i ∧ ∀ f : Str × Str, (valV kvs (pK f)).isSome = true ↔ f ∈ ps.take i) ?_ ?_ ?_ ?_
        · exact ⟨none, none, [], rfl, s0, upd_same, Nat.le_refl _, fun s => by simp [valV_nil]⟩
        · rintro i σ H' hi ⟨o1, o2, kvs, rfl, sm, _⟩
          exact .of (sm _ _ ha)
        · rintro i x σ H' p hx ⟨o1, o2, kvs, rfl, sm, hk, hkl, hin⟩ hp
          obtain ⟨e, ta, he, rfl, hta⟩ := pair_get (rp.same sm) hx
          have hil := (List.getElem?_eq_some_iff.mp he).1
          have hdp : d ≠ p := ne_of_none hk hp
          obtain ⟨g1, g2, g3⟩ := turn i e ta p H' kvs sm hk hkl hil hin he hp
          refine ⟨p, _, rfl, .of upd_same, rfl, _, _, rfl, _, _, rfl, rfl, ?_⟩
          exact ⟨_, rfl, _, rfl, _, rfl, .dic (DPut.t (k := pK e) (by rw [upd_ne hdp]; exact hk) (Same.new hp _ _ hta) (small1000 (by omega))) ⟨_, _, _, rfl, g1, upd_same, g2, g3⟩⟩
        · rintro σ H' ⟨o1, o2, kvs, rfl, sm, hk, hkl, hin⟩
          rw [rlen, List.take_of_length_le (Nat.le_refl _)] at hin
          exact ⟨_, rfl, k d kvs H' sm hd hk hin⟩
      · refine ⟨_, rfl, _, rfl, .tup (.of (s0 _ _ ha)) ?_⟩
        refine for_enumT (xs := refs) (fun i σ H' => ∃ o1 o2 kvs, σ = [some (.ref a), some (.ref d), o1, o2] ∧ Same H H' ∧ H' d = some (.dT kvs) ∧ kvs.length ≤ i ∧ ∀ f : Str × Str, (valV kvs (pK f)).isSome = true ↔ f ∈ ps.take i) ?_ ?_ ?_ ?_
        · exact ⟨none, none, [], rfl, s0, upd_same, Nat.le_refl _, fun s => by simp [valV_nil]⟩
        · rintro i σ H' hi ⟨o1, o2, kvs, rfl, sm, _⟩
          exact .of (sm _ _ ha)
        · rintro i x σ H' p hx ⟨o1, o2, kvs, rfl, sm, hk, hkl, hin⟩ hp
          obtain ⟨e, ta, he, rfl, hta⟩ := pair_get (rp.same sm) hx
          have hil := (List.getElem?_eq_some_iff.mp he).1
          have hdp : d ≠ p := ne_of_none hk hp
          obtain ⟨g1, g2, g3⟩ := turn i e ta p H' kvs sm hk hkl hil hin he hp
          refine ⟨p, _, rfl, .of upd_same, rfl, _, _, rfl, _, _, rfl, rfl, ?_⟩
          exact ⟨_, rfl, _, rfl, _, rfl, .dic (DPut.t (k := pK e) (by rw [upd_ne hdp]; exact hk) (Same.new hp _ _ hta) (small1000 (by omega))) ⟨_, _, _, rfl, g1, upd_same, g2, g3⟩⟩
        · rintro σ H' ⟨o1, o2, kvs, rfl, sm, hk, hkl, hin⟩
          rw [rlen, List.take_of_length_le (Nat.le_refl _)] at hin
          exact ⟨_, rfl, k d kvs H' sm hd hk hin⟩
end
end K18
namespace K18
open PySem L2
section
variable {P : Program} {w : World} {K : PySem.W.Frag} {mg : Str → Option Value} {base : Heap}
theorem scIsName : FnScope ["thing"] ["thing"] (defScope sIsName) := ⟨rfl, rfl, rfl, by decide +kernel, rfl, by decide +kernel, by decide +kernel⟩
theorem ok_isname {f : Addr} {fd : FuncData} {tk : Tok} (F : Fun K "is_name" "is_name" sIsName f fd) (B : Blt mg) (T : mg "MOST_SIGNS" = some (.int 8 tk)) : FnOk P w K mg base CX0 1 f fd ["thing"] spIsName := by
  refine F.ok scIsName (fun vs H Q E h => ?_) (fun cdv A outer s H vs Q E hr h => ?_)
  · obtain ⟨x, rfl, _⟩ := h
    rfl
  · obtain ⟨x, rfl, hx, k⟩ := h
    have nd := scIsName.nd
    obtain ⟨t, ty, t1, _⟩ := ty_thg (K := K) hx
    refine ⟨_, (pss_cons (ps_if (pt_not (pt_val (b_isi K "str" B (pa_cons (pv 0) (pa_cons (g_str B) pa_nil))))) (pss_one (ps_ret pe_bl)) pss_nil)
      (pss_cons (ps_if (PW.pt (pw_or (pt_cmpR op_ltX (b_len K B (pa_cons (pv 0) pa_nil)) pe_int (nomark _)) (pw_or1 (pt_cmpR op_gt (b_len K B (pa_cons (pv 0) pa_nil)) (pe_glob (v := .int 8) rfl T ⟨_, rfl⟩) (nomark _))))) (pss_one (ps_ret pe_bl)) pss_nil)
      (pss_one (ps_ret (b_all rfl B (pa_cons (pe_comp (defScope sIsName) ["thing"] ["sign"] [] ["sign"] rfl (pi_str (pv 0)) (fun _ _ _ _ _ => (pg_name (i := 0) (show (["sign"] : List Str).Nodup by decide) rfl (Or.inl rfl))) (fun _ _ _ _ _ => pts_nil) (fun _ _ _ _ _ => (pe_chain op_leX op_leX pe_str (pv 0) pe_str))) pa_nil)))))), ?_⟩
    refine ⟨_, rfl, x, t, _, rfl, ty, t1, _, rfl, ?_⟩
    refine ite2 (fun hn => ?_) (fun hn => ?_)
    · have e : isNm x = false := by cases x <;> first | rfl | (simp [isS] at hn)
      have q := k H (Same.refl H)
      rw [e] at q
      exact q
    · obtain ⟨z, rfl⟩ : ∃ z, x = .str z := by cases x <;> first | exact ⟨_, rfl⟩ | (simp [isS] at hn)
      have hzz : z.length ≤ sizeLine := by
        cases hx with
        | str h => exact h
      refine ⟨_, rfl, _, _, rfl, ⟨hzz, rfl⟩, .int ⟨_, rfl, ?_⟩⟩
      refine ite2 (fun h1 => ?_) (fun h1 => ?_)
      · refine iteT ?_
        have q := k H (Same.refl H)
        have h1 : (z.length : Int) < 1 := of_decide_eq_true h1
        have e : isNm (.str z) = false := by
          show (decide (1 ≤ z.length) && _) = false
          rw [decide_eq_false (by omega)]; rfl
        rw [e] at q
        exact q
      · have h1 : ¬ (z.length : Int) < 1 := of_decide_eq_false (by simpa using h1)
        refine ⟨_, rfl, _, _, rfl, ⟨hzz, rfl⟩, _, _, rfl, rfl, _, rfl, ?_⟩
        refine ite2 (fun h2 => ?_) (fun h2 => ?_)
        · have q := k H (Same.refl H)
          have h2 : (8 : Int) < z.length := of_decide_eq_true h2
          have e : isNm (.str z) = false := by
            show (decide (1 ≤ z.length) && (decide (z.length ≤ 8) && _)) = false
            rw [decide_eq_false (show ¬ z.length ≤ 8 by omega), Bool.false_and, Bool.and_false]
          rw [e] at q
          exact q
        · have h2 : ¬ (8 : Int) < z.length := of_decide_eq_false (by simpa using h2)
          have e : isNm (.str z) = z.cps.toList.all isLow := by
            show (decide (1 ≤ z.length) && (decide (z.length ≤ 8) && _)) = _
            rw [decide_eq_true (show 1 ≤ z.length by omega), decide_eq_true (show z.length ≤ 8 by omega), Bool.true_and, Bool.true_and]
          refine ⟨_, rfl, z, rfl, ?_⟩
          refine comp_str (fun D i acc σ' H' => ∃ o, σ' = [o] ∧ acc = (z.cps.toList.take i).map (fun c => V.bl (isLow c)) ∧ Same H H' ∧ H D = none) fun D hD => ⟨⟨none, rfl, rfl, Same.new hD, hD⟩, ?_, ?_⟩
          · rintro i acc σ' H' c hc ⟨o, rfl, rfl, sm, hD0⟩ hacc
            refine gYes ?_
            have sg : ∀ b : Bool, b = isLow c → (H' D = some (.lst ((z.cps.toList.take i).map (fun c => V.bl (isLow c)))) ∧ ((z.cps.toList.take i).map (fun c => V.bl (isLow c))).length < sizeLine ∧
                (∃ o, [some (V.str ⟨#[c]⟩)] = [o] ∧ (z.cps.toList.take i).map (fun c => V.bl (isLow c)) ++ [V.bl b] = (z.cps.toList.take (i + 1)).map (fun c => V.bl (isLow c)) ∧ Same H (upd H' D (.lst ((z.cps.toList.take i).map (fun c => V.bl (isLow c)) ++ [V.bl b]))) ∧ H D = none)) := fun b hb => by
              refine ⟨hacc, ?_, _, rfl, ?_, ?_, hD0⟩
              · rw [List.length_map]
                refine small1000 ?_
                have := List.length_take_le' i z.cps.toList
                have h2' : z.length ≤ 8 := by omega
                have hl : z.cps.toList.length = z.length := by simp [Str.length]
                omega
              · rw [List.take_add_one, hc, List.map_append, hb]; rfl
              · intro b' o' e'
                rw [upd_ne (ne_of_none e' hD0)]
                exact sm b' o' e'
            refine ⟨_, rfl, .str ⟨_, rfl, ?_⟩⟩
            have e1 : (!decide ((⟨#[c]⟩ : Str).cps.toList < ("a" : Str).cps.toList)) = decide (97 ≤ c) := by
              show (!decide ([c] < [97])) = _
              rw [lt_one]
              by_cases hh : c < 97
              · rw [decide_eq_true hh, decide_eq_false (by omega)]; rfl
              · rw [decide_eq_false hh, decide_eq_true (by omega)]; rfl
            have e2 : (!decide (("z" : Str).cps.toList < (⟨#[c]⟩ : Str).cps.toList)) = decide (c ≤ 122) := by
              show (!decide ([122] < [c])) = _
              rw [lt_one]
              by_cases hh : 122 < c
              · rw [decide_eq_true hh, decide_eq_false (by omega)]; rfl
              · rw [decide_eq_false hh, decide_eq_true (by omega)]; rfl
            rw [e1]
            refine ite2 (fun h3 => ?_) (fun h3 => ?_)
            · refine .str (sg _ ?_)
              rw [e2]
              unfold isLow
              rw [h3, Bool.true_and]
            · refine sg false ?_
              unfold isLow
              have h3 : decide (97 ≤ c) = false := by simpa using h3
              rw [h3, Bool.false_and]
          · rintro acc σ' H' ⟨o, rfl, rfl, sm, hD0⟩ hacc
            rw [List.take_of_length_le (Nat.le_refl _)] at hacc
            refine ⟨D, z.cps.toList.map isLow, rfl, by rw [List.map_map]; exact hacc, ?_⟩
            have q := k H' sm
            rw [e] at q
            have e4 : (z.cps.toList.map isLow).all id = z.cps.toList.all isLow := by rw [List.all_map]; rfl
            rw [e4]
            exact q
end
end K18
namespace K18
open PySem L2
section
variable {P : Program} {w : World} {K : PySem.W.Frag} {mg : Str → Option Value} {base : Heap}
noncomputable def spLists : Sp := fun vs H Q _ => ∃ q ss ts x, vs = [q, x] ∧ Web H q ss ts ∧ Thg H x ∧ (∀ a xs, x = .ref a → H a = some (.lst xs) → xs.length ≤ 1000 ∧ ∀ v ∈ xs, Thg H v) ∧ ∀ H', Same H H' → Q (.bl (lstB H ss x)) H'
theorem scLists : FnScope ["web", "thing", "places"] ["web", "thing"] (defScope sLists) := ⟨rfl, rfl, rfl, by decide +kernel, rfl, by decide +kernel, by decide +kernel⟩
theorem ok_lists {f : Addr} {fd : FuncData} (F : Fun K "lists_things" "lists_things" sLists f fd) (B : Blt mg) (cplaces_of : Cal P w K mg base 1 "places_of" ["things"] spPlacesX) (cis_name : Cal P w K mg base 1 "is_name" ["thing"] spIsName) : FnOk P w K mg base CX0 2 f fd ["web", "thing"] spLists := by
  refine F.ok scLists (fun vs H Q E h => ?_) (fun cdv A outer s H vs Q E hr h => ?_)
  · obtain ⟨q, ss, ts, x, rfl, _⟩ := h
    rfl
  · obtain ⟨q, ss, ts, x, rfl, W, tx, hxs, k⟩ := h
    have nd := scLists.nd
    obtain ⟨t, ty, _, _, _, t4, _⟩ := ty_thg (K := K) tx
    refine ⟨_, (pss_cons (ps_if (pt_not (pt_val (b_isi K "list" B (pa_cons (pv 1) (pa_cons (g_list B) pa_nil))))) (pss_one (ps_ret pe_bl)) pss_nil)
      (pss_cons (ps_set (i := 2) nd rfl (Or.inr rfl) (pe_cal cplaces_of (hr.mono (by decide)) rfl (pa_cons (pe_ix (ix_X K hr.units) (pv 0) pe_int (fun _ _ => rfl)) pa_nil)))
      (pss_one (ps_ret (b_all rfl B (pa_cons (pe_comp (defScope sLists) ["web", "thing", "places"] ["part"] [2] ["part", "places"] rfl (pi_listK K (pv 1)) (fun _ _ _ _ _ => (pg_name (i := 0) (show (["part", "places"] : List Str).Nodup by decide) rfl (Or.inl rfl))) (fun _ _ _ _ _ => pts_nil) (fun _ _ _ _ _ => (pe_and (pe_cal cis_name (hr.mono (by decide)) rfl (pa_cons (pv 0) pa_nil)) (pe_one (pe_cmpR (op_inX K hr.units) (pv 0) (pv 1) (by with_unfolding_all rfl)))))) pa_nil)))))), ?_⟩
    refine ⟨_, rfl, x, t, _, rfl, ty, t4, _, rfl, ?_⟩
    refine ite2 (fun hn => ?_) (fun hn => ?_)
    · have hn : isL H x = false := by simpa using hn
      have q := k H (Same.refl H)
      rw [lstB_not hn] at q
      exact q
    · have hn : isL H x = true := by simpa using hn
      obtain ⟨b, xs, rfl, hb⟩ := isL_inv hn
      obtain ⟨hxl, hxt⟩ := hxs b xs rfl hb
      rw [lstB_lst hb] at k
      obtain ⟨q, a, c, ws, rfl, hq, ha, hc, rp⟩ := web_at W.rep
      have h60 := W.len
      refine ⟨_, rfl, .tup (.of hq) rfl ⟨_, rfl, .nm (.inr ha) (by omega) fun d kvs H1 s1 hd0 hd hin hat _ _ => ?_⟩⟩
      refine ⟨_, rfl, b, rfl, ⟨_, .of (s1 _ _ hb)⟩, ?_⟩
      refine comp_list xs (fun D i acc σ' H' => ∃ o, σ' = [o, some (.ref d)] ∧ acc = (xs.take i).map (fun v => V.bl (inSS ss v)) ∧ Same H1 H' ∧ H1 D = none) fun D hD => ⟨?_, ?_, ?_, ?_⟩
      · exact ⟨none, rfl, rfl, Same.new hD, hD⟩
      · rintro i acc σ' H' _ ⟨o, rfl, _, sm, _⟩ _
        exact .of (sm _ _ (s1 _ _ hb))
      · rintro i acc σ' H' x hx ⟨o, rfl, rfl, sm, hD0⟩ hacc
        have hil := (List.getElem?_eq_some_iff.mp hx).1
        have tx := ((hxt x (List.mem_of_getElem? hx)).same s1).same sm
        refine gYes ?_
        refine ⟨_, rfl, x, rfl, tx, fun H2 s2 => ⟨_, rfl, ?_⟩⟩
        have fin : ∀ b : Bool, b = inSS ss x → H2 D = some (.lst ((xs.take i).map fun v => V.bl (inSS ss v))) ∧ ((xs.take i).map fun v => V.bl (inSS ss v)).length < sizeLine ∧
            ∃ o, [some x, some (V.ref d)] = [o, some (.ref d)] ∧ ((xs.take i).map fun v => V.bl (inSS ss v)) ++ [V.bl b] = (xs.take (i + 1)).map (fun v => V.bl (inSS ss v)) ∧ Same H1 (upd H2 D (.lst (((xs.take i).map fun v => V.bl (inSS ss v)) ++ [V.bl b]))) ∧ H1 D = none := fun b hb => by
          refine ⟨s2 _ _ hacc, ?_, _, rfl, ?_, same_at (sm.trans s2) hD0, hD0⟩
          · rw [List.length_map, List.length_take]; exact small1000 (by omega)
          · rw [List.take_add_one, hx, List.map_append, hb]; rfl
        refine ite2 (fun h1 => ?_) (fun h1 => ?_)
        · cases x with
          | str z =>
            refine ⟨_, rfl, _, rfl, .dic (DGet.k (k := .inr z) (s2 _ _ (sm _ _ hd))) ?_⟩
            refine fin _ ?_
            show (valV kvs (.inr z)).isSome = decide (z ∈ ss)
            rw [Bool.eq_iff_iff, hin z, decide_eq_true_iff]
          | _ => cases h1
        · refine fin false ?_
          cases x with
          | str z =>
            show false = decide (z ∈ ss)
            rw [decide_eq_false]
            intro hz
            exact h1 (isNm_iff.mpr (W.nm z hz))
          | _ => rfl
      · rintro acc σ' H2 ⟨o, rfl, rfl, s2, hD0⟩ hacc
        rw [List.take_of_length_le (Nat.le_refl _)] at hacc
        refine ⟨D, xs.map (inSS ss), rfl, by rw [List.map_map]; exact hacc, ?_⟩
        have e4 : (xs.map (inSS ss)).all id = xs.all (inSS ss) := by rw [List.all_map]; rfl
        rw [e4]
        exact k H2 (s1.trans s2)
end
end K18
namespace K18
open PySem L2
section
variable {P : Program} {w : World} {K : PySem.W.Frag} {mg : Str → Option Value} {base : Heap}
noncomputable def strsOf : List V → List Str
  | [] => []
  | .str s :: r => s :: strsOf r
  | _ :: r => strsOf r
theorem strsOf_map : ∀ ws : List Str, strsOf (List.map V.str ws) = ws
  | [] => rfl
  | w :: ws => by show w :: strsOf (List.map V.str ws) = _; rw [strsOf_map ws]
noncomputable def ordL (ss : List Str) (ts : List (Str × Str)) (xs : List V) : Bool :=
  xs.all (inSS ss) && (decide (xs.length = ss.length) && (decide (strsOf xs).Nodup && ts.all fun e => decide (MG.ix (strsOf xs) e.1 < MG.ix (strsOf xs) e.2)))
noncomputable def ordB (H : Hp) (ss : List Str) (ts : List (Str × Str)) : V → Bool
  | .ref a => match H a with
    | some (.lst xs) => ordL ss ts xs
    | _ => false
  | _ => false
theorem ordB_lst {H : Hp} {ss : List Str} {ts : List (Str × Str)} {a : Addr} {xs : List V} (h : H a = some (.lst xs)) : ordB H ss ts (.ref a) = ordL ss ts xs := by
  show (match H a with | some (.lst xs) => ordL ss ts xs | _ => false) = _
  rw [h]
theorem ordB_not {H : Hp} {ss : List Str} {ts : List (Str × Str)} {x : V} (h : isL H x = false) : ordB H ss ts x = false := by
  cases x with
  | ref a =>
    show (match H a with | some (.lst xs) => ordL ss ts xs | _ => false) = false
    split
    · rename_i xs e
      rw [isL_of e] at h; cases h
    · rfl
  | _ => rfl
theorem perm_of : ∀ {ws ss : List Str}, ws.Nodup → ws.length = ss.length → (∀ w ∈ ws, w ∈ ss) → ws.Perm ss
  | [], ss, _, hl, _ => by
    have : ss = [] := List.length_eq_zero_iff.mp hl.symm
    rw [this]
  | w :: r, ss, nd, hl, hm => by
    obtain ⟨h1, h2⟩ := List.nodup_cons.mp nd
    have hw := hm w (by simp)
    have p := List.perm_cons_erase hw
    have pl := p.length_eq
    rw [List.length_cons] at pl hl
    have ih := perm_of (ws := r) (ss := ss.erase w) h2 (by omega) fun x hx => (List.mem_erase_of_ne (fun z : x = w => h1 (z ▸ hx))).mpr (hm x (List.mem_cons_of_mem _ hx))
    exact (List.Perm.cons w ih).trans p.symm
noncomputable def spIsOrder : Sp := fun vs H Q _ => ∃ q ss ts x, vs = [.ref q, x] ∧ Web H (.ref q) ss ts ∧ Thg H x ∧ (∀ a xs, x = .ref a → H a = some (.lst xs) → xs.length ≤ 1000 ∧ ∀ v ∈ xs, Thg H v) ∧ ∀ H', Same H H' → Q (.bl (ordB H ss ts x)) H'
theorem scIsOrder : FnScope ["web", "thing", "places"] ["web", "thing"] (defScope sIsOrder) := ⟨rfl, rfl, rfl, by decide +kernel, rfl, by decide +kernel, by decide +kernel⟩
theorem ok_is_order {f : Addr} {fd : FuncData} (F : Fun K "is_order" "is_order" sIsOrder f fd) (B : Blt mg) (cplaces_of : Cal P w K mg base 1 "places_of" ["things"] spPlacesX) (clists_things : Cal P w K mg base 2 "lists_things" ["web", "thing"] spLists) : FnOk P w K mg base CX0 3 f fd ["web", "thing"] spIsOrder := by
  refine F.ok scIsOrder (fun vs H Q E h => ?_) (fun cdv A outer s H vs Q E hr h => ?_)
  · obtain ⟨q, ss, ts, x, rfl, _⟩ := h
    rfl
  · obtain ⟨q, ss, ts, x, rfl, W, tx, hxs, k⟩ := h
    have nd := scIsOrder.nd
    refine ⟨_, (pss_cons (ps_if (pt_not (pt_val (pe_cal clists_things (hr.mono (by decide)) rfl (pa_cons (pv 0) (pa_cons (pv 1) pa_nil))))) (pss_one (ps_ret pe_bl)) pss_nil)
      (pss_cons (ps_set (i := 2) nd rfl (Or.inr rfl) (pe_cal cplaces_of (hr.mono (by decide)) rfl (pa_cons (pv 1) pa_nil)))
      (pss_cons (ps_if (PW.pt (pw_or (pt_cmpR (op_neX hr.units) (b_len K B (pa_cons (pv 1) pa_nil)) (b_len K B (pa_cons (pe_ix (ix_X K hr.units) (pv 0) pe_int (fun _ _ => rfl)) pa_nil)) (nomark _)) (pw_or1 (pt_cmpR (op_neX hr.units) (b_lenD B (pa_cons (pv 2) pa_nil)) (b_len K B (pa_cons (pe_ix (ix_X K hr.units) (pv 0) pe_int (fun _ _ => rfl)) pa_nil)) (nomark _))))) (pss_one (ps_ret pe_bl)) pss_nil)
      (pss_one (ps_ret (b_all rfl B (pa_cons (pe_comp (defScope sIsOrder) ["web", "thing", "places"] ["tie"] [2] ["tie", "places"] rfl (pi_tupK K (pe_ix (ix_X K hr.units) (pv 0) pe_int (fun _ _ => rfl))) (fun _ _ _ _ _ => (pg_name (i := 0) (show (["tie", "places"] : List Str).Nodup by decide) rfl (Or.inl rfl))) (fun _ _ _ _ _ => pts_nil) (fun _ _ _ _ _ => (pe_cmpR op_ltX (pe_ix (ix_X K hr.units) (pv 1) (pe_ix (ix_X K hr.units) (pv 0) pe_int (fun _ _ => rfl)) (fun _ _ => rfl)) (pe_ix (ix_X K hr.units) (pv 1) (pe_ix (ix_X K hr.units) (pv 0) pe_int (fun _ _ => rfl)) (fun _ _ => rfl)) (nomark _)))) pa_nil))))))), ?_⟩
    refine ⟨_, rfl, _, rfl, .ref q, ss, ts, x, rfl, W, tx, hxs, fun H1 s1 => ⟨_, rfl, ?_⟩⟩
    cases hl : lstB H ss x with
    | false =>
      refine iteT ?_
      have z := k H1 s1
      have e : ordB H ss ts x = false := by
        cases q : isL H x with
        | false => exact ordB_not q
        | true =>
          obtain ⟨b, xs, rfl, hb⟩ := isL_inv q
          rw [lstB_lst hb] at hl
          rw [ordB_lst hb]
          unfold ordL
          rw [hl]; rfl
      rw [e] at z
      exact z
    | true =>
      refine iteF ?_
      have hil : isL H x = true := by
        cases q : isL H x with
        | false => rw [lstB_not q] at hl; cases hl
        | true => rfl
      obtain ⟨b, xs, rfl, hb⟩ := isL_inv hil
      rw [lstB_lst hb] at hl
      obtain ⟨hxl, _⟩ := hxs b xs rfl hb
      obtain ⟨ws, rfl, hws⟩ := all_inSS hl
      rw [List.length_map] at hxl
      have ordE : ordB H ss ts (.ref b) = (decide (ws.length = ss.length) && (decide ws.Nodup && ts.all fun e => decide (MG.ix ws e.1 < MG.ix ws e.2))) := by
        rw [ordB_lst hb]
        unfold ordL
        rw [hl, strsOf_map, List.length_map]
        rfl
      rw [ordE] at k
      obtain ⟨q', a, c, refs, e0, hq, ha, hc, rp⟩ := web_at W.rep
      cases e0
      have rlen := rp.len
      rw [List.length_map] at rlen
      refine ⟨_, rfl, _, rfl, .nm (.inl (s1 _ _ hb)) hxl fun d kvs H2 s2 hd0 hd hin hat knd kks => ?_⟩
      have hlen := len_kvs knd kks hin
      have s12 := s1.trans s2
      have z2 := k H2 s12
      refine ⟨_, rfl, _, _, rfl, Or.inl ⟨_, .of (s12 _ _ hb), rfl⟩, _, rfl, .tup (.of (s12 _ _ hq)) rfl ⟨_, _, rfl, Or.inr ⟨_, .of (s12 _ _ ha), rfl⟩, .sc rfl ⟨_, rfl, ?_⟩⟩⟩
      have hl1 : (List.map V.str ws).length = ws.length := List.length_map ..
      have hl2 : (List.map V.str ss).length = ss.length := List.length_map ..
      rw [hl1, hl2]
      refine ite2 (fun h1 => ?_) (fun h1 => ?_)
      · have h1 : (!decide (V.int (ws.length : Nat) = V.int (ss.length : Nat))) = true := h1
        have hne : ¬ ws.length = ss.length := fun z => by rw [z, decide_eq_true rfl] at h1; cases h1
        refine iteT ?_
        rw [decide_eq_false hne] at z2
        exact z2
      · have h1 : ¬ (!decide (V.int (ws.length : Nat) = V.int (ss.length : Nat))) = true := h1
        have hle : ws.length = ss.length := Classical.byContradiction fun z => h1 (by rw [decide_eq_false (fun y => z (by have := V.int.inj y; omega))]; rfl)
        rw [decide_eq_true hle, Bool.true_and] at k
        have z2 := k H2 s12
        refine ⟨_, rfl, d, kvs, rfl, hd, _, rfl, .tup (.of (s12 _ _ hq)) rfl ⟨_, _, rfl, Or.inr ⟨_, .of (s12 _ _ ha), rfl⟩, .sc rfl ⟨_, rfl, ?_⟩⟩⟩
        rw [hl2]
        refine ite2 (fun h2 => ?_) (fun h2 => ?_)
        · have h2 : (!decide (V.int (kvs.length : Nat) = V.int (ss.length : Nat))) = true := h2
          have hne : ¬ ws.Nodup := fun z => by
            have := hlen.mpr z
            rw [this, hle, decide_eq_true rfl] at h2; cases h2
          rw [decide_eq_false hne] at z2
          exact z2
        · have h2 : ¬ (!decide (V.int (kvs.length : Nat) = V.int (ss.length : Nat))) = true := h2
          have hk : kvs.length = ss.length := Classical.byContradiction fun z => h2 (by rw [decide_eq_false (fun y => z (by have := V.int.inj y; omega))]; rfl)
          have wnd : ws.Nodup := hlen.mp (hk.trans hle.symm)
          have pm := perm_of wnd hle hws
          rw [decide_eq_true wnd, Bool.true_and] at k
          have few := W.few
          have at_ : ∀ z, z ∈ ss → valV kvs (.inr z) = some (.int ((MG.ix ws z : Nat) : Int)) := fun z hz => by
            obtain ⟨v, hv⟩ := Option.isSome_iff_exists.mp ((hin z).mpr (pm.mem_iff.mpr hz))
            obtain ⟨j, rfl, hj⟩ := hat z v hv
            rw [hv, MG.ix_at wnd hj]
          refine ⟨_, rfl, .tup (.of (s12 _ _ hq)) rfl ⟨_, rfl, ⟨_, .of (s12 _ _ hc)⟩, ?_⟩⟩
          refine comp_tup refs (fun D i acc σ' H' => ∃ o, σ' = [o, some (.ref d)] ∧ acc = (ts.take i).map (fun e => V.bl (decide (MG.ix ws e.1 < MG.ix ws e.2))) ∧ Same H2 H' ∧ H2 D = none) fun D hD => ⟨?_, ?_, ?_, ?_⟩
          · exact ⟨none, rfl, rfl, Same.new hD, hD⟩
          · rintro i acc σ' H' _ ⟨o, rfl, _, sm, _⟩ _
            exact .of (sm _ _ (s12 _ _ hc))
          · rintro i acc σ' H' x hx ⟨o, rfl, rfl, sm, hD0⟩ hacc
            obtain ⟨e, ta, he, rfl, hta⟩ := pair_get ((rp.same s12).same sm) hx
            have hil := (List.getElem?_eq_some_iff.mp he).1
            have hin2 := W.inn e (List.mem_of_getElem? he)
            refine gYes ?_
            refine ⟨_, rfl, _, rfl, .tup (.of hta) rfl (.dic (.inl ⟨kvs, .inr e.1, .inl (sm _ _ hd), rfl, (at_ e.1 hin2.1).symm⟩) ⟨_, rfl, _, rfl, .tup (.of hta) rfl (.dic (.inl ⟨kvs, .inr e.2, .inl (sm _ _ hd), rfl, (at_ e.2 hin2.2).symm⟩) (.int ⟨hacc, by rw [List.length_map, List.length_take]; exact small1000 (by omega), _, rfl, ?_, same_at sm hD0, hD0⟩))⟩)⟩
            rw [List.take_add_one, he, List.map_append]
            show _ ++ [V.bl (decide (((MG.ix ws e.1 : Nat) : Int) < ((MG.ix ws e.2 : Nat) : Int)))] = _ ++ [V.bl (decide (MG.ix ws e.1 < MG.ix ws e.2))]
            have : decide (((MG.ix ws e.1 : Nat) : Int) < ((MG.ix ws e.2 : Nat) : Int)) = decide (MG.ix ws e.1 < MG.ix ws e.2) := by
              rw [Bool.eq_iff_iff, decide_eq_true_iff, decide_eq_true_iff]
              omega
            rw [this]
          · rintro acc σ' H3 ⟨o, rfl, rfl, s3, hD0⟩ hacc
            rw [rlen, List.take_of_length_le (Nat.le_refl _)] at hacc
            refine ⟨D, ts.map (fun e => decide (MG.ix ws e.1 < MG.ix ws e.2)), rfl, by rw [List.map_map]; exact hacc, ?_⟩
            have e4 : (ts.map (fun e => decide (MG.ix ws e.1 < MG.ix ws e.2))).all id = ts.all fun e => decide (MG.ix ws e.1 < MG.ix ws e.2) := by rw [List.all_map]; rfl
            rw [e4]
            exact k H3 (s12.trans s3)
end
end K18
namespace K18
open PySem L2
section
variable {P : Program} {w : World} {K : PySem.W.Frag} {mg : Str → Option Value} {base : Heap}
noncomputable def spExch : Sp := fun vs H Q _ => ∃ (r : Addr) (k : Nat) (xs : List V), vs = [.ref r, .int (k : Int)] ∧ H r = some (.lst xs) ∧ k + 1 < xs.length ∧ xs.length ≤ 1000 ∧ ∀ l H', Same H H' → H l = none → H' l = some (.lst (MG.exch xs k)) → Q (.ref l) H'
theorem scExch : FnScope ["row", "number"] ["row", "number"] (defScope sExch) := ⟨rfl, rfl, rfl, by decide +kernel, rfl, by decide +kernel, by decide +kernel⟩
theorem ok_exch {f : Addr} {fd : FuncData} (F : Fun K "exchanged" "exchanged" sExch f fd) (B : Blt mg) : FnOk P w K mg base CX0 1 f fd ["row", "number"] spExch := by
  refine F.ok scExch (fun vs H Q E h => ?_) (fun cdv A outer s H vs Q E hr h => ?_)
  · obtain ⟨r, k, xs, rfl, _⟩ := h
    rfl
  · obtain ⟨r, k, xs, rfl, hr0, hk, hl, kk⟩ := h
    have nd := scExch.nd
    refine ⟨_, (pss_one (ps_ret (pe_op op_addX (pe_op op_addX (pe_slice (sl_K K) (pv 0) po_none (po_some (pv 1))) (pe_lst (pa_cons (pe_ix (ix_X K hr.units) (pv 0) (pe_op op_addX (pv 1) pe_int) (fun _ _ => rfl)) (pa_cons (pe_ix (ix_X K hr.units) (pv 0) (pv 1) (fun _ _ => rfl)) pa_nil)))) (pe_slice (sl_K K) (pv 0) (po_some (pe_op op_addX (pv 1) pe_int)) po_none)))), ?_⟩
    obtain ⟨x, hx⟩ : ∃ x, xs[k]? = some x := ⟨_, List.getElem?_eq_getElem (by omega)⟩
    obtain ⟨y, hy⟩ : ∃ y, xs[k + 1]? = some y := ⟨_, List.getElem?_eq_getElem hk⟩
    have sz : 1000 < sizeLine := by decide
    refine ⟨_, rfl, _, rfl, _, rfl, .lst (.of hr0) fun l1 h1 => ?_⟩
    rw [cutV_to xs k (by omega)]
    have s1 := Same.new (o := .lst (xs.take k)) h1
    have e1 : upd H l1 (.lst (xs.take k)) l1 = some (.lst (xs.take k)) := upd_same
    generalize upd H l1 (.lst (xs.take k)) = H1 at s1 e1 ⊢
    refine ⟨_, rfl, _, rfl, .int (.lst (.of (s1 _ _ hr0)) (show atI xs ((k : Int) + 1) = some y from by
      rw [show (k : Int) + 1 = ((k + 1 : Nat) : Int) by omega]; exact atI_nat hy) ⟨_, rfl, _, rfl, .lst (.of (s1 _ _ hr0)) (atI_nat hx) ⟨(by show 2 ≤ sizeLine; decide), fun l2 h2 => ?_⟩⟩)⟩
    have s2 := Same.new (o := .lst [y, x]) h2
    refine .lst (s2 _ _ e1) upd_same (by rw [List.length_take]; show _ + 2 ≤ _; omega) fun l3 h3 => ?_
    have s3 := Same.new (o := .lst (xs.take k ++ [y, x])) h3
    have e3 : upd (upd H1 l2 (.lst [y, x])) l3 (.lst (xs.take k ++ [y, x])) l3 = some (.lst (xs.take k ++ [y, x])) := upd_same
    have sA := s1.trans (s2.trans s3)
    generalize upd (upd H1 l2 (.lst [y, x])) l3 (.lst (xs.take k ++ [y, x])) = H3 at sA e3 ⊢
    refine ⟨_, rfl, _, rfl, .int ⟨_, rfl, .lst (.of (sA _ _ hr0)) fun l4 h4 => ?_⟩⟩
    rw [show (k : Int) + 2 = ((k + 2 : Nat) : Int) by omega, cutV_from]
    have s4 := Same.new (o := .lst (xs.drop (k + 2))) h4
    refine .lst (s4 _ _ e3) upd_same (by simp only [List.length_append, List.length_take, List.length_drop]; show _ + 2 + _ ≤ _; omega) fun l5 h5 => ?_
    have s5 := Same.new (o := .lst (xs.take k ++ [y, x] ++ xs.drop (k + 2))) h5
    refine kk l5 _ (sA.trans (s4.trans s5)) (same_free (sA.trans s4) h5) ?_
    rw [MG.exch_at hx hy]; exact upd_same
end
end K18
namespace K18
open PySem L2
section
variable {P : Program} {w : World} {K : PySem.W.Frag} {mg : Str → Option Value} {base : Heap}
noncomputable abbrev excL : List Str := ["OrderError", "NoWeb", "NoText", "Ring", "NoOrder", "NoWeights", "NoHouse", "NoDeed", "NoUnit", "Twice", "Within", "NoTie", "Full", "Apart", "NoWant", "TooMany", "NoUndo", "NoRedo", "Clash", "NoRow"]
noncomputable abbrev excC : List Str := ["OrderError", "NoOrder"]
noncomputable def spOthers (ec : Str → Addr) : Sp := fun vs H Q _ => ∃ a : Addr, vs = [.ref a] ∧ H a = some (xObj a (ec "NoOrder")) ∧ ∀ H', Same H H' → Q (.bl false) H'
theorem scOthers : FnScope ["_law_caught"] ["_law_caught"] (defScope sOthers) := ⟨rfl, rfl, rfl, by decide +kernel, rfl, by decide +kernel, by decide +kernel⟩
theorem ok_others {f : Addr} {fd : FuncData} {ec : Str → Addr} (F : Fun K "_law_others" "_law_others" sOthers f fd) (B : Blt mg) (Er : Errs K mg base ec excL excC) : FnOk P w K mg base CX0 1 f fd ["_law_caught"] (spOthers ec) := by
  refine F.ok scOthers (fun vs H Q E h => ?_) (fun cdv A outer s H vs Q E hr h => ?_)
  · obtain ⟨a, rfl, _⟩ := h
    rfl
  · obtain ⟨a, rfl, ha, k⟩ := h
    have nd := scOthers.nd
    refine ⟨_, (pss_cons (ps_if (PW.pt (pw_or (pt_not (pt_val (b_isx K B (pa_cons (pv 0) (pa_cons (pe_glob (v := .ref (ec "OrderError")) rfl (Er.b "OrderError" (by decide)) rfl) pa_nil))))) (pw_or1 (pt_not (pt_val (b_isx K B (pa_cons (pv 0) (pa_cons (pe_bltn (v := .ty "ValueError") rfl Er.nv b_ValueError rfl) pa_nil)))))))) (pss_one (ps_ret pe_bl)) pss_nil)
      (pss_cons (ps_if (pt_val (b_isxT K B (pa_cons (pv 0) (pa_cons (pe_tup (pa_cons (pe_glob (v := .ref (ec "Apart")) rfl (Er.b "Apart" (by decide)) rfl) (pa_cons (pe_glob (v := .ref (ec "Clash")) rfl (Er.b "Clash" (by decide)) rfl) (pa_cons (pe_glob (v := .ref (ec "Full")) rfl (Er.b "Full" (by decide)) rfl) (pa_cons (pe_glob (v := .ref (ec "NoDeed")) rfl (Er.b "NoDeed" (by decide)) rfl) (pa_cons (pe_glob (v := .ref (ec "NoHouse")) rfl (Er.b "NoHouse" (by decide)) rfl) (pa_cons (pe_glob (v := .ref (ec "NoRedo")) rfl (Er.b "NoRedo" (by decide)) rfl) (pa_cons (pe_glob (v := .ref (ec "NoRow")) rfl (Er.b "NoRow" (by decide)) rfl) (pa_cons (pe_glob (v := .ref (ec "NoText")) rfl (Er.b "NoText" (by decide)) rfl) pa_nil star_n) star_n) star_n) star_n) star_n) star_n) star_n) star_n)) pa_nil)))) (pss_one (ps_ret pe_bl)) pss_nil)
      (pss_one (ps_ret (b_isxT K B (pa_cons (pv 0) (pa_cons (pe_tup (pa_cons (pe_glob (v := .ref (ec "NoTie")) rfl (Er.b "NoTie" (by decide)) rfl) (pa_cons (pe_glob (v := .ref (ec "NoUndo")) rfl (Er.b "NoUndo" (by decide)) rfl) (pa_cons (pe_glob (v := .ref (ec "NoUnit")) rfl (Er.b "NoUnit" (by decide)) rfl) (pa_cons (pe_glob (v := .ref (ec "NoWant")) rfl (Er.b "NoWant" (by decide)) rfl) (pa_cons (pe_glob (v := .ref (ec "NoWeights")) rfl (Er.b "NoWeights" (by decide)) rfl) (pa_cons (pe_glob (v := .ref (ec "TooMany")) rfl (Er.b "TooMany" (by decide)) rfl) (pa_cons (pe_glob (v := .ref (ec "Twice")) rfl (Er.b "Twice" (by decide)) rfl) (pa_cons (pe_glob (v := .ref (ec "Within")) rfl (Er.b "Within" (by decide)) rfl) (pa_cons (pe_glob (v := .ref (ec "NoWeb")) rfl (Er.b "NoWeb" (by decide)) rfl) (pa_cons (pe_glob (v := .ref (ec "Ring")) rfl (Er.b "Ring" (by decide)) rfl) pa_nil star_n) star_n) star_n) star_n) star_n) star_n) star_n) star_n) star_n) star_n)) pa_nil))))))), ?_⟩
    have fN := Er.f "NoOrder" (by decide)
    refine ⟨_, rfl, a, ec "NoOrder", _, .ref (ec "OrderError"), true, rfl, ha, fN, fun v hv => hv, (Er.kit "NoOrder" (by decide) (by decide) "OrderError" (by decide)).trans (by decide), ?_⟩
    refine ⟨true, rfl, ?_⟩
    refine ⟨_, rfl, a, ec "NoOrder", _, .type "ValueError", true, rfl, ha, fN, fun v hv => hv, Er.val "NoOrder" (by decide), ?_⟩
    refine ⟨true, rfl, ?_⟩
    refine ⟨_, rfl, (by show 8 ≤ sizeLine; decide), fun t1 h1 => ?_⟩
    have s1 := Same.new (o := .tup ([ec "Apart", ec "Clash", ec "Full", ec "NoDeed", ec "NoHouse", ec "NoRedo", ec "NoRow", ec "NoText"].map V.ref)) h1
    refine ⟨a, ec "NoOrder", t1, (["Apart", "Clash", "Full", "NoDeed", "NoHouse", "NoRedo", "NoRow", "NoText"] : List Str).map ec, false, rfl, s1 _ _ ha, upd_same, fN, Er.none_of (by decide) (by decide) (by decide), ?_⟩
    refine ⟨false, rfl, ?_⟩
    refine ⟨_, rfl, (by show 10 ≤ sizeLine; decide), fun t2 h2 => ?_⟩
    have s2 := Same.new (o := .tup ([ec "NoTie", ec "NoUndo", ec "NoUnit", ec "NoWant", ec "NoWeights", ec "TooMany", ec "Twice", ec "Within", ec "NoWeb", ec "Ring"].map V.ref)) h2
    exact ⟨a, ec "NoOrder", t2, (["NoTie", "NoUndo", "NoUnit", "NoWant", "NoWeights", "TooMany", "Twice", "Within", "NoWeb", "Ring"] : List Str).map ec, false, rfl, s2 _ _ (s1 _ _ ha), upd_same, fN, Er.none_of (by decide) (by decide) (by decide), k _ fun b u e => s2 _ _ (s1 _ _ e)⟩
end
end K18
namespace K18
open PySem L2
section
variable {P : Program} {w : World} {K : PySem.W.Frag} {mg : Str → Option Value} {base : Heap}
noncomputable def spRaises (ec : Str → Addr) (x : Str) (bad : List V → Hp → Prop) : Sp := fun vs H _ E => vs.length = 3 ∧ bad vs H ∧ ∀ e H', Same H H' → H' e = none → E (.ref (ec x)) (some e) H'
noncomputable def spRefused (bad : List V → Hp → Prop) : Sp := fun vs H Q _ => vs.length = 3 ∧ bad vs H ∧ ∀ H', Same H H' → Q (.bl true) H'
theorem scRefused : FnScope ["_law_web_here", "_law_one", "_law_other", "_law_caught", "refusal"] ["_law_web_here", "_law_one", "_law_other"] (defScope sRefused) := ⟨rfl, rfl, rfl, by decide +kernel, rfl, by decide +kernel, by decide +kernel⟩
theorem ok_refused {f : Addr} {fd : FuncData} {ec : Str → Addr} {bad : List V → Hp → Prop} (F : Fun K "_law_refused" "_law_refused" sRefused f fd) (B : Blt mg) (Er : Errs K mg base ec excL excC) (c_law_others : Cal P w K mg base 1 "_law_others" ["_law_caught"] (spOthers ec)) (xexchanges : CalX P w K mg base 4 "exchanges" ["web", "one", "other"] (spRaises ec "NoOrder" bad)) :
    FnOk P w K mg base CX0 5 f fd ["_law_web_here", "_law_one", "_law_other"] (spRefused bad) := by
  refine F.ok scRefused (fun vs H Q E h => h.1) (fun cdv A outer s H vs Q E hr h => ?_)
  obtain ⟨hl, hbad, k⟩ := h
  match vs, hl with
  | [x, y, z], _ =>
    have nd := scRefused.nd
    obtain ⟨bmD, xD, hDb, _⟩ := Er.at_ "OrderError" (by decide)
    obtain ⟨bmN, xN, _, hin⟩ := Er.at_ "NoOrder" (by decide)
    refine ⟨_, (pss_cons (ps_set (i := 3) nd rfl (Or.inl rfl) pe_non)
      (pss_cons (ps_tryC (i := 4) xexchanges (hr.mono (by decide)) rfl (fun _ => (pa_cons (pv 0) (pa_cons (pv 1) (pa_cons (pv 2) pa_nil)))) rfl rfl rfl (Er.b "OrderError" (by decide)) xD hDb nd rfl rfl (fun _ _ => (pss_one (ps_set (i := 3) nd rfl (Or.inl rfl) (pv 4)))))
      (pss_one (ps_ret (pe_and (b_isx K B (pa_cons (pv 3) (pa_cons (pe_glob (v := .ref (ec "NoOrder")) rfl (Er.b "NoOrder" (by decide)) rfl) pa_nil))) (pe_one (pe_not (pe_cal c_law_others (hr.mono (by decide)) rfl (pa_cons (pv 3) pa_nil))))))))), ?_⟩
    refine ⟨_, rfl, _, rfl, _, rfl, rfl, hbad, fun e H' sm hn => ⟨ec "NoOrder", bmN, rfl, xN, hin, fun a ea hna => ?_⟩⟩
    have s1 := Same.new (o := xObj a (ec "NoOrder")) hna
    refine ⟨_, rfl, ?_⟩
    refine ⟨_, rfl, a, ec "NoOrder", _, .ref (ec "NoOrder"), true, rfl, upd_same, Er.f _ (by decide), fun v hv => hv, (Er.kit "NoOrder" (by decide) (by decide) "NoOrder" (by decide)).trans (by decide), ?_⟩
    refine ⟨true, rfl, ?_⟩
    exact ⟨_, rfl, a, rfl, upd_same, fun H2 s2 => ⟨false, rfl, k _ fun b u e => s2 _ _ (s1 _ _ (sm _ _ e))⟩⟩
end
end K18
namespace K18
open PySem L2
section
variable {P : Program} {w : World} {K : PySem.W.Frag} {mg : Str → Option Value} {base : Heap}
noncomputable def spIsO (io : V → V → Hp → Bool → Prop) : Sp := fun vs H Q _ => ∃ x y b, vs = [x, y] ∧ io x y H b ∧ ∀ H', Same H H' → Q (.bl b) H'
noncomputable def badO (io : V → V → Hp → Bool → Prop) : List V → Hp → Prop := fun vs H => ∃ x y z, vs = [x, y, z] ∧ ((io x y H false) ∨ (io x y H true ∧ ∀ H', Same H H' → io x z H' false))
theorem scExchs : FnScope ["web", "one", "other", "goal", "row", "told", "least"] ["web", "one", "other"] (defScope sExchs) := ⟨rfl, rfl, rfl, by decide +kernel, rfl, by decide +kernel, by decide +kernel⟩
theorem ok_exchBad {f : Addr} {fd : FuncData} {ec : Str → Addr} {io : V → V → Hp → Bool → Prop} (F : Fun K "exchanges" "exchanges" sExchs f fd) (B : Blt mg) (Er : Errs K mg base ec excL excC) (cis_order : Cal P w K mg base 3 "is_order" ["web", "thing"] (spIsO io)) :
    FnOk P w K mg base (CX1 P w) 4 f fd ["web", "one", "other"] (spRaises ec "NoOrder" (badO io)) := by
  refine F.okX scExchs (fun vs H Q E h => h.1) (fun cdv A outer s H vs Q E hr h => ?_)
  obtain ⟨hl, ⟨x, y, z, rfl, hb⟩, k⟩ := h
  have nd := scExchs.nd
  refine ⟨_, (pss_cons (ps_if (PW.pt (pw_or (pt_not (pt_val (pe_cal cis_order (hr.mono (by decide)) rfl (pa_cons (pv 0) (pa_cons (pv 1) pa_nil))))) (pw_or1 (pt_not (pt_val (pe_cal cis_order (hr.mono (by decide)) rfl (pa_cons (pv 0) (pa_cons (pv 2) pa_nil)))))))) (pss_one (ps_raiseV Er (by decide) (by decide) rfl (pa_cons pe_str pa_nil))) pss_nil) pss_never), ?_⟩
  rcases hb with hb | ⟨h1, h2⟩
  · refine ⟨_, rfl, _, rfl, x, y, false, rfl, hb, fun H1 s1 => ⟨false, rfl, ?_⟩⟩
    exact ⟨by show 1 ≤ sizeLine; decide, fun e he => k e H1 s1 he⟩
  · refine ⟨_, rfl, _, rfl, x, y, true, rfl, h1, fun H1 s1 => ⟨true, rfl, ?_⟩⟩
    refine ⟨_, rfl, _, rfl, x, z, false, rfl, h2 H1 s1, fun H2 s2 => ⟨false, rfl, ?_⟩⟩
    exact ⟨by show 1 ≤ sizeLine; decide, fun e he => k e H2 (fun b u q => s2 _ _ (s1 _ _ q)) he⟩
end
end K18
namespace K18
open PySem L2
section
variable {P : Program} {w : World} {K : PySem.W.Frag} {mg : Str → Option Value} {base : Heap}
noncomputable def ioK : V → V → Hp → Bool → Prop := fun x y H b => ∃ q ss ts, x = .ref q ∧ Web H (.ref q) ss ts ∧ Thg H y ∧ (∀ a xs, y = .ref a → H a = some (.lst xs) → xs.length ≤ 1000 ∧ ∀ v ∈ xs, Thg H v) ∧ b = ordB H ss ts y
theorem ok_isO {f : Addr} {fd : FuncData} (G : FnOk P w K mg base CX0 3 f fd ["web", "thing"] spIsOrder) : FnOk P w K mg base CX0 3 f fd ["web", "thing"] (spIsO ioK) := by
  refine G.imp fun vs H Q E h => ?_
  obtain ⟨x, y, b, e, ⟨q, ss, ts, rfl, h1, h2, h3, rfl⟩, k⟩ := h
  exact ⟨q, ss, ts, y, e, h1, h2, h3, k⟩
end
end K18
namespace K18
open PySem L2
section
variable {P : Program} {w : World} {K : PySem.W.Frag} {mg : Str → Option Value} {base : Heap}
noncomputable def FuV (g : Str → Nat) (os : List Str) (v : V) : Prop := (v = .non ∧ MG.RtTo g os os.length) ∨ ∃ k : Nat, v = .int (k : Int) ∧ MG.Fu g os k
noncomputable def spFirstU : Sp := fun vs H Q _ => ∃ (r d : Addr) (os : List Str) (kvs : List (Key × V)) (g : Str → Nat), vs = [.ref r, .ref d] ∧ H r = some (.lst (List.map V.str os)) ∧ os.length ≤ 60 ∧ H d = some (.dK kvs) ∧ (∀ z ∈ os, valV kvs (.inr z) = some (.int ((g z : Nat) : Int))) ∧
  ∀ v H', FuV g os v → Same H H' → Q v H'
theorem scFirstU : FnScope ["row", "goal", "number"] ["row", "goal"] (defScope sFirstU) := ⟨rfl, rfl, rfl, by decide +kernel, rfl, by decide +kernel, by decide +kernel⟩
theorem ok_first {f : Addr} {fd : FuncData} (F : Fun K "first_unlike" "first_unlike" sFirstU f fd) (B : Blt mg) : FnOk P w K mg base CX0 1 f fd ["row", "goal"] spFirstU := by
  refine F.ok scFirstU (fun vs H Q E h => ?_) (fun cdv A outer s H vs Q E hr h => ?_)
  · obtain ⟨r, d, os, kvs, g, rfl, _⟩ := h
    rfl
  · obtain ⟨r, d, os, kvs, g, rfl, hr0, hol, hd, hat, k⟩ := h
    have nd := scFirstU.nd
    refine ⟨_, (pss_cons (ps_for PassesOwn.never rfl (pi_range1 rfl B.range (pa_cons (pe_op op_sub (b_len K B (pa_cons (pv 0) pa_nil)) pe_int) pa_nil)) (pg_name (i := 2) nd rfl (Or.inl rfl)) (pss_one (ps_if (pt_cmpR op_gt (pe_ix (ix_X K hr.units) (pv 1) (pe_ix (ix_X K hr.units) (pv 0) (pv 2) (fun _ _ => rfl)) (fun _ _ => rfl)) (pe_ix (ix_X K hr.units) (pv 1) (pe_ix (ix_X K hr.units) (pv 0) (pe_op op_addX (pv 2) pe_int) (fun _ _ => rfl)) (fun _ _ => rfl)) (nomark _)) (pss_one (ps_ret (pv 2))) pss_nil)))
      (pss_one (ps_ret pe_non))), ?_⟩
    have mln : (List.map V.str os).length = os.length := List.length_map ..
    refine ⟨_, rfl, _, _, rfl, Or.inl ⟨_, .of hr0, rfl⟩, _, _, rfl, rfl, _, rfl, by rw [mln]; omega, by rw [mln]; omega, ?_⟩
    rw [mln, show (((os.length : Nat) : Int) - 1).toNat = os.length - 1 by omega]
    refine for_range (fun i σ H' => ∃ o, σ = [some (.ref r), some (.ref d), o] ∧ Same H H' ∧ MG.RtTo g os i) ⟨none, rfl, Same.refl H, fun j x y hj => absurd hj (Nat.not_lt_zero _)⟩ ?_ ?_
    · rintro i σ H' hi ⟨o, rfl, sm, rt⟩
      obtain ⟨x, hx⟩ : ∃ x, os[i]? = some x := ⟨_, List.getElem?_eq_getElem (by omega)⟩
      obtain ⟨y, hy⟩ : ∃ y, os[i + 1]? = some y := ⟨_, List.getElem?_eq_getElem (by omega)⟩
      have a0 : atI (List.map V.str os) (0 + (i : Int)) = some (.str x) := by rw [Int.zero_add]; exact atI_nat (by simp [hx])
      have a1 : atI (List.map V.str os) (0 + (i : Int) + 1) = some (.str y) := by rw [Int.zero_add, show (i : Int) + 1 = ((i + 1 : Nat) : Int) by omega]; exact atI_nat (by simp [hy])
      refine ⟨_, rfl, _, rfl, _, rfl, .lst (.of (sm _ _ hr0)) a0 (.dic (.inl ⟨kvs, .inr x, .inl (sm _ _ hd), rfl, (hat x (List.mem_of_getElem? hx)).symm⟩) ⟨_, rfl, _, rfl, _, rfl, .int (.lst (.of (sm _ _ hr0)) a1 (.dic (.inl ⟨kvs, .inr y, .inl (sm _ _ hd), rfl, (hat y (List.mem_of_getElem? hy)).symm⟩) ⟨_, _, rfl, rfl, _, rfl, ?_⟩))⟩)⟩
      refine ite2 (fun h => ?_) (fun h => ?_)
      · have h : ((g y : Nat) : Int) < ((g x : Nat) : Int) := of_decide_eq_true h
        have z := k (.int (i : Int)) H' (.inr ⟨i, rfl, rt, x, y, hx, hy, by omega⟩) sm
        rw [← Int.zero_add (i : Int)] at z
        exact ⟨_, rfl, z⟩
      · have h : ¬ ((g y : Nat) : Int) < ((g x : Nat) : Int) := fun z => h (decide_eq_true z)
        refine ⟨_, rfl, sm, fun j u v hj hu hv => ?_⟩
        by_cases q : j < i
        · exact rt j u v q hu hv
        · have : j = i := by omega
          subst this
          rw [hx] at hu; rw [hy] at hv
          cases hu; cases hv
          omega
    · rintro σ H' ⟨o, rfl, sm, rt⟩
      refine k .non H' (.inl ⟨rfl, fun j x y hj hx hy => ?_⟩) sm
      have := (List.getElem?_eq_some_iff.mp hy).1
      exact rt j x y (by omega) hx hy
noncomputable def spLed : Sp := fun vs H Q _ => ∃ (o s : Addr) (os : List Str) (ns : List Nat), vs = [.ref o, .ref s] ∧ H o = some (.lst (List.map V.str os)) ∧ os.length ≤ 60 ∧ H s = some (.lst (natV ns)) ∧ (∀ n ∈ ns, n + 1 < os.length) ∧
  ∀ l H', Same H H' → H l = none → H' l = some (.lst (List.map V.str (ns.foldl MG.exch os))) → Q (.ref l) H'
theorem led_perm {os : List Str} (ns : List Nat) : ∀ {xs : List Str}, xs.Perm os → (∀ n ∈ ns, n + 1 < os.length) → (ns.foldl MG.exch xs).Perm os := by
  induction ns with
  | nil => intro xs p _; exact p
  | cons n ns ih =>
    intro xs p h
    exact ih ((MG.exch_perm (by rw [p.length_eq]; exact h n (by simp))).trans p) fun m hm => h m (List.mem_cons_of_mem _ hm)
theorem foldl_snoc {os : List Str} {ns : List Nat} {i n : Nat} (h : ns[i]? = some n) : (ns.take (i + 1)).foldl MG.exch os = MG.exch ((ns.take i).foldl MG.exch os) n := by
  rw [List.take_add_one, h, List.foldl_append]; rfl
theorem scLed : FnScope ["order", "some", "row", "number"] ["order", "some"] (defScope sLed) := ⟨rfl, rfl, rfl, by decide +kernel, rfl, by decide +kernel, by decide +kernel⟩
theorem ok_led {f : Addr} {fd : FuncData} (F : Fun K "led" "led" sLed f fd) (B : Blt mg) (cexchanged : Cal P w K mg base 1 "exchanged" ["row", "number"] spExch) : FnOk P w K mg base CX0 2 f fd ["order", "some"] spLed := by
  refine F.ok scLed (fun vs H Q E h => ?_) (fun cdv A outer s H vs Q E hr h => ?_)
  · obtain ⟨o, s, os, ns, rfl, _⟩ := h
    rfl
  · obtain ⟨o, s, os, ns, rfl, ho, hol, hs, hns, k⟩ := h
    have nd := scLed.nd
    refine ⟨_, (pss_cons (ps_set (i := 2) nd rfl (Or.inl rfl) (b_list K rfl B (pa_cons (pv 0) pa_nil)))
      (pss_cons (ps_for PassesOwn.never rfl (pi_listK K (pv 1)) (pg_name (i := 3) nd rfl (Or.inl rfl)) (pss_one (ps_set (i := 2) nd rfl (Or.inl rfl) (pe_cal cexchanged (hr.mono (by decide)) rfl (pa_cons (pv 2) (pa_cons (pv 3) pa_nil))))))
      (pss_one (ps_ret (pv 2))))), ?_⟩
    refine ⟨_, rfl, _, rfl, .seq (.inl (.of ho)) fun lr hlr => ?_⟩
    have s1 := Same.new (o := .lst (List.map V.str os)) hlr
    have e1 : upd H lr (.lst (List.map V.str os)) lr = some (.lst (List.map V.str os)) := upd_same
    generalize upd H lr (.lst (List.map V.str os)) = H1 at s1 e1 ⊢
    refine ⟨_, rfl, s, rfl, ⟨_, .of (s1 _ _ hs)⟩, ?_⟩
    refine for_list (xs := natV ns) (fun i σ H' => ∃ (o3 : Option V) (l : Addr), σ = [some (.ref o), some (.ref s), some (.ref l), o3] ∧ Same H H' ∧ H l = none ∧ H' l = some (.lst (List.map V.str ((ns.take i).foldl MG.exch os)))) ?_ ?_ ?_ ?_
    · exact ⟨none, lr, rfl, s1, hlr, e1⟩
    · rintro i σ H' hi ⟨o3, l, rfl, sm, _⟩
      exact .of (sm _ _ hs)
    · rintro i v σ H' hv ⟨o3, l, rfl, sm, hl0, hl⟩
      obtain ⟨n, hn, rfl⟩ := nat_get hv
      have pm := led_perm (ns.take i) (List.Perm.refl os) fun m hm => hns m (List.mem_of_mem_take hm)
      have pl := pm.length_eq
      have hn1 := hns n (List.mem_of_getElem? hn)
      refine ⟨_, rfl, _, rfl, l, n, _, rfl, hl, by rw [List.length_map]; omega, by rw [List.length_map]; omega, fun l' H4 s4 hl0' hl4 => ?_⟩
      refine ⟨_, l', rfl, sm.trans s4, same_free sm hl0', ?_⟩
      rw [foldl_snoc hn, MG.map_exch]; exact hl4
    · rintro σ H' ⟨o3, l, rfl, sm, hl0, hl⟩
      rw [natV_len, List.take_of_length_le (Nat.le_refl _)] at hl
      exact ⟨_, rfl, k l H' sm hl0 hl⟩
end
end K18
namespace K18
open PySem L2
section
variable {P : Program} {w : World} {K : PySem.W.Frag} {mg : Str → Option Value} {base : Heap}
theorem ordL_inv {ss : List Str} {ts : List (Str × Str)} {os : List Str} (h : ordL ss ts (List.map V.str os) = true) : os.Perm ss ∧ os.Nodup ∧ (∀ s ∈ os, s ∈ ss) ∧ ∀ e ∈ ts, MG.ix os e.1 < MG.ix os e.2 := by
  unfold ordL at h
  rw [strsOf_map, List.length_map, Bool.and_eq_true, Bool.and_eq_true, Bool.and_eq_true] at h
  obtain ⟨h1, h2, h3, h4⟩ := h
  obtain ⟨ws, e, hw⟩ := all_inSS h1
  have : os = ws := by
    have := congrArg strsOf e
    rwa [strsOf_map, strsOf_map] at this
  subst this
  have nd := of_decide_eq_true h3
  refine ⟨perm_of nd (of_decide_eq_true h2) hw, nd, hw, fun e he => ?_⟩
  exact of_decide_eq_true (List.all_eq_true.mp h4 e he)
noncomputable def spExchs : Sp := fun vs H Q _ => ∃ (q o t : Addr) (ss : List Str) (ts : List (Str × Str)) (os ot : List Str), vs = [.ref q, .ref o, .ref t] ∧ Web H (.ref q) ss ts ∧ H o = some (.lst (List.map V.str os)) ∧ H t = some (.lst (List.map V.str ot)) ∧ ordL ss ts (List.map V.str os) = true ∧ ordL ss ts (List.map V.str ot) = true ∧
  ∀ l n told ys H', Same H H' → H l = none → MG.Bub (MG.ix ot) os n told ys → MG.RtTo (MG.ix ot) ys ys.length → H' l = some (.lst (natV told)) → Q (.ref l) H'
theorem io_of {H : Hp} {q o : Addr} {ss : List Str} {ts : List (Str × Str)} {os : List Str} (W : Web H (.ref q) ss ts) (ho : H o = some (.lst (List.map V.str os))) (h : ordL ss ts (List.map V.str os) = true) : ioK (.ref q) (.ref o) H true := by
  obtain ⟨pm, nd, mem, _⟩ := ordL_inv h
  have hl := pm.length_eq
  have h60 := W.len
  refine ⟨q, ss, ts, rfl, W, .lst ho, fun a xs e ha => ?_, by rw [ordB_lst ho, h]⟩
  cases e
  rw [ho] at ha
  cases ha
  refine ⟨by rw [List.length_map]; omega, fun v hv => ?_⟩
  obtain ⟨s, hs, rfl⟩ := List.mem_map.mp hv
  exact .str (Nat.le_trans (W.nm s (mem s hs)).2.1 (by decide))
theorem ok_exchs {f : Addr} {fd : FuncData} (F : Fun K "exchanges" "exchanges" sExchs f fd) (B : Blt mg) (cis_order : Cal P w K mg base 3 "is_order" ["web", "thing"] (spIsO ioK)) (cplaces_of : Cal P w K mg base 1 "places_of" ["things"] spPlacesX) (cfirst_unlike : Cal P w K mg base 1 "first_unlike" ["row", "goal"] spFirstU) (cexchanged : Cal P w K mg base 1 "exchanged" ["row", "number"] spExch) :
    FnOk P w K mg base CX0 4 f fd ["web", "one", "other"] spExchs := by
  refine F.ok scExchs (fun vs H Q E h => ?_) (fun cdv A outer s H vs Q E hr h => ?_)
  · obtain ⟨q, o, t, ss, ts, os, ot, rfl, _⟩ := h
    rfl
  · obtain ⟨q, o, t, ss, ts, os, ot, rfl, W, ho, ht, oo, oT, k⟩ := h
    have nd := scExchs.nd
    obtain ⟨pmo, ndo, memo, _⟩ := ordL_inv oo
    obtain ⟨pmt, ndt, memt, _⟩ := ordL_inv oT
    have h60 := W.len
    have lo := pmo.length_eq
    have lt := pmt.length_eq
    refine ⟨_, (pss_cons (ps_if (PW.pt (pw_or (pt_not (pt_val (pe_cal cis_order (hr.mono (by decide)) rfl (pa_cons (pv 0) (pa_cons (pv 1) pa_nil))))) (pw_or1 (pt_not (pt_val (pe_cal cis_order (hr.mono (by decide)) rfl (pa_cons (pv 0) (pa_cons (pv 2) pa_nil)))))))) (pss_one ps_never) pss_nil)
      (pss_cons (ps_set (i := 3) nd rfl (Or.inl rfl) (pe_cal cplaces_of (hr.mono (by decide)) rfl (pa_cons (pv 2) pa_nil)))
      (pss_cons (ps_set (i := 4) nd rfl (Or.inl rfl) (b_list K rfl B (pa_cons (pv 1) pa_nil)))
      (pss_cons (ps_set (i := 5) nd rfl (Or.inl rfl) (pe_lst pa_nil))
      (pss_cons (ps_set (i := 6) nd rfl (Or.inl rfl) (pe_cal cfirst_unlike (hr.mono (by decide)) rfl (pa_cons (pv 4) (pa_cons (pv 3) pa_nil))))
      (pss_cons (ps_while PassesOwn.never (pt_cmpR op_isNotX (pv 6) pe_non (nomark _)) (pss_cons (ps_set (i := 4) nd rfl (Or.inl rfl) (pe_cal cexchanged (hr.mono (by decide)) rfl (pa_cons (pv 4) (pa_cons (pv 6) pa_nil))))
      (pss_cons (ps_expr (m_append K (pv 5) (pa_cons (pv 6) pa_nil)))
      (pss_one (ps_set (i := 6) nd rfl (Or.inl rfl) (pe_cal cfirst_unlike (hr.mono (by decide)) rfl (pa_cons (pv 4) (pa_cons (pv 3) pa_nil))))))))
      (pss_one (ps_ret (pv 5))))))))), ?_⟩
    refine ⟨_, rfl, _, rfl, _, _, true, rfl, io_of W ho oo, fun H1 s1 => ⟨true, rfl, ?_⟩⟩
    refine ⟨_, rfl, _, rfl, _, _, true, rfl, io_of (W.same s1) (s1 _ _ ht) oT, fun H2 s2 => ⟨true, rfl, ?_⟩⟩
    have s12 := s1.trans s2
    refine ⟨_, rfl, _, rfl, .nm (.inl (s12 _ _ ht)) (by omega) fun d kvs H3 s3 hd0 hd hin hat knd kks => ?_⟩
    have s13 := s12.trans s3
    have at_ : ∀ z, z ∈ ss → valV kvs (.inr z) = some (.int ((MG.ix ot z : Nat) : Int)) := fun z hz => by
      obtain ⟨v, hv⟩ := Option.isSome_iff_exists.mp ((hin z).mpr (pmt.mem_iff.mpr hz))
      obtain ⟨j, rfl, hj⟩ := hat z v hv
      rw [hv, MG.ix_at ndt hj]
    refine ⟨_, rfl, _, rfl, .seq (.inl (.of (s13 _ _ ho))) fun lr hlr => ?_⟩
    have s4 := Same.new (o := .lst (List.map V.str os)) hlr
    have er : upd H3 lr (.lst (List.map V.str os)) lr = some (.lst (List.map V.str os)) := upd_same
    have hd4 := s4 _ _ hd
    have s14 := s13.trans s4
    generalize upd H3 lr (.lst (List.map V.str os)) = H4 at s14 er hd4 ⊢
    refine ⟨(by show 0 ≤ sizeLine; decide), fun ll hll => ?_⟩
    have s5 := Same.new (o := .lst []) hll
    have el : upd H4 ll (.lst []) ll = some (.lst (natV [])) := upd_same
    have nrl : lr ≠ ll := ne_of_none er hll
    have er := s5 _ _ er
    have hd5 := s5 _ _ hd4
    have hl0 := same_free s14 hll
    have s15 := s14.trans s5
    have ned : d ≠ ll := ne_of_none hd4 hll
    generalize upd H4 ll (.lst []) = H5 at s15 er el hd5 ⊢
    refine ⟨_, rfl, _, rfl, lr, d, os, kvs, MG.ix ot, rfl, er, by omega, hd5, fun z hz => at_ z (memo z hz), fun v H6 hv s6 => ?_⟩
    refine ⟨fun m σ H' => ∃ (l : Addr) (v : V) (n : Nat) (told : List Nat) (ys : List Str), m = (MG.invR (MG.ix ot) ys).length ∧ σ = [some (.ref q), some (.ref o), some (.ref t), some (.ref d), some (.ref l), some (.ref ll), some v] ∧ H' l = some (.lst (List.map V.str ys)) ∧ l ≠ ll ∧ H' d = some (.dK kvs) ∧ H' ll = some (.lst (natV told)) ∧ Same H H' ∧ MG.Bub (MG.ix ot) os n told ys ∧ FuV (MG.ix ot) ys v,
      ⟨_, lr, v, 0, [], os, rfl, rfl, s6 _ _ er, nrl, s6 _ _ hd5, s6 _ _ el, s15.trans s6, .zero, hv⟩, ?_⟩
    rintro m σ H7 ⟨l, v, n, told, ys, rfl, rfl, hl, hlne, hd7, hll7, s17, bub, fv⟩
    have py := bub.perm.length_eq
    refine ⟨_, rfl, .non ⟨_, rfl, ?_⟩⟩
    rcases fv with ⟨rfl, rt⟩ | ⟨kk, rfl, fu⟩
    · refine iteF ?_
      exact ⟨_, rfl, k ll n told ys H7 s17 hl0 bub rt hll7⟩
    · refine iteT ?_
      have hlt := fu.lt
      obtain ⟨_, x, y, hx, hy, hg⟩ := id fu
      have hinv := MG.inv_exch hx hy hg
      have few := bub.few (by omega)
      refine ⟨fun σ' H' => ∃ (l : Addr) (v : V) (n : Nat) (told : List Nat), σ' = [some (.ref q), some (.ref o), some (.ref t), some (.ref d), some (.ref l), some (.ref ll), some v] ∧ H' l = some (.lst (List.map V.str (MG.exch ys kk))) ∧ l ≠ ll ∧ H' d = some (.dK kvs) ∧ H' ll = some (.lst (natV told)) ∧ Same H H' ∧ MG.Bub (MG.ix ot) os n told (MG.exch ys kk) ∧ FuV (MG.ix ot) (MG.exch ys kk) v,
        fun σ' H' ⟨l, v, n, told, h1, h2⟩ => ⟨_, by omega, l, v, n, told, _, rfl, h1, h2⟩, ?_⟩
      refine ⟨_, rfl, _, rfl, l, kk, _, rfl, hl, by rw [List.length_map]; exact hlt, by rw [List.length_map]; omega, fun l' H8 s8 hl0' hl8 => ?_⟩
      have hn' : l' ≠ ll := fun z => by rw [z, hll7] at hl0'; cases hl0'
      rw [← MG.map_exch] at hl8
      refine ⟨_, rfl, .inl ⟨rfl, _, .of (s8 _ _ hll7)⟩, _, rfl, ll, _, _, rfl, rfl, s8 _ _ hll7, by rw [natV_len]; exact Nat.lt_of_le_of_lt few (by decide), ?_⟩
      have hd9 : upd H8 ll (.lst (natV told ++ [V.int (kk : Int)])) d = some (.dK kvs) := by rw [upd_ne ned]; exact s8 _ _ hd7
      have hl9 : upd H8 ll (.lst (natV told ++ [V.int (kk : Int)])) l' = some (.lst (List.map V.str (MG.exch ys kk))) := by rw [upd_ne hn']; exact hl8
      have hll9 : upd H8 ll (.lst (natV told ++ [V.int (kk : Int)])) ll = some (.lst (natV (told ++ [kk]))) := by rw [upd_same]; simp [natV]
      have s19 : Same H (upd H8 ll (.lst (natV told ++ [V.int (kk : Int)]))) := same_at (s17.trans s8) hl0
      generalize upd H8 ll (.lst (natV told ++ [V.int (kk : Int)])) = H9 at hd9 hl9 hll9 s19 ⊢
      have bub2 := bub.step fu
      refine ⟨_, rfl, _, rfl, l', d, _, kvs, MG.ix ot, rfl, hl9, by rw [bub2.perm.length_eq]; omega, hd9, fun z hz => at_ z (memo z (bub2.perm.mem_iff.mp hz)), fun v H10 hv s10 => ?_⟩
      exact ⟨l', v, n + 1, told ++ [kk], rfl, s10 _ _ hl9, hn', s10 _ _ hd9, s10 _ _ hll9, s19.trans s10, bub2, hv⟩
end
end K18
namespace K18
open PySem L2
section
variable {P : Program} {w : World} {K : PySem.W.Frag} {mg : Str → Option Value} {base : Heap}
theorem scLLed : FnScope ["_law_told", "_law_some", "_law_found", "_law_at"] ["_law_told", "_law_some"] (defScope sLLed) := ⟨rfl, rfl, rfl, by decide +kernel, rfl, by decide +kernel, by decide +kernel⟩
theorem ok_lled {f : Addr} {fd : FuncData} (F : Fun K "_law_led" "_law_led" sLLed f fd) (B : Blt mg) : FnOk P w K mg base CX0 1 f fd ["_law_told", "_law_some"] spLed := by
  refine F.ok scLLed (fun vs H Q E h => ?_) (fun cdv A outer s H vs Q E hr h => ?_)
  · obtain ⟨o, s, os, ns, rfl, _⟩ := h
    rfl
  · obtain ⟨o, s, os, ns, rfl, ho, hol, hs, hns, k⟩ := h
    have nd := scLLed.nd
    have sz : 1000 < sizeLine := by decide
    refine ⟨_, (pss_cons (ps_set (i := 2) nd rfl (Or.inl rfl) (b_list K rfl B (pa_cons (pv 0) pa_nil)))
      (pss_cons (ps_for PassesOwn.never rfl (pi_listK K (pv 1)) (pg_name (i := 3) nd rfl (Or.inl rfl)) (pss_one (ps_set (i := 2) nd rfl (Or.inl rfl) (pe_op op_addX (pe_op op_addX (pe_slice (sl_K K) (pv 2) po_none (po_some (pv 3))) (pe_lst (pa_cons (pe_ix (ix_X K hr.units) (pv 2) (pe_op op_addX (pv 3) pe_int) (fun _ _ => rfl)) (pa_cons (pe_ix (ix_X K hr.units) (pv 2) (pv 3) (fun _ _ => rfl)) pa_nil)))) (pe_slice (sl_K K) (pv 2) (po_some (pe_op op_addX (pv 3) pe_int)) po_none)))))
      (pss_one (ps_ret (pv 2))))), ?_⟩
    refine ⟨_, rfl, _, rfl, .seq (.inl (.of ho)) fun lr hlr => ?_⟩
    have s1 := Same.new (o := .lst (List.map V.str os)) hlr
    have e1 : upd H lr (.lst (List.map V.str os)) lr = some (.lst (List.map V.str os)) := upd_same
    generalize upd H lr (.lst (List.map V.str os)) = H1 at s1 e1 ⊢
    refine ⟨_, rfl, s, rfl, ⟨_, .of (s1 _ _ hs)⟩, ?_⟩
    refine for_list (xs := natV ns) (fun i σ H' => ∃ (o3 : Option V) (l : Addr), σ = [some (.ref o), some (.ref s), some (.ref l), o3] ∧ Same H H' ∧ H l = none ∧ H' l = some (.lst (List.map V.str ((ns.take i).foldl MG.exch os)))) ?_ ?_ ?_ ?_
    · exact ⟨none, lr, rfl, s1, hlr, e1⟩
    · rintro i σ H' hi ⟨o3, l, rfl, sm, _⟩
      exact .of (sm _ _ hs)
    · rintro i v σ H' hv ⟨o3, l, rfl, sm, hl0, hl⟩
      obtain ⟨n, hn, rfl⟩ := nat_get hv
      have pm := led_perm (ns.take i) (List.Perm.refl os) fun m hm => hns m (List.mem_of_mem_take hm)
      have pl := pm.length_eq
      have hn1 := hns n (List.mem_of_getElem? hn)
      have hfs := foldl_snoc (os := os) hn
      generalize (ns.take i).foldl MG.exch os = zs at pm pl hl hfs
      obtain ⟨x, hx⟩ : ∃ x, zs[n]? = some x := ⟨_, List.getElem?_eq_getElem (by omega)⟩
      obtain ⟨y, hy⟩ : ∃ y, zs[n + 1]? = some y := ⟨_, List.getElem?_eq_getElem (by omega)⟩
      have hx' : (List.map V.str zs)[n]? = some (.str x) := by simp [hx]
      have hy' : (List.map V.str zs)[n + 1]? = some (.str y) := by simp [hy]
      have mln : (List.map V.str zs).length = zs.length := List.length_map ..
      refine ⟨_, rfl, _, rfl, _, rfl, .lst (.of hl) fun l1 h1 => ?_⟩
      rw [cutV_to _ n (by omega)]
      have s1 := Same.new (o := .lst ((List.map V.str zs).take n)) h1
      have e1 : upd H' l1 (.lst ((List.map V.str zs).take n)) l1 = some (.lst ((List.map V.str zs).take n)) := upd_same
      generalize upd H' l1 (.lst ((List.map V.str zs).take n)) = H2 at s1 e1 ⊢
      refine ⟨_, rfl, _, rfl, .int (.lst (.of (s1 _ _ hl)) (show atI _ ((n : Int) + 1) = some (.str y) from by
        rw [show (n : Int) + 1 = ((n + 1 : Nat) : Int) by omega]; exact atI_nat hy') ⟨_, rfl, _, rfl, .lst (.of (s1 _ _ hl)) (atI_nat hx') ⟨(by show 2 ≤ sizeLine; decide), fun l2 h2 => ?_⟩⟩)⟩
      have s2 := Same.new (o := .lst [V.str y, V.str x]) h2
      refine .lst (s2 _ _ e1) upd_same (by rw [List.length_take]; show _ + 2 ≤ _; omega) fun l3 h3 => ?_
      have s3 := Same.new (o := .lst ((List.map V.str zs).take n ++ [V.str y, V.str x])) h3
      have e3 : upd (upd H2 l2 (.lst [V.str y, V.str x])) l3 (.lst ((List.map V.str zs).take n ++ [V.str y, V.str x])) l3 = some (.lst ((List.map V.str zs).take n ++ [V.str y, V.str x])) := upd_same
      have sA := s1.trans (s2.trans s3)
      generalize upd (upd H2 l2 (.lst [V.str y, V.str x])) l3 (.lst ((List.map V.str zs).take n ++ [V.str y, V.str x])) = H3 at sA e3 ⊢
      refine ⟨_, rfl, _, rfl, .int ⟨_, rfl, .lst (.of (sA _ _ hl)) fun l4 h4 => ?_⟩⟩
      rw [show (n : Int) + 2 = ((n + 2 : Nat) : Int) by omega, cutV_from]
      have s4 := Same.new (o := .lst ((List.map V.str zs).drop (n + 2))) h4
      refine .lst (s4 _ _ e3) upd_same (by simp only [List.length_append, List.length_take, List.length_drop]; show _ + 2 + _ ≤ _; omega) fun l5 h5 => ?_
      have s5 := Same.new (o := .lst ((List.map V.str zs).take n ++ [V.str y, V.str x] ++ (List.map V.str zs).drop (n + 2))) h5
      refine ⟨_, l5, rfl, sm.trans (sA.trans (s4.trans s5)), same_free (sm.trans (sA.trans s4)) h5, ?_⟩
      rw [hfs, MG.map_exch, MG.exch_at hx' hy']; exact upd_same
    · rintro σ H' ⟨o3, l, rfl, sm, hl0, hl⟩
      rw [natV_len, List.take_of_length_le (Nat.le_refl _)] at hl
      exact ⟨_, rfl, k l H' sm hl0 hl⟩
end
end K18
namespace K18
open PySem L2
section
variable {P : Program} {w : World} {K : PySem.W.Frag} {mg : Str → Option Value} {base : Heap}
noncomputable def spDue : Sp := fun vs H Q _ => ∃ (o t : Addr) (os ot : List Str), vs = [.ref o, .ref t] ∧ H o = some (.lst (List.map V.str os)) ∧ H t = some (.lst (List.map V.str ot)) ∧ os.length ≤ 60 ∧ ot.Nodup ∧ os.Perm ot ∧
  ∀ l n told ys H', Same H H' → H l = none → MG.Bub (MG.ix ot) os n told ys → MG.RtTo (MG.ix ot) ys ys.length → H' l = some (.lst (natV told)) → Q (.ref l) H'
theorem scDue : FnScope ["_law_one", "_law_other", "_law_places", "_law_at", "_law_name", "_law_found", "_law_now"] ["_law_one", "_law_other"] (defScope sDue) := ⟨rfl, rfl, rfl, by decide +kernel, rfl, by decide +kernel, by decide +kernel⟩
theorem ixN_nat {n k : Nat} (h : k < n) : ixN n (k : Int) = some k := by
  unfold ixN
  rw [if_pos (by omega), if_pos (by omega), Int.toNat_natCast]
theorem ok_due {f : Addr} {fd : FuncData} (F : Fun K "_law_due" "_law_due" sDue f fd) (B : Blt mg) : FnOk P w K mg base CX0 1 f fd ["_law_one", "_law_other"] spDue := by
  refine F.ok scDue (fun vs H Q E h => ?_) (fun cdv A outer s H vs Q E hr h => ?_)
  · obtain ⟨o, t, os, ot, rfl, _⟩ := h
    rfl
  · obtain ⟨o, t, os, ot, rfl, ho, ht, hol, ndt, pm, k⟩ := h
    have nd := scDue.nd
    have plen := pm.length_eq
    refine ⟨_, (pss_cons (ps_set (i := 2) nd rfl (Or.inl rfl) pe_dnewK)
      (pss_cons (ps_for PassesOwn.never rfl (pi_enumK K rfl B.enumerate (pa_cons (pv 1) pa_nil)) (pg_tupK (n := 2) K rfl (pgs_cons (pg_name (i := 3) nd rfl (Or.inl rfl)) (pgs_cons (pg_name (i := 4) nd rfl (Or.inl rfl)) pgs_nil))) (pss_one (ps_asg (pv 3) (pg_sub (pv 2) (pv 4) (set_X hr.units)))))
      (pss_cons (ps_set (i := 5) nd rfl (Or.inl rfl) (pe_lst pa_nil))
      (pss_cons (ps_set (i := 6) nd rfl (Or.inl rfl) (b_list K rfl B (pa_cons (pv 0) pa_nil)))
      (pss_cons (ps_set (i := 3) nd rfl (Or.inl rfl) pe_int)
      (pss_cons (ps_while PassesOwn.never (pt_cmpR op_ltX (pv 3) (pe_op op_sub (b_len K B (pa_cons (pv 6) pa_nil)) pe_int) (nomark _)) (pss_one (ps_if (pt_cmpR op_gt (pe_ix (ix_X K hr.units) (pv 2) (pe_ix (ix_X K hr.units) (pv 6) (pv 3) (fun _ _ => rfl)) (fun _ _ => rfl)) (pe_ix (ix_X K hr.units) (pv 2) (pe_ix (ix_X K hr.units) (pv 6) (pe_op op_addX (pv 3) pe_int) (fun _ _ => rfl)) (fun _ _ => rfl)) (nomark _)) (pss_cons (ps_expr (m_append K (pv 5) (pa_cons (pv 3) pa_nil)))
      (pss_cons (ps_asg (pe_tup (pa_cons (pe_ix (ix_X K hr.units) (pv 6) (pe_op op_addX (pv 3) pe_int) (fun _ _ => rfl)) (pa_cons (pe_ix (ix_X K hr.units) (pv 6) (pv 3) (fun _ _ => rfl)) pa_nil))) (pg_tupK (n := 2) K rfl (pgs_cons (pg_sub (pv 6) (pv 3) (set_X hr.units)) (pgs_cons (pg_sub (pv 6) (pe_op op_addX (pv 3) pe_int) (set_X hr.units)) pgs_nil))))
      (pss_one (ps_set (i := 3) nd rfl (Or.inl rfl) (b_max rfl B (pa_cons pe_int (pa_cons (pe_op op_sub (pv 3) pe_int) pa_nil))))))) (pss_one (ps_set (i := 3) nd rfl (Or.inl rfl) (pe_op op_addX (pv 3) pe_int))))))
      (pss_one (ps_ret (pv 5))))))))), ?_⟩
    intro d hd
    have s0 := Same.new (o := .dK []) hd
    have start : PlN H (upd H d (.dK [])) d ot 0 [] := ⟨s0, upd_same, Nat.le_refl _, (fun s => by simp [valV_nil]), (fun s v e => by cases e), List.nodup_nil, (fun k hk => by cases hk)⟩
    refine ⟨_, rfl, _, rfl, ⟨_, .of (s0 _ _ ht)⟩, ?_⟩
    refine for_enum (xs := List.map V.str ot) (fun i σ H' => ∃ o1 o2 kvs, σ = [some (.ref o), some (.ref t), some (.ref d), o1, o2, none, none] ∧ PlN H H' d ot i kvs) ?_ ?_ ?_ ?_
    · exact ⟨none, none, [], rfl, start⟩
    · rintro i σ H' hi ⟨o1, o2, kvs, rfl, pl⟩
      exact .of (pl.sm _ _ ht)
    · rintro i x σ H' p hx ⟨o1, o2, kvs, rfl, pl⟩ hp
      obtain ⟨t, ht, rfl⟩ := str_get hx
      have hil := (List.getElem?_eq_some_iff.mp ht).1
      have hdp : d ≠ p := ne_of_none pl.at_ hp
      have := pl.len
      refine ⟨p, _, rfl, .of upd_same, rfl, _, _, rfl, _, _, rfl, rfl, ?_⟩
      exact ⟨_, rfl, _, rfl, _, rfl, .dic (DPut.k (k := .inr t) (by rw [upd_ne hdp]; exact pl.at_) (small1000 (by omega))) ⟨_, _, _, rfl, pl.step hd hp ht⟩⟩
    rintro σ H1 ⟨o1, o2, kvs, rfl, pl⟩
    have hin := pl.inn
    have hat := pl.ix
    have hd1 := pl.at_
    have s1 := pl.sm
    rw [List.length_map, List.take_of_length_le (Nat.le_refl _)] at hin
    clear pl
    have at_ : ∀ z, z ∈ os → valV kvs (.inr z) = some (.int ((MG.ix ot z : Nat) : Int)) := fun z hz => by
      obtain ⟨v, hv⟩ := Option.isSome_iff_exists.mp ((hin z).mpr (pm.mem_iff.mp hz))
      obtain ⟨j, rfl, hj⟩ := hat z v hv
      rw [hv, MG.ix_at ndt hj]
    refine ⟨(by show 0 ≤ sizeLine; decide), fun lf hlf => ?_⟩
    have sf := Same.new (o := .lst []) hlf
    have ef : upd H1 lf (.lst []) lf = some (.lst (natV [])) := upd_same
    have hf0 := same_free s1 hlf
    have hd2 := sf _ _ hd1
    have s2 := s1.trans sf
    have nfd : d ≠ lf := ne_of_none hd1 hlf
    generalize upd H1 lf (.lst []) = H2 at ef hd2 s2 ⊢
    refine ⟨_, rfl, _, rfl, .seq (.inl (.of (s2 _ _ ho))) fun ln hln => ?_⟩
    have sn := Same.new (o := .lst (List.map V.str os)) hln
    have en : upd H2 ln (.lst (List.map V.str os)) ln = some (.lst (List.map V.str os)) := upd_same
    have hn0 := same_free s2 hln
    have nfn : ln ≠ lf := Ne.symm (ne_of_none ef hln)
    have ef := sn _ _ ef
    have hd3 := sn _ _ hd2
    have s3 := s2.trans sn
    have nnd : d ≠ ln := ne_of_none hd2 hln
    generalize upd H2 ln (.lst (List.map V.str os)) = H3 at ef en hd3 s3 ⊢
    refine ⟨fun m σ H' => ∃ (at_ n : Nat) (o4 : Option V) (told : List Nat) (ys : List Str), m = 2 * (MG.invR (MG.ix ot) ys).length + (os.length - at_) ∧ σ = [some (.ref o), some (.ref t), some (.ref d), some (.int (at_ : Int)), o4, some (.ref lf), some (.ref ln)] ∧ at_ ≤ os.length ∧ H' ln = some (.lst (List.map V.str ys)) ∧ H' d = some (.dK kvs) ∧ H' lf = some (.lst (natV told)) ∧ Same H H' ∧ MG.Bub (MG.ix ot) os n told ys ∧ MG.RtTo (MG.ix ot) ys at_,
      ⟨_, 0, 0, o2, [], os, rfl, rfl, Nat.zero_le _, en, hd3, ef, s3, .zero, fun j x y hj => absurd hj (Nat.not_lt_zero _)⟩, ?_⟩
    rintro m σ H4 ⟨a, n, o4, told, ys, rfl, rfl, hao, hn4, hd4, hf4, s4, bub, rt⟩
    have py := bub.perm.length_eq
    have mln : (List.map V.str ys).length = ys.length := List.length_map ..
    refine ⟨_, rfl, _, rfl, _, _, rfl, Or.inl ⟨_, .of hn4, rfl⟩, _, _, rfl, rfl, .int ⟨_, rfl, ?_⟩⟩
    rw [mln]
    refine ite2 (fun h => ?_) (fun h => ?_)
    · have h : (a : Int) < (ys.length : Nat) - 1 := of_decide_eq_true h
      have ha1 : a + 1 < ys.length := by omega
      obtain ⟨x, hx⟩ : ∃ x, ys[a]? = some x := ⟨_, List.getElem?_eq_getElem (by omega)⟩
      obtain ⟨y, hy⟩ : ∃ y, ys[a + 1]? = some y := ⟨_, List.getElem?_eq_getElem ha1⟩
      have a0 : atI (List.map V.str ys) (a : Int) = some (.str x) := atI_nat (by simp [hx])
      have a1 : atI (List.map V.str ys) ((a : Int) + 1) = some (.str y) := by rw [show (a : Int) + 1 = ((a + 1 : Nat) : Int) by omega]; exact atI_nat (by simp [hy])
      have mx := bub.perm.mem_iff.mp (List.mem_of_getElem? hx)
      have my := bub.perm.mem_iff.mp (List.mem_of_getElem? hy)
      refine ⟨fun σ' H' => ∃ (at2 n : Nat) (o4 : Option V) (told : List Nat) (zs : List Str), 2 * (MG.invR (MG.ix ot) zs).length + (os.length - at2) < 2 * (MG.invR (MG.ix ot) ys).length + (os.length - a) ∧ σ' = [some (.ref o), some (.ref t), some (.ref d), some (.int (at2 : Int)), o4, some (.ref lf), some (.ref ln)] ∧ at2 ≤ os.length ∧ H' ln = some (.lst (List.map V.str zs)) ∧ H' d = some (.dK kvs) ∧ H' lf = some (.lst (natV told)) ∧ Same H H' ∧ MG.Bub (MG.ix ot) os n told zs ∧ MG.RtTo (MG.ix ot) zs at2,
        fun σ' H' ⟨at2, n, o4, told, zs, h0, h1⟩ => ⟨_, h0, at2, n, o4, told, zs, rfl, h1⟩, ?_⟩
      refine ⟨_, rfl, _, rfl, _, rfl, .lst (.of hn4) a0 (.dic (.inl ⟨kvs, .inr x, .inl hd4, rfl, (at_ x mx).symm⟩) ⟨_, rfl, _, rfl, _, rfl, .int (.lst (.of hn4) a1 (.dic (.inl ⟨kvs, .inr y, .inl hd4, rfl, (at_ y my).symm⟩) ⟨_, _, rfl, rfl, _, rfl, ?_⟩))⟩)⟩
      refine ite2 (fun hg => ?_) (fun hg => ?_)
      · have hg : ((MG.ix ot y : Nat) : Int) < ((MG.ix ot x : Nat) : Int) := of_decide_eq_true hg
        have hg : MG.ix ot y < MG.ix ot x := by omega
        have fu : MG.Fu (MG.ix ot) ys a := ⟨rt, x, y, hx, hy, hg⟩
        have few := bub.few hol
        have hinv := MG.inv_exch hx hy hg
        refine ⟨_, rfl, .inl ⟨rfl, _, .of hf4⟩, _, rfl, lf, _, _, rfl, rfl, hf4, by rw [natV_len]; exact Nat.lt_of_le_of_lt few (by decide), ?_⟩
        have hn5 : upd H4 lf (.lst (natV told ++ [V.int (a : Int)])) ln = some (.lst (List.map V.str ys)) := by rw [upd_ne nfn]; exact hn4
        have hd5 : upd H4 lf (.lst (natV told ++ [V.int (a : Int)])) d = some (.dK kvs) := by rw [upd_ne nfd]; exact hd4
        have hf5 : upd H4 lf (.lst (natV told ++ [V.int (a : Int)])) lf = some (.lst (natV (told ++ [a]))) := by rw [upd_same]; simp [natV]
        have s5 : Same H (upd H4 lf (.lst (natV told ++ [V.int (a : Int)]))) := same_at s4 hf0
        generalize upd H4 lf (.lst (natV told ++ [V.int (a : Int)])) = H5 at hn5 hd5 hf5 s5 ⊢
        refine ⟨_, rfl, _, rfl, .int (.lst (.of hn5) a1 ⟨_, rfl, _, rfl, .lst (.of hn5) a0 ?_⟩)⟩
        refine ⟨(by show 2 ≤ sizeLine; decide), fun tp hwp => ?_⟩
        have st := Same.new (o := .tup [V.str y, V.str x]) hwp
        have hn6 := st _ _ hn5
        have hd6 := st _ _ hd5
        have hf6 := st _ _ hf5
        have s6 := s5.trans st
        have et : upd H5 tp (.tup [V.str y, V.str x]) tp = some (.tup [V.str y, V.str x]) := upd_same
        generalize upd H5 tp (.tup [V.str y, V.str x]) = H6 at hn6 hd6 hf6 s6 et ⊢
        have ml2 : (List.map V.str ys).length = ys.length := List.length_map ..
        refine ⟨tp, _, rfl, .of et, rfl, _, _, rfl, _, rfl, _, rfl, .lst hn6 (ixN_nat (by rw [ml2]; omega)) ⟨_, _, rfl, _, rfl, _, rfl, .int (.lst (j := a + 1) upd_same (show ixN _ ((a : Int) + 1) = some (a + 1) from by
          rw [show (a : Int) + 1 = ((a + 1 : Nat) : Int) by omega]; exact ixN_nat (by rw [List.length_set, ml2]; omega)) ⟨rfl, ?_⟩)⟩⟩
        rw [upd_upd, MG.set_exch (show (List.map V.str ys)[a]? = some (V.str x) by simp [hx]) (show (List.map V.str ys)[a + 1]? = some (V.str y) by simp [hy]), ← MG.map_exch]
        have emx : (if (a : Int) - 1 > 0 then (a : Int) - 1 else 0) = ((a - 1 : Nat) : Int) := by split <;> omega
        refine ⟨_, rfl, _, _, rfl, rfl, _, _, rfl, ?_⟩
        rw [emx]
        refine ⟨a - 1, n + 1, o4, told ++ [a], MG.exch ys a, by omega, rfl, by omega, upd_same, by rw [upd_ne nnd]; exact hd6, by rw [upd_ne (Ne.symm nfn)]; exact hf6, same_at s6 hn0, bub.step fu, fun j u v hj hu hv => ?_⟩
        rw [MG.exch_left ha1 (by omega)] at hu
        rw [MG.exch_left ha1 (by omega)] at hv
        exact rt j u v (by omega) hu hv
      · have hg : ¬ ((MG.ix ot y : Nat) : Int) < ((MG.ix ot x : Nat) : Int) := fun z => hg (decide_eq_true z)
        refine ⟨_, rfl, .int ⟨a + 1, n, o4, told, ys, by omega, rfl, by omega, hn4, hd4, hf4, s4, bub, fun j u v hj hu hv => ?_⟩⟩
        by_cases q : j < a
        · exact rt j u v q hu hv
        · have : j = a := by omega
          subst this
          rw [hx] at hu; rw [hy] at hv
          cases hu; cases hv
          omega
    · have h : ¬ (a : Int) < (ys.length : Nat) - 1 := fun z => h (decide_eq_true z)
      refine ⟨_, rfl, k lf n told ys H4 s4 hf0 bub (fun j x y hj hx hy => ?_) hf4⟩
      have := (List.getElem?_eq_some_iff.mp hy).1
      exact rt j x y (by omega) hx hy
end
end K18
namespace K18
open PySem L2
section
variable {P : Program} {w : World} {K : PySem.W.Frag} {mg : Str → Option Value} {base : Heap}
inductive Sx (H : Hp) : V → Prop
  | str {z : Str} : z.length ≤ 9 → Asc z → Sx H (.str z)
  | non : Sx H .non
  | bl (b : Bool) : Sx H (.bl b)
  | int {i : Int} : 0 ≤ i → i ≤ 7 → Sx H (.int i)
  | lst {c : Addr} {ws : List Str} : H c = some (.lst (List.map V.str ws)) → ws.length ≤ 1 → (∀ w ∈ ws, w.length ≤ 9 ∧ Asc w) → Sx H (.ref c)
  | tup {c : Addr} {ws : List Str} : H c = some (.tup (List.map V.str ws)) → ws.length ≤ 1 → (∀ w ∈ ws, w.length ≤ 9 ∧ Asc w) → Sx H (.ref c)
  | dic {c : Addr} : H c = some (.dK []) → Sx H (.ref c)
theorem Sx.keep {H H' : Hp} {v : V} (h : Sx H v) (k : ∀ c o, v = .ref c → H c = some o → H' c = some o) : Sx H' v := by
  cases h with
  | str a b => exact .str a b
  | non => exact .non
  | bl b => exact .bl b
  | int a b => exact .int a b
  | lst e a b => exact .lst (k _ _ rfl e) a b
  | tup e a b => exact .tup (k _ _ rfl e) a b
  | dic e => exact .dic (k _ _ rfl e)
theorem Sx.thg {H : Hp} {v : V} (h : Sx H v) : Thg H v := by
  cases h with
  | str a b => exact .str (Nat.le_trans a (by decide))
  | non => exact .non
  | bl b => exact .bl b
  | int a b => exact .int _
  | lst e a b => exact .lst e
  | tup e a b => exact .tup e
  | dic e => exact .dK e
theorem sx_rep {z : Str} (h : z.length ≤ 9) (a : Asc z) : (reprText z).length ≤ 92 := by
  have := StrLaws.reprText_len z fun c hc => by
    have := a c hc
    have h16 : (1000 : Nat) < 16 ^ 8 := by decide
    omega
  omega
theorem sx_sw {z : Str} (h : z.length ≤ 9) (a : Asc z) : Sw (.str z) 92 0 := by
  refine ⟨?_, rfl, Nat.le_refl 0, by rw [PyData.shown_str]; exact sx_rep h a⟩
  show (z.cps.all (· < 0x110000)) = true
  rw [← Array.all_toList, List.all_eq_true]
  intro c hc
  have := a c hc
  exact decide_eq_true (by omega)
theorem sx_small {i : Int} (h0 : 0 ≤ i) (h1 : i ≤ 7) : Sw (.int i) 92 0 := by
  have hr : (List.range 8).all (fun k => decide ((PyData.int (k : Int)).shown.length ≤ 92) && (PyData.int (k : Int)).canLay0 && (PyData.int (k : Int)).showable) = true := by decide +kernel
  have hk := List.all_eq_true.mp hr i.toNat (List.mem_range.mpr (by omega))
  have e : ((i.toNat : Nat) : Int) = i := by omega
  rw [e, Bool.and_eq_true, Bool.and_eq_true, decide_eq_true_iff] at hk
  exact ⟨hk.1.2, hk.2, Nat.le_refl 0, hk.1.1⟩
theorem sx_bl (b : Bool) : Sw (.bool b) 92 0 := by cases b <;> exact ⟨rfl, rfl, Nat.le_refl 0, by decide +kernel⟩
theorem sx_non : Sw .none 92 0 := ⟨rfl, rfl, Nat.le_refl 0, by decide +kernel⟩
theorem Sx.dat {H : Hp} {v : V} (h : Sx H v) : ∃ d, ItD H v d ∧ d.showable = true ∧ d.depth ≤ 2 ∧ d.shown.length ≤ 200 := by
  have fin : ∀ {x : V} {d : PyData} {n k : Nat}, Rep H x d → Sw d n k → k ≤ 2 → n ≤ 200 → ∃ d, ItD H x d ∧ d.showable = true ∧ d.depth ≤ 2 ∧ d.shown.length ≤ 200 := fun r q hk hn =>
    ⟨_, .tr r (q.shw (by omega) (Nat.le_trans hn (by decide))).hd, q.sb, Nat.le_trans q.dp hk, Nat.le_trans q.ln hn⟩
  have sts : ∀ {ws : List Str}, (∀ w ∈ ws, w.length ≤ 9 ∧ Asc w) → ∀ d ∈ ws.map PyData.str, Sw d 92 0 := fun hw d hd => by
    obtain ⟨w, hm, rfl⟩ := List.mem_map.mp hd
    exact sx_sw (hw w hm).1 (hw w hm).2
  cases h with
  | str a b => exact fin (.str _) (sx_sw a b) (by decide) (by decide)
  | non => exact fin .non sx_non (by decide) (by decide)
  | bl b => exact fin (.bl b) (sx_bl b) (by decide) (by decide)
  | int a b => exact fin (.int _) (sx_small a b) (by decide) (by decide)
  | @lst c ws e a b => exact fin (.lst e (RepAll.of_strs ws)) (Sw.list (sts b)) (by decide) (by rw [List.length_map]; omega)
  | @tup c ws e a b => exact fin (.tup e (RepAll.of_strs ws)) (Sw.tuple (sts b)) (by decide) (by rw [List.length_map]; omega)
  | dic e => exact ⟨.dict [], .dc e, rfl, by decide, by decide +kernel⟩
theorem asc_of {z : Str} (h : (z.cps.toList.all fun c => decide (c < 128)) = true) : Asc z := fun c hc => of_decide_eq_true (List.all_eq_true.mp h c hc)
theorem Sx.np {H : Hp} {p a c : Addr} (h : Sx H (.ref c)) (v : PenV H p a) : c ≠ p := by
  obtain ⟨i, j, q, _⟩ := v
  rintro rfl
  cases h with
  | @lst _ ws e l _ =>
    rw [q] at e
    injection e with e
    injection e with e
    cases ws with
    | nil => cases e
    | cons w ws => injection e with e _; cases e
  | tup e _ _ => rw [q] at e; injection e with e; cases e
  | dic e => rw [q] at e; injection e with e; cases e
theorem Sx.but {H H' : Hp} {p a : Addr} {v : V} (h : Sx H v) (pv : PenV H p a) (b : But p H H') : Sx H' v :=
  h.keep fun c o e hc => b c o (by subst e; exact h.np pv) hc
theorem Sx.same {H H' : Hp} {v : V} (h : Sx H v) (s : Same H H') : Sx H' v := h.keep fun c o _ hc => s c o hc
inductive Bd (p : Addr) (H : Hp) : V → Prop
  | lst {c : Addr} {xs : List V} : H c = some (.lst xs) → c ≠ p → xs.length ≤ 62 → (∀ x ∈ xs, Sx H x) → Bd p H (.ref c)
  | lsl {c d : Addr} {us : List Str} : H c = some (.lst [.ref d]) → c ≠ p → H d = some (.lst (List.map V.str us)) → d ≠ p → us.length ≤ 60 → (∀ u ∈ us, u.length ≤ 9 ∧ Asc u) → Bd p H (.ref c)
  | tpl {c d : Addr} {us : List Str} : H c = some (.tup [.ref d]) → c ≠ p → H d = some (.lst (List.map V.str us)) → d ≠ p → us.length ≤ 60 → (∀ u ∈ us, u.length ≤ 9 ∧ Asc u) → Bd p H (.ref c)
  | tup {c : Addr} {us : List Str} : H c = some (.tup (List.map V.str us)) → c ≠ p → us.length ≤ 60 → (∀ u ∈ us, u.length ≤ 9 ∧ Asc u) → Bd p H (.ref c)
  | dic {c : Addr} : H c = some (.dK []) → c ≠ p → Bd p H (.ref c)
  | str {z : Str} : z.length ≤ 600 → Asc z → Bd p H (.str z)
  | non : Bd p H .non
  | bl (b : Bool) : Bd p H (.bl b)
  | int : Bd p H (.int 0)
theorem Bd.but {H H' : Hp} {p a : Addr} {v : V} (h : Bd p H v) (pv : PenV H p a) (b : But p H H') : Bd p H' v := by
  cases h with
  | lst e n l k => exact .lst (b _ _ n e) n l fun x hx => (k x hx).but pv b
  | lsl e n e2 n2 l k => exact .lsl (b _ _ n e) n (b _ _ n2 e2) n2 l k
  | tpl e n e2 n2 l k => exact .tpl (b _ _ n e) n (b _ _ n2 e2) n2 l k
  | tup e n l k => exact .tup (b _ _ n e) n l k
  | dic e n => exact .dic (b _ _ n e) n
  | str a b => exact .str a b
  | non => exact .non
  | bl c => exact .bl c
  | int => exact .int
theorem Bd.thg {H : Hp} {p : Addr} {v : V} (h : Bd p H v) : Thg H v := by
  cases h with
  | lst e n l k => exact .lst e
  | lsl e n e2 n2 l k => exact .lst e
  | tpl e n e2 n2 l k => exact .tup e
  | tup e n l k => exact .tup e
  | dic e n => exact .dK e
  | str a b => exact .str (Nat.le_trans a (by decide))
  | non => exact .non
  | bl c => exact .bl c
  | int => exact .int _
theorem Bd.its {H : Hp} {p : Addr} {v : V} (h : Bd p H v) : ∀ a xs, v = .ref a → H a = some (.lst xs) → xs.length ≤ 1000 ∧ ∀ v ∈ xs, Thg H v := by
  intro a xs e ha
  cases h with
  | lst hc n l k =>
    cases e
    rw [hc] at ha
    cases ha
    exact ⟨by omega, fun v hv => (k v hv).thg⟩
  | lsl hc n e2 n2 l k =>
    cases e
    rw [hc] at ha
    cases ha
    exact ⟨by show 1 ≤ 1000; decide, fun v hv => by rw [List.mem_singleton.mp hv]; exact .lst e2⟩
  | tpl hc n e2 n2 l k => cases e; rw [hc] at ha; cases ha
  | tup hc n l k => cases e; rw [hc] at ha; cases ha
  | dic hc n => cases e; rw [hc] at ha; cases ha
  | str a b => cases e
  | non => cases e
  | bl c => cases e
  | int => cases e
theorem sx_all {H : Hp} : ∀ {xs : List V}, (∀ x ∈ xs, Sx H x) → ∃ ds, ItAll H xs ds ∧ ds.length = xs.length ∧ PyData.showableAll ds = true ∧ PyData.depthAll ds ≤ 2 ∧ ∀ d ∈ ds, d.shown.length ≤ 200
  | [], _ => ⟨[], .nil, rfl, rfl, Nat.zero_le _, fun d hd => by cases hd⟩
  | x :: xs, h => by
    obtain ⟨d, i, a, b, c⟩ := (h x (by simp)).dat
    obtain ⟨ds, is, l, as, bs, cs⟩ := sx_all fun y hy => h y (List.mem_cons_of_mem _ hy)
    refine ⟨d :: ds, .cons i is, by simp [l], ?_, ?_, fun y hy => ?_⟩
    · show (PyData.showable d && PyData.showableAll ds) = true
      rw [a, as]; rfl
    · show max (PyData.depth d) (PyData.depthAll ds) ≤ 2
      omega
    · rcases List.mem_cons.mp hy with rfl | hy
      · exact c
      · exact cs y hy
theorem len_listD {ds : List PyData} {m : Nat} (h : ∀ d ∈ ds, d.shown.length ≤ m) : (PyData.list ds).shown.length ≤ 2 + ds.length * (m + 2) := by
  show (listText (PyData.shownAll ds)).length ≤ _
  rw [shownAll_map]
  have h1 := textFrom_le (n := m) (ds.map PyData.shown) 0 "[" fun t ht => by
    obtain ⟨e, he, rfl⟩ := List.mem_map.mp ht
    exact h e he
  rw [List.length_map] at h1
  have h3 : (Str.ofString "[").length = 1 := rfl
  have h4 : (Str.ofString "]").length = 1 := rfl
  have h1 : (textFrom 0 (Str.ofString "[") (ds.map PyData.shown)).length ≤ (Str.ofString "[").length + ds.length * (m + 2) := h1
  show (textFrom 0 "[" (ds.map PyData.shown) ++ "]").length ≤ _
  rw [len_app]
  show (textFrom 0 (Str.ofString "[") _).length + (Str.ofString "]").length ≤ _
  omega
theorem szl : (1000000 : Nat) ≤ sizeLine := by decide
theorem Bd.rep {H : Hp} {p : Addr} {v : V} (h : Bd p H v) : ∃ t : Str, ∀ H', Same H H' → ∀ Q : VK, Q (.str t) H' → rReprY [v] H' Q := by
  have fin : ∀ {x : V} {d : PyData} {n k : Nat}, Rep H x d → Sw d n k → k ≤ 5 → n ≤ 100000 → ∃ t : Str, ∀ H', Same H H' → ∀ Q : VK, Q (.str t) H' → rReprY [x] H' Q := fun {x d n k} r q hk hn =>
    ⟨d.shown, fun H' s Q hq => Or.inl ⟨x, rfl, .tr (r.same s) q.sb (q.shw (by omega) (Nat.le_trans hn (Nat.le_trans (by decide) szl))).hd (Nat.le_trans q.dp (by omega)) (Nat.le_trans q.ln (Nat.le_trans hn (Nat.le_trans (by decide) szl))) hq⟩⟩
  have sts : ∀ {ws : List Str}, (∀ w ∈ ws, w.length ≤ 9 ∧ Asc w) → ∀ d ∈ ws.map PyData.str, Sw d 92 0 := fun hw d hd => by
    obtain ⟨w, hm, rfl⟩ := List.mem_map.mp hd
    exact sx_sw (hw w hm).1 (hw w hm).2
  cases h with
  | @lst c xs e n l k =>
    obtain ⟨ds, it, dl, sb, dp, ln⟩ := sx_all k
    have hln := len_listD ln
    have h61 : ds.length * (200 + 2) ≤ 62 * 202 := Nat.mul_le_mul (by omega) (by omega)
    exact ⟨(PyData.list ds).shown, fun H' s Q hq => Or.inr ⟨c, xs, ds, rfl, s _ _ e, it.same s, sb, by omega, Nat.le_trans hln (Nat.le_trans (Nat.add_le_add_left h61 2) (Nat.le_trans (by decide) szl)), hq⟩⟩
  | @lsl c d us e n e2 n2 l k =>
    refine fin (.lst e (.cons (.lst e2 (RepAll.of_strs us)) .nil)) (Sw.list (n := 2 + us.length * 94) (k := 1) (fun y hy => ?_)) (by decide) ?_
    · rw [List.mem_singleton.mp hy]
      have := Sw.list (sts k)
      rw [List.length_map] at this
      exact this
    · show 2 + 1 * _ ≤ _
      omega
  | @tpl c d us e n e2 n2 l k =>
    refine fin (.tup e (.cons (.lst e2 (RepAll.of_strs us)) .nil)) (Sw.tuple (n := 2 + us.length * 94) (k := 1) (fun y hy => ?_)) (by decide) ?_
    · rw [List.mem_singleton.mp hy]
      have := Sw.list (sts k)
      rw [List.length_map] at this
      exact this
    · simp only [List.length_cons, List.length_nil]
      omega
  | @tup c us e n l k =>
    refine fin (.tup e (RepAll.of_strs us)) (Sw.tuple (sts k)) (by decide) ?_
    rw [List.length_map]
    omega
  | dic e n => exact ⟨(dictD []).shown, fun H' s Q hq => Or.inl ⟨_, rfl, .dc (s _ _ e) rfl rfl (by decide) (by decide +kernel) hq⟩⟩
  | @str z a b =>
    have hz : (PyData.str z).shown.length ≤ 100000 := by
      rw [PyData.shown_str]
      have := StrLaws.reprText_len z fun c hc => by
        have := b c hc
        have h16 : (1000 : Nat) < 16 ^ 8 := by decide
        omega
      omega
    exact ⟨(PyData.str z).shown, fun H' s Q hq => Or.inl ⟨_, rfl, .tr (.str z) rfl rfl (by show 0 ≤ 16; decide) (Nat.le_trans hz (Nat.le_trans (by decide) szl)) hq⟩⟩
  | non => exact fin .non sx_non (by decide) (by decide)
  | bl c => exact fin (.bl c) (sx_bl c) (by decide) (by decide)
  | int => exact fin (.int 0) (sx_small (by decide) (by decide)) (by decide) (by decide)
end
end K18
namespace K18
open PySem L2
section
variable {P : Program} {w : World} {K : PySem.W.Frag} {mg : Str → Option Value} {base : Heap}
theorem ordB_same {H H' : Hp} {ss : List Str} {ts : List (Str × Str)} {v : V} (h : Thg H v) (s : Same H H') : ordB H' ss ts v = ordB H ss ts v := by
  cases h with
  | lst e => rw [ordB_lst e, ordB_lst (s _ _ e)]
  | tup e => rw [ordB_not (isL_not e (fun _ z => by cases z)), ordB_not (isL_not (s _ _ e) (fun _ z => by cases z))]
  | dK e => rw [ordB_not (isL_not e (fun _ z => by cases z)), ordB_not (isL_not (s _ _ e) (fun _ z => by cases z))]
  | dT e => rw [ordB_not (isL_not e (fun _ z => by cases z)), ordB_not (isL_not (s _ _ e) (fun _ z => by cases z))]
  | _ => rfl
theorem ordL_len {ss : List Str} {ts : List (Str × Str)} {xs : List V} (h : xs.length ≠ ss.length) : ordL ss ts xs = false := by
  unfold ordL
  rw [decide_eq_false h, Bool.false_and, Bool.and_false]
theorem ordL_bad {ss : List Str} {ts : List (Str × Str)} {xs : List V} {x : V} (h : x ∈ xs) (hx : inSS ss x = false) : ordL ss ts xs = false := by
  unfold ordL
  have : xs.all (inSS ss) = false := by
    rw [List.all_eq_false]
    exact ⟨x, h, by rw [hx]; decide⟩
  rw [this, Bool.false_and]
theorem ordL_dup {ss : List Str} {ts : List (Str × Str)} {ws : List Str} (h : ¬ ws.Nodup) : ordL ss ts (List.map V.str ws) = false :=
  Bool.eq_false_iff.mpr fun z => h (ordL_inv z).2.1
noncomputable def swp (x y z : Str) : Str := if z = y then x else if z = x then y else z
theorem ordL_swp {ss : List Str} {ts : List (Str × Str)} {us : List Str} {x y : Str} (h : ordL ss ts (List.map V.str us) = true) (he : (x, y) ∈ ts) (hx : x ∈ ss) (hy : y ∈ ss) : ordL ss ts (List.map V.str (us.map (swp x y))) = false := by
  refine Bool.eq_false_iff.mpr fun z => ?_
  obtain ⟨pm, nd, _, hf⟩ := ordL_inv h
  obtain ⟨_, nd2, _, hf2⟩ := ordL_inv z
  have h1 := hf _ he
  have h2 := hf2 _ he
  have ax := MG.at_ix (pm.mem_iff.mpr hx)
  have ay := MG.at_ix (pm.mem_iff.mpr hy)
  have h0 : MG.ix us x < MG.ix us y := h1
  have ne : x ≠ y := fun q => by rw [q] at h0; exact absurd h0 (Nat.lt_irrefl _)
  have e1 : (us.map (swp x y))[MG.ix us x]? = some y := by
    rw [List.getElem?_map, ax]
    show some (if x = y then x else if x = x then y else x) = some y
    rw [if_neg ne, if_pos rfl]
  have e2 : (us.map (swp x y))[MG.ix us y]? = some x := by
    rw [List.getElem?_map, ay]
    show some (if y = y then x else _) = some x
    rw [if_pos rfl]
  have h2 : MG.ix (us.map (swp x y)) x < MG.ix (us.map (swp x y)) y := h2
  rw [MG.ix_at nd2 e1, MG.ix_at nd2 e2] at h2
  have h1 : MG.ix us x < MG.ix us y := h1
  omega
theorem dup_at {us : List Str} {j a : Nat} (hj : j < us.length) (h : j ≠ a) : ¬ (us.take a ++ [us.getD j ""] ++ us.drop (a + 1)).Nodup := by
  intro nd
  have e : us[j]? = some (us.getD j "") := by rw [List.getD_eq_getElem?_getD, List.getElem?_eq_getElem hj]; rfl
  generalize us.getD j "" = z at nd e
  rw [List.append_assoc, List.nodup_append] at nd
  obtain ⟨_, n2, n3⟩ := nd
  rcases Nat.lt_or_gt_of_ne h with q | q
  · exact n3 z (List.mem_of_getElem? (i := j) (by rw [List.getElem?_take_of_lt q]; exact e)) z (by simp) rfl
  · refine (List.nodup_cons.mp n2).1 (List.mem_of_getElem? (i := j - (a + 1)) ?_)
    show (us.drop (a + 1))[j - (a + 1)]? = some z
    rw [List.getElem?_drop, show a + 1 + (j - (a + 1)) = j by omega]; exact e
theorem at_back {us : List Str} {a : Nat} (h : a < us.length) (h1 : 1 < us.length) : ∃ j, j < us.length ∧ j ≠ a ∧ atI (List.map V.str us) ((a : Int) - 1) = some (.str (us.getD j "")) := by
  cases a with
  | zero =>
    refine ⟨us.length - 1, by omega, by omega, ?_⟩
    obtain ⟨zs, z, rfl⟩ : ∃ zs z, us = zs ++ [z] := ⟨_, _, (List.dropLast_concat_getLast (fun q => by rw [q] at h; exact absurd h (Nat.lt_irrefl _))).symm⟩
    have e : (zs ++ [z]).getD ((zs ++ [z]).length - 1) "" = z := by simp [List.getD_eq_getElem?_getD]
    rw [e, List.map_append]
    exact atI_last _ _
  | succ a =>
    refine ⟨a, by omega, by omega, ?_⟩
    rw [show ((a + 1 : Nat) : Int) - 1 = (a : Int) by omega]
    exact str_at (by omega)
theorem pick_at {u y z x : Str} : atI [V.str u, V.str y] (if (if false = true then !decide (V.str z = V.str x) else decide (V.str z = V.str x)) = true then 1 else 0) = some (.str (if z = x then y else u)) := by
  rw [if_neg (by decide : ¬ false = true)]
  by_cases h : z = x
  · subst h
    rw [decide_eq_true rfl, if_pos rfl, if_pos rfl]; rfl
  · rw [decide_eq_false (fun q => h (V.str.inj q)), if_neg (by decide), if_neg h]; rfl
noncomputable def spNoOrd (K : PySem.W.Frag) : Sp := fun vs H Q _ => ∃ (p a n t o : Addr) (ss us : List Str) (es : List (Nat × Nat)), vs = [.ref p, .ref n, .ref t, .ref o] ∧ Pen K H p a ∧ Built H n t ss es ∧ n ≠ p ∧ t ≠ p ∧ H o = some (.lst (List.map V.str us)) ∧ o ≠ p ∧ ordL ss (es.map (nmP ss)) (List.map V.str us) = true ∧
  ∀ v H', Bd p H' v → ordB H' ss (es.map (nmP ss)) v = false → PenV H' p a → But p H H' → Q v H'
theorem scNoOrd : FnScope ["_law_pen", "_law_names_here", "_law_ties_here", "_law_told", "_law_kind", "_law_at", "_law_one", "_law_other", "_law_found"] ["_law_pen", "_law_names_here", "_law_ties_here", "_law_told"] (defScope sNoOrd) := ⟨rfl, rfl, rfl, by decide +kernel, rfl, by decide +kernel, by decide +kernel⟩
theorem ok_noOrd {f : Addr} {fd : FuncData} (F : Fun K "_law_no_order" "_law_no_order" sNoOrd f fd) (B : Blt mg) (c_law_take : Cal P w K mg base 1 "_law_take" ["_law_pen", "_law_many"] (spDraw K)) : FnOk P w K mg base CX0 2 f fd ["_law_pen", "_law_names_here", "_law_ties_here", "_law_told"] (spNoOrd K) := by
  refine F.ok scNoOrd (fun vs H Q E h => ?_) (fun cdv A outer s H vs Q E hr h => ?_)
  · obtain ⟨p, a, n, t, o, ss, us, es, rfl, _⟩ := h
    rfl
  · obtain ⟨p, a, n, t, o, ss, us, es, rfl, hP, hB, hnp, htp, ho, hop, hord, k⟩ := h
    have nd := scNoOrd.nd
    have v0 := hP.2
    obtain ⟨pm, und, umem, ufw⟩ := ordL_inv hord
    have mln : (List.map V.str us).length = us.length := List.length_map ..
    have ulen := pm.length_eq
    have h60 := hB.len
    have hul : us.length ≤ 60 := by omega
    have hus : ∀ u ∈ us, Nm u := fun u hu => hB.ok u (umem u hu)
    have sz : 1000 < sizeLine := by decide
    have sxs : ∀ (H' : Hp) {xs : List V}, (∀ x ∈ xs, x ∈ List.map V.str us) → ∀ x ∈ xs, Sx H' x := fun H' xs h x hx => by
      obtain ⟨u, hu, rfl⟩ := List.mem_map.mp (h x hx)
      exact .str (Nat.le_trans (hus u hu).2.1 (by decide)) (hus u hu).asc
    refine ⟨_, (pss_cons (ps_set (i := 4) nd rfl (Or.inl rfl) (pe_cal c_law_take (hr.mono (by decide)) rfl (pa_cons (pv 0) (pa_cons pe_int pa_nil))))
      (pss_cons (ps_if (PW.pt (pw_or (pt_cmpR (op_eqX hr.units) (pv 4) pe_int (nomark _)) (pw_or1 (pt_cmpR (op_eqX hr.units) (pv 3) (pe_lst pa_nil) (nomark _))))) (pss_one (ps_ret (pe_ix (ix_X K hr.units) (pe_lst (pa_cons pe_non (pa_cons (b_tuple K B (pa_cons (pv 3) pa_nil)) (pa_cons (pe_op op_addX (pv 3) (pe_lst (pa_cons pe_str pa_nil))) (pa_cons (m_join K pe_str (pa_cons (pv 3) pa_nil)) (pa_cons pe_dnewK pa_nil star_d) star_f) star_b) star_f) star_c)) (pe_cal c_law_take (hr.mono (by decide)) rfl (pa_cons (pv 0) (pa_cons pe_int pa_nil))) (fun _ _ => rfl)))) pss_nil)
      (pss_cons (ps_set (i := 5) nd rfl (Or.inl rfl) (pe_cal c_law_take (hr.mono (by decide)) rfl (pa_cons (pv 0) (pa_cons (b_len K B (pa_cons (pv 3) pa_nil)) pa_nil))))
      (pss_cons (ps_if (pt_cmpR (op_eqX hr.units) (pv 4) pe_int (nomark _)) (pss_one (ps_ret (pe_op op_addX (pe_slice (sl_K K) (pv 3) po_none (po_some (pv 5))) (pe_slice (sl_K K) (pv 3) (po_some (pe_op op_addX (pv 5) pe_int)) po_none)))) pss_nil)
      (pss_cons (ps_if (pt_cmpR (op_eqX hr.units) (pv 4) pe_int (nomark _)) (pss_one (ps_ret (pe_op op_addX (pe_op op_addX (pe_slice (sl_K K) (pv 3) po_none (po_some (pv 5))) (pe_lst (pa_cons (pe_ix (ix_X K hr.units) (pv 3) (pv 5) (fun _ _ => rfl)) pa_nil))) (pe_slice (sl_K K) (pv 3) (po_some (pv 5)) po_none)))) pss_nil)
      (pss_cons (ps_if (PW.pt (pw_and (pt_cmpR (op_eqX hr.units) (pv 4) pe_int (nomark _)) (pw_and1 (pt_cmpR op_gt (b_len K B (pa_cons (pv 3) pa_nil)) pe_int (nomark _))))) (pss_one (ps_ret (pe_op op_addX (pe_op op_addX (pe_slice (sl_K K) (pv 3) po_none (po_some (pv 5))) (pe_lst (pa_cons (pe_ix (ix_X K hr.units) (pv 3) (pe_op op_sub (pv 5) pe_int) (fun _ _ => rfl)) pa_nil))) (pe_slice (sl_K K) (pv 3) (po_some (pe_op op_addX (pv 5) pe_int)) po_none)))) pss_nil)
      (pss_cons (ps_if (PW.pt (pw_or (pt_cmpR (op_eqX hr.units) (pv 4) pe_int (nomark _)) (pw_or1 (pt_cmpR (op_eqX hr.units) (pv 2) (pe_lst pa_nil) (nomark _))))) (pss_one (ps_ret (pe_op op_addX (pe_op op_addX (pe_slice (sl_K K) (pv 3) po_none (po_some (pv 5))) (pe_lst (pa_cons (pe_ix (ix_X K hr.units) (pe_lst (pa_cons pe_non (pa_cons pe_int (pa_cons pe_str (pa_cons (pe_lst (pa_cons pe_str pa_nil)) pa_nil))))) (pe_cal c_law_take (hr.mono (by decide)) rfl (pa_cons (pv 0) (pa_cons pe_int pa_nil))) (fun _ _ => rfl)) pa_nil))) (pe_slice (sl_K K) (pv 3) (po_some (pe_op op_addX (pv 5) pe_int)) po_none)))) pss_nil)
      (pss_cons (ps_asg (pe_ix (ix_X K hr.units) (pv 2) (pe_cal c_law_take (hr.mono (by decide)) rfl (pa_cons (pv 0) (pa_cons (b_len K B (pa_cons (pv 2) pa_nil)) pa_nil))) (fun _ _ => rfl)) (pg_tupK (n := 2) K rfl (pgs_cons (pg_name (i := 6) nd rfl (Or.inr rfl)) (pgs_cons (pg_name (i := 7) nd rfl (Or.inr rfl)) pgs_nil))))
      (pss_cons (ps_setC (i := 8) nd rfl rfl (by rfl) (defScope sNoOrd) ["_law_pen", "_law_names_here", "_law_ties_here", "_law_told", "_law_kind", "_law_at", "_law_one", "_law_other", "_law_found"] ["_law_name"] [1, 7, 6] ["_law_name", "_law_names_here", "_law_other", "_law_one"] rfl (pi_listK K (pv 3)) (fun _ _ _ _ _ => (pg_name (i := 0) (show (["_law_name", "_law_names_here", "_law_other", "_law_one"] : List Str).Nodup by decide) rfl (Or.inl rfl))) (fun _ _ _ _ _ => pts_nil) (fun _ _ _ _ _ => (pe_ix (ix_X K hr.units) (pe_lst (pa_cons (pv 0) (pa_cons (pe_ix (ix_X K hr.units) (pv 1) (pv 2) (fun _ _ => rfl)) pa_nil))) (b_int B (pa_cons (pe_cmpR (op_eqX hr.units) (pv 0) (pe_ix (ix_X K hr.units) (pv 1) (pv 3) (fun _ _ => rfl)) (nomark _)) pa_nil)) (fun _ _ => rfl))))
      (pss_one (ps_ret (pe_comp (defScope sNoOrd) ["_law_pen", "_law_names_here", "_law_ties_here", "_law_told", "_law_kind", "_law_at", "_law_one", "_law_other", "_law_found"] ["_law_k", "_law_name"] [1, 6, 3, 7] ["_law_k", "_law_name", "_law_names_here", "_law_one", "_law_told", "_law_other"] rfl (pi_enumK K rfl B.enumerate (pa_cons (pv 8) pa_nil)) (fun _ _ _ _ _ => (pg_tupK (n := 2) K rfl (pgs_cons (pg_name (i := 0) (show (["_law_k", "_law_name", "_law_names_here", "_law_one", "_law_told", "_law_other"] : List Str).Nodup by decide) rfl (Or.inl rfl)) (pgs_cons (pg_name (i := 1) (show (["_law_k", "_law_name", "_law_names_here", "_law_one", "_law_told", "_law_other"] : List Str).Nodup by decide) rfl (Or.inl rfl)) pgs_nil)))) (fun _ _ _ _ _ => pts_nil) (fun _ _ _ _ _ => (pe_ix (ix_X K hr.units) (pe_lst (pa_cons (pv 1) (pa_cons (pe_ix (ix_X K hr.units) (pv 2) (pv 3) (fun _ _ => rfl)) pa_nil))) (b_int B (pa_cons (pe_cmpR (op_eqX hr.units) (pe_ix (ix_X K hr.units) (pv 4) (pv 0) (fun _ _ => rfl)) (pe_ix (ix_X K hr.units) (pv 2) (pv 5) (fun _ _ => rfl)) (nomark _)) pa_nil)) (fun _ _ => rfl))))))))))))))), ?_⟩
    apply once2 (C := fun _ H' => PenV H' p a ∧ But p H H')
    · intro tail
      refine ⟨_, rfl, p, a, 6, rfl, hP, by decide, by decide, fun kd H1 hk0 hk1 v1 e1 => ?_⟩
      have b1 := But.of_eq e1
      obtain ⟨kd, rfl⟩ := Int.eq_ofNat_of_zero_le hk0
      refine ⟨_, rfl, .sc rfl ⟨_, rfl, ?_⟩⟩
      refine ite2 (fun h => iteT ?_) (fun h => ?_)
      · exact tail kd H1 ⟨v1, b1⟩
      refine ⟨_, rfl, (by show 0 ≤ sizeLine; decide), fun le hle => ?_⟩
      have se := Same.new (o := .lst []) hle
      have o1 := (e1 o hop).trans ho
      refine .tr (.lst (se _ _ o1) (RepAll.of_strs us)) (.lst upd_same .nil) (shp_names hus) (by rfl) ⟨_, rfl, ?_⟩
      have v2 := penSame se v1
      have b2 := b1.trans (But.of_same (p := p) se)
      have o2 := se _ _ o1
      generalize upd H1 le (.lst []) = H2 at v2 b2 o2 ⊢
      refine ite2 (fun h => ?_) (fun h => ?_)
      · exact tail kd H2 ⟨v2, b2⟩
      have hne : us ≠ [] := fun z => h (by subst z; rfl)
      have hu0 : 0 < us.length := List.length_pos_iff.mpr hne
      clear tail h
      refine ⟨_, rfl, _, rfl, _, _, rfl, Or.inl ⟨_, .of o2, rfl⟩, p, a, _, rfl, hP.but b2 v2, by rw [mln]; omega, by rw [mln]; omega, fun r H3 h30 h31 v3 e3 => ?_⟩
      have b3 := b2.trans (But.of_eq e3)
      have o3 := (e3 o hop).trans o2
      obtain ⟨at_, rfl⟩ := Int.eq_ofNat_of_zero_le h30
      have hat : at_ < us.length := by rw [mln] at h31; omega
      clear h30 h31
      have fin : ∀ (xs : List V) (l : Addr) (H' : Hp), H' l = some (.lst xs) → l ≠ p → xs.length ≤ 62 → (∀ x ∈ xs, Sx H' x) → ordL ss (es.map (nmP ss)) xs = false → PenV H' p a → But p H H' → Q (.ref l) H' := fun xs l H' hl hp hx hs ho v b =>
        k _ _ (.lst hl hp hx hs) (by rw [ordB_lst hl]; exact ho) v b
      have xat := str_at hat
      have tkm : ∀ {j : Nat}, ∀ x ∈ (List.map V.str us).take j, x ∈ List.map V.str us := fun x hx => List.mem_of_mem_take hx
      have drm : ∀ {j : Nat}, ∀ x ∈ (List.map V.str us).drop j, x ∈ List.map V.str us := fun x hx => List.mem_of_mem_drop hx
      refine ⟨_, rfl, .sc rfl ⟨_, rfl, ite2 (fun h1 => ?_) (fun h1 => ?_)⟩⟩
      · refine ⟨_, rfl, _, rfl, _, rfl, .lst (.of o3) fun l1 h1 => ?_⟩
        rw [cutV_to _ at_ (by omega)]
        have s1 := Same.new (o := .lst ((List.map V.str us).take at_)) h1
        have e1 : upd H3 l1 (.lst ((List.map V.str us).take at_)) l1 = some (.lst ((List.map V.str us).take at_)) := upd_same
        generalize upd H3 l1 (.lst ((List.map V.str us).take at_)) = H4 at s1 e1 ⊢
        refine ⟨_, rfl, _, rfl, .int ⟨_, rfl, .lst (.of (s1 _ _ o3)) fun l2 h2 => ?_⟩⟩
        rw [show (at_ : Int) + 1 = ((at_ + 1 : Nat) : Int) by omega, cutV_from]
        have s2 := Same.new (o := .lst ((List.map V.str us).drop (at_ + 1))) h2
        refine .lst (s2 _ _ e1) upd_same (by rw [List.length_take, List.length_drop]; omega) fun l3 h3 => ?_
        have s3 := Same.new (o := .lst ((List.map V.str us).take at_ ++ (List.map V.str us).drop (at_ + 1))) h3
        have s13 := (s1.trans s2).trans s3
        have hl : ((List.map V.str us).take at_ ++ (List.map V.str us).drop (at_ + 1)).length + 1 = us.length := by rw [List.length_append, List.length_take, List.length_drop, mln]; omega
        refine fin _ l3 _ upd_same (Ne.symm ((penSame (s1.trans s2) v3).ne h3)) (by omega) (sxs _ fun x hx => ?_) (ordL_len (by omega)) (penSame s13 v3) (b3.trans (But.of_same (p := p) s13))
        rcases List.mem_append.mp hx with q | q
        · exact tkm x q
        · exact drm x q
      refine ⟨_, rfl, .sc rfl ⟨_, rfl, ite2 (fun h2 => ?_) (fun h2 => ?_)⟩⟩
      · refine ⟨_, rfl, _, rfl, _, rfl, .lst (.of o3) fun l1 h1 => ?_⟩
        rw [cutV_to _ at_ (by omega)]
        have s1 := Same.new (o := .lst ((List.map V.str us).take at_)) h1
        have e1 : upd H3 l1 (.lst ((List.map V.str us).take at_)) l1 = some (.lst ((List.map V.str us).take at_)) := upd_same
        generalize upd H3 l1 (.lst ((List.map V.str us).take at_)) = H4 at s1 e1 ⊢
        refine ⟨_, rfl, _, rfl, .lst (.of (s1 _ _ o3)) xat ⟨(by show 1 ≤ sizeLine; decide), fun l2 h2 => ?_⟩⟩
        have s2 := Same.new (o := .lst [V.str (us.getD at_ "")]) h2
        refine .lst (s2 _ _ e1) upd_same (by rw [List.length_take]; show _ + 1 ≤ _; omega) fun l3 h3 => ?_
        have s3 := Same.new (o := .lst ((List.map V.str us).take at_ ++ [V.str (us.getD at_ "")])) h3
        have e3 : upd (upd H4 l2 (.lst [V.str (us.getD at_ "")])) l3 (.lst ((List.map V.str us).take at_ ++ [V.str (us.getD at_ "")])) l3 = some (.lst ((List.map V.str us).take at_ ++ [V.str (us.getD at_ "")])) := upd_same
        have sA := s1.trans (s2.trans s3)
        generalize upd (upd H4 l2 (.lst [V.str (us.getD at_ "")])) l3 (.lst ((List.map V.str us).take at_ ++ [V.str (us.getD at_ "")])) = H5 at sA e3 ⊢
        refine ⟨_, rfl, _, rfl, _, rfl, .lst (.of (sA _ _ o3)) fun l4 h4 => ?_⟩
        rw [cutV_from]
        have s4 := Same.new (o := .lst ((List.map V.str us).drop at_)) h4
        refine .lst (s4 _ _ e3) upd_same (by simp only [List.length_append, List.length_take, List.length_drop]; show _ + 1 + _ ≤ _; omega) fun l5 h5 => ?_
        have s5 := Same.new (o := .lst ((List.map V.str us).take at_ ++ [V.str (us.getD at_ "")] ++ (List.map V.str us).drop at_)) h5
        have sB := sA.trans (s4.trans s5)
        have hl : ((List.map V.str us).take at_ ++ [V.str (us.getD at_ "")] ++ (List.map V.str us).drop at_).length = us.length + 1 := by rw [List.length_append, List.length_append, List.length_take, List.length_drop, mln]; show _ + 1 + _ = _; omega
        refine fin _ l5 _ upd_same (Ne.symm ((penSame (sA.trans s4) v3).ne h5)) (by omega) (sxs _ fun x hx => ?_) (ordL_len (by omega)) (penSame sB v3) (b3.trans (But.of_same (p := p) sB))
        rcases List.mem_append.mp hx with q | q
        · rcases List.mem_append.mp q with q | q
          · exact tkm x q
          · rw [List.mem_singleton.mp q]; exact List.mem_map.mpr ⟨_, mem_getD hat, rfl⟩
        · exact drm x q
      apply onceU
      · intro tail
        refine ⟨_, rfl, .sc rfl ⟨_, rfl, ite2 (fun h3 => ?_) (fun h3 => ?_)⟩⟩
        · refine ⟨_, rfl, _, _, rfl, Or.inl ⟨_, .of o3, rfl⟩, _, _, rfl, rfl, _, rfl, ite2 (fun h4 => ?_) (fun h4 => ?_)⟩
          · have h4 : (1 : Int) < (((List.map V.str us).length : Nat) : Int) := of_decide_eq_true h4
            rw [mln] at h4
            obtain ⟨j, hj, hja, xj⟩ := at_back hat (by omega)
            have hd := dup_at hj hja
            have hmem := mem_getD hj
            generalize us.getD j "" = z at xj hd hmem
            refine ⟨_, rfl, _, rfl, _, rfl, .lst (.of o3) fun l1 h1 => ?_⟩
            rw [cutV_to _ at_ (by omega)]
            have s1 := Same.new (o := .lst ((List.map V.str us).take at_)) h1
            have e1 : upd H3 l1 (.lst ((List.map V.str us).take at_)) l1 = some (.lst ((List.map V.str us).take at_)) := upd_same
            generalize upd H3 l1 (.lst ((List.map V.str us).take at_)) = H4 at s1 e1 ⊢
            refine ⟨_, rfl, _, rfl, _, _, rfl, rfl, .lst (.of (s1 _ _ o3)) xj ⟨(by show 1 ≤ sizeLine; decide), fun l2 h2 => ?_⟩⟩
            have s2 := Same.new (o := .lst [V.str z]) h2
            refine .lst (s2 _ _ e1) upd_same (by rw [List.length_take]; show _ + 1 ≤ _; omega) fun l3 h3 => ?_
            have s3 := Same.new (o := .lst ((List.map V.str us).take at_ ++ [V.str z])) h3
            have e3 : upd (upd H4 l2 (.lst [V.str z])) l3 (.lst ((List.map V.str us).take at_ ++ [V.str z])) l3 = some (.lst ((List.map V.str us).take at_ ++ [V.str z])) := upd_same
            have sA := s1.trans (s2.trans s3)
            generalize upd (upd H4 l2 (.lst [V.str z])) l3 (.lst ((List.map V.str us).take at_ ++ [V.str z])) = H5 at sA e3 ⊢
            refine ⟨_, rfl, _, rfl, .int ⟨_, rfl, .lst (.of (sA _ _ o3)) fun l4 h4 => ?_⟩⟩
            rw [show (at_ : Int) + 1 = ((at_ + 1 : Nat) : Int) by omega, cutV_from]
            have s4 := Same.new (o := .lst ((List.map V.str us).drop (at_ + 1))) h4
            refine .lst (s4 _ _ e3) upd_same (by simp only [List.length_append, List.length_take, List.length_drop]; show _ + 1 + _ ≤ _; omega) fun l5 h5 => ?_
            have s5 := Same.new (o := .lst ((List.map V.str us).take at_ ++ [V.str z] ++ (List.map V.str us).drop (at_ + 1))) h5
            have sB := sA.trans (s4.trans s5)
            refine fin _ l5 _ upd_same (Ne.symm ((penSame (sA.trans s4) v3).ne h5)) (by simp only [List.length_append, List.length_take, List.length_drop, mln]; show _ + 1 + _ ≤ _; omega) (sxs _ fun x hx => ?_) ?_ (penSame sB v3) (b3.trans (But.of_same (p := p) sB))
            · rcases List.mem_append.mp hx with q | q
              · rcases List.mem_append.mp q with q | q
                · exact tkm x q
                · rw [List.mem_singleton.mp q]; exact List.mem_map.mpr ⟨_, hmem, rfl⟩
              · exact drm x q
            · have e : (List.map V.str us).take at_ ++ [V.str z] ++ (List.map V.str us).drop (at_ + 1) = List.map V.str (us.take at_ ++ [z] ++ us.drop (at_ + 1)) := by simp [List.map_take, List.map_drop]
              rw [e]
              exact ordL_dup hd
          · exact tail ()
        · exact iteF (tail ())
      · revert H3
        apply once2 (C := fun _ H' => PenV H' p a ∧ But p H H')
        · intro tail H3 v3 e3 b3 o3
          obtain ⟨y0, _⟩ : ∃ y : Nat, y = 0 := ⟨0, rfl⟩
          obtain ⟨rt, ht, rp⟩ := hB.ti
          obtain ⟨_, hpv⟩ := penAt v0
          refine ⟨_, rfl, .sc rfl ⟨_, rfl, ite2 (fun h4 => iteT ?_) (fun h4 => ?_)⟩⟩
          · exact tail y0 H3 ⟨v3, b3⟩
          · refine ⟨_, rfl, (by show 0 ≤ sizeLine; decide), fun le hle => ?_⟩
            have se := Same.new (o := .lst []) hle
            have t3 := b3 t _ htp ht
            have rp3 := RepAll.tieBut hpv b3 rp
            refine .tr (.lst (se _ _ t3) (rp3.same se)) (.lst upd_same .nil) (shp_ties es) (by rfl) ⟨_, rfl, ?_⟩
            have v4 := penSame se v3
            have b4 := b3.trans (But.of_same (p := p) se)
            have o4 := se _ _ o3
            have t4 := se _ _ t3
            have rp4 := rp3.same se
            generalize upd H3 le (.lst []) = H4 at v4 b4 o4 t4 rp4 ⊢
            refine ite2 (fun h5 => ?_) (fun h5 => ?_)
            · exact tail y0 H4 ⟨v4, b4⟩
            · have hes : es ≠ [] := fun z => h5 (by subst z; rfl)
              have hel := List.length_pos_iff.mpr hes
              have few := hB.few
              have rlen := rp4.len
              rw [List.length_map] at rlen
              clear tail
              refine ⟨_, rfl, _, rfl, _, rfl, _, _, rfl, Or.inl ⟨_, .of t4, rfl⟩, p, a, _, rfl, hP.but b4 v4, by omega, by omega, fun r H5 h50 h51 v5 e5 => ?_⟩
              obtain ⟨j, rfl⟩ := Int.eq_ofNat_of_zero_le h50
              obtain ⟨x, hx⟩ : ∃ x, rt[j]? = some x := ⟨_, List.getElem?_eq_getElem (by omega)⟩
              have b5 := b4.trans (But.of_eq e5)
              obtain ⟨e, ta, he, rfl, hta⟩ := tie_get (RepAll.tieBut hpv b5 rp) hx
              have hn5 := b5 n _ hnp hB.nm
              have o5 := (e5 o hop).trans o4
              refine .lst (.of ((e5 t htp).trans t4)) (atI_nat hx) ⟨ta, _, rfl, .of hta, rfl, _, _, rfl, _, _, rfl, rfl, ?_⟩
              have hev := hB.val e (List.mem_of_getElem? he)
              have ax := str_at hev.1
              have ay := str_at hev.2
              have hxm := mem_getD hev.1
              have hym := mem_getD hev.2
              have hin : (ss.getD e.1 "", ss.getD e.2 "") ∈ es.map (nmP ss) := List.mem_map.mpr ⟨e, List.mem_of_getElem? he, rfl⟩
              generalize ss.getD e.1 "" = x1 at ax hxm hin
              generalize ss.getD e.2 "" = y1 at ay hym hin
              refine ⟨_, rfl, o, rfl, ⟨_, .of o5⟩, ?_⟩
              refine comp_list (List.map V.str us) (fun D i acc σ' H' => ∃ o0, σ' = [o0, some (.ref n), some (.int ((e.2 : Nat) : Int)), some (.int ((e.1 : Nat) : Int))] ∧ acc = List.map V.str ((us.take i).map fun z => if z = x1 then y1 else z) ∧ Same H5 H' ∧ H5 D = none) fun D hD => ⟨?_, ?_, ?_, ?_⟩
              · exact ⟨none, rfl, rfl, Same.new hD, hD⟩
              · rintro i acc σ' H' _ ⟨o0, rfl, _, sm, _⟩ _
                exact .of (sm _ _ o5)
              · rintro i acc σ' H' v hv ⟨o0, rfl, rfl, sm, hD0⟩ hacc
                obtain ⟨u, hu, rfl⟩ := str_get hv
                have hil := (List.getElem?_eq_some_iff.mp hu).1
                refine gYes ?_
                refine ⟨_, rfl, _, rfl, _, rfl, .lst (.of (sm _ _ hn5)) ay ⟨(by show 2 ≤ sizeLine; decide), fun l hl => ?_⟩⟩
                have sl := Same.new (o := .lst [V.str u, V.str y1]) hl
                refine ⟨_, rfl, _, rfl, _, rfl, .lst (.of (sl _ _ (sm _ _ hn5))) ax (.sc rfl ⟨_, rfl, ?_⟩)⟩
                refine .bl (.lst (.of upd_same) pick_at ⟨sl _ _ hacc, by rw [List.length_map, List.length_map, List.length_take]; omega, _, rfl, ?_, same_at (sm.trans sl) hD0, hD0⟩)
                rw [List.take_add_one, hu, List.map_append, List.map_append]; rfl
              · rintro acc σ' H6 ⟨o0, rfl, rfl, sm, hD0⟩ hacc
                rw [mln, List.take_of_length_le (Nat.le_refl _)] at hacc
                have o6 := sm _ _ o5
                have hn6 := sm _ _ hn5
                have v6 := penSame sm v5
                have b6 := b5.trans (But.of_same (p := p) sm)
                generalize hfs : (us.map fun z => if z = x1 then y1 else z) = fs at hacc
                have fl : (List.map V.str fs).length = us.length := by rw [List.length_map, ← hfs, List.length_map]
                refine ⟨_, rfl, D, rfl, ⟨_, .of hacc⟩, ?_⟩
                refine comp_enum (List.map V.str fs) (fun D2 i acc σ' H' => ∃ o0 o1, σ' = [o0, o1, some (.ref n), some (.int ((e.1 : Nat) : Int)), some (.ref o), some (.int ((e.2 : Nat) : Int))] ∧ acc = List.map V.str ((us.take i).map (swp x1 y1)) ∧ Same H6 H' ∧ H6 D2 = none) fun D2 hD2 => ⟨?_, ?_, ?_, ?_⟩
                · exact ⟨none, none, rfl, rfl, Same.new hD2, hD2⟩
                · rintro i acc σ' H' _ ⟨o0, o1, rfl, _, sm, _⟩ _
                  exact .of (sm _ _ hacc)
                · rintro i acc σ' H' v pp hv ⟨o0, o1, rfl, rfl, sm, hD0⟩ hacc2 hpp
                  have sp := Same.new (o := .tup [V.int (i : Int), v]) hpp
                  rw [← hfs, List.map_map] at hv
                  have hil := (List.getElem?_eq_some_iff.mp hv).1
                  rw [List.length_map] at hil
                  obtain ⟨u, hu⟩ : ∃ u, us[i]? = some u := ⟨_, List.getElem?_eq_getElem hil⟩
                  rw [List.getElem?_map, hu] at hv
                  have hv : V.str (if u = x1 then y1 else u) = v := Option.some.inj hv
                  subst hv
                  refine gYes2 rfl (.of upd_same) ?_
                  refine ⟨_, rfl, _, rfl, _, rfl, .lst (.of (sp _ _ (sm _ _ hn6))) ax ⟨(by show 2 ≤ sizeLine; decide), fun l hl => ?_⟩⟩
                  have sl := Same.new (o := .lst [V.str (if u = x1 then y1 else u), V.str x1]) hl
                  have sA := sp.trans sl
                  refine ⟨_, rfl, _, rfl, .lst (.of (sA _ _ (sm _ _ o6))) (atI_nat (by simp [hu]) : atI _ (i : Int) = some (V.str u)) ⟨_, rfl, _, rfl, .lst (.of (sA _ _ (sm _ _ hn6))) ay (.sc rfl ⟨_, rfl, ?_⟩)⟩⟩
                  refine .bl (.lst (.of upd_same) pick_at ⟨sA _ _ hacc2, by rw [List.length_map, List.length_map, List.length_take]; omega, _, _, rfl, ?_, same_at (sm.trans sA) hD0, hD0⟩)
                  rw [List.take_add_one, hu, List.map_append, List.map_append]; rfl
                · rintro acc σ' H7 ⟨o0, o1, rfl, rfl, sm7, hD0⟩ hacc2
                  rw [fl, List.take_of_length_le (Nat.le_refl _)] at hacc2
                  refine fin _ D2 _ hacc2 (fun z => by obtain ⟨_, q⟩ := penAt v6; rw [z, q] at hD0; cases hD0) (by rw [List.length_map, List.length_map]; omega) (fun v hv => ?_) (ordL_swp hord hin hxm hym) (penSame sm7 v6) (b6.trans (But.of_same (p := p) sm7))
                  obtain ⟨z, hz, rfl⟩ := List.mem_map.mp hv
                  obtain ⟨u, hu, rfl⟩ := List.mem_map.mp hz
                  have : Nm (swp x1 y1 u) := by
                    unfold swp
                    split
                    · exact hB.ok _ hxm
                    · split
                      · exact hB.ok _ hym
                      · exact hus u hu
                  exact .str (Nat.le_trans this.2.1 (by decide)) this.asc
        · rintro y HA ⟨vA, bA⟩
          have oA := bA o _ hop ho
          refine ⟨_, rfl, _, rfl, _, rfl, .lst (.of oA) fun l1 h1 => ?_⟩
          rw [cutV_to _ at_ (by omega)]
          have s1 := Same.new (o := .lst ((List.map V.str us).take at_)) h1
          have e1 : upd HA l1 (.lst ((List.map V.str us).take at_)) l1 = some (.lst ((List.map V.str us).take at_)) := upd_same
          have np1 : l1 ≠ p := Ne.symm (vA.ne h1)
          generalize upd HA l1 (.lst ((List.map V.str us).take at_)) = H4 at s1 e1 ⊢
          refine ⟨(by show 1 ≤ sizeLine; decide), fun l2 h2 => ?_⟩
          have s2 := Same.new (o := .lst [V.str "a"]) h2
          have e2 : upd H4 l2 (.lst [V.str "a"]) l2 = some (.lst (List.map V.str ["a"])) := upd_same
          have e1 := s2 _ _ e1
          have np2 : l2 ≠ p := Ne.symm ((penSame s1 vA).ne h2)
          have s12 := s1.trans s2
          generalize upd H4 l2 (.lst [V.str "a"]) = H5 at s12 e1 e2 ⊢
          refine ⟨(by show 4 ≤ sizeLine; decide), fun l3 h3 => ?_⟩
          have s3 := Same.new (o := .lst [V.non, V.int 3, V.str "", V.ref l2]) h3
          have e3 : upd H5 l3 (.lst [V.non, V.int 3, V.str "", V.ref l2]) l3 = some (.lst [V.non, V.int 3, V.str "", V.ref l2]) := upd_same
          have e1 := s3 _ _ e1
          have e2 := s3 _ _ e2
          have np3 : l3 ≠ p := Ne.symm ((penSame s12 vA).ne h3)
          have s13 := s12.trans s3
          generalize upd H5 l3 (.lst [V.non, V.int 3, V.str "", V.ref l2]) = H6 at s13 e1 e2 e3 ⊢
          refine ⟨_, rfl, p, a, 4, rfl, hP.but (bA.trans (But.of_same (p := p) s13)) (penSame s13 vA), by decide, by decide, fun r2 H7 h20 h21 v7 e7 => ?_⟩
          have e1 := (e7 l1 np1).trans e1
          have e2 := (e7 l2 np2).trans e2
          have e3 := (e7 l3 np3).trans e3
          have oB := (e7 o hop).trans (s13 _ _ oA)
          have b7 := (bA.trans (But.of_same (p := p) s13)).trans (But.of_eq e7)
          obtain ⟨z, hz, hs, hi⟩ : ∃ z, atI [V.non, V.int 3, V.str "", V.ref l2] r2 = some z ∧ Sx H7 z ∧ inSS ss z = false := by
            have : r2 = 0 ∨ r2 = 1 ∨ r2 = 2 ∨ r2 = 3 := by omega
            rcases this with rfl | rfl | rfl | rfl
            · exact ⟨_, rfl, .non, rfl⟩
            · exact ⟨_, rfl, .int (by decide) (by decide), rfl⟩
            · refine ⟨_, rfl, .str (by decide) (asc_of (by decide)), ?_⟩
              refine Bool.eq_false_iff.mpr fun q => ?_
              have q : ("" : Str) ∈ ss := by
                obtain ⟨ws, e, hw⟩ := all_inSS (ss := ss) (xs := [V.str ""]) (by simp [q])
                cases ws with
                | nil => cases e
                | cons w ws =>
                  injection e with e1 _
                  injection e1 with e1
                  rw [e1]; exact hw w (by simp)
              exact absurd (hB.ok _ q).1 (by decide)
            · exact ⟨_, rfl, .lst e2 (by decide) (fun w hw => by rw [List.mem_singleton.mp hw]; exact ⟨by decide, asc_of (by decide)⟩), rfl⟩
          refine .lst (.of e3) hz ⟨(by show 1 ≤ sizeLine; decide), fun l4 h4 => ?_⟩
          have s4 := Same.new (o := .lst [z]) h4
          refine .lst (s4 _ _ e1) upd_same (by rw [List.length_take]; show _ + 1 ≤ _; omega) fun l5 h5 => ?_
          have s5 := Same.new (o := .lst ((List.map V.str us).take at_ ++ [z])) h5
          have e5 : upd (upd H7 l4 (.lst [z])) l5 (.lst ((List.map V.str us).take at_ ++ [z])) l5 = some (.lst ((List.map V.str us).take at_ ++ [z])) := upd_same
          have sA := s4.trans s5
          generalize upd (upd H7 l4 (.lst [z])) l5 (.lst ((List.map V.str us).take at_ ++ [z])) = H8 at sA e5 ⊢
          refine ⟨_, rfl, _, rfl, .int ⟨_, rfl, .lst (.of (sA _ _ oB)) fun l6 h6 => ?_⟩⟩
          rw [show (at_ : Int) + 1 = ((at_ + 1 : Nat) : Int) by omega, cutV_from]
          have s6 := Same.new (o := .lst ((List.map V.str us).drop (at_ + 1))) h6
          refine .lst (s6 _ _ e5) upd_same (by simp only [List.length_append, List.length_take, List.length_drop]; show _ + 1 + _ ≤ _; omega) fun l7 h7 => ?_
          have s7 := Same.new (o := .lst ((List.map V.str us).take at_ ++ [z] ++ (List.map V.str us).drop (at_ + 1))) h7
          have sB := sA.trans (s6.trans s7)
          refine fin _ l7 _ upd_same (Ne.symm ((penSame (sA.trans s6) v7).ne h7)) (by simp only [List.length_append, List.length_take, List.length_drop, mln]; show _ + 1 + _ ≤ _; omega) (fun x hx => ?_) (ordL_bad (x := z) (by simp) hi) (penSame sB v7) (b7.trans (But.of_same (p := p) sB))
          rcases List.mem_append.mp hx with q | q
          · rcases List.mem_append.mp q with q | q
            · exact sxs _ (fun x hx => tkm x hx) x q
            · rw [List.mem_singleton.mp q]; exact hs.same sB
          · exact sxs _ (fun x hx => drm x hx) x q
    · rintro y HA ⟨vA, bA⟩
      have oA := bA o _ hop ho
      refine ⟨_, rfl, o, _, rfl, .of oA, fun l1 h1 => ?_⟩
      have s1 := Same.new (o := .tup (List.map V.str us)) h1
      have e1 : upd HA l1 (.tup (List.map V.str us)) l1 = some (.tup (List.map V.str us)) := upd_same
      have f6 := s1 _ _ oA
      have np1 : l1 ≠ p := Ne.symm (vA.ne h1)
      generalize upd HA l1 (.tup (List.map V.str us)) = H6 at s1 e1 f6 ⊢
      refine ⟨_, rfl, (by show 1 ≤ sizeLine; decide), fun l2 h2 => ?_⟩
      have s2 := Same.new (o := .lst [V.str "zzzzzzzz"]) h2
      refine .lst (s2 _ _ f6) upd_same (by rw [mln]; show _ + 1 ≤ _; omega) fun l3 h3 => ?_
      have s3 := Same.new (o := .lst (List.map V.str us ++ [V.str "zzzzzzzz"])) h3
      have np3 : l3 ≠ p := Ne.symm ((penSame (s1.trans s2) vA).ne h3)
      have e3 : upd (upd H6 l2 (.lst [V.str "zzzzzzzz"])) l3 (.lst (List.map V.str us ++ [V.str "zzzzzzzz"])) l3 = some (.lst (List.map V.str us ++ [V.str "zzzzzzzz"])) := upd_same
      have e1 := (s2.trans s3) _ _ e1
      have f7 := (s2.trans s3) _ _ f6
      have s13 := (s1.trans s2).trans s3
      generalize upd (upd H6 l2 (.lst [V.str "zzzzzzzz"])) l3 (.lst (List.map V.str us ++ [V.str "zzzzzzzz"])) = H7 at s13 e1 e3 f7 ⊢
      have hemp : ("" : Str).length = 0 := by decide
      have hjl := len_join ("" : Str) us
      have hsum := sumN_le (n := 8) us fun y hy => (hus y hy).2.1
      rw [hemp] at hjl
      refine ⟨rfl, _, rfl, _, o, us, rfl, rfl, f7, by rw [hemp]; omega, ?_⟩
      have htx : (Txt.join "" us).length ≤ 600 := by omega
      have hta : Asc (Txt.join "" us) := Asc.join (fun c hc => by cases hc) fun y hy => (hus y hy).asc
      generalize Txt.join "" us = tx at htx hta ⊢
      intro ld hld
      have s4 := Same.new (o := .dK []) hld
      have e4 : upd H7 ld (.dK []) ld = some (.dK []) := upd_same
      have e1 := s4 _ _ e1
      have e3 := s4 _ _ e3
      have np4 : ld ≠ p := Ne.symm ((penSame s13 vA).ne hld)
      have s14 := s13.trans s4
      generalize upd H7 ld (.dK []) = H8 at s14 e1 e3 e4 ⊢
      refine ⟨(by show 5 ≤ sizeLine; decide), fun lr hlr => ?_⟩
      have sr := Same.new (o := .lst [V.non, V.ref l1, V.ref l3, V.str tx, V.ref ld]) hlr
      have er : upd H8 lr (.lst [V.non, V.ref l1, V.ref l3, V.str tx, V.ref ld]) lr = some (.lst [V.non, V.ref l1, V.ref l3, V.str tx, V.ref ld]) := upd_same
      have e1 := sr _ _ e1
      have e3 := sr _ _ e3
      have e4 := sr _ _ e4
      have npr : lr ≠ p := Ne.symm ((penSame s14 vA).ne hlr)
      have s15 := s14.trans sr
      generalize upd H8 lr (.lst [V.non, V.ref l1, V.ref l3, V.str tx, V.ref ld]) = H9 at s15 er e1 e3 e4 ⊢
      have vA := penSame s15 vA
      have bA := bA.trans (But.of_same (p := p) s15)
      refine ⟨_, rfl, p, a, 5, rfl, hP.but bA vA, by decide, by decide, fun r2 HB h20 h21 vB eB => ?_⟩
      have bB := bA.trans (But.of_eq eB)
      have e1 := (eB l1 np1).trans e1
      have e3 := (eB l3 np3).trans e3
      have e4 := (eB ld np4).trans e4
      have er := (eB lr npr).trans er
      have hss : ∀ u ∈ us, u.length ≤ 9 ∧ Asc u := fun u hu => ⟨Nat.le_trans (hus u hu).2.1 (by decide), (hus u hu).asc⟩
      obtain ⟨x, hx, hb, hq⟩ : ∃ x, atI [V.non, V.ref l1, V.ref l3, V.str tx, V.ref ld] r2 = some x ∧ Bd p HB x ∧ ordB HB ss (es.map (nmP ss)) x = false := by
        have : r2 = 0 ∨ r2 = 1 ∨ r2 = 2 ∨ r2 = 3 ∨ r2 = 4 := by omega
        rcases this with rfl | rfl | rfl | rfl | rfl
        · exact ⟨_, rfl, .non, rfl⟩
        · exact ⟨_, rfl, .tup e1 np1 hul hss, ordB_not (isL_not e1 (fun _ z => by cases z))⟩
        · refine ⟨_, rfl, .lst e3 np3 (by rw [List.length_append, mln]; show _ + 1 ≤ _; omega) fun x hx => ?_, by rw [ordB_lst e3]; exact ordL_len (by rw [List.length_append, mln]; show _ + 1 ≠ _; omega)⟩
          rcases List.mem_append.mp hx with q | q
          · exact sxs HB (fun x hx => hx) x q
          · rw [List.mem_singleton.mp q]; exact .str (by decide) (asc_of (by decide))
        · exact ⟨_, rfl, .str htx hta, rfl⟩
        · exact ⟨_, rfl, .dic e4 np4, ordB_not (isL_not e4 (fun _ z => by cases z))⟩
      exact .lst (.of er) hx (k x HB hb hq vB bB)
end
end K18
namespace K18
open PySem L2
section
variable {P : Program} {w : World} {K : PySem.W.Frag} {mg : Str → Option Value} {base : Heap}
theorem scSame : FnScope ["_law_found", "_law_due_here"] ["_law_found", "_law_due_here"] (defScope sSame) := ⟨rfl, rfl, rfl, by decide +kernel, rfl, by decide +kernel, by decide +kernel⟩
theorem ok_same {f : Addr} {fd : FuncData} (F : Fun K "_law_same" "_law_same" sSame f fd) (B : Blt mg) : FnOk P w K mg base CX0 1 f fd ["_law_found", "_law_due_here"] spSame := by
  refine F.ok scSame (fun vs H Q E h => ?_) (fun cdv A outer s H vs Q E hr h => ?_)
  · obtain ⟨x, y, d, rfl, _⟩ := h
    rfl
  · obtain ⟨x, y, d, rfl, r1, r2, S, k⟩ := h
    have nd := scSame.nd
    refine ⟨_, (pss_one (ps_ret (pe_and (pe_cmpR (op_eqX hr.units) (pv 0) (pv 1) (nomark _)) (pe_one (pe_cmpR (op_eqX hr.units) (b_repr hr.gd hr.units B (pa_cons (pv 0) pa_nil)) (b_repr hr.gd hr.units B (pa_cons (pv 1) pa_nil)) (nomark _)))))), ?_⟩
    refine ⟨_, rfl, _, rfl, .tr r1 r2 S.sh S.sh ?_⟩
    rw [eqv_shp S.sh]
    refine ⟨_, rfl, ?_⟩
    refine ite2 (fun _ => ?_) (fun h => absurd rfl h)
    refine ⟨_, rfl, _, rfl, .tr r1 S.sb S.hd S.dp S.ln ⟨_, rfl, _, rfl, .tr r2 S.sb S.hd S.dp S.ln (.sc rfl ?_)⟩⟩
    have : decide (V.str d.shown = V.str d.shown) = true := decide_eq_true rfl
    show Q (.bl (decide (V.str d.shown = V.str d.shown))) _
    rw [this]
    exact k
end
end K18
namespace K18
open PySem L2
section
variable {P : Program} {w : World} {K : PySem.W.Frag} {mg : Str → Option Value} {base : Heap}
theorem shw_told {xs : List Nat} (h : ∀ x ∈ xs, x < 60) (hl : xs.length ≤ 3600) : Shw (numsD xs) := by
  refine (Sw.list (n := 41) (k := 0) fun d hd => ?_).shw (by decide) ?_
  · obtain ⟨x, hx, rfl⟩ := List.mem_map.mp hd
    have := h x hx
    have h40 : (60 : Nat) < 10 ^ 40 := by decide
    exact sw_int (by omega)
  · rw [List.length_map]
    have : 2 + xs.length * (41 + 2) ≤ 200000 := by omega
    exact Nat.le_trans this (by decide)
noncomputable def spRight (K : PySem.W.Frag) : Sp := fun vs H Q _ => ∃ (p a q n t lo l1 l2 : Addr) (ss os ot : List Str) (es : List (Nat × Nat)), vs = [.ref p, .ref q, .ref n, .ref t, .ref lo] ∧ Pen K H p a ∧ Web H (.ref q) ss (es.map (nmP ss)) ∧ Built H n t ss es ∧ n ≠ p ∧ t ≠ p ∧
  H lo = some (.lst [.ref l1, .ref l2]) ∧ H l1 = some (.lst (List.map V.str os)) ∧ H l2 = some (.lst (List.map V.str ot)) ∧ l1 ≠ p ∧ l2 ≠ p ∧ ordL ss (es.map (nmP ss)) (List.map V.str os) = true ∧ ordL ss (es.map (nmP ss)) (List.map V.str ot) = true ∧
  ∀ H', PenV H' p a → But p H H' → Q (.bl true) H'
theorem scRight : FnScope ["_law_pen", "_law_web_here", "_law_names_here", "_law_ties_here", "_law_orders", "_law_one", "_law_other", "_law_due_here", "_law_again", "_law_told", "_law_bad", "_law_kept"] ["_law_pen", "_law_web_here", "_law_names_here", "_law_ties_here", "_law_orders"] (defScope sRight) := ⟨rfl, rfl, rfl, by decide +kernel, rfl, by decide +kernel, by decide +kernel⟩
theorem ok_right {f : Addr} {fd : FuncData} (F : Fun K "_law_right" "_law_right" sRight f fd) (B : Blt mg) (c_law_due : Cal P w K mg base 1 "_law_due" ["_law_one", "_law_other"] spDue) (cexchanges : Cal P w K mg base 4 "exchanges" ["web", "one", "other"] spExchs) (c_law_same : Cal P w K mg base 1 "_law_same" ["_law_found", "_law_due_here"] spSame) (cled : Cal P w K mg base 2 "led" ["order", "some"] spLed)
    (c_law_no_order : Cal P w K mg base 2 "_law_no_order" ["_law_pen", "_law_names_here", "_law_ties_here", "_law_told"] (spNoOrd K)) (c_law_refused : Cal P w K mg base 5 "_law_refused" ["_law_web_here", "_law_one", "_law_other"] (spRefused (badO ioK))) :
    FnOk P w K mg base CX0 6 f fd ["_law_pen", "_law_web_here", "_law_names_here", "_law_ties_here", "_law_orders"] (spRight K) := by
  refine F.ok scRight (fun vs H Q E h => ?_) (fun cdv A outer s H vs Q E hr h => ?_)
  · obtain ⟨p, a, q, n, t, lo, l1, l2, ss, os, ot, es, rfl, _⟩ := h
    rfl
  · obtain ⟨p, a, q, n, t, lo, l1, l2, ss, os, ot, es, rfl, hP, W, hB, hnp, htp, hlo, h1, h2, n1, n2, oo, oT, k⟩ := h
    have nd := scRight.nd
    have v0 := hP.2
    obtain ⟨_, hpv⟩ := penAt v0
    obtain ⟨pmo, ndo, memo, _⟩ := ordL_inv oo
    obtain ⟨pmt, ndt, memt, _⟩ := ordL_inv oT
    have h60 := W.len
    have lno := pmo.length_eq
    have lnt := pmt.length_eq
    refine ⟨_, (pss_cons (ps_asg (pv 4) (pg_lstK (n := 2) K rfl (pgs_cons (pg_name (i := 5) nd rfl (Or.inl rfl)) (pgs_cons (pg_name (i := 6) nd rfl (Or.inl rfl)) pgs_nil))))
      (pss_cons (ps_set (i := 7) nd rfl (Or.inl rfl) (pe_cal c_law_due (hr.mono (by decide)) rfl (pa_cons (pv 5) (pa_cons (pv 6) pa_nil))))
      (pss_cons (ps_for PassesOwn.never rfl (pi_range1 rfl B.range (pa_cons pe_int pa_nil)) (pg_name (i := 8) nd rfl (Or.inl rfl)) (pss_cons (ps_set (i := 9) nd rfl (Or.inl rfl) (pe_cal cexchanges (hr.mono (by decide)) rfl (pa_cons (pv 1) (pa_cons (b_list K rfl B (pa_cons (pv 5) pa_nil)) (pa_cons (b_list K rfl B (pa_cons (pv 6) pa_nil)) pa_nil)))))
      (pss_cons (ps_if (PW.pt (pw_or (pt_not (pt_val (pe_cal c_law_same (hr.mono (by decide)) rfl (pa_cons (pv 9) (pa_cons (pv 7) pa_nil))))) (pw_or1 (pt_not (pt_val (pe_cal c_law_same (hr.mono (by decide)) rfl (pa_cons (pe_cal cled (hr.mono (by decide)) rfl (pa_cons (pv 5) (pa_cons (pv 9) pa_nil))) (pa_cons (pv 6) pa_nil)))))))) (pss_one (ps_ret pe_bl)) pss_nil)
      (pss_one (ps_expr (m_append K (pv 9) (pa_cons pe_int pa_nil)))))))
      (pss_cons (ps_set (i := 10) nd rfl (Or.inl rfl) (pe_cal c_law_no_order (hr.mono (by decide)) rfl (pa_cons (pv 0) (pa_cons (pv 2) (pa_cons (pv 3) (pa_cons (pv 5) pa_nil))))))
      (pss_cons (ps_set (i := 11) nd rfl (Or.inl rfl) (b_reprY hr.gd hr.units B (pa_cons (pv 10) pa_nil)))
      (pss_cons (ps_if (PW.pt (pw_or (pt_not (pt_val (pe_cal c_law_refused (hr.mono (by decide)) rfl (pa_cons (pv 1) (pa_cons (pv 10) (pa_cons (pv 6) pa_nil)))))) (pw_or (pt_not (pt_val (pe_cal c_law_refused (hr.mono (by decide)) rfl (pa_cons (pv 1) (pa_cons (pv 6) (pa_cons (pv 10) pa_nil)))))) (pw_or1 (pt_cmpR (op_neX hr.units) (b_reprY hr.gd hr.units B (pa_cons (pv 10) pa_nil)) (pv 11) (nomark _)))))) (pss_one (ps_ret pe_bl)) pss_nil)
      (pss_one (ps_ret (pe_cal c_law_refused (hr.mono (by decide)) rfl (pa_cons (pv 1) (pa_cons (pv 10) (pa_cons (pv 10) pa_nil)))))))))))), ?_⟩
    refine ⟨_, rfl, lo, _, rfl, .of hlo, rfl, _, _, rfl, _, _, rfl, rfl, ?_⟩
    refine ⟨_, rfl, _, rfl, l1, l2, os, ot, rfl, h1, h2, by omega, ndt, pmo.trans pmt.symm, fun ld nb told ys H1 s1 hld0 bub rt hld => ?_⟩
    have rd := MG.right_eq ndt (bub.perm.trans (pmo.trans pmt.symm)) rt
    have tlt : ∀ x ∈ told, x < 60 := fun x hx => by have := bub.lt x hx; omega
    have shT := shw_told tlt (bub.few (by omega))
    have shO : Shw (namesD ot) := Shw.names (fun s hs => W.nm s (memt s hs)) (by omega)
    refine ⟨_, rfl, by decide, by decide, ?_⟩
    refine for_range (fun i σ H' => ∃ o8 o9, σ = [some (.ref p), some (.ref q), some (.ref n), some (.ref t), some (.ref lo), some (.ref l1), some (.ref l2), some (.ref ld), o8, o9, none, none] ∧ Same H1 H') ⟨none, none, rfl, Same.refl H1⟩ ?_ ?_
    · rintro i σ H2 _ ⟨o8, o9, rfl, s2⟩
      have s12 := s1.trans s2
      refine ⟨_, rfl, _, rfl, _, rfl, .seq (.inl (.of (s12 _ _ h1))) fun la hla => ?_⟩
      have sa := Same.new (o := .lst (List.map V.str os)) hla
      have ea : upd H2 la (.lst (List.map V.str os)) la = some (.lst (List.map V.str os)) := upd_same
      generalize upd H2 la (.lst (List.map V.str os)) = H3 at sa ea ⊢
      refine ⟨_, rfl, _, rfl, .seq (.inl (.of (sa _ _ (s12 _ _ h2)))) fun lb hlb => ?_⟩
      have sb := Same.new (o := .lst (List.map V.str ot)) hlb
      have eb : upd H3 lb (.lst (List.map V.str ot)) lb = some (.lst (List.map V.str ot)) := upd_same
      have ea := sb _ _ ea
      have sab := sa.trans sb
      generalize upd H3 lb (.lst (List.map V.str ot)) = H4 at sab ea eb ⊢
      have s14 := s12.trans sab
      refine ⟨q, la, lb, ss, _, os, ot, rfl, W.same s14, ea, eb, oo, oT, fun lx m told2 zs H5 s5 hlx0 bub2 rt2 hlx => ?_⟩
      obtain ⟨rfl, rfl⟩ := bub.fin rt bub2 rt2
      have s25 := (s2.trans sab).trans s5
      have s15 := s1.trans s25
      refine ⟨_, rfl, _, rfl, _, _, _, rfl, nums_rep hlx, nums_rep (s25 _ _ hld), shT, ⟨_, rfl, iteF ?_⟩⟩
      refine ⟨_, rfl, _, rfl, l1, lx, os, told, rfl, s15 _ _ h1, by omega, hlx, fun x hx => bub.lt x hx, fun ly H6 s6 hly0 hly => ?_⟩
      rw [bub.led, rd] at hly
      refine ⟨_, rfl, _, _, _, rfl, .lst hly (RepAll.of_strs ot), .lst (s6 _ _ (s15 _ _ h2)) (RepAll.of_strs ot), shO, ⟨_, rfl, iteF ?_⟩⟩
      refine ⟨_, rfl, .inl ⟨rfl, _, .of (s6 _ _ hlx)⟩, lx, _, _, rfl, rfl, s6 _ _ hlx, by rw [natV_len]; exact Nat.lt_of_le_of_lt (bub.few (by omega)) (by decide), ?_⟩
      exact ⟨_, _, rfl, same_at (s25.trans s6) (same_free (s2.trans sab) hlx0)⟩
    · rintro σ H2 ⟨o8, o9, rfl, s2⟩
      have s12 := s1.trans s2
      have v2 := penSame s12 v0
      have W2 := W.same s12
      have hB2 := hB.same s12
      refine ⟨_, rfl, _, rfl, _, rfl, _, rfl, p, a, n, t, l1, ss, os, es, rfl, hP.but (But.of_same s12) v2, hB2, hnp, htp, s12 _ _ h1, n1, oo, fun bad H3 bd hno v3 b3 => ?_⟩
      have b13 := (But.of_same (p := p) s12).trans b3
      have W3 := web_but hpv b13 W
      have hoth := b13 l2 _ n2 h2
      obtain ⟨tx, rep⟩ := bd.rep
      refine ⟨_, rfl, rep H3 (Same.refl H3) _ ?_⟩
      have io : ∀ H', Same H3 H' → ioK (.ref q) bad H' false := fun H' s => ⟨q, ss, _, rfl, W3.same s, bd.thg.same s, (bd.but v3 (But.of_same (p := p) s)).its, by rw [ordB_same bd.thg s, hno]⟩
      have ioT : ∀ H', Same H3 H' → ioK (.ref q) (.ref l2) H' true := fun H' s => io_of (W3.same s) (s _ _ hoth) oT
      refine ⟨_, rfl, _, rfl, _, rfl, rfl, ⟨_, _, _, rfl, .inl (io H3 (Same.refl H3))⟩, fun H4 s4 => ⟨_, rfl, iteF ?_⟩⟩
      refine ⟨_, rfl, _, rfl, _, rfl, rfl, ⟨_, _, _, rfl, .inr ⟨ioT H4 s4, fun H' s => io H' (s4.trans s)⟩⟩, fun H5 s5 => ⟨_, rfl, iteF ?_⟩⟩
      have s35 := s4.trans s5
      refine ⟨_, rfl, rep H5 s35 _ ⟨_, rfl, .sc rfl ⟨_, rfl, ?_⟩⟩⟩
      refine ite2 (fun h => ?_) (fun h => ?_)
      · exact absurd h (by rw [decide_eq_true (rfl : V.str tx = V.str tx)]; decide)
      · refine ⟨_, rfl, _, rfl, _, rfl, rfl, ⟨_, _, _, rfl, .inl (io H5 s35)⟩, fun H6 s6 => ?_⟩
        exact k H6 (penSame (s35.trans s6) v3) (b13.trans (But.of_same (p := p) (s35.trans s6)))
end
end K18
namespace K18
open PySem L2
section
variable {P : Program} {w : World} {K : PySem.W.Frag} {mg : Str → Option Value} {base : Heap}
noncomputable def nmA (ss : List Str) (i : Nat) : Str := ss.getD i ""
theorem str_atN {ss : List Str} {i : Nat} (h : i < ss.length) : atI (List.map V.str ss) (i : Int) = some (.str (nmA ss i)) := atI_nat (by simp [nmA, h, List.getD_eq_getElem?_getD])
theorem ord_fwd {es : List (Nat × Nat)} {ks : List Nat} {n : Nat} (pm : ks.Perm (List.range n)) (val : ∀ e ∈ es, e.1 < n ∧ e.2 < n) (od : MG.Ord es ks) : ∀ e ∈ es, MG.ix ks e.1 < MG.ix ks e.2 := by
  intro e he
  have nd : ks.Nodup := pm.nodup_iff.mpr List.nodup_range
  have hm : e.2 ∈ ks := pm.mem_iff.mpr (List.mem_range.mpr (val e he).2)
  obtain ⟨i, hi, ei⟩ := od e he _ (MG.at_ix hm)
  rw [MG.ix_at nd ei]; exact hi
theorem nm_at {ss : List Str} {i : Nat} (h : i < ss.length) : ss[i]? = some (nmA ss i) := by
  unfold nmA
  rw [List.getD_eq_getElem?_getD, List.getElem?_eq_getElem h]; rfl
theorem ix_nmA {ss : List Str} (nd : ss.Nodup) {ks : List Nat} {n : Nat} (pm : ks.Perm (List.range ss.length)) (ndw : (ks.map (nmA ss)).Nodup) (hn : n < ss.length) : MG.ix (ks.map (nmA ss)) (nmA ss n) = MG.ix ks n := by
  refine MG.ix_at ndw ?_
  rw [List.getElem?_map, MG.at_ix (pm.mem_iff.mpr (List.mem_range.mpr hn))]; rfl
theorem ss_eq (ss : List Str) : ss = (List.range ss.length).map (nmA ss) := by
  apply List.ext_getElem?
  intro i
  rw [List.getElem?_map]
  by_cases hi : i < ss.length
  · rw [nm_at hi, List.getElem?_range hi]; rfl
  · rw [List.getElem?_eq_none (by omega), List.getElem?_eq_none (by simpa using hi)]; rfl
theorem names_perm {ss : List Str} {ks : List Nat} (h : ks.Perm (List.range ss.length)) : (ks.map (nmA ss)).Perm ss := by
  have := h.map (nmA ss)
  rw [← ss_eq] at this
  exact this
theorem ord_names {ss : List Str} {es : List (Nat × Nat)} (nd : ss.Nodup) (val : ∀ e ∈ es, e.1 < ss.length ∧ e.2 < ss.length) {ks : List Nat} (pm : ks.Perm (List.range ss.length)) (od : MG.Ord es ks) : ordL ss (es.map (nmP ss)) (List.map V.str (ks.map (nmA ss))) = true := by
  have pn := names_perm pm
  have ndw := pn.nodup_iff.mpr nd
  unfold ordL
  rw [strsOf_map, List.length_map, inSS_all (fun w hw => pn.mem_iff.mp hw), decide_eq_true pn.length_eq, decide_eq_true ndw, Bool.true_and, Bool.true_and, Bool.true_and, List.all_map, List.all_eq_true]
  intro e he
  have v := val e he
  have h := ord_fwd pm val od e he
  rw [← ix_nmA nd pm ndw v.1, ← ix_nmA nd pm ndw v.2] at h
  exact decide_eq_true h
theorem ring_noL {ss : List Str} {es : List (Nat × Nat)} (nd : ss.Nodup) (val : ∀ e ∈ es, e.1 < ss.length ∧ e.2 < ss.length) {left : List Nat} (h : left ≠ []) (h2 : MG.freeL es left = []) : ordL ss (es.map (nmP ss)) (List.map V.str ss) = false := by
  refine Bool.eq_false_iff.mpr fun z => ?_
  obtain ⟨_, _, _, hf⟩ := ordL_inv z
  have fw : MG.Fwd es := ⟨id, fun e he => by
    have h := hf _ (List.mem_map.mpr ⟨e, he, rfl⟩)
    have v := val e he
    have h : MG.ix ss (nmA ss e.1) < MG.ix ss (nmA ss e.2) := h
    rw [MG.ix_at nd (nm_at v.1), MG.ix_at nd (nm_at v.2)] at h
    exact h⟩
  exact fw.free h h2
theorem ring_no {es : List (Nat × Nat)} {ks left : List Nat} {n : Nat} (pm : ks.Perm (List.range n)) (val : ∀ e ∈ es, e.1 < n ∧ e.2 < n) (od : MG.Ord es ks) (h : left ≠ []) (h2 : MG.freeL es left = []) : False :=
  MG.Fwd.free ⟨MG.ix ks, ord_fwd pm val od⟩ h h2
inductive Dn (p D : Addr) (es : List (Nat × Nat)) (n : Nat) (H : Hp) : V → Prop
  | non {left : List Nat} : left ≠ [] → MG.freeL es left = [] → Dn p D es n H .non
  | lst {l : Addr} {ks : List Nat} : H l = some (.lst (natV ks)) → ks.Perm (List.range n) → MG.Ord es ks → l ≠ p → l ≠ D → Dn p D es n H (.ref l)
noncomputable def spLaw (K : PySem.W.Frag) : Sp := fun vs H Q _ => ∃ (a : Addr) (ns : List Int), vs = [.ref a] ∧ SqL K H a (ns.map V.int) ∧ ∀ H', Q (.bl true) H'
theorem scLaw : FnScope ["_law_script", "_law_pen", "_law_turn", "_law_names_here", "_law_ties_here", "_law_web_here", "_law_orders", "_law_some", "_law_handed", "_law_told"] ["_law_script"] (defScope sLaw) := ⟨rfl, rfl, rfl, by decide +kernel, rfl, by decide +kernel, by decide +kernel⟩
theorem ok_law {f : Addr} {fd : FuncData} (F : Fun K "law" "law" sLaw f fd) (B : Blt mg)
    (c_law_built : Cal P w K mg base 4 "_law_built" ["_law_pen"] (spBuilt K)) (c_law_web : Cal P w K mg base 1 "_law_web" ["_law_names_here", "_law_ties_here"] spWeb)
    (c_law_drawn : Cal P w K mg base 2 "_law_drawn" ["_law_pen", "_law_size", "_law_ties_here"] (spDrawn K)) (c_law_take : Cal P w K mg base 1 "_law_take" ["_law_pen", "_law_many"] (spDraw K)) (c_law_refused : Cal P w K mg base 5 "_law_refused" ["_law_web_here", "_law_one", "_law_other"] (spRefused (badO ioK)))
    (c_law_right : Cal P w K mg base 6 "_law_right" ["_law_pen", "_law_web_here", "_law_names_here", "_law_ties_here", "_law_orders"] (spRight K)) (cled : Cal P w K mg base 2 "led" ["order", "some"] spLed) (c_law_led : Cal P w K mg base 1 "_law_led" ["_law_told", "_law_some"] spLed) (c_law_same : Cal P w K mg base 1 "_law_same" ["_law_found", "_law_due_here"] spSame) :
    FnOk P w K mg base CX0 7 f fd ["_law_script"] (spLaw K) := by
  refine F.ok scLaw (fun vs H Q E h => ?_) (fun cdv A outer s H vs Q E hr h => ?_)
  · obtain ⟨a, ns, rfl, _⟩ := h
    rfl
  · obtain ⟨a, ns, rfl, hS, k⟩ := h
    have nd := scLaw.nd
    refine ⟨_, (pss_cons (ps_set (i := 1) nd rfl (Or.inr rfl) (pe_lst (pa_cons (pe_slice (sl_K K) (pv 0) po_none (po_some pe_int)) (pa_cons pe_int (pa_cons pe_int pa_nil)))))
      (pss_cons (ps_for PassesOwn.never rfl (pi_range1 rfl B.range (pa_cons pe_int pa_nil)) (pg_name (i := 2) nd rfl (Or.inl rfl)) (pss_cons (ps_asg (pe_cal c_law_built (hr.mono (by decide)) rfl (pa_cons (pv 1) pa_nil)) (pg_tupK (n := 2) K rfl (pgs_cons (pg_name (i := 3) nd rfl (Or.inr rfl)) (pgs_cons (pg_name (i := 4) nd rfl (Or.inr rfl)) pgs_nil))))
      (pss_cons (ps_set (i := 5) nd rfl (Or.inl rfl) (pe_cal c_law_web (hr.mono (by decide)) rfl (pa_cons (pv 3) (pa_cons (pv 4) pa_nil))))
      (pss_cons (ps_setC (i := 6) nd rfl rfl (by rfl) (defScope sLaw) ["_law_script", "_law_pen", "_law_turn", "_law_names_here", "_law_ties_here", "_law_web_here", "_law_orders", "_law_some", "_law_handed", "_law_told"] ["_law_k"] [1, 4, 3] ["_law_k", "_law_pen", "_law_ties_here", "_law_names_here"] rfl (pi_range1 rfl B.range (pa_cons pe_int pa_nil)) (fun _ _ _ _ _ => (pg_name (i := 0) (show (["_law_k", "_law_pen", "_law_ties_here", "_law_names_here"] : List Str).Nodup by decide) rfl (Or.inl rfl))) (fun _ _ _ _ _ => pts_nil) (fun _ _ _ _ _ => (pe_cal c_law_drawn (hr.mono (by decide)) rfl (pa_cons (pv 1) (pa_cons (b_len K B (pa_cons (pv 3) pa_nil)) (pa_cons (pv 2) pa_nil))))))
      (pss_cons (ps_if (pt_cmpR op_isX (pe_ix (ix_X K hr.units) (pv 6) pe_int (fun _ _ => rfl)) pe_non (nomark _)) (pss_one (ps_if (pt_not (pt_val (pe_cal c_law_refused (hr.mono (by decide)) rfl (pa_cons (pv 5) (pa_cons (b_list K rfl B (pa_cons (pv 3) pa_nil)) (pa_cons (b_list K rfl B (pa_cons (pv 3) pa_nil)) pa_nil)))))) (pss_one (ps_ret pe_bl)) pss_nil)) (pss_cons (ps_setC (i := 6) nd rfl rfl (by rfl) (defScope sLaw) ["_law_script", "_law_pen", "_law_turn", "_law_names_here", "_law_ties_here", "_law_web_here", "_law_orders", "_law_some", "_law_handed", "_law_told"] ["_law_numbers"] [3] ["_law_numbers", "_law_names_here"] rfl (pi_listK K (pv 6)) (fun _ _ _ _ _ => (pg_name (i := 0) (show (["_law_numbers", "_law_names_here"] : List Str).Nodup by decide) rfl (Or.inl rfl))) (fun _ _ _ _ _ => pts_nil) (fun _ _ _ _ _ => (pe_compI (defScope sLaw) ["_law_numbers", "_law_names_here"] ["_law_k"] [1] ["_law_k", "_law_names_here"] rfl (pi_listK K (pv 0)) (fun _ _ _ _ _ => (pg_name (i := 0) (show (["_law_k", "_law_names_here"] : List Str).Nodup by decide) rfl (Or.inl rfl))) (fun _ _ _ _ _ => pts_nil) (fun _ _ _ _ _ => (pe_ix (ix_X K hr.units) (pv 1) (pv 0) (fun _ _ => rfl))))))
      (pss_one (ps_if (PW.pt (pw_or (pt_not (pt_val (pe_cal c_law_right (hr.mono (by decide)) rfl (pa_cons (pv 1) (pa_cons (pv 5) (pa_cons (pv 3) (pa_cons (pv 4) (pa_cons (pv 6) pa_nil star_n) star_n) star_n) star_n) star_n)))) (pw_or1 (pt_not (pt_val (pe_cal c_law_right (hr.mono (by decide)) rfl (pa_cons (pv 1) (pa_cons (pv 5) (pa_cons (pv 3) (pa_cons (pv 4) (pa_cons (pe_rev K (pv 6) (po_some (pe_un un_neg pe_int))) pa_nil star_s) star_n) star_n) star_n) star_n))))))) (pss_one (ps_ret pe_bl)) pss_nil))))
      (pss_cons (ps_if (pt_cmpR op_gt (b_len K B (pa_cons (pv 3) pa_nil)) pe_int (nomark _)) (pss_cons (ps_setC (i := 7) nd rfl rfl (by rfl) (defScope sLaw) ["_law_script", "_law_pen", "_law_turn", "_law_names_here", "_law_ties_here", "_law_web_here", "_law_orders", "_law_some", "_law_handed", "_law_told"] ["_law_k"] [1, 3] ["_law_k", "_law_pen", "_law_names_here"] rfl (pi_range1 rfl B.range (pa_cons (pe_cal c_law_take (hr.mono (by decide)) rfl (pa_cons (pv 1) (pa_cons pe_int pa_nil))) pa_nil)) (fun _ _ _ _ _ => (pg_name (i := 0) (show (["_law_k", "_law_pen", "_law_names_here"] : List Str).Nodup by decide) rfl (Or.inl rfl))) (fun _ _ _ _ _ => pts_nil) (fun _ _ _ _ _ => (pe_cal c_law_take (hr.mono (by decide)) rfl (pa_cons (pv 1) (pa_cons (pe_op op_sub (b_len K B (pa_cons (pv 2) pa_nil)) pe_int) pa_nil)))))
      (pss_cons (ps_set (i := 8) nd rfl (Or.inl rfl) (b_list K rfl B (pa_cons (pv 3) pa_nil)))
      (pss_cons (ps_set (i := 9) nd rfl (Or.inl rfl) (pe_cal cled (hr.mono (by decide)) rfl (pa_cons (pv 8) (pa_cons (pv 7) pa_nil))))
      (pss_cons (ps_if (PW.pt (pw_or (pt_not (pt_val (pe_cal c_law_same (hr.mono (by decide)) rfl (pa_cons (pv 9) (pa_cons (pe_cal c_law_led (hr.mono (by decide)) rfl (pa_cons (pv 3) (pa_cons (pv 7) pa_nil))) pa_nil))))) (pw_or1 (pt_cmpR (op_neX hr.units) (pv 8) (pv 3) (nomark _))))) (pss_one (ps_ret pe_bl)) pss_nil)
      (pss_one (ps_expr (m_append K (pv 9) (pa_cons pe_str pa_nil)))))))) pss_nil)
      (pss_one (ps_if (PW.pt (pw_or (pt_cmpR (op_neX hr.units) (pv 5) (pe_cal c_law_web (hr.mono (by decide)) rfl (pa_cons (pv 3) (pa_cons (pv 4) pa_nil))) (nomark _)) (pw_or1 (pt_not (pt_val (pe_cal c_law_same (hr.mono (by decide)) rfl (pa_cons (pe_cal cled (hr.mono (by decide)) rfl (pa_cons (pv 3) (pa_cons (pe_lst pa_nil) pa_nil))) (pa_cons (pv 3) pa_nil)))))))) (pss_one (ps_ret pe_bl)) pss_nil))))))))
      (pss_one (ps_ret pe_bl)))), ?_⟩
    obtain ⟨ns', hns⟩ : ∃ ns', cutV (ns.map V.int) none (some 63) = List.map V.int ns' := ⟨_, by unfold cutV; rw [← List.map_drop, ← List.map_take]⟩
    refine ⟨_, rfl, _, rfl, .lst hS fun a0 ha0 => ?_⟩
    rw [hns]
    refine ⟨(by show 3 ≤ sizeLine; decide), fun p hp => ?_⟩
    have hP : Pen K (upd (upd H a0 (.lst (List.map V.int ns'))) p (.lst [.ref a0, .int 0, .int 0])) p a0 := Pen.new (ns := ns') (.of upd_same) hp ⟨0, 0, upd_same, by decide, by decide⟩
    generalize upd (upd H a0 (.lst (List.map V.int ns'))) p (.lst [.ref a0, .int 0, .int 0]) = H2 at hP ⊢
    refine ⟨_, rfl, by decide, by decide, ?_⟩
    refine for_range (fun i σ H' => ∃ o2 o3 o4 o5 o6 o7 o8 o9, σ = [some (.ref a), some (.ref p), o2, o3, o4, o5, o6, o7, o8, o9] ∧ PenV H' p a0 ∧ But p H2 H') ?_ ?_ ?_
    · exact ⟨none, none, none, none, none, none, none, none, rfl, hP.2, But.refl p H2⟩
    · rintro turn σ H2' _ ⟨o2, o3, o4, o5, o6, o7, o8, o9, rfl, v2, b2⟩
      refine ⟨_, rfl, p, a0, rfl, hP.but b2 v2, fun q n t ss es H3 hq hB hfw hnp htp v3 b3 => ⟨q, _, rfl, .of hq, rfl, _, _, rfl, _, _, rfl, rfl, ?_⟩⟩
      have b3 := b2.trans b3
      refine ⟨_, rfl, _, rfl, n, t, ss, es, rfl, hB, fun wq H4 s4 rw4 => ?_⟩
      have W4 := web_of hB rw4
      have hB4 := hB.same s4
      have v4 := penSame s4 v3
      have b4 := b3.trans (But.of_same s4)
      have hln : (List.map V.str ss).length = ss.length := List.length_map ..
      have h60 := hB.len
      have hnd := hB.nd
      have hval := hB.val
      obtain ⟨_, hpv4⟩ := penAt v4
      clear rw4 s4 hB v3 b3 v2 b2 hfw
      apply with_rest (J := fun σ HZ => ∃ o6 : Option V, σ = [some (.ref a), some (.ref p), some (.int (0 + (turn : Nat) : Int)), some (.ref n), some (.ref t), some (.ref wq), o6, o7, o8, o9] ∧ PenV HZ p a0 ∧ But p H4 HZ)
      · intro rest
        refine ⟨_, rfl, by decide, by decide, ?_⟩
        refine comp_range (fun D i acc σ' H' => ∃ (o : Option V), σ' = [o, some (.ref p), some (.ref t), some (.ref n)] ∧ acc.length = i ∧ (∀ x ∈ acc, Dn p D es ss.length H' x) ∧ PenV H' p a0 ∧ But p H4 H' ∧ H4 D = none ∧ p ≠ D) fun D hD => ⟨?_, ?_, ?_⟩
        · have hDp := v4.ne hD
          exact ⟨none, rfl, rfl, (fun x hx => by cases hx), v4.upd hDp, (But.refl p H4).at hD, hD, hDp⟩
        · rintro i acc σ' H' hi ⟨o, rfl, hl, hall, v, b, hD0, hDp⟩ hacc
          have hi : i < 2 := hi
          have hB' := hB4.but hpv4 b hnp htp
          obtain ⟨refs, ht, rp⟩ := hB'.ti
          refine gYes ?_
          refine ⟨_, rfl, _, rfl, _, _, rfl, Or.inl ⟨_, .of hB'.nm, rfl⟩, _, rfl, ?_⟩
          rw [hln]
          have keep : ∀ (v' : V) (H1 : Hp), But p H' H1 → ∀ x ∈ acc, Dn p D es ss.length (upd H1 D (.lst (acc ++ [v']))) x := fun v' H1 b1 x hx => by
            cases hall x hx with
            | non a1 a2 => exact .non a1 a2
            | lst a1 a2 a3 a4 a5 => exact .lst (by rw [upd_ne a5]; exact b1 _ _ a4 a1) a2 a3 a4 a5
          refine ⟨p, a0, ss.length, t, refs, es, rfl, hP.but (b4.trans b) v, ht, htp, rp, (by have := hB'.few; omega), hB'.val, h60, fun left hne hz H1 v1 b1 => ?_, fun l ks H1 hpm hod hl1 hl0 hlp v1 b1 => ?_⟩
          · refine ⟨b1 _ _ (Ne.symm hDp) hacc, small1000 (by omega), _, rfl, by simp [hl], fun x hx => ?_, v1.upd hDp, (b.trans b1).at hD0, hD0, hDp⟩
            rcases List.mem_append.mp hx with hx | hx
            · exact keep _ _ b1 x hx
            · rw [List.mem_singleton.mp hx]; exact .non hne hz
          · have hDl : D ≠ l := ne_of_none hacc hl0
            refine ⟨b1 _ _ (Ne.symm hDp) hacc, small1000 (by omega), _, rfl, by simp [hl], fun x hx => ?_, v1.upd hDp, (b.trans b1).at hD0, hD0, hDp⟩
            rcases List.mem_append.mp hx with hx | hx
            · exact keep _ _ b1 x hx
            · rw [List.mem_singleton.mp hx]; exact .lst (by rw [upd_ne (Ne.symm hDl)]; exact hl1) hpm hod hlp (Ne.symm hDl)
        · rintro acc σ' H5 ⟨o, rfl, hl, hall, v5, b5, hD0, hDp⟩ hacc
          obtain ⟨x, y, rfl⟩ : ∃ x y, acc = [x, y] := by
            match acc, hl with
            | [x, y], _ => exact ⟨x, y, rfl⟩
          have hx := hall x (by simp)
          have hy := hall y (by simp)
          have hB5 := hB4.but hpv4 b5 hnp htp
          have W5 := web_but hpv4 b5 W4
          refine ⟨_, rfl, .lst (.of hacc) rfl (.non ⟨_, rfl, ?_⟩)⟩
          cases hx with
          | non hne hz =>
            refine iteT ?_
            refine ⟨_, rfl, _, rfl, _, rfl, .seq (.inl (.of hB5.nm)) fun la hla => ?_⟩
            have sa := Same.new (o := .lst (List.map V.str ss)) hla
            have ea : upd H5 la (.lst (List.map V.str ss)) la = some (.lst (List.map V.str ss)) := upd_same
            generalize upd H5 la (.lst (List.map V.str ss)) = H6 at sa ea ⊢
            refine ⟨_, rfl, _, rfl, .seq (.inl (.of (sa _ _ hB5.nm))) fun lb hlb => ?_⟩
            have sb := Same.new (o := .lst (List.map V.str ss)) hlb
            have ea := sb _ _ ea
            have sab := sa.trans sb
            generalize upd H6 lb (.lst (List.map V.str ss)) = H7 at sab ea ⊢
            have W7 := W5.same sab
            refine ⟨rfl, ⟨_, _, _, rfl, .inl ⟨wq, ss, _, rfl, W7, .lst ea, fun b xs e hb => ?_, by rw [ordB_lst ea, ring_noL hnd hval hne hz]⟩⟩, fun H8 s8 => ⟨_, rfl, iteF ?_⟩⟩
            · cases e
              rw [ea] at hb
              cases hb
              refine ⟨by rw [List.length_map]; omega, fun v hv => ?_⟩
              obtain ⟨z, hz, rfl⟩ := List.mem_map.mp hv
              exact .str (Nat.le_trans (W5.nm z hz).2.1 (by decide))
            · have s58 := sab.trans s8
              exact rest _ _ ⟨_, rfl, penSame s58 v5, b5.trans (But.of_same (p := p) s58)⟩
          | @lst l1 os h1 pm1 od1 n1p n1D =>
            refine iteF ?_
            cases hy with
            | non hne hz => exact absurd (ring_no pm1 hval od1 hne hz) id
            | @lst l2 ot h2 pm2 od2 n2p n2D =>
              refine ⟨_, rfl, D, rfl, ⟨_, .of hacc⟩, ?_⟩
              refine comp_list [V.ref l1, V.ref l2] (fun D2 i acc σ' H' => ∃ (o0 : Option V) (ls : List (Addr × List Nat)), σ' = [o0, some (.ref n)] ∧ acc = (ls.map fun x : Addr × List Nat => V.ref x.1) ∧ (ls.map fun x : Addr × List Nat => x.2) = [os, ot].take i ∧ (∀ x ∈ ls, H' x.1 = some (.lst (List.map V.str (x.2.map (nmA ss)))) ∧ x.1 ≠ D2 ∧ x.1 ≠ p) ∧ Same H5 H' ∧ H5 D2 = none) fun D2 hD2 => ⟨?_, ?_, ?_, ?_⟩
              · exact ⟨none, [], rfl, rfl, rfl, (fun x hx => by cases hx), Same.new hD2, hD2⟩
              · rintro i acc σ' H' _ ⟨o0, ls, rfl, _, _, _, sm, _⟩ _
                exact .of (sm _ _ hacc)
              · rintro i acc2 σ' H' v hv ⟨o0, ls, rfl, rfl, hls, hall, sm, hD20⟩ hacc2
                obtain ⟨lk, ks, rfl, hk, hlk, pmk⟩ : ∃ lk ks, v = .ref lk ∧ [os, ot][i]? = some ks ∧ H5 lk = some (.lst (natV ks)) ∧ ks.Perm (List.range ss.length) := by
                  match i, hv with
                  | 0, hv => exact ⟨l1, os, (Option.some.inj hv).symm, rfl, h1, pm1⟩
                  | 1, hv => exact ⟨l2, ot, (Option.some.inj hv).symm, rfl, h2, pm2⟩
                have hi2 := (List.getElem?_eq_some_iff.mp hk).1
                have kl : ks.length = ss.length := by have := pmk.length_eq; rw [List.length_range] at this; exact this
                have lsl : ls.length ≤ 2 := by have := congrArg List.length hls; rw [List.length_map, List.length_take] at this; have h2 : [os, ot].length = 2 := rfl; omega
                refine gYes ?_
                refine ⟨_, rfl, lk, rfl, ⟨_, .of (sm _ _ hlk)⟩, ?_⟩
                refine comp_list (natV ks) (fun D3 j acc3 σ3 H3 => ∃ o : Option V, σ3 = [o, some (.ref n)] ∧ acc3 = List.map V.str ((ks.take j).map (nmA ss)) ∧ Same H' H3 ∧ H' D3 = none) fun D3 hD3 => ⟨?_, ?_, ?_, ?_⟩
                · exact ⟨none, rfl, rfl, Same.new hD3, hD3⟩
                · rintro j acc3 σ3 H3 _ ⟨o, rfl, _, sm3, _⟩ _
                  exact .of (sm3 _ _ (sm _ _ hlk))
                · rintro j acc3 σ3 H3 x hx ⟨o, rfl, rfl, sm3, hD30⟩ hacc3
                  obtain ⟨r, hr, rfl⟩ := nat_get hx
                  have hil := (List.getElem?_eq_some_iff.mp hr).1
                  have hrl := List.mem_range.mp (pmk.mem_iff.mp (List.mem_of_getElem? hr))
                  refine gYes ?_
                  refine ⟨_, rfl, _, rfl, .lst (.of (sm3 _ _ (sm _ _ hB5.nm))) (str_atN hrl) ⟨hacc3, by rw [List.length_map, List.length_map, List.length_take]; exact small1000 (by omega), _, rfl, ?_, same_at sm3 hD30, hD30⟩⟩
                  rw [List.take_add_one, hr, List.map_append, List.map_append]
                  rfl
                · rintro acc3 σ3 H3 ⟨o, rfl, rfl, sm3, hD30⟩ hacc3
                  rw [natV_len, List.take_of_length_le (Nat.le_refl _)] at hacc3
                  have n32 : D3 ≠ D2 := Ne.symm (ne_of_none hacc2 hD30)
                  have n3p : D3 ≠ p := Ne.symm ((penSame sm v5).ne hD30)
                  refine ⟨sm3 _ _ hacc2, by rw [List.length_map]; exact small1000 (by omega), _, ls ++ [(D3, ks)], rfl, by simp, ?_, fun x hx => ?_, same_at (sm.trans sm3) hD20, hD20⟩
                  · rw [List.map_append, hls, List.take_add_one, hk]; rfl
                  · rcases List.mem_append.mp hx with hx | hx
                    · obtain ⟨q1, q2, q3⟩ := hall x hx
                      exact ⟨by rw [upd_ne q2]; exact sm3 _ _ q1, q2, q3⟩
                    · rw [List.mem_singleton.mp hx]
                      exact ⟨by rw [upd_ne n32]; exact hacc3, n32, n3p⟩
              · rintro acc2 σ' H6 ⟨o0, ls, rfl, rfl, hls, hall2, s6, hD20⟩ hacc2
                obtain ⟨m1, m2, rfl⟩ : ∃ m1 m2, ls = [(m1, os), (m2, ot)] := by
                  have hls : (ls.map fun x : Addr × List Nat => x.2) = [os, ot] := hls
                  match ls, hls with
                  | [(m1, a1), (m2, a2)], hls =>
                    injection hls with e1 e2
                    injection e2 with e2 _
                    have e1 : a1 = os := e1
                    have e2 : a2 = ot := e2
                    subst e1 e2
                    exact ⟨m1, m2, rfl⟩
                obtain ⟨g1, _, np1⟩ := hall2 (m1, os) (by simp)
                obtain ⟨g2, _, np2⟩ := hall2 (m2, ot) (by simp)
                have hacc2 : H6 D2 = some (.lst [V.ref m1, V.ref m2]) := hacc2
                have nD2 : D2 ≠ p := Ne.symm (v5.ne hD20)
                have v6 := penSame s6 v5
                have b6 := b5.trans (But.of_same (p := p) s6)
                have ord1 := ord_names hnd hval pm1 od1
                have ord2 := ord_names hnd hval pm2 od2
                refine ⟨_, rfl, _, rfl, _, rfl, _, rfl, _, rfl, p, a0, wq, n, t, D2, m1, m2, ss, _, _, es, rfl, hP.but (b4.trans b6) v6, web_but hpv4 b6 W4, hB4.but hpv4 b6 hnp htp, hnp, htp, hacc2, g1, g2, np1, np2, ord1, ord2, fun H7 v7 b7 => ⟨_, rfl, iteF ?_⟩⟩
                have b47 := b6.trans b7
                refine ⟨_, rfl, _, rfl, _, rfl, _, rfl, _, rfl, _, rfl, _, rfl, D2, _, rfl, rfl, .of (b7 D2 _ nD2 hacc2), fun lr hlr => ?_⟩
                have sr := Same.new (o := .lst [V.ref m2, V.ref m1]) hlr
                have er : upd H7 lr (.lst [V.ref m2, V.ref m1]) lr = some (.lst [V.ref m2, V.ref m1]) := upd_same
                have v8 := penSame sr v7
                have b48 := b47.trans (But.of_same (p := p) sr)
                have g1' := sr _ _ (b7 m1 _ np1 g1)
                have g2' := sr _ _ (b7 m2 _ np2 g2)
                refine ⟨p, a0, wq, n, t, lr, m2, m1, ss, _, _, es, rfl, hP.but (b4.trans b48) v8, web_but hpv4 b48 W4, hB4.but hpv4 b48 hnp htp, hnp, htp, er, g2', g1', np2, np1, ord2, ord1, fun H9 v9 b9 => ⟨_, rfl, iteF ?_⟩⟩
                exact rest _ _ ⟨_, rfl, v9, b48.trans b9⟩
      · rintro σ H5 ⟨o6, rfl, v5, b5⟩
        apply with_rest (J := fun σ HZ => ∃ o6 o7 o8 o9 : Option V, σ = [some (.ref a), some (.ref p), some (.int (0 + (turn : Nat) : Int)), some (.ref n), some (.ref t), some (.ref wq), o6, o7, o8, o9] ∧ PenV HZ p a0 ∧ But p H4 HZ)
        · intro rest
          have hB5 := hB4.but hpv4 b5 hnp htp
          refine ⟨_, rfl, _, _, rfl, Or.inl ⟨_, .of hB5.nm, rfl⟩, _, _, rfl, rfl, _, rfl, ?_⟩
          rw [hln]
          refine ite2 (fun h => ?_) (fun h => ?_)
          · have h : (1 : Int) < ((ss.length : Nat) : Int) := of_decide_eq_true h
            refine ⟨_, rfl, p, a0, 9, rfl, hP.but (b4.trans b5) v5, by decide, by decide, fun r H6 hr0 hr1 v6 e6 => ⟨_, rfl, by omega, by omega, ?_⟩⟩
            have b6 := b5.trans (But.of_eq e6)
            obtain ⟨c, rfl⟩ := Int.eq_ofNat_of_zero_le hr0
            rw [show ((c : Nat) : Int).toNat = c from rfl]
            refine comp_range (fun D i acc σ' H' => ∃ (o : Option V) (ns : List Nat), σ' = [o, some (.ref p), some (.ref n)] ∧ acc = natV ns ∧ ns.length = i ∧ (∀ m ∈ ns, m + 1 < ss.length) ∧ PenV H' p a0 ∧ But p H6 H' ∧ H6 D = none ∧ p ≠ D) fun D hD => ⟨?_, ?_, ?_⟩
            · have hDp := v6.ne hD
              exact ⟨none, [], rfl, rfl, rfl, (fun x hx => by cases hx), v6.upd hDp, (But.refl p H6).at hD, hD, hDp⟩
            · rintro i acc σ' H' hi ⟨o, ns, rfl, rfl, hl, hall, v, b, hD0, hDp⟩ hacc
              have hi : i < c := hi
              have hB' := hB4.but hpv4 (b6.trans b) hnp htp
              refine gYes ?_
              refine ⟨_, rfl, _, rfl, _, _, rfl, Or.inl ⟨_, .of hB'.nm, rfl⟩, _, _, rfl, rfl, ?_⟩
              rw [hln]
              refine ⟨p, a0, _, rfl, hP.but (b4.trans (b6.trans b)) v, by omega, by omega, fun r2 H7 h70 h71 v7 e7 => ?_⟩
              obtain ⟨m, rfl⟩ := Int.eq_ofNat_of_zero_le h70
              refine ⟨(e7 D (Ne.symm hDp)).trans hacc, by rw [natV_len]; exact small1000 (by omega), _, ns ++ [m], rfl, by simp [natV], by simp [hl], fun x hx => ?_, v7.upd hDp, (b.trans (But.of_eq e7)).at hD0, hD0, hDp⟩
              rcases List.mem_append.mp hx with hx | hx
              · exact hall x hx
              · rw [List.mem_singleton.mp hx]; omega
            · rintro acc σ' H7 ⟨o, ns, rfl, rfl, hl, hall, v7, b7, hD0, hDp⟩ hacc
              have b47 := b6.trans b7
              have hB7 := hB4.but hpv4 b47 hnp htp
              refine ⟨_, rfl, _, rfl, .seq (.inl (.of hB7.nm)) fun lh hlh => ?_⟩
              have sh := Same.new (o := .lst (List.map V.str ss)) hlh
              have eh : upd H7 lh (.lst (List.map V.str ss)) lh = some (.lst (List.map V.str ss)) := upd_same
              generalize upd H7 lh (.lst (List.map V.str ss)) = H8 at sh eh ⊢
              refine ⟨_, rfl, _, rfl, lh, D, ss, ns, rfl, eh, h60, sh _ _ hacc, hall, fun lt H9 s9 hlt0 hlt => ?_⟩
              have s79 := sh.trans s9
              refine ⟨_, rfl, _, rfl, _, rfl, n, D, ss, ns, rfl, s79 _ _ hB7.nm, h60, s79 _ _ hacc, hall, fun lu HA sA hlu0 hlu => ?_⟩
              have pml := led_perm ns (List.Perm.refl ss) hall
              have shw : Shw (namesD (ns.foldl MG.exch ss)) := Shw.names (fun z hz => hB4.ok z (pml.mem_iff.mp hz)) (by rw [pml.length_eq]; omega)
              refine ⟨_, _, _, rfl, .lst (sA _ _ hlt) (RepAll.of_strs _), .lst hlu (RepAll.of_strs _), shw, ⟨_, rfl, iteF ?_⟩⟩
              have s7A := s79.trans sA
              have sS := shp_names hB4.ok
              refine ⟨_, rfl, _, rfl, .tr (da := namesD ss) (db := namesD ss) (.lst ((s9.trans sA) _ _ eh) (RepAll.of_strs ss)) (.lst (s7A _ _ hB7.nm) (RepAll.of_strs ss)) sS sS ⟨_, rfl, ?_⟩⟩
              rw [eqv_shp sS]
              refine ite2 (fun h => absurd h (by decide)) (fun _ => ?_)
              refine ⟨_, rfl, .inl ⟨rfl, _, .of (sA _ _ hlt)⟩, lt, _, _, rfl, rfl, sA _ _ hlt, by rw [List.length_map, pml.length_eq]; exact small1000 (by omega), ?_⟩
              have hlt7 : H7 lt = none := same_free sh hlt0
              have hltp : p ≠ lt := v7.ne hlt7
              dsimp only
              exact rest _ _ ⟨_, _, _, _, rfl, (penSame s7A v7).upd hltp, (b47.trans (But.of_same (p := p) s7A)).at (b47.free (Ne.symm hltp) hlt7)⟩
          · exact rest _ _ ⟨_, _, _, _, rfl, v5, b5⟩
        · rintro σ H6 ⟨o6, o7, o8, o9, rfl, v6, b6⟩
          have hB6 := hB4.but hpv4 b6 hnp htp
          have W6 := web_but hpv4 b6 W4
          refine ⟨_, rfl, _, rfl, _, rfl, n, t, ss, es, rfl, hB6, fun wq2 H9 s9 r9 => .tr (W6.rep.same s9) r9 (web_shp W6) (web_shp W6) ⟨_, rfl, ?_⟩⟩
          rw [eqv_shp (web_shp W6)]
          refine ite2 (fun h => absurd h (by decide)) (fun _ => ?_)
          refine ⟨_, rfl, (by show 0 ≤ sizeLine; decide), fun le hle => ?_⟩
          have se := Same.new (o := .lst []) hle
          have ee : upd H9 le (.lst []) le = some (.lst (natV [])) := upd_same
          generalize upd H9 le (.lst []) = HA at se ee ⊢
          have s6A := s9.trans se
          refine ⟨n, le, ss, [], rfl, s6A _ _ hB6.nm, h60, ee, (fun m hm => by cases hm), fun lu HB sB hlu0 hlu => ?_⟩
          have shw : Shw (namesD ss) := Shw.names hB4.ok (by omega)
          have s6B := s6A.trans sB
          refine ⟨_, rfl, _, _, _, rfl, .lst hlu (RepAll.of_strs ss), .lst (s6B _ _ hB6.nm) (RepAll.of_strs ss), shw, ⟨_, rfl, iteF ?_⟩⟩
          exact ⟨_, _, _, _, _, _, _, _, rfl, penSame s6B v6, (b4.trans b6).trans (But.of_same (p := p) s6B)⟩
    · rintro σ H3 ⟨o2, o3, o4, o5, o6, o7, o8, o9, rfl, _, _⟩
      exact k H3
end
end K18
namespace K18
open PySem L2
section
variable {P : Program} {w : World} {K : PySem.W.Frag} {mg : Str → Option Value} {base : Heap}
theorem ar1 {us : List Value} (h : us.length = 1) : ∃ a, us = [a] := List.length_eq_one_iff.mp h
theorem ar2 {us : List Value} (h : us.length = 2) : ∃ a1 a2, us = [a1, a2] := by
  obtain ⟨a1, t, rfl⟩ := List.exists_cons_of_length_eq_add_one h
  obtain ⟨a2, rfl⟩ := ar1 (Nat.succ.inj h)
  exact ⟨a1, a2, rfl⟩
theorem ar3 {us : List Value} (h : us.length = 3) : ∃ a1 a2 a3, us = [a1, a2, a3] := by
  obtain ⟨a1, t, rfl⟩ := List.exists_cons_of_length_eq_add_one h
  obtain ⟨a2, a3, rfl⟩ := ar2 (Nat.succ.inj h)
  exact ⟨a1, a2, a3, rfl⟩
theorem ar4 {us : List Value} (h : us.length = 4) : ∃ a1 a2 a3 a4, us = [a1, a2, a3, a4] := by
  obtain ⟨a1, t, rfl⟩ := List.exists_cons_of_length_eq_add_one h
  obtain ⟨a2, a3, a4, rfl⟩ := ar3 (Nat.succ.inj h)
  exact ⟨a1, a2, a3, a4, rfl⟩
theorem ar5 {us : List Value} (h : us.length = 5) : ∃ a1 a2 a3 a4 a5, us = [a1, a2, a3, a4, a5] := by
  obtain ⟨a1, t, rfl⟩ := List.exists_cons_of_length_eq_add_one h
  obtain ⟨a2, a3, a4, a5, rfl⟩ := ar4 (Nat.succ.inj h)
  exact ⟨a1, a2, a3, a4, a5, rfl⟩
theorem all_mk {l : PySem.W.OpenLaw} {w : World} {K : PySem.W.Frag} {h : Heap} {mg : Str → Option Value} {fa f1 f2 f3 f4 f5 f6 f7 f8 f9 f10 f11 f12 f13 f14 f15 f16 f17 f18 f19 f20 f21 f22 f23 : Addr} (X : K.In h) (G : h.Ns mainGlobals mg) (hfa : mg "law" = some (.ref fa))
    {od1 an1 od2 an2 od3 an3 od4 an4 od5 an5 od6 an6 od7 an7 od8 an8 od9 an9 od10 an10 od11 an11 od12 an12 od13 an13 od14 an14 od15 an15 od16 an16 od17 an17 od18 an18 od19 an19 od20 an20 od21 an21 od22 an22 od23 an23 : Option Addr} {sl1 sl2 sl3 sl4 sl5 sl6 sl7 sl8 sl9 sl10 sl11 sl12 sl13 sl14 sl15 sl16 sl17 sl18 sl19 sl20 sl21 sl22 sl23 : Array (Option Value)} {oc1 kV1 dc1 pm1 cd1 ct1 oc2 kV2 dc2 pm2 cd2 ct2 oc3 kV3 dc3 pm3 cd3 ct3 oc4 kV4 dc4 pm4 cd4 ct4 oc5 kV5 dc5 pm5 cd5 ct5 oc6 kV6 dc6 pm6 cd6 ct6 oc7 kV7 dc7 pm7 cd7 ct7 oc8 kV8 dc8 pm8 cd8 ct8 oc9 kV9 dc9 pm9 cd9 ct9 oc10 kV10 dc10 pm10 cd10 ct10 oc11 kV11 dc11 pm11 cd11 ct11 oc12 kV12 dc12 pm12 cd12 ct12 oc13 kV13 dc13 pm13 cd13 ct13 oc14 kV14 dc14 pm14 cd14 ct14 oc15 kV15 dc15 pm15 cd15 ct15 oc16 kV16 dc16 pm16 cd16 ct16 oc17 kV17 dc17 pm17 cd17 ct17 oc18 kV18 dc18 pm18 cd18 ct18 oc19 kV19 dc19 pm19 cd19 ct19 oc20 kV20 dc20 pm20 cd20 ct20 oc21 kV21 dc21 pm21 cd21 ct21 oc22 kV22 dc22 pm22 cd22 ct22 oc23 kV23 dc23 pm23 cd23 ct23 : Value}
    (a1 : PySem.W.nsIn K mainGlobals "is_name" = some (some (.ref f1))) (l1 : K.lookup f1 = some ⟨oc1, od1, .func (PySem.W.fnOf "is_name" "is_name" (defArgs sIsName) (defBody sIsName) (defScope sIsName) .none kV1 dc1 pm1 an1 cd1 ct1), sl1⟩) (c1 : PySem.W.codeIn K cd1 "is_name" = true) (k1 : PySem.W.keepIn K (.ref f1) = true)
    (a2 : PySem.W.nsIn K mainGlobals "places_of" = some (some (.ref f2))) (l2 : K.lookup f2 = some ⟨oc2, od2, .func (PySem.W.fnOf "places_of" "places_of" (defArgs sPlaces) (defBody sPlaces) (defScope sPlaces) .none kV2 dc2 pm2 an2 cd2 ct2), sl2⟩) (c2 : PySem.W.codeIn K cd2 "places_of" = true) (k2 : PySem.W.keepIn K (.ref f2) = true)
    (a3 : PySem.W.nsIn K mainGlobals "lists_things" = some (some (.ref f3))) (l3 : K.lookup f3 = some ⟨oc3, od3, .func (PySem.W.fnOf "lists_things" "lists_things" (defArgs sLists) (defBody sLists) (defScope sLists) .none kV3 dc3 pm3 an3 cd3 ct3), sl3⟩) (c3 : PySem.W.codeIn K cd3 "lists_things" = true) (k3 : PySem.W.keepIn K (.ref f3) = true)
    (a4 : PySem.W.nsIn K mainGlobals "is_order" = some (some (.ref f4))) (l4 : K.lookup f4 = some ⟨oc4, od4, .func (PySem.W.fnOf "is_order" "is_order" (defArgs sIsOrder) (defBody sIsOrder) (defScope sIsOrder) .none kV4 dc4 pm4 an4 cd4 ct4), sl4⟩) (c4 : PySem.W.codeIn K cd4 "is_order" = true) (k4 : PySem.W.keepIn K (.ref f4) = true)
    (a5 : PySem.W.nsIn K mainGlobals "exchanges" = some (some (.ref f5))) (l5 : K.lookup f5 = some ⟨oc5, od5, .func (PySem.W.fnOf "exchanges" "exchanges" (defArgs sExchs) (defBody sExchs) (defScope sExchs) .none kV5 dc5 pm5 an5 cd5 ct5), sl5⟩) (c5 : PySem.W.codeIn K cd5 "exchanges" = true) (k5 : PySem.W.keepIn K (.ref f5) = true)
    (a6 : PySem.W.nsIn K mainGlobals "led" = some (some (.ref f6))) (l6 : K.lookup f6 = some ⟨oc6, od6, .func (PySem.W.fnOf "led" "led" (defArgs sLed) (defBody sLed) (defScope sLed) .none kV6 dc6 pm6 an6 cd6 ct6), sl6⟩) (c6 : PySem.W.codeIn K cd6 "led" = true) (k6 : PySem.W.keepIn K (.ref f6) = true)
    (a7 : PySem.W.nsIn K mainGlobals "first_unlike" = some (some (.ref f7))) (l7 : K.lookup f7 = some ⟨oc7, od7, .func (PySem.W.fnOf "first_unlike" "first_unlike" (defArgs sFirstU) (defBody sFirstU) (defScope sFirstU) .none kV7 dc7 pm7 an7 cd7 ct7), sl7⟩) (c7 : PySem.W.codeIn K cd7 "first_unlike" = true) (k7 : PySem.W.keepIn K (.ref f7) = true)
    (a8 : PySem.W.nsIn K mainGlobals "exchanged" = some (some (.ref f8))) (l8 : K.lookup f8 = some ⟨oc8, od8, .func (PySem.W.fnOf "exchanged" "exchanged" (defArgs sExch) (defBody sExch) (defScope sExch) .none kV8 dc8 pm8 an8 cd8 ct8), sl8⟩) (c8 : PySem.W.codeIn K cd8 "exchanged" = true) (k8 : PySem.W.keepIn K (.ref f8) = true)
    (a9 : PySem.W.nsIn K mainGlobals "_law_take" = some (some (.ref f9))) (l9 : K.lookup f9 = some ⟨oc9, od9, .func (PySem.W.fnOf "_law_take" "_law_take" (defArgs sTake) (defBody sTake) (defScope sTake) .none kV9 dc9 pm9 an9 cd9 ct9), sl9⟩) (c9 : PySem.W.codeIn K cd9 "_law_take" = true) (k9 : PySem.W.keepIn K (.ref f9) = true)
    (a10 : PySem.W.nsIn K mainGlobals "_law_names" = some (some (.ref f10))) (l10 : K.lookup f10 = some ⟨oc10, od10, .func (PySem.W.fnOf "_law_names" "_law_names" (defArgs sNames) (defBody sNames) (defScope sNames) .none kV10 dc10 pm10 an10 cd10 ct10), sl10⟩) (c10 : PySem.W.codeIn K cd10 "_law_names" = true) (k10 : PySem.W.keepIn K (.ref f10) = true)
    (a11 : PySem.W.nsIn K mainGlobals "_law_ties" = some (some (.ref f11))) (l11 : K.lookup f11 = some ⟨oc11, od11, .func (PySem.W.fnOf "_law_ties" "_law_ties" (defArgs sTies) (defBody sTies) (defScope sTies) .none kV11 dc11 pm11 an11 cd11 ct11), sl11⟩) (c11 : PySem.W.codeIn K cd11 "_law_ties" = true) (k11 : PySem.W.keepIn K (.ref f11) = true)
    (a12 : PySem.W.nsIn K mainGlobals "_law_built" = some (some (.ref f12))) (l12 : K.lookup f12 = some ⟨oc12, od12, .func (PySem.W.fnOf "_law_built" "_law_built" (defArgs sBuilt) (defBody sBuilt) (defScope sBuilt) .none kV12 dc12 pm12 an12 cd12 ct12), sl12⟩) (c12 : PySem.W.codeIn K cd12 "_law_built" = true) (k12 : PySem.W.keepIn K (.ref f12) = true)
    (a13 : PySem.W.nsIn K mainGlobals "_law_web" = some (some (.ref f13))) (l13 : K.lookup f13 = some ⟨oc13, od13, .func (PySem.W.fnOf "_law_web" "_law_web" (defArgs sWeb) (defBody sWeb) (defScope sWeb) .none kV13 dc13 pm13 an13 cd13 ct13), sl13⟩) (c13 : PySem.W.codeIn K cd13 "_law_web" = true) (k13 : PySem.W.keepIn K (.ref f13) = true)
    (a14 : PySem.W.nsIn K mainGlobals "_law_same" = some (some (.ref f14))) (l14 : K.lookup f14 = some ⟨oc14, od14, .func (PySem.W.fnOf "_law_same" "_law_same" (defArgs sSame) (defBody sSame) (defScope sSame) .none kV14 dc14 pm14 an14 cd14 ct14), sl14⟩) (c14 : PySem.W.codeIn K cd14 "_law_same" = true) (k14 : PySem.W.keepIn K (.ref f14) = true)
    (a15 : PySem.W.nsIn K mainGlobals "_law_free" = some (some (.ref f15))) (l15 : K.lookup f15 = some ⟨oc15, od15, .func (PySem.W.fnOf "_law_free" "_law_free" (defArgs sFree) (defBody sFree) (defScope sFree) .none kV15 dc15 pm15 an15 cd15 ct15), sl15⟩) (c15 : PySem.W.codeIn K cd15 "_law_free" = true) (k15 : PySem.W.keepIn K (.ref f15) = true)
    (a16 : PySem.W.nsIn K mainGlobals "_law_drawn" = some (some (.ref f16))) (l16 : K.lookup f16 = some ⟨oc16, od16, .func (PySem.W.fnOf "_law_drawn" "_law_drawn" (defArgs sDrawn) (defBody sDrawn) (defScope sDrawn) .none kV16 dc16 pm16 an16 cd16 ct16), sl16⟩) (c16 : PySem.W.codeIn K cd16 "_law_drawn" = true) (k16 : PySem.W.keepIn K (.ref f16) = true)
    (a17 : PySem.W.nsIn K mainGlobals "_law_others" = some (some (.ref f17))) (l17 : K.lookup f17 = some ⟨oc17, od17, .func (PySem.W.fnOf "_law_others" "_law_others" (defArgs sOthers) (defBody sOthers) (defScope sOthers) .none kV17 dc17 pm17 an17 cd17 ct17), sl17⟩) (c17 : PySem.W.codeIn K cd17 "_law_others" = true) (k17 : PySem.W.keepIn K (.ref f17) = true)
    (a18 : PySem.W.nsIn K mainGlobals "_law_led" = some (some (.ref f18))) (l18 : K.lookup f18 = some ⟨oc18, od18, .func (PySem.W.fnOf "_law_led" "_law_led" (defArgs sLLed) (defBody sLLed) (defScope sLLed) .none kV18 dc18 pm18 an18 cd18 ct18), sl18⟩) (c18 : PySem.W.codeIn K cd18 "_law_led" = true) (k18 : PySem.W.keepIn K (.ref f18) = true)
    (a19 : PySem.W.nsIn K mainGlobals "_law_due" = some (some (.ref f19))) (l19 : K.lookup f19 = some ⟨oc19, od19, .func (PySem.W.fnOf "_law_due" "_law_due" (defArgs sDue) (defBody sDue) (defScope sDue) .none kV19 dc19 pm19 an19 cd19 ct19), sl19⟩) (c19 : PySem.W.codeIn K cd19 "_law_due" = true) (k19 : PySem.W.keepIn K (.ref f19) = true)
    (a20 : PySem.W.nsIn K mainGlobals "_law_no_order" = some (some (.ref f20))) (l20 : K.lookup f20 = some ⟨oc20, od20, .func (PySem.W.fnOf "_law_no_order" "_law_no_order" (defArgs sNoOrd) (defBody sNoOrd) (defScope sNoOrd) .none kV20 dc20 pm20 an20 cd20 ct20), sl20⟩) (c20 : PySem.W.codeIn K cd20 "_law_no_order" = true) (k20 : PySem.W.keepIn K (.ref f20) = true)
    (a21 : PySem.W.nsIn K mainGlobals "_law_refused" = some (some (.ref f21))) (l21 : K.lookup f21 = some ⟨oc21, od21, .func (PySem.W.fnOf "_law_refused" "_law_refused" (defArgs sRefused) (defBody sRefused) (defScope sRefused) .none kV21 dc21 pm21 an21 cd21 ct21), sl21⟩) (c21 : PySem.W.codeIn K cd21 "_law_refused" = true) (k21 : PySem.W.keepIn K (.ref f21) = true)
    (a22 : PySem.W.nsIn K mainGlobals "_law_right" = some (some (.ref f22))) (l22 : K.lookup f22 = some ⟨oc22, od22, .func (PySem.W.fnOf "_law_right" "_law_right" (defArgs sRight) (defBody sRight) (defScope sRight) .none kV22 dc22 pm22 an22 cd22 ct22), sl22⟩) (c22 : PySem.W.codeIn K cd22 "_law_right" = true) (k22 : PySem.W.keepIn K (.ref f22) = true)
    (a23 : PySem.W.nsIn K mainGlobals "law" = some (some (.ref f23))) (l23 : K.lookup f23 = some ⟨oc23, od23, .func (PySem.W.fnOf "law" "law" (defArgs sLaw) (defBody sLaw) (defScope sLaw) .none kV23 dc23 pm23 an23 cd23 ct23), sl23⟩) (c23 : PySem.W.codeIn K cd23 "law" = true) (k23 : PySem.W.keepIn K (.ref f23) = true)
    (z1 : PySem.W.nsIn K mainGlobals "len" = some none) (z2 : PySem.W.nsIn K mainGlobals "range" = some none) (z3 : PySem.W.nsIn K mainGlobals "abs" = some none) (z4 : PySem.W.nsIn K mainGlobals "all" = some none) (z5 : PySem.W.nsIn K mainGlobals "repr" = some none) (z6 : PySem.W.nsIn K mainGlobals "isinstance" = some none) (z7 : PySem.W.nsIn K mainGlobals "str" = some none) (z8 : PySem.W.nsIn K mainGlobals "int" = some none) (z9 : PySem.W.nsIn K mainGlobals "bool" = some none) (z10 : PySem.W.nsIn K mainGlobals "enumerate" = some none) (z11 : PySem.W.nsIn K mainGlobals "list" = some none) (z12 : PySem.W.nsIn K mainGlobals "tuple" = some none) (z13 : PySem.W.nsIn K mainGlobals "dict" = some none) (z14 : PySem.W.nsIn K mainGlobals "min" = some none) (z15 : PySem.W.nsIn K mainGlobals "max" = some none) (z16 : PySem.W.nsIn K mainGlobals "sorted" = some none)
    {tk1 : Tok} (y1 : PySem.W.nsIn K mainGlobals "MOST_SIGNS" = some (some (.int 8 tk1)))
    {x1 x2 x3 x4 x5 x6 x7 x8 x9 x10 x11 x12 x13 x14 x15 x16 x17 x18 x19 x20 : Addr} (r1 : PySem.W.nsIn K mainGlobals "OrderError" = some (some (.ref x1))) (r2 : PySem.W.nsIn K mainGlobals "NoWeb" = some (some (.ref x2))) (r3 : PySem.W.nsIn K mainGlobals "NoText" = some (some (.ref x3))) (r4 : PySem.W.nsIn K mainGlobals "Ring" = some (some (.ref x4))) (r5 : PySem.W.nsIn K mainGlobals "NoOrder" = some (some (.ref x5))) (r6 : PySem.W.nsIn K mainGlobals "NoWeights" = some (some (.ref x6))) (r7 : PySem.W.nsIn K mainGlobals "NoHouse" = some (some (.ref x7))) (r8 : PySem.W.nsIn K mainGlobals "NoDeed" = some (some (.ref x8))) (r9 : PySem.W.nsIn K mainGlobals "NoUnit" = some (some (.ref x9))) (r10 : PySem.W.nsIn K mainGlobals "Twice" = some (some (.ref x10))) (r11 : PySem.W.nsIn K mainGlobals "Within" = some (some (.ref x11))) (r12 : PySem.W.nsIn K mainGlobals "NoTie" = some (some (.ref x12))) (r13 : PySem.W.nsIn K mainGlobals "Full" = some (some (.ref x13))) (r14 : PySem.W.nsIn K mainGlobals "Apart" = some (some (.ref x14))) (r15 : PySem.W.nsIn K mainGlobals "NoWant" = some (some (.ref x15))) (r16 : PySem.W.nsIn K mainGlobals "TooMany" = some (some (.ref x16))) (r17 : PySem.W.nsIn K mainGlobals "NoUndo" = some (some (.ref x17))) (r18 : PySem.W.nsIn K mainGlobals "NoRedo" = some (some (.ref x18))) (r19 : PySem.W.nsIn K mainGlobals "Clash" = some (some (.ref x19))) (r20 : PySem.W.nsIn K mainGlobals "NoRow" = some (some (.ref x20)))
    (en : PySem.W.specialIn K (.builtin "object.__class__") "__get__" = some (some (.builtin "getset_descriptor.__get__"))) (et : PySem.W.takesIn K (.builtin "object.__class__") = some true) (ev : PySem.W.nsIn K mainGlobals "ValueError" = some none)
    {N1 : Addr} {bs1 bm1 su1 : List Value} {nm1 q1 : Str} {hd1 ab1 : Bool} {sn1 : List Str} {co1 : Option Bool} {dd1 : Option Addr} {ka1 kb1 kc1 kd1 ke1 : Option Value}
    (o1 : K.lookup x1 = some (excClassObj nm1 q1 x1 N1 bs1 bm1 hd1 sn1 su1 ab1 co1 dd1 ka1 kb1 kc1 kd1 ke1 "ValueError.__new__"))
    (u1 : PySem.W.nsOkIn K N1 = true) (ni1 : PySem.W.nsIn K N1 "__init__" = some none) (tl1 : PySem.W.tailIn K [.type "ValueError", .type "Exception", .type "BaseException", .type "object"] bm1 = true)
    (ga1 : PySem.W.findIn K (.ref x1) "__getattribute__" = some (some (.builtin "BaseException.__getattribute__"))) (gb1 : PySem.W.findIn K (.ref x1) "__getattr__" = some none) (ha1 : PySem.W.findIn K (.ref x1) "__class__" = some (some (.builtin "object.__class__")))
    (hm1 : PySem.W.mroIn K x1 (.type "object") = some true) (hb1 : PySem.W.mroIn K x1 (.type "BaseException") = some true) (cl1 : (PySem.W.clsIn K x1).isSome = true)
    (p1 : bm1.contains (.type "BaseException") = true) (q_1 : (Value.ref x1 :: bm1).contains (.ref x1) = true) (w1 : PySem.W.kitOne K (.ref x1) (.type "ValueError") = some true)
    {N5 : Addr} {bs5 bm5 su5 : List Value} {nm5 q5 : Str} {hd5 ab5 : Bool} {sn5 : List Str} {co5 : Option Bool} {dd5 : Option Addr} {ka5 kb5 kc5 kd5 ke5 : Option Value}
    (o5 : K.lookup x5 = some (excClassObj nm5 q5 x5 N5 bs5 bm5 hd5 sn5 su5 ab5 co5 dd5 ka5 kb5 kc5 kd5 ke5 "ValueError.__new__"))
    (u5 : PySem.W.nsOkIn K N5 = true) (ni5 : PySem.W.nsIn K N5 "__init__" = some none) (tl5 : PySem.W.tailIn K [.type "ValueError", .type "Exception", .type "BaseException", .type "object"] bm5 = true)
    (ga5 : PySem.W.findIn K (.ref x5) "__getattribute__" = some (some (.builtin "BaseException.__getattribute__"))) (gb5 : PySem.W.findIn K (.ref x5) "__getattr__" = some none) (ha5 : PySem.W.findIn K (.ref x5) "__class__" = some (some (.builtin "object.__class__")))
    (hm5 : PySem.W.mroIn K x5 (.type "object") = some true) (hb5 : PySem.W.mroIn K x5 (.type "BaseException") = some true) (cl5 : (PySem.W.clsIn K x5).isSome = true)
    (p5 : bm5.contains (.type "BaseException") = true) (q_5 : (Value.ref x5 :: bm5).contains (.ref x1) = true) (w5 : PySem.W.kitOne K (.ref x5) (.type "ValueError") = some true)
    (g5_1 : PySem.W.kitOne K (.ref x5) (.ref x1) = some true) (g5_2 : PySem.W.kitOne K (.ref x5) (.ref x2) = some false) (g5_3 : PySem.W.kitOne K (.ref x5) (.ref x3) = some false) (g5_4 : PySem.W.kitOne K (.ref x5) (.ref x4) = some false) (g5_5 : PySem.W.kitOne K (.ref x5) (.ref x5) = some true) (g5_6 : PySem.W.kitOne K (.ref x5) (.ref x6) = some false) (g5_7 : PySem.W.kitOne K (.ref x5) (.ref x7) = some false) (g5_8 : PySem.W.kitOne K (.ref x5) (.ref x8) = some false) (g5_9 : PySem.W.kitOne K (.ref x5) (.ref x9) = some false) (g5_10 : PySem.W.kitOne K (.ref x5) (.ref x10) = some false) (g5_11 : PySem.W.kitOne K (.ref x5) (.ref x11) = some false) (g5_12 : PySem.W.kitOne K (.ref x5) (.ref x12) = some false) (g5_13 : PySem.W.kitOne K (.ref x5) (.ref x13) = some false) (g5_14 : PySem.W.kitOne K (.ref x5) (.ref x14) = some false) (g5_15 : PySem.W.kitOne K (.ref x5) (.ref x15) = some false) (g5_16 : PySem.W.kitOne K (.ref x5) (.ref x16) = some false) (g5_17 : PySem.W.kitOne K (.ref x5) (.ref x17) = some false) (g5_18 : PySem.W.kitOne K (.ref x5) (.ref x18) = some false) (g5_19 : PySem.W.kitOne K (.ref x5) (.ref x19) = some false) (g5_20 : PySem.W.kitOne K (.ref x5) (.ref x20) = some false)
    : ∃ fd : FuncData, (∀ (s : Shared) (v : Value), BindsTo s fd ⟨[v], []⟩ [("_law_script", v)]) ∧ ∀ base : Heap, K.In base → base.Ns mainGlobals mg → FnOk l.prog w K mg base CX0 7 fa fd ["_law_script"] (spLaw K) := by
  have e := hfa.symm.trans (PySem.W.mg_of X G a23)
  cases e
  have B : Blt mg := ⟨PySem.W.mg_none_of X G z1, PySem.W.mg_none_of X G z2, PySem.W.mg_none_of X G z3, PySem.W.mg_none_of X G z4, PySem.W.mg_none_of X G z5, PySem.W.mg_none_of X G z6, PySem.W.mg_none_of X G z7, PySem.W.mg_none_of X G z8, PySem.W.mg_none_of X G z9, PySem.W.mg_none_of X G z10, PySem.W.mg_none_of X G z11, PySem.W.mg_none_of X G z12, PySem.W.mg_none_of X G z13, PySem.W.mg_none_of X G z14, PySem.W.mg_none_of X G z15⟩
  have Zsorted := PySem.W.mg_none_of X G z16
  have TMOST_SIGNS := PySem.W.mg_of X G y1
  have F1 := fun_mk (st := sIsName) l1 c1 k1
  have F2 := fun_mk (st := sPlaces) l2 c2 k2
  have F3 := fun_mk (st := sLists) l3 c3 k3
  have F4 := fun_mk (st := sIsOrder) l4 c4 k4
  have F5 := fun_mk (st := sExchs) l5 c5 k5
  have F6 := fun_mk (st := sLed) l6 c6 k6
  have F7 := fun_mk (st := sFirstU) l7 c7 k7
  have F8 := fun_mk (st := sExch) l8 c8 k8
  have F9 := fun_mk (st := sTake) l9 c9 k9
  have F10 := fun_mk (st := sNames) l10 c10 k10
  have F11 := fun_mk (st := sTies) l11 c11 k11
  have F12 := fun_mk (st := sBuilt) l12 c12 k12
  have F13 := fun_mk (st := sWeb) l13 c13 k13
  have F14 := fun_mk (st := sSame) l14 c14 k14
  have F15 := fun_mk (st := sFree) l15 c15 k15
  have F16 := fun_mk (st := sDrawn) l16 c16 k16
  have F17 := fun_mk (st := sOthers) l17 c17 k17
  have F18 := fun_mk (st := sLLed) l18 c18 k18
  have F19 := fun_mk (st := sDue) l19 c19 k19
  have F20 := fun_mk (st := sNoOrd) l20 c20 k20
  have F21 := fun_mk (st := sRefused) l21 c21 k21
  have F22 := fun_mk (st := sRight) l22 c22 k22
  have F23 := fun_mk (st := sLaw) l23 c23 k23
  have b1 := F1.binds (ps := ["thing"]) fun _ _ _ _ _ _ us hl => by obtain ⟨_, rfl⟩ := ar1 hl; rfl
  have b2 := F2.binds (ps := ["things"]) fun _ _ _ _ _ _ us hl => by obtain ⟨_, rfl⟩ := ar1 hl; rfl
  have b3 := F3.binds (ps := ["web", "thing"]) fun _ _ _ _ _ _ us hl => by obtain ⟨_, _, rfl⟩ := ar2 hl; rfl
  have b4 := F4.binds (ps := ["web", "thing"]) fun _ _ _ _ _ _ us hl => by obtain ⟨_, _, rfl⟩ := ar2 hl; rfl
  have b5 := F5.binds (ps := ["web", "one", "other"]) fun _ _ _ _ _ _ us hl => by obtain ⟨_, _, _, rfl⟩ := ar3 hl; rfl
  have b6 := F6.binds (ps := ["order", "some"]) fun _ _ _ _ _ _ us hl => by obtain ⟨_, _, rfl⟩ := ar2 hl; rfl
  have b7 := F7.binds (ps := ["row", "goal"]) fun _ _ _ _ _ _ us hl => by obtain ⟨_, _, rfl⟩ := ar2 hl; rfl
  have b8 := F8.binds (ps := ["row", "number"]) fun _ _ _ _ _ _ us hl => by obtain ⟨_, _, rfl⟩ := ar2 hl; rfl
  have b9 := F9.binds (ps := ["_law_pen", "_law_many"]) fun _ _ _ _ _ _ us hl => by obtain ⟨_, _, rfl⟩ := ar2 hl; rfl
  have b10 := F10.binds (ps := ["_law_pen", "_law_many"]) fun _ _ _ _ _ _ us hl => by obtain ⟨_, _, rfl⟩ := ar2 hl; rfl
  have b11 := F11.binds (ps := ["_law_pen", "_law_size", "_law_count", "_law_kind"]) fun _ _ _ _ _ _ us hl => by obtain ⟨_, _, _, _, rfl⟩ := ar4 hl; rfl
  have b12 := F12.binds (ps := ["_law_pen"]) fun _ _ _ _ _ _ us hl => by obtain ⟨_, rfl⟩ := ar1 hl; rfl
  have b13 := F13.binds (ps := ["_law_names_here", "_law_ties_here"]) fun _ _ _ _ _ _ us hl => by obtain ⟨_, _, rfl⟩ := ar2 hl; rfl
  have b14 := F14.binds (ps := ["_law_found", "_law_due_here"]) fun _ _ _ _ _ _ us hl => by obtain ⟨_, _, rfl⟩ := ar2 hl; rfl
  have b15 := F15.binds (ps := ["_law_left", "_law_ties_here"]) fun _ _ _ _ _ _ us hl => by obtain ⟨_, _, rfl⟩ := ar2 hl; rfl
  have b16 := F16.binds (ps := ["_law_pen", "_law_size", "_law_ties_here"]) fun _ _ _ _ _ _ us hl => by obtain ⟨_, _, _, rfl⟩ := ar3 hl; rfl
  have b17 := F17.binds (ps := ["_law_caught"]) fun _ _ _ _ _ _ us hl => by obtain ⟨_, rfl⟩ := ar1 hl; rfl
  have b18 := F18.binds (ps := ["_law_told", "_law_some"]) fun _ _ _ _ _ _ us hl => by obtain ⟨_, _, rfl⟩ := ar2 hl; rfl
  have b19 := F19.binds (ps := ["_law_one", "_law_other"]) fun _ _ _ _ _ _ us hl => by obtain ⟨_, _, rfl⟩ := ar2 hl; rfl
  have b20 := F20.binds (ps := ["_law_pen", "_law_names_here", "_law_ties_here", "_law_told"]) fun _ _ _ _ _ _ us hl => by obtain ⟨_, _, _, _, rfl⟩ := ar4 hl; rfl
  have b21 := F21.binds (ps := ["_law_web_here", "_law_one", "_law_other"]) fun _ _ _ _ _ _ us hl => by obtain ⟨_, _, _, rfl⟩ := ar3 hl; rfl
  have b22 := F22.binds (ps := ["_law_pen", "_law_web_here", "_law_names_here", "_law_ties_here", "_law_orders"]) fun _ _ _ _ _ _ us hl => by obtain ⟨_, _, _, _, _, rfl⟩ := ar5 hl; rfl
  refine ⟨PySem.W.fnOf "law" "law" (defArgs sLaw) (defBody sLaw) (defScope sLaw) .none kV23 dc23 pm23 an23 cd23 ct23, fun s v => .of_eq rfl, fun base XB GB => ?_⟩
  have eN : (["OrderError", "NoWeb", "NoText", "Ring", "NoOrder", "NoWeights", "NoHouse", "NoDeed", "NoUnit", "Twice", "Within", "NoTie", "Full", "Apart", "NoWant", "TooMany", "NoUndo", "NoRedo", "Clash", "NoRow"] : List Str).Nodup := by decide +kernel
  have eO : ecOf ([("OrderError", x1), ("NoWeb", x2), ("NoText", x3), ("Ring", x4), ("NoOrder", x5), ("NoWeights", x6), ("NoHouse", x7), ("NoDeed", x8), ("NoUnit", x9), ("Twice", x10), ("Within", x11), ("NoTie", x12), ("Full", x13), ("Apart", x14), ("NoWant", x15), ("TooMany", x16), ("NoUndo", x17), ("NoRedo", x18), ("Clash", x19), ("NoRow", x20)] : List (Str × Addr)) "OrderError" = x1 := ecOf_at (ps := [("OrderError", x1), ("NoWeb", x2), ("NoText", x3), ("Ring", x4), ("NoOrder", x5), ("NoWeights", x6), ("NoHouse", x7), ("NoDeed", x8), ("NoUnit", x9), ("Twice", x10), ("Within", x11), ("NoTie", x12), ("Full", x13), ("Apart", x14), ("NoWant", x15), ("TooMany", x16), ("NoUndo", x17), ("NoRedo", x18), ("Clash", x19), ("NoRow", x20)]) eN ("OrderError", x1) (.head _)
  have Er : Errs K mg base (ecOf ([("OrderError", x1), ("NoWeb", x2), ("NoText", x3), ("Ring", x4), ("NoOrder", x5), ("NoWeights", x6), ("NoHouse", x7), ("NoDeed", x8), ("NoUnit", x9), ("Twice", x10), ("Within", x11), ("NoTie", x12), ("Full", x13), ("Apart", x14), ("NoWant", x15), ("TooMany", x16), ("NoUndo", x17), ("NoRedo", x18), ("Clash", x19), ("NoRow", x20)] : List (Str × Addr))) excL excC := errs_mk (ps := [("OrderError", x1), ("NoWeb", x2), ("NoText", x3), ("Ring", x4), ("NoOrder", x5), ("NoWeights", x6), ("NoHouse", x7), ("NoDeed", x8), ("NoUnit", x9), ("Twice", x10), ("Within", x11), ("NoTie", x12), ("Full", x13), ("Apart", x14), ("NoWant", x15), ("TooMany", x16), ("NoUndo", x17), ("NoRedo", x18), ("Clash", x19), ("NoRow", x20)]) (cs := [("OrderError", x1), ("NoOrder", x5)]) eN (fa_cons (.head _) (fa_cons (.tail _ (.tail _ (.tail _ (.tail _ (.head _))))) fa_nil)) (fa_cons (PySem.W.mg_of X G r1) (fa_cons (PySem.W.mg_of X G r2) (fa_cons (PySem.W.mg_of X G r3) (fa_cons (PySem.W.mg_of X G r4) (fa_cons (PySem.W.mg_of X G r5) (fa_cons (PySem.W.mg_of X G r6) (fa_cons (PySem.W.mg_of X G r7) (fa_cons (PySem.W.mg_of X G r8) (fa_cons (PySem.W.mg_of X G r9) (fa_cons (PySem.W.mg_of X G r10) (fa_cons (PySem.W.mg_of X G r11) (fa_cons (PySem.W.mg_of X G r12) (fa_cons (PySem.W.mg_of X G r13) (fa_cons (PySem.W.mg_of X G r14) (fa_cons (PySem.W.mg_of X G r15) (fa_cons (PySem.W.mg_of X G r16) (fa_cons (PySem.W.mg_of X G r17) (fa_cons (PySem.W.mg_of X G r18) (fa_cons (PySem.W.mg_of X G r19) (fa_cons (PySem.W.mg_of X G r20) fa_nil)))))))))))))))))))) (fa_cons ⟨ga1, gb1, ha1, en, et, hm1, hb1, cl1⟩ (fa_cons ⟨ga5, gb5, ha5, en, et, hm5, hb5, cl5⟩ fa_nil)) (show ("OrderError" : Str) ∈ excC by decide +kernel) (fa_cons (fun h => absurd rfl h) (fa_cons (fun _ => (fa_cons (g5_1.trans (congrArg some (show true = (("OrderError" : Str) == ("NoOrder" : Str) || ("OrderError" : Str) == ("OrderError" : Str)) by decide +kernel))) (fa_cons (g5_2.trans (congrArg some (show false = (("NoWeb" : Str) == ("NoOrder" : Str) || ("NoWeb" : Str) == ("OrderError" : Str)) by decide +kernel))) (fa_cons (g5_3.trans (congrArg some (show false = (("NoText" : Str) == ("NoOrder" : Str) || ("NoText" : Str) == ("OrderError" : Str)) by decide +kernel))) (fa_cons (g5_4.trans (congrArg some (show false = (("Ring" : Str) == ("NoOrder" : Str) || ("Ring" : Str) == ("OrderError" : Str)) by decide +kernel))) (fa_cons (g5_5.trans (congrArg some (show true = (("NoOrder" : Str) == ("NoOrder" : Str) || ("NoOrder" : Str) == ("OrderError" : Str)) by decide +kernel))) (fa_cons (g5_6.trans (congrArg some (show false = (("NoWeights" : Str) == ("NoOrder" : Str) || ("NoWeights" : Str) == ("OrderError" : Str)) by decide +kernel))) (fa_cons (g5_7.trans (congrArg some (show false = (("NoHouse" : Str) == ("NoOrder" : Str) || ("NoHouse" : Str) == ("OrderError" : Str)) by decide +kernel))) (fa_cons (g5_8.trans (congrArg some (show false = (("NoDeed" : Str) == ("NoOrder" : Str) || ("NoDeed" : Str) == ("OrderError" : Str)) by decide +kernel))) (fa_cons (g5_9.trans (congrArg some (show false = (("NoUnit" : Str) == ("NoOrder" : Str) || ("NoUnit" : Str) == ("OrderError" : Str)) by decide +kernel))) (fa_cons (g5_10.trans (congrArg some (show false = (("Twice" : Str) == ("NoOrder" : Str) || ("Twice" : Str) == ("OrderError" : Str)) by decide +kernel))) (fa_cons (g5_11.trans (congrArg some (show false = (("Within" : Str) == ("NoOrder" : Str) || ("Within" : Str) == ("OrderError" : Str)) by decide +kernel))) (fa_cons (g5_12.trans (congrArg some (show false = (("NoTie" : Str) == ("NoOrder" : Str) || ("NoTie" : Str) == ("OrderError" : Str)) by decide +kernel))) (fa_cons (g5_13.trans (congrArg some (show false = (("Full" : Str) == ("NoOrder" : Str) || ("Full" : Str) == ("OrderError" : Str)) by decide +kernel))) (fa_cons (g5_14.trans (congrArg some (show false = (("Apart" : Str) == ("NoOrder" : Str) || ("Apart" : Str) == ("OrderError" : Str)) by decide +kernel))) (fa_cons (g5_15.trans (congrArg some (show false = (("NoWant" : Str) == ("NoOrder" : Str) || ("NoWant" : Str) == ("OrderError" : Str)) by decide +kernel))) (fa_cons (g5_16.trans (congrArg some (show false = (("TooMany" : Str) == ("NoOrder" : Str) || ("TooMany" : Str) == ("OrderError" : Str)) by decide +kernel))) (fa_cons (g5_17.trans (congrArg some (show false = (("NoUndo" : Str) == ("NoOrder" : Str) || ("NoUndo" : Str) == ("OrderError" : Str)) by decide +kernel))) (fa_cons (g5_18.trans (congrArg some (show false = (("NoRedo" : Str) == ("NoOrder" : Str) || ("NoRedo" : Str) == ("OrderError" : Str)) by decide +kernel))) (fa_cons (g5_19.trans (congrArg some (show false = (("Clash" : Str) == ("NoOrder" : Str) || ("Clash" : Str) == ("OrderError" : Str)) by decide +kernel))) (fa_cons (g5_20.trans (congrArg some (show false = (("NoRow" : Str) == ("NoOrder" : Str) || ("NoRow" : Str) == ("OrderError" : Str)) by decide +kernel))) fa_nil))))))))))))))))))))) fa_nil)) (fa_cons w1 (fa_cons w5 fa_nil)) (fa_cons ⟨bm1, xat_mk XB o1, p1, (by rw [eO]; exact q_1)⟩ (fa_cons ⟨bm5, xat_mk XB o5, p5, (by rw [eO]; exact q_5)⟩ fa_nil)) (PySem.W.mg_none_of X G ev) (fa_cons (fun _ => own_mk XB (PySem.W.mg_of X G r1) o1 u1 ni1 tl1) (fa_cons (fun _ => own_mk XB (PySem.W.mg_of X G r5) o5 u5 ni5 tl5) fa_nil))
  have c__law_take : Cal l.prog w K mg base 1 "_law_take" ["_law_pen", "_law_many"] (spDraw K) := ⟨_, _, ok_take F9 B, PySem.W.mg_of X G a9, k9, b9⟩
  have c__law_names : Cal l.prog w K mg base 2 "_law_names" ["_law_pen", "_law_many"] (spNames K) := ⟨_, _, ok_names F10 B c__law_take, PySem.W.mg_of X G a10, k10, b10⟩
  have c__law_ties : Cal l.prog w K mg base 2 "_law_ties" ["_law_pen", "_law_size", "_law_count", "_law_kind"] (spTies K) := ⟨_, _, ok_ties F11 B c__law_take, PySem.W.mg_of X G a11, k11, b11⟩
  have c__law_built : Cal l.prog w K mg base 4 "_law_built" ["_law_pen"] (spBuilt K) := ⟨_, _, ok_built F12 B c__law_take c__law_names c__law_ties, PySem.W.mg_of X G a12, k12, b12⟩
  have c__law_web : Cal l.prog w K mg base 1 "_law_web" ["_law_names_here", "_law_ties_here"] spWeb := ⟨_, _, ok_web F13 B, PySem.W.mg_of X G a13, k13, b13⟩
  have c__law_same : Cal l.prog w K mg base 1 "_law_same" ["_law_found", "_law_due_here"] spSame := ⟨_, _, ok_same F14 B, PySem.W.mg_of X G a14, k14, b14⟩
  have c__law_free : Cal l.prog w K mg base 1 "_law_free" ["_law_left", "_law_ties_here"] spFree := ⟨_, _, ok_free F15 B, PySem.W.mg_of X G a15, k15, b15⟩
  have c__law_drawn : Cal l.prog w K mg base 2 "_law_drawn" ["_law_pen", "_law_size", "_law_ties_here"] (spDrawn K) := ⟨_, _, ok_drawn F16 B c__law_take c__law_free, PySem.W.mg_of X G a16, k16, b16⟩
  have c_places_of : Cal l.prog w K mg base 1 "places_of" ["things"] spPlacesX := ⟨_, _, ok_placesX F2 B, PySem.W.mg_of X G a2, k2, b2⟩
  have c_is_name : Cal l.prog w K mg base 1 "is_name" ["thing"] spIsName := ⟨_, _, ok_isname F1 B TMOST_SIGNS, PySem.W.mg_of X G a1, k1, b1⟩
  have c_lists_things : Cal l.prog w K mg base 2 "lists_things" ["web", "thing"] spLists := ⟨_, _, ok_lists F3 B c_places_of c_is_name, PySem.W.mg_of X G a3, k3, b3⟩
  have c_is_order : Cal l.prog w K mg base 3 "is_order" ["web", "thing"] (spIsO ioK) := ⟨_, _, ok_isO (ok_is_order F4 B c_places_of c_lists_things), PySem.W.mg_of X G a4, k4, b4⟩
  have c_exchanged : Cal l.prog w K mg base 1 "exchanged" ["row", "number"] spExch := ⟨_, _, ok_exch F8 B, PySem.W.mg_of X G a8, k8, b8⟩
  have c__law_others : Cal l.prog w K mg base 1 "_law_others" ["_law_caught"] (spOthers _) := ⟨_, _, ok_others F17 B Er, PySem.W.mg_of X G a17, k17, b17⟩
  have c_exchangesX : CalX l.prog w K mg base 4 "exchanges" ["web", "one", "other"] (spRaises _ "NoOrder" (badO ioK)) := ⟨_, _, ok_exchBad F5 B Er c_is_order, PySem.W.mg_of X G a5, k5, b5⟩
  have c__law_refused : Cal l.prog w K mg base 5 "_law_refused" ["_law_web_here", "_law_one", "_law_other"] (spRefused (badO ioK)) := ⟨_, _, ok_refused F21 B Er c__law_others c_exchangesX, PySem.W.mg_of X G a21, k21, b21⟩
  have c_first_unlike : Cal l.prog w K mg base 1 "first_unlike" ["row", "goal"] spFirstU := ⟨_, _, ok_first F7 B, PySem.W.mg_of X G a7, k7, b7⟩
  have c_led : Cal l.prog w K mg base 2 "led" ["order", "some"] spLed := ⟨_, _, ok_led F6 B c_exchanged, PySem.W.mg_of X G a6, k6, b6⟩
  have c_exchanges : Cal l.prog w K mg base 4 "exchanges" ["web", "one", "other"] spExchs := ⟨_, _, ok_exchs F5 B c_is_order c_places_of c_first_unlike c_exchanged, PySem.W.mg_of X G a5, k5, b5⟩
  have c__law_led : Cal l.prog w K mg base 1 "_law_led" ["_law_told", "_law_some"] spLed := ⟨_, _, ok_lled F18 B, PySem.W.mg_of X G a18, k18, b18⟩
  have c__law_due : Cal l.prog w K mg base 1 "_law_due" ["_law_one", "_law_other"] spDue := ⟨_, _, ok_due F19 B, PySem.W.mg_of X G a19, k19, b19⟩
  have c__law_no_order : Cal l.prog w K mg base 2 "_law_no_order" ["_law_pen", "_law_names_here", "_law_ties_here", "_law_told"] (spNoOrd K) := ⟨_, _, ok_noOrd F20 B c__law_take, PySem.W.mg_of X G a20, k20, b20⟩
  have c__law_right : Cal l.prog w K mg base 6 "_law_right" ["_law_pen", "_law_web_here", "_law_names_here", "_law_ties_here", "_law_orders"] (spRight K) := ⟨_, _, ok_right F22 B c__law_due c_exchanges c__law_same c_led c__law_no_order c__law_refused, PySem.W.mg_of X G a22, k22, b22⟩
  exact ok_law F23 B c__law_built c__law_web c__law_drawn c__law_take c__law_refused c__law_right c_led c__law_led c__law_same
theorem walk {l : PySem.W.OpenLaw} {q : Program} {loose : List Str} {XP : (Str → Option Value) → Heap → Prop} {YP : World → Heap → Prop} {d : DefRec} {K : Params → PySem.W.Frag} (hn : l.most = some 63) (hdf : d.params.defaults = [])
    (hY : ∀ (w : World) (h : Heap), YP w h → (K w.params).In h)
    (F : ∀ (w : World) (mg : Str → Option Value) (fa : Addr) (h : Heap), (K w.params).In h → h.Ns mainGlobals mg → mg d.name = some (.ref fa) →
      ∃ fd : FuncData, (∀ (s : Shared) (u : Value), BindsTo s fd ⟨[u], []⟩ [("_law_script", u)]) ∧ ∀ base : Heap, (K w.params).In base → base.Ns mainGlobals mg → FnOk l.prog w (K w.params) mg base CX0 7 fa fd ["_law_script"] (spLaw (K w.params))) :
    PySem.W.WalkO q loose XP YP l.row.toRowW d [] (fun f vs => PySem.call f vs) :=
  L2.walk_of (n := 63) (k := 7) (x := "_law_script") (CX := fun _ => CX0) (sp := fun w => spLaw (K w.params)) hn (by decide) hdf ⟨rfl, by decide, by decide, rfl⟩ hY F (fun _ _ a ns hl _ hS => ⟨a, ns, rfl, hS, fun _ => rfl⟩) fun _ _ _ _ _ z => z
end
end K18
open PySem PySem.W PyProof.Rows
set_option maxRecDepth 100000 in
set_option maxHeartbeats 0 in
theorem PySem.Challenge.cw_orderkeep_k18_exchanges_told_holds : PySem.Challenge.rw_orderkeep_k18_exchanges_told.Holds := by
  w_on; o_law; k_head; (case hw => w_witness2)
  k_fill
  refine K18.walk (l := PySem.Challenge.rw_orderkeep_k18_exchanges_told) rfl rfl (fun w h Y => PySem.W.kIn_of Y) ?F
  case F =>
    intro w mg fa h KX G hmg
    refine' K18.all_mk KX G hmg ?a1 ?l1 ?c1 ?k1 ?a2 ?l2 ?c2 ?k2 ?a3 ?l3 ?c3 ?k3 ?a4 ?l4 ?c4 ?k4 ?a5 ?l5 ?c5 ?k5 ?a6 ?l6 ?c6 ?k6 ?a7 ?l7 ?c7 ?k7 ?a8 ?l8 ?c8 ?k8 ?a9 ?l9 ?c9 ?k9 ?a10 ?l10 ?c10 ?k10 ?a11 ?l11 ?c11 ?k11 ?a12 ?l12 ?c12 ?k12 ?a13 ?l13 ?c13 ?k13 ?a14 ?l14 ?c14 ?k14 ?a15 ?l15 ?c15 ?k15 ?a16 ?l16 ?c16 ?k16 ?a17 ?l17 ?c17 ?k17 ?a18 ?l18 ?c18 ?k18 ?a19 ?l19 ?c19 ?k19 ?a20 ?l20 ?c20 ?k20 ?a21 ?l21 ?c21 ?k21 ?a22 ?l22 ?c22 ?k22 ?a23 ?l23 ?c23 ?k23 ?z1 ?z2 ?z3 ?z4 ?z5 ?z6 ?z7 ?z8 ?z9 ?z10 ?z11 ?z12 ?z13 ?z14 ?z15 ?z16 ?y1 ?r1 ?r2 ?r3 ?r4 ?r5 ?r6 ?r7 ?r8 ?r9 ?r10 ?r11 ?r12 ?r13 ?r14 ?r15 ?r16 ?r17 ?r18 ?r19 ?r20 ?en ?et ?ev ?o1 ?u1 ?ni1 ?tl1 ?ga1 ?gb1 ?ha1 ?hm1 ?hb1 ?cl1 ?p1 ?q_1 ?w1 ?o5 ?u5 ?ni5 ?tl5 ?ga5 ?gb5 ?ha5 ?hm5 ?hb5 ?cl5 ?p5 ?q_5 ?w5 ?g5_1 ?g5_2 ?g5_3 ?g5_4 ?g5_5 ?g5_6 ?g5_7 ?g5_8 ?g5_9 ?g5_10 ?g5_11 ?g5_12 ?g5_13 ?g5_14 ?g5_15 ?g5_16 ?g5_17 ?g5_18 ?g5_19 ?g5_20
    (case a1 => k_is)
    (case l1 => k_is)
    (case c1 => k_is)
    (case k1 => k_is)
    (case a2 => k_is)
    (case l2 => k_is)
    (case c2 => k_is)
    (case k2 => k_is)
    (case a3 => k_is)
    (case l3 => k_is)
    (case c3 => k_is)
    (case k3 => k_is)
    (case a4 => k_is)
    (case l4 => k_is)
    (case c4 => k_is)
    (case k4 => k_is)
    (case a5 => k_is)
    (case l5 => k_is)
    (case c5 => k_is)
    (case k5 => k_is)
    (case a6 => k_is)
    (case l6 => k_is)
    (case c6 => k_is)
    (case k6 => k_is)
    (case a7 => k_is)
    (case l7 => k_is)
    (case c7 => k_is)
    (case k7 => k_is)
    (case a8 => k_is)
    (case l8 => k_is)
    (case c8 => k_is)
    (case k8 => k_is)
    (case a9 => k_is)
    (case l9 => k_is)
    (case c9 => k_is)
    (case k9 => k_is)
    (case a10 => k_is)
    (case l10 => k_is)
    (case c10 => k_is)
    (case k10 => k_is)
    (case a11 => k_is)
    (case l11 => k_is)
    (case c11 => k_is)
    (case k11 => k_is)
    (case a12 => k_is)
    (case l12 => k_is)
    (case c12 => k_is)
    (case k12 => k_is)
    (case a13 => k_is)
    (case l13 => k_is)
    (case c13 => k_is)
    (case k13 => k_is)
    (case a14 => k_is)
    (case l14 => k_is)
    (case c14 => k_is)
    (case k14 => k_is)
    (case a15 => k_is)
    (case l15 => k_is)
    (case c15 => k_is)
    (case k15 => k_is)
    (case a16 => k_is)
    (case l16 => k_is)
    (case c16 => k_is)
    (case k16 => k_is)
    (case a17 => k_is)
    (case l17 => k_is)
    (case c17 => k_is)
    (case k17 => k_is)
    (case a18 => k_is)
    (case l18 => k_is)
    (case c18 => k_is)
    (case k18 => k_is)
    (case a19 => k_is)
    (case l19 => k_is)
    (case c19 => k_is)
    (case k19 => k_is)
    (case a20 => k_is)
    (case l20 => k_is)
    (case c20 => k_is)
    (case k20 => k_is)
    (case a21 => k_is)
    (case l21 => k_is)
    (case c21 => k_is)
    (case k21 => k_is)
    (case a22 => k_is)
    (case l22 => k_is)
    (case c22 => k_is)
    (case k22 => k_is)
    (case a23 => k_is)
    (case l23 => k_is)
    (case c23 => k_is)
    (case k23 => k_is)
    (case z1 => k_is)
    (case z2 => k_is)
    (case z3 => k_is)
    (case z4 => k_is)
    (case z5 => k_is)
    (case z6 => k_is)
    (case z7 => k_is)
    (case z8 => k_is)
    (case z9 => k_is)
    (case z10 => k_is)
    (case z11 => k_is)
    (case z12 => k_is)
    (case z13 => k_is)
    (case z14 => k_is)
    (case z15 => k_is)
    (case z16 => k_is)
    (case y1 => k_is)
    (case r1 => k_is)
    (case r2 => k_is)
    (case r3 => k_is)
    (case r4 => k_is)
    (case r5 => k_is)
    (case r6 => k_is)
    (case r7 => k_is)
    (case r8 => k_is)
    (case r9 => k_is)
    (case r10 => k_is)
    (case r11 => k_is)
    (case r12 => k_is)
    (case r13 => k_is)
    (case r14 => k_is)
    (case r15 => k_is)
    (case r16 => k_is)
    (case r17 => k_is)
    (case r18 => k_is)
    (case r19 => k_is)
    (case r20 => k_is)
    (case en => k_is)
    (case et => k_is)
    (case ev => k_is)
    (case o1 => k_is)
    (case u1 => kernel_rfl)
    (case ni1 => k_is)
    (case tl1 => kernel_rfl)
    (case ga1 => k_is)
    (case gb1 => k_is)
    (case ha1 => k_is)
    (case hm1 => k_is)
    (case hb1 => k_is)
    (case cl1 => exact rfl)
    (case p1 => exact rfl)
    (case q_1 => exact rfl)
    (case w1 => exact rfl)
    (case o5 => k_is)
    (case u5 => kernel_rfl)
    (case ni5 => k_is)
    (case tl5 => kernel_rfl)
    (case ga5 => k_is)
    (case gb5 => k_is)
    (case ha5 => k_is)
    (case hm5 => k_is)
    (case hb5 => k_is)
    (case cl5 => exact rfl)
    (case p5 => exact rfl)
    (case q_5 => exact rfl)
    (case w5 => exact rfl)
    (case g5_1 => exact rfl)
    (case g5_2 => exact rfl)
    (case g5_3 => exact rfl)
    (case g5_4 => exact rfl)
    (case g5_5 => exact rfl)
    (case g5_6 => exact rfl)
    (case g5_7 => exact rfl)
    (case g5_8 => exact rfl)
    (case g5_9 => exact rfl)
    (case g5_10 => exact rfl)
    (case g5_11 => exact rfl)
    (case g5_12 => exact rfl)
    (case g5_13 => exact rfl)
    (case g5_14 => exact rfl)
    (case g5_15 => exact rfl)
    (case g5_16 => exact rfl)
    (case g5_17 => exact rfl)
    (case g5_18 => exact rfl)
    (case g5_19 => exact rfl)
    (case g5_20 => exact rfl)