import PyProof.Rows.All
import Wide.FinOn
import KE.KEqDict
import KE.KSortTup
import KE.KUnpack
import KE.KDictOf
import KE.KFromBytes
import KE.KIsAll
import PySem.Challenge.RW_calledroom_k22_deeds_begun_and_ended
set_option Elab.async false
set_option linter.all false
set_option maxRecDepth 100000
set_option maxHeartbeats 8000000
namespace PySem.W.Fast
def tw134037941163822668:True:=⟨⟩
def tw1113553732828274194:True:=⟨⟩
def tw4476207944777331863:True:=⟨⟩
def tw14412187856144578505:True:=⟨⟩
def tw13492825716238418028:True:=⟨⟩
def tw9711350145669140803:True:=⟨⟩
def tw5171158172793783011:True:=⟨⟩
def tw10711181583223396674:True:=⟨⟩
def tw14837781560440379646:True:=⟨⟩
def tw17724698925772609859:True:=⟨⟩
def tw9994018484408414664:True:=⟨⟩
def tw12338883011820540360:True:=⟨⟩
def tw6599745922466030302:True:=⟨⟩
def tw1174518341993530469:True:=⟨⟩
def tw17152238308323908805:True:=⟨⟩
def tw5283073613725344699:True:=⟨⟩
def tw13928542207416407383:True:=⟨⟩
def tw11994303599482302887:True:=⟨⟩
def tw843916683301251128:True:=⟨⟩
def tw1682485565743985971:True:=⟨⟩
def tw13065333780906152678:True:=⟨⟩
def tw10971501714214930499:True:=⟨⟩
def tw3919970845680203595:True:=⟨⟩
def tw9701285108201440764:True:=⟨⟩
def tw1371922874008469537:True:=⟨⟩
def tw17013329741134436082:True:=⟨⟩
def tw2913548930325281209:True:=⟨⟩
def tw10943309875498413634:True:=⟨⟩
def tw12168115970500293916:True:=⟨⟩
def tw11092574280173060019:True:=⟨⟩
def tw16531442269568332098:True:=⟨⟩
def tw5760913370398798686:True:=⟨⟩
def tw9556918769731930988:True:=⟨⟩
def tw249105522902841636:True:=⟨⟩
def tw2866417328109377900:True:=⟨⟩
def tw2201570351429618015:True:=⟨⟩
def tw13996436965931816939:True:=⟨⟩
def tw13845243682696573275:True:=⟨⟩
def tw10740506440035621745:True:=⟨⟩
def tw5242552381678482153:True:=⟨⟩
def tw4421204180159696306:True:=⟨⟩
def tw6451278152768035103:True:=⟨⟩
def tw18436462028416561054:True:=⟨⟩
def tw17164391701371928946:True:=⟨⟩
def tw9830075823721689014:True:=⟨⟩
def tw10140294043417015165:True:=⟨⟩
def tw2570691589532791005:True:=⟨⟩
def tw14203308415527513514:True:=⟨⟩
def tw1010142417253573426:True:=⟨⟩
def tw1557429105089866994:True:=⟨⟩
def tw13962071654588398928:True:=⟨⟩
def tw10007491230795630567:True:=⟨⟩
def tw8218380628871881766:True:=⟨⟩
def tw1980293963280275535:True:=⟨⟩
def tw9533332178329592637:True:=⟨⟩
def tw16091858451479153742:True:=⟨⟩
def tw13669140612959642959:True:=⟨⟩
def tw10791363406596031114:True:=⟨⟩
def tw2896658139948067849:True:=⟨⟩
def tw6209006955135304510:True:=⟨⟩
def tw13143300027585271713:True:=⟨⟩
def tw7546304086726398044:True:=⟨⟩
def tw11303664823682754960:True:=⟨⟩
def tw13027820583678232346:True:=⟨⟩
def tw7474008442165054685:True:=⟨⟩
def tw7396942361863451039:True:=⟨⟩
def tw10386585234557657637:True:=⟨⟩
def tw4391462290006449734:True:=⟨⟩
def tw11870776057500477314:True:=⟨⟩
def tw135134673117074407:True:=⟨⟩
def tw17445576101728113703:True:=⟨⟩
def tw15881597379716413591:True:=⟨⟩
def tw16682447913607194591:True:=⟨⟩
def tw3177595903909771481:True:=⟨⟩
def tw10043626464482756466:True:=⟨⟩
def tw7831301557213901320:True:=⟨⟩
def tw3157151856110980088:True:=⟨⟩
def tw525317332872712669:True:=⟨⟩
def tw33753507673175524:True:=⟨⟩
def tw13274512835093314035:True:=⟨⟩
def tw13036020204308590399:True:=⟨⟩
def tw9892421600235312413:True:=⟨⟩
def tw976098743763979259:True:=⟨⟩
def tw14658023145673581444:True:=⟨⟩
def tw436796900562064904:True:=⟨⟩
def tw8433440061528535081:True:=⟨⟩
def tw13335754608182885471:True:=⟨⟩
def tw12421888753670879523:True:=⟨⟩
def tw16451018485361884700:True:=⟨⟩
def tw9157071092347428624:True:=⟨⟩
def tw5518651869382521543:True:=⟨⟩
def tw10152064048654348513:True:=⟨⟩
def tw16247567053397850174:True:=⟨⟩
def tw17048718161682791177:True:=⟨⟩
def tw7015072675957168036:True:=⟨⟩
def tw9595158282535035397:True:=⟨⟩
def tw8595842697641605058:True:=⟨⟩
def tw7415931660828893887:True:=⟨⟩
def tw13427833467410861450:True:=⟨⟩
def tw3996759277078973842:True:=⟨⟩
def tw17639264820797394785:True:=⟨⟩
def tw4388023550183596678:True:=⟨⟩
def tw7554028981215101591:True:=⟨⟩
def tw2864542460872747279:True:=⟨⟩
def tw10565491702497500257:True:=⟨⟩
def tw6726643707133525590:True:=⟨⟩
def tw7569864126853317946:True:=⟨⟩
def tw11897180972114672374:True:=⟨⟩
def tw14733728026595828579:True:=⟨⟩
def tw15257612500662769546:True:=⟨⟩
def tw5852583649572955489:True:=⟨⟩
def tw3370939622301438753:True:=⟨⟩
def tw11247737288286147335:True:=⟨⟩
def tw11285162343601837764:True:=⟨⟩
def tw12513862490656284113:True:=⟨⟩
def tw16722461123536279736:True:=⟨⟩
def tw16298992561715209467:True:=⟨⟩
def tw4568076485343052281:True:=⟨⟩
def tw3438429008868788038:True:=⟨⟩
def tw10555264100773685307:True:=⟨⟩
def tw7040882030346943776:True:=⟨⟩
def tw5989086048995939207:True:=⟨⟩
def tw3686187395724555815:True:=⟨⟩
def tw1651734700624218524:True:=⟨⟩
def tw15173948246075612033:True:=⟨⟩
def tw14162709596190659156:True:=⟨⟩
def tw10045126136443831512:True:=⟨⟩
def tw7087632950698902420:True:=⟨⟩
def tw14394334959153833774:True:=⟨⟩
def tw1839453297486691172:True:=⟨⟩
def tw10414715293673634749:True:=⟨⟩
def tw12273609053109421467:True:=⟨⟩
def tw13008164171849958048:True:=⟨⟩
def tw13887989597855902838:True:=⟨⟩
def tw10111484865992876860:True:=⟨⟩
def tw5299261680981748236:True:=⟨⟩
def tw15630349378296572930:True:=⟨⟩
def tw18095958254600432844:True:=⟨⟩
def tw16668540244195438626:True:=⟨⟩
def tw12717355076042863102:True:=⟨⟩
def tw5682384373546327775:True:=⟨⟩
def tw4274111223402539056:True:=⟨⟩
def tw14962380050568195894:True:=⟨⟩
def tw13594714218127674160:True:=⟨⟩
def tw12408037565907161241:True:=⟨⟩
def tw10986474349790656304:True:=⟨⟩
def tw17438683177729194135:True:=⟨⟩
def tw12408375685637976116:True:=⟨⟩
def tw6792629681906108193:True:=⟨⟩
def tw3936638389603995437:True:=⟨⟩
def tw1743412933250838179:True:=⟨⟩
def tw16158512479601708783:True:=⟨⟩
def tw17662938540807540869:True:=⟨⟩
def tw938085097832830098:True:=⟨⟩
def tw15167436207219628238:True:=⟨⟩
def tw13217779776377426735:True:=⟨⟩
def tw12418893905576887881:True:=⟨⟩
def tw12899821770578117266:True:=⟨⟩
def tw4131024462413832192:True:=⟨⟩
def tw12139020973670937822:True:=⟨⟩
def tw1967684449550413519:True:=⟨⟩
def tw5986144324401702668:True:=⟨⟩
def tw10122100734389685301:True:=⟨⟩
def tw15571962251867588226:True:=⟨⟩
def tw7534064915370194607:True:=⟨⟩
def tw1295522164828928304:True:=⟨⟩
def tw11395564814803055333:True:=⟨⟩
def tw4323256633871510266:True:=⟨⟩
def tw12108867375475336406:True:=⟨⟩
def tw3442050071404163068:True:=⟨⟩
def tw15574238559148357680:True:=⟨⟩
def tw11220281356606399481:True:=⟨⟩
def tw13455683290328759637:True:=⟨⟩
def tw10577385266434513660:True:=⟨⟩
def tw9099474137513223786:True:=⟨⟩
def tw13201877966693025872:True:=⟨⟩
def tw15646058256543297829:True:=⟨⟩
def tw9618968610871863553:True:=⟨⟩
def tw1529385332002732369:True:=⟨⟩
def tw3905004975739743322:True:=⟨⟩
def tw16068723572171596213:True:=⟨⟩
def tw3589765621976582405:True:=⟨⟩
def tw12015972413978991037:True:=⟨⟩
def tw9457343211324094467:True:=⟨⟩
def tw13034478911235613024:True:=⟨⟩
def tw10750685674490448228:True:=⟨⟩
def tw7446140436461856714:True:=⟨⟩
def tw10037961742833893681:True:=⟨⟩
def tw12743775058652986353:True:=⟨⟩
def tw15345924248185544048:True:=⟨⟩
def tw2454584034915476738:True:=⟨⟩
def tw10563723118452735908:True:=⟨⟩
def tw14742704783556429525:True:=⟨⟩
def tw5130505701242230439:True:=⟨⟩
def tw3339348737346435895:True:=⟨⟩
def tw11200723930305257950:True:=⟨⟩
def tw17467222900330749244:True:=⟨⟩
def tw8515001231859214655:True:=⟨⟩
def tw12966740704855312358:True:=⟨⟩
def tw18309944016167203214:True:=⟨⟩
def tw3846712998773041876:True:=⟨⟩
def tw3839640207679855217:True:=⟨⟩
def tw7123824506695210107:True:=⟨⟩
def tw4573346242454710212:True:=⟨⟩
def tw7437430353541837685:True:=⟨⟩
def tw6955222518056789063:True:=⟨⟩
def tw13041980048518747572:True:=⟨⟩
def tw262675517720748653:True:=⟨⟩
def tw12574493825622926102:True:=⟨⟩
def tw18030056152375535468:True:=⟨⟩
def tw5495305341469839607:True:=⟨⟩
def tw5060321133991638673:True:=⟨⟩
def tw4196254175375870172:True:=⟨⟩
def tw12587842515109435681:True:=⟨⟩
def tw6215379202275973268:True:=⟨⟩
def tw17526766203856825595:True:=⟨⟩
def tw13421959191383187681:True:=⟨⟩
def tw12649484536692620286:True:=⟨⟩
def tw14252354720409097240:True:=⟨⟩
def tw4609238221317784647:True:=⟨⟩
def tw8759292806726825208:True:=⟨⟩
def tw13570161164509074145:True:=⟨⟩
def tw3604337683676500140:True:=⟨⟩
def tw17993124011023036421:True:=⟨⟩
def tw7145679842494762696:True:=⟨⟩
def tw12703023643763440427:True:=⟨⟩
def tw8749914819256869246:True:=⟨⟩
def tw15980315516856476819:True:=⟨⟩
def tw14765431372914368541:True:=⟨⟩
def tw17548369380082289664:True:=⟨⟩
def tw7251534712858590282:True:=⟨⟩
def tw9635363907641846974:True:=⟨⟩
def tw2202488731532857516:True:=⟨⟩
def tw12334315768442465686:True:=⟨⟩
def tw8617882081442932454:True:=⟨⟩
def tw15829055087287714502:True:=⟨⟩
def tw12909645802816748335:True:=⟨⟩
def tw5096383788520835241:True:=⟨⟩
def tw569816997368716881:True:=⟨⟩
def tw3317738201899886600:True:=⟨⟩
def tw14917953791319895685:True:=⟨⟩
def tw72524716199816523:True:=⟨⟩
def tw4234879639785530451:True:=⟨⟩
def tw17531348410940265506:True:=⟨⟩
def tw10184085904199966843:True:=⟨⟩
def tw17968896206043676802:True:=⟨⟩
def tw7616231382314692681:True:=⟨⟩
def tw18339751398682799067:True:=⟨⟩
def tw15175146870520094119:True:=⟨⟩
def tw10293068079953811879:True:=⟨⟩
def tw219004532404233991:True:=⟨⟩
def tw3065859123165195325:True:=⟨⟩
def tw12824158286507568764:True:=⟨⟩
def tw4780547535283514493:True:=⟨⟩
def tw15563029108778184233:True:=⟨⟩
def tw17165585338883056472:True:=⟨⟩
def tw12157878022301795919:True:=⟨⟩
def tw6783618184445623625:True:=⟨⟩
def tw9575334882696413561:True:=⟨⟩
def tw13371156215056381077:True:=⟨⟩
def tw7897405580244390680:True:=⟨⟩
def tw4042837178435278789:True:=⟨⟩
def tw5843793691817283492:True:=⟨⟩
def tw16592859887441735085:True:=⟨⟩
def tw9400327322038606524:True:=⟨⟩
def tw4090435446513898989:True:=⟨⟩
def tw9561019959335358067:True:=⟨⟩
def tw348298114041970582:True:=⟨⟩
def tw7234243784417911513:True:=⟨⟩
def tw17861437986136949332:True:=⟨⟩
def tw16345905806697639678:True:=⟨⟩
def tw14683167410717479756:True:=⟨⟩
def tw13323740468760855047:True:=⟨⟩
def tw3033007143331968266:True:=⟨⟩
def tw12943265674841124409:True:=⟨⟩
def tw11916530595630405054:True:=⟨⟩
def tw10473571853315117614:True:=⟨⟩
def tw15246985794220837254:True:=⟨⟩
def tw17958988508340047087:True:=⟨⟩
def tw9621722159292188447:True:=⟨⟩
def tw8729839581598978319:True:=⟨⟩
def tw14082142340877257272:True:=⟨⟩
def tw3525779008527776519:True:=⟨⟩
def tw7284853172381269771:True:=⟨⟩
def tw11810301021465739830:True:=⟨⟩
def tw11987590670537454386:True:=⟨⟩
def tw4638800747491500538:True:=⟨⟩
def tw9188650741117153326:True:=⟨⟩
def tw9896168076760071736:True:=⟨⟩
def tw16791746562778858427:True:=⟨⟩
def tw2226279108203588225:True:=⟨⟩
def tw15787028514410992837:True:=⟨⟩
def tw12210528029966022732:True:=⟨⟩
def tw16638160167893317969:True:=⟨⟩
def tw347683756109736448:True:=⟨⟩
def tw15206110495964090956:True:=⟨⟩
def tw1323378957695956693:True:=⟨⟩
def tw3386636114939227266:True:=⟨⟩
def tw5051559485045978606:True:=⟨⟩
def tw202956883280897895:True:=⟨⟩
def tw13825579330002153000:True:=⟨⟩
def tw39150393121861415:True:=⟨⟩
def tw13365019120540716598:True:=⟨⟩
def tw12182299087626057163:True:=⟨⟩
def tw3402298747914992846:True:=⟨⟩
def tw6847373697948518568:True:=⟨⟩
def tw16341706779950767848:True:=⟨⟩
def tw7753129341201194659:True:=⟨⟩
def tw5693642265649321518:True:=⟨⟩
def tw5840241121608268445:True:=⟨⟩
def tw12741136002190614896:True:=⟨⟩
def tw16034262015076285141:True:=⟨⟩
def tw14237642443908825101:True:=⟨⟩
def tw11134715605446955764:True:=⟨⟩
def tw15747475824652190093:True:=⟨⟩
def tw5112932140038558277:True:=⟨⟩
def tw6832801956054908485:True:=⟨⟩
def tw9525661483979564469:True:=⟨⟩
def tw10184692168762219140:True:=⟨⟩
def tw2476278366580882716:True:=⟨⟩
def tw4228056896781018145:True:=⟨⟩
def tw2085233723224620060:True:=⟨⟩
def tw14810699414457704922:True:=⟨⟩
def tw10854565116310267103:True:=⟨⟩
def tw10650324836565926778:True:=⟨⟩
def tw4950273522092932500:True:=⟨⟩
def tw10239966768048771794:True:=⟨⟩
def tw2109105536448378806:True:=⟨⟩
def tw3209278351354258166:True:=⟨⟩
def tw2313176168517127168:True:=⟨⟩
def tw17916954137500930447:True:=⟨⟩
def tw2965144252883602591:True:=⟨⟩
def tw7919513843083647051:True:=⟨⟩
def tw43761853670591058:True:=⟨⟩
def tw15123452289522779579:True:=⟨⟩
def tw4446555695317843617:True:=⟨⟩
def tw11406271422472123905:True:=⟨⟩
def tw3545323883367595026:True:=⟨⟩
def tw2914582257312751304:True:=⟨⟩
def tw12425128659394750948:True:=⟨⟩
def tw8179181640764123747:True:=⟨⟩
def tw5834970892813569076:True:=⟨⟩
def tw4465143914153937783:True:=⟨⟩
def tw12555930813218059028:True:=⟨⟩
def tw1250571821382157643:True:=⟨⟩
def tw6946849525072007032:True:=⟨⟩
def tw17090004545862360586:True:=⟨⟩
end PySem.W.Fast
set_option bootstrap.genMatcherCode false
set_option compiler.extract_closed false
noncomputable section
local macro_rules|`(tactic|omega)=>`(tactic|lia)
abbrev gQm:=@List.getElem?_map
abbrev lQm:=@List.length_map
abbrev mQg:=@List.mem_of_getElem?
abbrev oQm:=@Option.map_eq_some_iff
abbrev gQe:=@List.getElem?_eq_getElem
abbrev gQs:=@List.getElem?_eq_some_iff
abbrev lQa:=@List.length_append
abbrev nQl:=@Nat.le_of_lt
abbrev mQa:=@List.mem_append
abbrev Qaq:=@PySem.wpAny_bind
abbrev Qbq:=@Option.bind_some
abbrev Qcq:=@PySem.Heap.get?_push_of_some
abbrev Qdq:=@decide_eq_false
abbrev Qeq:=@decide_eq_true
abbrev Qfq:=@List.mem_singleton
abbrev Qgq:=@PySem.wpAny_pure
abbrev Qhq:=@if_pos
abbrev Qiq:=@PySem.Heap.lt_size
abbrev Qjq:=@List.size_toArray
abbrev Qkq:=@List.mem_map
abbrev Qlq:=@List.getD_eq_getElem?_getD
abbrev Qmq:=@Nat.le_refl
abbrev Qnq:=@List.length_cons
abbrev Qoq:=@List.mem_append_right
abbrev Qpq:=@List.mem_cons_of_mem
abbrev Qqq:=@Nat.lt_of_lt_of_le
abbrev Qrq:=@PySem.Heap.get?_push_size
abbrev Qsq:=@List.mem_cons
abbrev Qtq:=@Bool.false_ne_true
abbrev Quq:=@if_neg
abbrev Qvq:=@List.append_assoc
abbrev Qwq:=@Nat.ne_of_lt
abbrev Qxq:=@List.length_take
abbrev Qyq:=@List.getElem?_set_self
abbrev Qzq:=@List.map_append
abbrev QAq:=@Nat.le_trans
abbrev QBq:=@List.mem_cons_self
abbrev QCq:=@Bool.and_eq_true
abbrev QDq:=@List.map_cons
abbrev QEq:=@List.take_length
abbrev QFq:=@PySem.W.mg_none_of
abbrev QGq:=@List.length_nil
abbrev QHq:=@List.getElem?_append_left
abbrev QIq:=@List.length_replicate
abbrev QJq:=@List.Perm.append_right
abbrev QKq:=@List.getElem?_set_ne
abbrev QLq:=@PySem.wpAny_holding
abbrev QMq:=@PySem.wpAny_field
abbrev QNq:=@List.replicate_succ
abbrev QOq:=@List.mem_flatMap
abbrev QPq:=@List.map_map
abbrev QQq:=@List.getElem?_append_right
abbrev QRq:=@PySem.wpAny_mono
abbrev QSq:=@List.flatMap_cons
abbrev QTq:=@List.mem_or_eq_of_mem_set
abbrev QUq:=@List.all_eq_true
abbrev QVq:=@List.length_range
abbrev QWq:=@List.drop_eq_getElem_cons
abbrev QXq:=@List.not_mem_nil
abbrev QYq:=@List.take_add_one
abbrev QZq:=@of_decide_eq_true
abbrev QaQ:=@of_decide_eq_false
abbrev QbQ:=@List.getElem_of_mem
abbrev QcQ:=@List.mem_of_getLast?
abbrev QdQ:=@Option.some.inj
abbrev QeQ:=@List.of_mem_zip
abbrev QfQ:=@List.getLast?_map
abbrev QgQ:=@PySem.wpAny_ite_false
abbrev QhQ:=@PySem.wpAny_newObj_type
abbrev QiQ:=@PySem.wpAny_callSpecial?_slot
abbrev QjQ:=@List.Sublist.refl
abbrev QkQ:=@List.eq_of_mem_replicate
abbrev QlQ:=@List.map_replicate
namespace L2
open PySem PySem.Spec PyProof.Rows
abbrev Key:=Sum Int Str
def tj:Key->Value->Bool
 |.inl k,v=>Value.isInt k v
 |.inr x,v=>Value.isStrOf x v
def PU(w:World):Key->Int
 |.inl k=>hashInt k
 |.inr x=>hashStr w x
def dv:∀{k:Key} {v:Value},tj k v=true->(∃i t,k=Sum.inl i/\v=Value.int i t)\/(∃x t,k=Sum.inr x/\v=Value.str x t)
 | .inl i,v,h=>by
   obtain⟨t,e⟩:=Value.isInt_shape (k:=i) (v:=v) h
   exact .inl ⟨i,t,rfl,e⟩
 | .inr x,v,h=>by
   obtain⟨t,e⟩:=Value.isStrOf_shape (x:=x) (v:=v) h
   exact .inr ⟨x,t,rfl,e⟩
def Fz(i:Int)(t:Tok):tj (.inl i) (.int i t)=true:=by simp[tj,Value.isInt]
def rL(x:Str)(t:Tok):tj (.inr x) (.str x t)=true:=by simp[tj,Value.isStrOf]
def LY(a b:Int):decide ((Sum.inl a:Key)=Sum.inl b)=(a==b):=by
 by_cases e:a=b
 ·subst e;simp
 ·have h:¬(Sum.inl a:Key)=Sum.inl b:=λq=>e (Sum.inl.inj q)
  rw[Qdq h]
  exact(beq_eq_false_iff_ne.mpr e).symm
def LP(a b:Str):decide ((Sum.inr a:Key)=Sum.inr b)=decide (a=b):=by
 by_cases e:a=b
 ·subst e;simp
 ·have h:¬(Sum.inr a:Key)=Sum.inr b:=λq=>e (Sum.inr.inj q)
  rw[Qdq h,Qdq e]
def LL(a:Int)(b:Str):decide ((Sum.inl a:Key)=Sum.inr b)=false:=Qdq (λq=>nomatch q)
def Li(a:Str)(b:Int):decide ((Sum.inr a:Key)=Sum.inl b)=false:=Qdq (λq=>nomatch q)
def bZ(prog:Program)(w:World):PySem.KeyKind prog w Key where
 is:=tj
 hash:=PU w
 inj:=λv a b l f=>by
  rcases dv l with⟨i,t,rfl,rfl⟩|⟨x,t,rfl,rfl⟩
  ·rcases dv f with⟨j,u,rfl,e⟩|⟨y,u,rfl,e⟩
   ·injection e with c _;rw[c]
   ·exact nomatch e
  ·rcases dv f with⟨j,u,rfl,e⟩|⟨y,u,rfl,e⟩
   ·exact nomatch e
   ·injection e with c _;rw[c]
 byValue:=λk v h=>by
  rcases dv h with⟨i,t,rfl,rfl⟩|⟨x,t,rfl,rfl⟩ <;>rfl
 pyHash:=λd h=>by
  rcases dv d with⟨i,t,rfl,rfl⟩|⟨x,t,rfl,rfl⟩
  ·exact wpAny_pyHash_int h
  ·exact wpAny_pyHash_str h
 eqBool:=λg d h=>by
  rcases dv g with⟨i,t,rfl,rfl⟩|⟨x,t,rfl,rfl⟩
  ·rcases dv d with⟨j,u,rfl,rfl⟩|⟨y,u,rfl,rfl⟩
   ·rw[LY] at h;exact wpAny_eqBool_int h
   ·rw[LL] at h;exact SeqAt.EqAt.int_str i t y u _ _ _ _ h
  ·rcases dv d with⟨j,u,rfl,rfl⟩|⟨y,u,rfl,rfl⟩
   ·rw[Li] at h;exact SeqAt.EqAt.str_int x t j u _ _ _ _ h
   ·rw[LP] at h;exact wpAny_eqBool_str h
 «strs»:=λk x t v h=>by
  rcases dv h with⟨i,u,rfl,e⟩|⟨y,u,rfl,e⟩
  ·exact nomatch e
  ·injection e with c _
   subst c
   cases v <;>rfl
def Bz(prog:Program)(w:World)(i:Int)(t:Tok):(bZ prog w).is (.inl i) (.int i t)=true:=Fz i t
def AG(prog:Program)(w:World)(x:Str)(t:Tok):(bZ prog w).is (.inr x) (.str x t)=true:=rL x t
inductive V where
 |non|bl (b:Bool)|int (i:Int)|str (x:Str)|byt (b:Array UInt8)|flt (b:UInt64)|ref (a:Addr)|ty (n:String)
 deriving DecidableEq
def RelV:V->Value->Prop
 |.non,u=>u=Value.none
 |.bl b,u=>u=Value.bool b
 |.int i,u=>∃t,u=Value.int i t
 |.str x,u=>∃t,u=Value.str x t
 |.byt b,u=>∃t,u=Value.bytes b t
 |.flt b,u=>∃t,u=Value.float b t
 |.ref a,u=>u=Value.ref a
 |.ty n,u=>u=Value.type n
abbrev bG:List V->List Value->Prop:=Paired RelV
def bG.length{xs:List V}{a:List Value}(r:bG xs a):xs.length=a.length:=Paired.length r
theorem bG.get:∀{xs:List V} {a:List Value} {i:Nat} {x:V},bG xs a->xs[i]?=some x->∃u,a[i]?=some u/\RelV x u
 |_,_,_,_,.nil,e=>by simp at e
 |_,_,0,_,.cons r _,e=>by simp at e;subst e;exact⟨_,rfl,r⟩
 | _,_,i+1,x,.cons _ t,e=>by
   obtain⟨u,b,c⟩:=bG.get (i:=i) (x:=x) t (by simpa using e)
   exact⟨u,by simpa using b,c⟩
theorem bG.set{x:V}{u:Value}(r:RelV x u):∀{xs:List V} {a:List Value} (i:Nat),bG xs a->bG (xs.set i x) (a.set i u)
 |_,_,_,.nil=>.nil
 |_,_,0,.cons _ t=>.cons r t
 |_,_,i+1,.cons q t=>.cons q (bG.set r i t)
theorem bG.append:∀{xs ys:List V} {a ws:List Value},bG xs a->bG ys ws->bG (xs++ys) (a++ws)
 |_,_,_,_,.nil,s=>s
 |_,_,_,_,.cons r t,s=>.cons r (bG.append t s)
theorem bG.take:∀{xs:List V} {a:List Value} (n:Nat),bG xs a->bG (xs.take n) (a.take n)
 |_,_,0,_=>.nil
 |_,_,_+1,.nil=>.nil
 |_,_,n+1,.cons r t=>.cons r (bG.take n t)
theorem bG.drop:∀{xs:List V} {a:List Value} (n:Nat),bG xs a->bG (xs.drop n) (a.drop n)
 |_,_,0,r=>r
 |_,_,_+1,.nil=>.nil
 |_,_,n+1,.cons _ t=>bG.drop n t
def uY:Option V->Option Value->Prop
 |some v,some u=>RelV v u
 |none,none=>True
 |_,_=>False
def KV{κ:Type}:List (κ×V)->List (κ×Value)->Prop:=Paired λ(p:κ×V) (q:κ×Value)=>p.1=q.1/\RelV p.2 q.2
def kV:Key->V
 |.inl i=>.int i
 |.inr x=>.str x
inductive HO where
 |lst (xs:List V)
 |tup (xs:List V)
 |dK (kvs:List (Key×V))|dT (kvs:List (List Key×V))
 |set (S:Int->Bool) (n:Nat)
 |ins (C dx:Addr) (fs:List (Str×V))
 |own (x:Addr)
 |xd (fs:List (Str×V))
 |met (f x:Addr)
 |rng (lo hi:Int)
 |frz (o:Obj) (u:HO)
 |tbl (ps:Array Value)
 |ext (φ:Heap->Prop)
abbrev Hp:=Addr->Option HO
def upd(H:Hp)(a:Addr)(o:HO):Hp:=λb=>if b=a then some o else H b
def cj{H:Hp}{a:Addr}{o:HO}:upd H a o a=some o:=by unfold upd;rw[Qhq rfl]
def bt{H:Hp}{a b:Addr}{o:HO}(h:b≠a):upd H a o b=H b:=by unfold upd;rw[Quq h]
def GH{H:Hp}{a b:Addr}{o u:HO}(h:H a=some o)(h':H b=some u)(d:o≠u):a≠b:=by
 intro e;subst e;rw[h] at h';exact d (QdQ h')
def fL{H:Hp}{a b:Addr}{o:HO}(h:H a=some o)(h':H b=none):a≠b:=by
 intro e;subst e;rw[h] at h';cases h'
def A7(h:Heap)(a:Addr)(items:Array Value):Prop:=∃o,h.get? a=some o/\o.cls=.type "tuple" /\o.dict=none/\∃n,o.data=.seq items n
def A7.it{h:Heap}{a:Addr}{items:Array Value}(x:A7 h a items):IsTup h a items:=by
 obtain⟨o,e,c,_,d⟩:=x
 exact⟨o,e,c,d⟩
def A7.new(h:Heap)(items:Array Value):A7 (h.push {cls:=.type "tuple",data:=.seq items}) h.objs.size items:=⟨_,Qrq _ rfl,rfl,rfl,_,rfl⟩
section
variable(P:Program)(w:World)
def dh(H:Hp)(h:Heap)(a:Addr):HO->Prop
 |.lst d=>d.length<=sizeLine/\∃(b:List Value) (n:Nat),bG d b/\h.get? a=some {cls:=.type "list",data:=.seq b.toArray n}
 |.tup d=>d.length<=sizeLine/\∃b:List Value,bG d b/\A7 h a b.toArray
 |.dK c=>c.length<=sizeLine/\(a==sysModules)=false/\∃k,KV c k/\h.DictOf (bZ P w) a k
 |.dT c=>c.length<=sizeLine/\(a==sysModules)=false/\∃d:List (List Key×Addr×Value),
   Paired (λ(p:List Key×V) (q:List Key×Addr×Value)=>p.1=q.1/\H q.2.1=some (.tup (p.1.map kV))/\RelV p.2 q.2.2) c d∧
   ∃o r y,h.get? a=some o/\o.ExactDict/\o.data=.dict r y/\r.toList=d.map (entryOfKey (tupleKind (bZ P w)))/\(d.map (·.1)).Nodup
 |.set S n=>h.SetOf (intKind P w) a S n
 |.ins C i g=>H i=some (.own a)/\g.length<=1000/\i≠a/\h.get? a=some (PySem.W.instObj C i)∧
   ∃e,h.Ns1 i e/\(∀f,uY (g.lookup f) (e f))/\PySem.Within e (g.map (·.1))
 |.own _=>∃o,h.get? a=some o
 |.xd g=>∃e,h.Ns1 a e/\∀f,uY (g.lookup f) (e f)
 |.rng s z=>∃t u v,h.get? a=some {cls:=.type "range",data:=.fields #[.int s t,.int z u,.int 1 v]}
 |.frz o u=>h.get? a=some o/\dh H h a u
 |.tbl A=>h.get? a=some {cls:=.none,data:=.fields A}
 |.met f x=>h.get? a=some (PySem.W.methodObj (.ref f) (.ref x))
 |.ext j=>j h/\(∃o,h.get? a=some o)/\∀l m:Heap,j l->(∀o,l.get? a=some o->m.get? a=some o)->j m
def pI(H:Hp)(h:Heap):Prop:=∀a o,H a=some o->dh P w H h a o
end
section
variable{P:Program}{w:World}{H H':Hp}{h h':Heap}{a:Addr}{o:HO}
theorem dh.lt(x:dh P w H h a o):a<h.objs.size:=by
 cases o with
 |lst d=>obtain⟨_,_,_,_,e⟩:=x;exact Qiq e
 |tup d=>obtain⟨_,_,_,p⟩:=x;exact p.it.lt
 |dK b=>obtain⟨_,_,_,_,o,_,_,e,_⟩:=x;exact Qiq e
 |dT b=>obtain⟨_,_,_,_,o,_,_,e,_⟩:=x;exact Qiq e
 |set S n=>obtain⟨o,_,_,_,e,_⟩:=x;exact Qiq e
 |ins C j c=>obtain⟨_,_,_,e,_⟩:=x;exact Qiq e
 |own y=>obtain⟨_,e⟩:=x;exact Qiq e
 |xd c=>obtain⟨_,⟨_,_,_,e,_⟩,_⟩:=x;exact Qiq e
 |rng i k=>obtain⟨_,_,_,e⟩:=x;exact Qiq e
 |frz g u=>obtain⟨e,_⟩:=x;exact Qiq e
 |tbl l=>exact Qiq (show h.get? a=some _ from x)
 |met f y=>exact Qiq (show h.get? a=some _ from x)
 |ext m=>obtain⟨_,⟨_,e⟩,_⟩:=x;exact Qiq e
theorem Paired.mapP{α c:Type}{F G:α->c->Prop}:∀{l₁:List α} {l₂:List c},Paired F l₁ l₂->(∀a b,F a b->G a b)->Paired G l₁ l₂
 |_,_,.nil,_=>.nil
 |_,_,.cons r t,f=>.cons (f _ _ r) (Paired.mapP t f)
def dh.stay(x:dh P w H h a o)(k:∀b u,(b=a\/H b=some (.own a))->h.get? b=some u->h'.get? b=some u)
  (L:∀b,H b=some (.own a)->H' b=some (.own a)) (ht:∀b xs,H b=some (.tup xs)->H' b=some (.tup xs)):dh P w H' h' a o:=by
 induction o with
 |lst xs=>obtain⟨z,l,n,r,e⟩:=x;exact⟨z,l,n,r,k _ _ (.inl rfl) e⟩
 |tup xs=>obtain⟨z,l,r,g,e,c⟩:=x;exact⟨z,l,r,g,k _ _ (.inl rfl) e,c⟩
 |dK s=>obtain⟨z,y,I,r,g,j,i,e,c⟩:=x;exact⟨z,y,I,r,g,j,i,k _ _ (.inl rfl) e,c⟩
 | dT s=>
   obtain⟨z,y,xs,r,g,j,i,e,c⟩:=x
   exact⟨z,y,xs,Paired.mapP r λp q z=>⟨z.1,ht _ _ z.2.1,z.2.2⟩,g,j,i,k _ _ (.inl rfl) e,c⟩
 |set S n=>obtain⟨g,j,i,t,e,c⟩:=x;exact⟨g,j,i,t,k _ _ (.inl rfl) e,c⟩
 | ins C Q G=>
   obtain⟨d,z,M,e,m,⟨A,j,i,K,c⟩,r⟩:=x
   exact⟨L _ d,z,M,k _ _ (.inl rfl) e,m,⟨A,j,i,k _ _ (.inr d) K,c⟩,r⟩
 |own y=>obtain⟨g,e⟩:=x;exact⟨g,k _ _ (.inl rfl) e⟩
 |xd G=>obtain⟨m,⟨A,j,i,e,c⟩,r⟩:=x;exact⟨m,⟨A,j,i,k _ _ (.inl rfl) e,c⟩,r⟩
 |rng N R=>obtain⟨t,u,v,e⟩:=x;exact⟨t,u,v,k _ _ (.inl rfl) e⟩
 |frz g u J=>obtain⟨e,q⟩:=x;exact⟨k _ _ (.inl rfl) e,J q⟩
 | tbl F=>
   have e:h.get? a=some {cls:=.none,data:=.fields F}:=x
   show h'.get? a=some {cls:=.none,data:=.fields F}
   exact k a _ (.inl rfl) e
 | met f y=>
   have e:h.get? a=some (PySem.W.methodObj (.ref f) (.ref y)):=x
   show h'.get? a=some (PySem.W.methodObj (.ref f) (.ref y))
   exact k a _ (.inl rfl) e
 |ext U=>obtain⟨p,⟨o,e⟩,B⟩:=x;exact⟨B _ _ p λo q=>k _ _ (.inl rfl) q,⟨o,k _ _ (.inl rfl) e⟩,B⟩
def pI.lt(x:pI P w H h)(e:H a=some o):a<h.objs.size:=(x a o e).lt
def pI.fresh(x:pI P w H h)(e:h.objs.size<=a):H a=none:=by
 cases q:H a with
 |none=>rfl
 |some u=>exact absurd (Qqq (x.lt q) e) (Nat.lt_irrefl _)
def pI.kept(x:pI P w H h)(k:∀b u,h.get? b=some u->h'.get? b=some u):pI P w H h':=λa o e=>
 (x a o e).stay (λb u _ q=>k b u q) (λ_ q=>q) λ_ _ q=>q
def pI.laid(x:pI P w H h)(k:∀b u,h.get? b=some u->h'.get? b=some u)(g:h.objs.size<=a)(new:dh P w (upd H a o) h' a o):pI P w (upd H a o) h':=λb u e=>by
 have f:=x.fresh g
 by_cases d:b=a
 ·subst d;rw[cj] at e;cases e;exact new
 ·rw[bt d] at e
  exact(x b u e).stay (λc v _ q=>k c v q) (λc q=>by rw[bt (fL q f)];exact q) λc i q=>by rw[bt (fL q f)];exact q
end
def Rd(H:Hp)(a:Addr)(u:HO):Prop:=H a=some u\/∃o,H a=some (.frz o u)
def Rd.ok{P:Program}{w:World}{H:Hp}{h:Heap}{a:Addr}{u:HO}(r:Rd H a u)(x:pI P w H h):dh P w H h a u:=by
 rcases r with r|⟨o,r⟩
 ·exact x a u r
 ·obtain⟨_,q⟩:=x a _ r
  exact q
def Np:Option HO->Prop
 |some (.lst _)=>True
 |some (.dK _)=>True
 |some (.dT _)=>True
 |some (.set _ _)=>True
 |some (.ins _ _ _)=>True
 |some (.ext _)=>True
 |_=>False
section
variable{P:Program}{w:World}{H:Hp}{h h':Heap}{x e:Addr}{o':HO}
def pI.write(ok:pI P w H h)(i:Np (H x))(he:e=x\/H e=some (.own x))(k:∀b u,b≠e->h.get? b=some u->h'.get? b=some u)(m:∃u,h'.get? e=some u)
  (new:dh P w (upd H x o') h' x o'):pI P w (upd H x o') h':=λb u q=>by
 have d:∀c y,H c=some (.own y)->c≠x:=λc y r z=>by subst z;rw[r] at i;exact i
 have f:∀c g,H c=some (.tup g)->c≠x:=λc g r z=>by subst z;rw[r] at i;exact i
 by_cases j:b=x
 ·subst j;rw[cj] at q;cases q;exact new
 ·rw[bt j] at q
  by_cases a:b=e
  ·have n:H b=some (.own x):=by
    rcases he with z|z
    ·exact absurd (a.trans z) j
    ·rw[a];exact z
   rw[q] at n;cases n
   obtain⟨v,o⟩:=m
   exact⟨v,by rw[a];exact o⟩
  ·refine(ok b u q).stay (λc v l r=>k c v ?_ r) (λc r=>by rw[bt (d c b r)];exact r) λc g r=>by rw[bt (f c g r)];exact r
   rcases l with rfl|l
   ·exact a
   ·rintro rfl
    rcases he with z|z
    ·exact d c b l z
    ·rw[l] at z;cases z;exact j rfl
end
structure Un(fs ex:List Addr)(H H':Hp)(h h':Heap):Prop where
 keep:∀b o,h.get? b=some o->H b=none->b∉fs->b∉ex->h'.get? b=some o
 slot:∀b o,h.get? b=some o->H b=none->b∈fs->b∉ex->∃sl,h'.get? b=some {o with slots:=sl}
 free:∀b o,h.get? b=some o->H b=none->b∉ex->H' b=none
 there:∀b o,h.get? b=some o->b∉ex->∃o',h'.get? b=some o'
 tups:∀b xs,H b=some (.tup xs)->H' b=some (.tup xs)
 frzs:∀b o u,H b=some (.frz o u)->H' b=some (.frz o u)
 tbls:∀b ps,H b=some (.tbl ps)->∃more,H' b=some (.tbl (ps++more))
section
variable{fs fs' ex ex':List Addr}{H H1 H2:Hp}{h h1 h2 h':Heap}{a x e:Addr}{o:HO}
def Un.any(u:Un fs ex H H1 h h1){b:Addr}{c:Obj}(q:h.get? b=some c)(n:H b=none)(d:b∉ex):∃g,h1.get? b=some {c with slots:=g}:=by
 by_cases f:b∈fs
 ·exact u.slot b c q n f d
 ·exact⟨c.slots,u.keep b c q n f d⟩
def Un.kept(k:∀b u,h.get? b=some u->h'.get? b=some u):Un fs ex H H h h':=
 ⟨λb c q _ _ _=>k b c q,λb c q _ _ _=>⟨c.slots,k b c q⟩,λ_ _ _ n _=>n,λb c q _=>⟨c,k b c q⟩,λ_ _ q=>q,λ_ _ _ q=>q,λ_ d q=>⟨#[],by rw[q];simp⟩⟩
def Un.refl:Un fs ex H H h h:=Un.kept λ_ _ q=>q
def Un.laid(k:∀b u,h.get? b=some u->h'.get? b=some u)(d:h.objs.size<=a)(c:H a=none):Un fs ex H (upd H a o) h h' where
 keep:=λb u q _ _ _=>k b u q
 slot:=λb u q _ _ _=>⟨u.slots,k b u q⟩
 free:=λb u q n _=>by rw[bt (Qwq (Qqq (Qiq q) d))];exact n
 there:=λb u q _=>⟨u,k b u q⟩
 tups:=λb f q=>by rw[bt (fL q c)];exact q
 frzs:=λb u f q=>by rw[bt (fL q c)];exact q
 tbls:=λb g q=>⟨#[],by rw[bt (fL q c),q];simp⟩
def Un.write(d:Np (H x))(he:e=x\/H e=some (.own x))(k:∀b u,b≠e->h.get? b=some u->h'.get? b=some u)(f:∃u,h'.get? e=some u):Un fs ex H (upd H x o) h h':=by
 have i:∀b,H b=none->b≠x:=λb n z=>by subst z;rw[n] at d;exact d
 have j:∀b,H b=none->b≠e:=λb n z=>by
  subst z
  rcases he with r|r
  ·exact i b n r
  ·rw[n] at r;cases r
 have g:∀b u,H b=some u->¬Np (some u)->b≠x:=λb u q m z=>by subst z;rw[q] at d;exact m d
 refine⟨λb u q n _ _=>k b u (j b n) q,λb u q n _ _=>⟨u.slots,k b u (j b n) q⟩,λb u q n _=>by rw[bt (i b n)];exact n,λb u q _=> ?_,
  λb l q=>by rw[bt (g b _ q λz=>z)];exact q,λb u l q=>by rw[bt (g b _ q λz=>z)];exact q,λb p q=>⟨#[],by rw[bt (g b _ q λz=>z),q];simp⟩⟩
 by_cases c:b=e
 ·subst c;exact f
 ·exact⟨u,k b u c q⟩
end
def Ov(h:Heap)(H:Hp):List Addr:=(List.range h.objs.size).filter λa=>(H a).isSome
def zX(h:Heap)(H:Hp):Heap:=PySem.W.hideAll h (Ov h H)
def Fu(h:Heap)(H:Hp):(zX h H).objs.size=h.objs.size:=PySem.W.hideAll_size _ _
def Ho{h:Heap}{H:Hp}{b:Addr}{o:Obj}(e:h.get? b=some o)(n:H b=none):(zX h H).get? b=some o:=
 PySem.W.hideAll_get _ e λa=>by
  have q:(H b).isSome=true:=(List.mem_filter.mp a).2
  rw[n] at q;simp at q
def IY{h:Heap}{H:Hp}{b:Addr}{o:Obj}(e:(zX h H).get? b=some o):h.get? b=some o/\H b=none:=by
 have a:h.get? b=some o:=PySem.W.of_hideAll (Ov h H) e
 refine⟨a,?_⟩
 cases q:H b with
 |none=>rfl
 | some x=>
   have c:b∈Ov h H:=List.mem_filter.mpr ⟨List.mem_range.mpr (Qiq a),by simp[q]⟩
   have z:(zX h H).get? b=none:=PySem.W.hideAll_none (Ov h H) c
   rw[z] at e;cases e
structure Mod(K:PySem.W.Frag)(mg:Str->Option Value)(base:Heap):Prop where
 kin:K.In base
 glob:base.Ns mainGlobals mg
 blt:∃mb,base.Ns builtinsNs mb/\∀x:Str,x≠"__name__" ->mb x=bootBuiltins x
 nolimit:base.NoLimit
structure Cx where
 prog:Program
 w:World
 K:PySem.W.Frag
 mg:Str->Option Value
 base:Heap
 A:Around
 N:List Str
 s₀:Shared
 H₀:Hp
 env:Env
 outer:List Env
 stack:List Env
 ex:List Addr
 fn:Str->Bool
 calm:Bool
 pn:List (Addr×Obj)
 xe:Value->Shared->Prop
def GE(l:List Env):List Addr:=l.filterMap (·.frame)
abbrev Cx.fs(X:Cx):List Addr:=GE X.outer
def KD(sc:Scope)(x:Str):Prop:=sc.names.lookup x=some .local\/sc.names.lookup x=some .cell\/sc.names.lookup x=some .free
def Loc(sc:Scope)(x:Str):Prop:=sc.names.lookup x=some .local\/sc.names.lookup x=some .cell
def Look(env:Env)(h:Heap)(m:Str->Option Value)(x:Str)(u:Value):Prop:=
 (env.kindOf x=some .local/\m x=some u)\/((env.kindOf x=some .cell\/env.kindOf x=some .free)/\∃c,env.cells.lookup x=some c/\h.IsCell c (some u))
structure Cx.Ok(X:Cx):Prop where
 mod:Mod X.K X.mg X.base
 kind:X.env.scope.kind=.function
 glob:X.env.globals=mainGlobals
 blt:X.env.builtins=builtinsNs
 above:X.s₀.heap.objs.size<=X.env.locals
 inj:∀x y c,X.env.cells.lookup x=some c->X.env.cells.lookup y=some c->x=y
 has:∀x,(X.env.kindOf x=some .cell\/X.env.kindOf x=some .free)->∃c,X.env.cells.lookup x=some c
 cab:∀x c,X.fn x=true->X.env.cells.lookup x=some c->X.s₀.heap.objs.size<=c
 hd:X.calm=true->X.A.handled=none
 frames:X.A.frames=some X.stack
 stk:X.stack=X.outer\/(X.stack=X.env::X.outer/\X.env.frame=some X.env.locals)
 exf:∀b∈X.ex,b≠X.env.locals/\∀x c,X.env.cells.lookup x=some c->c≠b
 bs:∀b o,X.base.get? b=some o->X.s₀.heap.get? b=some o/\X.H₀ b=none
 bsz:X.base.objs.size<=X.s₀.heap.objs.size
 noex:∀b o,X.base.get? b=some o->b∉X.ex
 exfs:∀b∈X.ex,b∉X.fs
 funs:X.s₀.heap.FunFrames X.base X.outer
 frf:∀b∈X.fs,X.H₀ b=none
structure Inv(X:Cx)(pins:List (Addr×Obj))(σ:List (Option V))(H:Hp)(s:Shared):Prop where
 ok:X.Ok
 os:s.os=X.s₀.os
 bare:AllBare s.gens
 base:Un X.fs X.ex X.H₀ H X.s₀.heap s.heap
 loc:∃m,s.heap.Ns X.env.locals m/\∀(i:Nat) (x:Str) (v:V),X.N[i]?=some x->σ[i]?=some (some v)->KD X.env.scope x->∃u,RelV v u/\Look X.env s.heap m x u
 cell:∀x c,X.env.cells.lookup x=some c->∃v,s.heap.IsCell c v
 free:H X.env.locals=none
 freeC:∀x c,X.env.cells.lookup x=some c->H c=none
 pin:∀p∈X.pn++pins,s.heap.get? p.1=some p.2/\H p.1=none/\p.1≠X.env.locals/\p.1∉X.fs/\∀v,p.2.data≠.cell v
 hok:pI X.prog X.w H s.heap
 len:σ.length=X.N.length
section
variable{X:Cx}{pins:List (Addr×Obj)}{σ:List (Option V)}{H H':Hp}{s:Shared}{h':Heap}
def Cx.Ok.nofr(ok:X.Ok){b:Addr}{o:Obj}(e:X.base.get? b=some o):b∉X.fs:=λa=>by
 have:=(ok.funs.mem a).1
 rw[e] at this;cases this
def Inv.bs(I:Inv X pins σ H s):∀b o,X.base.get? b=some o->s.heap.get? b=some o/\H b=none:=λb o e=>
 ⟨I.base.keep b o (I.ok.bs b o e).1 (I.ok.bs b o e).2 (I.ok.nofr e) (I.ok.noex b o e),I.base.free b o (I.ok.bs b o e).1 (I.ok.bs b o e).2 (I.ok.noex b o e)⟩
def Inv.bk(I:Inv X pins σ H s):∀b o,X.base.get? b=some o->s.heap.get? b=some o:=λb o e=>(I.bs b o e).1
def Inv.mod(I:Inv X pins σ H s):Mod X.K X.mg X.base:=I.ok.mod
def Inv.kIn(I:Inv X pins σ H s):X.K.In s.heap:=I.ok.mod.kin.keeps I.bk
def Inv.lt(I:Inv X pins σ H s):X.env.locals<s.heap.objs.size:=let ⟨_,hn,_⟩:=I.loc;hn.lt
def Inv.sz(I:Inv X pins σ H s):X.s₀.heap.objs.size<=s.heap.objs.size:=QAq I.ok.above (nQl I.lt)
def Inv.nofs(I:Inv X pins σ H s){a:Addr}(h:s.heap.objs.size<=a):a∉X.fs:=λb=>by
 obtain⟨_,o,c,_⟩:=I.ok.funs.mem b
 exact absurd (Qqq (Qiq c) (QAq I.sz h)) (Nat.lt_irrefl _)
def Inv.cne(I:Inv X pins σ H s):∀x c,X.env.cells.lookup x=some c->c≠X.env.locals:=λx c e z=>by
 obtain⟨v,o,f,d⟩:=I.cell x c e
 obtain⟨m,⟨h,i,g,b,a,_⟩,_⟩:=I.loc
 rw[z,b] at f;cases f;rw[a] at d;cases d
theorem Inv.funs(I:Inv X pins σ H s):s.heap.FunFrames X.base X.outer:=by
 have a:∀(l:List Env),(∀b∈GE l,b∈X.fs)->X.s₀.heap.FunFrames X.base l->s.heap.FunFrames X.base l:=by
  intro l
  induction l with
  |nil=>intro _ _;trivial
  | cons m r j=>
    intro g q
    obtain⟨h,⟨L,o,d,i,n,k⟩,p⟩:=q
    have c:L∈X.fs:=g L (by unfold GE;rw[List.filterMap_cons,d];exact QBq)
    obtain⟨t,e⟩:=I.base.slot L o n (I.ok.frf L c) c λz=>I.ok.exfs L z c
    exact⟨h,⟨L,_,d,i,e,k⟩,j (λb f=>g b (by unfold GE;rw[List.filterMap_cons,d];exact Qpq _ f)) p⟩
 exact a X.outer (λ_ f=>f) I.ok.funs
def Inv.stack(I:Inv X pins σ H s):s.heap.FunFrames X.base X.stack:=by
 rcases I.ok.stk with e|⟨e,a⟩
 ·rw[e];exact I.funs
 ·rw[e]
  obtain⟨m,b,_⟩:=I.loc
  refine .cons (by rw[I.ok.kind];decide) a b ?_ I.funs
  exact Heap.get?_none_of_le (QAq I.ok.bsz I.ok.above)
def Inv.stkSub(I:Inv X pins σ H s):∀b∈GE X.stack,b∈X.env.locals::X.fs:=λb a=>by
 rcases I.ok.stk with e|⟨e,c⟩
 ·rw[e] at a;exact Qpq _ a
 ·rw[e] at a
  unfold GE at a
  rw[List.filterMap_cons,c] at a
  exact a
def Inv.stkFree(I:Inv X pins σ H s):∀b∈GE X.stack,H b=none:=λb a=>by
 rcases Qsq.mp (I.stkSub b a) with e|a
 ·rw[e];exact I.free
 ·obtain⟨_,o,c,_⟩:=I.ok.funs.mem a
  exact I.base.free b o c (I.ok.frf b a) λz=>I.ok.exfs b z a
def Inv.step{g':Array GenState}{t':Nat}{d':Drawn}{ch:List Addr}(I:Inv X pins σ H s)
  (f:∀b∈ch,(b∈X.ex\/X.s₀.heap.objs.size<=b)/\b≠X.env.locals/\(∀x c,X.env.cells.lookup x=some c->c≠b)/\∀p∈X.pn++pins,p.1≠b)
  (keep:∀b o,b≠X.env.locals->b∉X.fs->b∉ch->s.heap.get? b=some o->H b=none->h'.get? b=some o)
  (slot:∀b o,b≠X.env.locals->b∈X.fs->b∉ch->s.heap.get? b=some o->H b=none->∃G,h'.get? b=some {o with slots:=G}) (free:∀b o,b∉ch->s.heap.get? b=some o->H b=none->H' b=none)
  (there:∀b o,b∉ch->s.heap.get? b=some o->∃F,h'.get? b=some F)
  (tups:∀b xs,H b=some (.tup xs)->H' b=some (.tup xs)) (frzs:∀b o u,H b=some (.frz o u)->H' b=some (.frz o u)) (tbls:∀b ps,H b=some (.tbl ps)->∃more,H' b=some (.tbl (ps++more)))
  (ns:∀m,s.heap.Ns X.env.locals m->h'.Ns X.env.locals m) (L:pI X.prog X.w H' h') (U:AllBare g'):
  Inv X pins σ H' {s with heap:=h',gens:=g',drawn:=d',toks:=t'}:=by
 have C:∀b o,X.s₀.heap.get? b=some o->b≠X.env.locals:=λb o e=>Qwq (Qqq (Qiq e) I.ok.above)
 have t:∀b o,X.s₀.heap.get? b=some o->b∉X.ex->b∉ch:=λb o e a y=>by
  rcases(f b y).1 with z|z
  ·exact a z
  ·exact absurd (Qqq (Qiq e) z) (Nat.lt_irrefl _)
 have g:∀x c,X.env.cells.lookup x=some c->∀v,s.heap.IsCell c v->h'.IsCell c v:=λx c e v Y=>by
  obtain⟨o,A,J⟩:=Y
  have h:c∉ch:=λz=>(f c z).2.2.1 x c e rfl
  by_cases P:c∈X.fs
  ·obtain⟨G,q⟩:=slot c o (I.cne x c e) P h A (I.freeC x c e)
   exact⟨_,q,J⟩
  ·exact⟨o,keep c o (I.cne x c e) P h A (I.freeC x c e),J⟩
 refine⟨I.ok,I.os,U,⟨λb o e n y a=> ?_,λb o e n y a=> ?_,λb o e n a=> ?_,λb o e a=> ?_,λb xs e=>tups b xs (I.base.tups b xs e),λb o xs e=>frzs b o xs (I.base.frzs b o xs e),λb ps e=> ?_⟩,?_,λx c e=> ?_,?_,λx c e=> ?_,λp N=> ?_,L,I.len⟩
 ·exact keep b o (C b o e) y (t b o e a) (I.base.keep b o e n y a) (I.base.free b o e n a)
 ·obtain⟨G,j⟩:=I.base.slot b o e n y a
  obtain⟨K,B⟩:=slot b _ (C b o e) y (t b o e a) j (I.base.free b o e n a)
  exact⟨K,B⟩
 ·obtain⟨F,j⟩:=I.base.there b o e a
  exact free b F (t b o e a) j (I.base.free b o e n a)
 ·obtain⟨F,j⟩:=I.base.there b o e a
  exact there b F (t b o e a) j
 ·obtain⟨W,j⟩:=I.base.tbls b ps e
  obtain⟨Z,B⟩:=tbls b _ j
  exact⟨W++Z,by rw[B,Array.append_assoc]⟩
 ·obtain⟨m,S,hl⟩:=I.loc
  refine⟨m,ns m S,λi x v j B R=> ?_⟩
  obtain⟨u,r,l⟩:=hl i x v j B R
  refine⟨u,r,?_⟩
  rcases l with l|⟨k,c,e,z⟩
  ·exact .inl l
  ·exact .inr ⟨k,c,e,g x c e _ z⟩
 ·obtain⟨v,z⟩:=I.cell x c e
  exact⟨v,g x c e v z⟩
 ·obtain⟨m,⟨o,_,_,A,_⟩,_⟩:=I.loc
  exact free _ o (λz=>(f _ z).2.1 rfl) A I.free
 ·obtain⟨v,o,A,J⟩:=I.cell x c e
  exact free c o (λz=>(f c z).2.2.1 x c e rfl) A (I.freeC x c e)
 ·obtain⟨e,n,Q,M,d⟩:=I.pin p N
  have h:p.1∉ch:=λz=>(f p.1 z).2.2.2 p N rfl
  exact⟨keep p.1 p.2 Q M h e n,free p.1 p.2 h e n,Q,M,d⟩
def Inv.un{t':Nat}(I:Inv X pins σ H s)(u:Un X.fs [] H H' s.heap h')(c:pI X.prog X.w H' h'):Inv X pins σ H' {s with heap:=h',toks:=t'}:=by
 obtain⟨m,⟨o,t,q,h,r⟩,_⟩:=id I.loc
 obtain⟨l,j⟩:=u.any h I.free (by simp)
 exact I.step (g':=s.gens) (d':=s.drawn) (ch:= []) (λ_ z=>nomatch z) (λb o _ g _ e n=>u.keep b o e n g (by simp)) (λb o _ g _ e n=>u.slot b o e n g (by simp)) (λb o _ e n=>u.free b o e n (by simp)) (λb o _ e=>u.there b o e (by simp)) u.tups u.frzs u.tbls (λp k=>by
  obtain⟨v,d,f,a,i⟩:=k
  rw[h] at a;cases a
  exact⟨_,d,f,j,i⟩) c I.bare
def Inv.call{g':Array GenState}{t':Nat}{d':Drawn}{ch:List Addr}(I:Inv X pins σ H s)(u:Un (GE X.stack) ch H H' s.heap h')(h:pI X.prog X.w H' h')(q:AllBare g')
  (f:∀b∈ch,(b∈X.ex\/X.s₀.heap.objs.size<=b)/\b≠X.env.locals/\(∀x c,X.env.cells.lookup x=some c->c≠b)/\∀p∈X.pn++pins,p.1≠b):
  Inv X pins σ H' {s with heap:=h',gens:=g',drawn:=d',toks:=t'}:=by
 obtain⟨m,⟨o,C,B,k,r⟩,_⟩:=id I.loc
 obtain⟨y,g⟩:=u.any k I.free λz=>(f _ z).2.1 rfl
 exact I.step (ch:=ch) f (λb o g v a e n=>u.keep b o e n (λz=>(Qsq.mp (I.stkSub b z)).elim g v) a) (λb o _ _ a e n=>u.any e n a) (λb o a e n=>u.free b o e n a) (λb o a e=>u.there b o e a) u.tups u.frzs u.tbls (λA t=>by
  obtain⟨F,i,j,d,l⟩:=t
  rw[k] at d;cases d
  exact⟨_,i,j,g,l⟩) h q
def Inv.turned{t':Nat}{it:Addr}(I:Inv X pins σ H s)(k:∀b o,b≠it->s.heap.get? b=some o->h'.get? b=some o)(g:H it=none)(f:it≠X.env.locals)
  (h:it∈X.ex\/X.s₀.heap.objs.size<=it) (t:∀x c,X.env.cells.lookup x=some c->c≠it) (A:∀p∈X.pn++pins,p.1≠it):Inv X pins σ H {s with heap:=h',toks:=t'}:=by
 have d:∀b u,H b=some u->b≠it:=λb u e z=>by rw[z,g] at e;cases e
 refine I.step (g':=s.gens) (d':=s.drawn) (ch:= [it]) (λb w=> ?_) (λb o _ _ a e _=>k b o (λz=>a (by simp[z])) e) (λb o _ _ a e _=>⟨o.slots,k b o (λz=>a (by simp[z])) e⟩) (λ_ _ _ _ n=>n)
  (λb o a e=>⟨o,k b o (λz=>a (by simp[z])) e⟩) (λ_ _ e=>e) (λ_ _ _ e=>e) (λb B e=>⟨#[],by rw[e];simp⟩) (λm j=> ?_) (λb u e=> ?_) I.bare
 ·have e:b=it:=by simpa using w
  subst e
  exact⟨h,f,t,A⟩
 ·obtain⟨o,y,i,l,r⟩:=j
  exact⟨o,y,i,k _ o (Ne.symm f) l,r⟩
 ·refine(I.hok b u e).stay (λc v a q=>k c v ?_ q) (λ_ q=>q) λ_ _ q=>q
  rcases a with z|z
  ·rw[z];exact d b u e
  ·exact d c _ z
def Inv.tok(I:Inv X pins σ H s)(t:Nat):Inv X pins σ H {s with toks:=t}:=I.un (h':=s.heap) (t':=t) Un.refl I.hok
def Inv.kept{t':Nat}(I:Inv X pins σ H s)(k:∀b u,s.heap.get? b=some u->h'.get? b=some u):Inv X pins σ H {s with heap:=h',toks:=t'}:=I.un (Un.kept k) (I.hok.kept k)
def Inv.laid{a:Addr}{o:HO}{t':Nat}(I:Inv X pins σ H s)(k:∀b u,s.heap.get? b=some u->h'.get? b=some u)(c:s.heap.objs.size<=a)(new:dh X.prog X.w (upd H a o) h' a o):
  Inv X pins σ (upd H a o) {s with heap:=h',toks:=t'}:=I.un (Un.laid k c (I.hok.fresh c)) (I.hok.laid k c new)
def Inv.write{x e:Addr}{o:HO}{t':Nat}(I:Inv X pins σ H s)(c:Np (H x))(he:e=x\/H e=some (.own x))(k:∀b u,b≠e->s.heap.get? b=some u->h'.get? b=some u)(a:∃u,h'.get? e=some u)
  (new:dh X.prog X.w (upd H x o) h' x o):Inv X pins σ (upd H x o) {s with heap:=h',toks:=t'}:=I.un (Un.write c he k a) (I.hok.write c he k a new)
def Inv.pins_of{a:List (Addr×Obj)}(I:Inv X pins σ H s)(h:∀p∈a,s.heap.get? p.1=some p.2/\H p.1=none/\p.1≠X.env.locals/\p.1∉X.fs/\∀v,p.2.data≠.cell v):Inv X a σ H s:=
 ⟨I.ok,I.os,I.bare,I.base,I.loc,I.cell,I.free,I.freeC,λp b=>(mQa.mp b).elim (λz=>I.pin p (List.mem_append_left _ z)) (h p),I.hok,I.len⟩
def B4{N:List Str}(c:N.Nodup){i j:Nat}{x:Str}(a:N[i]?=some x)(b:N[j]?=some x):i=j:=by
 obtain⟨f,d⟩:=gQs.mp a
 obtain⟨g,e⟩:=gQs.mp b
 exact(List.getElem_inj c).mp (d.trans e.symm)
def E5{M:Model}{A:Around}{E:Value->Shared->Prop}{i:Nat}{x:Str}{v:V}{u:Value}{Q:Unit->Shared->Prop}(I:Inv X pins σ H s)(hN:X.N.Nodup)(hi:X.N[i]?=some x)(B:Loc X.env.scope x)(r:RelV v u)
  (h:∀s',Inv X pins (σ.set i (some v)) H s'->(∃a,Heap.SameBut a s.heap s'.heap/\(a=X.env.locals\/X.env.cells.lookup x=some a))->Q () s') (hf:X.fn x=true\/X.env.scope.names.lookup x=some .local:=by first|exact .inl rfl|exact .inr rfl|assumption):wpAny M A (storeName X.env x u) Q E s:=by
 obtain⟨m,hn,hl⟩:=id I.loc
 have U:(X.env.scope.kind==.class||(X.env.scope.kind==.module&&X.env.locals !=X.env.globals))=false:=by rw[I.ok.kind];rfl
 have J:i<σ.length:=by rw[I.len];exact(gQs.mp hi).1
 have P:=I.cne
 have l:∀{a:Addr} {h':Heap},(∃o,s.heap.get? a=some o/\H a=none)->Heap.SameBut a s.heap h'->pI X.prog X.w H h':=λ{a h'} ha f b ob e=>by
  obtain⟨_,_,C⟩:=ha
  refine(I.hok b ob e).stay (λc w' t q=>(f.2 c ?_).trans q) (λ_ q=>q) λ_ _ q=>q
  rintro rfl
  rcases t with rfl|t
  ·rw[C] at e;cases e
  ·rw[C] at t;cases t
 rcases B with G|G
 ·refine wpAny_storeName_local G hn (λh' a1 f=> ?_) U
  obtain⟨oL,_,_,a0,_⟩:=id hn
  refine h _ ⟨I.ok,I.os,I.bare,⟨λb o e n R B=> ?_,λb o e n R B=> ?_,I.base.free,λb o e B=> ?_,I.base.tups,I.base.frzs,I.base.tbls⟩,⟨_,a1,λj y v' g F e3=> ?_⟩,λy c e=> ?_,I.free,I.freeC,λp hp=> ?_,l ⟨oL,a0,I.free⟩ f,by simpa using I.len⟩ ⟨_,f,.inl rfl⟩
  ·exact(f.2 b (Qwq (Qqq (Qiq e) I.ok.above))).trans (I.base.keep b o e n R B)
  ·obtain⟨sl,g⟩:=I.base.slot b o e n R B
   exact⟨sl,(f.2 b (Qwq (Qqq (Qiq e) I.ok.above))).trans g⟩
  ·obtain⟨o',g⟩:=I.base.there b o e B
   exact⟨o',(f.2 b (Qwq (Qqq (Qiq e) I.ok.above))).trans g⟩
  ·by_cases K:j=i
   ·subst K
    rw[hi] at g;cases g
    rw[Qyq J] at F
    cases F
    exact⟨u,r,.inl ⟨G,by simp⟩⟩
   ·rw[QKq (Ne.symm K)] at F
    obtain⟨u',r',q⟩:=hl j y v' g F e3
    refine⟨u',r',?_⟩
    rcases q with⟨k,e⟩|⟨k,c,e,z⟩
    ·refine .inl ⟨k,?_⟩
     have:y≠x:=λe=>K (B4 hN g (e▸hi))
     simp[this,e]
    ·exact .inr ⟨k,c,e,z.sameBut f (P y c e)⟩
  ·obtain⟨w',z⟩:=I.cell y c e
   exact⟨w',z.sameBut f (P y c e)⟩
  ·obtain⟨e,n,ne,nf,d⟩:=I.pin p hp
   exact⟨(f.2 p.1 ne).trans e,n,ne,nf,d⟩
 ·have L:X.fn x=true:=by
   rcases hf with z|z
   ·exact z
   ·rw[z] at G;cases G
  obtain⟨c,t⟩:=I.ok.has x (.inl G)
  obtain⟨w',z⟩:=I.cell x c t
  refine wpAny_storeName_cell I.ok.kind G t z (λh' W f=> ?_)
  obtain⟨oc,S,Y⟩:=id z
  refine h {s with heap:=h'} ⟨I.ok,I.os,I.bare,⟨λb o e n R B=> ?_,λb o e n R B=> ?_,I.base.free,λb o e B=> ?_,I.base.tups,I.base.frzs,I.base.tbls⟩,⟨m,hn.sameBut f (Ne.symm (P x c t)),λj y v' g F e3=> ?_⟩,λy c' e=> ?_,I.free,I.freeC,λp hp=> ?_,l ⟨oc,S,I.freeC x c t⟩ f,by simpa using I.len⟩ ⟨c,f,.inr t⟩
  ·exact(f.2 b (Qwq (Qqq (Qiq e) (I.ok.cab x c L t)))).trans (I.base.keep b o e n R B)
  ·obtain⟨sl,g⟩:=I.base.slot b o e n R B
   exact⟨sl,(f.2 b (Qwq (Qqq (Qiq e) (I.ok.cab x c L t)))).trans g⟩
  ·obtain⟨o',g⟩:=I.base.there b o e B
   exact⟨o',(f.2 b (Qwq (Qqq (Qiq e) (I.ok.cab x c L t)))).trans g⟩
  ·by_cases K:j=i
   ·subst K
    rw[hi] at g;cases g
    rw[Qyq J] at F
    cases F
    exact⟨u,r,.inr ⟨.inl G,c,t,W⟩⟩
   ·rw[QKq (Ne.symm K)] at F
    obtain⟨u',r',q⟩:=hl j y v' g F e3
    refine⟨u',r',?_⟩
    rcases q with q|⟨k,c',e,z'⟩
    ·exact .inl q
    ·refine .inr ⟨k,c',e,z'.sameBut f ?_⟩
     rintro rfl
     exact K (B4 hN g (I.ok.inj _ _ _ e t▸hi))
  ·by_cases Z:c'=c
   ·subst Z;exact⟨_,W⟩
   ·obtain⟨w2,z2⟩:=I.cell y c' e
    exact⟨w2,z2.sameBut f Z⟩
  ·obtain⟨e,n,ne,nf,d⟩:=I.pin p hp
   refine⟨(f.2 p.1 ?_).trans e,n,ne,nf,d⟩
   intro q
   rw[q,S] at e
   have q':oc=p.2:=QdQ e
   exact d w' (by rw[←q'];exact Y)
def pN{M:Model}{A:Around}{E:Value->Shared->Prop}{i:Nat}{x:Str}{v:V}{u:Value}{Q:Unit->Shared->Prop}(I:Inv X pins σ H s)(b:X.N.Nodup)(hi:X.N[i]?=some x)(c:Loc X.env.scope x)(r:RelV v u)
  (h:∀a,Inv X pins (σ.set i (some v)) H a->Q () a) (d:X.fn x=true\/X.env.scope.names.lookup x=some .local:=by first|exact .inl rfl|exact .inr rfl|assumption):wpAny M A (storeName X.env x u) Q E s:=
 E5 I b hi c r (λa e _=>h a e) d
def Inv.call'{a:Shared}{ch:List Addr}(I:Inv X pins σ H s)(i:a.os=s.os)(u:Un (GE X.stack) ch H H' s.heap a.heap)(f:pI X.prog X.w H' a.heap)(h:AllBare a.gens)
  (d:∀b∈ch,(b∈X.ex\/X.s₀.heap.objs.size<=b)/\b≠X.env.locals/\(∀x c,X.env.cells.lookup x=some c->c≠b)/\∀p∈X.pn++pins,p.1≠b):Inv X pins σ H' a:=by
 obtain⟨h',g',d',t',g⟩:=a
 have e:g=s.os:=i
 subst e
 exact I.call (g':=g') (t':=t') (d':=d') u f h d
end
abbrev XK:=Value->Option Addr->Hp->Prop
abbrev St:=List (Option V)
abbrev VK:=V->Hp->Prop
abbrev TE:=St->Hp->VK->Prop
abbrev TT:=St->Hp->(Bool->Hp->Prop)->Prop
abbrev TA:=St->Hp->(List V->Hp->Prop)->Prop
structure Ends where
 nx:St->Hp->Prop
 rt:VK
 bk:St->Hp->Prop:=λ_ _=>False
 ct:St->Hp->Prop:=λ_ _=>False
abbrev TS:=Ends->St->Hp->Prop
def EP(X:Cx)(a:List (Addr×Obj))(c:St)(Q:VK)(u:Value)(d:Shared):Prop:=∃v b,Inv X a c b d/\RelV v u/\Q v b
def TP(X:Cx)(a:List (Addr×Obj))(d:St)(Q:Bool->Hp->Prop)(b:Bool)(e:Shared):Prop:=∃c,Inv X a d c e/\Q b c
def AP(X:Cx)(a:List (Addr×Obj))(d:St)(Q:List V->Hp->Prop)(f:List Value)(e:Shared):Prop:=∃b c,Inv X a d c e/\bG b f/\Q b c
def SP(X:Cx)(b:List (Addr×Obj))(D:Ends)(f:Flow)(d:Shared):Prop:=
 match f with
 |.next=>∃a c,Inv X b a c d/\D.nx a c
 |.brk=>∃a c,Inv X b a c d/\D.bk a c
 |.cont=>∃a c,Inv X b a c d/\D.ct a c
 |.ret u=>∃v a c,Inv X b a c d/\RelV v u/\D.rt v c
def PE(X:Cx)(e:Expr)(t:TE):Prop:=
 ∀(a:List (Addr×Obj)) (s:Shared) (b:St) (H:Hp) (Q:VK),Inv X a b H s->t b H Q->wpAny (model X.prog X.w) X.A (eval e X.env) (EP X a b Q) X.xe s
def PT(X:Cx)(e:Expr)(t:TT):Prop:=
 ∀(a:List (Addr×Obj)) (s:Shared) (b:St) (H:Hp) (Q:Bool->Hp->Prop),Inv X a b H s->t b H Q->wpAny (model X.prog X.w) X.A (isTrue e X.env (eval e X.env)) (TP X a b Q) X.xe s
def PW(X:Cx)(e:Expr)(t:TT):Prop:=
 ∀(b:Sem Value) (a:List (Addr×Obj)) (s:Shared) (c:St) (H:Hp) (Q:Bool->Hp->Prop),Inv X a c H s->t c H Q->wpAny (model X.prog X.w) X.A (isTrue e X.env b) (TP X a c Q) X.xe s
def PW.pt{X:Cx}{e:Expr}{t:TT}(h:PW X e t):PT X e t:=h _
def PA(X:Cx)(d:List Expr)(t:TA):Prop:=
 ∀(c:Pos) (a:List (Addr×Obj)) (s:Shared) (b:St) (H:Hp) (Q:List V->Hp->Prop),Inv X a b H s->t b H Q->wpAny (model X.prog X.w) X.A (spliced (backTo c (starEach d X.env))) (AP X a b Q) X.xe s
def PS(X:Cx)(st:Stmt)(t:TS):Prop:=
 ∀(a:List (Addr×Obj)) (s:Shared) (b:St) (H:Hp) (D:Ends),Inv X a b H s->t D b H->wpAny (model X.prog X.w) X.A (exec st X.env) (SP X a D) X.xe s
def tX(X:Cx)(st:List Stmt)(t:TS):Prop:=
 ∀(a:List (Addr×Obj)) (s:Shared) (b:St) (H:Hp) (D:Ends),Inv X a b H s->t D b H->wpAny (model X.prog X.w) X.A (execs st X.env) (SP X a D) X.xe s
def cX{α:Type}{t:Sem α}{Q b:α->Shared->Prop}{M:Model}{A:Around}{E:Value->Shared->Prop}{s:Shared}(h:wpAny M A t Q E s)(c:∀a s,Q a s->b a s):wpAny M A t b E s:=QRq h c λ_ _ x=>x
section
variable{X:Cx}
def Lk(i:Nat):TE:=λa H Q=>∃v,a[i]?=some (some v)/\Q v H
def tC(v:V):TE:=λ_ H Q=>Q v H
def G0{i:Nat}{x:Str}{pos:Pos}(p:X.N[i]?=some x)(n:KD X.env.scope x)(hd:(x==("__debug__":Str))=false:=by decide)(g:(x==("__classdict__":Str))=false:=by decide):PE X (.Name x pos) (Lk i):=by
 intro f s q H Q I h
 obtain⟨v,e,h⟩:=h
 obtain⟨m,k,t⟩:=I.loc
 obtain⟨u,r,l⟩:=t i x v p e n
 have d:EP X f q Q u s:=⟨v,H,I,r,h⟩
 rcases l with⟨b,o⟩|⟨b,c,j,a⟩
 ·exact wpAny_Name (wpAny_loadName_local I.ok.kind b k o d) hd
 ·rcases b with b|b
  ·exact wpAny_Name (wpAny_loadName_cell I.ok.kind b j a d) hd
  ·exact wpAny_Name (wpAny_loadName_free I.ok.kind b j a d g) hd
def KW{i j pos}:PE X (.Constant (.int i) j pos) (tC (.int i)):=λ_ _ _ H _ I h=>wpAny_Constant_int ⟨.int i,H,I.tok _,⟨_,rfl⟩,h⟩
def MC{b j pos}:PE X (.Constant (.bool b) j pos) (tC (.bl b)):=λ_ _ _ H _ I h=>Constant_bool ⟨.bl b,H,I,rfl,h⟩
def LV{j pos}:PE X (.Constant .none j pos) (tC .non):=λ_ _ _ H _ I h=>Constant_none ⟨.non,H,I,rfl,h⟩
def Ly{x j pos}:PE X (.Constant (.str x) j pos) (tC (.str x)):=λ_ _ _ H _ I h=>Calls.Constant_str ⟨.str x,H,I.tok _,⟨_,rfl⟩,h⟩
def Gl(X:Cx)(x:Str):Prop:=X.env.kindOf x=some .globalImplicit
def Ac{E:Value->Shared->Prop}{a:List (Addr×Obj)}{s:Shared}{c:St}{H:Hp}{x:Str}{u:Value}{pos:Pos}{Q:Value->Shared->Prop}(I:Inv X a c H s)(d:Gl X x)(b:X.mg x=some u)(h:Q u s)
  (hd:(x==("__debug__":Str))=false:=by decide):wpAny (model X.prog X.w) X.A (eval (.Name x pos) X.env) Q E s:=
 Calls.Name_function_global I.ok.kind d (Calls.loadGlobal_global (by rw[I.ok.glob];exact I.mod.glob.keeps I.bk) b h) hd
def oM{E:Value->Shared->Prop}{a:List (Addr×Obj)}{s:Shared}{i:St}{H:Hp}{x:Str}{u:Value}{pos:Pos}{Q:Value->Shared->Prop}(I:Inv X a i H s)(c:Gl X x)(f:X.mg x=none)(e:bootBuiltins x=some u)(h:Q u s)
  (b:x≠"__name__":=by decide) (hd:(x==("__debug__":Str))=false:=by decide):wpAny (model X.prog X.w) X.A (eval (.Name x pos) X.env) Q E s:=by
 obtain⟨j,d,g⟩:=I.mod.blt
 exact Calls.Name_function_global I.ok.kind c (Calls.loadGlobal_builtin (by rw[I.ok.glob];exact I.mod.glob.keeps I.bk) f (by rw[I.ok.blt];exact d.keeps I.bk) ((g x b).trans e) h) hd
def zw{x:Str}{v:V}{u:Value}{pos:Pos}(a:Gl X x)(b:X.mg x=some u)(r:RelV v u)(hd:(x==("__debug__":Str))=false:=by decide):PE X (.Name x pos) (tC v):=
 λ_ _ _ H _ I h=>Ac I a b ⟨v,H,I,r,h⟩ hd
def Jk{x:Str}{v:V}{u:Value}{pos:Pos}(c:Gl X x)(d:X.mg x=none)(a:bootBuiltins x=some u)(r:RelV v u)(b:x≠"__name__":=by decide)(hd:(x==("__debug__":Str))=false:=by decide):PE X (.Name x pos) (tC v):=
 λ_ _ _ H _ I h=>oM I c d a ⟨v,H,I,r,h⟩ b hd
variable{a b:Expr}{ta tb:TE}{pos:Pos}
variable{tA tB':TT}{rest:List Expr}
def Pr(t u:TT):TT:=λd H Q=>t d H λc H1=>if c=true then u d H1 Q else Q false H1
def QQ(t u:TT):TT:=λd H Q=>t d H λc H1=>if c=true then Q true H1 else u d H1 Q
def PV(t:TT):TT:=λd H Q=>t d H λc H1=>Q (!c) H1
def JQ(g:PT X a tA):PW X (.BoolOp .And [a] pos) tA:=by
 intro i d s f H Q I h
 refine isTrue_and (cX (g d s f H Q I h) λc j e=> ?_)
 cases c with
 |true=>exact isTrue_and_nil e
 |false=>exact e
def LU(g:PT X a tA):PW X (.BoolOp .Or [a] pos) tA:=by
 intro i d s f H Q I h
 refine isTrue_or (cX (g d s f H Q I h) λc j e=> ?_)
 cases c with
 |false=>exact isTrue_or_nil e
 |true=>exact e
def K7(m:PT X a tA)(k:PW X (.BoolOp .And (b::rest) pos) tB'):PW X (.BoolOp .And (a::b::rest) pos) (Pr tA tB'):=by
 intro i d s e H Q I h
 refine isTrue_and (cX (m d s e H _ I h) λc l j=> ?_)
 obtain⟨H1,f,g⟩:=j
 cases c with
 |true=>exact k i d l e H1 Q f g
 |false=>exact⟨H1,f,g⟩
def NT(m:PT X a tA)(k:PW X (.BoolOp .Or (b::rest) pos) tB'):PW X (.BoolOp .Or (a::b::rest) pos) (QQ tA tB'):=by
 intro i d s e H Q I h
 refine isTrue_or (cX (m d s e H _ I h) λc l j=> ?_)
 obtain⟨H1,f,g⟩:=j
 cases c with
 |true=>exact⟨H1,f,g⟩
 |false=>exact k i d l e H1 Q f g
def K2(f:PT X a tA):PT X (.UnaryOp .Not a pos) (PV tA):=by
 intro d s e H Q I h
 exact isTrue_not (f d s e H (λc H1=>Q (!c) H1) I h)
def Ng(ta tb:TE):TE:=λd H Q=>ta d H λx H1=>∃c,x=.bl c/\if c=true then tb d H1 Q else Q (.bl false) H1
def MN(ta:TE):TE:=λd H Q=>ta d H λx H1=>∃c,x=.bl c/\Q (.bl (!c)) H1
def L7{op}{t:TE}(h:PE X a t):PE X (.BoolOp op [a] pos) t:=λc s d H Q I e=>BoolOp_one (h c s d H Q I e)
def K8(k:PE X a ta)(l:PE X (.BoolOp .And (b::rest) pos) tb):PE X (.BoolOp .And (a::b::rest) pos) (Ng ta tb):=by
 intro d s g H Q I h
 refine BoolOp_and (cX (k d s g H _ I h) λv m i=> ?_)
 obtain⟨x,H1,f,j,e⟩:=i
 obtain⟨c,rfl,e⟩:=e
 cases j
 refine wpAny_truthy_bool ?_
 cases c with
 |true=>exact l d m g H1 Q f e
 |false=>exact⟨.bl false,H1,f,rfl,e⟩
def LH(k:PE X a ta):PE X (.UnaryOp .Not a pos) (MN ta):=by
 intro d s g H Q I h
 refine UnaryOp_ (cX (k d s g H _ I h) λv l f=> ?_)
 obtain⟨x,H1,i,j,e⟩:=f
 obtain⟨c,rfl,e⟩:=e
 cases j
 exact not_of (wpAny_truthy_bool ⟨.bl (!c),H1,i,rfl,e⟩)
def QR(t:TT)(ta tb:TE):TE:=λd H Q=>t d H λc H1=>if c=true then ta d H1 Q else tb d H1 Q
def Iv{c:Expr}(m:PT X c tA)(n:PE X a ta)(l:PE X b tb):PE X (.IfExp c a b pos) (QR tA ta tb):=by
 intro e s f H Q I h
 refine wpAny_IfExp (cX (m e s f H _ I h) λd j k=> ?_)
 obtain⟨H1,g,i⟩:=k
 cases d with
 |true=>exact n e j f H1 Q g i
 |false=>exact l e j f H1 Q g i
end
def i7(K:PySem.W.Frag)(H:Hp)(a:Addr)(xs:List V):Prop:=
 Rd H a (.lst xs)∨
  ∃(o:Obj) (b:Array Value) (n:Nat),K.lookup a=some o/\o.cls=.type "list" /\o.dict=none/\o.data=.seq b n/\b.size<=sizeLine/\bG xs b.toList
def jj(K:PySem.W.Frag)(H:Hp)(a:Addr)(xs:List V):Prop:=
 Rd H a (.tup xs)∨
  ∃(o:Obj) (b:Array Value) (n:Nat),K.lookup a=some o/\o.cls=.type "tuple" /\o.data=.seq b n/\b.size<=sizeLine/\bG xs b.toList
def Pd:Value->Option V
 |.none=>some .non
 |.bool b=>some (.bl b)
 |.int i _=>some (.int i)
 |.str x _=>some (.str x)
 |.bytes b _=>some (.byt b)
 |.float b _=>some (.flt b)
 |.ref a=>some (.ref a)
 |.type n=>some (.ty n)
 |_=>none
def RelV.abs{x:V}{u:Value}(r:RelV x u):Pd u=some x:=by
 cases x with
 |non=>cases r;rfl
 |bl _=>cases r;rfl
 |int _=>obtain⟨t,rfl⟩:=r;rfl
 |str _=>obtain⟨t,rfl⟩:=r;rfl
 |byt _=>obtain⟨t,rfl⟩:=r;rfl
 |flt _=>obtain⟨t,rfl⟩:=r;rfl
 |ref _=>cases r;rfl
 |ty _=>cases r;rfl
def RelV.inj{x y:V}{u:Value}(r:RelV x u)(q:RelV y u):x=y:=QdQ (r.abs.symm.trans q.abs)
theorem bG.inj:∀{xs ys:List V} {a:List Value},bG xs a->bG ys a->xs=ys
 |_,_,_,.nil,.nil=>rfl
 |_,_,_,.cons r t,.cons r' t'=>by rw[r.inj r',bG.inj t t']
section
variable{X:Cx}{pins:List (Addr×Obj)}{σ:St}{H:Hp}{s:Shared}{a:Addr}{xs ys:List V}
def i7.of{K:PySem.W.Frag}(h:H a=some (.lst xs)):i7 K H a xs:=.inl (.inl h)
def jj.of{K:PySem.W.Frag}(h:H a=some (.tup xs)):jj K H a xs:=.inl (.inl h)
def Inv.list(I:Inv X pins σ H s)(h:i7 X.K H a xs):∃b:List Value,bG xs b/\PlainL s.heap a b.toArray/\xs.length<=sizeLine:=by
 rcases h with h|⟨o,b,n,d,f,g,c,i,r⟩
 ·obtain⟨z,b,n,r,e⟩:=h.ok I.hok
  exact⟨b,r,⟨_,n,e,rfl,rfl,rfl⟩,z⟩
 ·refine⟨b.toList,r,⟨o,n,I.kIn a o d,f,g,by simpa using c⟩,?_⟩
  have e:=r.length
  simp only[Array.length_toList] at e
  omega
def Inv.tuple(I:Inv X pins σ H s)(h:jj X.K H a xs):∃b:List Value,bG xs b/\IsTup s.heap a b.toArray/\xs.length<=sizeLine:=by
 rcases h with h|⟨o,b,n,d,f,c,g,r⟩
 ·obtain⟨z,b,r,p⟩:=h.ok I.hok
  exact⟨b,r,p.it,z⟩
 ·refine⟨b.toList,r,⟨o,I.kIn a o d,f,n,by simpa using c⟩,?_⟩
  have e:=r.length
  simp only[Array.length_toList] at e
  omega
def Inv.list_inj(I:Inv X pins σ H s)(h:i7 X.K H a xs)(h':i7 X.K H a ys):xs=ys:=by
 obtain⟨c,r,⟨o,n,e,_,_,d⟩,_⟩:=I.list h
 obtain⟨b,i,⟨k,l,g,_,_,f⟩,_⟩:=I.list h'
 rw[e] at g;cases g
 rw[d] at f
 injection f with j _
 have:c=b:=by simpa using congrArg Array.toList j
 subst this
 exact r.inj i
def Inv.tuple_inj(I:Inv X pins σ H s)(h:jj X.K H a xs)(h':jj X.K H a ys):xs=ys:=by
 obtain⟨c,r,⟨o,e,_,n,d⟩,_⟩:=I.tuple h
 obtain⟨b,i,⟨k,g,_,l,f⟩,_⟩:=I.tuple h'
 rw[e] at g;cases g
 rw[d] at f
 injection f with j _
 have:c=b:=by simpa using congrArg Array.toList j
 subst this
 exact r.inj i
end
abbrev Cx.wish(X:Cx)(E:Value->Shared->Prop):Cx:={X with xe:=E}
abbrev Cx.nox(X:Cx):Cx:=X.wish λ_ _=>False
def Cx.Ok.wish{X:Cx}(ok:X.Ok)(E:Value->Shared->Prop):(X.wish E).Ok:=
 ⟨ok.mod,ok.kind,ok.glob,ok.blt,ok.above,ok.inj,ok.has,ok.cab,ok.hd,ok.frames,ok.stk,ok.exf,ok.bs,ok.bsz,ok.noex,ok.exfs,ok.funs,ok.frf⟩
def Cx.Ok.unwish{X:Cx}{E:Value->Shared->Prop}(ok:(X.wish E).Ok):X.Ok:=
 ⟨ok.mod,ok.kind,ok.glob,ok.blt,ok.above,ok.inj,ok.has,ok.cab,ok.hd,ok.frames,ok.stk,ok.exf,ok.bs,ok.bsz,ok.noex,ok.exfs,ok.funs,ok.frf⟩
section
variable{X:Cx}{pins:List (Addr×Obj)}{σ:St}{H:Hp}{s:Shared}{E:Value->Shared->Prop}
def Inv.wish(I:Inv X pins σ H s)(E:Value->Shared->Prop):Inv (X.wish E) pins σ H s:=⟨I.ok.wish E,I.os,I.bare,I.base,I.loc,I.cell,I.free,I.freeC,I.pin,I.hok,I.len⟩
def Inv.unwish(I:Inv (X.wish E) pins σ H s):Inv X pins σ H s:=⟨I.ok.unwish,I.os,I.bare,I.base,I.loc,I.cell,I.free,I.freeC,I.pin,I.hok,I.len⟩
theorem SP.unwish{D:Ends}{f:Flow}{c:Shared}(h:SP (X.wish E) pins D f c):SP X pins D f c:=by
 cases f with
 |next=>obtain⟨a,b,I,q⟩:=h;exact⟨a,b,I.unwish,q⟩
 |brk=>obtain⟨a,b,I,q⟩:=h;exact⟨a,b,I.unwish,q⟩
 |cont=>obtain⟨a,b,I,q⟩:=h;exact⟨a,b,I.unwish,q⟩
 |ret u=>obtain⟨v,a,b,I,r,q⟩:=h;exact⟨v,a,b,I.unwish,r,q⟩
def tX.nox{st:List Stmt}{t:TS}(h:tX X.nox st t):tX X st t:=λpins s σ H D I a=>
 QRq (h pins s σ H D (I.wish _) a) (λ_ _ q=>q.unwish) λ_ _ z=>False.elim z
end
section
variable{X:Cx}{st:Stmt}{rest:List Stmt}{t u:TS}{e:Expr}{te:TE}{pos:Pos}
def Nk:TS:=λD a H=>D.nx a H
def Pw(t u:TS):TS:=λD a H=>t {D with nx:=u D} a H
def Jj:tX X [] Nk:=λ_ _ a H _ I h=>wpAny_execs_nil ⟨a,H,I,h⟩
def HM(c:PS X st t)(d:tX X rest u):tX X (st::rest) (Pw t u):=by
 intro a s g H D I h
 refine wpAny_execs_cons (cX (c a s g H {D with nx:=u D} I h) λf j q=> ?_)
 cases f with
 | next=>
   obtain⟨b,k,i,q⟩:=q
   exact d a j b k D i q
 |ret v=>exact q
 |brk=>exact q
 |cont=>exact q
def J6(b:PS X st t):tX X [st] t:=by
 intro a s c H D I h
 refine wpAny_execs_cons (cX (b a s c H D I h) λf d q=> ?_)
 cases f with
 |next=>exact wpAny_execs_nil q
 |ret v=>exact q
 |brk=>exact q
 |cont=>exact q
def Inv.quiet{a:List (Addr×Obj)}{b:St}{H:Hp}{s:Shared}(I:Inv X a b H s):interactive X.env=false:=by simp[interactive,I.ok.kind]
def MS(te:TE):TS:=λD a H=>te a H λ_ H1=>D.nx a H1
def Ks(he:PE X e te)(hs:swapsWith e none pos.line X.env=pure false:=by rfl):PS X (.Expr e pos) (MS te):=by
 intro a s b H D I h
 exact wpAny_Expr_any (cX (he a s b H _ I h) λv g ⟨x,H1,c,f,d⟩=>⟨b,H1,c,d⟩) I.quiet hs
def Po(te:TE):TS:=λD a H=>te a H D.rt
def G7(he:PE X e te):PS X (.Return (some e) pos) (Po te):=by
 intro a s b H D I h
 exact wpAny_Return_some (cX (he a s b H _ I h) λv g ⟨x,H1,c,d,f⟩=>⟨x,b,H1,c,d,f⟩)
def OP(c:TT)(t u:TS):TS:=λD a H=>c a H λb H1=>if b=true then t D a H1 else u D a H1
def NF{c:Expr}{a b:List Stmt}{l:TT}(p:PT X c l)(n:tX X a t)(o:tX X b u):PS X (.If c a b pos) (OP l t u):=by
 intro f s g H D I h
 refine wpAny_If (cX (p f s g H _ I h) λd k m=> ?_)
 obtain⟨H1,i,j⟩:=m
 cases d with
 |true=>exact n f k g H1 D i j
 |false=>exact o f k g H1 D i j
def LN:TS:=λ_ _ _=>False
def Hz:PS X st LN:=λ_ _ _ _ _ _ h=>h.elim
end
abbrev TG:=V->St->Hp->(St->Hp->Prop)->Prop
abbrev Ib:=List V->St->Hp->(St->Hp->Prop)->Prop
def PG(X:Cx)(a:Expr)(t:TG):Prop:=
 ∀ (b:List (Addr×Obj)) (s:Shared) (d:St) (H:Hp) (v:V) (u:Value) (Q:St->Hp->Prop),Inv X b d H s->RelV v u->t v d H Q→
   wpAny (model X.prog X.w) X.A (assign a X.env u) (λ_ f=>∃c e,Inv X b c e f/\Q c e) X.xe s
def Gj(X:Cx)(ts:List Expr)(t:Ib):Prop:=
 ∀ (a:List (Addr×Obj)) (s:Shared) (c:St) (H:Hp) (e:List V) (f:List Value) (Q:St->Hp->Prop),Inv X a c H s->bG e f->t e c H Q→
   wpAny (model X.prog X.w) X.A (assignInOrder ((assignEach ts X.env).map (·.2)) f) (λ_ g=>∃b d,Inv X a b d g/\Q b d) X.xe s
abbrev H_:=V->V->V->Hp->(Hp->Prop)->Prop
def KZ(X:Cx)(t:H_):Prop:=
 ∀ (a:List (Addr×Obj)) (s:Shared) (b:St) (H:Hp) (o i v:V) (e d u:Value) (Q:Hp->Prop),Inv X a b H s->RelV o e->RelV i d->RelV v u->t o i v H Q→
   wpAny (model X.prog X.w) X.A (setItem e d u) (λ_ f=>∃c,Inv X a b c f/\Q c) X.xe s
abbrev Oy:=V->V->Hp->VK->Prop
def QB(X:Cx)(c:Operator)(t:Oy):Prop:=
 ∀ (a:List (Addr×Obj)) (s:Shared) (b:St) (H:Hp) (x y:V) (v u:Value) (Q:VK),Inv X a b H s->RelV x v->RelV y u->t x y H Q→
   wpAny (model X.prog X.w) X.A (inplaceOp c v u) (EP X a b Q) X.xe s
section
variable{X:Cx}{pos:Pos}
def qe(i:Nat):TG:=λv a H Q=>Q (a.set i (some v)) H
def zi{i:Nat}{x:Str}(b:X.N.Nodup)(hi:X.N[i]?=some x)(d:Loc X.env.scope x)(c:X.fn x=true\/X.env.scope.names.lookup x=some .local:=by first|exact .inl rfl|exact .inr rfl|assumption):PG X (.Name x pos) (qe i):=by
 intro a s f H v u Q I r h
 exact wpAny_assign_Name (pN I b hi d r (λg e=>⟨_,H,e,h⟩) c)
def OU:Ib:=λb a H Q=>b= []/\Q a H
def Nj(t:TG)(u:Ib):Ib:=λd b H Q=>∃v r,d=v::r/\t v b H λa c=>u r a c Q
def J4:Gj X [] OU:=by
 intro a s b H c d Q I r h
 obtain⟨e,h⟩:=h
 subst e
 cases r
 exact assignInOrder_nil ⟨b,H,I,h⟩
def ID{e:Expr}{b:List Expr}{t:TG}{u:Ib}(f:PG X e t)(l:Gj X b u)
  (hs:(assignEach (e::b) X.env).map (·.2)=assign e X.env::(assignEach b X.env).map (·.2):=by rfl):Gj X (e::b) (Nj t u):=by
 intro a s m H o p Q I r h
 obtain⟨v,q,j,h⟩:=h
 subst j
 cases r with
 | cons r g=>
   rw[hs]
   refine assignInOrder_cons (cX (f a s m H _ _ _ I r h) λ_ n i=> ?_)
   obtain⟨c,H1,d,k⟩:=i
   exact l a n c H1 _ _ Q d g k
def PX(K:PySem.W.Frag)(n:Nat)(t:Ib):TG:=λv c H Q=>∃a b,v=.ref a/\jj K H a b/\b.length=n/\t b c H Q
def KY{d:List Expr}{k:Nat}{t:Ib}{n:Nat}(B:X.calm=true)(h:Gj X d t)
  (m:(assignEach d X.env).length=n:=by rfl) (g:(assignEach d X.env).findIdx? (·.1)=none:=by rfl):PG X (.Tuple d k pos) (PX X.K n t):=by
 intro c s i H v u Q I r f
 obtain⟨a,w,y,z,C,f⟩:=f
 subst y
 cases r
 obtain⟨x,j,p,F⟩:=I.tuple z
 refine assign_Tuple_tuple (I.ok.hd B) p (by simp[m,←C,j.length]) g λq A=> ?_
 have l:Inv X c i H {s with heap:=q}:=I.kept (t':=s.toks) λb o e=>A b o (Qwq (Qiq e)) e
 exact h c _ i H w _ Q l (by simpa using j) f
def MB(c b:TE)(t:H_):TG:=λv a H Q=>c a H λo H1=>b a H1 λi H2=>t o i v H2 λH3=>Q a H3
def Lx{o i:Expr}{g f:TE}{t:H_}(A:PE X o g)(hi:PE X i f)(hs:KZ X t)
  (z:∀v,assign (.Subscript o i pos) X.env v=(do
   let b←holding [v] (eval o X.env)
   let d←holding [v,b] (eval i X.env)
   standAt pos
   holding [v,b,d] (setItem b d v)
   release [v,b,d] []):=by intro _;rfl):PG X (.Subscript o i pos) (MB g f t):=by
 intro a s e H v u Q I r h
 rw[z]
 refine Qaq (QLq (cX (A a s e H _ I h) λb C c=> ?_))
 obtain⟨x,H1,j,n,w⟩:=c
 refine Qaq (QLq (cX (hi a C e H1 _ j w) λd B c=> ?_))
 obtain⟨y,H2,p,l,k⟩:=c
 refine Qaq (wpAny_standAt (Qaq (QLq (cX (hs a B e H2 x y v b d u _ p n l r k) λ_ F c=> ?_))))
 obtain⟨H3,q,m⟩:=c
 exact wpAny_release ⟨e,H3,q,m⟩
def Fc(b:TE)(g:TG):TS:=λD a H=>b a H λx H1=>g x a H1 D.nx
def LB{tg e:Expr}{b:TE}{g:TG}(he:PE X e b)(f:PG X tg g)(hs:swapsWithSole [tg] e pos.line X.env=pure false:=by rfl)(j:swappedStores [tg] e X.env=pure none:=by rfl)
  (i:(assignEach [tg] X.env).map (·.2)= [assign tg X.env]:=by rfl):PS X (.Assign [tg] e pos) (Fc b g):=by
 intro a s c H D I h
 refine wpAny_Assign_stores (cX (he a s c H _ I h) λv m ⟨x,H1,d,k,l⟩=> ?_) hs j
 rw[i]
 exact cX (f a m c H1 x v _ d k l) λ_ n q=>q
def KQ{i:Nat}{x:Str}{e:Expr}{c:TE}{a:Pos}(l:X.N.Nodup)(hi:X.N[i]?=some x)(f:Loc X.env.scope x)(he:PE X e c)(hs:swapsWith e (some (.Name x a)) pos.line X.env=pure false:=by rfl)(m:X.fn x=true\/X.env.scope.names.lookup x=some .local:=by first|exact .inl rfl|exact .inr rfl|assumption):
  PS X (.Assign [.Name x a] e pos) (Fc c (qe i)):=by
 intro b s n H D I h
 refine wpAny_Assign_Name (cX (he b s n H _ I h) λv p ⟨y,H1,d,g,k⟩=> ?_) hs
 exact pN d l hi f g (λo j=>⟨_,H1,j,k⟩) m
def Nl(i j:Nat)(b:TA):TS:=λD a H=>b a H λc H1=>∃v w,c= [v,w]/\D.nx ((a.set i (some v)).set j (some w)) H1
def Mh{i j:Nat}{x y:Str}{a b:Expr}{u:TA}{t l m:Pos}{kt k2 pt2}(hc:X.calm=true)(F:X.N.Nodup)(hi:X.N[i]?=some x)(L:X.N[j]?=some y)(n:i≠j)
  (B:X.env.scope.names.lookup x=some .local) (C:X.env.scope.names.lookup y=some .local) (W:PA X [a,b] u)
  (Q:swappedStores [.Tuple [.Name x t,.Name y l] kt m] (.Tuple [a,b] k2 pt2) X.env=pure (some [x,y]))
  (hs:swapsWithSole [.Tuple [.Name x t,.Name y l] kt m] (.Tuple [a,b] k2 pt2) pos.line X.env=pure false:=by rfl):
  PS X (.Assign [.Tuple [.Name x t,.Name y l] kt m] (.Tuple [a,b] k2 pt2) pos) (Nl i j u):=by
 intro c s G H D I h
 rw[exec_Assign_arm]
 refine Qaq (wpAny_standAt ?_)
 rw[hs]
 refine Qaq (Qgq ?_)
 rw[Quq (by decide)]
 refine Qaq (Tuple_ (cX (W _ c s G H _ I h) λY g K=> ?_))
 obtain⟨vs,H1,J,R,r⟩:=K
 obtain⟨v,w,M,r⟩:=r
 subst M
 obtain⟨f,d,rfl,rv,rw'⟩:∃f d,Y= [f,d]/\RelV v f/\RelV w d:=by
  cases R with
  | cons p q=>
    cases q with
    | cons Z q'=>
      cases q'
      exact⟨_,_,rfl,p,Z⟩
 refine QhQ ?_ (by show 2<=_;decide)
 have S:Inv X c G H1 {g with heap:=g.heap.push {cls:=.type "tuple",data:=.seq [f,d].toArray}}:=J.kept (t':=g.toks) λb o e=>Qcq _ e
 rw[Q]
 refine Qaq (Qgq ?_)
 show wpAny (model X.prog X.w) X.A (do rule "assign.swapped-stores";let items←unpackItems (.ref g.heap.objs.size) 2 none;assignInOrder [λv=>bindName X.env y v,λv=>bindName X.env x v] items.reverse;pure Flow.next) _ _ _
 refine Qaq (wpAny_rule (Qaq (unpackItems_tuple (items:= #[f,d]) (I.ok.hd hc) (IsTup.new g.heap _) λh' k=> ?_)))
 have U:=S.kept (h':=h') (t':=g.toks) λb o e=>k b o (Qwq (Qiq e)) e
 show wpAny _ _ (assignInOrder [λv=>bindName X.env y v,λv=>bindName X.env x v] [d,f] >>= λ_=>pure Flow.next) _ _ _
 refine Qaq (assignInOrder_cons (wpAny_bindName (pN U F L (.inl C) rw' (λs2 P=> ?_) (.inr C))))
 refine assignInOrder_cons (wpAny_bindName (pN P F hi (.inl B) rv (λs3 z=>assignInOrder_nil (Qgq ?_)) (.inr B)))
 rw[List.set_comm _ _ (Ne.symm n)] at z
 exact⟨_,H1,z,r⟩
def MP(f e g:TE)(a:V->V->Hp->VK->Prop)(d:Oy)(b:H_):TS:=λD c H=>f c H λo H1=>e c H1 λi H2=>a o i H2 λx H3=>g c H3 λy H4=>d x y H4 λz H5=>b o i z H5 λh=>D.nx c h
def NX(X:Cx)(t:V->V->Hp->VK->Prop):Prop:=
 ∀ (a:List (Addr×Obj)) (s:Shared) (b:St) (H:Hp) (o i:V) (d c:Value) (Q:VK),Inv X a b H s->RelV o d->RelV i c->t o i H Q→
   wpAny (model X.prog X.w) X.A (getItem d c) (EP X a b Q) X.xe s
def Kq{o i e:Expr}{p n w:TE}{b:V->V->Hp->VK->Prop}{k:Oy}{c:H_}{r:Operator}{l:Pos}(Z:PE X o p)(hi:PE X i n)(B:NX X b)(he:PE X e w)(G:QB X r k)(hs:KZ X c)
  (W:∀f g new,augStore i f g new=(do holding [new,f,g] (setItem f g new);release [new,f,g] [];pure .next):=by intros;rfl):PS X (.AugAssign (.Subscript o i l) r e pos) (MP p n w b k c):=by
 intro a s j H D I h
 refine wpAny_AugAssign_SubscriptAny (cX (Z a s j H _ I h) λf s1 ⟨x,H1,A,t,S⟩=> ?_) W
 refine cX (hi a s1 j H1 _ A S) λg s2 d=> ?_
 obtain⟨u,H2,Q,q,N⟩:=d
 refine cX (B a s2 j H2 x u f g _ Q t q N) λm K d=> ?_
 obtain⟨x3,H3,R,r3,P⟩:=d
 refine cX (he a K j H3 _ R P) λv s4 d=> ?_
 obtain⟨F,H4,L,r4,q4⟩:=d
 refine cX (G a s4 j H4 x3 F m v _ L r3 r4 q4) λnew y d=> ?_
 obtain⟨M,H5,C,U,J⟩:=d
 exact cX (hs a y j H5 x u M f g new _ C t q U J) λ_ s6 ⟨H6,z,Y⟩=>⟨j,H6,z,Y⟩
def Q0(f:Int->Int->Int):Oy:=λx y H Q=>∃i j,x=.int i/\y=.int j/\Q (.int (f i j)) H
def LM:QB X .Add (Q0 λi j=>i+j):=by
 intro a s g H x y v u Q I e d h
 obtain⟨i,j,c,b,q⟩:=h
 subst c;subst b
 obtain⟨t,rfl⟩:=e
 obtain⟨f,rfl⟩:=d
 exact iadd_int ⟨.int _,H,I.tok _,⟨_,rfl⟩,q⟩
end
section
variable{X:Cx}{pos:Pos}
def Lq(c:TT)(g:TS):TS:=λD a H=>∃W:Nat->St->Hp->Prop,(∃m,W m a H)/\∀m a H,W m a H→
 c a H λb H1=>if b=true then∃N:St->Hp->Prop,(∀d f,N d f->∃e,e<m/\W e d f)/\g {D with nx:=N,ct:=N,bk:=D.nx} a H1 else D.nx a H1
def GO{c:Expr}{g:List Stmt}{z:TT}{u:TS}(t:PassesOwn (model X.prog X.w) X.A X.env X.xe)(R:PT X c z)(P:tX X g u):PS X (.While c g [] pos) (Lq z u):=by
 intro d s M H D I h
 obtain⟨W,⟨F,J⟩,j⟩:=h
 refine wpAny_While (codeAny_whileLoop (λn L=>∃i B,Inv X d i B L/\W n i B) ?_ F ⟨M,H,I,J⟩)
 rintro n S ⟨e,H1,C,K⟩
 refine wpAny_passesOwn t (cX (R d S e H1 _ C (j n e H1 K)) λb Q G=> ?_)
 obtain⟨H2,x,k⟩:=G
 cases b with
 | true=>
   obtain⟨N,y,k⟩:=k
   rw[Qhq rfl]
   refine wpAny_passesOwn t (cX (P d Q e H2 _ x k) λf U l=> ?_)
   cases f with
   | next=>
     obtain⟨a,H3,o,q⟩:=l
     obtain⟨m,p,r⟩:=y a H3 q
     exact⟨m,p,a,H3,o,r⟩
   | cont=>
     obtain⟨a,H3,o,q⟩:=l
     obtain⟨m,p,r⟩:=y a H3 q
     exact⟨m,p,a,H3,o,r⟩
   |brk=>exact l
   |ret v=>exact l
 | false=>
   rw[Quq Qtq]
   exact wpAny_execs_nil ⟨e,H2,x,k⟩
end
structure It where
 go:Nat->Hp->Prop
 yld:Nat->Hp->V->Hp->Prop
 stop:Nat->Hp->Prop
def qS(X:Cx)(a:List (Addr×Obj))(H:Hp)(b:Addr):Prop:=
 H b=none/\b≠X.env.locals/\b∉X.fs/\(b∈X.ex\/X.s₀.heap.objs.size<=b)/\(∀x c,X.env.cells.lookup x=some c->c≠b)/\∀p∈X.pn++a,p.1≠b
def Inv.fpOk{X:Cx}{a:List (Addr×Obj)}{g:St}{H f:Hp}{s:Shared}{b:Addr}(I:Inv X a g H s)(d:s.heap.objs.size<=b)(i:f b=none):qS X a f b:=by
 refine⟨i,Nat.ne_of_gt (Qqq I.lt d),I.nofs d,.inr (QAq I.sz d),λx c e z=> ?_,λp h z=> ?_⟩
 ·obtain⟨v,q⟩:=I.cell x c e
  exact absurd (Qqq q.lt (by rw[z];exact d)) (Nat.lt_irrefl _)
 ·exact absurd (Qqq (Qiq (I.pin p h).1) (by rw[z];exact d)) (Nat.lt_irrefl _)
structure Turn(P:Program)(w:World)(K:PySem.W.Frag)(tg:Expr)(J:It)(fp:List Addr)(it:Addr)(tn:Nat->Heap->Prop):Prop where
 mem:it∈fp
 obj:∀i h,tn i h->∀b∈fp,∃o,h.get? b=some o/\∀v,o.data≠.cell v
 keep:∀i h h',tn i h->(∀b∈fp,∀o,h.get? b=some o->h'.get? b=some o)->tn i h'
 item:∀(X:Cx),X.prog=P->X.w=w->X.K=K->X.calm=true->∀(i:Nat) (pins:List (Addr×Obj)) (s:Shared) (σ:St) (H:Hp) (E:Value->Shared->Prop),Inv X pins σ H s->(∀b∈fp,qS X pins H b)->tn i s.heap->J.go i H→
  wpAny (model P w) X.A (pyNext (.ref it)) (λr s1=>∃u,r=some u∧
   wpAny (model P w) X.A (letOwnedTupleGo tg (.ref it) u) (λ_ s2=>∃x H',Inv X pins σ H' s2/\RelV x u/\J.yld i H x H'/\tn (i+1) s2.heap/\∀b∈fp,H' b=none) E s1) E s
 done:∀(X:Cx),X.prog=P->X.w=w->X.K=K->X.calm=true->∀(i:Nat) (pins:List (Addr×Obj)) (s:Shared) (σ:St) (H:Hp) (E:Value->Shared->Prop),Inv X pins σ H s->(∀b∈fp,qS X pins H b)->tn i s.heap->J.stop i H→
  wpAny (model P w) X.A (pyNext (.ref it)) (λr s1=>r=none/\Inv X pins σ H s1) E s
 self:∀(A:Around) (i:Nat) (s:Shared) (Q:Value->Shared->Prop) (E:Value->Shared->Prop),tn i s.heap->Q (.ref it) s->wpAny (model P w) A (pyIter (.ref it)) Q E s
abbrev TI:=St->Hp->(It->Hp->Prop)->Prop
def Qz(X:Cx)(a:List (Addr×Obj))(i:St)(tg:Expr)(R:It->Hp->Prop)(d:Value)(g:Shared):Prop:=
 ∃(f:Addr) (h:List Addr) (e:Nat->Heap->Prop) (J:It) (c:Hp),d=.ref f/\Inv X a i c g/\Turn X.prog X.w X.K tg J h f e/\e 0 g.heap/\(∀b∈h,qS X a c b)/\R J c
def PI(X:Cx)(tg b:Expr)(d:TI):Prop:=
 ∀ (a:List (Addr×Obj)) (s:Shared) (c:St) (H:Hp) (R:It->Hp->Prop),Inv X a c H s->d c H R→
   wpAny (model X.prog X.w) X.A (eval b X.env) (λv e=>wpAny (model X.prog X.w) X.A (pyIter v) (Qz X a c tg R) X.xe e) X.xe s
def GL{M:Model}{A:Around}{E:Value->Shared->Prop}{s:Shared}{tg:Expr}{it:Addr}{u:Value}{o:Obj}{n:String}{vs:Array Value}{Q:Unit->Shared->Prop}(d:s.heap.get? it=some o)(c:o.cls=.type n)(hd:o.data=.fields vs)
    (b: ["enumerate","zip","dict_itemiterator","dict_reverseitemiterator","odict_iterator","itertools.zip_longest","itertools.pairwise"].contains n=false) (a:Q () s):wpAny M A (letOwnedTupleGo tg (.ref it) u) Q E s:=by
  unfold letOwnedTupleGo
  cases tg <;>first
    |exact Qgq a
    |(cases u <;>first
        |exact Qgq a
        |(refine Qaq (wpAny_load d ?_)
          rw[c,hd]
          show wpAny M A (if (["enumerate","zip","dict_itemiterator","dict_reverseitemiterator","odict_iterator","itertools.zip_longest","itertools.pairwise"].contains n&&vs[0]? ==some (rawInt _))=true then _ else _) Q E s
          rw[Quq (by intro h;rw[b,Bool.false_and] at h;cases h)]
          exact Qgq a))
def P6(K:PySem.W.Frag)(a:Addr):It:=
 ⟨λi H=>∃b x,i7 K H a b/\b[i]?=some x,λi H x c=>c=H/\∀b,i7 K H a b->b[i]?=some x,λi H=>∃b,i7 K H a b/\b.length<=i⟩
def P9(K:PySem.W.Frag)(a:Addr):It:=
 ⟨λi H=>∃b x,jj K H a b/\b[i]?=some x,λi H x c=>c=H/\∀b,jj K H a b->b[i]?=some x,λi H=>∃b,jj K H a b/\b.length<=i⟩
def OB(lo:Int)(n:Nat):It:=⟨λi _=>i<n,λi H x a=>a=H/\x=.int (lo+i),λi _=>n<=i⟩
def Fx{P:Program}{w:World}{K:PySem.W.Frag}{tg:Expr}(a it:Addr):Turn P w K tg (P6 K a) [it] it (λi h=>h.IsListIter it a i) where
 mem:=by simp
 obj:=λi h f b j=>by
  have e:b=it:=by simpa using j
  subst e
  obtain⟨o,e,c,d⟩:=f
  exact⟨o,e,λv z=>by rw[d] at z;cases z⟩
 keep:=λi h m f k=>f.at λo e=>k it (by simp) o e
 item:=by
  intro X y G L R i g s Q H E I q f A
  subst y G L
  obtain⟨Y,x,n,J⟩:=A
  obtain⟨C,M,p,Z⟩:=I.list n
  obtain⟨u,hu,ru⟩:=M.get J
  obtain⟨t,r,U,N,F,B⟩:=q it (by simp)
  refine wpAny_pyNext_list_item f p.isList (x:=u) (by simpa using hu) λm l sb=> ?_
  have S:Inv X g Q H {s with heap:=m}:=I.turned (t':=s.toks) (λb o j e=>(sb.2 b j).trans e) t r N F B
  obtain⟨o,e,c,d⟩:=id l
  exact⟨u,rfl,GL (s:={s with heap:=m}) e c d (by decide) ⟨x,H,S,ru,⟨rfl,λys hy=>by rw[I.list_inj hy n];exact J⟩,l,λb j=>(q b j).1⟩⟩
 done:=by
  intro X y G L R i g s Q H E I q f A
  subst y G L
  obtain⟨Y,n,J⟩:=A
  obtain⟨C,M,p,Z⟩:=I.list n
  obtain⟨t,r,U,N,F,B⟩:=q it (by simp)
  have hl:=M.length
  exact wpAny_pyNext_list_end (I.ok.hd R) f p.isList (by simp;omega) λm eb=>⟨rfl,I.turned (t':=s.toks) (λb o j e=>eb b o j e) t r N F B⟩
 self:=λ_ _ _ _ _ f h=>wpAny_pyIter_listiter f h
def C3{P:Program}{w:World}{K:PySem.W.Frag}{tg:Expr}(a it:Addr):Turn P w K tg (P9 K a) [it] it (λi h=>h.IsTupleIter it a i) where
 mem:=by simp
 obj:=λi h f b l=>by
  have e:b=it:=by simpa using l
  subst e
  obtain⟨o,e,c,d⟩:=f
  exact⟨o,e,λv z=>by rw[d] at z;cases z⟩
 keep:=λi h n f k=>f.at λo e=>k it (by simp) o e
 item:=by
  intro X A G L R i g s Q H E I r f B
  subst A G L
  obtain⟨Y,x,q,J⟩:=B
  obtain⟨j,M,p,Z⟩:=I.tuple q
  obtain⟨u,hu,ru⟩:=M.get J
  obtain⟨y,t,U,N,F,C⟩:=r it (by simp)
  refine wpAny_pyNext_tuple_item f (show s.heap.IsTuple a j.toArray from p) (x:=u) (by simpa using hu) λn m sb=> ?_
  have S:Inv X g Q H {s with heap:=n}:=I.turned (t':=s.toks) (λb o l e=>(sb.2 b l).trans e) y t N F C
  obtain⟨o,e,c,d⟩:=id m
  exact⟨u,rfl,GL (s:={s with heap:=n}) e c d (by decide) ⟨x,H,S,ru,⟨rfl,λys hy=>by rw[I.tuple_inj hy q];exact J⟩,m,λb l=>(r b l).1⟩⟩
 done:=by
  intro X A G L R i g s Q H E I r f B
  subst A G L
  obtain⟨Y,q,J⟩:=B
  obtain⟨j,M,p,Z⟩:=I.tuple q
  obtain⟨y,t,U,N,F,C⟩:=r it (by simp)
  have hl:=M.length
  exact wpAny_pyNext_tuple_end (I.ok.hd R) f (show s.heap.IsTuple a j.toArray from p) (by simp;omega) λn eb=>⟨rfl,I.turned (t':=s.toks) (λb o l e=>eb b o l e) y t N F C⟩
 self:=λ_ _ _ _ _ f h=>wpAny_pyIter_tupleiter f h
def Cr{P:Program}{w:World}{K:PySem.W.Frag}{tg:Expr}(it:Addr)(lo:Int)(n:Nat):Turn P w K tg (OB lo n) [it] it (λi h=>IsRangeIter h it (lo+(i:Nat)*1) ((n:Int)-(i:Nat)) 1) where
 mem:=by simp
 obj:=λi h a b d=>by
  have e:b=it:=by simpa using d
  subst e
  exact⟨_,a,λv z=>by
   have M:Data.fields _=Data.cell v:=z
   cases M⟩
 keep:=λi h g a k=>k it (by simp) _ a
 item:=by
  intro X p x y A i c s F H E I j a q
  subst p x y
  obtain⟨m,l,L,B,u,r⟩:=j it (by simp)
  have W:=Walks.range (prog:=X.prog) (w:=X.w) (I.ok.hd A) it lo 1 n
  refine W.item i s _ _ q a λv g C N f J=> ?_
  obtain⟨t,rfl⟩:=N
  have G:Inv X c F H {s with heap:=g,toks:=C}:=I.turned (λb o d e=>J b o (by simpa using d) e) m l B u r
  refine⟨_,rfl,GL (s:={s with heap:=g,toks:=C}) (n:="range_iterator") f rfl rfl (by decide) ⟨.int (lo+i),H,G,⟨t,?_⟩,⟨rfl,rfl⟩,f,λb d=>(j b d).1⟩⟩
  rw[Int.mul_one]
 done:=by
  intro X p x y A i c s F H E I j a q
  subst p x y
  obtain⟨m,l,L,B,u,r⟩:=j it (by simp)
  exact wpAny_pyNext_range_end (I.ok.hd A) a (by have:n<=i:=q;omega) λg Q=>⟨rfl,I.turned (t':=s.toks) (λb o d e=>Q b o d e) m l B u r⟩
 self:=λ_ _ _ _ _ a h=>wpAny_pyIter_rangeiter a h
section
variable{X:Cx}{tg:Expr}
def GB{a:List (Addr×Obj)}{f:St}{H:Hp}{s:Shared}{R:It->Hp->Prop}{E:Value->Shared->Prop}{lo hi:Int}{t u v:Tok}{d:Nat}(I:Inv X a f H s)(h: -(2^62)<=lo)(k:lo<2^62)(m: -(2^62)<=hi)(i:hi<2^62)
  (q:R (OB lo (hi-lo).toNat) H):wpAny (model X.prog X.w) X.A (pyIter (.ref s.heap.objs.size)) (Qz X a f tg R) E {s with heap:=s.heap.push {cls:=.type "range",data:=.fields #[.int lo t,.int hi u,.int 1 v]},toks:=d}:=by
 refine wpAny_pyIter_range (IsRange.new ..) (small_one h k m i) ?_
 have c:Inv X a f H {s with heap:=s.heap.push {cls:=.type "range",data:=.fields #[.int lo t,.int hi u,.int 1 v]},toks:=d}:=I.kept λb o e=>Qcq _ e
 refine⟨(s.heap.push {cls:=.type "range",data:=.fields #[.int lo t,.int hi u,.int 1 v]}).objs.size,[(s.heap.push {cls:=.type "range",data:=.fields #[.int lo t,.int hi u,.int 1 v]}).objs.size],_,_,H,rfl,
  c.kept (t':=d) λb o e=>Qcq _ e,Cr _ lo (hi-lo).toNat,?_,λb l=> ?_,q⟩
 ·have j:lo+((0:Nat):Int)*1=lo:=by simp
  have g:(((hi-lo).toNat:Nat):Int)-((0:Nat):Int)=Builtin.Range.rangeSize lo hi 1:=by rw[rangeSize_one];split <;>omega
  show IsRangeIter _ _ (lo+((0:Nat):Int)*1) ((((hi-lo).toNat:Nat):Int)-((0:Nat):Int)) 1
  rw[j,g]
  exact Qrq _ rfl
 ·have e:b=(s.heap.push {cls:=.type "range",data:=.fields #[.int lo t,.int hi u,.int 1 v]}).objs.size:=by simpa using l
  subst e
  exact c.fpOk (Qmq _) (c.hok.fresh (Qmq _))
def M5(b:TA):TI:=λa H R=>b a H λc H1=>∃j:Int,c= [.int j]/\ -(2^62)<=j/\j<2^62/\R (OB 0 j.toNat) H1
def F7{a:Expr}{d:TA}{p pos:Pos}(g:Gl X "range")(m:X.mg "range"=none)(n:PA X [a] d)(hs:starEach [a] X.env= [(false,eval a X.env)]:=by rfl):PI X tg (.Call (.Name "range" p) [a] [] pos) (M5 d):=by
 intro b s o H R I h
 refine Call_ (oM I g m boot_range (PyProof.Rows.callWith_type1 (cX (n pos b s o H _ I h) λv w ⟨u,H1,f,l,c⟩=> ?_) hs rfl))
 obtain⟨j,e,c,k,q⟩:=c
 subst e
 cases l with
 | cons r i=>
   cases i
   obtain⟨t,rfl⟩:=r
   exact call_range_1 (GB f (by omega) (by omega) c k (by simpa using q))
def Pq(h:TI)(g:TG)(f:TS):TS:=λD a H=>h a H λJ H1=>∃W:Nat->Nat->St->Hp->Prop,(∃m,W 0 m a H1)/\∀i m a H,W i m a H→
 (J.stop i H/\D.nx a H)\/(J.go i H/\∃N:St->Hp->Prop,(∀b c,N b c->∃e,e<m/\W (i+1) e b c)/\∀x c,J.yld i H x c->g x a c λd H2=>f {D with nx:=N,ct:=N,bk:=D.nx} d H2)
def n_(fp:List Addr)(h:Heap):List (Addr×Obj):=fp.filterMap λb=>(h.get? b).map λo=>(b,o)
def dA{fp:List Addr}{h:Heap}{b:Addr}{o:Obj}(a:b∈fp)(e:h.get? b=some o):(b,o)∈n_ fp h:=List.mem_filterMap.mpr ⟨b,a,by rw[e];rfl⟩
def FP{fp:List Addr}{h:Heap}{p:Addr×Obj}(a:p∈n_ fp h):p.1∈fp/\h.get? p.1=some p.2:=by
 obtain⟨b,c,e⟩:=List.mem_filterMap.mp a
 cases q:h.get? b with
 |none=>rw[q] at e;cases e
 | some o=>
   rw[q] at e
   have d:(b,o)=p:=QdQ e
   subst d
   exact⟨c,q⟩
def Inv.pinned{a:List (Addr×Obj)}{f:St}{H:Hp}{s:Shared}{fp:List Addr}(I:Inv X a f H s)(m:∀b∈fp,qS X a H b)(l:∀b∈fp,∃o,s.heap.get? b=some o/\∀v,o.data≠.cell v):Inv X (a++n_ fp s.heap) f H s:=
 I.pins_of λp k=>(mQa.mp k).elim (λz=>I.pin p (Qoq _ z)) λz=>by
  obtain⟨g,e⟩:=FP z
  obtain⟨i,h,j,_⟩:=m p.1 g
  obtain⟨o,c,d⟩:=l p.1 g
  rw[e] at c;cases c
  exact⟨e,i,h,j,d⟩
def Inv.unpinned{a d:List (Addr×Obj)}{b:St}{H:Hp}{s:Shared}(I:Inv X (a++d) b H s):Inv X a b H s:=I.pins_of λp c=>I.pin p (Qoq _ (List.mem_append_left _ c))
def Mr{j:Expr}{B:List Stmt}{wi:TI}{g:TG}{tb:TS}{pos:Pos}(Q:PassesOwn (model X.prog X.w) X.A X.env X.xe)(hc:X.calm=true)(hi:PI X tg j wi)(hg:PG X tg g)(t:tX X B tb)
  (hs:∀x,foldedSetIterable j X.env x=pure x:=by intro _;rfl):PS X (.For tg j B [] pos) (Pq wi g tb):=by
 intro a s σ H D I h
 refine wpAny_For (cX (hi a s σ H _ I h) λv s1 h1=>cX h1 λa1 s2 h2=> ?_) hs
 obtain⟨it,M,tn,J,H2,e,I2,T,a0,f2,W,⟨m0,w0⟩,R⟩:=h2
 subst e
 have k:∀{z:Hp},(∀b∈M,z b=none)->∀b∈M,qS X a z b:=λhn b t=>⟨hn b t,(f2 b t).2⟩
 refine codeAny_forLoop_any (λn s'=>∃i l z,Inv X a l z s'/\tn i s'.heap/\(∀b∈M,z b=none)/\W i n l z) ?_ m0 ⟨0,σ,H2,I2,a0,λb t=>(f2 b t).1,w0⟩
 rintro n s3 ⟨i,p,H3,I3,P,S,w3⟩
 rcases R i n p H3 w3 with⟨stop,qn⟩|⟨go,N,hN,K⟩
 ·refine wpAny_passesOwn Q (cX (T.done X rfl rfl rfl hc i a s3 p H3 X.xe I3 (k S) P stop) λr s4 F=> ?_)
  obtain⟨hr,I4⟩:=F
  subst hr
  exact wpAny_execs_nil ⟨p,H3,I4,qn⟩
 ·refine wpAny_passesOwn Q (cX (T.item X rfl rfl rfl hc i a s3 p H3 X.xe I3 (k S) P go) λr s4 F=> ?_)
  obtain⟨u,hr,h4⟩:=F
  subst hr
  refine wpAny_passesOwn Q (cX h4 λ_ s5 F=> ?_)
  obtain⟨x,H5,I5,r5,y5,G,Z⟩:=F
  have U:=I5.pinned (k Z) (T.obj _ _ G)
  refine wpAny_passesOwn Q (cX (hg _ s5 p H5 x u _ U r5 (K x H5 y5)) λ_ s6 F=> ?_)
  obtain⟨Y,H6,I6,q6⟩:=F
  refine wpAny_passesOwn Q (cX (t _ s6 Y H6 _ I6 q6) λf s7 C=> ?_)
  have again:∀{c:St} {y:Hp},Inv X (a++n_ M s5.heap) c y s7->N c y->∃m,m<n/\∃i l z,Inv X a l z s7/\tn i s7.heap/\(∀b∈M,z b=none)/\W i m l z:=λ{c y} q L=>by
   obtain⟨m',hm,w7⟩:=hN c y L
   refine⟨m',hm,i+1,c,y,q.unpinned,T.keep _ _ _ G λb t o e=>(q.pin (b,o) (Qoq _ (Qoq _ (dA t e)))).1,λb t=> ?_,w7⟩
   obtain⟨o,e,d⟩:=T.obj _ _ G b t
   exact(q.pin (b,o) (Qoq _ (Qoq _ (dA t e)))).2.1
  cases f with
  |next=>obtain⟨c,y,q,L⟩:=C;exact again q L
  |cont=>obtain⟨c,y,q,L⟩:=C;exact again q L
  |brk=>obtain⟨c,y,q,C⟩:=C;exact⟨c,y,q.unpinned,C⟩
  |ret v=>obtain⟨x7,c,y,q,r7,C⟩:=C;exact⟨x7,c,y,q.unpinned,r7,C⟩
end
abbrev R2:=V->V->Hp->VK->Prop
def lD(X:Cx)(f:Value->Value->Sem Value)(r:R2):Prop:=
 ∀ (a:List (Addr×Obj)) (s:Shared) (b:St) (H:Hp) (x y:V) (v u:Value) (Q:VK),Inv X a b H s->RelV x v->RelV y u->r x y H Q→
   wpAny (model X.prog X.w) X.A (f v u) (EP X a b Q) X.xe s
def Py(X:Cx)(f:Value->Sem Value)(r:V->Hp->VK->Prop):Prop:=
 ∀ (a:List (Addr×Obj)) (s:Shared) (b:St) (H:Hp) (x:V) (v:Value) (Q:VK),Inv X a b H s->RelV x v->r x H Q→
   wpAny (model X.prog X.w) X.A (f v) (EP X a b Q) X.xe s
def jY(X:Cx)(f:Value)(r:List V->Hp->VK->Prop):Prop:=
 ∀ (a:List (Addr×Obj)) (s:Shared) (b:St) (H:Hp) (c:List V) (d:List Value) (Q:VK),Inv X a b H s->bG c d->r c H Q→
   wpAny (model X.prog X.w) X.A (call f d) (EP X a b Q) X.xe s
def ON(X:Cx)(r:V->Hp->(Bool->Hp->Prop)->Prop):Prop:=
 ∀ (a:List (Addr×Obj)) (s:Shared) (b:St) (H:Hp) (x:V) (v:Value) (Q:Bool->Hp->Prop),Inv X a b H s->RelV x v->r x H Q→
   wpAny (model X.prog X.w) X.A (truthy v) (TP X a b Q) X.xe s
def IT(r:R2)(c b:TE):TE:=λa H Q=>c a H λx H1=>b a H1 λy H2=>r x y H2 Q
def QU(r:V->Hp->VK->Prop)(b:TE):TE:=λa H Q=>b a H λx H1=>r x H1 Q
def rI(C:Int->Int->Prop)(g:Int->Int->V):R2:=λx y H Q=>∃i j,x=.int i/\y=.int j/\C i j/\Q (g i j) H
def FH(g:Int->Int->V):R2:=λx y H Q=>∃i j,x=.int i/\y=.int j/\Q (g i j) H
def rU(g:Int->V):V->Hp->VK->Prop:=λx H Q=>∃i,x=.int i/\Q (g i) H
section
variable{X:Cx}{a b c:Expr}{ta tb tc:TE}{pos:Pos}
def Ms(r:PE X a ta)(z:PE X b tb){d:List (Addr×Obj)}{s:Shared}{e:St}{H:Hp}{R:V->V->Hp->Prop}(I:Inv X d e H s)
  (h:ta e H λx H1=>tb e H1 λy H2=>R x y H2) {Q:Value->Shared->Prop} {f:Value->Value->Sem Value}
  (t:∀v u j x y H2,Inv X d e H2 j->RelV x v->RelV y u->R x y H2->wpAny (model X.prog X.w) X.A (f v u) Q X.xe j):
  wpAny (model X.prog X.w) X.A (eval a X.env) (λv g=>wpAny (model X.prog X.w) X.A (eval b X.env) (λu i=>wpAny (model X.prog X.w) X.A (f v u) Q X.xe i) X.xe g) X.xe s:=by
 refine cX (r d s e H _ I h) λv B k=> ?_
 obtain⟨x,H1,l,o,q⟩:=k
 refine cX (z d B e H1 _ l q) λu j k=> ?_
 obtain⟨y,H2,p,n,m⟩:=k
 exact t v u j x y H2 p o n m
def sV{e:Operator}{r:R2}(j:lD X (binaryOp e) r)(i:PE X a ta)(m:PE X b tb):PE X (.BinOp a e b pos) (IT r ta tb):=by
 intro d s k H Q I h
 exact wpAny_BinOp (Ms i m I h λv u l x y H2 g f n q=>j d l k H2 x y v u Q g f n q)
def Oi{f:UnaryOp}{r:V->Hp->VK->Prop}(m:Py X (unaryOp f) r)(l:PE X a ta):PE X (.UnaryOp f a pos) (QU r ta):=by
 intro d s e H Q I h
 exact UnaryOp_ (cX (l d s e H _ I h) λv k ⟨x,H1,g,i,j⟩=>m d k e H1 x v Q g i j)
def Ou{f:Value->Value->Sem Value}{C:Int->Int->Prop}{g:Int->Int->Int}
  (d:∀(i j:Int) (t u:Tok) (s:Shared) (Q:Value->Shared->Prop) (E:Value->Shared->Prop),C i j->Q (.int (g i j) s.toks) {s with toks:=s.toks+1}->wpAny (model X.prog X.w) X.A (f (.int i t) (.int j u)) Q E s):
  lD X f (rI C λi j=>.int (g i j)):=by
 intro e s n H x y v u Q I l m h
 obtain⟨i,j,rfl,rfl,hc,q⟩:=h
 obtain⟨t,rfl⟩:=l
 obtain⟨k,rfl⟩:=m
 exact d i j t k s _ _ hc ⟨.int (g i j),H,I.tok _,⟨_,rfl⟩,q⟩
def MH{f:Value->Value->Sem Value}{g:Int->Int->Int}
  (d:∀(i j:Int) (t u:Tok) (s:Shared) (Q:Value->Shared->Prop) (E:Value->Shared->Prop),Q (.int (g i j) s.toks) {s with toks:=s.toks+1}->wpAny (model X.prog X.w) X.A (f (.int i t) (.int j u)) Q E s):
  lD X f (FH λi j=>.int (g i j)):=by
 intro e s n H x y v u Q I l m h
 obtain⟨i,j,rfl,rfl,q⟩:=h
 obtain⟨t,rfl⟩:=l
 obtain⟨k,rfl⟩:=m
 exact d i j t k s _ _ ⟨.int (g i j),H,I.tok _,⟨_,rfl⟩,q⟩
def Kb{f:Value->Value->Sem Value}{g:Int->Int->Bool}
  (d:∀(i j:Int) (t u:Tok) (s:Shared) (Q:Value->Shared->Prop) (E:Value->Shared->Prop),Q (.bool (g i j)) s->wpAny (model X.prog X.w) X.A (f (.int i t) (.int j u)) Q E s):
  lD X f (FH λi j=>.bl (g i j)):=by
 intro e s n H x y v u Q I l m h
 obtain⟨i,j,rfl,rfl,q⟩:=h
 obtain⟨t,rfl⟩:=l
 obtain⟨k,rfl⟩:=m
 exact d i j t k s _ _ ⟨.bl (g i j),H,I,rfl,q⟩
def G4(i j:Int):Prop:=0<j/\j<1073741824
def GA(i j:Int):Prop:=0<=j/\j<=1000000/\i.natAbs<2^64
def Ju(i j:Int):Prop:=(-(2^64)<i/\i<2^64)\/(-(2^64)<j/\j<2^64)
def Ju.ok{i j:Int}(h:Ju i j):IntMulOk i j:=by
 rcases h with⟨d,e⟩|⟨d,e⟩
 ·exact .of_left (intBits_le_64 d e)
 ·exact .of_right (intBits_le_64 d e)
def L4:lD X (binaryOp .Add) (FH λi j=>.int (i+j)):=MH λ_ _ _ _ _ _ _ q=>add_int q
def LJ:lD X (binaryOp .Sub) (FH λi j=>.int (i-j)):=MH λ_ _ _ _ _ _ _ q=>sub_int q
def Kl:lD X (binaryOp .FloorDiv) (rI G4 λi j=>.int (i/j)):=Ou λi j _ _ _ _ _ d q=>by
 have e:(0:Int)<j:=d.1
 have f:j<1073741824:=d.2
 exact floordiv_int (by omega) (by rw[Int.fdiv_eq_ediv_of_nonneg i (by omega)];exact q) (.inl (PyProof.noPylong_small (by omega)))
def Lr:lD X (binaryOp .Mod) (rI (λ_ j=>0<j) λi j=>.int (i%j)):=Ou λi j _ _ _ _ _ d q=>by
 have e:(0:Int)<j:=d
 exact mod_int' (by omega) (by rw[Int.fmod_eq_emod_of_nonneg i (by omega)];exact q)
def Ls:lD X (binaryOp .Pow) (rI GA λi j=>.int (i^j.toNat)):=Ou λ_ _ _ _ _ _ _ d q=>pow_int_small d.1 d.2.1 d.2.2 q
def QV{f:Value->Sem Value}{g:Int->Int}
  (d:∀(i:Int) (t:Tok) (s:Shared) (Q:Value->Shared->Prop) (E:Value->Shared->Prop),Q (.int (g i) s.toks) {s with toks:=s.toks+1}->wpAny (model X.prog X.w) X.A (f (.int i t)) Q E s):
  Py X f (rU λi=>.int (g i)):=by
 intro e s k H x v Q I j h
 obtain⟨i,rfl,q⟩:=h
 obtain⟨t,rfl⟩:=j
 exact d i t s _ _ ⟨.int (g i),H,I.tok _,⟨_,rfl⟩,q⟩
def LG:Py X (unaryOp .USub) (rU λi=>.int (-i)):=QV λ_ _ _ _ _ q=>neg_int q
end
def Cp:V->V->Bool
 |.non,.non=>true|.non,.int _=>true|.int _,.non=>true|.non,.bl _=>true|.bl _,.non=>true|.non,.str _=>true|.str _,.non=>true
 |.int _,.int _=>true|.bl _,.bl _=>true|.str _,.str _=>true|.byt _,.byt _=>true
 |.int _,.str _=>true|.str _,.int _=>true|.bl _,.str _=>true|.str _,.bl _=>true
 |_,_=>false
def Qq:R2:=λx y H Q=>Cp x y=true/\Q (.bl (decide (x=y))) H
def QH:R2:=λx y H Q=>Cp x y=true/\Q (.bl (!decide (x=y))) H
def EV{i j:Int}:decide (V.int i=V.int j)=(i==j):=by
 rw[Bool.eq_iff_iff]
 simp
def Ie{i j:Bool}:decide (V.bl i=V.bl j)=(i==j):=by
 rw[Bool.eq_iff_iff]
 simp
def EJ{i j:Str}:decide (V.str i=V.str j)=(i==j):=by
 rw[Bool.eq_iff_iff]
 simp
def D2{i j:Array UInt8}:decide (V.byt i=V.byt j)=(i.toList==j.toList):=by
 rw[Bool.eq_iff_iff]
 cases i
 cases j
 simp
section
variable{X:Cx}{a b c:Expr}{ta tb tc:TE}{pos:Pos}
def cg{d:List (Addr×Obj)}{f:St}{H:Hp}{s:Shared}{Q:VK}{k g:Bool}(I:Inv X d f H s)(q:Q (.bl k) H)(e:k=g):EP X d f Q (.bool g) s:=by
 subst e
 exact⟨.bl k,H,I,rfl,q⟩
def M4:lD X (compareOp .Eq) Qq:=by
 intro k s l H x y v u Q I g d h
 obtain⟨f,q⟩:=h
 cases x with
 | non=>
   cases g
   cases y with
   |non=>cases d;exact PySem.EqNone.eq_none_none (cg I q (by simp))
   |bl j=>cases d;exact PySem.EqNone.eq_none_bool (cg I q (by simp))
   |int j=>obtain⟨e,rfl⟩:=d;exact PySem.EqNone.eq_none_int (cg I q (by simp))
   |str j=>obtain⟨e,rfl⟩:=d;exact PySem.EqNone.eq_none_str (cg I q (by simp))
   |_=>exact absurd (show false=true from f) Qtq
 | bl i=>
   cases g
   cases y with
   |non=>cases d;exact PySem.EqNone.eq_bool_none (cg I q (by simp))
   |bl j=>cases d;exact eq_bool (cg I q Ie)
   |str j=>obtain⟨e,rfl⟩:=d;exact PySem.EqMixed.eq_bool_str (cg I q (by simp))
   |_=>exact absurd (show false=true from f) Qtq
 | int i=>
   obtain⟨t,rfl⟩:=g
   cases y with
   |non=>cases d;exact PySem.EqNone.eq_int_none (cg I q (by simp))
   |int j=>obtain⟨e,rfl⟩:=d;exact eq_int (cg I q EV)
   |str j=>obtain⟨e,rfl⟩:=d;exact PySem.EqMixed.eq_int_str (cg I q (by simp))
   |_=>exact absurd (show false=true from f) Qtq
 | str i=>
   obtain⟨t,rfl⟩:=g
   cases y with
   |non=>cases d;exact PySem.EqNone.eq_str_none (cg I q (by simp))
   |bl j=>cases d;exact PySem.EqMixed.eq_str_bool (cg I q (by simp))
   |int j=>obtain⟨e,rfl⟩:=d;exact PySem.EqMixed.eq_str_int (cg I q (by simp))
   |str j=>obtain⟨e,rfl⟩:=d;exact eq_str (cg I q EJ)
   |_=>exact absurd (show false=true from f) Qtq
 | byt i=>
   obtain⟨t,rfl⟩:=g
   cases y with
   |byt j=>obtain⟨e,rfl⟩:=d;exact PySem.W.eq_bytes (cg I q D2)
   |_=>exact absurd (show false=true from f) Qtq
 |_=>cases y <;>exact absurd (show false=true from f) Qtq
def Qw:lD X (compareOp .NotEq) QH:=by
 intro k s l H x y v u Q I g d h
 obtain⟨f,q⟩:=h
 cases x with
 | non=>
   cases g
   cases y with
   |non=>cases d;exact PySem.EqNone.ne_none_none (cg I q (by simp))
   |bl j=>cases d;exact PySem.EqNone.ne_none_bool (cg I q (by simp))
   |int j=>obtain⟨e,rfl⟩:=d;exact PySem.EqNone.ne_none_int (cg I q (by simp))
   |str j=>obtain⟨e,rfl⟩:=d;exact PySem.EqNone.ne_none_str (cg I q (by simp))
   |_=>exact absurd (show false=true from f) Qtq
 | bl i=>
   cases g
   cases y with
   |non=>cases d;exact PySem.EqNone.ne_bool_none (cg I q (by simp))
   |bl j=>cases d;exact ne_bool (cg I q (congrArg not Ie))
   |str j=>obtain⟨e,rfl⟩:=d;exact PySem.EqMixed.ne_bool_str (cg I q (by simp))
   |_=>exact absurd (show false=true from f) Qtq
 | int i=>
   obtain⟨t,rfl⟩:=g
   cases y with
   |non=>cases d;exact PySem.EqNone.ne_int_none (cg I q (by simp))
   |int j=>obtain⟨e,rfl⟩:=d;exact ne_int (cg I q (congrArg not EV))
   |str j=>obtain⟨e,rfl⟩:=d;exact PySem.EqMixed.ne_int_str (cg I q (by simp))
   |_=>exact absurd (show false=true from f) Qtq
 | str i=>
   obtain⟨t,rfl⟩:=g
   cases y with
   |non=>cases d;exact PySem.EqNone.ne_str_none (cg I q (by simp))
   |bl j=>cases d;exact PySem.EqMixed.ne_str_bool (cg I q (by simp))
   |int j=>obtain⟨e,rfl⟩:=d;exact PySem.EqMixed.ne_str_int (cg I q (by simp))
   |str j=>obtain⟨e,rfl⟩:=d;exact ne_str (cg I q (congrArg not EJ))
   |_=>exact absurd (show false=true from f) Qtq
 | byt i=>
   obtain⟨t,rfl⟩:=g
   cases y with
   |byt j=>obtain⟨e,rfl⟩:=d;exact PySem.W.ne_bytes (cg I q (congrArg not D2))
   |_=>exact absurd (show false=true from f) Qtq
 |_=>cases y <;>exact absurd (show false=true from f) Qtq
def P0:lD X (compareOp .Lt) (FH λi j=>.bl (decide (i<j))):=Kb λ_ _ _ _ _ _ _ q=>lt_int q
def P3:lD X (compareOp .LtE) (FH λi j=>.bl (decide (i<=j))):=Kb λ_ _ _ _ _ _ _ q=>le_int q
def P5:lD X (compareOp .Gt) (FH λi j=>.bl (decide (j<i))):=Kb λ_ _ _ _ _ _ _ q=>gt_int q
def Qu:lD X (compareOp .GtE) (FH λi j=>.bl (decide (j<=i))):=Kb λ_ _ _ _ _ _ _ q=>ge_int q
def Ph:lD X (compareOp .Is) (λx y H Q=>y=.non/\Q (.bl (decide (x=.non))) H):=by
 intro e s g H x y v u Q I d f h
 obtain⟨rfl,q⟩:=h
 cases f
 refine is_none_gen (cg I q ?_)
 cases x <;>first
  |(cases d;rfl)
  |(obtain⟨t,rfl⟩:=d;rfl)
def OD:lD X (compareOp .IsNot) (λx y H Q=>y=.non/\Q (.bl (!decide (x=.non))) H):=by
 intro e s g H x y v u Q I d f h
 obtain⟨rfl,q⟩:=h
 cases f
 refine isnot_none_gen (cg I q ?_)
 cases x <;>first
  |(cases d;rfl)
  |(obtain⟨t,rfl⟩:=d;rfl)
def lD.or{f:Value->Value->Sem Value}{r r':R2}(h:lD X f r)(h':lD X f r'):lD X f (λx y H Q=>r x y H Q\/r' x y H Q):=by
 intro d s e H x y v u Q I g i q
 rcases q with q|q
 ·exact h d s e H x y v u Q I g i q
 ·exact h' d s e H x y v u Q I g i q
def IA(b:Expr){d:CmpOp}(h:d≠.In:=by decide)(e:d≠.NotIn:=by decide):behindInMarks d b=false:=by
 have f:(d==CmpOp.In)=false:=by cases d <;>first|rfl|exact absurd rfl h
 have g:(d==CmpOp.NotIn)=false:=by cases d <;>first|rfl|exact absurd rfl e
 cases b <;>simp[behindInMarks,f,g]
def EG{e:CmpOp}{r:R2}(k:lD X (compareOp e) r)(j:PE X a ta)(n:PE X b tb)(i:behindInMarks e b=false):PE X (.Compare a [e] [b] pos) (IT r ta tb):=by
 intro d s l H Q I h
 exact wpAny_Compare1 (Ms j n I h λv u m x y H2 g f o q=>k d m l H2 x y v u Q g f o q) i
def IK(t:TE):TT:=λd H Q=>t d H λx e=>∃k,x=.bl k/\Q k e
def uf{f:CmpOp}{r:R2}(A:lD X (compareOp f) r)(w:PE X a ta)(B:PE X b tb)(t:behindInMarks f b=false):PT X (.Compare a [f] [b] pos) (IK (IT r ta tb)):=by
 intro d s g H Q I h
 refine wpAny_isTrue_Compare1 (cX (w d s g H _ I h) λv F ⟨x,H1,i,n,q⟩=>cX (B d F g H1 _ i q) λu C ⟨y,H2,o,l,j⟩=>
  cX (A d C g H2 x y v u _ o n l j) λc J ⟨z,H3,p,G,k,e,m⟩=> ?_) t
 subst e
 cases G
 exact wpAny_truthy_bool ⟨H3,p,m⟩
def LW(K:PySem.W.Frag)(x:V)(H:Hp)(k:Bool):Prop:=
 match x with
 |.non=>k=false
 |.bl b=>k=b
 |.int i=>k=(i !=0)
 |.str y=>y.length<=sizeLine/\k=((y.length:Int) !=0)
 |.byt y=>y.size<=sizeLine/\k=((y.size:Int) !=0)
 |.ref p=>(∃d,i7 K H p d/\k= !d.isEmpty)\/(∃d,jj K H p d/\k= !d.isEmpty)\/∃e,H p=some (.dK e)/\k= !e.isEmpty
 |_=>False
def Dj{κ:Type}{d:List (κ×V)}{vs:List (κ×Value)}(r:KV d vs):(!vs.isEmpty)= !d.isEmpty:=by
 cases r <;>rfl
def vk{xs:List V}{d:List Value}(r:bG xs d):(!d.toArray.isEmpty)= !xs.isEmpty:=by
 cases r <;>simp
def mW:(sizeLine:Nat)<2^63:=by rw[sizeLine_eq];decide
def KR:ON X (λx H Q=>∃k,LW X.K x H k/\Q k H):=by
 intro B s J H x v Q I l h
 obtain⟨k,e,q⟩:=h
 have L:=mW
 have G:sizeLine=16777216:=sizeLine_eq
 cases x with
 | non=>
   cases l
   have d:k=false:=e
   subst d
   exact truthy_none ⟨H,I,q⟩
 | bl b=>
   cases l
   have d:k=b:=e
   subst d
   exact wpAny_truthy_bool ⟨H,I,q⟩
 | int i=>
   obtain⟨t,rfl⟩:=l
   have d:k=(i !=0):=e
   subst d
   exact PySem.P.truthy_int ⟨H,I,q⟩
 | str y=>
   obtain⟨t,rfl⟩:=l
   obtain⟨F,d⟩:y.length<=sizeLine/\k=((y.length:Int) !=0):=e
   subst d
   exact PySem.P.truthy_str (by omega) ⟨H,I.tok _,q⟩
 | byt y=>
   obtain⟨t,rfl⟩:=l
   obtain⟨F,d⟩:y.size<=sizeLine/\k=((y.size:Int) !=0):=e
   subst d
   exact PySem.W.truthy_bytes (by omega) ⟨H,I.tok _,q⟩
 | ref p=>
   cases l
   have d:(∃j,i7 X.K H p j/\k= !j.isEmpty)\/(∃j,jj X.K H p j/\k= !j.isEmpty)\/∃f,H p=some (.dK f)/\k= !f.isEmpty:=e
   rcases d with⟨j,n,d⟩|⟨j,n,d⟩|⟨f,n,d⟩
   · subst d
     obtain⟨z,r,u,A⟩:=I.list n
     have g:=r.length
     exact wpAny_truthy_list u.isList (by simp only[Qjq];omega) ⟨H,I.tok _,by rw[vk r];exact q⟩
   · subst d
     obtain⟨z,r,u,A⟩:=I.tuple n
     have g:=r.length
     exact truthy_tuple u (by simp only[Qjq];omega) ⟨H,I.tok _,by rw[vk r];exact q⟩
   · subst d
     obtain⟨A,C,o,r,m⟩:f.length<=sizeLine/\(p==sysModules)=false/\∃o,KV f o/\s.heap.DictOf (bZ X.prog X.w) p o:=I.hok p _ n
     have g:f.length=o.length:=Paired.length r
     exact wpAny_truthy_dict C m (by omega) ⟨H,I.tok _,by rw[Dj r];exact q⟩
 |_=>exact(show False from e).elim
def G9(m:PE X a ta)(he:∀d,isTrue a X.env d=(do let v←d;standAt a.pos;holding [v] (truthy v))):
  PT X a (λf H Q=>ta f H λx g=>∃k,LW X.K x g k/\Q k g):=by
 intro e s f H Q I h
 exact isTrue_plain (cX (m e s f H _ I h) λv n ⟨x,H1,i,j,l⟩=>KR e n f H1 x v Q i j l) (he _)
def Ci:lD X (binaryOp .Add) (λx y H Q=>∃i j,x=.str i/\y=.str j/\i.length+j.length<=sizeLine/\Q (.str (i++j)) H):=by
 intro d s k H x y v u Q I e f h
 obtain⟨i,j,rfl,rfl,hz,q⟩:=h
 obtain⟨t,rfl⟩:=e
 obtain⟨g,rfl⟩:=f
 exact add_str (λg l=>⟨.str (i++j),H,I.tok _,⟨_,rfl⟩,q⟩) hz
def vals1{x:V}{d:List Value}(r:bG [x] d):∃u,d= [u]/\RelV x u:=by
 cases r with
 |cons f e=>cases e;exact⟨_,rfl,f⟩
def vals2{x y:V}{e:List Value}(r:bG [x,y] e):∃u d,e= [u,d]/\RelV x u/\RelV y d:=by
 cases r with
 | cons h g=>
   cases g with
   |cons i f=>cases f;exact⟨_,_,rfl,h,i⟩
def M7:jY X (.builtin "abs") (λxs H Q=>∃i,xs= [.int i]/\Q (.int (if i<0 then -i else i)) H):=by
 intro d s e H xs g Q I r h
 obtain⟨i,rfl,q⟩:=h
 obtain⟨u,rfl,t,rfl⟩:=vals1 r
 exact call_abs_int λu f=>⟨.int (if i<0 then -i else i),H,I.tok _,⟨_,rfl⟩,q⟩
def Mu(f:X.calm=true):jY X (.builtin "max") (λxs H Q=>∃i j,xs= [.int i,.int j]/\Q (.int (if j>i then j else i)) H):=by
 intro e s n H xs m Q I r h
 obtain⟨i,j,rfl,q⟩:=h
 obtain⟨u,o,rfl,⟨t,rfl⟩,⟨t',rfl⟩⟩:=vals2 r
 refine max_two_ints (I.ok.hd f) λg l k=>⟨_,H,I.kept k,?_,q⟩
 by_cases d:j>i
 ·rw[Qhq d,Qhq d];exact⟨_,rfl⟩
 ·rw[Quq d,Quq d];exact⟨_,rfl⟩
def Mz(f:X.calm=true):jY X (.builtin "min") (λxs H Q=>∃i j,xs= [.int i,.int j]/\Q (.int (if j<i then j else i)) H):=by
 intro e s n H xs m Q I r h
 obtain⟨i,j,rfl,q⟩:=h
 obtain⟨u,o,rfl,⟨t,rfl⟩,⟨t',rfl⟩⟩:=vals2 r
 refine min_two_ints (I.ok.hd f) λg l k=>⟨_,H,I.kept k,?_,q⟩
 by_cases d:j<i
 ·rw[Qhq d,Qhq d];exact⟨_,rfl⟩
 ·rw[Quq d,Quq d];exact⟨_,rfl⟩
def My:jY X (.type "int") (λxs H Q=>(∃i,xs= [.int i]/\Q (.int i) H)\/∃k,xs= [.bl k]/\Q (.int (if k then 1 else 0)) H):=by
 intro d s e H xs f Q I r h
 rcases h with⟨i,rfl,q⟩|⟨k,rfl,q⟩
 ·obtain⟨u,rfl,t,rfl⟩:=vals1 r
  exact call_int_int ⟨.int i,H,I,⟨_,rfl⟩,q⟩
 ·obtain⟨u,rfl,r1⟩:=vals1 r
  cases r1
  exact call_int_bool ⟨.int (if k then 1 else 0),H,I.tok _,⟨_,rfl⟩,q⟩
end
structure L9(h:Heap)(x dx C:Addr)(mA:Str->Option Value):Prop where
 obj:h.get? x=some (PySem.W.instObj C dx)
 ns:h.Ns1 dx mA
 ne:dx≠x
def FJ{h:Heap}{c:Addr}{d:Str->Option Value}(n:h.Ns1 c d):∃f,h.get? c=some f/\∀name,PySem.W.lookIn name f=some (d name):=by
 obtain⟨o,g,r,m,j,i,_,l⟩:=n
 refine⟨o,m,λname=> ?_⟩
 have e:=l name
 unfold nsFind findBy at e
 rw[←Array.find?_toList] at e
 unfold PySem.W.lookIn
 rw[j]
 dsimp only
 split
 ·rename_i y q
  rw[q] at e
  exact congrArg some e
 ·rename_i q
  rw[q] at e
  have a:g.toList.any (·.refKey)=false:=by
   rw[List.any_eq_false]
   intro y k
   obtain⟨z,t,b⟩:=i y (Array.mem_toList_iff.mp k)
   simp[DictEntry.refKey,b]
  have p:¬g.toList.any (·.refKey)=true:=by rw[a];exact Qtq
  rw[Quq p]
  exact congrArg some e
def L9.look{h:Heap}{x b C:Addr}{c:Str->Option Value}(I:L9 h x b C c):∃a,PySem.W.InstAt h x (PySem.W.instObj C b) C (some a)/\∀name,PySem.W.lookIn name a=some (c name):=
 let ⟨a,ho,hl⟩:=FJ I.ns
 ⟨a,⟨I.obj,rfl,rfl,ho⟩,hl⟩
def uY.some_of{v:V}{o:Option Value}(r:uY (some v) o):∃u,o=some u/\RelV v u:=by
 cases o with
 |none=>exact(show False from r).elim
 |some u=>exact⟨u,rfl,r⟩
section
variable{P:Program}{w:World}{H H':Hp}{h h':Heap}{a C dx:Addr}{fs fs':List (Str×V)}
def Ji(c:pI P w H h)(e:H a=some (.ins C dx fs)):∃b,L9 h a dx C b/\(∀f,uY (fs.lookup f) (b f))/\PySem.Within b (fs.map (·.1))/\fs.length<=1000/\H dx=some (.own a):=by
 obtain⟨d,z,i,g,b,n,r,q⟩:=(show dh P w H h a (.ins C dx fs) from c a _ e)
 exact⟨b,⟨g,n,i⟩,r,q,z,d⟩
end
structure PR(K:PySem.W.Frag)(C:Addr):Prop where
 pg:PySem.W.plainGet K C Str.empty=true
 hd:PySem.W.hasDictIn K C=true
 po:PySem.W.plainOver K C=true
 sa:PySem.W.findIn K (.ref C) "__setattr__"=some (some (.builtin "object.__setattr__"))
def PR.get{K:PySem.W.Frag}{C:Addr}(c:PR K C)(f:Str):PySem.W.plainGet K C f=true:=c.pg
section
variable{X:Cx}{pins:List (Addr×Obj)}{σ:St}{H:Hp}{s:Shared}{A:Around}{E:Value->Shared->Prop}{Q:Value->Shared->Prop}{c:Value}{b:Bool}
inductive sk(K:PySem.W.Frag)(H:Hp):V->Value->Prop where
 |non:sk K H .non (.type "NoneType")
 |bl (x:Bool):sk K H (.bl x) (.type "bool")
 |int (i:Int):sk K H (.int i) (.type "int")
 |str (x:Str):sk K H (.str x) (.type "str")
 |flt (x:UInt64):sk K H (.flt x) (.type "float")
 |lst {a:Addr} {xs:List V} (e:H a=some (.lst xs)):sk K H (.ref a) (.type "list")
 |frz {a:Addr} {o:Obj} {xs:List V} (e:H a=some (.frz o (.lst xs))):sk K H (.ref a) (.type "list")
 |tup {a:Addr} {xs:List V} (e:H a=some (.tup xs)):sk K H (.ref a) (.type "tuple")
 |dK {a:Addr} {kvs:List (Key×V)} (e:H a=some (.dK kvs)):sk K H (.ref a) (.type "dict")
 |dT {a:Addr} {kvs:List (List Key×V)} (e:H a=some (.dT kvs)):sk K H (.ref a) (.type "dict")
 |ins {a C dx:Addr} {fs:List (Str×V)} (e:H a=some (.ins C dx fs)) (cl:PR K C) (ha:PySem.W.findIn K (.ref C) "__class__"=some (some (.builtin "object.__class__")))
   (hn:PySem.W.specialIn K (.builtin "object.__class__") "__get__"=some (some (.builtin "getset_descriptor.__get__"))) (htk:PySem.W.takesIn K (.builtin "object.__class__")=some true)
   (hm:PySem.W.mroIn K C (.type "object")=some true):sk K H (.ref a) (.ref C)
def FY{x:V}{u t:Value}(I:Inv X pins σ H s)(d:RelV x u)(m:sk X.K H x t)(e:PySem.W.kitOne X.K t c=some b)(h:∀l,Q (.bool b) {s with toks:=l}):
  wpAny (model X.prog X.w) A (call (.builtin "isinstance") [u,c]) Q E s:=by
 cases m with
 |non=>cases (show u=Value.none from d);exact PySem.W.kia_one PySem.W.kitx_none I.kIn True.intro e (λz=>nomatch z) h
 |bl y=>cases (show u=Value.bool y from d);exact PySem.W.kia_one PySem.W.kitx_bool I.kIn True.intro e (λz=>nomatch z) h
 |int i=>obtain⟨t,q⟩:=(show∃t,u=Value.int i t from d);cases q;exact PySem.W.kia_one PySem.W.kitx_int I.kIn True.intro e (λz=>nomatch z) h
 |str y=>obtain⟨t,q⟩:=(show∃t,u=Value.str y t from d);cases q;exact PySem.W.kia_one PySem.W.kitx_str I.kIn True.intro e (λz=>nomatch z) h
 |flt y=>obtain⟨t,q⟩:=(show∃t,u=Value.float y t from d);cases q;exact PySem.W.kia_one PySem.W.kitx_float I.kIn True.intro e (λz=>nomatch z) h
 | @lst a g ea=>
   cases (show u=Value.ref a from d)
   obtain⟨_,_,n,_,f⟩:=(show dh X.prog X.w H s.heap a (.lst g) from I.hok a _ ea)
   exact PySem.W.kia_one PySem.W.kitx_list I.kIn ⟨_,f,rfl⟩ e (λz=>nomatch z) h
 | @frz a ob g ea=>
   cases (show u=Value.ref a from d)
   obtain⟨_,_,_,n,_,f⟩:=(show dh X.prog X.w H s.heap a (.frz ob (.lst g)) from I.hok a _ ea)
   exact PySem.W.kia_one PySem.W.kitx_list I.kIn ⟨_,f,rfl⟩ e (λz=>nomatch z) h
 | @tup a g ea=>
   cases (show u=Value.ref a from d)
   obtain⟨_,_,_,p⟩:=(show dh X.prog X.w H s.heap a (.tup g) from I.hok a _ ea)
   obtain⟨o,f,j,_⟩:=p
   exact PySem.W.kia_one PySem.W.kitx_tuple I.kIn ⟨o,f,j⟩ e (λz=>nomatch z) h
 | @dK a kvs ea=>
   cases (show u=Value.ref a from d)
   obtain⟨_,_,v,_,p⟩:=(show dh X.prog X.w H s.heap a (.dK kvs) from I.hok a _ ea)
   obtain⟨o,r,k,f,j,_⟩:=p
   exact PySem.W.kia_one PySem.W.kitx_dict I.kIn ⟨o,f,j.1⟩ e (λz=>nomatch z) h
 | @dT a kvs ea=>
   cases (show u=Value.ref a from d)
   obtain⟨_,_,g,_,o,r,k,f,j,_⟩:=(show dh X.prog X.w H s.heap a (.dT kvs) from I.hok a _ ea)
   exact PySem.W.kia_one PySem.W.kitx_dict I.kIn ⟨o,f,j.1⟩ e (λz=>nomatch z) h
 | @ins a C dx fs ea cl ha hn htk hm=>
   cases (show u=Value.ref a from d)
   obtain⟨B,O,_⟩:=Ji I.hok ea
   obtain⟨F,J,_⟩:=O.look
   exact PySem.W.kia_one (PySem.W.kitx_own (cl.get _) cl.hd ha hn htk hm) I.kIn J e (λz=>nomatch z) h
end
structure fQ(k:Nat)(A:Around):Prop where
 hd:A.handled=none
 dp:A.depth+3*k+5<recursionLimit
 un:A.units+16*k+200<cLine
def fQ.mono{j k:Nat}{A:Around}(r:fQ k A)(h:j<=k):fQ j A:=⟨r.hd,by have:=r.dp;omega,by have:=r.un;omega⟩
def fQ.deeper{k:Nat}{A:Around}(r:fQ (k+1) A)(env:Env):fQ k (A.deeper env):=
 ⟨r.hd,by have:=r.dp;show A.depth+1+3*k+5<_;omega,by have:=r.un;show A.units+3+16*k+200<_;omega⟩
def fQ.depth{k:Nat}{A:Around}(r:fQ k A):A.depth<recursionLimit:=by have:=r.dp;omega
def fQ.units{k:Nat}{A:Around}(r:fQ k A):A.units+64<cLine:=by have:=r.un;omega
def fQ.units0{k:Nat}{A:Around}(r:fQ k A):A.units<cLine:=by have:=r.un;omega
def Mp:TA:=λ_ H Q=>Q [] H
def HA(c:TE)(tr:TA):TA:=λa H Q=>c a H λx H1=>tr a H1 λb H2=>Q (x::b) H2
section
variable{X:Cx}{e:Expr}{es:List Expr}{te:TE}{t:TA}{pos:Pos}
def g9:PA X [] Mp:=λ_ _ _ _ H Q I h=>Calls.spliced_nil ⟨[],H,I,.nil,h⟩
def d0(m:PE X e te)(n:PA X es t)(hs:starEach (e::es) X.env=(false,eval e X.env)::starEach es X.env:=by rfl):PA X (e::es) (HA te t):=by
 intro pos a s b H Q I h
 rw[hs]
 show wpAny _ _ (spliced ((false,eval e X.env)::backTo pos (starEach es X.env))) _ _ s
 refine Calls.spliced_cons (cX (m a s b H _ I h) λu o d=> ?_)
 obtain⟨x,H1,c,j,l⟩:=d
 exact cX (n pos a o b H1 _ c l) λp q ⟨f,H2,k,i,g⟩=>⟨x::f,H2,k,.cons j i,g⟩
def PJ(t:TA):TE:=λb H Q=>t b H λa H1=>a.length<=sizeLine/\∀p,H1 p=none->Q (.ref p) (upd H1 p (.tup a))
def PH(t:TA):TE:=λb H Q=>t b H λa H1=>a.length<=sizeLine/\∀p,H1 p=none->Q (.ref p) (upd H1 p (.lst a))
def Mb{x1}(h:PA X es t):PE X (.Tuple es x1 pos) (PJ t):=by
 intro a s j H Q I g
 refine wpAny_Tuple_spliced (cX (h pos a s j H _ I g) λi c ⟨f,H1,d,r,z,q⟩=>⟨by rw[←r.length];exact z,?_⟩)
 have k:H1 c.heap.objs.size=none:=d.hok.fresh (Qmq _)
 refine⟨.ref c.heap.objs.size,upd H1 c.heap.objs.size (.tup f),d.laid (t':=c.toks) (λb u e=>Qcq _ e) (Qmq _) ?_,rfl,q _ k⟩
 exact⟨z,i,r,⟨_,Qrq _ rfl,rfl,rfl,_,rfl⟩⟩
def Ll(h:PA X es t):PE X (.List es pos) (PH t):=by
 intro a s j H Q I g
 refine wpAny_List_spliced (cX (h pos a s j H _ I g) λi c ⟨f,H1,d,r,z,q⟩=>⟨by rw[←r.length];exact z,?_⟩)
 have k:H1 c.heap.objs.size=none:=d.hok.fresh (Qmq _)
 refine⟨.ref c.heap.objs.size,upd H1 c.heap.objs.size (.lst f),d.laid (t':=c.toks) (λb u e=>Qcq _ e) (Qmq _) ?_,rfl,q _ k⟩
 exact⟨z,i,0,r,Qrq _ rfl⟩
end
abbrev Sp:=List V->Hp->VK->XK->Prop
abbrev Gi:=List Env->Hp->Shared->XK->Value->Shared->Prop
structure JX(P:Program)(w:World)(K:PySem.W.Frag)(mg:Str->Option Value)(base:Heap)(A:Around)(outer:List Env)(s:Shared)(H:Hp):Prop where
 frames:A.frames=some outer
 mod:Mod K mg base
 bs:∀b o,base.get? b=some o->s.heap.get? b=some o/\H b=none
 bsz:base.objs.size<=s.heap.objs.size
 funs:s.heap.FunFrames base outer
 frf:∀b∈GE outer,H b=none
 hok:pI P w H s.heap
 bare:AllBare s.gens
def CE(outer:List Env)(P:Program)(w:World)(H:Hp)(s:Shared)(Q:VK)(u:Value)(a:Shared):Prop:=
 ∃v b,a.os=s.os/\AllBare a.gens/\Un (GE outer) [] H b s.heap a.heap/\pI P w b a.heap/\RelV v u/\Q v b
def CR(CX:Gi)(outer:List Env)(P:Program)(w:World)(H:Hp)(s:Shared)(Q:VK)(E:XK)(r:Result)(a:Shared):Prop:=
 match r with
 |.ok (.ret u)=>CE outer P w H s Q u a
 |.ok _=>False
 |.error e=>CX outer H s E e a
structure bf(P:Program)(w:World)(K:PySem.W.Frag)(mg:Str->Option Value)(base:Heap)(CX:Gi)(k:Nat)(f:Addr)(fd:FuncData)(ps:List Str)(sp:Sp):Prop where
 len:∀vs H Q E,sp vs H Q E->vs.length=ps.length
 run:∀(A:Around) (outer:List Env) (s:Shared) (H:Hp) (args:Args) (us:List Value) (vs:List V) (Q:VK) (E:XK),fQ k A->JX P w K mg base A outer s H->BindsTo s fd args (ps.zip us)->bG vs us->sp vs H Q E→
  codeAny (model P w) A (.call (.ref f) args) (CR CX outer P w H s Q E) s
def bf.mono{P:Program}{w:World}{K:PySem.W.Frag}{mg:Str->Option Value}{base:Heap}{CX:Gi}{j k:Nat}{f:Addr}{c:FuncData}{ps:List Str}{sp:Sp}(F:bf P w K mg base CX j f c ps sp)(h:j<=k):
  bf P w K mg base CX k f c ps sp:=⟨F.len,λA a s H b e d Q E g=>F.run A a s H b e d Q E (g.mono h)⟩
def bf.imp{P:Program}{w:World}{K:PySem.W.Frag}{mg:Str->Option Value}{base:Heap}{CX:Gi}{k:Nat}{f:Addr}{d:FuncData}{ps:List Str}{sp c:Sp}(F:bf P w K mg base CX k f d ps sp)
  (h:∀vs H Q E,c vs H Q E->sp vs H Q E):bf P w K mg base CX k f d ps c:=
 ⟨λvs H Q E q=>F.len vs H Q E (h _ _ _ _ q),λA a s H b j vs Q E m g l i e=>F.run A a s H b j vs Q E m g l i (h _ _ _ _ e)⟩
section
variable{X:Cx}{pins:List (Addr×Obj)}{σ:St}{H:Hp}{s s':Shared}
def Inv.env0(I:Inv X pins σ H s):JX X.prog X.w X.K X.mg X.base X.A X.stack s H:=
 ⟨I.ok.frames,I.ok.mod,I.bs,QAq I.ok.bsz I.sz,I.stack,I.stkFree,I.hok,I.bare⟩
def Inv.after{Q:VK}{u:Value}(I:Inv X pins σ H s)(h:CE X.stack X.prog X.w H s Q u s'):EP X pins σ Q u s':=by
 obtain⟨v,j,i,a,f,c,r,q⟩:=h
 obtain⟨k,g,d,t,e⟩:=s'
 obtain rfl:e=s.os:=i
 exact⟨v,j,I.call (h':=k) (g':=g) (d':=d) (t':=t) (ch:= []) f c a (λb z=>absurd z (by simp)),r,q⟩
end
def Hk(sp:Sp)(a:List V)(E:XK)(t:TA):TE:=λb H Q=>t b H λc H1=>sp (c++a) H1 Q E
def Binds(K:PySem.W.Frag)(b:FuncData)(ps:List Str)(ds:List Value):Prop:=
 ∀(s:Shared) (a:List Value),K.In s.heap->(a++ds).length=ps.length->BindsTo s b ⟨a,[]⟩ (ps.zip (a++ds))
def Binds.all{K:PySem.W.Frag}{b:FuncData}{ps:List Str}(h:∀a:List Value,a.length=ps.length->bindArgs b ⟨a,[]⟩=pure (ps.zip a)):Binds K b ps []:=λs a _ c=>by
 rw[List.append_nil] at c⊢
 exact .of_eq (h a c)
def Ck(CX:Gi)(X:Cx)(E:XK):Prop:=∀(a:List (Addr×Obj)) (c:St) (H:Hp) (s:Shared) (e:Value) (b:Shared),Inv X a c H s->CX X.stack H s E e b->X.xe e b
section
variable{X:Cx}{CX:Gi}{k:Nat}{f C:Addr}{fd:FuncData}{ps:List Str}{sp:Sp}{dvs:List V}{ds:List Value}{E:XK}{x m:Str}{p pos apos:Pos}{e o:Expr}{es:List Expr}{ta:TE}{t:TA}
def Hu{a:List (Addr×Obj)}{d:St}{H:Hp}{s:Shared}{Q:VK}{b:List Value}{vs:List V}(F:bf X.prog X.w X.K X.mg X.base CX k f fd ps sp)(q:fQ k X.A)(n:Binds X.K fd ps ds)(hd:bG dvs ds)(j:Ck CX X E)
  (I:Inv X a d H s) (r:bG vs b) (h:sp (vs++dvs) H Q E):wpAny (model X.prog X.w) X.A (call (.ref f) b) (EP X a d Q) X.xe s:=by
 have g:bG (vs++dvs) (b++ds):=r.append hd
 have v:(b++ds).length=ps.length:=by rw[←g.length];exact F.len _ _ _ _ h
 refine wpAny_call (codeAny_mono (F.run X.A X.stack s H ⟨b,[]⟩ (b++ds) (vs++dvs) Q E q I.env0 (n s b I.kIn v) g h) λr l c=> ?_)
 cases r with
 |error e=>exact j a d H s e l I c
 | ok i=>
   cases i with
   |ret u=>exact I.after c
   |next=>exact False.elim c
   |brk=>exact False.elim c
   |cont=>exact False.elim c
def Ee(F:bf X.prog X.w X.K X.mg X.base CX k f fd ps sp)(v:fQ k X.A)(g:Gl X x)(j:X.mg x=some (.ref f))(d:PySem.W.keepIn X.K (.ref f)=true)(u:Binds X.K fd ps ds)(hd:bG dvs ds)(i:Ck CX X E)
  (l:PA X (e::es) t) (b:(x==("__debug__":Str))=false:=by decide) (he:starEach (e::es) X.env=(false,eval e X.env)::starEach es X.env:=by rfl) (hpl:(backTo pos (starEach es X.env)).any (·.1)=false:=by rfl):
  PE X (.Call (.Name x p) (e::es) [] pos) (Hk sp dvs E t):=by
 intro a s n H Q I h
 refine wpAny_Call_Name_kw (Ac I g j ?_ b)
 refine PySem.W.callWith_K (h₀:=X.base) I.ok.mod.kin d (cX (l pos a s n H _ I h) λz B ⟨y,H1,c,r,q⟩=>⟨c.kIn,?_⟩) he hpl
 exact Hu F v u hd i c r q
end
structure aF(N P:List Str)(sc:Scope):Prop where
 kind:sc.kind=.function
 co:sc.isCoroutine=false
 gen:sc.isGenerator=false
 nd:N.Nodup
 pre:N.take P.length=P
 par:∀x∈P,sc.names.lookup x=some .local\/sc.names.lookup x=some .cell
 nofree:∀y∈sc.names,y.2≠.free
theorem xj{b:Str->Option NameKind}{x:Str}:∀{a:List (Str×Value)} {m:Str->Option Value},(∀v,(x,v)∉a)->bindL b a m x=m x
 | [],_,_=>rfl
 | (n,v)::r,m,h=>by
   unfold bindL
   rw[xj λw c=>h w (Qpq _ c)]
   split
   · have:x≠n:=by rintro rfl;exact h v QBq
     simp[this]
   · rfl
theorem xi{b:Str->Option NameKind}{x:Str}:∀{a:List (Str×Value)} {m:Str->Option Value},(∀v,(x,v)∉a)->bindC b a m x=m x
 | [],_,_=>rfl
 | (n,v)::r,m,h=>by
   unfold bindC
   rw[xi λw c=>h w (Qpq _ c)]
   split
   · rfl
   · have:x≠n:=by rintro rfl;exact h v QBq
     simp[this]
theorem xn{a:Str->Option NameKind}{x:Str}{v:Value}:∀{P:List Str} {vs:List Value} {i:Nat} {m:Str->Option Value},P.Nodup->P[i]?=some x->vs[i]?=some v->a x=some .local→
  bindL a (P.zip vs) m x=some v
 | [],_,_,_,_,h,_,_=>by simp at h
 |_::_,[],_,_,_,_,h,_=>by simp at h
 | p::P,w::vs,0,m,nd,h1,h2,hk=>by
   simp at h1 h2;subst h1;subst h2
   show bindL a ((p,w)::P.zip vs) m p=_
   unfold bindL
   rw[xj λv b=>(List.nodup_cons.mp nd).1 (QeQ b).1,Qhq hk]
   simp
 | p::P,w::vs,i+1,m,nd,h1,h2,hk=>by
   show bindL a ((p,w)::P.zip vs) m x=_
   unfold bindL
   exact xn (i:=i) (List.nodup_cons.mp nd).2 (by simpa using h1) (by simpa using h2) hk
theorem xU{a:Str->Option NameKind}{x:Str}{v:Value}:∀{P:List Str} {vs:List Value} {i:Nat} {m:Str->Option Value},P.Nodup->P[i]?=some x->vs[i]?=some v->a x≠some .local→
  bindC a (P.zip vs) m x=some v
 | [],_,_,_,_,h,_,_=>by simp at h
 |_::_,[],_,_,_,_,h,_=>by simp at h
 | p::P,w::vs,0,m,nd,h1,h2,hk=>by
   simp at h1 h2;subst h1;subst h2
   show bindC a ((p,w)::P.zip vs) m p=_
   unfold bindC
   rw[xi λv b=>(List.nodup_cons.mp nd).1 (QeQ b).1,Quq hk]
   simp
 | p::P,w::vs,i+1,m,nd,h1,h2,hk=>by
   show bindC a ((p,w)::P.zip vs) m x=_
   unfold bindC
   exact xU (i:=i) (List.nodup_cons.mp nd).2 (by simpa using h1) (by simpa using h2) hk
def start(N:List Str)(vs:List V):St:=vs.map some++List.replicate (N.length-vs.length) none
def AU(CX:Gi)(P:Program)(w:World)(K:PySem.W.Frag)(mg:Str->Option Value)(base:Heap)(N:List Str)(b:Str)(a:Scope)(f:Addr)(d:Value)(A:Around)(outer:List Env)(s:Shared)(H:Hp)(E:XK):Cx where
 prog:=P
 w:=w
 K:=K
 mg:=mg
 base:=base
 A:=A.deeper (envOfC b a s.heap.objs.size f d)
 N:=N
 s₀:=s
 H₀:=H
 env:=envOfC b a s.heap.objs.size f d
 outer:=outer
 stack:=envOfC b a s.heap.objs.size f d::outer
 ex:= []
 calm:=true
 fn:=λ_=>true
 pn:= []
 xe:=λe h=>wpAny (model P w) (A.deeper (envOfC b a s.heap.objs.size f d)) (leaving (envOfC b a s.heap.objs.size f d) e) (λ_ c=>CX outer H s E e c) (λg c=>CX outer H s E g c) h
def A2{sc:Scope}{n:Nat}{x:Str}(h:sc.names.lookup x=some .cell):∃c,(cellsFrom n sc.names []).lookup x=some c:=by
 have q:=PySem.W.cellsFrom_some sc.names n [] (.inl h)
 exact Option.isSome_iff_exists.mp q
def Fo{CX:Gi}{P:Program}{w:World}{K:PySem.W.Frag}{mg:Str->Option Value}{base:Heap}{N ps:List Str}{g:Str}{d:Scope}{f:Addr}{C:Value}{A:Around}{outer:List Env}{s L:Shared}{H:Hp}{E:XK}{I:List Value}{vs:List V}
  (S:aF N ps d) (hd:A.handled=none) (l:JX P w K mg base A outer s H) (Y:vs.length=ps.length) (r:bG vs I)
  (x:InCallC s s.heap.objs.size (bindL (envOfC g d s.heap.objs.size f C).kindOf (ps.zip I) λ_=>none) (cellsFrom (s.heap.objs.size+1) d.names []) (bindC (envOfC g d s.heap.objs.size f C).kindOf (ps.zip I) λ_=>none) L):
  Inv (AU CX P w K mg base N g d f C A outer s H E) [] (start N vs) H L:=by
 have M:ps.length<=N.length:=by have:=congrArg List.length S.pre;rw[Qxq] at this;omega
 obtain⟨F,U,rfl,hk⟩:=x.done
 have m:∀b:Addr,b∉(AU CX P w K mg base N g d f C A outer s H E).ex:=λb z=>absurd (show b∈([]:List Addr) from z) (by simp)
 refine⟨⟨l.mod,S.kind,rfl,rfl,Qmq _,λy z c F j=> ?_,λy o=> ?_,λy c _ h=> ?_,λ_=>hd,Around.frames_deeper l.frames,.inr ⟨rfl,rfl⟩,λb z=>absurd z (m b),l.bs,l.bsz,λb _ _=>m b,λb z=>absurd z (m b),l.funs,l.frf⟩,
  rfl,l.bare,Un.kept hk,⟨_,x.toInCall.ns,λi y v F j X=> ?_⟩,λy c h=>⟨_,x.cell y c h⟩,l.hok.fresh (Qmq _),λy c h=> ?_,λp B=>absurd (show p∈([]:List (Addr×Obj)) from B) (by simp),l.hok.kept hk,?_⟩
 ·exact name_of_addr x.apart (PySem.mem_of_lookup F) (PySem.mem_of_lookup j)
 ·have o:d.names.lookup y=some .cell\/d.names.lookup y=some .free:=o
  rcases o with o|o
  ·exact A2 o
  ·exact absurd rfl (S.nofree _ (PySem.mem_of_lookup o))
 ·exact nQl (x.above y c (PySem.mem_of_lookup h))
 ·have G:i<vs.length:=by
   unfold start at j
   by_cases G:i<vs.length
   ·exact G
   ·rw[QQq (by simpa using G)] at j
    rw[List.getElem?_replicate] at j
    split at j <;>cases j
  have Q:vs[i]?=some v:=by
   unfold start at j
   rw[QHq (by simpa using G),gQm] at j
   cases e:vs[i]? with
   |none=>rw[e] at j;cases j
   |some a=>rw[e] at j;cases j;rfl
  obtain⟨u,J,R⟩:=r.get Q
  have B:ps[i]?=some y:=by
   rw[←S.pre,List.getElem?_take_of_lt (by omega)];exact F
  have t:ps.Nodup:=by rw[←S.pre];exact S.nd.sublist (List.take_sublist _ _)
  refine⟨u,R,?_⟩
  rcases S.par y (mQg B) with k|k
  ·exact .inl ⟨k,xn t B J k⟩
  ·obtain⟨c,e⟩:=A2 (n:=s.heap.objs.size+1) k
   refine .inr ⟨.inl k,c,e,?_⟩
   have q:=x.cell y c e
   rw[xU t B J (by show d.names.lookup y≠_;rw[k];decide)] at q
   exact q
 ·exact l.hok.fresh (nQl (x.above y c (PySem.mem_of_lookup h)))
 ·unfold start
  show _=N.length
  rw[lQa,lQm,QIq]
  omega
def N_{CX:Gi}{P:Program}{w:World}{K:PySem.W.Frag}{mg:Str->Option Value}{base:Heap}{k:Nat}{f:Addr}{name c:Str}{g:Arguments}{h:List Stmt}{a:Scope}{dV kV B pm d ct oc:Value}{an od:Option Addr}
  {L:Array (Option Value)} {N ps:List Str} {sp:Sp} (lk:K.lookup f=some ⟨oc,od,.func (PySem.W.fnOf name c g h a dV kV B pm an d ct),L⟩) (G:PySem.W.codeIn K d c=true) (S:aF N ps a)
  (len:∀vs H Q E,sp vs H Q E->vs.length=ps.length)
  (l:∀(A:Around) (outer:List Env) (s:Shared) (H:Hp) (vs:List V) (Q:VK) (E:XK),fQ k (A.deeper (envOfC c a s.heap.objs.size f d))->sp vs H Q E→
   ∃t,tX (AU CX P w K mg base N c a f d A outer s H E) h t/\t {nx:=λ_ j=>Q .non j,rt:=Q} (start N vs) H):
  bf P w K mg base CX (k+1) f (PySem.W.fnOf name c g h a dV kV B pm an d ct) ps sp:=by
 refine⟨len,λA outer s H Z us vs Q E U z hb r F=> ?_⟩
 have hl:=len _ _ _ _ F
 have Y:K.In s.heap:=z.mod.kin.keeps λb o e=>(z.bs b o e).1
 have R:s.heap.NoLimit:=z.mod.nolimit.keeps λb o e=>(z.bs b o e).1
 have m:∀y∈ps.zip us,a.names.lookup y.1=some .local\/(a.names.lookup y.1=some .cell/\((cellsFrom (s.heap.objs.size+1) a.names []).lookup y.1).isSome=true):=λ⟨n,v⟩ hy=>by
  rcases S.par n (QeQ hy).1 with q|q
  ·exact .inl q
  ·exact .inr ⟨q,PySem.W.cellsFrom_some _ _ _ (.inl q)⟩
 refine codeAny_call_function U.depth (Y _ _ lk) rfl S.co S.gen rfl (PySem.W.codeRec_of Y G) (hb _ _ _ _ ?_)
 refine wpAny_newFunctionEnv_cells S.kind m λa0 he s1 x=> ?_
 subst he
 refine⟨R.keeps x.toInCall.keep,codeAny_func ?_⟩
 obtain⟨t,ht,hq⟩:=l A outer s H vs Q E (U.deeper _) F
 have I:Inv (AU CX P w K mg base N c a f d A outer s H E) [] (start N vs) H s1:=Fo S U.hd z hl r x
 refine QRq (ht [] s1 (start N vs) H _ I hq) (λfl M p=> ?_) λe M p=>p
 have C:∀{i:St} {j:Hp} {v:V} {u:Value},Inv (AU CX P w K mg base N c a f d A outer s H E) [] i j M->RelV v u->Q v j->CE outer P w H s Q u M:=
  λ{i j v u} J X q=>⟨v,j,J.os,J.bare,J.base,J.hok,X,q⟩
 cases fl with
 | ret u=>
   obtain⟨v,i,j,J,X,q⟩:=p
   exact C J X q
 | next=>
   obtain⟨i,j,J,q⟩:=p
   exact C (v:=V.non) (u:=Value.none) J rfl q
 | brk=>
   obtain⟨_,_,_,q⟩:=p
   exact False.elim q
 | cont=>
   obtain⟨_,_,_,q⟩:=p
   exact False.elim q
section
variable{X:Cx}{x:Str}{p pos:Pos}{e:Expr}{es:List Expr}{t:TA}{id T:String}{r:List V->Hp->VK->Prop}
def OH(r:List V->Hp->VK->Prop)(t:TA):TE:=λa H Q=>t a H λb H1=>r b H1 Q
def jT(q:jY X (.builtin id) r)(i:Gl X x)(m:X.mg x=none)(j:bootBuiltins x=some (.builtin id))(n:PA X (e::es) t)(g:x≠"__name__":=by decide)(b:(x==("__debug__":Str))=false:=by decide)
  (he:starEach (e::es) X.env=(false,eval e X.env)::starEach es X.env:=by rfl) (hpl:(backTo pos (starEach es X.env)).any (·.1)=false:=by rfl):PE X (.Call (.Name x p) (e::es) [] pos) (OH r t):=by
 intro a s c H Q I h
 refine wpAny_Call_Name_kw (oM I i m j ?_ g b)
 exact PyProof.Rows.callWith_builtin1 (cX (n pos a s c H _ I h) λo u ⟨f,H1,d,k,l⟩=>q a u c H1 f o Q d k l) he hpl
def FX(q:jY X (.type T) r)(i:Gl X x)(m:X.mg x=none)(j:bootBuiltins x=some (.type T))(n:PA X (e::es) t)(g:x≠"__name__":=by decide)(b:(x==("__debug__":Str))=false:=by decide)
  (he:starEach (e::es) X.env=(false,eval e X.env)::starEach es X.env:=by rfl) (hpl:(backTo pos (starEach es X.env)).any (·.1)=false:=by rfl):PE X (.Call (.Name x p) (e::es) [] pos) (OH r t):=by
 intro a s c H Q I h
 refine wpAny_Call_Name_kw (oM I i m j ?_ g b)
 exact PyProof.Rows.callWith_type1 (cX (n pos a s c H _ I h) λo u ⟨f,H1,d,k,l⟩=>q a u c H1 f o Q d k l) he hpl
end
section
variable{κ:Type}[DecidableEq κ]
def qQ(a:List (κ×V))(k:κ):Option V:=(a.find? λb=>decide (b.1=k)).map (·.2)
def putK(a:List (κ×V))(k:κ)(v:V):List (κ×V):=
 if (a.any λb=>decide (b.1=k))=true then a.map (λb=>if b.1=k then(b.1,v) else b) else a++ [(k,v)]
def u5{p:κ×V}{r:List (κ×V)}{k:κ}(e:p.1=k):qQ (p::r) k=some p.2:=by simp[qQ,List.find?_cons,e]
def uX{p:κ×V}{r:List (κ×V)}{k:κ}(e:¬p.1=k):qQ (p::r) k=qQ r k:=by simp[qQ,List.find?_cons,e]
theorem BP(k:κ):∀a:List (κ×V),(a.any λkv=>decide (kv.1=k))=(qQ a k).isSome
 | []=>rfl
 | p::r=>by
   rw[List.any_cons]
   by_cases e:p.1=k
   · simp only[u5 e,Qeq e,Bool.true_or,Option.isSome_some]
   · rw[uX e,Qdq e,Bool.false_or];exact BP k r
def jo(a:List (κ×V))(k:κ)(v:V):(putK a k v).length<=a.length+1:=by
 unfold putK
 split
 ·rw[lQm];omega
 ·rw[lQa,Qnq,QGq];omega
def uY.isSome_eq{o:Option V}{u:Option Value}(r:uY o u):o.isSome=u.isSome:=by
 cases o with
 | none=>cases u with
   |none=>rfl
   |some _=>exact(show False from r).elim
 | some _=>cases u with
   |none=>exact(show False from r).elim
   |some _=>rfl
def KV.val{a:List (κ×V)}{vs:List (κ×Value)}(r:KV a vs)(k:κ):uY (qQ a k) (valueAt vs k):=by
 unfold KV at r
 induction r with
 |nil=>exact True.intro
 | @cons p q ps qs h t ih=>
   obtain⟨d,f⟩:=h
   by_cases e:p.1=k
   · have c:q.1=k:=d.symm.trans e
     have b:valueAt (q::qs) k=some q.2:=by simp[valueAt,List.find?_cons,c]
     rw[u5 e,b];exact f
   · have c:¬q.1=k:=λz=>e (d.trans z)
     have b:valueAt (q::qs) k=valueAt qs k:=by simp[valueAt,List.find?_cons,c]
     rw[uX e,b];exact ih
theorem KV.any{a:List (κ×V)}{vs:List (κ×Value)}(r:KV a vs)(k:κ):(a.any λkv=>decide (kv.1=k))=vs.any λkv=>decide (kv.1=k):=by
 unfold KV at r
 induction r with
 |nil=>rfl
 |cons h t b=>rw[List.any_cons,List.any_cons,b,h.1]
def KV.repl{a:List (κ×V)}{vs:List (κ×Value)}(r:KV a vs)(k:κ){y:V}{u:Value}(d:RelV y u):
  KV (a.map λkv=>if kv.1=k then(kv.1,y) else kv) (vs.map λkv=>if kv.1=k then(kv.1,u) else kv):=by
 unfold KV at r⊢
 induction r with
 |nil=>exact .nil
 | @cons p q ps qs h t ih=>
   rw[QDq,QDq]
   refine .cons ?_ ih
   obtain⟨b,c⟩:=h
   by_cases e:p.1=k
   · rw[Qhq e,Qhq (b.symm.trans e)];exact⟨b,d⟩
   · rw[Quq e,Quq (λz=>e (b.trans z))];exact⟨b,c⟩
def KV.put{a:List (κ×V)}{vs:List (κ×Value)}(r:KV a vs)(k:κ){y:V}{u:Value}(b:RelV y u):KV (putK a k y) (stored vs k u):=by
 unfold putK stored
 rw[r.any k]
 by_cases e:(vs.any λc=>decide (c.1=k))=true
 ·rw[Qhq e,Qhq e];exact r.repl k b
 ·rw[Quq e,Quq e];exact Paired.snoc r ⟨rfl,b⟩
def KV.length{a:List (κ×V)}{vs:List (κ×Value)}(r:KV a vs):a.length=vs.length:=Paired.length r
end
def Ay{P:Program}{w:World}{k:Key}{u:Value}(r:RelV (kV k) u):(bZ P w).is k u=true:=by
 cases k with
 |inl i=>obtain⟨t,e⟩:=(show∃t,u=Value.int i t from r);subst e;exact Bz P w i t
 |inr x=>obtain⟨t,e⟩:=(show∃t,u=Value.str x t from r);subst e;exact AG P w x t
theorem xQ{P:Program}{w:World}:∀{a:List Key} {b:List Value},bG (a.map kV) b->ItemsAre (bZ P w) a b
 | [],_,r=>by rw[List.map_nil] at r;cases r;exact .nil
 | k::a,_,r=>by
   rw[QDq] at r
   cases r with
   |cons h t=>exact .cons (Ay h) (xQ t)
abbrev KT(H:Hp):List (List Key×V)->List (List Key×Addr×Value)->Prop:=Paired λp q=>p.1=q.1/\H q.2.1=some (.tup (p.1.map kV))/\RelV p.2 q.2.2
def KT.val{H:Hp}{a:List (List Key×V)}{xs:List (List Key×Addr×Value)}(r:KT H a xs)(k:List Key):uY (qQ a k) ((atKey xs k).map (·.2)):=by
 induction r with
 |nil=>exact True.intro
 | @cons p q ps qs h t ih=>
   obtain⟨d,_,f⟩:=h
   by_cases e:p.1=k
   · have c:q.1=k:=d.symm.trans e
     have b:atKey (q::qs) k=some q.2:=by simp[atKey,List.find?_cons,c]
     rw[u5 e,b];exact f
   · have c:¬q.1=k:=λz=>e (d.trans z)
     have b:atKey (q::qs) k=atKey qs k:=by simp[atKey,List.find?_cons,c]
     rw[uX e,b];exact ih
def KT.repl{H:Hp}{a:List (List Key×V)}{xs:List (List Key×Addr×Value)}(r:KT H a xs)(k:List Key){y:V}{u:Value}(d:RelV y u):
  KT H (a.map λkv=>if kv.1=k then(kv.1,y) else kv) (xs.map (putAt k u)):=by
 induction r with
 |nil=>exact .nil
 | @cons p q ps qs h t ih=>
   rw[QDq,QDq]
   refine .cons ?_ ih
   obtain⟨b,c,f⟩:=h
   unfold putAt
   by_cases e:p.1=k
   · rw[Qhq e,Qhq (b.symm.trans e)];exact⟨b,c,d⟩
   · rw[Quq e,Quq (λz=>e (b.trans z))];exact⟨b,c,f⟩
def KT.put{H:Hp}{a:List (List Key×V)}{xs:List (List Key×Addr×Value)}(r:KT H a xs)(k:List Key){b:Addr}{y:V}{u:Value}(d:H b=some (.tup (k.map kV)))(c:RelV y u):
  KT H (putK a k y) (storedH xs k b u):=by
 have e:(a.any λf=>decide (f.1=k))=(atKey xs k).isSome:=by
  rw[BP,(r.val k).isSome_eq,Option.isSome_map]
 unfold putK storedH
 rw[e]
 by_cases q:(atKey xs k).isSome=true
 ·rw[Qhq q,Qhq q];exact r.repl k c
 ·rw[Quq q,Quq q];exact Paired.snoc r ⟨rfl,d,c⟩
def KT.keeps{H c:Hp}{a:List (List Key×V)}{xs:List (List Key×Addr×Value)}(r:KT H a xs)(ht:∀b ys,H b=some (.tup ys)->c b=some (.tup ys)):KT c a xs:=
 Paired.mapP r λ_ _ z=>⟨z.1,ht _ _ z.2.1,z.2.2⟩
section
variable{P:Program}{w:World}{H:Hp}{h:Heap}{a:Addr}
def KN{u:HO}(ok:pI P w H h)(e:Rd H a u):dh P w H h a u:=e.ok ok
def HN{b:List (Key×V)}(ok:pI P w H h)(e:Rd H a (.dK b)):b.length<=sizeLine/\(a==sysModules)=false/\∃vs,KV b vs/\h.DictOf (bZ P w) a vs:=
 show dh P w H h a (.dK b) from KN ok e
def D1{b:List (Key×V)}(ok:pI P w H h)(e:H a=some (.dK b)):b.length<=sizeLine/\(a==sysModules)=false/\∃vs,KV b vs/\h.DictOf (bZ P w) a vs:=HN ok (.inl e)
def C7{c:List Key}(ok:pI P w H h)(e:H a=some (.tup (c.map kV))):(tupleKind (bZ P w)).is h c a:=by
 obtain⟨_,b,r,o,d,f,_,n,g⟩:=(show dh P w H h a (.tup (c.map kV)) from ok a _ e)
 exact⟨o,b.toArray,n,d,f,g,by simpa using xQ r⟩
def Hr{b:List (List Key×V)}(ok:pI P w H h)(e:Rd H a (.dT b)):b.length<=sizeLine/\(a==sysModules)=false∧
  ∃xs,KT H b xs/\h.DictOfH (tupleKind (bZ P w)) a xs:=by
 obtain⟨z,y,xs,r,o,n,i,g,k,s,j,f⟩:=(show dh P w H h a (.dT b) from KN ok e)
 refine⟨z,y,xs,r,o,n,i,g,k,s,j,λx c=> ?_,f⟩
 have d:∀{l:List (List Key×V)} {m:List (List Key×Addr×Value)},KT H l m->∀x∈m,(tupleKind (bZ P w)).is h x.1 x.2.1:=by
  intro l m q
  induction q with
  |nil=>intro x c;exact nomatch c
  | @cons p q ps qs hq t ih=>
    intro x c
    rcases Qsq.mp c with e|c
    · subst e
      exact C7 ok (by rw[←hq.1];exact hq.2.1)
    · exact ih x c
 exact d r x c
def N7{b:List (List Key×V)}(ok:pI P w H h)(e:H a=some (.dT b)):b.length<=sizeLine/\(a==sysModules)=false∧
  ∃xs,KT H b xs/\h.DictOfH (tupleKind (bZ P w)) a xs:=Hr ok (.inl e)
end
def Gb(H:Hp)(a:Addr)(y:V)(r:Option V):Prop:=
 (∃c k,Rd H a (.dK c)/\y=kV k/\r=qQ c k)\/∃c k b,Rd H a (.dT c)/\y=.ref b/\H b=some (.tup (k.map kV))/\r=qQ c k
def Gp(H:Hp)(a:Addr)(y v:V)(d:Hp):Prop:=
 (∃c k,H a=some (.dK c)/\y=kV k/\c.length<sizeLine/\d=upd H a (.dK (putK c k v)))∨
 ∃c k b,H a=some (.dT c)/\y=.ref b/\H b=some (.tup (k.map kV))/\c.length<sizeLine/\d=upd H a (.dT (putK c k v))
def Gb.k{H:Hp}{a:Addr}{b:List (Key×V)}{k:Key}(e:H a=some (.dK b)):Gb H a (kV k) (qQ b k):=.inl ⟨b,k,.inl e,rfl,rfl⟩
def Gp.k{H:Hp}{a:Addr}{b:List (Key×V)}{k:Key}{v:V}(e:H a=some (.dK b))(c:b.length<sizeLine):Gp H a (kV k) v (upd H a (.dK (putK b k v))):=.inl ⟨b,k,e,rfl,c,rfl⟩
section
variable{X:Cx}{pins:List (Addr×Obj)}{σ:St}{H:Hp}{s:Shared}{a:Addr}{y v:V}{u r:Value}{o:Option V}{A:Around}{E:Value->Shared->Prop}
def Inv.big(I:Inv X pins σ H s):sysModules<s.heap.objs.size:=by
 have h:mainGlobals<s.heap.objs.size:=(I.mod.glob.keeps I.bk).lt
 exact Nat.lt_trans (by decide) h
def Ff{Q:Value->Shared->Prop}(K:A.units+1<cLine)(I:Inv X pins σ H s)(g:Gb H a y (some v))(x:RelV y u)(h:∀f t,Inv X pins σ H t->RelV v f->Q f t):
  wpAny (model X.prog X.w) A (getItem (.ref a) u) Q E s:=by
 rcases g with⟨q,k,e,i,l⟩|⟨q,k,b,e,i,J,l⟩
 ·subst i
  obtain⟨z,C,B,c,m⟩:=HN I.hok e
  obtain⟨f,n,d⟩:=uY.some_of (v:=v) (o:=valueAt B k) (by rw[l];exact c.val k)
  exact wpAny_getItem_of (Ay x) m.mapOf n (h f _ (I.tok _) d)
 ·subst i
  cases (show u=Value.ref b from x)
  obtain⟨z,C,F,c,m⟩:=Hr I.hok e
  obtain⟨f,n,d⟩:=uY.some_of (v:=v) (o:=(atKey F k).map (·.2)) (by rw[l];exact c.val k)
  obtain⟨p,G,j⟩:=oQm.mp n
  refine wpAny_getItem_heap (tupleKind_room_in1 K) (C7 I.hok J) m G ?_
  rw[j]
  exact h f _ (I.tok _) d
def uh{h':Heap}{t':Nat}{c:HO}(I:Inv X pins σ H s)(d:Np (H a))(hs:Heap.SameBut a s.heap h')(he:∃q,h'.get? a=some q)(new:dh X.prog X.w (upd H a c) h' a c):
  Inv X pins σ (upd H a c) {s with heap:=h',toks:=t'}:=
 I.write (x:=a) (e:=a) d (.inl rfl) (λb q f z=>(hs.2 b f).trans z) he new
def v7{P:Program}{w:World}{e:Hp}{h':Heap}{b:List (Key×V)}{vs:List (Key×Value)}(z:b.length<=sizeLine)(hd:(a==sysModules)=false)(c:KV b vs)(d:h'.DictOf (bZ P w) a vs):
  dh P w e h' a (.dK b):=⟨z,hd,vs,c,d⟩
def F5{N:Hp}{Q:Unit->Shared->Prop}(Z:A.units+1<cLine)(I:Inv X pins σ H s)(g:Gp H a y v N)(L:RelV y u)(M:RelV v r)(h:∀K,Inv X pins σ N K->Q () K):
  wpAny (model X.prog X.w) A (setItem (.ref a) u r) Q E s:=by
 rcases g with⟨f,k,e,p,l,n⟩|⟨f,k,b,e,p,G,l,n⟩
 ·subst p n
  obtain⟨z,t,R,d,B⟩:=D1 I.hok e
  have x:R.length<=sizeLine:=by rw[←d.length];exact z
  have C:(putK f k v).length<=sizeLine:=by have:=jo f k v;omega
  refine wpAny_setItem_pairs (hsz:=x) (Ay L) B λF i m=>h _ ?_
  have S:∃q,F.get? a=some q:=let ⟨q,_,_,j,_⟩:=i;⟨q,j⟩
  exact uh I (by rw[e];exact True.intro) m S (v7 C t (d.put k M) i)
 ·subst p n
  cases (show u=Value.ref b from L)
  obtain⟨z,t,U,d,B⟩:=N7 I.hok e
  have x:U.length<=sizeLine:=by rw[←Paired.length d];exact z
  have C:(putK f k v).length<=sizeLine:=by have:=jo f k v;omega
  refine wpAny_setItem_heap (hsz:=x) (tupleKind_room_in1 Z) (C7 I.hok G) B λF i m=>h _ ?_
  obtain⟨q,es,W,j,h2,h3,Y,_,P⟩:=i
  refine uh I (by rw[e];exact True.intro) m ⟨q,j⟩ ⟨C,t,_,(d.put k G M).keeps λc ys J=> ?_,q,es,W,j,h2,h3,Y,P⟩
  rw[bt (GH J e (λz=>nomatch z))]
  exact J
end
def I0(i:Expr):Prop:=∀b a,subscripted i false b a=operate [b,a] (getItem b a)
def EL{prog:Program}{w:World}{A:Around}{E:Value->Shared->Prop}{s:Shared}{env:Env}{b a:Expr}{pos:Pos}{T id:String}{Q:Value->Shared->Prop}
  (m:typeLookup (.type T) "__getitem__"=pure (some (.builtin id))) (hs:I0 a)
  (h:wpAny (model prog w) A (eval b env) (λo f=>wpAny (model prog w) A (eval a env) (λi c=>c.TypeIs o T/\wpAny (model prog w) A (getItem o i) Q E c) E f) E s):
  wpAny (model prog w) A (eval (.Subscript b a pos) env) Q E s:=by
 refine Subscript_ (QRq h (λo f k=>QRq k (λi c d=> ?_) λ_ _ x=>x) λ_ _ x=>x)
 obtain⟨l,d⟩:=d
 unfold subscriptTail
 refine Qaq ?_
 rw[getitemInPython_of_ne l.not_modules]
 refine Qaq (wpAny_specialOf l m ?_)
 have g:wpAny (model prog w) A (subscripted a false o i) (λr e=>wpAny (model prog w) A (letTemporaryGo b o r >>= λ_=>pure r) Q E e) E c:=by
  rw[hs o i]
  exact wpAny_operating (QRq d (λr e j=>Qaq (wpAny_letTemporaryGo (Qgq j))) λ_ _ x=>x)
 first
  |exact Qgq (Qaq g)
  |exact Qaq (Qgq (Qaq g))
  |exact Qaq g
def BB{X:Cx}{c:List (Addr×Obj)}{h:St}{H:Hp}{s:Shared}{a:Addr}{y:V}{o:Option V}(I:Inv X c h H s)(g:Gb H a y o):s.TypeIs (.ref a) "dict":=by
 rcases g with⟨f,k,e,_,_⟩|⟨f,k,b,e,_,_,_⟩
 ·obtain⟨_,_,j,_,d⟩:=HN I.hok e
  exact d.typeIs
 ·obtain⟨_,_,i,_,d⟩:=Hr I.hok e
  exact d.typeIs
def Nq(d c:TE):TE:=λb H Q=>d b H λx H1=>c b H1 λy H2=>∃a v,x=.ref a/\Gb H2 a y (some v)/\Q v H2
def MZ(e d c:TE):TS:=λD b H=>c b H λv H1=>e b H1 λx H2=>d b H2 λy H3=>∃a H4,x=.ref a/\Gp H3 a y v H4/\D.nx b H4
section
variable{X:Cx}{o i e value:Expr}{pos pos' tpos:Pos}{td ty tv:TE}
def Kn(n:X.A.units+1<cLine)(t:PE X o td)(hi:PE X i ty)(hs:I0 i):PE X (.Subscript o i pos) (Nq td ty):=by
 intro b s f H Q I h
 refine EL PySem.F.slot_dict_getitem.lookup hs (cX (t b s f H _ I h) λu z ⟨x,H1,j,m,r⟩=>cX (hi b z f H1 _ j r) λC G l=> ?_)
 obtain⟨y,H2,d,w,a,v,k,g,p⟩:=l
 subst k
 obtain rfl:u=Value.ref a:=m
 exact⟨BB d g,Ff n d g w λJ B q c=>⟨v,H2,q,c,p⟩⟩
def Jp(m:X.A.units+1<cLine)(z:PE X o td)(hi:PE X i ty)(k:PE X value tv)(hs:swapsWith value (some (.Subscript o i pos')) pos.line X.env=pure false):
  PS X (.Assign [.Subscript o i pos'] value pos) (MZ td ty tv):=by
 intro b s c H D I h
 refine wpAny_Assign_Subscript (cX (k b s c H _ I h) λr F ⟨v,H1,d,G,w⟩=>cX (z b F c H1 _ d w) λu B ⟨x,H2,t,j,n⟩=>cX (hi b B c H2 _ t n) λK J ⟨y,H3,q,C,a,H4,f,g,p⟩=> ?_) hs
 subst f
 obtain rfl:u=Value.ref a:=j
 exact F5 m q g C G λL l=>⟨c,H4,l,p⟩
end
def GP{P:Program}{w:World}{H:Hp}(h:Heap)(a:sysModules<h.objs.size):dh P w H (h.push {cls:=.type "dict",data:=.dict #[]}) h.objs.size (.dK []):=
 ⟨Nat.zero_le _,beq_eq_false_iff_ne.mpr (Ne.symm (Qwq a)),[],.nil,Heap.DictOf.new h⟩
def Ml:TE:=λ_ H Q=>∀p,H p=none->Q (.ref p) (upd H p (.dK []))
section
variable{X:Cx}{pos:Pos}
def GN:PE X (.Dict [] [] pos) Ml:=λb s c H Q I h=>
 wpAny_Dict_empty ⟨.ref s.heap.objs.size,_,I.laid (a:=s.heap.objs.size) (o:=.dK []) (t':=s.toks) (λ_ _ q=>Qcq _ q) (Qmq _) (GP s.heap I.big),rfl,h _ (I.hok.fresh (Qmq _))⟩
end
def kG(b more:List (Key×V)):List (Key×V):=more.foldl (λa c=>putK a c.1 c.2) b
def KV.merge:∀{more:List (Key×V)} {rs:List (Key×Value)} {a:List (Key×V)} {vs:List (Key×Value)},KV more rs->KV a vs->KV (kG a more) (merged vs rs):=by
 intro more rs a vs r
 unfold KV at r
 induction r generalizing a vs with
 |nil=>intro q;exact q
 | @cons p q ps qs h t ih=>
   intro b
   have e:KV (putK a p.1 p.2) (stored vs q.1 q.2):=by
     have:=b.put p.1 h.2
     rw[←h.1];exact this
   exact ih e
theorem jz:∀(more a:List (Key×V)),(kG a more).length<=a.length+more.length
 | [],a=>by show a.length<=a.length+0;omega
 | p::r,a=>by
   have b:=jz r (putK a p.1 p.2)
   have c:=jo a p.1 p.2
   show(kG (putK a p.1 p.2) r).length<=_
   rw[Qnq];omega
end L2
namespace HT
open PySem PyProof.Rows
section
open PySem.SeqAt
open PySem.AutoSeq1 (wpAny_loadPart')
open PySem.MeetsSeq PySem.MeetsSeq2 PySem.MeetsSeq3
end
section
variable{prog:Program}{w:World}{A:Around}{E:Value->Shared->Prop}{s:Shared}
def Jy{t b:Addr}{vs ws:List Value}{Q:Value->Shared->Prop}(ht:IsTup s.heap t vs.toArray)(x:IsTup s.heap b ws.toArray)(p:vs≠[])
  (u:ws= []->Q (.ref t) s) (v:ws≠[]->Q (.ref s.heap.objs.size) {s with heap:=s.heap.push {cls:=.type "tuple",data:=.seq (vs++ws).toArray}})
  (hsz:vs.length+ws.length<=sizeLine):wpAny (model prog w) A (binaryOp .Add (.ref t) (.ref b)) Q E s:=by
 obtain⟨⟨cls,q,data,k⟩,i,r,n,m⟩:=id ht
 obtain⟨⟨o,d,j,g⟩,a,c,l,f⟩:=id x
 simp only at r m c f
 subst r m c f
 have e:vs.toArray++ws.toArray=(vs++ws).toArray:=by simp
 by_cases h:ws= []
 ·exact concat_meets ⟨_,i,rfl⟩ ⟨_,a,rfl⟩ noFill_tuple_add seq_tuple_add PySem.F.slot_tuple_add PySem.F.entry_tuple_add (PySem.F.args_tuple_add_2 _ _)
   (tuple_addW1 t b vs.toArray ws.toArray n l q d k g (by simpa using p) (by simp[h])) ⟨i,a,u h⟩
 ·refine concat_meets ⟨_,i,rfl⟩ ⟨_,a,rfl⟩ noFill_tuple_add seq_tuple_add PySem.F.slot_tuple_add PySem.F.entry_tuple_add (PySem.F.args_tuple_add_2 _ _)
   (tuple_addW2 t b vs.toArray ws.toArray n l q d k g (by simpa using p) (by simpa using h) (by rw[Qjq,Qjq];exact hsz)) ⟨i,a,?_⟩
  rw[e]
  exact v h
def fI(n d:Nat):Option Int->Nat
 |none=>d
 |some v=>if v<0 then(v+(n:Int)).toNat else min v.toNat n
def vM(n d:Nat):fI n d none=d:=rfl
def Es(n d k:Nat):fI n d (some (k:Int))=min k n:=by
 show(if (k:Int)<0 then((k:Int)+(n:Int)).toNat else min (k:Int).toNat n)=min k n
 rw[Quq (by omega),Int.toNat_natCast]
def L6(n d:Nat)(hd:d<=n)(o:Option Int):fI n d o<=n:=by
 cases o with
 |none=>exact hd
 | some v=>
   show(if v<0 then(v+(n:Int)).toNat else min v.toNat n)<=n
   by_cases a:v<0
   · rw[Qhq a];omega
   · rw[Quq a];exact Nat.min_le_right _ _
def Eb(v:Int)(n d:Nat):(if v<0 then max (v+(n:Int)) 0 else min v (n:Int))=((fI n d (some v):Nat):Int):=by
 show(if v<0 then max (v+(n:Int)) 0 else min v (n:Int))=(((if v<0 then(v+(n:Int)).toNat else min v.toNat n):Nat):Int)
 by_cases a:v<0
 ·simp only[Qhq a];omega
 ·simp only[Quq a];omega
def Cg(lo hi:Option Int)(n:Nat):Builtin.Slice.sliceAdjust lo hi 1 (n:Int)=(((fI n 0 lo:Nat):Int),((fI n n hi:Nat):Int)):=by
 have a:¬((1:Int)<0):=by omega
 unfold Builtin.Slice.sliceAdjust
 simp only[a,if_false]
 refine Prod.ext ?_ ?_
 ·cases lo with
  |none=>rfl
  |some v=>exact Eb v n 0
 ·cases hi with
  |none=>rfl
  |some v=>exact Eb v n n
def De(i j:Nat):Builtin.Slice.slicePlaces (i:Int) (j:Int) 1=j-i:=by
 unfold Builtin.Slice.slicePlaces
 have a:(1:Int)>0:=by omega
 simp only[a,if_true,Int.ediv_one]
 split <;>omega
def uG{v:Value}{o:Option Int}{Q:Option Int->Shared->Prop}(p:IsPart v o)(h:Q o s):wpAny (model prog w) A (Builtin.Slice.slicePartIndex v) Q E s:=by
 cases p with
 |none=>exact slicePart_none h
 |int i t=>exact slicePart_int h
def jM{e:Addr}{c d:Value}{lo hi:Option Int}{n:Nat}{Q:Int×Int×Nat->Shared->Prop}(hs:s.heap.IsSliceOf e c d .none)(g:IsPart c lo)(i:IsPart d hi)
  (h:Q (((fI n 0 lo:Nat):Int),1,fI n n hi-fI n 0 lo) s):wpAny (model prog w) A (Builtin.Slice.sliceApplied (.ref e) (pure (n:Int))) Q E s:=by
 obtain⟨j,a,f,b⟩:=id hs
 unfold Builtin.Slice.sliceApplied Builtin.Slice.sliceFields
 refine Qaq (Qaq (QMq a b (x:=c) rfl (Qaq (QMq a b (x:=d) rfl (Qaq (QMq a b (x:=.none) rfl (Qgq ?_)))))))
 refine Qaq (slicePart_none ?_)
 show wpAny _ _ (if ((1:Int)==0)=true then _ else _) _ _ s
 rw[Quq (by decide)]
 refine Qaq (uG g (Qaq (uG i (Qaq (Qgq ?_)))))
 show wpAny _ _ (match Builtin.Slice.sliceAdjust lo hi 1 (n:Int) with|(lo,hi)=>pure (lo,(1:Int),Builtin.Slice.slicePlaces lo hi 1)) _ _ s
 rw[Cg lo hi n]
 show wpAny _ _ (pure (((fI n 0 lo:Nat):Int),(1:Int),Builtin.Slice.slicePlaces ((fI n 0 lo:Nat):Int) ((fI n n hi:Nat):Int) 1)) _ _ s
 rw[De]
 exact Qgq h
def IG(xs:Array Value)(i k:Nat):((List.range k).filterMap λ(m:Nat)=>xs[((i:Int)+(m:Int)*1).toNat]?).toArray=((xs.toList.drop i).take k).toArray:=by
 have e:(λ(m:Nat)=>xs[((i:Int)+(m:Int)*1).toNat]?)=λm=>xs[i+m]? :=by
  funext m
  have:((i:Int)+(m:Int)*1).toNat=i+m:=by omega
  rw[this]
 rw[e]
 have:=pick_run xs i k
 rw[List.filterMap_map] at this
 have a:((λx=>xs[x]?)∘λx=>i+x)=λm=>xs[i+m]? :=rfl
 rw[a] at this
 rw[this]
def qD{t b:Addr}{items:Array Value}{i g:Value}{lo hi:Option Int}{Q:Value->Shared->Prop}(ht:IsTup s.heap t items)(hs:s.heap.IsSliceOf b i g .none)(k:IsPart i lo)(l:IsPart g hi)
  (o:¬(fI items.size 0 lo=0/\fI items.size items.size hi=items.size))
  (h:Q (.ref s.heap.objs.size) {s with heap:=s.heap.push {cls:=.type "tuple",data:=.seq ((items.toList.drop (fI items.size 0 lo)).take (fI items.size items.size hi-fI items.size 0 lo)).toArray}})
  (hsz:items.size<=sizeLine):wpAny (model prog w) A (getItem (.ref t) (.ref b)) Q E s:=by
 have a:sizeOk (.seq ((items.toList.drop (fI items.size 0 lo)).take (fI items.size items.size hi-fI items.size 0 lo)).toArray):=by
  show((items.toList.drop (fI items.size 0 lo)).take (fI items.size items.size hi-fI items.size 0 lo)).toArray.size<=sizeLine
  rw[Qjq,Qxq,List.length_drop,Array.length_toList]
  omega
 have p:fI items.size items.size hi<=items.size:=L6 _ _ (Qmq _) hi
 obtain⟨n,d,c,j⟩:=id hs
 have f:s.TypeIs (.ref b) "slice":=⟨n,d,c⟩
 unfold getItem
 try with_reducible refine QLq ?_
 first|refine Qaq (Qgq ?_)|skip
 refine Qaq (wpAny_sequenceKey ht.typeIs (by decide) ?_)
 refine Qaq (QiQ (name:=Str.ofString "__getitem__") ht.typeIs PyProof.Rows.slot_tuple_getitem
  (wpAny_call_entry PyProof.Rows.slot_tuple_getitem ht.typeIs entry_tuple_getitem ?_ (args_tuple_getitem _ _)))
 show wpAny _ _ (Builtin.Tuple.tupleItemsOf (.ref t) >>= _) _ _ s
 refine Qaq (tupleItemsOf_ ht ?_)
 refine Qaq (wpAny_typeOf f ?_)
 rw[Qhq (by decide)]
 refine Qaq (jM hs k l ?_)
 have e:¬((((fI items.size 0 lo:Nat):Int)==0&&(1:Int)==1&&(fI items.size items.size hi-fI items.size 0 lo)==items.size)=true):=by
  intro q
  rw[QCq,QCq] at q
  have u:((fI items.size 0 lo:Nat):Int)=0:=eq_of_beq q.1.1
  have r:fI items.size items.size hi-fI items.size 0 lo=items.size:=eq_of_beq q.2
  exact o ⟨by omega,by omega⟩
 show wpAny _ _ (if (((fI items.size 0 lo:Nat):Int)==0&&(1:Int)==1&&(fI items.size items.size hi-fI items.size 0 lo)==items.size)=true then _ else _) _ _ s
 rw[Quq e,IG]
 first
  |exact Qaq (m:=Builtin.Tuple.tupleExact _) (QhQ (Qgq ⟨_,rfl,Qgq h⟩) a)
  |exact Qaq (m:=Builtin.Tuple.tupleExact _) (QhQ (Qaq (Qgq (Qgq ⟨_,rfl,Qgq h⟩))) a)
  |exact Qaq (Qaq (m:=Builtin.Tuple.tupleExact _) (QhQ (Qgq (Qgq ⟨_,rfl,Qgq h⟩)) a))
  |exact Qaq (Qaq (m:=Builtin.Tuple.tupleExact _) (QhQ (Qgq ⟨_,rfl,Qgq h⟩) a))
end
end HT
namespace L2
open PySem PySem.Spec PyProof.Rows
abbrev TO:=St->Hp->(Option Int->Hp->Prop)->Prop
def PO(X:Cx)(e:Option Expr)(t:TO):Prop:=
 ∀ (a:List (Addr×Obj)) (s:Shared) (b:St) (H:Hp) (Q:Option Int->Hp->Prop),Inv X a b H s->t b H Q→
   wpAny (model X.prog X.w) X.A (evalPart e X.env) (λu d=>∃o c,Inv X a b c d/\IsPart u o/\Q o c) X.xe s
def Jb:TO:=λ_ H Q=>Q none H
def MW(t:TE):TO:=λa H Q=>t a H λx H1=>∃i,x=.int i/\Q (some i) H1
section
variable{X:Cx}{e:Expr}{te:TE}{lo hi:Option Expr}{tl th:TO}{pos p2:Pos}
def J9:PO X none Jb:=by
 intro a s b H Q I h
 rw[evalPart_none]
 exact Qgq ⟨none,H,I,.none,h⟩
def Kk(h:PE X e te):PO X (some e) (MW te):=by
 intro a s c H Q I d
 rw[evalPart_some]
 refine cX (h a s c H _ I d) λu k b=> ?_
 obtain⟨x,H1,f,g,j⟩:=b
 obtain⟨i,rfl,q⟩:=j
 obtain⟨t,rfl⟩:=g
 exact⟨some i,H1,f,.int i t,q⟩
def Pm(X:Cx)(r:V->Option Int->Option Int->Hp->VK->Prop):Prop:=
 ∀ (a:List (Addr×Obj)) (s:Shared) (b:St) (H:Hp) (x:V) (v d f:Value) (lo hi:Option Int) (c:Addr) (Q:VK),Inv X a b H s->RelV x v->s.heap.IsSliceOf c d f .none->IsPart d lo->IsPart f hi->r x lo hi H Q→
   ∃T id,typeLookup (.type T) "__getitem__"=pure (some (.builtin id))/\s.TypeIs v T/\wpAny (model X.prog X.w) X.A (getItem v (.ref c)) (EP X a b Q) X.xe s
def QY(r:V->Option Int->Option Int->Hp->VK->Prop)(te:TE)(tl th:TO):TE:=λa H Q=>te a H λx H1=>tl a H1 λl H2=>th a H2 λu H3=>r x l u H3 Q
def G3{r:V->Option Int->Option Int->Hp->VK->Prop}(G:Pm X r)(he:PE X e te)(K:PO X lo tl)(o:PO X hi th):PE X (.Subscript e (.Slice lo hi none p2) pos) (QY r te tl th):=by
 intro a s d H Q I h
 refine Subscript_ (cX (he a s d H _ I h) λv J i=> ?_)
 obtain⟨x,H1,j,y,C⟩:=i
 refine wpAny_Slice (cX (K a J d H1 _ j C) λg F ⟨l,H2,z,k,p⟩=>cX (o a F d H2 _ z p) λf c i=> ?_)
 obtain⟨u,H3,B,m,t⟩:=i
 rw[evalPart_none]
 refine Qgq ?_
 have n:Inv X a d H3 {c with heap:=c.heap.push {cls:=.type "slice",data:=.fields #[g,f,.none]}}:=B.kept (t':=c.toks) λb L q=>Qcq _ q
 obtain⟨T,id,hT,ht,hg⟩:=G a {c with heap:=c.heap.push {cls:=.type "slice",data:=.fields #[g,f,.none]}} d H3 x v g f l u c.heap.objs.size Q n y (Heap.IsSliceOf.new ..) k m t
 show wpAny (model X.prog X.w) X.A (subscriptTail e (.Slice lo hi none p2) v (.ref c.heap.objs.size)) (EP X a d Q) X.xe {c with heap:=c.heap.push {cls:=.type "slice",data:=.fields #[g,f,.none]}}
 exact tail_any (ops:= [.ref c.heap.objs.size,v]) ht hT hg (by with_unfolding_all rfl)
def DE(xs:List V)(lo hi:Option Int):List V:=(xs.drop (HT.fI xs.length 0 lo)).take (HT.fI xs.length xs.length hi-HT.fI xs.length 0 lo)
def B8(xs:List V)(lo hi:Option Int):(DE xs lo hi).length<=xs.length:=by
 unfold DE
 rw[Qxq,List.length_drop]
 omega
def OT(K:PySem.W.Frag):V->Option Int->Option Int->Hp->VK->Prop:=λx lo hi H Q=>∃a b,x=.ref a/\jj K H a b∧
 ¬(HT.fI b.length 0 lo=0/\HT.fI b.length b.length hi=b.length)/\∀p,H p=none->Q (.ref p) (upd H p (.tup (DE b lo hi)))
def K5:Pm X (OT X.K):=by
 intro j s y H x v w u lo hi p Q I n k l m h
 obtain⟨a,d,rfl,hx,hw,q⟩:=h
 cases n
 obtain⟨f,r,g,i⟩:=I.tuple hx
 have c:f.toArray.size=d.length:=by rw[Qjq];exact r.length.symm
 refine⟨"tuple",_,PyProof.Rows.slot_tuple_getitem.lookup,g.typeIs,?_⟩
 refine HT.qD g k l m (by rw[c];exact hw) ?_ (by rw[c];exact i)
 rw[c]
 refine⟨.ref s.heap.objs.size,_,I.laid (t':=s.toks) (o:=.tup (DE d lo hi)) (λb t q=>Qcq _ q) (Qmq _) ?_,rfl,q _ (I.hok.fresh (Qmq _))⟩
 exact⟨QAq (B8 d lo hi) i,_,(r.drop (HT.fI d.length 0 lo)).take (HT.fI d.length d.length hi-HT.fI d.length 0 lo),A7.new _ _⟩
def KM(K:PySem.W.Frag):R2:=λx y H Q=>∃a b d c,x=.ref a/\y=.ref b/\jj K H a d/\jj K H b c/\d≠[]/\d.length+c.length<=sizeLine∧
 (c= []->Q (.ref a) H)/\(c≠[]->∀p,H p=none->Q (.ref p) (upd H p (.tup (d++c))))
def bG.nil_iff{xs:List V}{a:List Value}(r:bG xs a):a= []↔xs= []:=by
 cases r with
 |nil=>simp
 |cons _ _=>simp
def Jx:lD X (binaryOp .Add) (KM X.K):=by
 intro g s r H x y v u Q I k m h
 obtain⟨a,b,i,n,rfl,rfl,ha,hb,hx,hz,q1,q2⟩:=h
 cases k
 cases m
 obtain⟨j,d,l,_⟩:=I.tuple ha
 obtain⟨f,c,p2,_⟩:=I.tuple hb
 refine HT.Jy l p2 (λz=>hx (d.nil_iff.mp z)) (λz=>⟨.ref a,H,I,rfl,q1 (c.nil_iff.mp z)⟩) (λz=> ?_) (by rw[←d.length,←c.length];exact hz)
 refine⟨.ref s.heap.objs.size,_,I.laid (t':=s.toks) (o:=.tup (i++n)) (λb p q=>Qcq _ q) (Qmq _) ?_,rfl,q2 (λw=>z (c.nil_iff.mpr w)) _ (I.hok.fresh (Qmq _))⟩
 exact⟨by rw[lQa];exact hz,_,d.append c,A7.new _ _⟩
end
def CD(n:Nat)(i:Int):Option Nat:=if 0<=i then(if i<n then some i.toNat else none) else if -(n:Int)<=i then some (i+n).toNat else none
def kQ{α:Type}(xs:List α)(i:Int):Option α:=(CD xs.length i).bind λj=>xs[j]?
def z_{n:Nat}{i:Int}{j:Nat}(h:CD n i=some j):seqIndex? i n=some j/\j<n/\ -(n:Int)<=i/\i<n:=by
 unfold CD at h
 by_cases b:0<=i
 ·rw[Qhq b] at h
  by_cases a:i<n
  ·rw[Qhq a] at h
   have e:i.toNat=j:=QdQ h
   exact⟨by rw[seqIndex_of b a,e],by omega,by omega,a⟩
  ·rw[Quq a] at h;cases h
 ·rw[Quq b] at h
  by_cases a: -(n:Int)<=i
  ·rw[Qhq a] at h
   have e:(i+n).toNat=j:=QdQ h
   exact⟨by rw[seqIndex_neg (by omega) a,e],by omega,a,by omega⟩
  ·rw[Quq a] at h;cases h
def y9{α:Type}{xs:List α}{i:Int}{v:α}(h:kQ xs i=some v):∃j,seqIndex? i xs.length=some j/\xs[j]?=some v/\j<xs.length/\ -(xs.length:Int)<=i/\i<xs.length:=by
 unfold kQ at h
 cases e:CD xs.length i with
 |none=>rw[e] at h;cases h
 | some j=>
   rw[e] at h
   obtain⟨a,b,d,c⟩:=z_ e
   exact⟨j,a,h,b,d,c⟩
def D8(b:Expr):Prop:=∀o i,subscripted b false o i=operate [o,i] (getItem o i)
def Km(X:Cx)(r:R2):Prop:=
 ∀ (c a:Expr) (b:List (Addr×Obj)) (s:Shared) (d:St) (H:Hp) (x y:V) (v u:Value) (Q:VK),Inv X b d H s->RelV x v->RelV y u->r x y H Q→
   subscripted a false v u=operate [v,u] (getItem v u)->wpAny (model X.prog X.w) X.A (subscriptTail c a v u) (EP X b d Q) X.xe s
def OJ(X:Cx)(id:String)(r:V->List V->Hp->VK->Prop):Prop:=
 ∀ (a:List (Addr×Obj)) (s:Shared) (b:St) (H:Hp) (x:V) (c:List V) (v:Value) (d:List Value) (Q:VK),Inv X a b H s->RelV x v->bG c d->r x c H Q→
   wpAny (model X.prog X.w) X.A (call (.builtin id) (v::d)) (EP X a b Q) X.xe s
section
variable{X:Cx}{a b:Expr}{ta tb:TE}{pos:Pos}
def Km.or{r r':R2}(h:Km X r)(h':Km X r'):Km X (λx y H Q=>r x y H Q\/r' x y H Q):=by
 intro c d e s i H x y v u Q I g j q f
 rcases q with q|q
 ·exact h c d e s i H x y v u Q I g j q f
 ·exact h' c d e s i H x y v u Q I g j q f
def MT{r:R2}(l:Km X r)(f:PE X a ta)(j:PE X b tb)(hs:D8 b):PE X (.Subscript a b pos) (IT r ta tb):=by
 intro c s g H Q I h
 exact Subscript_ (Ms f j I h λv u i x y H2 e d k q=>l a b c i g H2 x y v u Q e d k q (hs _ _))
def Oh(K:PySem.W.Frag):R2:=λx y H Q=>∃p c i v,x=.ref p/\y=.int i/\i7 K H p c/\kQ c i=some v/\Q v H
def Nm(K:PySem.W.Frag):R2:=λx y H Q=>∃p c i v,x=.ref p/\y=.int i/\jj K H p c/\kQ c i=some v/\Q v H
def MY:R2:=λx y H Q=>∃z i c,x=.str z/\y=.int i/\z.length<=sizeLine/\kQ z.cps.toList i=some c/\Q (.str ⟨#[c]⟩) H
def Kp:Km X (Oh X.K):=by
 intro l m c s B H x y v u Q I G N h o
 obtain⟨p,S,i,z,rfl,rfl,hq,he,q⟩:=h
 cases G
 obtain⟨t,rfl⟩:=N
 obtain⟨g,r,f,U⟩:=I.list hq
 obtain⟨j,e,M,W,J,F⟩:=y9 he
 obtain⟨w,C,n⟩:=r.get M
 have P:=r.length
 have R:=mW
 have d:EP X c B Q w s:=⟨z,H,I,n,q⟩
 by_cases A:0<=i
 ·have k:i.toNat=j:=by
   rw[seqIndex_of A F] at e
   exact QdQ e
  exact item_listR f.isList A (by omega) (by rw[k];simpa using C) d o
 ·have k:(i+(g.toArray.size:Int)).toNat=j:=by
   rw[seqIndex_neg (by omega) J] at e
   rw[Qjq,←P]
   exact QdQ e
  exact subscriptTail_builtinR (x:=w) f.isList.typeIs slot_list_getitem.lookup
   (wpAny_getItem_list_neg (Q:=λr L=>r=w/\EP X c B Q r L) f.isList (by omega) (by rw[Qjq] <;>omega) (by omega) (by rw[k];simpa using C) ⟨rfl,d⟩) o
def Lu:Km X (Nm X.K):=by
 intro d e c s l H x y v u Q I A G h m
 obtain⟨p,N,i,z,rfl,rfl,hq,he,q⟩:=h
 cases A
 obtain⟨t,rfl⟩:=G
 obtain⟨o,r,k,P⟩:=I.tuple hq
 obtain⟨j,n,C,S,R,L⟩:=y9 he
 obtain⟨w,F,f⟩:=r.get C
 have J:=r.length
 have M:=mW
 have g:EP X c l Q w s:=⟨z,H,I,f,q⟩
 exact subscriptTail_builtinR (x:=w) k.typeIs slot_tuple_getitem.lookup
  (getItem_tuple (j:=j) (Q:=λr B=>r=w/\EP X c l Q r B) k (by omega) (by omega) (by rw[Qjq,←J];exact n) (by simpa using F) ⟨rfl,g⟩) m
def K4:Km X MY:=by
 intro d e g s F H x y v u Q I n w h k
 obtain⟨z,i,c,rfl,rfl,hz,he,q⟩:=h
 obtain⟨t,rfl⟩:=n
 obtain⟨C,rfl⟩:=w
 obtain⟨j,f,r,G,o,l⟩:=y9 he
 have A:z.cps.toList.length=z.length:=by simp[Str.length]
 rw[A] at f o l
 have B:=mW
 exact tail_any (typeIs_str s z t) slot_str_getitem.lookup (getItem_str (c:=c) (by
  have p:decide (i< -(2^63:Int))=false:=Qdq (by omega)
  have m:decide (i>=2^63)=false:=Qdq (by omega)
  rw[p,m,Bool.or_false]) (by rw[f];simpa using r) ⟨.str ⟨#[c]⟩,H,I.tok _,⟨_,rfl⟩,q⟩) k
def QL(K:PySem.W.Frag):R2:=λx y H Q=>Oh K x y H Q\/Nm K x y H Q\/MY x y H Q
def Me:Km X (QL X.K):=Kp.or (Lu.or K4)
def CZ(c:List Value)(n j:Nat)(u:Value):Obj.mapSeq (·.setIfInBounds j u) {cls:=.type "list",data:=.seq c.toArray n}={cls:=.type "list",data:=.seq (c.set j u).toArray n}:=by
 simp[Obj.mapSeq]
def Inv.lst{d:List (Addr×Obj)}{f:St}{H:Hp}{s:Shared}{p:Addr}{xs:List V}(I:Inv X d f H s)(h:H p=some (.lst xs)):
  ∃(c:List Value) (n:Nat),bG xs c/\s.heap.get? p=some {cls:=.type "list",data:=.seq c.toArray n}/\xs.length<=sizeLine:=by
 obtain⟨z,c,n,r,e⟩:=I.hok p _ h
 exact⟨c,n,r,e,z⟩
def Inv.lstUpd{c:List (Addr×Obj)}{i:St}{H:Hp}{s:Shared}{p:Addr}{xs ys:List V}{d its':List Value}{n g:Nat}{f:Obj->Obj}(I:Inv X c i H s)(h:H p=some (.lst xs))
  (k:s.heap.get? p=some {cls:=.type "list",data:=.seq d.toArray n}) (j:f {cls:=.type "list",data:=.seq d.toArray n}={cls:=.type "list",data:=.seq its'.toArray g}) (r:bG ys its') (hz:ys.length<=sizeLine) (t:Nat):
  Inv X c i (upd H p (.lst ys)) {s with heap:=s.heap.update p f,toks:=t}:=by
 have e:(s.heap.update p f).get? p=some {cls:=.type "list",data:=.seq its'.toArray g}:=by
  rw[Heap.get?_update_self f k (by rw[j] <;>rfl),j]
 refine I.write (x:=p) (e:=p) (by rw[h];trivial) (.inl rfl) (λb u l q=>(Heap.get?_update_other _ _ (Ne.symm l)).trans q) ⟨_,e⟩ ?_
 exact⟨hz,its',g,r,e⟩
def KG:V->V->V->Hp->(Hp->Prop)->Prop:=λo i v H Q=>∃p c k j,o=.ref p/\i=.int k/\H p=some (.lst c)/\CD c.length k=some j/\Q (upd H p (.lst (c.set j v)))
def set_list:KZ X KG:=by
 intro d s F H o i v K L u Q I A z G h
 obtain⟨p,B,k,j,rfl,rfl,hp,hj,q⟩:=h
 cases A
 obtain⟨t,rfl⟩:=z
 obtain⟨c,n,r,g,C⟩:=I.lst hp
 obtain⟨e,M,x,w⟩:=z_ hj
 have l:=r.length
 have J:=mW
 have y:Inv X d F (upd H p (.lst (B.set j v))) {s with heap:=s.heap.update p (Obj.mapSeq (·.setIfInBounds j u))}:=
  I.lstUpd hp g (CZ c n j u) (r.set G j) (by rw[List.length_set];exact C) s.toks
 by_cases m:0<=k
 ·have f:k.toNat=j:=by
   rw[seqIndex_of m w] at e
   exact QdQ e
  exact PySem.W.ki_setAt g m (by omega) (by rw[Qjq,←l];exact w) (by rw[f];exact⟨_,y,q⟩)
 ·have f:(k+(c.toArray.size:Int)).toNat=j:=by
   rw[seqIndex_neg (by omega) x] at e
   rw[Qjq,←l]
   exact QdQ e
  exact PySem.W.ki_setBack g (by omega) (by rw[Qjq,←l];exact x) (by omega) (by rw[f];exact⟨_,y,q⟩)
def ie:V->Bool
 |.non=>true
 |.bl _=>true
 |.int _=>true
 |.str _=>true
 |_=>false
def ue:V->V->Bool
 |.non,.non=>true
 |.bl a,.bl b=>a==b
 |.bl a,.int b=>(if a then 1 else 0)==b
 |.int a,.bl b=>a==(if b then 1 else 0)
 |.int a,.int b=>a==b
 |.str a,.str b=>a==b
 |_,_=>false
def HE{A:Around}{s:Shared}{y x:V}{u v:Value}(f:RelV y u)(c:RelV x v)(g:ie y=true)(e:ie x=true):SeqAt.EqAt A s u v (ue y x):=by
 cases y with
 | non=>
   cases f
   cases x with
   |non=>cases c;exact SeqAt.EqAt.same _
   |bl b=>cases c;exact SeqAt.EqAt.none_bool b
   |int b=>obtain⟨t,rfl⟩:=c;exact SeqAt.EqAt.none_int b t
   |str b=>obtain⟨t,rfl⟩:=c;exact SeqAt.EqAt.none_str b t
   |_=>exact absurd (show false=true from e) Qtq
 | bl a=>
   cases f
   cases x with
   |non=>cases c;exact SeqAt.EqAt.bool_none a
   |bl b=>cases c;exact SeqAt.EqAt.bool_bool a b
   |int b=>obtain⟨t,rfl⟩:=c;exact SeqAt.EqAt.bool_int a b t
   |str b=>obtain⟨t,rfl⟩:=c;exact SeqAt.EqAt.bool_str a b t
   |_=>exact absurd (show false=true from e) Qtq
 | int a=>
   obtain⟨d,rfl⟩:=f
   cases x with
   |non=>cases c;exact SeqAt.EqAt.int_none a d
   |bl b=>cases c;exact SeqAt.EqAt.int_bool a d b
   |int b=>obtain⟨t,rfl⟩:=c;exact SeqAt.EqAt.int_int a d b t
   |str b=>obtain⟨t,rfl⟩:=c;exact SeqAt.EqAt.int_str a d b t
   |_=>exact absurd (show false=true from e) Qtq
 | str a=>
   obtain⟨d,rfl⟩:=f
   cases x with
   |non=>cases c;exact SeqAt.EqAt.str_none a d
   |bl b=>cases c;exact SeqAt.EqAt.str_bool a d b
   |int b=>obtain⟨t,rfl⟩:=c;exact SeqAt.EqAt.str_int a d b t
   |str b=>obtain⟨t,rfl⟩:=c;exact SeqAt.EqAt.str_str a d b t
   |_=>exact absurd (show false=true from e) Qtq
 |_=>exact absurd (show false=true from g) Qtq
def Cf(x:V)(u:Value):Bool:=match u with
 |.none=>ue .non x
 |.bool b=>ue (.bl b) x
 |.int i _=>ue (.int i) x
 |.str z _=>ue (.str z) x
 |_=>false
def y2{x y:V}{u:Value}(r:RelV y u)(f:ie y=true):Cf x u=ue y x:=by
 cases y with
 |non=>cases r;rfl
 |bl b=>cases r;rfl
 |int i=>obtain⟨t,rfl⟩:=r;rfl
 |str z=>obtain⟨t,rfl⟩:=r;rfl
 |_=>exact absurd (show false=true from f) Qtq
theorem pP{x:V}:∀{xs:List V} {c:List Value},bG xs c->xs.all ie=true->c.any (Cf x)=xs.any λy=>ue y x
 |_,_,.nil,_=>rfl
 | y::xs,u::c,.cons r t,f=>by
   rw[List.all_cons,QCq] at f
   rw[List.any_cons,List.any_cons,y2 r f.1,pP t f.2]
theorem jQ{A:Around}{s:Shared}{x:V}{v:Value}(g:RelV x v)(e:ie x=true):∀{xs:List V} {d:List Value},bG xs d->xs.all ie=true->∀u∈d,SeqAt.EqAt A s u v (Cf x u)
 |_,_,.nil,_=>λu c=>by cases c
 | y::xs,u::d,.cons r t,f=>λh c=>by
   rw[List.all_cons,QCq] at f
   rcases Qsq.mp c with rfl|c
   · rw[y2 r f.1];exact HE r g f.1 e
   · exact jQ g e t f.2 h c
def Ig(x:V)(xs:List V):Bool:=xs.any λy=>ue y x
def OA(K:PySem.W.Frag)(d:Bool):R2:=λx y H Q=>∃p c,y=.ref p/\(i7 K H p c\/jj K H p c)/\ie x=true/\c.all ie=true/\Q (.bl (if d then !Ig x c else Ig x c)) H
def xB:lD X (compareOp .In) (OA X.K false):=by
 intro i s m H x y v u Q I g k h
 obtain⟨p,l,rfl,d,fx,fs,q⟩:=h
 cases k
 rcases d with d|d
 ·obtain⟨c,r,e,j⟩:=I.list d
  refine SeqAt.in_listAt (Cf x) e.isList (λw f=>jQ g fx r fs w (by simpa using f)) ⟨.bl _,H,I,rfl,?_⟩
  rw[show c.toArray.any (Cf x)=c.any (Cf x) by simp,pP r fs]
  exact q
 ·obtain⟨c,r,e,j⟩:=I.tuple d
  refine SeqAt.in_tupleAt (Cf x) e (λw f=>jQ g fx r fs w (by simpa using f)) ⟨.bl _,H,I,rfl,?_⟩
  rw[show c.toArray.any (Cf x)=c.any (Cf x) by simp,pP r fs]
  exact q
def zm:lD X (compareOp .NotIn) (OA X.K true):=by
 intro i s m H x y v u Q I g k h
 obtain⟨p,l,rfl,d,fx,fs,q⟩:=h
 cases k
 rcases d with d|d
 ·obtain⟨c,r,e,j⟩:=I.list d
  refine SeqAt.notIn_listAt (Cf x) e.isList (λw f=>jQ g fx r fs w (by simpa using f)) ⟨.bl _,H,I,rfl,?_⟩
  rw[show c.toArray.any (Cf x)=c.any (Cf x) by simp,pP r fs]
  exact q
 ·obtain⟨c,r,e,j⟩:=I.tuple d
  refine SeqAt.notIn_tupleAt (Cf x) e (λw f=>jQ g fx r fs w (by simpa using f)) ⟨.bl _,H,I,rfl,?_⟩
  rw[show c.toArray.any (Cf x)=c.any (Cf x) by simp,pP r fs]
  exact q
def yx:jY X (.builtin "len") (λxs H Q=>∃p ys,xs= [.ref p]/\(i7 X.K H p ys\/jj X.K H p ys)/\Q (.int ys.length) H):=by
 intro i s m H xs l Q I r h
 obtain⟨p,ys,rfl,d,q⟩:=h
 obtain⟨u,rfl,rx⟩:=vals1 r
 cases rx
 have k:=mW
 rcases d with d|d
 ·obtain⟨g,e,f,j⟩:=I.list d
  have c:=e.length
  exact Calls.call_len_list f.isList (by simp only[Qjq] <;>omega) ⟨.int ys.length,H,I.tok _,⟨s.toks+1,by rw[Qjq,c]⟩,q⟩
 ·obtain⟨g,e,f,j⟩:=I.tuple d
  have c:=e.length
  exact len_tuple f (by simp only[Qjq] <;>omega) ⟨.int ys.length,H,I.tok _,⟨s.toks+1,by rw[Qjq,c]⟩,q⟩
def wV:jY X (.type "tuple") (λxs H Q=>∃p ys,xs= [.ref p]/\((i7 X.K H p ys/\∀l,H l=none->Q (.ref l) (upd H l (.tup ys)))\/(jj X.K H p ys/\Q (.ref p) H))):=by
 intro c s t H xs y Q I r h
 obtain⟨p,ys,rfl,h⟩:=h
 obtain⟨u,rfl,rx⟩:=vals1 r
 cases rx
 rcases h with⟨j,q⟩|⟨j,q⟩
 ·obtain⟨d,g,i,n⟩:=I.list j
  have m:=g.length
  refine call_tuple_list i.isList (λf v=> ?_) (by simp only[Qjq] <;>omega)
  have k:Inv X c t H {s with heap:=f}:=I.kept (t':=s.toks) v
  have x:Inv X c t (upd H f.objs.size (.tup ys)) {s with heap:=f.push {cls:=.type "tuple",data:=.seq d.toArray}}:=
   k.laid (t':=s.toks) (λb o e=>Qcq _ e) (Qmq _) (show dh X.prog X.w _ _ _ (.tup ys) from⟨n,d,g,A7.new _ _⟩)
  exact⟨.ref f.objs.size,_,x,rfl,q _ (k.hok.fresh (Qmq _))⟩
 ·obtain⟨d,g,i,n⟩:=I.tuple j
  exact call_tuple_same i ⟨.ref p,H,I,rfl,q⟩
def Pt(K:PySem.W.Frag)(T:String)(x:V)(H:Hp):Prop:=match x with
 |.str _=>T="str"
 |.int _=>T="int"
 |.ref p=>(T="list" /\∃d,i7 K H p d)\/(T="tuple" /\∃o,K.lookup p=some o/\o.cls=.type "tuple" /\o.dict=none)∨
   (T="dict" /\((∃c,H p=some (.dK c))\/∃c,H p=some (.dT c)))\/(T="set" /\∃S n,H p=some (.set S n))
 |_=>False
def Gu{g:List (Addr×Obj)}{w:St}{H:Hp}{s:Shared}{T:String}{x:V}{v:Value}(I:Inv X g w H s)(r:RelV x v)(h:Pt X.K T x H):
  s.TypeIs v T/\∀a,v=.ref a->∃q,s.heap.get? a=some q/\q.dict=none:=by
 cases x with
 | str z=>
   obtain⟨t,rfl⟩:=r
   cases (show T="str" from h)
   exact⟨typeIs_str s z t,λ_ e=>nomatch e⟩
 | int i=>
   obtain⟨t,rfl⟩:=r
   cases (show T="int" from h)
   exact⟨typeIs_int s i t,λ_ e=>nomatch e⟩
 | ref p=>
   cases r
   rcases h with⟨rfl,xs,hq⟩|⟨rfl,o,d,hc,k⟩|⟨rfl,d⟩|⟨rfl,S,n,d⟩
   · obtain⟨u,_,m,_⟩:=I.list hq
     refine⟨m.isList.typeIs,λa e=> ?_⟩
     cases e
     obtain⟨o,n,e,c,k,_⟩:=m
     exact⟨o,e,k⟩
   · refine⟨⟨o,I.kIn p o d,hc⟩,λa e=> ?_⟩
     cases e
     exact⟨o,I.kIn _ o d,k⟩
   · have z:∃o,s.heap.get? p=some o/\o.ExactDict:=by
       rcases d with⟨l,d⟩|⟨l,d⟩
       · obtain⟨_,_,_,_,o,_,_,e,f,_⟩:=I.hok p _ d
         exact⟨o,e,f⟩
       · obtain⟨_,_,_,_,o,_,_,e,f,_⟩:=I.hok p _ d
         exact⟨o,e,f⟩
     obtain⟨o,e,f⟩:=z
     refine⟨⟨o,e,f.1⟩,λa j=> ?_⟩
     cases j
     exact⟨o,e,f.2.1⟩
   · obtain⟨o,_,_,_,e,f,_⟩:=I.hok p _ d
     refine⟨⟨o,e,f.1⟩,λa j=> ?_⟩
     cases j
     exact⟨o,e,f.2.1⟩
 |_=>exact False.elim h
def Nh(K:PySem.W.Frag)(T:String)(r:V->List V->Hp->VK->Prop)(d:TE):TE:=λc H Q=>d c H λx H1=>Pt K T x H1/\r x [] H1 Q
def OC(K:PySem.W.Frag)(T:String)(r:V->List V->Hp->VK->Prop)(e:TE)(t:TA):TE:=λc H Q=>e c H λx H1=>Pt K T x H1/\t c H1 λd H2=>r x d H2 Q
variable{o e:Expr}{es:List Expr}{to:TE}{t:TA}{name:Str}{apos cpos:Pos}{T id:String}{r:V->List V->Hp->VK->Prop}
def GM(z:PlainAttrs T)(slot:Slot T name id)(g:typeOf (.builtin id)=pure (.type "method_descriptor"))(p:OJ X id r)(q:PE X o to)
  (d:attributeBase o name X.env (eval o X.env)=eval o X.env:=by rfl) (f:(apos.endLine==cpos.line)=true:=by rfl):PE X (.Call (.Attribute o name apos) [] [] cpos) (Nh X.K T r to):=by
 intro c s k H Q I h
 refine wpAny_Call_method0_late d f (cX (q c s k H _ I h) λv y m=> ?_)
 obtain⟨x,H1,i,j,w,n⟩:=m
 obtain⟨l,u⟩:=Gu i j w
 exact⟨T,id,z,slot,g,l,u,Calls.callWith_builtin rfl (PySem.evalArgs_none (p c y k H1 x [] v [] Q i j .nil n))⟩
def wb(P:PlainAttrs T)(slot:Slot T name id)(j:typeOf (.builtin id)=pure (.type "method_descriptor"))(B:OJ X id r)(F:PE X o to)(C:PA X (e::es) t)
  (f:attributeBase o name X.env (eval o X.env)=eval o X.env:=by rfl)
  (i:((backTo cpos (starEach (e::es) X.env)).all (λx=> !x.1)&&(backToKw cpos (keywordEach [] X.env)).all (λx=>x.1.isSome)
   &&decide ((e::es).length+([]:List Keyword).length+(if ([]:List Keyword).isEmpty then 0 else 1)<30))=true:=by rfl)
  (g:(apos.endLine==cpos.line)=true:=by rfl) (hs:starEach (e::es) X.env=(false,eval e X.env)::starEach es X.env:=by rfl) (d:(backTo cpos (starEach es X.env)).any (·.1)=false:=by rfl):
  PE X (.Call (.Attribute o name apos) (e::es) [] cpos) (OC X.K T r to t):=by
 intro c s k H Q I h
 refine wpAny_Call_method_late f i g rfl (cX (F c s k H _ I h) λv N u=> ?_)
 obtain⟨x,H1,l,m,L,A⟩:=u
 obtain⟨q,J⟩:=Gu l m L
 refine⟨T,id,P,slot,j,q,J,?_⟩
 have n:=C cpos c N k H1 _ l A
 rw[hs] at n⊢
 refine Calls.callWith_builtin (by show(false||(backTo cpos (starEach es X.env)).any (·.1))=false;rw[d] <;>rfl) (Calls.evalArgs_plain ?_)
 exact cX n λG M ⟨p,H2,z,y,w⟩=>B c M k H2 x p v G Q z m y w
end
def L_(X:Cx)(id:String)(r:V->List V->Hp->VK->Prop):Prop:=
 ∀ (a:List (Addr×Obj)) (s:Shared) (b:St) (H:Hp) (x:V) (c:List V) (v:Value) (d:List Value) (Q:VK),Inv X a b H s->RelV x v->bG c d->r x c H Q→
   wpAny (model X.prog X.w) X.A (call (.builtin id) (v::d)) (EP X a b Q) X.xe s
def bG.one:∀{x:V} {a:List Value},bG [x] a->∃u,a= [u]/\RelV x u
 |_,_,.cons r .nil=>⟨_,rfl,r⟩
def bG.two:∀{x y:V} {a:List Value},bG [x,y] a->∃u v,a= [u,v]/\RelV x u/\RelV y v
 |_,_,_,.cons r (.cons q .nil)=>⟨_,_,rfl,r,q⟩
def bG.zero:∀{a:List Value},bG [] a->a= []
 |_,.nil=>rfl
theorem bG.dropLast{xs:List V}{a:List Value}(h:bG xs a):bG xs.dropLast a.dropLast:=by
 induction h with
 |nil=>exact .nil
 | cons r t b=>
   cases t with
   |nil=>exact .nil
   |cons q c=>exact .cons r b
theorem bG.eraseIdx:∀{xs:List V} {a:List Value} (i:Nat),bG xs a->bG (xs.eraseIdx i) (a.eraseIdx i)
 |_,_,_,.nil=>.nil
 |_,_,0,.cons _ t=>t
 |_,_,i+1,.cons r t=>.cons r (bG.eraseIdx i t)
theorem bG.rep{xs:List V}{a:List Value}(h:bG xs a):∀k:Nat,bG (List.replicate k xs).flatten (List.replicate k a).flatten
 |0=>.nil
 | k+1=>by
   rw[QNq,QNq,List.flatten_cons,List.flatten_cons]
   exact bG.append h (bG.rep h k)
def Cu{α:Type}(l:List α):l.eraseIdx (l.length-1)=l.dropLast:=by
 induction l with
 |nil=>rfl
 | cons a r c=>
   cases r with
   |nil=>rfl
   | cons b r=>
     have e:(a::b::r).length-1=((b::r).length-1)+1:=by
       have d:(a::b::r).length=r.length+2:=rfl
       have f:(b::r).length=r.length+1:=rfl
       omega
     rw[e,List.eraseIdx_cons_succ,c]
     all_goals rfl
theorem xR{α:Type}:∀(l:List α) (i:Nat),(l.eraseIdx i).length<=l.length
 | [],_=>Qmq _
 |_::_,0=>Nat.le_succ _
 |_::r,i+1=>Nat.succ_le_succ (xR r i)
theorem foldl_rep(a:List Value):∀(k:Nat) (b:List Value),
  List.foldl (λc d=>c++d) b.toArray (List.replicate k a.toArray)=(b++(List.replicate k a).flatten).toArray
 |0,b=>by simp
 | k+1,b=>by
   have e:b.toArray++a.toArray=(b++a).toArray:=by simp
   have f:(b++a)++(List.replicate k a).flatten=b++(List.replicate (k+1) a).flatten:=by
     rw[QNq,List.flatten_cons,Qvq]
   rw[←f,←foldl_rep a k (b++a),←e,QNq,List.foldl_cons]
section
variable{X:Cx}{pins:List (Addr×Obj)}{σ:St}{H:Hp}{s:Shared}{l b:Addr}{xs ys zs:List V}
def Inv.lset{a its':List Value}{n:Nat}{f:Array Value->Array Value}{t':Nat}(I:Inv X pins σ H s)(g:H l=some (.lst xs))
  (e:s.heap.get? l=some {cls:=.type "list",data:=.seq a.toArray n}) (d:f a.toArray=its'.toArray) (i:bG ys its') (hz:ys.length<=sizeLine):
  Inv X pins σ (upd H l (.lst ys)) {s with heap:=s.heap.update l (Obj.mapSeq f),toks:=t'}:=by
 have q:=PySem.IsL.update e f
 rw[d] at q
 refine I.write (x:=l) (e:=l) (by rw[g];exact trivial) (.inl rfl) (λj u h c=>(Heap.get?_update_other s.heap (Obj.mapSeq f) (Ne.symm h)).trans c) ⟨_,q⟩ ?_
 exact⟨hz,its',_,i,q⟩
def Inv.lnew{a:List Value}{t':Nat}(I:Inv X pins σ H s)(c:bG ys a)(hz:ys.length<=sizeLine):
  Inv X pins σ (upd H s.heap.objs.size (.lst ys)) {s with heap:=s.heap.push {cls:=.type "list",data:=.seq a.toArray},toks:=t'}:=
 I.laid (λ_ _ q=>Qcq _ q) (Qmq _) ⟨hz,a,0,c,Qrq _ rfl⟩
def Inv.fresh(I:Inv X pins σ H s):H s.heap.objs.size=none:=I.hok.fresh (Qmq _)
def Inv.lstM(I:Inv X pins σ H s)(c:H l=some (.lst xs)):xs.length<=sizeLine/\∃(a:List Value) (n:Nat),bG xs a/\xs.length=a.length/\s.heap.get? l=some {cls:=.type "list",data:=.seq a.toArray n}:=by
 obtain⟨z,a,n,r,e⟩:=I.hok l _ c
 exact⟨z,a,n,r,r.length,e⟩
def vj{n:Nat}(h:n<=sizeLine):Builtin.List.listTooLong n=false:=by
 unfold Builtin.List.listTooLong
 exact Qdq (by omega)
end
section
variable{X:Cx}
def Ep:V->List V->Hp->VK->Prop:=λx b H Q=>∃l a y,x=.ref l/\b= [y]/\H l=some (.lst a)/\a.length<sizeLine/\Q .non (upd H l (.lst (a++ [y])))
def rg:L_ X "list.append" Ep:=by
 intro b s j H x f v i Q I c d h
 obtain⟨l,g,y,rfl,rfl,hH,hz,q⟩:=h
 cases c
 obtain⟨u,rfl,ru⟩:=d.one
 obtain⟨z,a,n,r,k,e⟩:=I.lstM hH
 refine call_meets F.slot_list_append ⟨_,e,rfl⟩ F.entry_list_append (F.args_list_append_2 _ _) (PySem.list_append l a.toArray n u (by rw[Qjq];omega)) ⟨e,?_⟩
 refine⟨.non,_,I.lset (its':=a++ [u]) hH e (by simp) (r.append (.cons ru .nil)) ?_,rfl,q⟩
 rw[lQa,List.length_singleton]
 omega
def ER:V->List V->Hp->VK->Prop:=λx d H Q=>∃l b a c,x=.ref l/\d= [.ref b]/\H l=some (.lst a)/\H b=some (.lst c)/\a.length+c.length<=sizeLine/\Q .non (upd H l (.lst (a++c)))
def FL:L_ X "list.extend" ER:=by
 intro g s C H x w v B Q I m p h
 obtain⟨l,b,y,A,rfl,rfl,hH,hB,hz,q⟩:=h
 cases m
 obtain⟨u,rfl,ru⟩:=p.one
 cases ru
 obtain⟨z,c,n,r,G,e⟩:=I.lstM hH
 obtain⟨t,a,j,o,i,k⟩:=I.lstM hB
 have f:c.toArray.size+a.toArray.size<=sizeLine:=by rw[Qjq,Qjq];omega
 have d:¬(!c.toArray.isEmpty&&Builtin.List.listTooLong (c.toArray.size+a.toArray.size))=true:=by
  rw[vj f,Bool.and_false]
  exact Qtq
 refine call_meets F.slot_list_extend ⟨_,e,rfl⟩ F.entry_list_extend (F.args_list_extend_2 _ _)
  (AutoSeq1.list_extend_list_list_0 l c.toArray n b a.toArray j d (by rw[Qjq];omega) (by omega)) ⟨e,k,?_⟩
 refine⟨.non,_,I.lset (its':=c++a) hH e (by simp) (r.append o) ?_,rfl,q⟩
 rw[lQa]
 omega
def MK:V->List V->Hp->VK->Prop:=λx b H Q=>∃l a y,x=.ref l/\b= []/\H l=some (.lst a)/\a[a.length-1]?=some y/\Q y (upd H l (.lst a.dropLast))
def K9:L_ X "list.pop" MK:=by
 intro d s t H x m v p Q I f j h
 obtain⟨l,o,y,rfl,rfl,hH,hy,q⟩:=h
 cases f
 have b:=j.zero
 subst b
 obtain⟨z,a,n,r,k,e⟩:=I.lstM hH
 obtain⟨u,g,i⟩:=r.get hy
 have c:a.toArray[a.toArray.size-1]?=some u:=by
  show a.toArray[a.length-1]?=some u
  rw[←Array.getElem?_toList,←k]
  exact g
 refine call_meets F.slot_list_pop ⟨_,e,rfl⟩ F.entry_list_pop (F.args_list_pop_1 _) (MeetsSeq.list_pop_last l a.toArray n u c (by rw[Qjq];omega)) ⟨e,?_⟩
 refine⟨y,_,I.lset (its':=a.dropLast) hH e ?_ r.dropLast ?_,i,q⟩
 ·show a.toArray.eraseIdxIfInBounds (a.toArray.size-1)=a.dropLast.toArray
  rw[Qjq,List.eraseIdxIfInBounds_toArray,Cu]
 ·rw[List.length_dropLast]
  omega
def Gr:V->List V->Hp->VK->Prop:=λx b H Q=>∃l a i k y,x=.ref l/\b= [.int i]/\H l=some (.lst a)/\ -(2^63)<=i/\i<2^63/\seqIndex? i a.length=some k/\a[k]?=some y/\Q y (upd H l (.lst (a.eraseIdx k)))
def GS:L_ X "list.pop" Gr:=by
 intro c s A H x o v p Q I f j h
 obtain⟨l,d,i,k,y,rfl,rfl,hH,h1,h2,hk,hy,q⟩:=h
 cases f
 obtain⟨u,rfl,ru⟩:=j.one
 obtain⟨t,rfl⟩:=ru
 obtain⟨z,a,n,r,m,e⟩:=I.lstM hH
 obtain⟨w,g,b⟩:=r.get hy
 refine call_meets F.slot_list_pop ⟨_,e,rfl⟩ F.entry_list_pop (F.args_list_pop_2 _ _)
  (MeetsSeq.list_pop_at l a.toArray n i t k w (fitsIndex_both h1 h2) (by rw[Qjq,←m];exact hk) (by rw[←Array.getElem?_toList];exact g) (by rw[Qjq];omega)) ⟨e,?_⟩
 refine⟨y,_,I.lset (its':=a.eraseIdx k) hH e ?_ (r.eraseIdx k) ?_,b,q⟩
 ·show a.toArray.eraseIdxIfInBounds k=(a.eraseIdx k).toArray
  rw[List.eraseIdxIfInBounds_toArray]
 ·have:=xR d k
  omega
def O0:R2:=λx y H Q=>∃l b a c,x=.ref l/\y=.ref b/\H l=some (.lst a)/\H b=some (.lst c)/\a.length+c.length<=sizeLine/\∀p,H p=none->Q (.ref p) (upd H p (.lst (a++c)))
def Ma:lD X (binaryOp .Add) O0:=by
 intro d s A H x y v u Q I j m h
 obtain⟨l,b,t,w,rfl,rfl,hH,hB,hz,q⟩:=h
 cases j
 cases m
 obtain⟨z,c,n,r,B,e⟩:=I.lstM hH
 obtain⟨o,a,p,k,f,g⟩:=I.lstM hB
 refine PySem.P.add_list e g ?_ (by rw[Qjq,Qjq];omega)
 have i:c.toArray++a.toArray=(c++a).toArray:=by simp
 rw[i]
 exact⟨.ref _,_,I.lnew (t':=s.toks) (r.append k) (by rw[lQa];omega),rfl,q _ I.fresh⟩
def OX:R2:=λx y H Q=>∃l k a,x=.ref l/\y=.int k/\H l=some (.lst a)/\ -(2^63)<=k/\k<2^63/\a.length*k.toNat<=sizeLine∧
 ∀p,H p=none->Q (.ref p) (upd H p (.lst (List.replicate k.toNat a).flatten))
def len_rep{α:Type}(xs:List α)(k:Nat):(List.replicate k xs).flatten.length=k*xs.length:=by
 induction k with
 |zero=>simp
 |succ k a=>rw[QNq,List.flatten_cons,lQa,a,Nat.succ_mul,Nat.add_comm]
def L1:lD X (binaryOp .Mult) OX:=by
 intro p s L H x y v u Q I A C h
 obtain⟨l,k,K,rfl,rfl,hH,h1,h2,hz,q⟩:=h
 cases A
 obtain⟨t,rfl⟩:=C
 obtain⟨z,b,n,r,G,e⟩:=I.lstM hH
 have f:b.toArray.size*k.toNat<=sizeLine:=by rw[Qjq,←G];exact hz
 have g:¬b.toArray.size*k.toNat>(2^63-1)/8:=by
  have:(sizeLine:Nat)<=(2^63-1)/8:=by decide
  omega
 have d:¬(!Builtin.List.listFitsIndex k)=true:=by
  rw[fitsIndex_both h1 h2]
  exact Qtq
 have c:¬Builtin.List.listTooLong (b.toArray.size*k.toNat)=true:=by
  rw[vj f]
  exact Qtq
 have i:List.foldl (λo j=>o++j) #[] (List.replicate (if b.toArray.isEmpty=true then 0 else k.toNat) b.toArray)=(List.replicate k.toNat b).flatten.toArray:=by
  have w:∀m:Nat,List.foldl (λo j=>o++j) #[] (List.replicate m b.toArray)=(List.replicate m b).flatten.toArray:=λm=>by
   have:=foldl_rep b m []
   rw[List.nil_append] at this
   exact this
  rw[w]
  cases b with
  |nil=>simp
  |cons a J=>rw[Quq (by simp)]
 refine wpAny_binaryOp_repeat_ref (T:="list") (U:="int") (by decide) ⟨_,e,rfl⟩ (λB=>typeIs_int B k t) noFill_list_mul F.fills_int_mul F.slot_int_rmul repeat_list F.slot_int_index.lookup
  (call_meets F.slot_int_rmul (typeIs_int s k t) F.entry_int_rmul (F.args_int_rmul_2 _ _) (int___rmul___int_list k t l b.toArray n)
   ⟨e,rfl,⟨_,e,rfl⟩,call_meets F.slot_list_mul ⟨_,e,rfl⟩ F.entry_list_mul (F.args_list_mul_2 _ _) (AutoListH.list___mul___list_int_3 l b.toArray n k t d g c) ⟨e,?_⟩⟩)
 rw[i]
 exact⟨.ref _,_,I.lnew (t':=s.toks) (r.rep k.toNat) (by rw[len_rep,Nat.mul_comm];exact hz),rfl,q _ I.fresh⟩
end
end L2
namespace Att
open PySem PySem.W PySem.Calls PyProof.Rows
def tV{P:Params}{h:Heap}:∀(ns:List Int) (vs:List Value),WellAll P h vs (ns.map WData.int)->IntsAre vs ns:=by
 intro ns
 induction ns with
 | nil=>
   intro vs w
   rw[List.map_nil] at w
   cases w
   exact .nil
 | cons n ns c=>
   intro vs w
   rw[QDq] at w
   cases w with
   | cons a b=>
     cases a
     exact .cons _ _ (c _ b)
def Fh{l:OpenLaw}{n:Nat}(m:l.most=some n){P:Params}{h:Heap}{args:List WData}{vals:List Value}
  (b:l.row.toRowW.claim.pre args=true) (i:WellAll P h vals args):
  ∃a vs ns,vals= [Value.ref a]/\args= [WData.list (ns.map WData.int)]/\h.get? a=some {cls:=.type "list",data:=.seq vs.toArray}/\IntsAre vs ns/\ns.length<=n:=by
 have j:WShape.hasAll [] args [.list .int]=true:=(pre_splitW b).1
 have k:l.pre.holds [] {args:=args}=true:=(pre_splitW b).2
 obtain⟨d,r,rfl,h1,h2⟩:=hasAllW_cons j
 obtain rfl:=hasAllW_nil h2
 obtain⟨u,rfl,h3⟩:=hasW_list h1
 obtain⟨ns,rfl⟩:=items_int h3
 have c:ns.length<=n:=by
  unfold OpenLaw.pre at k
  have g:(WTm.not (.lt (.lit (.int (n:Int))) (.len (.arg 0)))).holds [] {args:= [.list (ns.map .int)]}=true:=by
   have g:=(holds_andW k).1
   rw[m] at g
   exact g
  have f:=condW_of g (w_not (w_lt w_lit (w_len_list (w_arg rfl))))
  rw[lQm] at f
  refine Nat.le_of_not_lt λq=> ?_
  have s:(n:Int)<((ns.length:Nat):Int):=by omega
  first
   |(rw[Qeq s] at f;exact absurd f (by decide))
   |(simp at f;omega)
 cases i with
 | cons p o=>
   cases o
   cases p with
   |list t e=>exact⟨_,_,ns,rfl,rfl,t,tV ns _ e,c⟩
def FI(l:OpenLaw)(args:List WData):l.row.toRowW.claim.post args (.bool true) args=true:=
 postW_of (r:=l.row.toRowW) (X:=(true==true))
  (show WShape.has [] (.bool true) .bool=true by first|rfl|decide|simp[WShape.has,WShape.arms,WShape.armsAll])
  (show(WTm.eq .res (.lit (.bool true))).value [] {args:=args,res:=some (.bool true),after:=args}=some (.bool (true==true)) from w_eq_bool (w_res rfl) w_lit) rfl
def AN{l:OpenLaw}{n:Nat}{q:Program}{c:List Str}{v:(Str->Option Value)->Heap->Prop}{A:World->Heap->Prop}{d:DefRec}
  (C:l.most=some n) (p:d.params.defaults= [])
  (h:∀(w:World) (s₀ b:Shared) (mg t:Str->Option Value) (g:Addr) (o:Obj) (pm j e:Value) (a:Addr) (vs:List Value) (ns:List Int),
   Ground q c [] v w s₀ mg t b.heap->A w b.heap→
   b.heap.get? g=some o->o.data=.func (docDef d.name d.params d.body d.scope pm j e)->b.heap.CodeRec j d.name->mg d.name=some (.ref g)→
   b.heap.get? a=some {cls:=.type "list",data:=.seq vs.toArray}->IntsAre vs ns->ns.length<=n->b.gens= #[]→
   codeAny (model l.prog w) callerA (.call (.ref g) ⟨[.ref a],[]⟩) (λr k=>r=.ok (.ret (.bool true))/\OldK b.heap k.heap/\k.os=b.os/\AllBare k.gens) b):
  WalkO q c v A l.row.toRowW d [] (λf vs=>PySem.call f vs):=by
 intro w s₀ b mg t G Y g o pm j e N kV M H m z s F x B P i y J u I
 obtain rfl:N=.none:=Dflts.none z p
 obtain rfl:kV=.none:=Dflts.noKw z
 obtain⟨a,vs,ns,rfl,rfl,hobj,hints,hlen⟩:=Fh C i u
 refine enter_call (codeAny_mono (h w s₀ b mg t g o pm j e a vs ns G Y M (fd_plain H) m s hobj hints hlen F) λr k K=> ?_)
 obtain⟨rfl,h2,h3,h4⟩:=K
 exact⟨.inl ⟨.bool true,.bool true,[],rfl,λ_=>rfl,.bool true,FI l _,λ_=>⟨List.Pairwise.nil,λ_ L=>(nomatch L)⟩⟩,h2,h3,h4⟩
end Att
namespace L2
open PySem PySem.Spec PyProof.Rows
theorem xO:∀{vs:List Value} {ns:List Int},IntsAre vs ns->bG (ns.map V.int) vs
 |_,_,.nil=>.nil
 |_,_,.cons n t h=>.cons ⟨t,rfl⟩ (xO h)
def Ki(H:Hp):Prop:=∀b,H b=none\/∃o a,H b=some (.frz o (.lst a))
def Ik{P:Program}{w:World}{K:PySem.W.Frag}{mg U:Str->Option Value}{CX:Gi}{k:Nat}{Y a:Addr}{fd:FuncData}{x:Str}{sp:Sp}{c:Shared}{vs:List Value}{ns:List Int}
  (KX:K.In c.heap) (J:c.heap.Ns mainGlobals mg) (g:c.heap.Ns builtinsNs U) (X:∀x:Str,x≠"__name__" ->U x=bootBuiltins x) (G:c.heap.NoLimit) (hg:c.gens= #[])
  (N:c.heap.get? a=some {cls:=.type "list",data:=.seq vs.toArray}) (hi:IntsAre vs ns) (hl:ns.length<=sizeLine) (hr:fQ k callerA)
  (F:∀base:Heap,K.In base->base.Ns mainGlobals mg->bf P w K mg base CX k Y fd [x] sp) (p:∀(s:Shared) (u:Value),BindsTo s fd ⟨[u],[]⟩ [(x,u)])
  (Q:∀H:Hp,Ki H->i7 K H a (ns.map V.int)->sp [.ref a] H (λv _=>v=.bl true) λ_ _ _=>False)
  (a0:∀H e i,CX [] H c (λ_ _ _=>False) e i->False):
  codeAny (model P w) callerA (.call (.ref Y) ⟨[.ref a],[]⟩) (λr i=>r=.ok (.ret (.bool true))/\OldK c.heap i.heap/\i.os=c.os/\AllBare i.gens) c:=by
 have rv:=xO hi
 have C:=hi.length
 have l:∀H:Hp,Ki H->i7 K H a (ns.map V.int)->pI P w H c.heap->(∀b,H b≠none->b=a)->(H a≠none->K.lookup a=none)→
   codeAny (model P w) callerA (.call (.ref Y) ⟨[.ref a],[]⟩) (λr i=>r=.ok (.ret (.bool true))/\OldK c.heap i.heap/\i.os=c.os/\AllBare i.gens) c:=by
  intro H hO hS I hA hK
  have f:∀{b:Addr} {o:Obj},c.heap.get? b=some o->H b=none->(zX c.heap H).get? b=some o:=λe n=>Ho e n
  have R:∀{b:Addr} {o:Obj} {M:Array DictEntry} {L:Nat},c.heap.get? b=some o->o.data=.dict M L->H b=none:=λ{b o M L} e d=>by
   cases q:H b with
   |none=>rfl
   | some u=>
     have Z:b=a:=hA b (by rw[q];simp)
     subst Z
     rw[N] at e;cases e
     have d':Data.seq vs.toArray _=Data.dict M L:=d
     cases d'
  have j:∀{b:Addr} {m:Str->Option Value},c.heap.Ns b m->(zX c.heap H).Ns b m:=λ{b m} ⟨o,M,L,e,d,r⟩=>⟨o,M,L,f e (R e d),d,r⟩
  have y:K.In (zX c.heap H):=λb o e=>f (KX b o e) (by
   cases q:H b with
   |none=>rfl
   | some u=>
     have Z:b=a:=hA b (by rw[q];simp)
     subst Z
     rw[hK (by rw[q];simp)] at e;cases e)
  have hM:Mod K mg (zX c.heap H):=⟨y,j J,⟨U,j g,X⟩,let ⟨mc,h1,h2⟩:=G;⟨mc,j h1,h2⟩⟩
  have e0:JX P w K mg (zX c.heap H) callerA [] c H:=⟨rfl,hM,λb o e=>IY e,Nat.le_of_eq (Fu _ _),trivial,λb g=>absurd (show b∈([]:List Addr) from g) (by simp),I,.of_eq hg⟩
  refine codeAny_mono ((F _ y (j J)).run callerA [] c H ⟨[.ref a],[]⟩ [.ref a] [.ref a] _ _ hr e0 (p c (.ref a)) (.cons rfl .nil) (Q H hO hS)) λr i h=> ?_
  cases r with
  |error e=>exact(a0 H e i h).elim
  | ok fl=>
    cases fl with
    |next=>exact False.elim h
    |brk=>exact False.elim h
    |cont=>exact False.elim h
    | ret u=>
      obtain⟨v,H',os,B,un,A,r',q⟩:=h
      have q':v=.bl true:=q
      subst q'
      obtain rfl:u=Value.bool true:=r'
      refine⟨rfl,OldK.of_keep λb o e=> ?_,os,B⟩
      cases q:H b with
      |none=>exact un.keep b o e q (by intro z;exact absurd (show b∈([]:List Addr) from z) (by simp)) (by simp)
      | some u=>
        rcases hO b with z|⟨ob,xs,z⟩
        · rw[q] at z;cases z
        · have z2:=un.frzs b ob _ z
          obtain⟨e1,_⟩:=I b _ z
          obtain⟨e2,_⟩:=A b _ z2
          rw[e] at e1;cases e1
          exact e2
 cases S:K.lookup a with
 | some o=>
   have e:=KX a o S
   rw[N] at e
   cases e
   refine l (λ_=>none) (λ_=>.inl rfl) (.inr ⟨_,vs.toArray,_,S,rfl,rfl,rfl,by rw[Qjq,C];exact hl,by simpa using rv⟩) (λb u z=>by have t:(none:Option HO)=some u:=z;cases t) (λb z=>absurd rfl z) λz=>absurd rfl z
 | none=>
   refine l (λb=>if b=a then some (.frz {cls:=.type "list",data:=.seq vs.toArray} (.lst (ns.map V.int))) else none) (λb=> ?_) (.inl (.inr ⟨{cls:=.type "list",data:=.seq vs.toArray},Qhq rfl⟩)) (λb u z=> ?_) (λb z=> ?_) λ_=>S
   · by_cases g:b=a
     · exact .inr ⟨_,_,Qhq g⟩
     · exact .inl (Quq g)
   · by_cases g:b=a
     · have t:=(Qhq g).symm.trans z
       cases t
       subst g
       exact⟨N,by rw[lQm];exact hl,vs,_,rv,N⟩
     · have t:=(Quq g).symm.trans z
       cases t
   · by_cases g:b=a
     · exact g
     · exact absurd (Quq g) z
def Kd{l:PySem.W.OpenLaw}{n k:Nat}{q:Program}{j:List Str}{S:(Str->Option Value)->Heap->Prop}{M:World->Heap->Prop}{d:DefRec}{K:Params->PySem.W.Frag}{CX:World->Gi}{sp:World->Sp}{x:Str}
  (Q:l.most=some n) (t:n<=sizeLine) (y:d.params.defaults= []) (hr:fQ k callerA)
  (N:∀(w:World) (h:Heap),M w h->(K w.params).In h)
  (F:∀(w:World) (mg:Str->Option Value) (r:Addr) (h:Heap),(K w.params).In h->h.Ns mainGlobals mg->mg d.name=some (.ref r)→
   ∃ A:FuncData,(∀(s:Shared) (u:Value),BindsTo s A ⟨[u],[]⟩ [(x,u)])∧
     ∀base:Heap,(K w.params).In base->base.Ns mainGlobals mg->bf l.prog w (K w.params) mg base (CX w) k r A [x] (sp w))
  (I:∀(w:World) (H:Hp) (a:Addr) (ns:List Int),ns.length<=n->Ki H->i7 (K w.params) H a (ns.map V.int)->sp w [.ref a] H (λv _=>v=.bl true) λ_ _ _=>False)
  (C:∀(w:World) (H:Hp) (s:Shared) (e:Value) (B:Shared),CX w [] H s (λ_ _ _=>False) e B->False):
  PySem.W.WalkO q j S M l.row.toRowW d [] (λf vs=>PySem.call f vs):=by
 refine Att.AN Q y λw J p mg mb r o pm cd a0 a vs ns G Y ho hd P z m i c R=> ?_
 have L:=N w _ Y
 obtain⟨A,hb,U⟩:=F w mg r _ L G.T.g z
 exact Ik L G.T.g G.T.b G.T.builtins G.T.nolimit R m i (QAq c t) hr U hb (λH Z X=>I w H a ns c Z X) λH e B=>C w H p e B
def iy(s:Stmt):Arguments:=match s with
 |.FunctionDef _ a _ _ _ _ _ _ _ _=>a
 |_=>{posonlyargs:= [],args:= [],vararg:=none,kwonlyargs:= [],kw_defaults:= [],kwarg:=none,defaults:= []}
def fB(s:Stmt):List Stmt:=match s with
 |.FunctionDef _ _ b _ _ _ _ _ _ _=>b
 |_=> []
def ay(s:Stmt):Scope:=match s with
 |.FunctionDef _ _ _ _ _ _ a _ _ _=>a
 |_=>{kind:=.function,names:= [],isGenerator:=false,isCoroutine:=false}
abbrev df:Gi:=λ_ _ _ _ _ _=>False
abbrev E0:XK:=λ_ _ _=>False
def lV{X:Cx}:Ck df X E0:=λ_ _ _ _ _ _ _ h=>h.elim
structure dF(K:PySem.W.Frag)(x qual:Str)(st:Stmt)(f:Addr)(fd:FuncData):Prop where
 ex:∃(oc:Value) (od:Option Addr) (kV doc pm:Value) (an:Option Addr) (cdv ct:Value) (osl:Array (Option Value)),
  fd=PySem.W.fnOf x qual (iy st) (fB st) (ay st) .none kV doc pm an cdv ct/\K.lookup f=some ⟨oc,od,.func fd,osl⟩/\PySem.W.codeIn K cdv qual=true
 kp:PySem.W.keepIn K (.ref f)=true
section
variable{P:Program}{w:World}{K:PySem.W.Frag}{mg:Str->Option Value}{base:Heap}
def dF.ok{x a:Str}{st:Stmt}{f:Addr}{e:FuncData}{N ps:List Str}{k:Nat}{sp:Sp}(F:dF K x a st f e)(S:aF N ps (ay st))(len:∀vs H Q E,sp vs H Q E->vs.length=ps.length)
  (c:∀(b:Value) (A:Around) (outer:List Env) (s:Shared) (H:Hp) (vs:List V) (Q:VK) (E:XK),fQ k (A.deeper (envOfC a (ay st) s.heap.objs.size f b))->sp vs H Q E→
   ∃t,tX (AU df P w K mg base N a (ay st) f b A outer s H E).nox (fB st) t/\t {nx:=λ_ l=>Q .non l,rt:=Q} (start N vs) H):bf P w K mg base df (k+1) f e ps sp:=by
 obtain⟨r,p,kV,i,m,n,b,o,g,rfl,lk,hcd⟩:=F.ex
 refine N_ lk hcd S len λA outer s H vs Q E j d=> ?_
 obtain⟨t,h,q⟩:=c b A outer s H vs Q E j d
 exact⟨t,h.nox,q⟩
def dF.binds{x a:Str}{st:Stmt}{f:Addr}{g:FuncData}{ps:List Str}(F:dF K x a st f g)
  (h:∀(kV b pm:Value) (d:Option Addr) (c ct:Value) (e:List Value),e.length=ps.length->bindArgs (PySem.W.fnOf x a (iy st) (fB st) (ay st) .none kV b pm d c ct) ⟨e,[]⟩=pure (ps.zip e)):Binds K g ps []:=by
 obtain⟨k,j,kV,b,pm,d,c,ct,i,rfl,lk,hcd⟩:=F.ex
 exact .all (h kV b pm d c ct)
def Dm{x a:Str}{st:Stmt}{f:Addr}{i:Value}{h g:Option Addr}{e:Array (Option Value)}{kV d pm b ct:Value}(l:K.lookup f=some ⟨i,h,.func (PySem.W.fnOf x a (iy st) (fB st) (ay st) .none kV d pm g b ct),e⟩)
  (c:PySem.W.codeIn K b a=true) (k:PySem.W.keepIn K (.ref f)=true):dF K x a st f (PySem.W.fnOf x a (iy st) (fB st) (ay st) .none kV d pm g b ct):=⟨⟨i,h,kV,d,pm,g,b,ct,e,rfl,l,c⟩,k⟩
end
def EI{A:Around}{k:Nat}(a:fQ k A):A.units+1<cLine:=Nat.lt_of_le_of_lt (Nat.add_le_add_left (by decide:1<=64) _) a.units
def bF{n:Nat}(h:n<=1000):n<sizeLine:=Nat.lt_of_le_of_lt h (by decide)
section
variable{X:Cx}
def pv(i:Nat){x:Str}{pos:Pos}(b:X.N[i]?=some x:=by rfl)(c:KD X.env.scope x:=by first|exact Or.inl rfl|exact Or.inr (Or.inl rfl)|exact Or.inr (Or.inr rfl))(hd:(x==("__debug__":Str))=false:=by decide)
  (a:(x==("__classdict__":Str))=false:=by decide):PE X (.Name x pos) (Lk i):=G0 b c hd a
end
section
variable{prog:Program}{w:World}{A:Around}{s:Shared}
def qk{q a g:Expr}{t:List Expr}{d:Scope}{pos:Pos}{it o:Value}{env:Env}{R:Result->Shared->Prop}(I:Nat->Shared->Prop)
  (B:∀n s,I n s->wpAny (model prog w) A (pyNext it) (λr e=>match r with
   |none=>R (.ok .next) e
   |some v=>wpAny (model prog w) A (letOwnedTupleGo a it v) (λ_ f=>wpAny (model prog w) A (assign a env v) (λ_ k=>
     wpAny (model prog w) A (forIn t true λc r=>if r=true then do let ok←isTrue c env (eval c env);pure (ForInStep.yield ok) else pure (ForInStep.yield r)) (λok s₃=>
      if ok=true then wpAny (model prog w) A (eval q env) (λx j=>
       wpAny (model prog w) A (call (.builtin "list.append") [o,x]) (λ_ i=>∃m,m<n/\I m i) (λ_ _=>False) j) (λ_ _=>False) s₃
      else∃m,m<n/\I m s₃) (λ_ _=>False) k) (λ_ _=>False) f) (λ_ _=>False) e) (λ_ _=>False) s)
  (n:Nat) (h:I n s):codeAny (model prog w) A (.compLoop (.ListComp q [⟨a,g,t,0⟩] d pos) 0 it o env) R s:=by
 refine codeAny_loop rfl I (λn s C=> ?_) n h
 show wpAny _ A ((compTurn (.ListComp q [⟨a,g,t,0⟩] d pos) 0 it o env).onRaise (λx=>do noteFrame x env;theTreesLotGoes x)) _ _ s
 refine wpAny_noted ?_
 rw[compTurn_list]
 refine Qaq (wpAny_standAt (Qaq (QRq (B n s C) (λr e l=> ?_) λ_ _ b=>b.elim)))
 cases r with
 |none=>exact Qgq l
 | some v=>
   refine Qaq (QRq l (λ_ f p=> ?_) λ_ _ b=>b.elim)
   refine Qaq (QRq p (λ_ k u=>Qaq (QRq u (λok s₃ h₃=> ?_) λ_ _ b=>b.elim)) λ_ _ b=>b.elim)
   cases ok with
   |false=>exact Qgq ⟨rfl,h₃⟩
   | true=>
     exact Qaq (Qaq (QRq h₃ (λx j y=>Qaq (QRq y (λ_ i z=>Qgq (Qgq ⟨rfl,z⟩)) λ_ _ b=>b.elim)) λ_ _ b=>b.elim))
end
def aO(X:Cx)(N:List Str)(a:Scope)(b:List (Str×Addr))(C:Addr)(s:Shared)(H:Hp)(fp:List Addr):Cx where
 prog:=X.prog
 w:=X.w
 K:=X.K
 mg:=X.mg
 base:=X.base
 A:=X.A
 N:=N
 s₀:=s
 H₀:=H
 env:=compEnvC a b C X.env
 outer:=X.stack
 stack:=X.stack
 ex:=fp
 fn:=λ_=>false
 calm:=X.calm
 pn:= []
 xe:=λ_ _=>False
def kb(js:List (Option Nat))(a:St):St:=js.map λo=>o.bind λj=>a.getD j none
structure aI(X:Cx)(N:List Str)(js:List (Option Nat))(scope:Scope)(cl:List (Str×Addr)):Prop where
 kind:scope.kind=.function
 nocell:∀y∈scope.names,y.2≠.cell
 names:∀y∈scope.names,y.2=.local->scope.names.lookup y.1=some .local
 clos:closureFor scope X.env=pure cl
 sub:∀x c,cl.lookup x=some c->X.env.cells.lookup x=some c
 has:∀x,((relabel scope X.env).names.lookup x=some .cell\/(relabel scope X.env).names.lookup x=some .free)->∃c,cl.lookup x=some c
 cap:∀(k j:Nat) (x:Str),js[k]?=some (some j)->N[k]?=some x->X.N[j]?=some x/\(X.env.kindOf x=some .cell\/X.env.kindOf x=some .free)/\((relabel scope X.env).names.lookup x=some .cell\/(relabel scope X.env).names.lookup x=some .free)
 len:js.length=N.length
def pq(X:Cx)(d:List Expr)(t:TT):Prop:=
 ∀ (a:List (Addr×Obj)) (s:Shared) (b:St) (H:Hp) (Q:Bool->Hp->Prop),Inv X a b H s->t b H Q→
   wpAny (model X.prog X.w) X.A (forIn d true λc r=>if r=true then do let ok←isTrue c X.env (eval c X.env);pure (ForInStep.yield ok) else pure (ForInStep.yield r)) (TP X a b Q) X.xe s
def Mk{X:Cx}:pq X [] (λ_ H Q=>Q true H):=λ_ _ _ H _ I h=>wpAny_tests_nil ⟨H,I,h⟩
def K1{X:Cx}{c:Expr}{t:TT}(d:PT X c t):pq X [c] t:=λa s b H Q I h=>
 wpAny_tests_one (cX (d a s b H Q I h) λok s' h'=>h')
def MM(J:It)(g:TG)(n:TT)(k:TE)(Q:VK)(D:Addr)(l:St)(H:Hp):Prop:=
 ∃ W:Nat->Nat->St->Hp->Prop,(∃m,W 0 m l H)/\∀i m c d,W i m c d→
   (J.stop i d/\Q (.ref D) d)\/(J.go i d/\∃f:St->Hp->Prop,(∀b e,f b e->∃j,j<m/\W (i+1) j b e)∧
     ∀ x H2,J.yld i d x H2->g x c H2 λa H3=>n a H3 λok H4=>
       if ok=true then k a H4 λy H5=>∃h,H5 D=some (.lst h)/\h.length<sizeLine/\f a (upd H5 D (.lst (h++ [y]))) else f a H4)
def G1(js:List (Option Nat))(c:TI)(g:TG)(b:TT)(d:TE):TE:=λa H Q=>c a H λJ H1=>∀D,H1 D=none->MM J g b d Q D (kb js a) (upd H1 D (.lst []))
def Ko{X:Cx}{N:List Str}{js:List (Option Nat)}{a:Scope}{R:List (Str×Addr)}{tg P b3:Expr}{b4:List Expr}{pos:Pos}{wi:TI}{g:TG}{tt:TT}{te:TE}
  (S:aI X N js a R) (hc:X.calm=true) (hi:PI X tg P wi)
  (hg:∀C s H fp,PG (aO X N a R C s H fp) tg g) (ht:∀C s H fp,pq (aO X N a R C s H fp) b4 tt) (he:∀C s H fp,PE (aO X N a R C s H fp) b3 te)
  (hs:∀x,foldedSetIterable P X.env x=pure x:=by intro _;rfl):PE X (.ListComp b3 [⟨tg,P,b4,0⟩] a pos) (G1 js wi g tt te):=by
 intro a5 s σ H Q I h
 rw[eval_ListComp]
 refine wpAny_comprehension_free (use:=none) rfl hs S.clos S.kind S.names (cX (hi a5 s σ H _ I h) λv s1 h1=>cX h1 λd5 f h2=> ?_)
 obtain⟨it,fp,tn,J,H2,e,B,T,b5,f2,hD⟩:=h2
 subst e
 refine QhQ (wpAny_newFunctionEnv S.nocell (by intro y hy;simp at hy) (λL F t=> ?_) S.kind)
 dsimp only at F t⊢
 generalize b1:f.heap.push {cls:=.type "list",dict:=none,data:=.seq ([]:List Value).toArray}=P2 at F t⊢
 have hC:P2.objs.size=f.heap.objs.size+1:=by rw[←b1,Heap.size_push]
 have c5:f.heap.objs.size≠P2.objs.size:=by rw[hC];exact Qwq (Nat.lt_succ_self _)
 have b0:f.heap.objs.size<=P2.objs.size:=by rw[hC];exact Nat.le_succ _
 have G:∀b,b<f.heap.objs.size->b≠P2.objs.size:=λb k=>by rw[hC];exact Qwq (Nat.lt_succ_of_lt k)
 have Y:∀b o,f.heap.get? b=some o->L.get? b=some o:=λb o e=>t.extBut b o (G b (Qiq e)) (Qcq _ (b1▸Qcq _ e))
 have c8:L.get? f.heap.objs.size=some {cls:=.type "list",dict:=none,data:=.seq ([]:List Value).toArray}:=t.extBut _ _ c5 (Qcq _ (b1▸Qrq _ rfl))
 have nD:H2 f.heap.objs.size=none:=B.fresh
 have nC:H2 P2.objs.size=none:=B.hok.fresh b0
 have b6:∀b∈fp,b<f.heap.objs.size:=λb k=>by
  obtain⟨o,e,_⟩:=T.obj _ _ b5 b k
  exact Qiq e
 obtain⟨W,⟨m0,w0⟩,c4⟩:=hD f.heap.objs.size nD
 have c6:(aO X N a R P2.objs.size f H2 fp).Ok:=by
  refine⟨B.ok.mod,S.kind,B.ok.glob,B.ok.blt,b0,λx y c h1 h2=>B.ok.inj x y c (S.sub x c h1) (S.sub y c h2),S.has,(λx c h=>by cases h),B.ok.hd,B.ok.frames,.inl rfl,
   λb k=>⟨G b (b6 b k),λx c h=>(f2 b k).2.2.2.2.1 x c (S.sub x c h)⟩,B.bs,QAq B.ok.bsz B.sz,λb o e k=> ?_,λb k z=> ?_,B.stack,B.stkFree⟩
  ·rcases(f2 b k).2.2.2.1 with z|z
   ·exact B.ok.noex b o e z
   ·exact absurd (Qqq (Qqq (Qiq e) B.ok.bsz) z) (Nat.lt_irrefl _)
  ·rcases Qsq.mp (B.stkSub b z) with q|q
   ·exact(f2 b k).2.1 q
   ·exact(f2 b k).2.2.1 q
 have c0:dh X.prog X.w (upd H2 f.heap.objs.size (.lst [])) L f.heap.objs.size (.lst []):=⟨Nat.zero_le _,[],0,.nil,c8⟩
 have I4:Inv (aO X N a R P2.objs.size f H2 fp) [] (kb js σ) (upd H2 f.heap.objs.size (.lst [])) {f with heap:=L,toks:=f.toks+([]:List (Str×Value)).length}:=by
  refine⟨c6,rfl,B.bare,Un.laid Y (Qmq _) nD,⟨_,F,λi x v h1 h2 h3=> ?_⟩,λx c h=> ?_,by show upd H2 _ _ P2.objs.size=none;rw[bt c5.symm];exact nC,λx c h=> ?_,λp hp=>absurd (show p∈([]:List (Addr×Obj)) from hp) (by simp),B.hok.laid Y (Qmq _) c0,by show(kb js σ).length=N.length;unfold kb;rw[lQm];exact S.len⟩
  ·unfold kb at h2
   rw[gQm] at h2
   cases e:js[i]? with
   |none=>rw[e] at h2;cases h2
   | some o=>
     rw[e] at h2
     cases o with
     |none=>cases h2
     | some j=>
       have a2:σ.getD j none=some v:=QdQ h2
       have hj:σ[j]?=some (some v):=by
         rw[Qlq] at a2
         cases q:σ[j]? with
         |none=>rw[q] at a2;cases a2
         |some y=>rw[q] at a2;exact congrArg some a2
       obtain⟨c1,c2,c3⟩:=S.cap i j x e h1
       obtain⟨m,hn,hl⟩:=B.loc
       have d4:KD X.env.scope x:=by
         rcases c2 with z|z
         · exact .inr (.inl z)
         · exact .inr (.inr z)
       obtain⟨u,r,l⟩:=hl j x v c1 hj d4
       refine⟨u,r,.inr ⟨c3,?_⟩⟩
       obtain⟨c,b9⟩:=S.has x c3
       refine⟨c,b9,?_⟩
       rcases l with⟨z,_⟩|⟨_,c',e',z⟩
       · rcases c2 with y|y <;>rw[y] at z <;>cases z
       · rw[S.sub x c b9] at e'
         cases e'
         obtain⟨o,ho,hd⟩:=z
         exact⟨o,Y _ _ ho,hd⟩
  ·obtain⟨v,o,ho,hd⟩:=B.cell x c (S.sub x c h)
   exact⟨v,o,Y _ _ ho,hd⟩
  ·obtain⟨v,o,ho,hd⟩:=B.cell x c (S.sub x c h)
   rw[bt (Qwq (Qiq ho))]
   exact B.freeC x c (S.sub x c h)
 have a0:∀{M:List (Addr×Obj)} {Z:Hp},M= []->(∀b∈fp,Z b=none)->∀b∈fp,qS (aO X N a R P2.objs.size f H2 fp) M Z b:=λ{M Z} ep hn b k=>by
  subst ep
  refine⟨hn b k,G b (b6 b k),λz=>c6.exfs b k z,.inl k,λx c h=>(f2 b k).2.2.2.2.1 x c (S.sub x c h),λp hp=>absurd (show p∈([]:List (Addr×Obj)) from hp) (by simp)⟩
 have a6:codeAny (model X.prog X.w) X.A (.compLoop (.ListComp b3 [⟨tg,P,b4,0⟩] a pos) 0 (.ref it) (.ref f.heap.objs.size) (compEnvC a R P2.objs.size X.env))
   (compPost (model X.prog X.w) X.A X.xe none (EP X a5 σ Q) (.ref f.heap.objs.size) P2.objs.size) {f with heap:=L,toks:=f.toks+([]:List (Str×Value)).length}:=by
  refine qk (λn s'=>∃i a1 Z,Inv (aO X N a R P2.objs.size f H2 fp) [] a1 Z s'/\tn i s'.heap/\(∀b∈fp,Z b=none)/\W i n a1 Z) ?_ m0
   ⟨0,_,_,I4,T.keep _ _ _ b5 λb _ o e=>Y b o e,λb k=>by rw[bt (Qwq (b6 b k))];exact(f2 b k).1,w0⟩
  rintro n s3 ⟨i,a4,H3,I3,b8,d1,w3⟩
  rcases c4 i n a4 H3 w3 with⟨stop,q⟩|⟨go,Nx,hN,b7⟩
  ·refine cX (T.done (aO X N a R P2.objs.size f H2 fp) rfl rfl rfl hc i [] s3 a4 H3 _ I3 (a0 rfl d1) b8 stop) λr s4 U=> ?_
   obtain⟨hr,I5⟩:=U
   subst hr
   obtain⟨m,hn,_⟩:=id I5.loc
   refine⟨m,hn,λh' a3=>⟨.ref f.heap.objs.size,H3,?_,rfl,q⟩⟩
   have u:=I5.base
   have ne:∀b o,f.heap.get? b=some o->b≠P2.objs.size:=λb o e=>G b (Qiq e)
   refine B.call' (ch:=fp) I5.os ⟨λb o e n k hx=>(a3.2 b (ne b o e)).trans (u.keep b o e n k hx),λb o e n k hx=> ?_,u.free,λb o e hx=> ?_,u.tups,u.frzs,u.tbls⟩ (λb ob e=> ?_) I5.bare λb k=>⟨(f2 b k).2.2.2.1,(f2 b k).2.1,(f2 b k).2.2.2.2.1,(f2 b k).2.2.2.2.2⟩
   ·obtain⟨sl,e1⟩:=u.slot b o e n k hx
    exact⟨sl,(a3.2 b (ne b o e)).trans e1⟩
   ·obtain⟨o',e1⟩:=u.there b o e hx
    exact⟨o',(a3.2 b (ne b o e)).trans e1⟩
   ·refine(I5.hok b ob e).stay (λc w' hc q=>(a3.2 c ?_).trans q) (λ_ q=>q) λ_ _ q=>q
    have fC:H3 P2.objs.size=none:=I5.free
    rintro rfl
    rcases hc with z|z
    ·rw[←z,fC] at e;cases e
    ·rw[fC] at z;cases z
  ·refine cX (T.item (aO X N a R P2.objs.size f H2 fp) rfl rfl rfl hc i [] s3 a4 H3 _ I3 (a0 rfl d1) b8 go) λr s4 U=> ?_
   obtain⟨u,hr,h4⟩:=U
   subst hr
   refine cX h4 λ_ s5 U=> ?_
   obtain⟨x,H5,I5,r5,y5,b2,d3⟩:=U
   have d2:=I5.pinned (a0 rfl d3) (T.obj _ _ b2)
   refine cX (hg P2.objs.size f H2 fp _ s5 a4 H5 x u _ d2 r5 (b7 x H5 y5)) λ_ s6 U=> ?_
   obtain⟨K,H6,I6,q6⟩:=U
   refine cX (ht P2.objs.size f H2 fp _ s6 K H6 _ I6 q6) λok s7 U=> ?_
   obtain⟨H7,I7,q7⟩:=U
   have again:∀{s8:Shared} {H8:Hp},Inv (aO X N a R P2.objs.size f H2 fp) ([]++n_ fp s5.heap) K H8 s8->Nx K H8->∃m,m<n/\∃i a1 Z,Inv (aO X N a R P2.objs.size f H2 fp) [] a1 Z s8/\tn i s8.heap/\(∀b∈fp,Z b=none)/\W i m a1 Z:=λ{s8 H8} I8 n8=>by
    obtain⟨m',hm,w8⟩:=hN K H8 n8
    refine⟨m',hm,i+1,K,H8,I8.unpinned,T.keep _ _ _ b2 λb k o e=>(I8.pin (b,o) (Qoq _ (Qoq _ (dA k e)))).1,λb k=> ?_,w8⟩
    obtain⟨o,e,d⟩:=T.obj _ _ b2 b k
    exact(I8.pin (b,o) (Qoq _ (Qoq _ (dA k e)))).2.1
   cases ok with
   |false=>exact again I7 q7
   | true=>
     refine cX (he P2.objs.size f H2 fp _ s7 K H7 _ I7 q7) λyv s8 U=> ?_
     obtain⟨y,H8,I8,ry,xs,hx,hl,n8⟩:=U
     refine cX (rg (X:=aO X N a R P2.objs.size f H2 fp) _ s8 K H8 (.ref f.heap.objs.size) [y] (.ref f.heap.objs.size) [yv] (λ_ Z=>Nx K Z) I8 rfl (.cons ry .nil) ⟨_,xs,y,rfl,rfl,hx,hl,n8⟩) λ_ s9 U=> ?_
     obtain⟨z,H9,I9,_,q9⟩:=U
     exact again I9 q9
 exact codeAny_compStart_list a6 (T.self _ 0 _ _ _ (T.keep _ _ _ b5 λb _ o e=>Y b o e) a6)
section
variable{X:Cx}
def GU:jY X (.builtin "isinstance") (λxs H Q=>∃x T t b,xs= [x,.ty T]/\sk X.K H x t/\PySem.W.kitOne X.K t (.type T)=some b/\Q (.bl b) H):=by
 intro a s f H xs g Q I r h
 obtain⟨x,T,t,b,rfl,ty,e,q⟩:=h
 obtain⟨u,c,rfl,rx,rt⟩:=vals2 r
 cases (show c=Value.type T from rt)
 exact FY I rx ty e λd=>⟨.bl b,H,I.tok d,rfl,q⟩
def KI:List V->List V->Bool
 | [],[]=>true
 |x::xs,y::ys=>ue x y&&KI xs ys
 |_,_=>false
theorem ED:∀{xs ys:List V},xs.length≠ys.length->KI xs ys=false
 | [],[],h=>absurd rfl h
 | [],_::_,_=>rfl
 |_::_,[],_=>rfl
 | x::xs,y::ys,h=>by
   have:=ED (xs:=xs) (ys:=ys) λe=>h (by simp[e])
   show(ue x y&&KI xs ys)=false
   rw[this,Bool.and_false]
theorem Et:∀{xs ys:List V},xs.length=ys.length->(List.range xs.length).all (λj=>ue (xs.getD j .non) (ys.getD j .non))=KI xs ys
 | [],[],_=>rfl
 | [],_::_,h=>by cases h
 |_::_,[],h=>by cases h
 | x::xs,y::ys,h=>by
   have a:=Et (xs:=xs) (ys:=ys) (Nat.succ.inj h)
   rw[Qnq,List.range_succ_eq_map,List.all_cons,List.all_map]
   show(ue x y&&_)=(ue x y&&KI xs ys)
   rw[←a]
   rfl
def Lc{A:Around}{s:Shared}{xs ys:List V}{a vs:List Value}(r:bG xs a)(r':bG ys vs)(f:xs.all ie=true)(f':ys.all ie=true)(j:Nat)(h:j<a.toArray.size)(n:j<vs.toArray.size):
  SeqAt.EqAt A s a.toArray[j] vs.toArray[j] (ue (xs.getD j .non) (ys.getD j .non)):=by
 have q:=r.length
 have p:=r'.length
 have b:j<xs.length:=by rw[q];simpa using h
 have c:j<ys.length:=by rw[p];simpa using n
 obtain⟨u,i,m⟩:=r.get (gQe b)
 obtain⟨v,e,l⟩:=r'.get (gQe c)
 have k:xs.getD j .non=xs[j]:=by rw[Qlq,gQe b];rfl
 have g:ys.getD j .non=ys[j]:=by rw[Qlq,gQe c];rfl
 have d:a.toArray[j]=u:=by
  have:=(gQs.mp i).2
  simpa using this
 have o:vs.toArray[j]=v:=by
  have:=(gQs.mp e).2
  simpa using this
 rw[d,o,k,g]
 exact HE m l (QUq.mp f _ (List.getElem_mem b)) (QUq.mp f' _ (List.getElem_mem c))
def Pe(K:PySem.W.Frag)(e:Bool):R2:=λx y H Q=>∃a b c d,x=.ref a/\y=.ref b/\i7 K H a c/\i7 K H b d/\c.all ie=true/\d.all ie=true/\Q (.bl (if e then !KI c d else KI c d)) H
def Lo(o:X.A.units<cLine):lD X (compareOp .NotEq) (Pe X.K true):=by
 intro t s J H x y v u Q I z C h
 obtain⟨a,b,f,m,rfl,rfl,ha,hb,fa,fb,q⟩:=h
 cases z
 cases C
 obtain⟨c,r,n,G⟩:=I.list ha
 obtain⟨l,i,d,F⟩:=I.list hb
 by_cases g:f.length=m.length
 ·have k:c.toArray.size=l.toArray.size:=by simp[←r.length,←i.length,g]
  refine SeqAt.RcNeAt.lists (e:=λj=>ue (f.getD j .non) (m.getD j .non)) n.isList d.isList k o (λj w B=>Lc r i fa fb j w B) _ _ _ _ ⟨.bl _,H,I,rfl,?_⟩
  rw[show c.toArray.size=f.length by simp[r.length],Et g]
  exact q
 ·refine SeqAt.RcNeAt.lists_lengths n.isList d.isList (by simpa [←r.length,←i.length] using g) o _ _ _ _ ⟨.bl _,H,I,rfl,?_⟩
  have p:Q (.bl (!KI f m)) H:=q
  rw[ED g] at p
  exact p
end
section
variable{X:Cx}
def A6{bs:List Bool}{a:List Value}(r:bG (bs.map V.bl) a){i:Nat}{v:Value}(h:a.toArray[i]?=some v):v=.bool (bs.getD i false):=by
 have f:i<a.length:=by
  have:=(Array.getElem?_eq_some_iff.mp h).1
  simpa using this
 have l:=r.length
 rw[lQm] at l
 have b:i<bs.length:=by omega
 obtain⟨u,e,q⟩:=r.get (i:=i) (x:=V.bl bs[i]) (by rw[gQm,gQe b];rfl)
 have c:a[i]?=some v:=by simpa using h
 rw[e] at c
 cases c
 have d:bs.getD i false=bs[i]:=by rw[Qlq,gQe b];rfl
 rw[d]
 exact q
theorem B6:∀bs:List Bool,(List.range bs.length).all (λi=>bs.getD i false)=bs.all id
 | []=>rfl
 | b::bs=>by
   rw[Qnq,List.range_succ_eq_map,List.all_cons,List.all_map,List.all_cons,←B6 bs]
   rfl
theorem AR:∀bs:List Bool,(List.range bs.length).any (λi=>bs.getD i false)=bs.any id
 | []=>rfl
 | b::bs=>by
   rw[Qnq,List.range_succ_eq_map,List.any_cons,List.any_map,List.any_cons,←AR bs]
   rfl
def KC(K:PySem.W.Frag)(f:List Bool->Bool):List V->Hp->VK->Prop:=λc H Q=>∃a b,c= [.ref a]/\i7 K H a (b.map V.bl)/\Q (.bl (f b)) H
def Fd(n:X.calm=true):jY X (.builtin "all") (KC X.K λbs=>bs.all id):=by
 intro j s F H t B Q I r h
 obtain⟨a,bs,rfl,ha,q⟩:=h
 obtain⟨u,rfl,rx⟩:=vals1 r
 cases (show u=Value.ref a from rx)
 obtain⟨c,g,d,w⟩:=I.list ha
 have p:c.toArray.size=bs.length:=by have:=g.length;simp at this;simp[this]
 have f:a<s.heap.objs.size:=by obtain⟨o,e,_⟩:=d.isList;exact Qiq e
 refine call_all_walk (wpAny_pyIter_list d.isList ⟨s.heap.objs.size,_,_,_,_,_,λi=>bs.getD i false,rfl,Walks.list (A:=X.A.in1) (show X.A.in1.handled=none from I.ok.hd n) s.heap.objs.size a (Qwq f) c.toArray,⟨⟨_,Qrq _ rfl,rfl,rfl⟩,d.isList.at λo e=>Qcq _ e⟩,?_,λh' x k=> ?_⟩)
 ·intro i v z C y l m
  rw[A6 g l]
  exact wpAny_truthy_bool m
 ·rw[p,B6]
  refine⟨.bl _,H,I.kept (h':=h') λb o e=>k b o ?_ (Qcq _ e),rfl,q⟩
  have:=Qiq e
  simp
  exact Qwq this
def Fj(n:X.calm=true):jY X (.builtin "any") (KC X.K λbs=>bs.any id):=by
 intro j s F H t B Q I r h
 obtain⟨a,bs,rfl,ha,q⟩:=h
 obtain⟨u,rfl,rx⟩:=vals1 r
 cases (show u=Value.ref a from rx)
 obtain⟨c,g,d,w⟩:=I.list ha
 have p:c.toArray.size=bs.length:=by have:=g.length;simp at this;simp[this]
 have f:a<s.heap.objs.size:=by obtain⟨o,e,_⟩:=d.isList;exact Qiq e
 refine call_any_walk (wpAny_pyIter_list d.isList ⟨s.heap.objs.size,_,_,_,_,_,λi=>bs.getD i false,rfl,Walks.list (A:=X.A.in1) (show X.A.in1.handled=none from I.ok.hd n) s.heap.objs.size a (Qwq f) c.toArray,⟨⟨_,Qrq _ rfl,rfl,rfl⟩,d.isList.at λo e=>Qcq _ e⟩,?_,λh' x k=> ?_⟩)
 ·intro i v z C y l m
  rw[A6 g l]
  exact wpAny_truthy_bool m
 ·rw[p,AR]
  refine⟨.bl _,H,I.kept (h':=h') λb o e=>k b o ?_ (Qcq _ e),rfl,q⟩
  have:=Qiq e
  simp
  exact Qwq this
end
end L2
namespace Dk
open PySem
def vX:mroOf (Value.type "dict")=pure [Value.type "dict",Value.type "object"]:=by
 rw[mroOf_type]
 rfl
def tU:typeLookup (Value.type "dict") (Str.ofString "__new__")=pure (some (Value.builtin "dict.__new__")):=by
 rw[typeLookup_type,builtinLookup_eq_fast]
 rfl
def A3:isSubtype (Value.type "dict") (Value.type "dict")=pure true:=by
 rw[isSubtype_type]
 rfl
def iR:plainId "dict.__new__"=true:=by decide +kernel
def dw:TypeCalled "dict" "dict.__new__" "dict.__init__" where
 notType:=by decide +kernel
 canCreate:=by decide +kernel
 mro:=⟨_,_,vX⟩
 made:=madeBy_type vX tU (by decide +kernel)
 plain:=iR
 sub:=A3
 init:=F.slot_dict_init
def t5(a:Value):checkTypeCall "dict" {pos:= [a]}=pure ():=by rfl
def vZ(a:Value):checkBuiltinCall "dict.__new__" {pos:= [Value.type "dict",a]}=pure ():=by with_unfolding_all rfl
def vS:entryFor table "dict.__new__"=some Builtin.«dict.__new__»:=by rfl
def tY{prog:Program}{w:World}{A:Around}{E:Value->Shared->Prop}{s:Shared}(a:Value){Q₁:Value->Shared->Prop}
  (h:Q₁ (.ref s.heap.objs.size) {s with heap:=s.heap.push {cls:=.type "dict",data:=.dict #[]}}):
  codeAny (model prog w) A (.call (.builtin "dict.__new__") {pos:= [.type "dict",a]}) (wants Q₁ E) s:=by
 refine codeAny_of_tree ?_
 show wpAny _ _ (do checkBuiltinCall "dict.__new__" _;_) _ _ _
 refine Qaq (wpAny_of_eq (vZ a) (Qgq ⟨plainId_quiet iR _,codeAny_builtin vS ?_⟩))
 rw[Around.under_plainId iR]
 refine Qaq (Qgq (QgQ rfl (Qaq (wpAny_of_eq A3 (QgQ rfl (Qaq (wpAny_of_eq vX (QgQ ?_ ?_))))))))
 ·rfl
 ·refine Qaq ?_
  have e:newObj (.type "dict") (.dict #[])=newObjAsIs (.type "dict") (.dict #[]):=by
   unfold newObj
   simp
  rw[e]
  exact Qaq (wpAny_alloc (Qgq (Qgq h)))
def A0{prog:Program}{w:World}{A:Around}{E:Value->Shared->Prop}{s:Shared}{a:Value}{Q:Value->Shared->Prop}
  (h:wpAny (model prog w) A.in1.in1 (Builtin.«dict.__init__» {pos:= [.ref s.heap.objs.size,a]})
   (λt l=>match t with|.done f=>wants (λr b=>r=.none/\Q (.ref s.heap.objs.size) b) E (.ok f) l|.again x=>x.quiet=true/\codeAny (model prog w) A.in1 x (wants (λr b=>r=.none/\Q (.ref s.heap.objs.size) b) E) l)
   (λe l=>wants (λr b=>r=.none/\Q (.ref s.heap.objs.size) b) E (.error e) l) {s with heap:=s.heap.push {cls:=.type "dict",data:=.dict #[]}}):
  wpAny (model prog w) A (call (.type "dict") [a]) Q E s:=by
 obtain⟨c,G,k⟩:=dw.mro
 have i:=dw.made
 have j:=dw.sub
 refine wpAny_call (codeAny_of_tree ?_)
 refine Qgq ⟨Code.quiet_builtin _ (by decide +kernel),codeAny_builtin F.entry_type_call ?_⟩
 rw[Around.under_plain (weight_type_call_type "dict" [a] []) rfl]
 have C:=dw.notType
 have B:=dw.canCreate
 have q:=t5 a
 unfold Builtin.«type.__call__»
 dsimp only
 refine QgQ rfl ?_
 refine QgQ (by rw[B];rfl) ?_
 refine Qaq (wpAny_of_eq q (Qaq (wpAny_of_eq k (QgQ rfl (Qaq (wpAny_of_eq i (Qaq (Qgq (Qaq (QLq (wpAny_call (codeAny_mono (tY (E:=E) (Q₁:=λv d=>v=.ref s.heap.objs.size/\d={s with heap:=s.heap.push {cls:=.type "dict",data:=.dict #[]}}) a ⟨rfl,rfl⟩) λr d g=> ?_))))))))))))
 cases r with
 |error e=>exact g
 | ok m=>
   cases m with
   | ret z=>
     obtain⟨rfl,rfl⟩:=g
     have y:=Qrq s.heap (o:={cls:=.type "dict",data:=.dict #[]}) rfl
     have u:Shared.TypeIs {s with heap:=s.heap.push {cls:=.type "dict",data:=.dict #[]}} (.ref s.heap.objs.size) "dict":=⟨_,y,rfl⟩
     have p:=dw.init.lookup
     have n:=dw.init.bind (.ref s.heap.objs.size)
     refine Qaq (wpAny_isInstance u j (QgQ rfl (Qaq (QLq ?_))))
     unfold callSpecial?
     refine Qaq (wpAny_specialOf u p (QLq (Qaq (wpAny_of_eq n (Qaq (wpAny_call (codeAny_mono (codeAny_call_builtin dw.init.plain F.entry_dict_init (dw.init.check _ _ _ _ _ [a] [] _ u (F.args_dict_init_2 _ _) h)) λr b g=> ?_)))))))
     cases r with
     |error e=>exact g
     | ok m=>
       cases m with
       | ret v=>
         obtain⟨rfl,hq⟩:=g
         exact Qgq (QgQ rfl (Qgq hq))
       |_=>exact g.elim
   |_=>exact g.elim
def lj:entryFor table "dict.update.loop"=some Builtin.«dict.update.loop»:=by rfl
def hZ:plainId "dict.update.loop"=true:=by decide +kernel
section
variable{prog:Program}{w:World}{K:Type}[DecidableEq K]{knd:KeyKind prog w K}
def C9(a:List (K×Value))(k:K)(v:Value):(stored a k v).length<=a.length+1:=by
 unfold stored
 split
 ·rw[lQm];omega
 ·rw[lQa];simp
def Lw(a:Nat->K)(b:Nat->Value):Nat->List (K×Value)
 |0=> []
 |i+1=>stored (Lw a b i) (a i) (b i)
theorem Ea(a:Nat->K)(b:Nat->Value):∀i,(Lw a b i).length<=i
 |0=>Qmq _
 |i+1=>QAq (C9 _ _ _) (Nat.succ_le_succ (Ea a b i))
end
end Dk
namespace L2
open PySem PySem.Spec PyProof.Rows
section
variable{X:Cx}
def key_is{k:Key}{u:Value}(r:RelV (kV k) u)(P:Program)(w:World):(bZ P w).is k u=true:=by
 cases k with
 |inl i=>obtain⟨t,rfl⟩:=(show∃t,u=Value.int i t from r);simp[bZ,tj,Value.isInt]
 |inr x=>obtain⟨t,rfl⟩:=(show∃t,u=Value.str x t from r);simp[bZ,tj,Value.isStrOf]
end
end L2
namespace Dk
open PySem
end Dk
namespace L2
open PySem PySem.Spec PyProof.Rows
def JG{X:Cx}{N:List Str}{js:List (Option Nat)}{a:Scope}{Y:List (Str×Addr)}{tg M a6 L:Expr}{b0:List Expr}{pos b3:Pos}{wi:TI}{g gt:TG}{tt:TT}{te:TE}
  (S:aI X N js a Y) (hc:X.calm=true) (hi:PI X tg M wi)
  (hg:∀C s H fp,PG (aO X N a Y C s H fp) tg g) (ht:∀C s H fp,pq (aO X N a Y C s H fp) b0 tt) (he:∀C s H fp,PE (aO X N a Y C s H fp) a6 te) (d8:PG X L gt)
  (hs:∀x,foldedSetIterable M X.env x=pure x:=by intro _;rfl) (e2:swapsWithSole [L] (.ListComp a6 [⟨tg,M,b0,0⟩] a pos) b3.line X.env=pure true:=by rfl)
  (h1:(assignEach [L] X.env).map (·.2)= [assign L X.env]:=by rfl):PS X (.Assign [L] (.ListComp a6 [⟨tg,M,b0,0⟩] a pos) b3) (Fc (G1 js wi g tt te) gt):=by
 intro U s σ H Dn I h
 rw[exec_Assign_arm]
 refine Qaq (wpAny_standAt (Qaq (wpAny_of_eq e2 (wpAny_ite_true rfl (Qaq ?_)))))
 rw[h1]
 show wpAny _ _ (do let _←comprehension _ _ _ _ _ _ _ (some λv=>assignAll v [assign L X.env]);pure ()) _ _ _
 refine Qaq ?_
 refine wpAny_comprehension_free (use:=some λv=>assignAll v [assign L X.env]) rfl hs S.clos S.kind S.names (cX (hi U s σ H _ I h) λv s1 h1=>cX h1 λe3 k h2=> ?_)
 obtain⟨it,fp,tn,J,H2,e,t,T,b6,f2,hD⟩:=h2
 subst e
 refine QhQ (wpAny_newFunctionEnv S.nocell (by intro y hy;simp at hy) (λP G B=> ?_) S.kind)
 dsimp only at G B⊢
 generalize b4:k.heap.push {cls:=.type "list",dict:=none,data:=.seq ([]:List Value).toArray}=P2 at G B⊢
 have hC:P2.objs.size=k.heap.objs.size+1:=by rw[←b4,Heap.size_push]
 have c8:k.heap.objs.size≠P2.objs.size:=by rw[hC];exact Qwq (Nat.lt_succ_self _)
 have a3:k.heap.objs.size<=P2.objs.size:=by rw[hC];exact Nat.le_succ _
 have K:∀b,b<k.heap.objs.size->b≠P2.objs.size:=λb f=>by rw[hC];exact Qwq (Nat.lt_succ_of_lt f)
 have a0:∀b o,k.heap.get? b=some o->P.get? b=some o:=λb o e=>B.extBut b o (K b (Qiq e)) (Qcq _ (b4▸Qcq _ e))
 have d2:P.get? k.heap.objs.size=some {cls:=.type "list",dict:=none,data:=.seq ([]:List Value).toArray}:=B.extBut _ _ c8 (Qcq _ (b4▸Qrq _ rfl))
 have nD:H2 k.heap.objs.size=none:=t.fresh
 have nC:H2 P2.objs.size=none:=t.hok.fresh a3
 have b7:∀b∈fp,b<k.heap.objs.size:=λb f=>by
  obtain⟨o,e,_⟩:=T.obj _ _ b6 b f
  exact Qiq e
 obtain⟨W,⟨m0,w0⟩,c6⟩:=hD k.heap.objs.size nD
 have d1:(aO X N a Y P2.objs.size k H2 fp).Ok:=by
  refine⟨t.ok.mod,S.kind,t.ok.glob,t.ok.blt,a3,λx y c h1 h2=>t.ok.inj x y c (S.sub x c h1) (S.sub y c h2),S.has,(λx c h=>by cases h),t.ok.hd,t.ok.frames,.inl rfl,
   λb f=>⟨K b (b7 b f),λx c h=>(f2 b f).2.2.2.2.1 x c (S.sub x c h)⟩,t.bs,QAq t.ok.bsz t.sz,λb o e f=> ?_,λb f z=> ?_,t.stack,t.stkFree⟩
  ·rcases(f2 b f).2.2.2.1 with z|z
   ·exact t.ok.noex b o e z
   ·exact absurd (Qqq (Qqq (Qiq e) t.ok.bsz) z) (Nat.lt_irrefl _)
  ·rcases Qsq.mp (t.stkSub b z) with q|q
   ·exact(f2 b f).2.1 q
   ·exact(f2 b f).2.2.1 q
 have c5:dh X.prog X.w (upd H2 k.heap.objs.size (.lst [])) P k.heap.objs.size (.lst []):=⟨Nat.zero_le _,[],0,.nil,d2⟩
 have I4:Inv (aO X N a Y P2.objs.size k H2 fp) [] (kb js σ) (upd H2 k.heap.objs.size (.lst [])) {k with heap:=P,toks:=k.toks+([]:List (Str×Value)).length}:=by
  refine⟨d1,rfl,t.bare,Un.laid a0 (Qmq _) nD,⟨_,G,λi x v h1 h2 h3=> ?_⟩,λx c h=> ?_,by show upd H2 _ _ P2.objs.size=none;rw[bt c8.symm];exact nC,λx c h=> ?_,λp hp=>absurd (show p∈([]:List (Addr×Obj)) from hp) (by simp),t.hok.laid a0 (Qmq _) c5,by show(kb js σ).length=N.length;unfold kb;rw[lQm];exact S.len⟩
  ·unfold kb at h2
   rw[gQm] at h2
   cases e:js[i]? with
   |none=>rw[e] at h2;cases h2
   | some o=>
     rw[e] at h2
     cases o with
     |none=>cases h2
     | some j=>
       have a4:σ.getD j none=some v:=QdQ h2
       have hj:σ[j]?=some (some v):=by
         rw[Qlq] at a4
         cases q:σ[j]? with
         |none=>rw[q] at a4;cases a4
         |some y=>rw[q] at a4;exact congrArg some a4
       obtain⟨c1,c2,c3⟩:=S.cap i j x e h1
       obtain⟨m,hn,hl⟩:=t.loc
       have d9:KD X.env.scope x:=by
         rcases c2 with z|z
         · exact .inr (.inl z)
         · exact .inr (.inr z)
       obtain⟨u,r,l⟩:=hl j x v c1 hj d9
       refine⟨u,r,.inr ⟨c3,?_⟩⟩
       obtain⟨c,c4⟩:=S.has x c3
       refine⟨c,c4,?_⟩
       rcases l with⟨z,_⟩|⟨_,c',e',z⟩
       · rcases c2 with y|y <;>rw[y] at z <;>cases z
       · rw[S.sub x c c4] at e'
         cases e'
         obtain⟨o,ho,hd⟩:=z
         exact⟨o,a0 _ _ ho,hd⟩
  ·obtain⟨v,o,ho,hd⟩:=t.cell x c (S.sub x c h)
   exact⟨v,o,a0 _ _ ho,hd⟩
  ·obtain⟨v,o,ho,hd⟩:=t.cell x c (S.sub x c h)
   rw[bt (Qwq (Qiq ho))]
   exact t.freeC x c (S.sub x c h)
 have a1:∀{R:List (Addr×Obj)} {H':Hp},R= []->(∀b∈fp,H' b=none)->∀b∈fp,qS (aO X N a Y P2.objs.size k H2 fp) R H' b:=λ{R H'} ep hn b f=>by
  subst ep
  refine⟨hn b f,K b (b7 b f),λz=>d1.exfs b f z,.inl f,λx c h=>(f2 b f).2.2.2.2.1 x c (S.sub x c h),λp hp=>absurd (show p∈([]:List (Addr×Obj)) from hp) (by simp)⟩
 have b2:codeAny (model X.prog X.w) X.A (.compLoop (.ListComp a6 [⟨tg,M,b0,0⟩] a pos) 0 (.ref it) (.ref k.heap.objs.size) (compEnvC a Y P2.objs.size X.env))
   (compPost (model X.prog X.w) X.A X.xe (some λv=>assignAll v [assign L X.env]) (λ_ s9=>wpAny (model X.prog X.w) X.A (pure ()) (λ_ e0=>wpAny (model X.prog X.w) X.A (pure Flow.next) (SP X U Dn) X.xe e0) X.xe s9) (.ref k.heap.objs.size) P2.objs.size) {k with heap:=P,toks:=k.toks+([]:List (Str×Value)).length}:=by
  refine qk (λn s'=>∃i a2 H',Inv (aO X N a Y P2.objs.size k H2 fp) [] a2 H' s'/\tn i s'.heap/\(∀b∈fp,H' b=none)/\W i n a2 H') ?_ m0
   ⟨0,_,_,I4,T.keep _ _ _ b6 λb _ o e=>a0 b o e,λb f=>by rw[bt (Qwq (b7 b f))];exact(f2 b f).1,w0⟩
  rintro n s3 ⟨i,b1,H3,I3,b9,d3,w3⟩
  rcases c6 i n b1 H3 w3 with⟨stop,q⟩|⟨go,Nx,hN,b8⟩
  ·refine cX (T.done (aO X N a Y P2.objs.size k H2 fp) rfl rfl rfl hc i [] s3 b1 H3 _ I3 (a1 rfl d3) b9 stop) λr s4 Q=> ?_
   obtain⟨hr,I5⟩:=Q
   subst hr
   obtain⟨m,hn,_⟩:=id I5.loc
   have d7:∀h',Heap.SameBut P2.objs.size s4.heap h'->Inv X U σ H3 {s4 with heap:=h'}:=by
    intro h' Z
    have u:=I5.base
    have ne:∀b o,k.heap.get? b=some o->b≠P2.objs.size:=λb o e=>K b (Qiq e)
    refine t.call' (ch:=fp) I5.os ⟨λb o e n f hx=>(Z.2 b (ne b o e)).trans (u.keep b o e n f hx),λb o e n f hx=> ?_,u.free,λb o e hx=> ?_,u.tups,u.frzs,u.tbls⟩ (λb ob e=> ?_) I5.bare λb f=>⟨(f2 b f).2.2.2.1,(f2 b f).2.1,(f2 b f).2.2.2.2.1,(f2 b f).2.2.2.2.2⟩
    ·obtain⟨sl,e1⟩:=u.slot b o e n f hx
     exact⟨sl,(Z.2 b (ne b o e)).trans e1⟩
    ·obtain⟨o',e1⟩:=u.there b o e hx
     exact⟨o',(Z.2 b (ne b o e)).trans e1⟩
    ·refine(I5.hok b ob e).stay (λc w' hc q=>(Z.2 c ?_).trans q) (λ_ q=>q) λ_ _ q=>q
     have fC:H3 P2.objs.size=none:=I5.free
     rintro rfl
     rcases hc with z|z
     ·rw[←z,fC] at e;cases e
     ·rw[fC] at z;cases z
   have IX:=d7 s4.heap ⟨rfl,λ_ _=>rfl⟩
   have a5:qS X U H3 P2.objs.size:=t.fpOk a3 I5.free
   obtain⟨oC,es,ep,c0,wy,d5⟩:=hn
   have IP:=IX.pinned (fp:= [P2.objs.size]) (λb f=>by rw[Qfq] at f;rw[f];exact a5) (λb f=>by rw[Qfq] at f;rw[f];exact⟨oC,c0,λv=>by rw[wy];simp⟩)
   show wpAny _ _ (assignAll (.ref k.heap.objs.size) [assign L X.env]) _ _ _
   rw[assignAll.eq_2]
   refine cX (d8 _ s4 σ H3 (.ref k.heap.objs.size) (.ref k.heap.objs.size) _ IP rfl q) λ_ s6 Q=> ?_
   obtain⟨F,H6,I6,q6⟩:=Q
   have pC:=I6.pin (P2.objs.size,oC) (Qoq _ (Qoq _ (dA (Qfq.mpr rfl) c0)))
   refine⟨m,⟨oC,es,ep,pC.1,wy,d5⟩,λh' Z=>Qgq (Qgq ⟨F,H6,?_,q6⟩)⟩
   exact I6.unpinned.turned (it:=P2.objs.size) (t':=s6.toks) (λb o' f e=>(Z.2 b f).trans e) pC.2.1 pC.2.2.1 a5.2.2.2.1 a5.2.2.2.2.1 a5.2.2.2.2.2
  ·refine cX (T.item (aO X N a Y P2.objs.size k H2 fp) rfl rfl rfl hc i [] s3 b1 H3 _ I3 (a1 rfl d3) b9 go) λr s4 Q=> ?_
   obtain⟨u,hr,h4⟩:=Q
   subst hr
   refine cX h4 λ_ s5 Q=> ?_
   obtain⟨x,H5,I5,r5,y5,b5,d6⟩:=Q
   have d4:=I5.pinned (a1 rfl d6) (T.obj _ _ b5)
   refine cX (hg P2.objs.size k H2 fp _ s5 b1 H5 x u _ d4 r5 (b8 x H5 y5)) λ_ s6 Q=> ?_
   obtain⟨F,H6,I6,q6⟩:=Q
   refine cX (ht P2.objs.size k H2 fp _ s6 F H6 _ I6 q6) λok s7 Q=> ?_
   obtain⟨H7,I7,q7⟩:=Q
   have again:∀{s8:Shared} {H8:Hp},Inv (aO X N a Y P2.objs.size k H2 fp) ([]++n_ fp s5.heap) F H8 s8->Nx F H8->∃m,m<n/\∃i a2 H',Inv (aO X N a Y P2.objs.size k H2 fp) [] a2 H' s8/\tn i s8.heap/\(∀b∈fp,H' b=none)/\W i m a2 H':=λ{s8 H8} I8 n8=>by
    obtain⟨m',hm,w8⟩:=hN F H8 n8
    refine⟨m',hm,i+1,F,H8,I8.unpinned,T.keep _ _ _ b5 λb f o e=>(I8.pin (b,o) (Qoq _ (Qoq _ (dA f e)))).1,λb f=> ?_,w8⟩
    obtain⟨o,e,d⟩:=T.obj _ _ b5 b f
    exact(I8.pin (b,o) (Qoq _ (Qoq _ (dA f e)))).2.1
   cases ok with
   |false=>exact again I7 q7
   | true=>
     refine cX (he P2.objs.size k H2 fp _ s7 F H7 _ I7 q7) λyv s8 Q=> ?_
     obtain⟨y,H8,I8,ry,xs,hx,hl,n8⟩:=Q
     refine cX (rg (X:=aO X N a Y P2.objs.size k H2 fp) _ s8 F H8 (.ref k.heap.objs.size) [y] (.ref k.heap.objs.size) [yv] (λ_ H'=>Nx F H') I8 rfl (.cons ry .nil) ⟨_,xs,y,rfl,rfl,hx,hl,n8⟩) λ_ s9 Q=> ?_
     obtain⟨z,H9,I9,_,q9⟩:=Q
     exact again I9 q9
 exact codeAny_compStart_list b2 (T.self _ 0 _ _ _ (T.keep _ _ _ b6 λb _ o e=>a0 b o e) b2)
end L2
namespace Dk
open PySem
end Dk
namespace L2
open PySem PySem.Spec PyProof.Rows
section
variable{X:Cx}
def JI(K:PySem.W.Frag):List V->Hp->VK->Prop:=λd H Q=>∃(a:Addr) (c:List Str),d= [.ref a]/\i7 K H a (c.map V.str)/\c.length<64/\∀(l:Addr) (b:List Str),H l=none->sortedS b=true->b.Perm c->Q (.ref l) (upd H l (.lst (b.map V.str)))
theorem xS:∀{ys:List Str} {a:List Value},bG (ys.map V.str) a->StrsAre a ys
 | [],_,r=>by cases r;exact .nil
 | y::ys,_,r=>by
   cases r with
   | cons h t=>
     obtain⟨b,rfl⟩:=h
     exact .cons y b (xS t)
def y7{ss:List Str}{vs:List Value}(h:StrsAre vs ss):bG (ss.map V.str) vs:=by
 induction h with
 |nil=>exact .nil
 |cons y t _ a=>exact .cons ⟨t,rfl⟩ a
def y0:jY X (.builtin "sorted") (JI X.K):=by
 intro m s B H y A Q I r h
 obtain⟨a,j,rfl,ha,h64,q⟩:=h
 obtain⟨u,rfl,rx⟩:=vals1 r
 cases (show u=Value.ref a from rx)
 obtain⟨c,l,t,z⟩:=I.list ha
 have p:c.length=j.length:=by have:=l.length;simpa using this.symm
 have g:s.heap.objs.size<=s.heap.objs.size+1:=Nat.le_succ _
 refine sorted_strs t.isList (xS l) (by omega) λd f w k n=> ?_
 obtain⟨e,v⟩:=sortedAll_at s.heap c d
 have i:f.length=j.length:=k.length_eq
 refine⟨.ref (s.heap.objs.size+1),_,I.laid (a:=s.heap.objs.size+1) (o:=.lst (f.map V.str)) (h':=sortedAll s.heap c d) (t':=s.toks) (λb o x=> ?_) g ⟨?_,d.toList,e,y7 w,?_⟩,rfl,q _ f (I.hok.fresh g) n k⟩
 ·exact sortedAll_old x
 ·rw[lQm,i]
  exact QAq (nQl h64) (by decide)
 ·simpa using v
end
end L2
namespace Zp
open PySem
section
variable{prog:Program}{w:World}{A:Around}{E:Value->Shared->Prop}{s:Shared}
def M8{i t:Addr}{k:Nat}{vs:Array Value}{v:Value}{Q:Value->Shared->Prop}(c:s.heap.IsTupleIter i t k)(g:s.heap.IsTuple t vs)(f:vs[k]?=some v)
  (q:∀h',h'.IsTupleIter i t (k+1)->Heap.SameBut i s.heap h'->Q v {s with heap:=h'}):wpAny (model prog w) A (Builtin.SmallTypes.nextOf (.ref i)) Q E s:=by
 obtain⟨m,b,e,a⟩:=id c
 obtain⟨l,h,_,j,d⟩:=g
 unfold Builtin.SmallTypes.nextOf
 refine Qaq (QiQ (name:=Str.ofString "__next__") c.typeIs F.slot_tuple_iterator_next (wpAny_call_entry F.slot_tuple_iterator_next c.typeIs F.entry_tuple_iterator_next ?_ (F.args_tuple_iterator_next_1 _)))
 refine(?_:wpAny _ _ (field (.ref i) 0 >>= _) _ _ s)
 refine Qaq (QMq b a (x:=.ref t) rfl ?_)
 refine(?_:wpAny _ _ (if (Value.ref t==Value.none)=true then _ else _) _ _ s)
 rw[Quq (λz=>by cases (show false=true from z))]
 refine(?_:wpAny _ _ (field (.ref i) 1 >>= _) _ _ s)
 refine Qaq (QMq b a (x:=.int k 0) rfl ?_)
 refine(?_:wpAny _ _ (seqItems? (.ref t) >>= _) _ _ s)
 refine Qaq (wpAny_seqItems h d ?_)
 simp only[Int.toNat_natCast,f]
 refine Qaq (wpAny_setField b a (by simp) (Qgq ⟨v,rfl,Qgq (q _ ⟨_,Heap.get?_update_self _ b (Obj.isFreed_of_fields (Obj.data_mapFields a _)),(Obj.cls_mapFields ..).trans e,?_⟩ (Heap.SameBut.update ..))⟩))
 rw[Obj.data_mapFields a]
 simp[rawInt]
def NI{i t:Addr}{k:Nat}{vs:Array Value}{Q:Value->Shared->Prop}(f:A.handled=none)(d:s.heap.IsTupleIter i t k)(j:s.heap.IsTuple t vs)(h:vs[k]?=none)
  (q:∀h' e,Heap.ExtBut i s.heap h'->(∃o,h'.get? e=some o/\o.cls=.type "StopIteration")->E (.ref e) {s with heap:=h'}):wpAny (model prog w) A (Builtin.SmallTypes.nextOf (.ref i)) Q E s:=by
 obtain⟨u,b,r,c⟩:=id d
 obtain⟨p,l,_,n,g⟩:=j
 unfold Builtin.SmallTypes.nextOf
 refine Qaq (QiQ (name:=Str.ofString "__next__") d.typeIs F.slot_tuple_iterator_next (wpAny_call_entry F.slot_tuple_iterator_next d.typeIs F.entry_tuple_iterator_next ?_ (F.args_tuple_iterator_next_1 _)))
 refine(?_:wpAny _ _ (field (.ref i) 0 >>= _) _ _ s)
 refine Qaq (QMq b c (x:=.ref t) rfl ?_)
 refine(?_:wpAny _ _ (if (Value.ref t==Value.none)=true then _ else _) _ _ s)
 rw[Quq (λz=>by cases (show false=true from z))]
 refine(?_:wpAny _ _ (field (.ref i) 1 >>= _) _ _ s)
 refine Qaq (QMq b c (x:=.int k 0) rfl ?_)
 refine(?_:wpAny _ _ (seqItems? (.ref t) >>= _) _ _ s)
 refine Qaq (wpAny_seqItems l g ?_)
 simp only[Int.toNat_natCast,h]
 refine Qaq (wpAny_rule (Qaq (wpAny_setField b c (by simp) ?_)))
 refine(?_:wpAny _ _ (newExc (.type "StopIteration") [] >>= _) _ _ _)
 refine Qaq ?_
 simp only[newExc,newTuple]
 refine Qaq (QhQ ?_ (by size_fits))
 refine Qaq (m:=firstArgMember _ _) (wpAny_of_eq (a:=Value.none) (by first|rfl|(simp only[firstArgMember];rfl)) (QhQ ?_ (by size_fits)))
 simp only[raiseNew]
 refine Qaq (wpAny_handled ?_)
 first|rw[show A.in1.handled=none from f]|rw[f]
 exact Qaq (Qgq (wpAny_throw (q _ _ (((Heap.SameBut.update ..).extBut.push _).push _) ⟨_,Qrq _ rfl,rfl⟩)))
end
def Rest(z O i j:Addr)(h h':Heap):Prop:=∀c o,c≠z->c≠O->c≠i->c≠j->h.get? c=some o->h'.get? c=some o
end Zp
namespace L2
open PySem PySem.Spec PyProof.Rows
section
variable{X:Cx}{pins:List (Addr×Obj)}{σ:St}{H:Hp}{s:Shared}{h':Heap}
def Inv.turnedL{t':Nat}{fp:List Addr}(I:Inv X pins σ H s)(d:∀b∈fp,qS X pins H b)(k:∀b o,b∉fp->s.heap.get? b=some o->h'.get? b=some o):Inv X pins σ H {s with heap:=h',toks:=t'}:=by
 have f:∀b u,H b=some u->b∉fp:=λb u e z=>by rw[(d b z).1] at e;cases e
 refine I.step (g':=s.gens) (d':=s.drawn) (ch:=fp) (λb g=>⟨(d b g).2.2.2.1,(d b g).2.1,(d b g).2.2.2.2.1,(d b g).2.2.2.2.2⟩) (λb o _ _ a e _=>k b o a e) (λb o _ _ a e _=>⟨o.slots,k b o a e⟩) (λ_ _ _ _ n=>n)
  (λb o a e=>⟨o,k b o a e⟩) (λ_ _ e=>e) (λ_ _ _ e=>e) (λb p e=>⟨#[],by rw[e];simp⟩) (λm i=> ?_) (λb u e=> ?_) I.bare
 ·obtain⟨o,l,h,j,r⟩:=i
  exact⟨o,l,h,k _ o (λz=>(d _ z).2.1 rfl) j,r⟩
 ·refine(I.hok b u e).stay (λc v a q=>k c v ?_ q) (λ_ q=>q) λ_ _ q=>q
  rcases a with z|z
  ·rw[z];exact f b u e
  ·exact f c _ z
def Inv.turnedNew{t':Nat}{fp:List Addr}{p:Addr}{o:HO}(I:Inv X pins σ H s)(f:∀b∈fp,qS X pins H b)(k:∀b u,b∉fp->s.heap.get? b=some u->h'.get? b=some u)(i:s.heap.objs.size<=p)
  (new:dh X.prog X.w (upd H p o) h' p o):Inv X pins σ (upd H p o) {s with heap:=h',toks:=t'}:=by
 have j:=I.hok.fresh i
 have g:∀b u,H b=some u->b∉fp:=λb u e z=>by rw[(f b z).1] at e;cases e
 have h:∀b u,H b=some u->upd H p o b=some u:=λb u e=>by rw[bt (fL e j)];exact e
 refine I.step (g':=s.gens) (d':=s.drawn) (ch:=fp) (λb a=>⟨(f b a).2.2.2.1,(f b a).2.1,(f b a).2.2.2.2.1,(f b a).2.2.2.2.2⟩) (λb o _ _ d e _=>k b o d e) (λb o _ _ d e _=>⟨o.slots,k b o d e⟩)
  (λb u _ e n=>by rw[bt (λz=>Nat.lt_irrefl _ (Qqq (Qiq e) (by rw[z];exact i)))];exact n)
  (λb o d e=>⟨o,k b o d e⟩) (λb A e=>h b _ e) (λb u v e=>h b _ e) (λb B e=>⟨#[],by rw[h b _ e];simp⟩) (λm t=> ?_) (λb u e=> ?_) I.bare
 ·obtain⟨o,y,l,x,r⟩:=t
  exact⟨o,y,l,k _ o (λz=>(f _ z).2.1 rfl) x,r⟩
 ·by_cases a:b=p
  ·subst a
   rw[cj] at e
   cases e
   exact new
  ·rw[bt a] at e
   refine(I.hok b u e).stay (λc v d q=>k c v ?_ q) (λc q=>h c _ q) λc _ q=>h c _ q
   rcases d with z|z
   ·rw[z];exact g b u e
   ·exact g c _ z
end
end L2
namespace Zp
open PySem PySem.W PyProof.Rows
def rS:KasT (Array Nat)->List (Array Nat)
 |.ret p=> [p]
 |.ask _ _ k=>rS (k true)++rS (k false)
def vc(n:Nat):KasT (Array Nat)->Bool
 |.ret _=>true
 |.ask i j k=>decide (i<n)&&decide (j<n)&&decide (i≠j)&&vc n (k true)&&vc n (k false)
def uo:∀n:Nat,n<=3->2<=n->vc n (kas_sort n)=true/\(rS (kas_sort n)).all (λp=>p.toList.isPerm (List.range n))=true:=by
 intro n b a
 have:n=2\/n=3:=by omega
 rcases this with rfl|rfl
 ·decide +kernel
 ·decide +kernel
inductive eR(h:Heap):List Value->List Str->Prop
 |nil:eR h [] []
 |cons {a:Addr} {o:Obj} {xs:Array Value} {n:Nat} {x:Str} {t:Tok} {vs:List Value} {fs:List Str}:h.get? a=some o->o.cls=.type "tuple" ->o.data=.seq xs n->xs[0]?=some (.str x t)->eR h vs fs->eR h (.ref a::vs) (x::fs)
theorem eR.keep{h h':Heap}(k:∀a o,h.get? a=some o->o.cls=.type "tuple" ->h'.get? a=some o):∀{vs:List Value} {fs:List Str},eR h vs fs->eR h' vs fs
 |_,_,.nil=>.nil
 |_,_,.cons e c d f r=>.cons (k _ _ e c) c d f (r.keep k)
theorem eR.len{h:Heap}:∀{vs:List Value} {fs:List Str},eR h vs fs->vs.length=fs.length
 |_,_,.nil=>rfl
 |_,_,.cons _ _ _ _ r=>congrArg (·+1) r.len
theorem eR.get{h:Heap}:∀{vs:List Value} {fs:List Str} {i:Nat},eR h vs fs->i<fs.length->∃a o xs n t,vs.getD i Value.none=.ref a/\h.get? a=some o/\o.data=.seq xs n/\xs[0]?=some (.str (fs.getD i "") t)
 |_,_,0,.cons e c d f r,_=>⟨_,_,_,_,_,rfl,e,d,f⟩
 | _,_,i+1,.cons e c d f r,hi=>by
   have:=r.get (i:=i) (by simpa using hi)
   simpa using this
 |_,_,_,.nil,hi=>by simp at hi
theorem eR.firsts{h:Heap}:∀{vs:List Value} {fs:List Str},eR h vs fs->∃a:List Value,KatTups h vs a/\a.length=fs.length/\∀v∈a,∃x t,v=.str x t
 |_,_,.nil=>⟨[],KatTups.nil,rfl,by simp⟩
 | _,_,.cons e c d f r=>by
   obtain⟨a,k,l,m⟩:=r.firsts
   exact⟨_::a,KatTups.cons e c d f k,by simp[l],λv b=>by
     rcases Qsq.mp b with z|z
     · exact⟨_,_,z⟩
     · exact m v z⟩
end Zp
namespace L2
open PySem PySem.Spec PyProof.Rows
section
variable{X:Cx}
def Jd:lD X (binaryOp .Mult) (rI IntMulOk λi j=>.int (i*j)):=Ou λ_ _ _ _ _ _ _ a q=>mul_int q a
inductive xx(H:Hp):List Addr->List Str->Prop
 |nil:xx H [] []
 |cons {a:Addr} {x:Str} {us:List V} {rs:List Addr} {ss:List Str}:H a=some (.tup (.str x::us))->xx H rs ss->xx H (a::rs) (x::ss)
theorem BU{b:List (Addr×Obj)}{d:St}{H:Hp}{s:Shared}(I:Inv X b d H s):∀{rs:List Addr} {ss:List Str},xx H rs ss->Zp.eR s.heap (rs.map Value.ref) ss
 |_,_,.nil=>.nil
 | _,_,.cons (a:=a) h r=>by
   obtain⟨f,i,⟨o,c,e,n,j⟩,l⟩:=I.tuple (jj.of h)
   cases i with
   | cons g k=>
     obtain⟨t,rfl⟩:=g
     exact .cons (t:=t) c e j (by simp) (BU I r)
theorem xm:∀{rs:List Addr} {b:List Value},bG (rs.map V.ref) b->b=rs.map Value.ref
 | [],_,r=>by cases r;rfl
 | a::rs,_,r=>by
   cases r with
   | cons h t=>
     cases h
     rw[xm t]
     rfl
theorem vP:∀(rs:List Addr),bG (rs.map V.ref) (rs.map Value.ref)
 | []=>.nil
 |a::rs=>.cons rfl (vP rs)
end
section
variable{X:Cx}
def GZ:NX X (λx y H Q=>∃p xs k v,x=.ref p/\y=.int ((k:Nat):Int)/\i7 X.K H p xs/\xs[k]?=some v/\Q v H):=by
 intro b s n H x y v u Q I e g h
 obtain⟨p,xs,k,z,rfl,rfl,hq,he,q⟩:=h
 cases e
 obtain⟨t,rfl⟩:=g
 obtain⟨d,r,c,m⟩:=I.list hq
 obtain⟨i,f,a⟩:=r.get he
 have j:k<xs.length:=(gQs.mp he).1
 have l:=mW
 exact wpAny_getItem_list c.isList (x:=i) (Int.natCast_nonneg k) (by omega) (by simpa using f) ⟨z,H,I,a,q⟩
end
section
variable{X:Cx}
def GT(K:PySem.W.Frag):R2:=λx y H Q=>∃a b c,x=.ref a/\y=.ref b/\i7 K H a c/\i7 K H b []/\Q (.bl (!c.isEmpty)) H
def IJ(f:X.A.units<cLine):lD X (compareOp .NotEq) (GT X.K):=by
 intro c s m H x y v u Q I e g h
 obtain⟨a,b,k,rfl,rfl,ha,hb,q⟩:=h
 cases k with
 |nil=>exact Lo f c s m H _ _ v u Q I e g ⟨a,b,[],[],rfl,rfl,ha,hb,rfl,rfl,q⟩
 | cons z B=>
   cases e
   cases g
   obtain⟨l,r,j,w⟩:=I.list ha
   obtain⟨o,i,d,p⟩:=I.list hb
   have t:=r.length
   have n:=i.length
   exact SeqAt.RcNeAt.lists_lengths j.isList d.isList (by simp[←t,←n]) f _ _ _ _ ⟨.bl true,H,I,rfl,q⟩
end
end L2
namespace HT
open PySem PySem.Spec PyProof.Rows
section
variable{prog:Program}{w:World}{A:Around}{E:Value->Shared->Prop}{s:Shared}
def nF{t b:Addr}{items:Array Value}{i f:Value}{lo hi:Option Int}{Q:Value->Shared->Prop}(ht:IsTup s.heap t items)(hs:s.heap.IsSliceOf b i f .none)(k:IsPart i lo)(n:IsPart f hi)
  (g:fI items.size 0 lo=0/\fI items.size items.size hi=items.size) (h:Q (.ref t) s):wpAny (model prog w) A (getItem (.ref t) (.ref b)) Q E s:=by
 obtain⟨o,d,c,j⟩:=id hs
 have e:s.TypeIs (.ref b) "slice":=⟨o,d,c⟩
 unfold getItem
 try with_reducible refine QLq ?_
 first|refine Qaq (Qgq ?_)|skip
 refine Qaq (wpAny_sequenceKey ht.typeIs (by decide) ?_)
 refine Qaq (QiQ (name:=Str.ofString "__getitem__") ht.typeIs PyProof.Rows.slot_tuple_getitem
  (wpAny_call_entry PyProof.Rows.slot_tuple_getitem ht.typeIs entry_tuple_getitem ?_ (args_tuple_getitem _ _)))
 show wpAny _ _ (Builtin.Tuple.tupleItemsOf (.ref t) >>= _) _ _ s
 refine Qaq (tupleItemsOf_ ht ?_)
 refine Qaq (wpAny_typeOf e ?_)
 rw[Qhq (by decide)]
 refine Qaq (jM hs k n ?_)
 have a:(((fI items.size 0 lo:Nat):Int)==0&&(1:Int)==1&&(fI items.size items.size hi-fI items.size 0 lo)==items.size)=true:=by
  rw[g.1,g.2]
  simp
 show wpAny _ _ (if (((fI items.size 0 lo:Nat):Int)==0&&(1:Int)==1&&(fI items.size items.size hi-fI items.size 0 lo)==items.size)=true then _ else _) _ _ s
 rw[Qhq a]
 have l:∀{A:Around} {E:Value->Shared->Prop} {R:Bool->Shared->Prop},R true s->wpAny (model prog w) A (Builtin.Tuple.tupleIsExact (.ref t)) R E s:=λ{A E R} h=>by
  unfold Builtin.Tuple.tupleIsExact
  exact Qaq (wpAny_typeOf ht.typeIs (Qgq h))
 refine Qaq (m:=Builtin.Tuple.tupleIsExact _) (l ?_)
 rw[Qhq rfl]
 refine Qaq (wpAny_rule ?_)
 exact Qgq ⟨_,rfl,Qgq h⟩
end
end HT
namespace L2
open PySem PySem.Spec PyProof.Rows
def OL(K:PySem.W.Frag):V->Option Int->Option Int->Hp->VK->Prop:=λx c d H Q=>∃a b,x=.ref a/\jj K H a b∧
 (HT.fI b.length 0 c=0/\HT.fI b.length b.length d=b.length->Q (.ref a) H)/\(¬(HT.fI b.length 0 c=0/\HT.fI b.length b.length d=b.length)->∀p,H p=none->Q (.ref p) (upd H p (.tup (DE b c d))))
def Ka{X:Cx}:Pm X (OL X.K):=by
 intro d s t H x v q p k n o Q I m g i j h
 obtain⟨a,b,rfl,hx,q1,q2⟩:=h
 by_cases e:HT.fI b.length 0 k=0/\HT.fI b.length b.length n=b.length
 ·cases m
  obtain⟨f,r,l,u⟩:=I.tuple hx
  have c:f.toArray.size=b.length:=by rw[Qjq];exact r.length.symm
  refine⟨"tuple",_,PyProof.Rows.slot_tuple_getitem.lookup,l.typeIs,?_⟩
  exact HT.nF l g i j (by rw[c];exact e) ⟨.ref a,H,I,rfl,q1 e⟩
 ·exact K5 d s t H _ v q p k n o Q I m g i j ⟨a,b,rfl,hx,e,q2 e⟩
end L2
namespace DL
open PySem PySem.Spec PyProof.Rows L2
inductive D where
 |non|bl (b:Bool)|int (i:Int)|str (x:Str)|tup (xs:List D)|ref (k:Nat)|fn (x:Str)
inductive O where
 |lst (xs:List D)|frz (xs:List D)|dct (kvs:List (Key×D))
abbrev aD:=List O
abbrev cy:=List (Option D)
structure Md where
 K:PySem.W.Frag
 mg:Str->Option Value
mutual
inductive Rel(M:Md)(ρ:List Addr)(H:Hp):D->V->Prop
 |non:Rel M ρ H .non .non
 |bl (b:Bool):Rel M ρ H (.bl b) (.bl b)
 |int (i:Int):Rel M ρ H (.int i) (.int i)
 |str (x:Str):Rel M ρ H (.str x) (.str x)
 |tup {a:Addr} {vs:List V} {ds:List D}:H a=some (.tup vs)->a8 M ρ H ds vs->Rel M ρ H (.tup ds) (.ref a)
 |ref {k:Nat} {a:Addr}:ρ[k]?=some a->Rel M ρ H (.ref k) (.ref a)
 |fn {x:Str} {a:Addr}:M.mg x=some (.ref a)->Rel M ρ H (.fn x) (.ref a)
inductive a8(M:Md)(ρ:List Addr)(H:Hp):List D->List V->Prop
 |nil:a8 M ρ H [] []
 |cons {d:D} {v:V} {ds:List D} {vs:List V}:Rel M ρ H d v->a8 M ρ H ds vs->a8 M ρ H (d::ds) (v::vs)
end
section
variable{M:Md}{ρ ρ':List Addr}{H H':Hp}
def QD:HO->Prop
 |.tup _=>True
 |.frz _ _=>True
 |_=>False
structure cB(ρ:List Addr)(H:Hp)(ρ':List Addr)(H':Hp):Prop where
 pre:ρ <+: ρ'
 new:∀a∈ρ',a∈ρ\/H a=none
 keep:∀a o,H a=some o->a∉ρ\/QD o->H' a=some o
 grow:∀a,H' a=none->H a=none
def cB.refl:cB ρ H ρ H:=⟨List.prefix_refl _,λ_ h=>.inl h,λ_ _ h _=>h,λ_ h=>h⟩
def cB.trans{d b:List Addr}{H1 H2:Hp}(e:cB ρ H d H1)(f:cB d H1 b H2):cB ρ H b H2 where
 pre:=e.pre.trans f.pre
 new:=λa h=>(f.new a h).elim (λh=>e.new a h) λh=>.inr (e.grow a h)
 keep:=λa o h c=>f.keep a o (e.keep a o h c) (c.imp (λn m=>(e.new a m).elim n λz=>by rw[z] at h;cases h) id)
 grow:=λa h=>e.grow a (f.grow a h)
def cB.laid{a:Addr}{o:HO}(h:H a=none):cB ρ H ρ (upd H a o) where
 pre:=List.prefix_refl _
 new:=λ_ h=>.inl h
 keep:=λb c e _=>by rw[bt];exact e;intro z;subst z;rw[h] at e;cases e
 grow:=λb e=>by
  by_cases z:b=a
  ·subst z;exact h
  ·rw[bt z] at e;exact e
theorem mT{α:Type}:∀{l:List α},l.Nodup->∀{i j:Nat} {a:α},l[i]?=some a->l[j]?=some a->i=j
 | [],_,_,_,_,h,_=>by simp at h
 |x::l,n,0,0,_,_,_=>rfl
 | x::l,n,0,j+1,a,h1,h2=>by
   rw[List.nodup_cons] at n
   simp at h1 h2
   subst h1
   exact absurd (mQg h2) n.1
 | x::l,n,i+1,0,a,h1,h2=>by
   rw[List.nodup_cons] at n
   simp at h1 h2
   subst h2
   exact absurd (mQg h1) n.1
 | x::l,n,i+1,j+1,a,h1,h2=>by
   rw[List.nodup_cons] at n
   simp at h1 h2
   exact congrArg (·+1) (mT n.2 h1 h2)
def cD{α e:Type}{a c:α}{b d:e}(h:some (a,b)=some (c,d)):a=c/\b=d:=by cases h;exact⟨rfl,rfl⟩
def de{α:Type}{l l':List α}(h:l <+: l'){k:Nat}{a:α}(e:l[k]?=some a):l'[k]?=some a:=by
 obtain⟨t,rfl⟩:=h
 rw[QHq (gQs.mp e).1]
 exact e
mutual
theorem Rel.ext(e:cB ρ H ρ' H'):∀{d:D} {v:V},Rel M ρ H d v->Rel M ρ' H' d v
 |_,_,.non=>.non
 |_,_,.bl b=>.bl b
 |_,_,.int i=>.int i
 |_,_,.str x=>.str x
 |_,_,.tup h hs=>.tup (e.keep _ _ h (.inr trivial)) (a8.ext e hs)
 |_,_,.ref h=>.ref (de e.pre h)
 |_,_,.fn h=>.fn h
theorem a8.ext(e:cB ρ H ρ' H'):∀{ds:List D} {vs:List V},a8 M ρ H ds vs->a8 M ρ' H' ds vs
 |_,_,.nil=>.nil
 |_,_,.cons h hs=>.cons (Rel.ext e h) (a8.ext e hs)
end
mutual
theorem Rel.pre(e:ρ <+: ρ'):∀{d:D} {v:V},Rel M ρ H d v->Rel M ρ' H d v
 |_,_,.non=>.non
 |_,_,.bl b=>.bl b
 |_,_,.int i=>.int i
 |_,_,.str x=>.str x
 |_,_,.tup h hs=>.tup h (a8.pre e hs)
 |_,_,.ref h=>.ref (de e h)
 |_,_,.fn h=>.fn h
theorem a8.pre(e:ρ <+: ρ'):∀{ds:List D} {vs:List V},a8 M ρ H ds vs->a8 M ρ' H ds vs
 |_,_,.nil=>.nil
 |_,_,.cons h hs=>.cons (Rel.pre e h) (a8.pre e hs)
end
theorem a8.length:∀{ds:List D} {vs:List V},a8 M ρ H ds vs->ds.length=vs.length
 |_,_,.nil=>rfl
 |_,_,.cons _ h=>congrArg (·+1) h.length
theorem a8.append:∀{ds a:List D} {vs ws:List V},a8 M ρ H ds vs->a8 M ρ H a ws->a8 M ρ H (ds++a) (vs++ws)
 |_,_,_,_,.nil,h=>h
 |_,_,_,_,.cons h hs,h'=>.cons h (hs.append h')
theorem a8.get:∀{ds:List D} {vs:List V} {i:Nat} {d:D},a8 M ρ H ds vs->ds[i]?=some d->∃v,vs[i]?=some v/\Rel M ρ H d v
 |_,_,0,_,.cons h _,e=>by cases e;exact⟨_,rfl,h⟩
 |_,_,i+1,_,.cons _ hs,e=>hs.get (i:=i) (by simpa using e)
 |_,_,_,_,.nil,e=>by simp at e
theorem a8.set{d:D}{v:V}(h:Rel M ρ H d v):∀{ds:List D} {vs:List V} (i:Nat),a8 M ρ H ds vs->a8 M ρ H (ds.set i d) (vs.set i v)
 |_,_,_,.nil=>.nil
 |_,_,0,.cons _ t=>.cons h t
 |_,_,i+1,.cons q t=>.cons q (a8.set h i t)
theorem a8.take:∀{ds:List D} {vs:List V} (n:Nat),a8 M ρ H ds vs->a8 M ρ H (ds.take n) (vs.take n)
 |_,_,0,_=>.nil
 |_,_,_+1,.nil=>.nil
 |_,_,n+1,.cons h hs=>.cons h (hs.take n)
theorem a8.drop:∀{ds:List D} {vs:List V} (n:Nat),a8 M ρ H ds vs->a8 M ρ H (ds.drop n) (vs.drop n)
 |_,_,0,h=>h
 |_,_,_+1,.nil=>.nil
 |_,_,n+1,.cons _ hs=>hs.drop n
theorem a8.eraseIdx:∀{ds:List D} {vs:List V} (n:Nat),a8 M ρ H ds vs->a8 M ρ H (ds.eraseIdx n) (vs.eraseIdx n)
 |_,_,_,.nil=>.nil
 |_,_,0,.cons _ h=>h
 |_,_,n+1,.cons h hs=>.cons h (hs.eraseIdx n)
def a8.dropLast{ds:List D}{vs:List V}(h:a8 M ρ H ds vs):a8 M ρ H ds.dropLast vs.dropLast:=by
 rw[List.dropLast_eq_take,List.dropLast_eq_take,h.length]
 exact h.take _
theorem a8.rep{ds:List D}{vs:List V}(h:a8 M ρ H ds vs):∀k:Nat,a8 M ρ H (List.replicate k ds).flatten (List.replicate k vs).flatten
 |0=>.nil
 |k+1=>by rw[QNq,QNq,List.flatten_cons,List.flatten_cons];exact h.append (h.rep k)
def cE(M:Md)(ρ:List Addr)(H:Hp):List (Key×D)->List (Key×V)->Prop
 | [],kv=>kv= []
 |(k,d)::r,kv=>∃v t,kv=(k,v)::t/\Rel M ρ H d v/\cE M ρ H r t
theorem cE.imp{ρ':List Addr}{H':Hp}(f:∀d v,Rel M ρ H d v->Rel M ρ' H' d v):∀{l:List (Key×D)} {kv:List (Key×V)},cE M ρ H l kv->cE M ρ' H' l kv
 | [],_,h=>h
 |(_,_)::_,_,⟨v,t,e,h,hs⟩=>⟨v,t,e,f _ _ h,cE.imp f hs⟩
theorem cE.length:∀{l:List (Key×D)} {kv:List (Key×V)},cE M ρ H l kv->l.length=kv.length
 | [],_,h=>by cases h;rfl
 |(_,_)::_,_,⟨v,t,e,h,hs⟩=>by subst e;exact congrArg (·+1) hs.length
def pV(M:Md)(ρ:List Addr)(H:Hp)(a:Addr):O->Prop
 |.lst d=>∃b,H a=some (.lst b)/\a8 M ρ H d b
 |.frz d=>∃b o,H a=some (.frz o (.lst b))/\a8 M ρ H d b
 |.dct c=>∃e,H a=some (.dK e)/\cE M ρ H c e
structure fY(M:Md)(ρ:List Addr)(S:aD)(H:Hp):Prop where
 len:ρ.length=S.length
 nd:ρ.Nodup
 obj:∀(k:Nat) (a:Addr) (o:O),ρ[k]?=some a->S[k]?=some o->pV M ρ H a o
def pV.lay{a b:Addr}{o:O}{u:HO}(h:pV M ρ H a o)(i:H b=none):pV M ρ (upd H b u) a o:=by
 have e:cB ρ H ρ (upd H b u):=cB.laid i
 have g:∀{x},H a=some x->upd H b u a=some x:=λ{x} h=>by rw[bt];exact h;intro z;subst z;rw[i] at h;cases h
 cases o with
 |lst l=>obtain⟨f,c,d⟩:=h;exact⟨f,g c,d.ext e⟩
 |frz l=>obtain⟨f,o,c,d⟩:=h;exact⟨f,o,g c,d.ext e⟩
 |dct k=>obtain⟨j,c,d⟩:=h;exact⟨j,g c,d.imp λ_ _ r=>r.ext e⟩
def fY.lay{S:aD}{b:Addr}{u:HO}(h:fY M ρ S H)(e:H b=none):fY M ρ S (upd H b u):=⟨h.len,h.nd,λk a o c d=>(h.obj k a o c d).lay e⟩
theorem pV.pre{a:Addr}{o:O}(e:ρ <+: ρ')(h:pV M ρ H a o):pV M ρ' H a o:=by
 cases o with
 |lst i=>obtain⟨d,b,c⟩:=h;exact⟨d,b,c.pre e⟩
 |frz i=>obtain⟨d,o,b,c⟩:=h;exact⟨d,o,b,c.pre e⟩
 |dct g=>obtain⟨f,b,c⟩:=h;exact⟨f,b,c.imp λ_ _ r=>r.pre e⟩
def fY.box{S:aD}{a:Addr}{o:O}(h:fY M ρ S H)(j:a∉ρ)(l:pV M (ρ++ [a]) H a o):fY M (ρ++ [a]) (S++ [o]) H where
 len:=by rw[lQa,lQa,h.len];rfl
 nd:=by rw[List.nodup_append];exact⟨h.nd,by simp,λx g y f=>by rw[Qfq] at f;subst f;exact λz=>j (z▸g)⟩
 obj:=λk b u d e=>by
  by_cases c:k<ρ.length
  ·rw[QHq c] at d
   rw[QHq (h.len▸c)] at e
   exact(h.obj k b u d e).pre (List.prefix_append _ _)
  ·have c:ρ.length<=k:=Nat.le_of_not_lt c
   rw[QQq c] at d
   rw[QQq (h.len▸c)] at e
   have z:k-ρ.length=0:=by
    have:=(gQs.mp d).1
    simp at this
    omega
   have i:k-S.length=0:=by rw[←h.len];exact z
   rw[z] at d
   rw[i] at e
   cases d
   cases e
   exact l
def fY.put{S:aD}{k:Nat}{a:Addr}{o w:O}{u:HO}(h:fY M ρ S H)(i:ρ[k]?=some a)(K:S[k]?=some o)(G:pV M ρ (upd H a u) a w)(L:∀x,H a=some x->¬QD x):fY M ρ (S.set k w) (upd H a u)/\cB ρ H ρ (upd H a u):=by
 have C:a∈ρ:=mQg i
 have e:cB ρ H ρ (upd H a u):=by
  refine⟨List.prefix_refl _,λ_ h=>.inl h,λb x v c=> ?_,λb m=> ?_⟩
  ·rw[bt]
   ·exact v
   ·intro z
    subst z
    exact c.elim (λn=>n C) λB=>L _ v B
  ·by_cases z:b=a
   ·subst z;rw[cj] at m;cases m
   ·rw[bt z] at m;exact m
 refine⟨⟨by rw[List.length_set];exact h.len,h.nd,λj b p d l=> ?_⟩,e⟩
 by_cases c:j=k
 ·subst c
  rw[i] at d
  cases d
  rw[Qyq (gQs.mp K).1] at l
  cases l
  exact G
 ·rw[QKq (Ne.symm c)] at l
  have s:b≠a:=by
   intro z
   subst z
   have A:=(gQs.mp d)
   have y:=(gQs.mp i)
   obtain⟨A,P⟩:=A
   obtain⟨y,N⟩:=y
   exact c (mT h.nd d i)
  have q:=h.obj j b p d l
  cases p with
  |lst F=>obtain⟨t,g,f⟩:=q;exact⟨t,by rw[bt s];exact g,f.ext e⟩
  |frz F=>obtain⟨t,o,g,f⟩:=q;exact⟨t,o,by rw[bt s];exact g,f.ext e⟩
  |dct J=>obtain⟨I,g,f⟩:=q;exact⟨I,by rw[bt s];exact g,f.imp λ_ _ r=>r.ext e⟩
end
structure En(M:Md)(ρ:List Addr)(H:Hp)(Γ:cy)(σ:L2.St):Prop where
 len:σ.length=Γ.length
 get:∀(i:Nat) (d:D),Γ[i]?=some (some d)->∃v,σ[i]?=some (some v)/\Rel M ρ H d v
def En.ext{M:Md}{ρ a:List Addr}{H f:Hp}{c:cy}{b:L2.St}(h:En M ρ H c b)(e:cB ρ H a f):En M a f c b:=⟨h.len,λi d q=>by obtain⟨v,g,j⟩:=h.get i d q;exact⟨v,g,j.ext e⟩⟩
def En.set{M:Md}{ρ:List Addr}{H:Hp}{a:cy}{b:L2.St}{i:Nat}{d:D}{v:V}(h:En M ρ H a b)(r:Rel M ρ H d v):En M ρ H (a.set i (some d)) (b.set i (some v)) where
 len:=by rw[List.length_set,List.length_set];exact h.len
 get:=λj e q=>by
  by_cases c:i=j
  ·subst c
   have l:i<a.length:=by
    have:=(gQs.mp q).1
    rwa [List.length_set] at this
   rw[Qyq l] at q
   cases q
   exact⟨v,Qyq (h.len▸l),r⟩
  ·rw[QKq c] at q⊢
   exact h.get j e q
structure Ok(M:Md)(ρ:List Addr)(Γ:cy)(S:aD)(σ:L2.St)(H:Hp):Prop where
 en:En M ρ H Γ σ
 st:fY M ρ S H
def Ok.to{M:Md}{ρ a:List Addr}{f:cy}{S d:aD}{c:L2.St}{H b:Hp}(h:Ok M ρ f S c H)(e:cB ρ H a b)(s:fY M a d b):Ok M a f d c b:=⟨h.en.ext e,s⟩
abbrev bD:=cy->aD->Option (D×aD)
abbrev h_:=cy->aD->Option (List D×aD)
abbrev jE:=cy->aD->Option (Bool×aD)
def tD(M:Md)(f:bD):TE:=λh H Q=>∃e g S d c,Ok M e g S h H/\f g S=some (d,c)/\∀a v b,cB e H a b->fY M a c b->Rel M a b d v->Q v b
def tL(M:Md)(f:h_):TE:=λj H Q=>∃e h S i d,Ok M e h S j H/\f h S=some (i,d)∧
 ∀b a g c,cB e H b c->fY M b d c->H a=none->a∉b->c a=some (.lst g)->a8 M b c i g->Q (.ref a) c
def AB(M:Md)(f:h_):TA:=λi H Q=>∃d g S h c,Ok M d g S i H/\f g S=some (h,c)/\∀a e b,cB d H a b->fY M a c b->a8 M a b h e->Q e b
def tB(M:Md)(f:jE):TT:=λh H Q=>∃e g S b d,Ok M e g S h H/\f g S=some (b,d)/\∀a c,cB e H a c->fY M a d c->Q b c
section
variable{X:Cx}
abbrev md(X:Cx):Md:=⟨X.K,X.mg⟩
def j_{e:Expr}{t t':TE}(h:PE X e t)(w:∀b H Q,t' b H Q->t b H Q):PE X e t':=λa s b H Q I q=>h a s b H Q I (w _ _ _ q)
def Oq{e:Expr}{t t':TT}(h:PT X e t)(w:∀b H Q,t' b H Q->t b H Q):PT X e t':=λa s b H Q I q=>h a s b H Q I (w _ _ _ q)
def Qj{e:Expr}{t t':TT}(h:PW X e t)(w:∀b H Q,t' b H Q->t b H Q):PW X e t':=λc a s b H Q I q=>h c a s b H Q I (w _ _ _ q)
def QP{d:List Expr}{t t':TA}(h:PA X d t)(w:∀b H Q,t' b H Q->t b H Q):PA X d t':=λc a s b H Q I q=>h c a s b H Q I (w _ _ _ q)
def Ew{e:Stmt}{t t':TS}(h:PS X e t)(w:∀D b H,t' D b H->t D b H):PS X e t':=λa s b H D I q=>h a s b H D I (w _ _ _ q)
def NP{e:List Stmt}{t t':TS}(h:tX X e t)(w:∀D b H,t' D b H->t D b H):tX X e t':=λa s b H D I q=>h a s b H D I (w _ _ _ q)
noncomputable def ar(i:Nat):bD:=λa S=>match a[i]? with
 |some (some d)=>some (d,S)
 |_=>none
def FF{i:Nat}{b:cy}{S:aD}{d:D}{a:aD}(h:ar i b S=some (d,a)):b[i]?=some (some d)/\a=S:=by
 unfold ar at h
 split at h
 ·cases h;exact⟨by assumption,rfl⟩
 ·cases h
def N6{e:Expr}{i:Nat}(h:PE X e (Lk i)):PE X e (tD (md X) (ar i)):=j_ h λj H Q c=>by
 obtain⟨f,l,S,d,k,ok,e,q⟩:=c
 obtain⟨g,rfl⟩:=FF e
 obtain⟨v,a,b⟩:=ok.en.get i d g
 exact⟨v,a,q f v H cB.refl ok.st b⟩
noncomputable def cF(d:D):bD:=λ_ S=>some (d,S)
def kU{e:Expr}{v:V}{d:D}(h:PE X e (tC v))(r:∀ρ H,Rel (md X) ρ H d v):PE X e (tD (md X) (cF d)):=j_ h λb H Q a=>by
 obtain⟨ρ,f,S,g,c,ok,e,q⟩:=a
 cases e
 exact q ρ v H cB.refl ok.st (r _ _)
def mB{i:Int}{j pos}:PE X (.Constant (.int i) j pos) (tD (md X) (cF (.int i))):=kU KW λ_ _=>.int i
def QW{b:Bool}{j pos}:PE X (.Constant (.bool b) j pos) (tD (md X) (cF (.bl b))):=kU MC λ_ _=>.bl b
def P1{j pos}:PE X (.Constant .none j pos) (tD (md X) (cF .non)):=kU LV λ_ _=>.non
def NN{x:Str}{j pos}:PE X (.Constant (.str x) j pos) (tD (md X) (cF (.str x))):=kU Ly λ_ _=>.str x
def bM(f:h_):bD:=λb S=>(f b S).bind λ(c,a)=>some (.ref a.length,a++ [.lst c])
def GV{e:Expr}{f:h_}(h:PE X e (tL (md X) f)):PE X e (tD (md X) (bM f)):=j_ h λA H Q v=>by
 obtain⟨r,l,S,d,z,ok,e,q⟩:=v
 unfold bM at e
 cases i:f l S with
 |none=>rw[i] at e;cases e
 | some p=>
   obtain⟨s,n⟩:=p
   rw[i] at e
   obtain⟨rfl,rfl⟩:=cD e
   refine⟨r,l,S,s,n,ok,i,λg a m y x k o t u w=> ?_⟩
   have j:=w.pre (List.prefix_append g [a])
   refine q (g++ [a]) (.ref a) y ⟨x.pre.trans (List.prefix_append _ _),λb c=> ?_,x.keep,x.grow⟩ (k.box t ⟨m,u,j⟩) (.ref ?_)
   · rcases mQa.mp c with c|c
     · exact x.new b c
     · rw[Qfq] at c;subst c;exact .inr o
   · rw[←k.len,QQq (Qmq _)]
     simp
noncomputable def av:h_:=λ_ S=>some ([],S)
noncomputable def aq(f:bD)(g:h_):h_:=λa S=>(f a S).bind λ(d,c)=>(g a c).bind λ(e,b)=>some (d::e,b)
def au{α c:Type}{o:Option α}{f:α->Option c}{b:c}(h:o.bind f=some b):∃a,o=some a/\f a=some b:=by
 cases o with
 |none=>cases h
 |some a=>exact⟨a,rfl,h⟩
def iK:PA X [] (AB (md X) av):=QP g9 λc H Q a=>by
 obtain⟨b,g,S,d,f,ok,e,q⟩:=a
 cases e
 exact q b [] H cB.refl ok.st .nil
def cR{e:Expr}{a:List Expr}{f:bD}{g:h_}(y:PE X e (tD (md X) f))(A:PA X a (AB (md X) g))(hs:starEach (e::a) X.env=(false,eval e X.env)::starEach a X.env:=by rfl):PA X (e::a) (AB (md X) (aq f g)):=
 QP (d0 y A hs) λC H Q z=>by
  obtain⟨r,m,S,d,B,ok,e,q⟩:=z
  obtain⟨⟨x,j⟩,t,e⟩:=au e
  obtain⟨⟨p,s⟩,o,e⟩:=au e
  obtain⟨rfl,rfl⟩:=cD e
  refine⟨r,m,S,x,j,ok,t,λi v H1 l b w=>⟨i,m,j,p,s,ok.to l b,o,λh n H2 k c u=> ?_⟩⟩
  exact q h (v::n) H2 (l.trans k) c (.cons (w.ext k) u)
def a_(f:h_):bD:=λc S=>(f c S).bind λ(a,b)=>if a.length<=sizeLine then some (.tup a,b) else none
def NW{j:List Expr}{f:h_}{k pos}(h:PA X j (AB (md X) f)):PE X (.Tuple j k pos) (tD (md X) (a_ f)):=j_ (Mb h) λw H Q s=>by
 obtain⟨m,t,S,d,v,ok,e,q⟩:=s
 obtain⟨⟨o,l⟩,n,e⟩:=au e
 dsimp only at e
 split at e
 ·rename_i c
  obtain⟨rfl,rfl⟩:=cD e
  refine⟨m,t,S,o,l,ok,n,λg u H1 r a i=>⟨i.length▸c,λp b=> ?_⟩⟩
  exact q g (.ref p) _ (r.trans (cB.laid b)) (a.lay b) (.tup cj (i.ext (cB.laid b)))
 ·cases e
def bu(f:h_):h_:=λc S=>(f c S).bind λ(a,b)=>if a.length<=sizeLine then some (a,b) else none
def dZ{M:Md}{ρ a:List Addr}{S:aD}{H c:Hp}{p:Addr}(x:cB ρ H a c)(st:fY M a S c)(b:c p=none):p∉a:=λm=>by
 obtain⟨k,d⟩:=List.getElem?_of_mem m
 have l:k<S.length:=st.len▸(gQs.mp d).1
 have:=st.obj k p _ d (gQe l)
 cases e:S[k] with
 |lst g=>rw[e] at this;obtain⟨f,h,_⟩:=this;rw[b] at h;cases h
 |frz g=>rw[e] at this;obtain⟨f,o,h,_⟩:=this;rw[b] at h;cases h
 |dct g=>rw[e] at this;obtain⟨f,h,_⟩:=this;rw[b] at h;cases h
def HJ{k:List Expr}{f:h_}{pos}(h:PA X k (AB (md X) f)):PE X (.List k pos) (tL (md X) (bu f)):=j_ (Ll h) λv H Q s=>by
 obtain⟨n,t,S,d,u,ok,e,q⟩:=s
 obtain⟨⟨r,m⟩,o,e⟩:=au e
 dsimp only at e
 split at e
 ·rename_i c
  obtain⟨rfl,rfl⟩:=cD e
  refine⟨n,t,S,r,m,ok,o,λi l H1 g a j=>⟨j.length▸c,λp b=> ?_⟩⟩
  exact q i p l _ (g.trans (cB.laid b)) (a.lay b) (g.grow p b) (dZ g a b) cj (j.ext (cB.laid b))
 ·cases e
end
section
variable{X:Cx}{a b c e:Expr}{pos:Pos}
def Hd:lD X (binaryOp .Add) (λx y H Q=>∃a b ys,x=.ref a/\y=.ref b/\jj X.K H a []/\jj X.K H b ys/\Q (.ref b) H):=by
 intro z s S H x y v u Q I J P h
 obtain⟨a,b,ys,rfl,rfl,ha,m,q⟩:=h
 cases J
 cases P
 obtain⟨G,N,C,_⟩:=I.tuple ha
 obtain⟨g,R,m,_⟩:=I.tuple m
 cases N
 obtain⟨⟨L,M,t,A⟩,r,w,n,o⟩:=id C
 obtain⟨⟨p,j,k,l⟩,i,d,B,f⟩:=id m
 simp only at w o d f
 subst w o d f
 exact concat_meets ⟨_,r,rfl⟩ ⟨_,i,rfl⟩ noFill_tuple_add seq_tuple_add PySem.F.slot_tuple_add PySem.F.entry_tuple_add (PySem.F.args_tuple_add_2 _ _)
   (tuple_addW0 a b _ g.toArray n B M j A l (by simp)) ⟨r,i,.ref b,H,I,rfl,q⟩
abbrev w9:=aD->D->D->Option D
def nE(M:Md)(r:R2)(o:w9):Prop:=∀{f:List Addr} {S:aD} {H:Hp} {x y d:D} {u v:V} {Q:VK},fY M f S H->Rel M f H x u->Rel M f H y v->o S x y=some d->(∀w g,cB f H f g->fY M f S g->Rel M f g d w->Q w g)->r u v H Q
noncomputable def aR(o:w9)(f g:bD):bD:=λi S=>(f i S).bind λ(x,j)=>(g i j).bind λ(y,h)=>(o h x y).bind λd=>some (d,h)
def tK{r:R2}{o:w9}{f g:bD}(I:nE (md X) r o)(h:PE X e (IT r (tD (md X) f) (tD (md X) g))):PE X e (tD (md X) (aR o f g)):=j_ h λR H Q J=>by
 obtain⟨A,t,S,d,N,ok,e,q⟩:=J
 obtain⟨⟨x,n⟩,C,e⟩:=au e
 obtain⟨⟨y,B⟩,z,e⟩:=au e
 obtain⟨P,u,e⟩:=au e
 obtain⟨rfl,rfl⟩:=cD e
 refine⟨A,t,S,x,n,ok,C,λm v H1 s j G=>⟨m,t,n,y,B,ok.to s j,z,λl w H2 p k F=> ?_⟩⟩
 exact I k (G.ext p) F u λM H3 K i L=>q l M H3 ((s.trans p).trans K) i L
def cx:w9:=λ_ x y=>match x,y with
 |.int i,.int j=>some (.int (i+j))
 |.str i,.str j=>if i.length+j.length<=sizeLine then some (.str (i++j)) else none
 |.tup i,.tup j=>if i.length+j.length<=sizeLine then some (.tup (i++j)) else none
 |_,_=>none
abbrev Na(K:PySem.W.Frag):R2:=λx y H Q=>(∃i j,x=.int i/\y=.int j/\Q (.int (i+j)) H)\/(∃i j,x=.str i/\y=.str j/\i.length+j.length<=sizeLine/\Q (.str (i++j)) H)∨
 (∃a b d,x=.ref a/\y=.ref b/\jj K H a []/\jj K H b d/\Q (.ref b) H)\/KM K x y H Q
def Kj:lD X (binaryOp .Add) (Na X.K):=L4.or (Ci.or (Hd.or Jx))
def Lj{M:Md}:nE M (Na M.K) cx:=by
 intro w S H x y d u v Q g o m e q
 cases o with
 |int i=>cases m <;>simp only[cx,reduceCtorEq] at e;cases e;exact .inl ⟨_,_,rfl,rfl,q _ _ cB.refl g (.int _)⟩
 | str i=>
   cases m <;>simp only[cx,reduceCtorEq] at e
   split at e <;>cases e
   exact .inr (.inl ⟨_,_,rfl,rfl,by assumption,q _ _ cB.refl g (.str _)⟩)
 | tup k h=>
   cases m with
   | tup n j=>
     simp only[cx] at e
     split at e <;>cases e
     rename_i t
     have s:=h.length
     have r:=j.length
     cases h with
     |nil=>exact .inr (.inr (.inl ⟨_,_,_,rfl,rfl,jj.of k,jj.of n,q _ _ cB.refl g (.tup n j)⟩))
     | cons h f=>
       refine .inr (.inr (.inr ⟨_,_,_,_,rfl,rfl,jj.of k,jj.of n,by simp,by rw[←s,←r];exact t,λz=> ?_,λz p l=> ?_⟩))
       · subst z
         cases j
         rw[List.append_nil] at q
         exact q _ _ cB.refl g (.tup k (.cons h f))
       · exact q _ _ (cB.laid l) (g.lay l) (.tup cj ((a8.append (.cons h f) j).ext (cB.laid l)))
   |_=>simp only[cx,reduceCtorEq] at e
 |_=>simp only[cx,reduceCtorEq] at e
def QM{f g:bD}(h:PE X a (tD (md X) f))(d:PE X b (tD (md X) g)):PE X (.BinOp a .Add b pos) (tD (md X) (aR cx f g)):=tK Lj (sV Kj h d)
def intD(C:Int->Int->Prop)[∀i j,Decidable (C i j)](k:Int->Int->D):w9:=λ_ x y=>match x,y with
 |.int i,.int j=>if C i j then some (k i j) else none
 |_,_=>none
def zB{M:Md}{C:Int->Int->Prop}[∀i j,Decidable (C i j)]{k:Int->Int->D}{g:Int->Int->V}(f:∀i j ρ H,Rel M ρ H (k i j) (g i j)):nE M (rI C g) (intD C k):=by
 intro ρ S H x y d u v Q h m l e q
 cases m <;>cases l <;>simp only[intD,reduceCtorEq] at e
 split at e <;>cases e
 exact⟨_,_,rfl,rfl,by assumption,q _ _ cB.refl h (f _ _ _ _)⟩
def qo{M:Md}{k:Int->Int->D}{g:Int->Int->V}(f:∀i j ρ H,Rel M ρ H (k i j) (g i j)):nE M (FH g) (intD (λ_ _=>True) k):=by
 intro ρ S H x y d u v Q h m l e q
 cases m <;>cases l <;>simp only[intD,reduceCtorEq] at e
 rw[Qhq trivial] at e
 cases e
 exact⟨_,_,rfl,rfl,q _ _ cB.refl h (f _ _ _ _)⟩
instance{i j:Int}:Decidable (G4 i j):=by unfold G4;infer_instance
instance{i j:Int}:Decidable (GA i j):=by unfold GA;infer_instance
open Classical in
noncomputable instance{i j:Int}:Decidable (IntMulOk i j):=Classical.propDecidable _
abbrev jv:w9:=intD (λ_ _=>True) λi j=>.int (i-j)
noncomputable abbrev nH:w9:=intD IntMulOk λi j=>.int (i*j)
abbrev t7:w9:=intD (λ_ j=>0<j) λi j=>.int (i%j)
abbrev Ar:w9:=intD G4 λi j=>.int (i/j)
abbrev yt:w9:=intD GA λi j=>.int (i^j.toNat)
def P7{f g:bD}(h:PE X a (tD (md X) f))(d:PE X b (tD (md X) g)):PE X (.BinOp a .Sub b pos) (tD (md X) (aR jv f g)):=tK (qo λi j _ _=>.int _) (sV LJ h d)
def Qg{f g:bD}(h:PE X a (tD (md X) f))(d:PE X b (tD (md X) g)):PE X (.BinOp a .Mult b pos) (tD (md X) (aR nH f g)):=tK (zB λi j _ _=>.int _) (sV Jd h d)
def Qo{f g:bD}(h:PE X a (tD (md X) f))(d:PE X b (tD (md X) g)):PE X (.BinOp a .Mod b pos) (tD (md X) (aR t7 f g)):=tK (zB λi j _ _=>.int _) (sV Lr h d)
def Pn{f g:bD}(h:PE X a (tD (md X) f))(d:PE X b (tD (md X) g)):PE X (.BinOp a .FloorDiv b pos) (tD (md X) (aR Ar f g)):=tK (zB λi j _ _=>.int _) (sV Kl h d)
def Qy{f g:bD}(h:PE X a (tD (md X) f))(d:PE X b (tD (md X) g)):PE X (.BinOp a .Pow b pos) (tD (md X) (aR yt f g)):=tK (zB λi j _ _=>.int _) (sV Ls h d)
def hU(f:bD):bD:=λh S=>(f h S).bind λ(d,g)=>match d with
 |.int i=>some (.int (-i),g)
 |_=>none
def Qb{f:bD}(l:PE X a (tD (md X) f)):PE X (.UnaryOp .USub a pos) (tD (md X) (hU f)):=j_ (Oi LG l) λs H Q n=>by
 obtain⟨i,o,S,d,r,ok,e,q⟩:=n
 obtain⟨⟨x,h⟩,j,e⟩:=au e
 dsimp only at e
 split at e
 ·obtain⟨rfl,rfl⟩:=cD e
  refine⟨i,o,S,_,h,ok,j,λp v H1 m g k=> ?_⟩
  cases k
  exact⟨_,rfl,q _ _ _ m g (.int _)⟩
 ·cases e
def xb:D->Option V
 |.non=>some .non
 |.bl b=>some (.bl b)
 |.int i=>some (.int i)
 |.str x=>some (.str x)
 |_=>none
def mf{M:Md}{ρ:List Addr}{H:Hp}{d:D}{u v:V}(r:Rel M ρ H d u)(e:xb d=some v):u=v:=by
 cases r <;>simp[xb] at e <;>exact e
def dk(d:Bool):w9:=λ_ x y=>match xb x,xb y with
 |some u,some v=>if Cp u v=true then some (.bl (if d then !decide (u=v) else decide (u=v))) else none
 |_,_=>none
def BM{f:Bool}{S:aD}{x y d:D}(e:dk f S x y=some d):∃u v,xb x=some u/\xb y=some v/\Cp u v=true/\d=.bl (if f then !decide (u=v) else decide (u=v)):=by
 unfold dk at e
 split at e
 ·split at e <;>cases e
  exact⟨_,_,by assumption,by assumption,by assumption,rfl⟩
 ·cases e
def Of{M:Md}:nE M Qq (dk false):=by
 intro l S H x y d u v Q g i h e q
 obtain⟨m,n,f,j,k,rfl⟩:=BM e
 cases mf i f
 cases mf h j
 exact⟨k,q _ _ cB.refl g (.bl _)⟩
def Qe{M:Md}:nE M QH (dk true):=by
 intro l S H x y d u v Q g i h e q
 obtain⟨m,n,f,j,k,rfl⟩:=BM e
 cases mf i f
 cases mf h j
 exact⟨k,q _ _ cB.refl g (.bl _)⟩
abbrev Ce:w9:=intD (λ_ _=>True) λi j=>.bl (decide (i<j))
abbrev PL:w9:=intD (λ_ _=>True) λi j=>.bl (decide (i<=j))
abbrev IQ:w9:=intD (λ_ _=>True) λi j=>.bl (decide (j<i))
abbrev NU:w9:=intD (λ_ _=>True) λi j=>.bl (decide (j<=i))
def Qa{M:Md}:nE M (FH λi j=>.bl (decide (i<j))) Ce:=qo λi j _ _=>.bl _
def QF{M:Md}:nE M (FH λi j=>.bl (decide (i<=j))) PL:=qo λi j _ _=>.bl _
def QC{M:Md}:nE M (FH λi j=>.bl (decide (j<i))) IQ:=qo λi j _ _=>.bl _
def P4{M:Md}:nE M (FH λi j=>.bl (decide (j<=i))) NU:=qo λi j _ _=>.bl _
def isNone:D->Bool
 |.non=>true
 |_=>false
def BF(d:Bool):w9:=λ_ x y=>match y with
 |.non=>some (.bl (if d then !isNone x else isNone x))
 |_=>none
def xK{M:Md}{ρ:List Addr}{H:Hp}{d:D}{u:V}(r:Rel M ρ H d u):decide (u=V.non)=isNone d:=by
 cases r <;>simp[isNone]
def PY{M:Md}:nE M (λx y H Q=>y=.non/\Q (.bl (decide (x=.non))) H) (BF false):=by
 intro i S H x y d u v Q g h f e q
 cases f <;>simp only[BF,reduceCtorEq] at e
 cases e
 rw[xK h]
 exact⟨rfl,q _ _ cB.refl g (.bl _)⟩
def Om{M:Md}:nE M (λx y H Q=>y=.non/\Q (.bl (!decide (x=.non))) H) (BF true):=by
 intro i S H x y d u v Q g h f e q
 cases f <;>simp only[BF,reduceCtorEq] at e
 cases e
 rw[xK h]
 exact⟨rfl,q _ _ cB.refl g (.bl _)⟩
def Qi{d:CmpOp}{r:R2}{o:w9}{f g:bD}(l:lD X (compareOp d) r)(h:nE (md X) r o)(k:PE X a (tD (md X) f))(i:PE X b (tD (md X) g))(j:behindInMarks d b=false):PE X (.Compare a [d] [b] pos) (tD (md X) (aR o f g)):=tK h (EG l k i j)
noncomputable def aH(f:bD):jE:=λh S=>(f h S).bind λ(d,g)=>match d with
 |.bl k=>some (k,g)
 |_=>none
def v8{f:bD}{h:cy}{S g:aD}{k:Bool}(e:aH f h S=some (k,g)):f h S=some (.bl k,g):=by
 obtain⟨⟨d,j⟩,i,e⟩:=au e
 dsimp only at e
 split at e
 ·cases e;exact i
 ·cases e
def MX{r:R2}{o:w9}{f g:bD}(I:nE (md X) r o)(h:PT X e (IK (IT r (tD (md X) f) (tD (md X) g)))):PT X e (tB (md X) (aH (aR o f g))):=Oq h λP H Q J=>by
 obtain⟨A,t,S,d,M,ok,e,q⟩:=J
 have e:=v8 e
 obtain⟨⟨x,n⟩,C,e⟩:=au e
 obtain⟨⟨y,B⟩,z,e⟩:=au e
 obtain⟨N,u,e⟩:=au e
 obtain⟨rfl,rfl⟩:=cD e
 refine⟨A,t,S,x,n,ok,C,λm v H1 s j G=>⟨m,t,n,y,B,ok.to s j,z,λl w H2 p k F=> ?_⟩⟩
 exact I k (G.ext p) F u λR H3 K i L=>by cases L;exact⟨_,rfl,q l H3 ((s.trans p).trans K) i⟩
def NH{d:CmpOp}{r:R2}{o:w9}{f g:bD}(l:lD X (compareOp d) r)(h:nE (md X) r o)(k:PE X a (tD (md X) f))(i:PE X b (tD (md X) g))(j:behindInMarks d b=false):PT X (.Compare a [d] [b] pos) (tB (md X) (aH (aR o f g))):=MX h (uf l k i j)
def Di(S:aD):D->Option Bool
 |.non=>some false
 |.bl b=>some b
 |.int i=>some (i !=0)
 |.str y=>if y.length<=sizeLine then some ((y.length:Int) !=0) else none
 |.tup d=>some (!d.isEmpty)
 | .ref k=>match S[k]? with
   |some (.lst d)=>some (!d.isEmpty)
   |some (.dct d)=>some (!d.isEmpty)
   |_=>none
 |.fn _=>none
def a8.isEmpty{M:Md}{ρ:List Addr}{H:Hp}{ds:List D}{vs:List V}(h:a8 M ρ H ds vs):ds.isEmpty=vs.isEmpty:=by cases h <;>rfl
theorem cE.isEmpty{M:Md}{ρ:List Addr}{H:Hp}{ds:List (Key×D)}{vs:List (Key×V)}(h:cE M ρ H ds vs):ds.isEmpty=vs.isEmpty:=by
 cases ds with
 |nil=>cases h;rfl
 |cons p r=>obtain⟨v,t,e,_⟩:=h;subst e;rfl
def JR{M:Md}{ρ:List Addr}{S:aD}{H:Hp}{d:D}{u:V}{k:Bool}(st:fY M ρ S H)(r:Rel M ρ H d u)(e:Di S d=some k):LW M.K u H k:=by
 cases r with
 |non=>cases e;rfl
 |bl=>cases e;rfl
 |int=>cases e;rfl
 |str=>simp only[Di] at e;split at e <;>cases e;exact⟨by assumption,rfl⟩
 |tup h j=>cases e;exact .inr (.inl ⟨_,jj.of h,by rw[j.isEmpty]⟩)
 |fn=>cases e
 | ref h=>
   simp only[Di] at e
   split at e
   · cases e
     obtain⟨i,f,g⟩:=st.obj _ _ _ h (by assumption)
     exact .inl ⟨i,i7.of f,by rw[g.isEmpty]⟩
   · cases e
     obtain⟨i,f,g⟩:=st.obj _ _ _ h (by assumption)
     exact .inr (.inr ⟨i,f,by rw[g.isEmpty]⟩)
   · cases e
def jW(f:bD):jE:=λh S=>(f h S).bind λ(d,g)=>(Di g d).bind λk=>some (k,g)
def Qr{f:bD}(o:PE X a (tD (md X) f))(he:∀d,isTrue a X.env d=(do let v←d;standAt a.pos;holding [v] (truthy v)):=by intro _;rfl):PT X a (tB (md X) (jW f)):=Oq (G9 o he) λw H Q r=>by
 obtain⟨j,s,S,k,u,ok,e,q⟩:=r
 obtain⟨⟨x,h⟩,l,e⟩:=au e
 obtain⟨m,i,e⟩:=au e
 obtain⟨rfl,rfl⟩:=cD e
 exact⟨j,s,S,x,h,ok,l,λt v H1 p g n=>⟨m,JR g n i,q _ _ p g⟩⟩
def wF(f:jE):jE:=λg S=>(f g S).bind λ(k,d)=>some (!k,d)
def Qv{f:jE}(l:PT X a (tB (md X) f)):PT X (.UnaryOp .Not a pos) (tB (md X) (wF f)):=Oq (K2 l) λs H Q n=>by
 obtain⟨i,o,S,k,r,ok,e,q⟩:=n
 obtain⟨⟨g,h⟩,j,e⟩:=au e
 obtain⟨rfl,rfl⟩:=cD e
 exact⟨i,o,S,g,h,ok,j,λp H1 m d=>q _ _ m d⟩
def ia(f g:jE):jE:=λh S=>(f h S).bind λ(k,d)=>if k=true then g h d else some (false,d)
def Mg(f g:jE):jE:=λh S=>(f h S).bind λ(k,d)=>if k=true then some (true,d) else g h d
def OO{f:jE}(d:PT X a (tB (md X) f)):PW X (.BoolOp .And [a] pos) (tB (md X) f):=JQ d
def QN{f:jE}(d:PT X a (tB (md X) f)):PW X (.BoolOp .Or [a] pos) (tB (md X) f):=LU d
def w_and{d:List Expr}{f g:jE}(v:PT X a (tB (md X) f))(x:PW X (.BoolOp .And (b::d) pos) (tB (md X) g)):PW X (.BoolOp .And (a::b::d) pos) (tB (md X) (ia f g)):=Qj (K7 v x) λy H Q w=>by
 obtain⟨p,n,S,k,s,ok,e,q⟩:=w
 obtain⟨⟨o,m⟩,r,e⟩:=au e
 refine⟨p,n,S,o,m,ok,r,λl H1 j h=> ?_⟩
 dsimp only at e
 split at e
 ·rename_i c
  rw[Qhq c]
  exact⟨l,n,m,k,s,ok.to j h,e,λu H2 t i=>q _ _ (j.trans t) i⟩
 ·rename_i c
  rw[Quq c]
  obtain⟨rfl,rfl⟩:=cD e
  exact q _ _ j h
def w_or{d:List Expr}{f g:jE}(v:PT X a (tB (md X) f))(x:PW X (.BoolOp .Or (b::d) pos) (tB (md X) g)):PW X (.BoolOp .Or (a::b::d) pos) (tB (md X) (Mg f g)):=Qj (NT v x) λy H Q w=>by
 obtain⟨p,n,S,k,s,ok,e,q⟩:=w
 obtain⟨⟨o,m⟩,r,e⟩:=au e
 refine⟨p,n,S,o,m,ok,r,λl H1 j h=> ?_⟩
 dsimp only at e
 split at e
 ·rename_i c
  rw[Qhq c]
  obtain⟨rfl,rfl⟩:=cD e
  exact q _ _ j h
 ·rename_i c
  rw[Quq c]
  exact⟨l,n,m,k,s,ok.to j h,e,λu H2 t i=>q _ _ (j.trans t) i⟩
def qZ(f g:bD):bD:=λi S=>(f i S).bind λ(d,h)=>match d with
 |.bl true=>g i h
 |.bl false=>some (.bl false,h)
 |_=>none
def Jr(f:bD):bD:=λh S=>(f h S).bind λ(d,g)=>match d with
 |.bl k=>some (.bl (!k),g)
 |_=>none
def Qp{op}{f:bD}(h:PE X a (tD (md X) f)):PE X (.BoolOp op [a] pos) (tD (md X) f):=L7 h
def QE{h:List Expr}{f g:bD}(z:PE X a (tD (md X) f))(B:PE X (.BoolOp .And (b::h) pos) (tD (md X) g)):PE X (.BoolOp .And (a::b::h) pos) (tD (md X) (qZ f g)):=j_ (K8 z B) λC H Q A=>by
 obtain⟨p,o,S,d,s,ok,e,q⟩:=A
 obtain⟨⟨x,m⟩,r,e⟩:=au e
 refine⟨p,o,S,x,m,ok,r,λl v H1 k i n=> ?_⟩
 dsimp only at e
 split at e
 ·cases n
  refine⟨_,rfl,?_⟩
  rw[Qhq rfl]
  exact⟨l,o,m,d,s,ok.to k i,e,λy w H2 u j t=>q _ _ _ (k.trans u) j t⟩
 ·cases n
  refine⟨_,rfl,?_⟩
  rw[Quq Qtq]
  obtain⟨rfl,rfl⟩:=cD e
  exact q _ _ _ k i (.bl _)
 ·cases e
def Qx{f:bD}(l:PE X a (tD (md X) f)):PE X (.UnaryOp .Not a pos) (tD (md X) (Jr f)):=j_ (LH l) λs H Q n=>by
 obtain⟨i,o,S,d,r,ok,e,q⟩:=n
 obtain⟨⟨x,h⟩,j,e⟩:=au e
 refine⟨i,o,S,x,h,ok,j,λp v H1 m g k=> ?_⟩
 dsimp only at e
 split at e
 ·cases k
  obtain⟨rfl,rfl⟩:=cD e
  exact⟨_,rfl,q _ _ _ m g (.bl _)⟩
 ·cases e
def wK(c:jE)(f g:bD):bD:=λd S=>(c d S).bind λ(k,h)=>if k=true then f d h else g d h
def Qk{h:jE}{f g:bD}(A:PT X c (tB (md X) h))(x:PE X a (tD (md X) f))(z:PE X b (tD (md X) g)):PE X (.IfExp c a b pos) (tD (md X) (wK h f g)):=j_ (Iv A x z) λB H Q y=>by
 obtain⟨u,r,S,d,s,ok,e,q⟩:=y
 obtain⟨⟨t,m⟩,v,e⟩:=au e
 refine⟨u,r,S,t,m,ok,v,λk H1 l j=> ?_⟩
 dsimp only at e
 split at e
 ·rename_i c
  rw[Qhq c]
  exact⟨k,r,m,d,s,ok.to l j,e,λp w H2 o i n=>q _ _ _ (l.trans o) i n⟩
 ·rename_i c
  rw[Quq c]
  exact⟨k,r,m,d,s,ok.to l j,e,λp w H2 o i n=>q _ _ _ (l.trans o) i n⟩
def fR:w9:=λS x y=>match x,y with
 |.tup xs,.int i=>kQ xs i
 |.str z,.int i=>if z.length<=sizeLine then(kQ z.cps.toList i).map λc=>.str ⟨#[c]⟩ else none
 | .ref k,.int i=>match S[k]? with
   |some (.lst xs)=>kQ xs i
   |some (.frz xs)=>kQ xs i
   |_=>none
 |_,_=>none
def Jv{α f:Type}{xs:List α}{ys:List f}{i:Int}{x:α}(h:kQ xs i=some x)(l:xs.length=ys.length):∃j:Nat,xs[j]?=some x/\∀y,ys[j]?=some y->kQ ys i=some y:=by
 unfold kQ at h
 obtain⟨j,e,h⟩:=au h
 exact⟨j,h,λy d=>by unfold kQ;rw[←l,e];exact d⟩
def a8.atI{M:Md}{ρ:List Addr}{H:Hp}{ds:List D}{vs:List V}{i:Int}{d:D}(h:a8 M ρ H ds vs)(e:L2.kQ ds i=some d):∃v,L2.kQ vs i=some v/\Rel M ρ H d v:=by
 obtain⟨j,f,g⟩:=Jv e h.length
 obtain⟨v,l,k⟩:=h.get f
 exact⟨v,g v l,k⟩
def Oj{M:Md}:nE M (QL M.K) fR:=by
 intro r S H x y d u v Q i p n e q
 cases n <;>cases p <;>simp only[fR,reduceCtorEq] at e
 ·split at e
  ·obtain⟨c,f,g⟩:=oQm.mp e
   subst g
   exact .inr (.inr ⟨_,_,c,rfl,rfl,by assumption,f,q _ _ cB.refl i (.str _)⟩)
  ·cases e
 ·rename_i h l
  obtain⟨v,f,g⟩:=l.atI e
  exact .inr (.inl ⟨_,_,_,v,rfl,rfl,jj.of h,f,q _ _ cB.refl i g⟩)
 ·rename_i h
  split at e
  ·obtain⟨m,j,k⟩:=i.obj _ _ _ h (by assumption)
   obtain⟨v,f,g⟩:=k.atI e
   exact .inl ⟨_,_,_,v,rfl,rfl,i7.of j,f,q _ _ cB.refl i g⟩
  ·obtain⟨m,o,j,k⟩:=i.obj _ _ _ h (by assumption)
   obtain⟨v,f,g⟩:=k.atI e
   exact .inl ⟨_,_,_,v,rfl,rfl,.inl (.inr ⟨o,j⟩),f,q _ _ cB.refl i g⟩
  ·cases e
def qC{f g:bD}(h:PE X a (tD (md X) f))(d:PE X b (tD (md X) g))(hs:D8 b:=by intro _ _;rfl):PE X (.Subscript a b pos) (tD (md X) (aR fR f g)):=tK Oj (MT Me h d hs)
end
inductive Tag where
 |tu|fr|st (k:Nat)|fz (k:Nat)
def CK(M:Md)(ρ:List Addr)(H:Hp)(a:Addr)(vs:List V):Tag->Prop
 |.tu=>jj M.K H a vs
 |.fr=>H a=some (.lst vs)/\a∉ρ
 |.st k=>ρ[k]?=some a/\H a=some (.lst vs)
 |.fz k=>ρ[k]?=some a/\∃o,H a=some (.frz o (.lst vs))
abbrev fh:=cy->aD->Option ((List D×Tag)×aD)
def tQ(M:Md)(f:fh):TE:=λj H Q=>∃e h S i t d,Ok M e h S j H/\f h S=some ((i,t),d)∧
 ∀b a g c,cB e H b c->fY M b d c->CK M b c a g t->a8 M b c i g->Q (.ref a) c
def CK.sq{M:Md}{ρ:List Addr}{H:Hp}{a:Addr}{vs:List V}{t:Tag}(h:CK M ρ H a vs t):i7 M.K H a vs\/jj M.K H a vs:=by
 cases t with
 |tu=>exact .inr h
 |fr=>exact .inl (i7.of h.1)
 |st k=>exact .inl (i7.of h.2)
 |fz k=>obtain⟨_,o,h⟩:=h;exact .inl (.inl (.inr ⟨o,h⟩))
def Tag.isL:Tag->Bool
 |.tu=>false
 |_=>true
def Tag.isM:Tag->Bool
 |.fr=>true
 |.st _=>true
 |_=>false
def CK.sqL{M:Md}{ρ:List Addr}{H:Hp}{a:Addr}{vs:List V}{t:Tag}(h:CK M ρ H a vs t)(c:t.isL=true):i7 M.K H a vs:=by
 cases t with
 |tu=>cases c
 |fr=>exact i7.of h.1
 |st k=>exact i7.of h.2
 |fz k=>obtain⟨_,o,h⟩:=h;exact .inl (.inr ⟨o,h⟩)
def CK.sqM{M:Md}{ρ:List Addr}{H:Hp}{a:Addr}{vs:List V}{t:Tag}(h:CK M ρ H a vs t)(c:t.isM=true):H a=some (.lst vs):=by
 cases t with
 |tu=>cases c
 |fr=>exact h.1
 |st k=>exact h.2
 |fz k=>cases c
def CK.sqT{M:Md}{ρ:List Addr}{H:Hp}{a:Addr}{vs:List V}{t:Tag}(h:CK M ρ H a vs t)(c:t.isL=false):jj M.K H a vs:=by
 cases t with
 |tu=>exact h
 |fr=>cases c
 |st k=>cases c
 |fz k=>cases c
def Tag.stays(S:aD)(ds:List D):Tag->Prop
 |.st k=>S[k]?=some (.lst ds)
 |.fz k=>S[k]?=some (.frz ds)
 |_=>True
def jj.ext{K:PySem.W.Frag}{ρ b:List Addr}{H c:Hp}{a:Addr}{vs:List V}(e:cB ρ H b c)(h:jj K H a vs):jj K c a vs:=by
 rcases h with(h|⟨o,h⟩)|h
 ·exact .inl (.inl (e.keep _ _ h (.inr trivial)))
 ·exact .inl (.inr ⟨o,e.keep _ _ h (.inr trivial)⟩)
 ·exact .inr h
def CK.to{M:Md}{ρ d:List Addr}{S:aD}{H i:Hp}{a:Addr}{vs:List V}{ds:List D}{t:Tag}(h:CK M ρ H a vs t)(r:a8 M ρ H ds vs)(e:cB ρ H d i)(st:fY M d S i)(c:t.stays S ds):∃b,CK M d i a b t/\a8 M d i ds b:=by
 cases t with
 |tu=>exact⟨vs,jj.ext e h,r.ext e⟩
 |fr=>exact⟨vs,⟨e.keep _ _ h.1 (.inl h.2),λm=>(e.new a m).elim h.2 λz=>by have f:=h.1;rw[z] at f;cases f⟩,r.ext e⟩
 | st k=>
   have g:=de e.pre h.1
   obtain⟨b,f,j⟩:=st.obj k a _ g c
   exact⟨b,⟨g,f⟩,j⟩
 | fz k=>
   have g:=de e.pre h.1
   obtain⟨b,o,f,j⟩:=st.obj k a _ g c
   exact⟨b,⟨g,o,f⟩,j⟩
section
variable{X:Cx}{a b c e:Expr}{pos:Pos}
def ic(f:h_):fh:=λg S=>(f g S).bind λ(h,d)=>some ((h,.fr),d)
def Qt{f:h_}(h:PE X e (tL (md X) f)):PE X e (tQ (md X) (ic f)):=j_ h λz H Q p=>by
 obtain⟨k,s,S,w,t,y,ok,e,q⟩:=p
 obtain⟨⟨d,g⟩,l,e⟩:=au e
 obtain⟨i,rfl⟩:=cD e
 obtain⟨rfl,rfl⟩:=Prod.mk.inj i
 exact⟨k,s,S,d,g,ok,l,λm a u A x j v n o r=>q _ _ _ _ x j ⟨o,n⟩ r⟩
def vB(S:aD):D->Option (List D×Tag)
 |.tup d=>some (d,.tu)
 | .ref k=>match S[k]? with
   |some (.lst d)=>some (d,.st k)
   |some (.frz d)=>some (d,.fz k)
   |_=>none
 |_=>none
def aQ(f:bD):fh:=λh S=>(f h S).bind λ(d,g)=>(vB g d).bind λp=>some (p,g)
def J0{M:Md}{ρ:List Addr}{S:aD}{H:Hp}{d:D}{v:V}{ds:List D}{t:Tag}(st:fY M ρ S H)(r:Rel M ρ H d v)(e:vB S d=some (ds,t)):∃a vs,v=.ref a/\CK M ρ H a vs t/\a8 M ρ H ds vs:=by
 cases r with
 |tup h i=>simp only[vB] at e;cases e;exact⟨_,_,rfl,jj.of h,i⟩
 | ref h=>
   simp only[vB] at e
   split at e
   · rename_i q
     cases e
     obtain⟨vs,f,g⟩:=st.obj _ _ _ h q
     exact⟨_,vs,rfl,⟨h,f⟩,g⟩
   · rename_i q
     cases e
     obtain⟨vs,o,f,g⟩:=st.obj _ _ _ h q
     exact⟨_,vs,rfl,⟨h,o,f⟩,g⟩
   · cases e
 |_=>simp only[vB,reduceCtorEq] at e
def ML{f:bD}(h:PE X e (tD (md X) f)):PE X e (tQ (md X) (aQ f)):=j_ h λA H Q p=>by
 obtain⟨l,s,S,y,t,z,ok,e,q⟩:=p
 obtain⟨⟨d,j⟩,m,e⟩:=au e
 obtain⟨⟨o,w⟩,k,e⟩:=au e
 obtain⟨i,rfl⟩:=cD e
 obtain⟨rfl,rfl⟩:=Prod.mk.inj i
 refine⟨l,s,S,d,j,ok,m,λn v B x g r=> ?_⟩
 obtain⟨a,u,rfl,h1,h2⟩:=J0 g r k
 exact q _ _ _ _ x g h1 h2
def KA{f:fh}{p:Pos}(k:Gl X "len")(u:X.mg "len"=none)(v:PE X a (tQ (md X) f))(hs:starEach [a] X.env= [(false,eval a X.env)]:=by rfl):
  PE X (.Call (.Name "len" p) [a] [] pos) (tD (md X) λi S=>(f i S).bind λ(p,g)=>some (.int p.1.length,g)):=
 j_ (jT yx k u PySem.boot_len (d0 v g9 hs) (he:=hs)) λz H Q w=>by
  obtain⟨m,i,S,d,y,ok,e,q⟩:=w
  obtain⟨⟨⟨o,t⟩,g⟩,n,e⟩:=au e
  obtain⟨rfl,rfl⟩:=cD e
  refine⟨m,i,S,o,t,g,ok,n,λs a j A x l h r=>⟨a,j,rfl,h.sq,?_⟩⟩
  have:=q _ (.int j.length) _ x l (by rw[←r.length];exact .int _)
  exact this
def g_(f:fh):bD:=λg S=>(f g S).bind λ(p,d)=>some (.int p.1.length,d)
def tupQ(f:fh):bD:=λg S=>(f g S).bind λ(p,d)=>some (.tup p.1,d)
def JB{f:fh}{p:Pos}(o:Gl X "tuple")(w:X.mg "tuple"=none)(y:PE X a (tQ (md X) f))(hs:starEach [a] X.env= [(false,eval a X.env)]:=by rfl)(ht:∀g S ds t k,f g S=some ((ds,t),k)->t.isL=true):
  PE X (.Call (.Name "tuple" p) [a] [] pos) (tD (md X) (tupQ f)):=
 j_ (FX wV o w (by rfl) (d0 y g9 hs) (he:=hs)) λA H Q z=>by
  obtain⟨u,g,S,d,k,ok,e,q⟩:=z
  obtain⟨⟨⟨ds,t⟩,n⟩,j,e⟩:=au e
  obtain⟨rfl,rfl⟩:=cD e
  refine⟨u,g,S,ds,t,n,ok,j,λv a m B x s h r=>⟨a,m,rfl,.inl ⟨h.sqL (ht _ _ _ _ _ j),λl i=> ?_⟩⟩⟩
  exact q _ _ _ (x.trans (cB.laid i)) (s.lay i) (.tup cj (r.ext (cB.laid i)))
def JA{f:h_}:∀g S ds t d,ic f g S=some ((ds,t),d)->t.isL=true:=λg S ds t d e=>by
 obtain⟨⟨h,i⟩,j,e⟩:=au e
 cases e
 rfl
def cH(f:fh):fh:=λg S=>(f g S).bind λ(p,d)=>if p.2.isL=true then some (p,d) else none
def KF{f:fh}:∀g S ds t d,cH f g S=some ((ds,t),d)->t.isL=true:=λg S ds t d e=>by
 obtain⟨⟨⟨h,k⟩,i⟩,j,e⟩:=au e
 dsimp only at e
 split at e <;>cases e
 assumption
def Qf{f:fh}(h:PE X e (tQ (md X) f)):PE X e (tQ (md X) (cH f)):=j_ h λo H Q i=>by
 obtain⟨j,k,S,r,t,p,ok,e,q⟩:=i
 obtain⟨⟨⟨d,n⟩,l⟩,m,e⟩:=au e
 dsimp only at e
 split at e
 ·obtain⟨g,rfl⟩:=cD e
  obtain⟨rfl,rfl⟩:=Prod.mk.inj g
  exact⟨j,k,S,d,n,l,ok,m,q⟩
 ·cases e
def Ht:List D->Option (List Bool)
 | []=>some []
 |.bl b::r=>(Ht r).bind λd=>some (b::d)
 |_::_=>none
theorem CT{M:Md}{ρ:List Addr}{H:Hp}:∀{ds:List D} {vs:List V} {bs:List Bool},a8 M ρ H ds vs->Ht ds=some bs->vs=bs.map V.bl
 | [],_,_,h,e=>by cases h;cases e;rfl
 | d::ds,_,_,h,e=>by
   cases d with
   | bl b=>
     simp only[Ht] at e
     obtain⟨i,g,e⟩:=au e
     cases e
     cases h with
     | cons h f=>
       cases h
       rw[CT f g]
       rfl
   |_=>cases e
def Jl(f:fh):bD:=λg S=>(f g S).bind λ(p,d)=>if p.2.isL=true then(Ht p.1).bind λh=>some (.bl (h.all id),d) else none
def J3(f:fh):bD:=λg S=>(f g S).bind λ(p,d)=>if p.2.isL=true then(Ht p.1).bind λh=>some (.bl (h.any id),d) else none
def Qc{f:fh}{p:Pos}(y:X.calm=true)(i:Gl X "all")(u:X.mg "all"=none)(v:PE X a (tQ (md X) f))(hs:starEach [a] X.env= [(false,eval a X.env)]:=by rfl):
  PE X (.Call (.Name "all" p) [a] [] pos) (tD (md X) (Jl f)):=
 j_ (jT (Fd y) i u (by rfl) (d0 v g9 hs) (he:=hs)) λC H Q w=>by
  obtain⟨l,z,S,d,B,ok,e,q⟩:=w
  obtain⟨⟨⟨o,t⟩,g⟩,m,e⟩:=au e
  dsimp only at e
  split at e
  ·rename_i c
   obtain⟨n,j,e⟩:=au e
   obtain⟨rfl,rfl⟩:=cD e
   refine⟨l,z,S,o,t,g,ok,m,λs a A F x k h r=>⟨a,n,rfl,?_,q _ _ _ x k (.bl _)⟩⟩
   rw[←CT r j]
   exact h.sqL c
  ·cases e
def QO{f:fh}{p:Pos}(y:X.calm=true)(i:Gl X "any")(u:X.mg "any"=none)(v:PE X a (tQ (md X) f))(hs:starEach [a] X.env= [(false,eval a X.env)]:=by rfl):
  PE X (.Call (.Name "any" p) [a] [] pos) (tD (md X) (J3 f)):=
 j_ (jT (Fj y) i u (by rfl) (d0 v g9 hs) (he:=hs)) λC H Q w=>by
  obtain⟨l,z,S,d,B,ok,e,q⟩:=w
  obtain⟨⟨⟨o,t⟩,g⟩,m,e⟩:=au e
  dsimp only at e
  split at e
  ·rename_i c
   obtain⟨n,j,e⟩:=au e
   obtain⟨rfl,rfl⟩:=cD e
   refine⟨l,z,S,o,t,g,ok,m,λs a A F x k h r=>⟨a,n,rfl,?_,q _ _ _ x k (.bl _)⟩⟩
   rw[←CT r j]
   exact h.sqL c
  ·cases e
def Jh(S:aD)(T:String):D->Option Bool
 |.non=>some (T=="NoneType")
 |.bl _=>some (T=="bool" ||T=="int")
 |.int _=>some (T=="int")
 |.str _=>some (T=="str")
 |.tup _=>some (T=="tuple")
 | .ref k=>match S[k]? with
   |some (.lst _)=>some (T=="list")
   |some (.frz _)=>some (T=="list")
   |some (.dct _)=>some (T=="dict")
   |_=>none
 |.fn _=>none
def NM(K:PySem.W.Frag)(T:String):Prop:=(PySem.W.kitOne K (.type "NoneType") (.type T)=some (T=="NoneType"))/\(PySem.W.kitOne K (.type "bool") (.type T)=some (T=="bool" ||T=="int"))/\(PySem.W.kitOne K (.type "int") (.type T)=some (T=="int"))/\(PySem.W.kitOne K (.type "str") (.type T)=some (T=="str"))∧
 (PySem.W.kitOne K (.type "tuple") (.type T)=some (T=="tuple"))/\(PySem.W.kitOne K (.type "list") (.type T)=some (T=="list"))/\(PySem.W.kitOne K (.type "dict") (.type T)=some (T=="dict"))
def pd(T:String)(f:bD):bD:=λh S=>(f h S).bind λ(d,g)=>(Jh g T d).bind λk=>some (.bl k,g)
def QA{T:String}{l:Expr}{f:bD}{p:Pos}(A:NM X.K T)(C:Gl X "isinstance")(M:X.mg "isinstance"=none)(N:PE X a (tD (md X) f))(ht:PE X l (tC (.ty T)))(hs:starEach [a,l] X.env= [(false,eval a X.env),(false,eval l X.env)]:=by rfl)(j:starEach [l] X.env= [(false,eval l X.env)]:=by rfl):
  PE X (.Call (.Name "isinstance" p) [a,l] [] pos) (tD (md X) (pd T f)):=
 j_ (jT GU C M boot_isinstance (d0 N (d0 ht g9 j) (by rw[hs,j])) (he:=by rw[hs,j]) (hpl:=by rw[j];rfl)) λZ H Q P=>by
  obtain⟨F,U,S,d,Y,ok,e,q⟩:=P
  obtain⟨⟨L,B⟩,G,e⟩:=au e
  obtain⟨k,i,e⟩:=au e
  obtain⟨rfl,rfl⟩:=cD e
  obtain⟨z,w,I,R,W,t,y⟩:=A
  refine⟨F,U,S,L,B,ok,G,λJ v H' x s r=> ?_⟩
  have g:=q _ _ _ x s (.bl _)
  cases r with
  |non=>cases i;exact⟨_,_,_,_,rfl,.non,z,g⟩
  |bl=>cases i;exact⟨_,_,_,_,rfl,.bl _,w,g⟩
  |int=>cases i;exact⟨_,_,_,_,rfl,.int _,I,g⟩
  |str=>cases i;exact⟨_,_,_,_,rfl,.str _,R,g⟩
  |tup h hs=>cases i;exact⟨_,_,_,_,rfl,.tup h,W,g⟩
  |fn=>cases i
  | ref h=>
    simp only[Jh] at i
    split at i
    · rename_i n;cases i;obtain⟨u,m,_⟩:=s.obj _ _ _ h n;exact⟨_,_,_,_,rfl,.lst m,t,g⟩
    · rename_i n;cases i;obtain⟨u,o,m,_⟩:=s.obj _ _ _ h n;exact⟨_,_,_,_,rfl,.frz m,t,g⟩
    · rename_i n;cases i;obtain⟨u,m,_⟩:=s.obj _ _ _ h n;exact⟨_,_,_,_,rfl,.dK m,y,g⟩
    · cases i
abbrev Kw:=List D->Option D
def Hj(M:Md)(r:List V->Hp->VK->Prop)(o:Kw):Prop:=∀{f:List Addr} {S:aD} {H:Hp} {g:List D} {d:D} {h:List V} {Q:VK},fY M f S H->a8 M f H g h->o g=some d->(∀w,Rel M f H d w->Q w H)->r h H Q
def tO(o:Kw)(f:h_):bD:=λi S=>(f i S).bind λ(g,h)=>(o g).bind λd=>some (d,h)
def OY{r:List V->Hp->VK->Prop}{o:Kw}{f:h_}(s:Hj (md X) r o)(h:PE X e (OH r (AB (md X) f))):PE X e (tD (md X) (tO o f)):=j_ h λB H Q u=>by
 obtain⟨m,v,S,d,z,ok,e,q⟩:=u
 obtain⟨⟨l,k⟩,n,e⟩:=au e
 obtain⟨A,j,e⟩:=au e
 obtain⟨rfl,rfl⟩:=cD e
 exact⟨m,v,S,l,k,ok,n,λi y H1 t g p=>s g p j λw x=>q i w H1 t g x⟩
def IV:Kw
 | [.int i]=>some (.int (if i<0 then -i else i))
 |_=>none
def maxD:Kw
 | [.int i,.int j]=>some (.int (if j>i then j else i))
 |_=>none
def minD:Kw
 | [.int i,.int j]=>some (.int (if j<i then j else i))
 |_=>none
def intOfD:Kw
 | [.int i]=>some (.int i)
 | [.bl k]=>some (.int (if k then 1 else 0))
 |_=>none
def Pg{M:Md}:Hj M (λxs H Q=>∃i,xs= [.int i]/\Q (.int (if i<0 then -i else i)) H) IV:=by
 intro h S H xs d j Q g r e q
 unfold IV at e
 split at e <;>cases e
 cases r with|cons r f=>cases f;cases r;exact⟨_,rfl,q _ (.int _)⟩
def OW{M:Md}:Hj M (λxs H Q=>∃i j,xs= [.int i,.int j]/\Q (.int (if j>i then j else i)) H) maxD:=by
 intro l S H xs d h Q k r e q
 unfold maxD at e
 split at e <;>cases e
 cases r with|cons r f=>cases f with|cons g f=>cases f;cases r;cases g;exact⟨_,_,rfl,q _ (.int _)⟩
def PM{M:Md}:Hj M (λxs H Q=>∃i j,xs= [.int i,.int j]/\Q (.int (if j<i then j else i)) H) minD:=by
 intro l S H xs d h Q k r e q
 unfold minD at e
 split at e <;>cases e
 cases r with|cons r f=>cases f with|cons g f=>cases f;cases r;cases g;exact⟨_,_,rfl,q _ (.int _)⟩
def MI{M:Md}:Hj M (λxs H Q=>(∃i,xs= [.int i]/\Q (.int i) H)\/∃k,xs= [.bl k]/\Q (.int (if k then 1 else 0)) H) intOfD:=by
 intro h S H xs d j Q g r e q
 unfold intOfD at e
 split at e <;>cases e
 ·cases r with|cons r f=>cases f;cases r;exact .inl ⟨_,rfl,q _ (.int _)⟩
 ·cases r with|cons r f=>cases f;cases r;exact .inr ⟨_,rfl,q _ (.int _)⟩
def qA:List D->Option (List V)
 | []=>some []
 |d::r=>(xb d).bind λv=>(qA r).bind λf=>some (v::f)
def pR{d:D}{v:V}(e:xb d=some v):ie v=true:=by
 cases d <;>simp[xb] at e <;>subst e <;>rfl
theorem qz{M:Md}{ρ:List Addr}{H:Hp}:∀{ds:List D} {f vs:List V},a8 M ρ H ds f->qA ds=some vs->f=vs/\vs.all ie=true
 |_,_,_,.nil,e=>by cases e;exact⟨rfl,rfl⟩
 | _,_,_,.cons h hs,e=>by
   obtain⟨v,d,e⟩:=au e
   obtain⟨vs,j,e⟩:=au e
   cases e
   obtain⟨g,i⟩:=qz hs j
   rw[mf h d,g]
   exact⟨rfl,by rw[List.all_cons,pR d,i];rfl⟩
def B_(d:Bool)(f:bD)(g:fh):bD:=λi S=>(f i S).bind λ(x,k)=>(g i k).bind λ(p,j)=>(xb x).bind λv=>(qA p.1).bind λh=>some (.bl (if d then !Ig v h else Ig v h),j)
def Nb{i:Bool}{f:bD}{g:fh}(h:PE X e (IT (OA X.K i) (tD (md X) f) (tQ (md X) g))):PE X e (tD (md X) (B_ i f g)):=j_ h λU H Q M=>by
 obtain⟨s,p,S,d,R,ok,e,q⟩:=M
 obtain⟨⟨x,n⟩,z,e⟩:=au e
 obtain⟨⟨⟨B,t⟩,w⟩,r,e⟩:=au e
 obtain⟨v,m,e⟩:=au e
 obtain⟨P,A,e⟩:=au e
 obtain⟨rfl,rfl⟩:=cD e
 refine⟨s,p,S,x,n,ok,z,λl u H1 o j F=>⟨l,p,n,B,t,w,ok.to o j,r,λI a J H2 G k L C=> ?_⟩⟩
 cases mf F m
 obtain⟨N,y⟩:=qz C A
 subst N
 exact⟨a,J,rfl,L.sq,pR m,y,q _ _ _ (o.trans G) k (.bl _)⟩
def Du{f:bD}{t:TE}(g:∀d H Q,tD (md X) f d H Q->t d H Q)(h:PT X e (IK t)):PT X e (tB (md X) (aH f)):=Oq h λd H Q ⟨m,n,S,k,i,ok,e,q⟩=>
 g _ _ _ ⟨m,n,S,.bl k,i,ok,v8 e,λj v o x l r=>by cases r;exact⟨k,rfl,q _ _ x l⟩⟩
def KE{h:Bool}{f:bD}{g:fh}:∀k H Q,tD (md X) (B_ h f g) k H Q->IT (OA X.K h) (tD (md X) f) (tQ (md X) g) k H Q:=λk H Q M=>by
 obtain⟨s,p,S,d,R,ok,e,q⟩:=M
 obtain⟨⟨x,n⟩,z,e⟩:=au e
 obtain⟨⟨⟨B,t⟩,w⟩,r,e⟩:=au e
 obtain⟨v,m,e⟩:=au e
 obtain⟨P,A,e⟩:=au e
 obtain⟨rfl,rfl⟩:=cD e
 refine⟨s,p,S,x,n,ok,z,λl u H1 o i F=>⟨l,p,n,B,t,w,ok.to o i,r,λI a J H2 G j L C=> ?_⟩⟩
 cases mf F m
 obtain⟨N,y⟩:=qz C A
 subst N
 exact⟨a,J,rfl,L.sq,pR m,y,q _ _ _ (o.trans G) j (.bl _)⟩
def Q1{f:bD}{g:fh}(i:PE X a (tD (md X) f))(d:PE X b (tQ (md X) g))(h:behindInMarks .In b=false:=by rfl):PE X (.Compare a [.In] [b] pos) (tD (md X) (B_ false f g)):=Nb (EG xB i d h)
def Q2{f:bD}{g:fh}(i:PE X a (tD (md X) f))(d:PE X b (tQ (md X) g))(h:behindInMarks .In b=false:=by rfl):PT X (.Compare a [.In] [b] pos) (tB (md X) (aH (B_ false f g))):=Du KE (uf xB i d h)
def On{f:bD}{g:fh}(i:PE X a (tD (md X) f))(d:PE X b (tQ (md X) g))(h:behindInMarks .NotIn b=false:=by rfl):PT X (.Compare a [.NotIn] [b] pos) (tB (md X) (aH (B_ true f g))):=Du KE (uf zm i d h)
end
inductive Out where
 |nx (Γ:cy) (S:aD)|bk (Γ:cy) (S:aD)|ct (Γ:cy) (S:aD)|rt (d:D) (S:aD)|rl (ds:List D) (S:aD)
abbrev cA:=cy->aD->Option Out
def zQ(M:Md)(ρ:List Addr)(H:Hp)(D:Ends):Out->Prop
 |.nx f g=>∀b e c,cB ρ H b c->Ok M b f g e c->D.nx e c
 |.bk f g=>∀b e c,cB ρ H b c->Ok M b f g e c->D.bk e c
 |.ct f g=>∀b e c,cB ρ H b c->Ok M b f g e c->D.ct e c
 |.rt d g=>∀b v c,cB ρ H b c->fY M b g c->Rel M b c d v->D.rt v c
 |.rl i g=>∀b a h c,cB ρ H b c->fY M b g c->H a=none->a∉b->c a=some (.lst h)->a8 M b c i h->D.rt (.ref a) c
def zQ.to{M:Md}{ρ d:List Addr}{H H1:Hp}{D:Ends}{o:Out}(h:zQ M ρ H D o)(e:cB ρ H d H1):zQ M d H1 D o:=by
 cases o with
 |nx=>exact λb c f x ok=>h _ _ _ (e.trans x) ok
 |bk=>exact λb c f x ok=>h _ _ _ (e.trans x) ok
 |ct=>exact λb c f x ok=>h _ _ _ (e.trans x) ok
 |rt=>exact λb v f x g r=>h _ _ _ (e.trans x) g r
 |rl=>exact λb a l f x g i j k r=>h _ _ _ _ (e.trans x) g (e.grow _ i) j k r
def tS(M:Md)(g:cA):TS:=λD c H=>∃a b S o,Ok M a b S c H/\g b S=some o/\zQ M a H D o
section
variable{X:Cx}{a b c e:Expr}{pos:Pos}{st:Stmt}{rest body other:List Stmt}
def fu:cA:=λd S=>some (.nx d S)
def Od:tX X [] (tS (md X) fu):=NP Jj λD d H ⟨f,g,S,o,ok,e,q⟩=>by cases e;exact q _ _ _ cB.refl ok
noncomputable def aE(f g:cA):cA:=λi S=>(f i S).bind λo=>match o with
 |.nx d h=>g d h
 |o=>some o
def k0{f g:cA}(m:PS X st (tS (md X) f))(s:tX X rest (tS (md X) g)):tX X (st::rest) (tS (md X) (aE f g)):=NP (HM m s) λD v H t=>by
 obtain⟨n,u,S,o,ok,e,q⟩:=t
 obtain⟨j,p,e⟩:=au e
 refine⟨n,u,S,j,ok,p,?_⟩
 cases j with
 |nx d k=>exact λi l H1 r h=>⟨i,d,k,o,h,e,q.to r⟩
 |bk=>cases e;exact q
 |ct=>cases e;exact q
 |rt=>cases e;exact q
 |rl=>cases e;exact q
def xI{f:cA}(d:PS X st (tS (md X) f)):tX X [st] (tS (md X) f):=J6 d
def never:cA:=λ_ _=>none
def Ow:PS X st (tS (md X) never):=Ew Hz λD d H ⟨f,g,S,o,ok,e,q⟩=>by cases e
def g7(f:bD):cA:=λd S=>(f d S).bind λ(_,g)=>some (.nx d g)
def Gm{f:bD}(h:PE X e (tD (md X) f))(hs:swapsWith e none pos.line X.env=pure false:=by rfl):PS X (.Expr e pos) (tS (md X) (g7 f)):=Ew (Ks h hs) λD n H l=>by
 obtain⟨i,m,S,o,ok,e,q⟩:=l
 obtain⟨⟨d,g⟩,j,e⟩:=au e
 cases e
 exact⟨i,m,S,d,g,ok,j,λk v p x st r=>q _ _ _ x (ok.to x st)⟩
noncomputable def cp(f:bD):cA:=λh S=>(f h S).bind λ(d,g)=>some (.rt d g)
def DT{f:bD}(h:PE X e (tD (md X) f)):PS X (.Return (some e) pos) (tS (md X) (cp f)):=Ew (G7 h) λD m H g=>by
 obtain⟨i,k,S,o,ok,e,q⟩:=g
 obtain⟨⟨d,j⟩,l,e⟩:=au e
 cases e
 exact⟨i,k,S,d,j,ok,l,q⟩
noncomputable def Gk(f:h_):cA:=λg S=>(f g S).bind λ(h,d)=>some (.rl h d)
def O_{f:h_}(h:PE X e (tL (md X) f)):PS X (.Return (some e) pos) (tS (md X) (Gk f)):=Ew (G7 h) λD m H g=>by
 obtain⟨i,k,S,o,ok,e,q⟩:=g
 obtain⟨⟨d,j⟩,l,e⟩:=au e
 cases e
 exact⟨i,k,S,d,j,ok,l,q⟩
def cY(c:jE)(f g:cA):cA:=λd S=>(c d S).bind λ(k,h)=>if k=true then f d h else g d h
def PP{h:jE}{f g:cA}(u:PT X c (tB (md X) h))(r:tX X body (tS (md X) f))(t:tX X other (tS (md X) g)):PS X (.If c body other pos) (tS (md X) (cY h f g)):=Ew (NF u r t) λD v H s=>by
 obtain⟨n,m,S,o,ok,e,q⟩:=s
 obtain⟨⟨k,l⟩,p,e⟩:=au e
 refine⟨n,m,S,k,l,ok,p,λi H1 j d=> ?_⟩
 dsimp only at e
 split at e
 ·rename_i c
  rw[Qhq c]
  exact⟨i,m,l,o,ok.to j d,e,q.to j⟩
 ·rename_i c
  rw[Quq c]
  exact⟨i,m,l,o,ok.to j d,e,q.to j⟩
abbrev ni:=D->cy->aD->Option (cy×aD)
abbrev oo:=List D->cy->aD->Option (cy×aD)
def tG(M:Md)(g:ni):TG:=λv n H Q=>∃j m S d i l,Ok M j m S n H/\Rel M j H d v/\g d m S=some (i,l)/\∀f h k,cB j H f k->Ok M f i l h k->Q h k
def Oe(M:Md)(g:oo):Ib:=λo n H Q=>∃i l S m h k,Ok M i l S n H/\a8 M i H m o/\g m l S=some (h,k)/\∀d f j,cB i H d j->Ok M d h k f j->Q f j
def OI{t t':TG}(h:PG X e t)(w:∀v f H Q,t' v f H Q->t v f H Q):PG X e t':=λd s f H v u Q I r q=>h d s f H v u Q I r (w _ _ _ _ q)
def Og{g:List Expr}{t t':Ib}(h:Gj X g t)(w:∀v f H Q,t' v f H Q->t v f H Q):Gj X g t':=λd s f H v u Q I r q=>h d s f H v u Q I r (w _ _ _ _ q)
def bH(i:Nat):ni:=λd f S=>some (f.set i (some d),S)
def Hf{i:Nat}(h:PG X e (qe i)):PG X e (tG (md X) (bH i)):=OI h λv j H Q f=>by
 obtain⟨l,m,S,d,g,k,ok,r,e,q⟩:=f
 cases e
 exact q _ _ _ cB.refl ⟨ok.en.set r,ok.st⟩
def dB:oo:=λf d S=>match f with
 | []=>some (d,S)
 |_=>none
def aJ(f:ni)(g:oo):oo:=λk j S=>match k with
 |d::r=>(f d j S).bind λ(h,i)=>g r h i
 | []=>none
def PQ:Gj X [] (Oe (md X) dB):=Og J4 λj g H Q d=>by
 obtain⟨i,k,S,l,f,h,ok,r,e,q⟩:=d
 cases r with
 |nil=>cases e;exact⟨rfl,q _ _ _ cB.refl ok⟩
 |cons=>cases e
def OE{h:List Expr}{f:ni}{g:oo}(p:PG X e (tG (md X) f))(y:Gj X h (Oe (md X) g))(hs:(assignEach (e::h) X.env).map (·.2)=assign e X.env::(assignEach h X.env).map (·.2):=by rfl):Gj X (e::h) (Oe (md X) (aJ f g)):=
 Og (ID p y hs) λC G H Q z=>by
  obtain⟨t,B,S,F,k,v,ok,r,e,q⟩:=z
  cases r with
  |nil=>cases e
  | cons r A=>
    obtain⟨⟨d,m⟩,u,e⟩:=au e
    refine⟨_,_,rfl,t,B,S,_,d,m,ok,r,u,λl o H1 n j=>⟨l,d,m,_,k,v,j,A.ext n,e,λx s H2 w i=>q _ _ _ (n.trans w) i⟩⟩
def lA(g:oo):ni:=λd f S=>match d with
 |.tup h=>g h f S
 |_=>none
def nG(n:Nat)(g:oo):oo:=λd f S=>if d.length=n then g d f S else none
def Qn{f:List Expr}{k:Nat}{g:oo}{n:Nat}(s:X.calm=true)(h:Gj X f (Oe (md X) g))(m:(assignEach f X.env).length=n:=by rfl)(i:(assignEach f X.env).findIdx? (·.1)=none:=by rfl):
  PG X (.Tuple f k pos) (tG (md X) (lA (nG n g))):=OI (KY s h m i) λv u H Q ⟨o,t,S,d,j,p,ok,r,e,q⟩=>by
 cases r with
 | tup h l=>
   simp only[lA,nG] at e
   split at e
   · rename_i c
     exact⟨_,_,rfl,jj.of h,by rw[←l.length];exact c,o,t,S,_,j,p,ok,l,e,q⟩
   · cases e
 |_=>cases e
def j9(f:bD)(g:ni):cA:=λi S=>(f i S).bind λ(d,k)=>(g d i k).bind λ(h,j)=>some (.nx h j)
def NJ{f:bD}{g:ni}:∀D k H,tS (md X) (j9 f g) D k H->Fc (tD (md X) f) (tG (md X) g) D k H:=λD k H A=>by
 obtain⟨t,p,S,o,ok,e,q⟩:=A
 obtain⟨⟨d,m⟩,w,e⟩:=au e
 obtain⟨⟨j,u⟩,r,e⟩:=au e
 cases e
 exact⟨t,p,S,d,m,ok,w,λl v H1 n i x=>⟨l,p,m,d,j,u,ok.to n i,x,r,λz s H2 y h=>q _ _ _ (n.trans y) h⟩⟩
def P_{tg:Expr}{f:bD}{g:ni}(he:PE X e (tD (md X) f))(i:PG X tg (tG (md X) g))(hs:swapsWithSole [tg] e pos.line X.env=pure false:=by rfl)(h:swappedStores [tg] e X.env=pure none:=by rfl)
  (d:(assignEach [tg] X.env).map (·.2)= [assign tg X.env]:=by rfl):PS X (.Assign [tg] e pos) (tS (md X) (j9 f g)):=Ew (LB he i hs h d) NJ
noncomputable def aU(i:Nat)(f:bD):cA:=λg S=>(f g S).bind λ(d,h)=>some (.nx (g.set i (some d)) h)
def N5{i:Nat}{f:bD}(h:PS X st (Fc (tD (md X) f) (qe i))):PS X st (tS (md X) (aU i f)):=Ew h λD t H p=>by
 obtain⟨l,r,S,o,ok,e,q⟩:=p
 obtain⟨⟨d,k⟩,m,e⟩:=au e
 cases e
 exact⟨l,r,S,d,k,ok,m,λs v H1 j g n=>q _ _ _ j ⟨(ok.en.ext j).set n,g⟩⟩
abbrev yd:=cy->aD->Option ((List D×(aD->Prop))×aD)
def Walks(M:Md)(J:It)(ρ:List Addr)(H:Hp)(ds:List D)(W:aD->Prop):Prop:=∀(i:Nat) (f:List Addr) (j:aD) (h:Hp),cB ρ H f h->fY M f j h->W j→
 (∀d,ds[i]?=some d->J.go i h/\∀x g,J.yld i h x g->cB f h f g/\fY M f j g/\Rel M f g d x)/\(i=ds.length->J.stop i h)
def tI(M:Md)(f:yd):TI:=λl H R=>∃i j S k W h,Ok M i j S l H/\f j S=some ((k,W),h)/\∀d J g,cB i H d g->fY M d h g->Walks M J d g k W->R J g
def Pp{tg:Expr}{t t':TI}(h:PI X tg e t)(w:∀f H R,t' f H R->t f H R):PI X tg e t':=λd s f H R I q=>h d s f H R I (w _ _ _ q)
def Mt{tg l:Expr}{r:TE}(z:PE X l r):PI X tg l (λm H R=>r m H λx H1=>∃a,x=.ref a/\((∃xs,i7 X.K H1 a xs)/\R (P6 X.K a) H1\/(∃xs,jj X.K H1 a xs)/\R (P9 X.K a) H1)):=by
 intro i s m H R I h
 refine cX (z i s m H _ I h) λv d t=> ?_
 obtain⟨x,H1,f,w,k⟩:=t
 obtain⟨a,e,k⟩:=k
 subst e
 cases w
 rcases k with⟨⟨xs,j⟩,q⟩|⟨⟨xs,j⟩,q⟩
 ·obtain⟨g,y,p,u⟩:=f.list j
  refine wpAny_pyIter_list p.isList ?_
  refine⟨d.heap.objs.size,[d.heap.objs.size],_,_,H1,rfl,f.kept (t':=d.toks) λb o e=>Qcq _ e,Fx a _,⟨_,Qrq _ rfl,rfl,rfl⟩,λb n=> ?_,q⟩
  have e:b=d.heap.objs.size:=by simpa using n
  subst e
  exact f.fpOk (Qmq _) (f.hok.fresh (Qmq _))
 ·obtain⟨g,y,p,u⟩:=f.tuple j
  refine wpAny_pyIter_tuple (show d.heap.IsTuple a g.toArray from p) ?_
  refine⟨d.heap.objs.size,[d.heap.objs.size],_,_,H1,rfl,f.kept (t':=d.toks) λb o e=>Qcq _ e,C3 a _,⟨_,Qrq _ rfl,rfl,rfl⟩,λb n=> ?_,q⟩
  have e:b=d.heap.objs.size:=by simpa using n
  subst e
  exact f.fpOk (Qmq _) (f.hok.fresh (Qmq _))
def fK(f:fh):yd:=λh S=>(f h S).bind λ(p,g)=>some ((p.1,λd=>p.2.stays d p.1),g)
def Ky{tg l:Expr}{f:fh}(P:PE X l (tQ (md X) f)):PI X tg l (tI (md X) (fK f)):=Pp (Mt P) λY H R M=>by
 obtain⟨I,N,S,Q,W,U,ok,e,q⟩:=M
 obtain⟨⟨⟨z,t⟩,F⟩,K,e⟩:=au e
 obtain⟨G,rfl⟩:=cD e
 obtain⟨rfl,rfl⟩:=Prod.mk.inj G
 refine⟨I,N,S,z,t,F,ok,K,λL a C Z x st h r=>⟨a,rfl,?_⟩⟩
 cases c:t.isL with
 | true=>
   refine .inl ⟨⟨C,h.sqL c⟩,q _ _ _ x st λi A J H2 y j w=> ?_⟩
   obtain⟨g,s,n⟩:=h.to r y j w
   have k:=s.sqL c
   refine⟨λd p=> ?_,λu=>⟨g,k,by rw[u,n.length];exact Qmq _⟩⟩
   obtain⟨v,o,B⟩:=n.get p
   refine⟨⟨g,v,k,o⟩,λx H3 m=> ?_⟩
   obtain⟨rfl,m⟩:=m
   have:=m g k
   rw[o] at this
   cases this
   exact⟨cB.refl,j,B⟩
 | false=>
   refine .inr ⟨⟨C,h.sqT c⟩,q _ _ _ x st λi A J H2 y j w=> ?_⟩
   obtain⟨g,s,n⟩:=h.to r y j w
   have k:=s.sqT c
   refine⟨λd p=> ?_,λu=>⟨g,k,by rw[u,n.length];exact Qmq _⟩⟩
   obtain⟨v,o,B⟩:=n.get p
   refine⟨⟨g,v,k,o⟩,λx H3 m=> ?_⟩
   obtain⟨rfl,m⟩:=m
   have:=m g k
   rw[o] at this
   cases this
   exact⟨cB.refl,j,B⟩
def jZ(lo hi:Int):List D:=(List.range (hi-lo).toNat).map λ(i:Nat)=>D.int (lo+(i:Int))
def uJ(f:bD):yd:=λh S=>(f h S).bind λ(d,g)=>match d with
 |.int j=>if -(2^62)<=j/\j<2^62 then some ((jZ 0 j,λ_=>True),g) else none
 |_=>none
def F8{M:Md}{ρ:List Addr}{H:Hp}{lo hi:Int}:Walks M (OB lo (hi-lo).toNat) ρ H (jZ lo hi) (λ_=>True):=λi n o H2 p g w=>by
 unfold jZ
 refine⟨λd h=> ?_,λhi=>by rw[lQm,QVq] at hi;exact Nat.le_of_eq hi.symm⟩
 rw[gQm] at h
 obtain⟨k,l,rfl⟩:=oQm.mp h
 have f:=(gQs.mp l)
 obtain⟨f,j⟩:=f
 rw[List.getElem_range] at j
 subst j
 rw[QVq] at f
 refine⟨f,λx H3 m=> ?_⟩
 obtain⟨rfl,rfl⟩:=m
 exact⟨cB.refl,g,.int _⟩
def OQ{tg a:Expr}{f:bD}{p:Pos}(k:Gl X "range")(o:X.mg "range"=none)(s:PE X a (tD (md X) f))(hs:starEach [a] X.env= [(false,eval a X.env)]:=by rfl):PI X tg (.Call (.Name "range" p) [a] [] pos) (tI (md X) (uJ f)):=
 Pp (F7 k o (cR s iK hs) hs) λA H R t=>by
  obtain⟨ρ,u,S,y,W,z,ok,e,q⟩:=t
  obtain⟨⟨d,i⟩,n,e⟩:=au e
  dsimp only at e
  split at e
  ·rename_i j
   split at e
   ·rename_i h
    obtain⟨l,rfl⟩:=cD e
    obtain⟨rfl,rfl⟩:=Prod.mk.inj l
    refine⟨ρ,u,S,[.int j],i,ok,by unfold aq av;rw[n];rfl,λg w v x st r=> ?_⟩
    cases r with
    | cons r m=>
      cases m
      cases r
      refine⟨j,rfl,h.1,h.2,q _ _ _ x st ?_⟩
      have:=F8 (M:=md X) (ρ:=g) (H:=v) (lo:=0) (hi:=j)
      rw[Int.sub_zero] at this
      exact this
   ·cases e
  ·cases e
open Classical in
def forL(g:ni)(b:cA)(W:aD->Prop):List D->cy->aD->Option Out
 | [],Γ,S=>if W S then some (.nx Γ S) else none
 |d ::ds,Γ,S=>if W S then(g d Γ S).bind λ(i,j)=>(b i j).bind λo=>match o with
    |.nx f h=>forL g b W ds f h
    |.ct f h=>forL g b W ds f h
    |.bk f h=>some (.nx f h)
    |.rt x h=>some (.rt x h)
    |.rl x h=>some (.rl x h)
  else none
def i8(i:yd)(g:ni)(b:cA):cA:=λd S=>(i d S).bind λ(p,f)=>forL g b p.2 p.1 d f
def NC{tg j:Expr}{i:yd}{g:ni}{f:cA}(hp:PassesOwn (model X.prog X.w) X.A X.env X.xe)(hc:X.calm=true)(hi:PI X tg j (tI (md X) i))(hg:PG X tg (tG (md X) g))(hb:tX X body (tS (md X) f))
  (hs:∀x,foldedSetIterable j X.env x=pure x:=by intro _;rfl):PS X (.For tg j body [] pos) (tS (md X) (i8 i g f)):=Ew (Mr hp hc hi hg hb hs) λD σ H ⟨ρ,Γ,S,o,ok,e,q⟩=>by
 obtain⟨⟨⟨h,W⟩,S1⟩,e1,e⟩:=au e
 refine⟨ρ,Γ,S,h,W,S1,ok,e1,λv J H1 x1 Y wk=> ?_⟩
 have L:=q.to x1
 have U:=ok.to x1 Y
 refine⟨λi m p z=>m=h.length-i/\i<=h.length/\∃d r B,cB v H1 d z/\Ok (md X) d r B p z/\forL g f W (h.drop i) r B=some o,⟨h.length,by simp,Nat.zero_le _,v,Γ,S1,cB.refl,U,e⟩,?_⟩
 rintro i m a1 H2 ⟨rfl,hi,d,r,B,x2,ok2,e2⟩
 by_cases u:i<h.length
 ·have hd:h[i]?=some h[i]:=gQe u
  rw[QWq u] at e2
  unfold forL at e2
  split at e2
  ·rename_i w
   obtain⟨w1,Z⟩:=wk i d B H2 x2 ok2.st w
   obtain⟨go,N⟩:=w1 _ hd
   refine .inr ⟨go,λp z=>∃l s M,cB v H1 l z/\Ok (md X) l s M p z/\forL g f W (h.drop (i+1)) s M=some o,λp z ⟨l,s,M,h1,h2,h3⟩=>⟨h.length-(i+1),by omega,rfl,u,l,s,M,h1,h2,h3⟩,λx H3 hy=> ?_⟩
   obtain⟨x3,Q,r3⟩:=N x H3 hy
   obtain⟨⟨K,S4⟩,e4,e5⟩:=au e2
   refine⟨d,r,B,_,K,S4,ok2.to x3 Q,r3,e4,λP a0 H4 x4 R=> ?_⟩
   obtain⟨o5,e6,I⟩:=au e5
   have F:=(x2.trans x3).trans x4
   refine⟨P,K,S4,o5,R,e6,?_⟩
   cases o5 with
   |nx n y=>exact λt C H6 G k=>⟨t,n,y,F.trans G,k,I⟩
   |ct n y=>exact λt C H6 G k=>⟨t,n,y,F.trans G,k,I⟩
   |bk n y=>cases I;exact λt C H6 G k=>L _ _ _ (F.trans G) k
   |rt d6 y=>cases I;exact L.to F
   |rl d6 y=>cases I;exact L.to F
  ·cases e2
 ·have e3:i=h.length:=by omega
  subst e3
  rw[List.drop_length] at e2
  unfold forL at e2
  split at e2
  ·rename_i w
   cases e2
   obtain⟨w1,Z⟩:=wk h.length d B H2 x2 ok2.st w
   exact .inl ⟨Z rfl,L _ _ _ x2 ok2⟩
  ·cases e2
end
section
variable{M:Md}{ρ:List Addr}{H:Hp}{b:Addr}{us ws:List V}
mutual
theorem Rel.off(a:H b=some (.lst us)):∀{d:D} {v:V},Rel M ρ H d v->Rel M ρ (upd H b (.lst ws)) d v
 |_,_,.non=>.non
 |_,_,.bl x=>.bl x
 |_,_,.int i=>.int i
 |_,_,.str x=>.str x
 |_,_,.tup h hs=>.tup (by rw[bt (GH h a (by intro z;cases z))];exact h) (a8.off a hs)
 |_,_,.ref h=>.ref h
 |_,_,.fn h=>.fn h
theorem a8.off(a:H b=some (.lst us)):∀{ds:List D} {vs:List V},a8 M ρ H ds vs->a8 M ρ (upd H b (.lst ws)) ds vs
 |_,_,.nil=>.nil
 |_,_,.cons h hs=>.cons (Rel.off a h) (a8.off a hs)
end
theorem fY.off{S:aD}(st:fY M ρ S H)(f:H b=some (.lst us))(n:b∉ρ):fY M ρ S (upd H b (.lst ws)):=⟨st.len,st.nd,λk a o h m=>by
 have q:=st.obj k a o h m
 have g:a≠b:=λz=>n (z▸mQg h)
 cases o with
 |lst i=>obtain⟨e,d,c⟩:=q;exact⟨e,by rw[bt g];exact d,c.off f⟩
 |frz i=>obtain⟨e,o,d,c⟩:=q;exact⟨e,o,by rw[bt g];exact d,c.off f⟩
 |dct l=>obtain⟨j,d,c⟩:=q;exact⟨j,by rw[bt g];exact d,c.imp λ_ _ r=>r.off f⟩⟩
def En.off{c:cy}{a:L2.St}(h:En M ρ H c a)(g:H b=some (.lst us)):En M ρ (upd H b (.lst ws)) c a:=⟨h.len,λi d q=>by obtain⟨v,e,f⟩:=h.get i d q;exact⟨v,e,f.off g⟩⟩
def cB.off{d:List Addr}{f:Hp}(e:cB d f ρ H)(g:f b=none)(u:HO):cB d f ρ (upd H b u):=⟨e.pre,e.new,λa o h c=>by rw[bt (fL h g)];exact e.keep a o h c,λa h=>by
 by_cases z:a=b
 ·subst z;exact g
 ·rw[bt z] at h;exact e.grow a h⟩
end
def pk(js:List (Option Nat))(a:cy):cy:=js.map λo=>o.bind λj=>a.getD j none
def En.sig{M:Md}{ρ:List Addr}{H:Hp}{b:cy}{c:L2.St}(js:List (Option Nat))(h:En M ρ H b c):En M ρ H (pk js b) (kb js c) where
 len:=by unfold pk kb;rw[lQm,lQm]
 get:=λi d q=>by
  unfold pk at q
  unfold kb
  rw[gQm] at q⊢
  cases e:js[i]? with
  |none=>rw[e] at q;cases q
  | some o=>
    rw[e] at q
    cases o with
    |none=>cases q
    | some j=>
      have a:b.getD j none=some d:=QdQ q
      have g:b[j]?=some (some d):=by
        rw[Qlq] at a
        cases z:b[j]? with
        |none=>rw[z] at a;cases a
        |some y=>rw[z] at a;exact congrArg some a
      obtain⟨v,f,k⟩:=h.get j d g
      refine⟨v,?_,k⟩
      show some (c.getD j none)=some (some v)
      rw[Qlq,f]
      rfl
open Classical in
def nX(g:ni)(t:jE)(f:bD)(W:aD->Prop):List D->cy->aD->List D->Option (List D×aD)
 | [],Γ,S,acc=>if W S then some (acc,S) else none
 |d ::ds,Γ,S,acc=>if W S then(g d Γ S).bind λ(a,e)=>(t a e).bind λ(k,b)=>
    if k=true then(f a b).bind λ(y,c)=>if acc.length<sizeLine then nX g t f W ds a c (acc++ [y]) else none
    else nX g t f W ds a b acc
  else none
def bA(js:List (Option Nat))(i:yd)(g:ni)(t:jE)(f:bD):h_:=λa S=>(i a S).bind λ(p,b)=>nX g t f p.2 p.1 (pk js a) b []
section
variable{M:Md}
def HX{js:List (Option Nat)}{i:yd}{g:ni}{t:jE}{f:bD}:∀X H Q,tL M (bA js i g t f) X H Q->G1 js (tI M i) (tG M g) (tB M t) (tD M f) X H Q:=λX H Q qq=>by
 obtain⟨ρ,Γ,S,rs,S',ok,e,q⟩:=qq
 obtain⟨⟨⟨j,W⟩,S1⟩,e1,e⟩:=au e
 refine⟨ρ,Γ,S,j,W,S1,ok,e1,λn J H1 U P wk D K=> ?_⟩
 have n1:D∉n:=dZ U P K
 have a3:Ok M n (pk js Γ) S1 (kb js X) (upd H1 D (.lst [])):=⟨((ok.en.ext U).ext (cB.laid K)).sig js,P.lay K⟩
 refine⟨λi m o d=>m=j.length-i/\i<=j.length/\∃b A L c h,cB n H1 b d/\Ok M b A L o d/\D∉b/\d D=some (.lst h)/\a8 M b d c h/\nX g t f W (j.drop i) A L c=some (rs,S'),
  ⟨j.length,by simp,Nat.zero_le _,n,_,S1,[],[],cB.laid K,a3,n1,cj,.nil,e⟩,?_⟩
 rintro i m b1 H2 ⟨rfl,hi,b,A,L,c,h,x2,ok2,n2,hD2,racc,e2⟩
 by_cases I:i<j.length
 ·have hd:j[i]?=some j[i]:=gQe I
  rw[QWq I] at e2
  unfold nX at e2
  split at e2
  ·rename_i w
   obtain⟨w1,w2⟩:=wk i b L H2 x2 ok2.st w
   obtain⟨go,a0⟩:=w1 _ hd
   refine .inr ⟨go,λo d=>∃a B s c h,cB n H1 a d/\Ok M a B s o d/\D∉a/\d D=some (.lst h)/\a8 M a d c h/\nX g t f W (j.drop (i+1)) B s c=some (rs,S'),
    λo d ⟨a,B,s,c,h,h1,h2,h3,h4,h5,h6⟩=>⟨j.length-(i+1),by omega,rfl,I,a,B,s,c,h,h1,h2,h3,h4,h5,h6⟩,λx H3 hy=> ?_⟩
   obtain⟨x3,a2,r3⟩:=a0 x H3 hy
   obtain⟨⟨l,S4⟩,e4,e5⟩:=au e2
   refine⟨b,A,L,_,l,S4,ok2.to x3 a2,r3,e4,λa1 b0 H4 x4 p=> ?_⟩
   obtain⟨⟨k,S5⟩,e6,Z⟩:=au e5
   refine⟨a1,l,S4,k,S5,p,e6,λR H5 Y N=> ?_⟩
   have r:=(x3.trans x4).trans Y
   have C:∀{a d},cB b H2 a d->d D=some (.lst h)/\D∉a:=λ{a d} x=>⟨x.keep _ _ hD2 (.inl n2),λm=>(x.new _ m).elim n2 λz=>by rw[z] at hD2;cases hD2⟩
   dsimp only at Z⊢
   split at Z
   ·rename_i ck
    rw[Qhq ck]
    obtain⟨⟨y,S6⟩,e8,e9⟩:=au Z
    refine⟨R,l,S5,y,S6,p.to Y N,e8,λa6 v H6 x6 a4 r6=> ?_⟩
    have F:=r.trans x6
    obtain⟨u,n6⟩:=C F
    have G:=racc.ext F
    dsimp only at e9
    split at e9
    ·rename_i cl
     refine⟨h,u,by rw[←racc.length];exact cl,a6,l,S6,c++ [y],h++ [v],(x2.trans F).off K _,⟨((p.en.ext Y).ext x6).off u,a4.off u n6⟩,n6,cj,(G.append (.cons r6 .nil)).off u,e9⟩
    ·cases e9
   ·rename_i ck
    rw[Quq ck]
    obtain⟨a5,n5⟩:=C r
    exact⟨R,l,S5,c,h,x2.trans r,p.to Y N,n5,a5,racc.ext r,Z⟩
  ·cases e2
 ·have e3:i=j.length:=by omega
  subst e3
  rw[List.drop_length] at e2
  unfold nX at e2
  split at e2
  ·rename_i w
   obtain⟨rfl,rfl⟩:=cD e2
   obtain⟨w1,w2⟩:=wk j.length b L H2 x2 ok2.st w
   exact .inl ⟨w2 rfl,q b D h H2 (U.trans x2) ok2.st (U.grow _ K) n2 hD2 racc⟩
  ·cases e2
end
section
variable{X:Cx}{a b c e:Expr}{pos:Pos}{st:Stmt}{rest body other:List Stmt}
def bI:jE:=λ_ S=>some (true,S)
def Nd{f:List Expr}{t t':TT}(h:pq X f t)(w:∀g H Q,t' g H Q->t g H Q):pq X f t':=λd s g H Q I q=>h d s g H Q I (w _ _ _ q)
def Nr:pq X [] (tB (md X) bI):=Nd Mk λd H Q ⟨g,h,S,k,f,ok,e,q⟩=>by cases e;exact q _ _ cB.refl ok.st
def Ql{f:jE}(d:PT X c (tB (md X) f)):pq X [c] (tB (md X) f):=K1 d
def II{N:List Str}{js:List (Option Nat)}{d:Scope}{l:List (Str×Addr)}{tg h j:Expr}{k:List Expr}{i:yd}{g:ni}{t:jE}{f:bD}
  (S:aI X N js d l) (n:X.calm=true) (hi:PI X tg h (tI (md X) i))
  (m:∀C s H fp,PG (aO X N d l C s H fp) tg (tG (md X) g)) (ht:∀C s H fp,pq (aO X N d l C s H fp) k (tB (md X) t)) (he:∀C s H fp,PE (aO X N d l C s H fp) j (tD (md X) f))
  (hs:∀x,foldedSetIterable h X.env x=pure x:=by intro _;rfl):PE X (.ListComp j [⟨tg,h,k,0⟩] d pos) (tL (md X) (bA js i g t f)):=j_ (Ko S n hi m ht he hs) HX
def Mf{N:List Str}{js:List (Option Nat)}{h:Scope}{v:List (Str×Addr)}{tg j m k:Expr}{r:List Expr}{i:yd}{g:ni}{t:jE}{f:bD}{n:Nat}{l:Pos}
  (S:aI X N js h v) (hc:X.calm=true) (hi:PI X tg j (tI (md X) i))
  (L:∀C s H fp,PG (aO X N h v C s H fp) tg (tG (md X) g)) (ht:∀C s H fp,pq (aO X N h v C s H fp) r (tB (md X) t)) (he:∀C s H fp,PE (aO X N h v C s H fp) m (tD (md X) f)) (A:PG X k (qe n))
  (hs:∀x,foldedSetIterable j X.env x=pure x:=by intro _;rfl) (y:swapsWithSole [k] (.ListComp m [⟨tg,j,r,0⟩] h pos) l.line X.env=pure true:=by rfl)
  (P:(assignEach [k] X.env).map (·.2)= [assign k X.env]:=by rfl):PS X (.Assign [k] (.ListComp m [⟨tg,j,r,0⟩] h pos) l) (tS (md X) (aU n (bM (bA js i g t f)))):=
 Ew (JG S hc hi L ht he A hs y P) λD Z H qq=>by
  obtain⟨B,Γ,S,o,ok,e,q⟩:=qq
  obtain⟨⟨d,S1⟩,U,e⟩:=au e
  cases e
  obtain⟨⟨G,R⟩,M,J⟩:=au U
  obtain⟨rfl,rfl⟩:=cD J
  refine HX Z H _ ⟨B,Γ,S,G,R,ok,M,λp a K I x st Q W Y rs=> ?_⟩
  have z:=rs.pre (List.prefix_append p [a])
  have w:=st.box (o:=.lst G) W ⟨K,Y,z⟩
  have F:cB B H (p++ [a]) I:=⟨x.pre.trans (List.prefix_append _ _),λb u=>by
   rcases mQa.mp u with u|u
   ·exact x.new b u
   ·rw[Qfq] at u;subst u;exact .inr Q,x.keep,x.grow⟩
  refine q (p++ [a]) _ I F ⟨((ok.en.ext F).set (.ref ?_)),w⟩
  rw[←st.len,QQq (Qmq _)]
  simp
def IL(c:jE)(b:cA):Nat->cy->aD->Option Out
 |0,_,_=>none
 |n +1,Γ,S=>(c Γ S).bind λ(k,g)=>if k=true then(b Γ g).bind λo=>match o with
    |.nx d f=>IL c b n d f
    |.ct d f=>IL c b n d f
    |.bk d f=>some (.nx d f)
    |.rt x f=>some (.rt x f)
    |.rl x f=>some (.rl x f)
  else some (.nx Γ g)
def Jm{h:jE}{f:cA}(n:Nat)(Z:PassesOwn (model X.prog X.w) X.A X.env X.xe)(hc:PT X c (tB (md X) h))(hb:tX X body (tS (md X) f)):PS X (.While c body [] pos) (tS (md X) (IL h f n)):=Ew (GO Z hc hb) λD σ H qq=>by
 obtain⟨G,Γ,S,o,ok,e,q⟩:=qq
 refine⟨λm r v=>∃d g t,cB G H d v/\Ok (md X) d g t r v/\IL h f m g t=some o,⟨n,G,Γ,S,cB.refl,ok,e⟩,?_⟩
 rintro m U H1 ⟨K,B,R,x1,C,i⟩
 cases m with
 |zero=>cases i
 | succ m=>
   unfold IL at i
   obtain⟨⟨k,L⟩,W,i⟩:=au i
   refine⟨K,B,R,k,L,C,W,λJ H2 M F=> ?_⟩
   dsimp only at i⊢
   have x:=C.to M F
   have j:=x1.trans M
   split at i
   · rename_i I
     rw[Qhq I]
     obtain⟨N,Q,i⟩:=au i
     refine⟨λr v=>∃d g t,cB G H d v/\Ok (md X) d g t r v/\IL h f m g t=some o,λr v ⟨d,g,t,Y,h2,h3⟩=>⟨m,Nat.lt_succ_self _,d,g,t,Y,h2,h3⟩,J,B,L,N,x,Q,?_⟩
     cases N with
     |nx p u=>exact λs y P z l=>⟨s,p,u,j.trans z,l,i⟩
     |ct p u=>exact λs y P z l=>⟨s,p,u,j.trans z,l,i⟩
     |bk p u=>cases i;exact λs y P z l=>q _ _ _ (j.trans z) l
     |rt d6 u=>cases i;exact q.to j
     |rl d6 u=>cases i;exact q.to j
   · rename_i I
     rw[Quq I]
     cases i
     exact q _ _ _ j x
end
inductive Res where
 |d (x:D)|l (ds:List D)
abbrev cQ:=List D->aD->Option (Res×aD)
def Lm(M:Md)(ρ:List Addr)(H b:Hp)(v:V):Res->Prop
 |.d x=>Rel M ρ b x v
 |.l e=>∃a c,v=.ref a/\H a=none/\a∉ρ/\b a=some (.lst c)/\a8 M ρ b e c
def dC(M:Md)(n:Nat)(F:cQ):Sp:=λf H Q _=>∃c S d r e,d.length=n/\a8 M c H d f/\fY M c S H/\F d S=some (r,e)/\∀a v b,cB c H a b->fY M a e b->Lm M a H b v r->Q v b
mutual
def cm(m:Nat):D->Bool
 |.ref k=>decide (k<m)
 |.tup a=>b_ m a
 |_=>true
def b_(m:Nat):List D->Bool
 | []=>true
 |d::ds=>cm m d&&b_ m ds
end
def JK(m:Nat):O->Bool
 |.lst b=>b_ m b
 |.frz b=>b_ m b
 |.dct a=>b_ m (a.map (·.2))
section
variable{M:Md}{ρ ρ':List Addr}{H:Hp}
mutual
theorem Rel.cut(e:ρ <+: ρ'):∀{d:D} {v:V},Rel M ρ' H d v->cm ρ.length d=true->Rel M ρ H d v
 |_,_,.non,_=>.non
 |_,_,.bl x,_=>.bl x
 |_,_,.int i,_=>.int i
 |_,_,.str x,_=>.str x
 |_,_,.tup h hs,b=>.tup h (a8.cut e hs (by simpa [cm] using b))
 | _,_,.ref (k:=k) (a:=a) h,b=>.ref (by
   obtain⟨t,rfl⟩:=e
   have c:k<ρ.length:=by simpa [cm] using b
   rwa [QHq c] at h)
 |_,_,.fn h,_=>.fn h
theorem a8.cut(e:ρ <+: ρ'):∀{ds:List D} {vs:List V},a8 M ρ' H ds vs->b_ ρ.length ds=true->a8 M ρ H ds vs
 |_,_,.nil,_=>.nil
 | _,_,.cons h hs,b=>by
   have a:=b
   simp only[b_,QDq,QCq] at a
   exact .cons (Rel.cut e h a.1) (a8.cut e hs a.2)
end
theorem cE.cut(e:ρ <+: ρ'):∀{l:List (Key×D)} {kv:List (Key×V)},cE M ρ' H l kv->b_ ρ.length (l.map (·.2))=true->cE M ρ H l kv
 | [],_,h,_=>h
 | (_,_)::_,_,⟨v,t,q,h,hs⟩,b=>by
   have a:=b
   simp only[b_,QDq,QCq] at a
   exact⟨v,t,q,h.cut e a.1,cE.cut e hs a.2⟩
theorem pV.cut{a:Addr}{o:O}(e:ρ <+: ρ')(h:pV M ρ' H a o)(b:JK ρ.length o=true):pV M ρ H a o:=by
 cases o with
 |lst j=>obtain⟨f,c,d⟩:=h;exact⟨f,c,d.cut e b⟩
 |frz j=>obtain⟨f,o,c,d⟩:=h;exact⟨f,o,c,d.cut e b⟩
 |dct i=>obtain⟨g,c,d⟩:=h;exact⟨g,c,d.cut e b⟩
mutual
theorem Rel.low:∀{d:D} {v:V},Rel M ρ H d v->cm ρ.length d=true
 |_,_,.non=>rfl
 |_,_,.bl x=>rfl
 |_,_,.int i=>rfl
 |_,_,.str x=>rfl
 |_,_,.tup h hs=>by simp only[cm];exact a8.low hs
 |_,_,.ref h=>by simp only[cm];exact Qeq (gQs.mp h).1
 |_,_,.fn h=>rfl
theorem a8.low:∀{ds:List D} {vs:List V},a8 M ρ H ds vs->b_ ρ.length ds=true
 |_,_,.nil=>rfl
 |_,_,.cons h hs=>by simp only[b_];rw[Rel.low h,a8.low hs];rfl
end
theorem cE.low:∀{l:List (Key×D)} {kv:List (Key×V)},cE M ρ H l kv->b_ ρ.length (l.map (·.2))=true
 | [],_,_=>rfl
 |(_,_)::_,_,⟨v,t,q,h,hs⟩=>by simp only[QDq,b_];rw[h.low,cE.low hs];rfl
theorem pV.low{a:Addr}{o:O}(h:pV M ρ H a o):JK ρ.length o=true:=by
 cases o with
 |lst f=>obtain⟨d,c,b⟩:=h;exact b.low
 |frz f=>obtain⟨d,o,c,b⟩:=h;exact b.low
 |dct e=>obtain⟨g,c,b⟩:=h;exact b.low
end
def p_(S a:aD):Prop:=S.length<=a.length/\∀k o,k<S.length->a[k]?=some o->S[k]?=some o\/JK S.length o=true
open Classical in
def settle(S:aD)(d:D)(a:aD):Option (Res×aD):=if p_ S a then match d with
  | .ref k=>if k<S.length then some (.d (.ref k),a.take S.length) else match a[k]? with
    |some (.lst ds)=>if b_ S.length ds=true then some (.l ds,a.take S.length) else none
    |_=>none
  |d=>if cm S.length d=true then some (.d d,a.take S.length) else none
 else none
open Classical in
def eO(S:aD)(ds:List D)(a:aD):Option (Res×aD):=if p_ S a/\b_ S.length ds=true then some (.l ds,a.take S.length) else none
noncomputable def eP(n:Nat)(b:cA):cQ:=λc S=>(b (c.map some++List.replicate (n-c.length) none) S).bind λo=>match o with
 |.nx _ a=>settle S .non a
 |.rt d a=>settle S d a
 |.rl l a=>eO S l a
 |_=>none
noncomputable def Cb(n:Nat)(b:cA):cQ:=λc S=>(b (c.map some++List.replicate (n-c.length) none) S).bind λo=>match o with
 |.nx _ a=>some (.d .non,a)
 |.rt d a=>some (.d d,a)
 |.rl l a=>some (.l l,a)
 |_=>none
def fY.clean{M:Md}{ρ b:List Addr}{S i:aD}{H e:Hp}(st:fY M ρ S H)(x:cB ρ H b e)(f:fY M b i e)(c:p_ S i):fY M ρ (i.take S.length) e/\cB ρ H ρ e:=by
 refine⟨⟨?_,st.nd,λk a o g j=> ?_⟩,List.prefix_refl _,λ_ h=>.inl h,x.keep,x.grow⟩
 ·rw[Qxq,st.len]
  have:=c.1
  omega
 ·have l:k<ρ.length:=(gQs.mp g).1
  have d:k<S.length:=st.len▸l
  rw[List.getElem?_take_of_lt d] at j
  refine(f.obj k a o (de x.pre g) j).cut x.pre ?_
  rcases c.2 k o d j with z|z
  ·exact(st.obj k a o g z).low
  ·rw[st.len];exact z
def xZ{M:Md}{ρ f:List Addr}{S u h:aD}{H g:Hp}{d:D}{v:V}{r:Res}(st:fY M ρ S H)(x:cB ρ H f g)(b:fY M f u g)(l:Rel M f g d v)(e:settle S d u=some (r,h)):
  cB ρ H ρ g/\fY M ρ h g/\Lm M ρ H g v r:=by
 unfold settle at e
 split at e
 ·rename_i c
  obtain⟨q,o⟩:=st.clean x b c
  cases d with
  | ref k=>
    dsimp only at e
    split at e
    · rename_i i
      obtain⟨rfl,rfl⟩:=cD e
      exact⟨o,q,l.cut x.pre (by simp only[cm];rw[st.len];exact Qeq i)⟩
    · rename_i i
      split at e
      · rename_i B w
        split at e
        · rename_i p
          obtain⟨rfl,rfl⟩:=cD e
          cases l with
          | ref n=>
            rename_i a
            obtain⟨y,z,A⟩:=b.obj k a _ n w
            have s:a∉ρ:=λm=>by
              obtain⟨j,t⟩:=List.getElem?_of_mem m
              have:=mT b.nd (de x.pre t) n
              subst this
              exact i (st.len▸(gQs.mp t).1)
            refine⟨o,q,a,y,rfl,(x.new a (mQg n)).resolve_left s,s,z,A.cut x.pre (by rw[st.len];exact p)⟩
        · cases e
      · cases e
  | _=>
    dsimp only at e
    split at e
    · rename_i p
      obtain⟨rfl,rfl⟩:=cD e
      exact⟨o,q,l.cut x.pre (by rw[st.len];exact p)⟩
    · cases e
 ·cases e
def CU{M:Md}{ρ b:List Addr}{S h f:aD}{H d:Hp}{ds:List D}{a:Addr}{vs:List V}{r:Res}(st:fY M ρ S H)(x:cB ρ H b d)(g:fY M b h d)(j:H a=none)(i:a∉b)(l:d a=some (.lst vs))(k:a8 M b d ds vs)(e:eO S ds h=some (r,f)):
  cB ρ H ρ d/\fY M ρ f d/\Lm M ρ H d (.ref a) r:=by
 unfold eO at e
 split at e
 ·rename_i c
  obtain⟨o,n⟩:=st.clean x g c.1
  obtain⟨rfl,rfl⟩:=cD e
  exact⟨n,o,a,vs,rfl,j,λm=>i (x.pre.subset m),l,k.cut x.pre (by rw[st.len];exact c.2)⟩
 ·cases e
def BN{M:Md}{ρ:List Addr}{H:Hp}{ds:List D}{vs:List V}{N:List Str}(r:a8 M ρ H ds vs):En M ρ H (ds.map some++List.replicate (N.length-ds.length) none) (L2.start N vs) where
 len:=by unfold L2.start;simp[r.length]
 get:=λi d q=>by
  unfold L2.start
  by_cases c:i<ds.length
  ·rw[QHq (by rw[lQm];exact c),gQm] at q
   obtain⟨g,a,b⟩:=oQm.mp q
   cases b
   obtain⟨v,f,e⟩:=r.get a
   exact⟨v,by rw[QHq (by rw[lQm,←r.length];exact c),gQm,f];rfl,e⟩
  ·rw[QQq (by rw[lQm];omega)] at q
   have:=mQg q
   rw[List.mem_replicate] at this
   cases this.2
section
variable{P:Program}{w:World}{K:PySem.W.Frag}{mg:Str->Option Value}{base:Heap}
def bg{x c:Str}{st:Stmt}{f:Addr}{J:FuncData}{N ps:List Str}{k:Nat}{b:cA}(F:dF K x c st f J)(S:aF N ps (ay st))
  (h:∀(g:Value) (A:Around) (outer:List Env) (s:Shared) (H:Hp) (E:XK),fQ k (A.deeper (envOfC c (ay st) s.heap.objs.size f g))→
   tX (AU df P w K mg base N c (ay st) f g A outer s H E).nox (fB st) (tS ⟨K,mg⟩ b)):bf P w K mg base df (k+1) f J ps (dC ⟨K,mg⟩ ps.length (eP N.length b)):=by
 refine F.ok S (λB H Q E ⟨I,S,X,r,Y,G,z,_⟩=>by rw[←z.length];exact G) λg A outer s H B Q E hr ⟨I,S,X,r,Y,G,z,t,U,q⟩=>⟨_,h g A outer s H E hr,?_⟩
 obtain⟨o,W,e⟩:=au U
 refine⟨I,_,S,o,⟨BN z,t⟩,W,?_⟩
 cases o with
 |nx a0 C=>exact λl Z L j y=>by obtain⟨n,p,m⟩:=xZ t j y.st .non e;exact q _ _ _ n p m
 |rt d C=>exact λl v L j i u=>by obtain⟨n,p,m⟩:=xZ t j i u e;exact q _ _ _ n p m
 |rl d C=>exact λl a B L j i R M ha u=>by obtain⟨n,p,m⟩:=CU t j i R M ha u e;exact q _ _ _ n p m
 |bk=>cases e
 |ct=>cases e
def iS{x c:Str}{st:Stmt}{f:Addr}{B:FuncData}{N ps:List Str}{k:Nat}{b:cA}(F:dF K x c st f B)(S:aF N ps (ay st))
  (h:∀(g:Value) (A:Around) (outer:List Env) (s:Shared) (H:Hp) (E:XK),fQ k (A.deeper (envOfC c (ay st) s.heap.objs.size f g))→
   tX (AU df P w K mg base N c (ay st) f g A outer s H E).nox (fB st) (tS ⟨K,mg⟩ b)):bf P w K mg base df (k+1) f B ps (dC ⟨K,mg⟩ ps.length (Cb N.length b)):=by
 refine F.ok S (λn H Q E ⟨z,S,M,r,R,y,t,_⟩=>by rw[←t.length];exact y) λg A outer s H n Q E Y ⟨z,S,M,r,R,y,t,Z,J,q⟩=>⟨_,h g A outer s H E Y,?_⟩
 obtain⟨o,L,e⟩:=au J
 refine⟨z,_,S,o,⟨BN t,Z⟩,L,?_⟩
 cases o with
 |nx X u=>cases e;exact λl U C j p=>q _ _ _ j p.st .non
 |rt d u=>cases e;exact λl v C j i m=>q _ _ _ j i m
 |rl d u=>cases e;exact λl a n C j i I G W m=>q _ _ _ j i ⟨a,n,rfl,I,G,W,m⟩
 |bk=>cases e
 |ct=>cases e
end
section
variable{X:Cx}{x:Str}{k n:Nat}{f:Addr}{fd:FuncData}{ps:List Str}{F:cQ}{e:Expr}{es:List Expr}{g:h_}{p pos:Pos}
noncomputable def aw(F:cQ)(g:h_):bD:=λc S=>(g c S).bind λ(h,b)=>(F h b).bind λ(r,a)=>match r with
 |.d x=>some (x,a)
 |.l _=>none
def dR(F:cQ)(g:h_):h_:=λh S=>(g h S).bind λ(a,c)=>(F a c).bind λ(r,b)=>match r with
 |.d _=>none
 |.l a=>some (a,b)
def nA(n:Nat)(g:h_):Prop:=∀c S a b,g c S=some (a,b)->a.length=n
def Dw:nA 0 av:=λ_ _ _ _ e=>by cases e;rfl
def m4{n:Nat}{f:bD}{g:h_}(h:nA n g):nA (n+1) (aq f g):=λl S o c e=>by
 obtain⟨⟨d,j⟩,m,e⟩:=au e
 obtain⟨⟨a,i⟩,b,e⟩:=au e
 cases e
 rw[Qnq,h _ _ _ _ b]
def DZ{M:Md}(o:nA n g):∀h H Q,tD M (aw F g) h H Q->Hk (dC M n F) [] E0 (AB M g) h H Q:=λh H Q C=>by
 obtain⟨t,G,S,d,J,ok,e,q⟩:=C
 obtain⟨⟨c,j⟩,m,e⟩:=au e
 obtain⟨⟨r,u⟩,s,e⟩:=au e
 refine⟨t,G,S,c,j,ok,m,λi I H1 B a y=>⟨i,j,c,r,u,o _ _ _ _ m,by rw[List.append_nil];exact y,a,s,λA v H2 z b w=> ?_⟩⟩
 cases r with
 |d x=>obtain⟨rfl,rfl⟩:=cD e;exact q _ _ _ (B.trans z) b w
 |l c=>cases e
def JS{M:Md}(u:nA n g):∀i H Q,tL M (dR F g) i H Q->Hk (dC M n F) [] E0 (AB M g) i H Q:=λi H Q I=>by
 obtain⟨y,J,S,d,K,ok,e,q⟩:=I
 obtain⟨⟨h,m⟩,o,e⟩:=au e
 obtain⟨⟨r,z⟩,w,e⟩:=au e
 refine⟨y,J,S,h,m,ok,o,λj t H1 s b B=>⟨j,m,h,r,z,u _ _ _ _ o,by rw[List.append_nil];exact B,b,w,λG v H2 C c A=> ?_⟩⟩
 cases r with
 |d x=>cases e
 | l h=>
   obtain⟨rfl,rfl⟩:=cD e
   obtain⟨a,t,rfl,fr,na,ha,rr⟩:=A
   exact q _ _ _ _ (s.trans C) c (s.grow _ fr) na ha rr
def KS(G:bf X.prog X.w X.K X.mg X.base df k f fd ps (dC (md X) n F))(i:fQ k X.A)(d:Gl X x)(j:X.mg x=some (.ref f))(b:PySem.W.keepIn X.K (.ref f)=true)(c:Binds X.K fd ps [])(l:PA X (e::es) (AB (md X) g))(h:nA n g)
  (a:(x==("__debug__":Str))=false:=by decide) (he:starEach (e::es) X.env=(false,eval e X.env)::starEach es X.env:=by rfl) (hpl:(backTo pos (starEach es X.env)).any (·.1)=false:=by rfl):
  PE X (.Call (.Name x p) (e::es) [] pos) (tD (md X) (aw F g)):=j_ (Ee G i d j b c .nil lV l a he hpl) (DZ h)
def Lh(G:bf X.prog X.w X.K X.mg X.base df k f fd ps (dC (md X) n F))(i:fQ k X.A)(d:Gl X x)(j:X.mg x=some (.ref f))(b:PySem.W.keepIn X.K (.ref f)=true)(c:Binds X.K fd ps [])(l:PA X (e::es) (AB (md X) g))(h:nA n g)
  (a:(x==("__debug__":Str))=false:=by decide) (he:starEach (e::es) X.env=(false,eval e X.env)::starEach es X.env:=by rfl) (hpl:(backTo pos (starEach es X.env)).any (·.1)=false:=by rfl):
  PE X (.Call (.Name x p) (e::es) [] pos) (tL (md X) (dR F g)):=j_ (Ee G i d j b c .nil lV l a he hpl) (JS h)
end
def l_{α:Type}(xs:List α)(lo hi:Option Int):List α:=(xs.drop (HT.fI xs.length 0 lo)).take (HT.fI xs.length xs.length hi-HT.fI xs.length 0 lo)
def a8.cut3{M:Md}{ρ:List Addr}{H:Hp}{ds:List D}{vs:List V}{lo hi:Option Int}(h:a8 M ρ H ds vs):a8 M ρ H (l_ ds lo hi) (DE vs lo hi):=by
 unfold l_ DE
 rw[h.length]
 exact(h.drop _).take _
def Jn{α:Type}{xs:List α}{lo hi:Option Int}(a:HT.fI xs.length 0 lo=0)(b:HT.fI xs.length xs.length hi=xs.length):l_ xs lo hi=xs:=by
 unfold l_
 rw[a,b]
 simp
abbrev Mx:=cy->aD->Option (Option Int×aD)
def Ot(M:Md)(f:Mx):TO:=λg H Q=>∃d e S o c,Ok M d e S g H/\f e S=some (o,c)/\∀a b,cB d H a b->fY M a c b->Q o b
section
variable{X:Cx}{a b c e:Expr}{pos:Pos}{st:Stmt}
def wu:Mx:=λ_ S=>some (none,S)
def vT(f:bD):Mx:=λh S=>(f h S).bind λ(d,g)=>match d with
 |.int i=>some (some i,g)
 |_=>none
def QJ{o:Option Expr}{t t':TO}(h:PO X o t)(w:∀f H Q,t' f H Q->t f H Q):PO X o t':=λd s f H Q I q=>h d s f H Q I (w _ _ _ q)
def PN:PO X none (Ot (md X) wu):=QJ J9 λd H Q ⟨g,h,S,o,f,ok,e,q⟩=>by cases e;exact q _ _ cB.refl ok.st
def OV{f:bD}(h:PE X e (tD (md X) f)):PO X (some e) (Ot (md X) (vT f)):=QJ (Kk h) λp H Q l=>by
 obtain⟨i,m,S,o,n,ok,e,q⟩:=l
 obtain⟨⟨d,g⟩,j,e⟩:=au e
 dsimp only at e
 split at e
 ·obtain⟨rfl,rfl⟩:=cD e
  refine⟨i,m,S,_,g,ok,j,λk v s x st r=> ?_⟩
  cases r
  exact⟨_,rfl,q _ _ x st⟩
 ·cases e
def vY(f:bD)(lo hi:Mx):bD:=λg S=>(f g S).bind λ(d,k)=>(lo g k).bind λ(l,j)=>(hi g j).bind λ(h,i)=>match d with
 |.tup m=>some (.tup (l_ m l h),i)
 |_=>none
def Oo{lo hi:Option Expr}{J:Pos}{f:bD}{l h:Mx}(he:PE X e (tD (md X) f))(Y:PO X lo (Ot (md X) l))(W:PO X hi (Ot (md X) h)):PE X (.Subscript e (.Slice lo hi none J) pos) (tD (md X) (vY f l h)):=
 j_ (G3 Ka he Y W) λσ H Q R=>by
  obtain⟨L,u,S,d,Z,ok,e,q⟩:=R
  obtain⟨⟨x,w⟩,N,e⟩:=au e
  obtain⟨⟨y,A⟩,I,e⟩:=au e
  obtain⟨⟨z,M⟩,G,e⟩:=au e
  cases x with
  | tup B=>
    dsimp only at e
    obtain⟨rfl,rfl⟩:=cD e
    refine⟨L,u,S,_,w,ok,N,λm v H1 t i P=>⟨m,u,w,y,A,ok.to t i,I,λs H2 r o=>⟨s,u,A,z,M,(ok.to t i).to r o,G,λK H3 F g=> ?_⟩⟩⟩
    have j:=(t.trans r).trans F
    have U:=P.ext (r.trans F)
    cases U with
    | tup C k=>
      refine⟨_,_,rfl,jj.of C,λc=> ?_,λc p n=> ?_⟩
      · have:l_ B y z=B:=Jn (by rw[k.length];exact c.1) (by rw[k.length];exact c.2)
        rw[this] at q
        exact q _ _ _ j g (.tup C k)
      · exact q _ _ _ (j.trans (cB.laid n)) (g.lay n) (.tup cj (k.cut3.ext (cB.laid n)))
  |_=>cases e
open Classical in
def yz(f g:fh):h_:=λh S=>(f h S).bind λ(p,i)=>(g h i).bind λ(r,d)=>if p.2.isM=true/\r.2.isM=true/\p.2.stays d p.1/\p.1.length+r.1.length<=sizeLine then some (p.1++r.1,d) else none
def QG{f g:fh}(J:PE X a (tQ (md X) f))(M:PE X b (tQ (md X) g)):PE X (.BinOp a .Add b pos) (tL (md X) (yz f g)):=j_ (sV Ma J M) λW H Q L=>by
 obtain⟨z,u,S,d,U,ok,e,q⟩:=L
 obtain⟨⟨⟨F,t⟩,n⟩,B,e⟩:=au e
 obtain⟨⟨⟨N,w⟩,A⟩,x,e⟩:=au e
 dsimp only at e
 split at e
 ·rename_i c
  obtain⟨rfl,rfl⟩:=cD e
  refine⟨z,u,S,F,t,n,ok,B,λm a R H1 s k y G=>⟨m,u,n,N,w,A,ok.to s k,x,λI b C H2 r i K o=> ?_⟩⟩
  obtain⟨l,P,v⟩:=y.to G r i c.2.2.1
  have h:=s.trans r
  refine⟨_,_,l,C,rfl,rfl,P.sqM c.1,K.sqM c.2.1,by rw[←v.length,←o.length];exact c.2.2.2,λp j=> ?_⟩
  exact q _ _ _ _ (h.trans (cB.laid j)) (i.lay j) (h.grow _ j) (dZ h i j) cj ((v.append o).ext (cB.laid j))
 ·cases e
open Classical in
def Kc(f:fh)(g:bD):h_:=λh S=>(f h S).bind λ(p,i)=>(g h i).bind λ(r,d)=>match r with
 |.int k=>if p.2.isM=true/\p.2.stays d p.1/\ -(2^63)<=k/\k<2^63/\p.1.length*k.toNat<=sizeLine then some ((List.replicate k.toNat p.1).flatten,d) else none
 |_=>none
def Qd{f:fh}{g:bD}(K:PE X a (tQ (md X) f))(M:PE X b (tD (md X) g)):PE X (.BinOp a .Mult b pos) (tL (md X) (Kc f g)):=j_ (sV L1 K M) λU H Q L=>by
 obtain⟨A,v,S,d,R,ok,e,q⟩:=L
 obtain⟨⟨⟨F,t⟩,o⟩,C,e⟩:=au e
 obtain⟨⟨r,B⟩,y,e⟩:=au e
 cases r with
 | int k=>
   dsimp only at e
   split at e
   · rename_i c
     obtain⟨rfl,rfl⟩:=cD e
     refine⟨A,v,S,F,t,o,ok,C,λn a P H1 u l z I=>⟨n,v,o,_,B,ok.to u l,y,λJ w H2 s i G=> ?_⟩⟩
     obtain⟨m,N,x⟩:=z.to I s i c.2.1
     have h:=u.trans s
     cases G
     refine⟨_,k,m,rfl,rfl,N.sqM c.1,c.2.2.1,c.2.2.2.1,by rw[←x.length];exact c.2.2.2.2,λp j=> ?_⟩
     exact q _ _ _ _ (h.trans (cB.laid j)) (i.lay j) (h.grow _ j) (dZ h i j) cj ((x.rep _).ext (cB.laid j))
   · cases e
 |_=>cases e
open Classical in
def cV(f:fh):bD:=λg S=>(f g S).bind λ(p,d)=>if p.2.isL=true/\p.2.stays d p.1 then some (.bl (!p.1.isEmpty),d) else none
def Je{f:fh}:∀j H Q,tD (md X) (cV f) j H Q->IT (GT X.K) (tQ (md X) f) (tL (md X) (bu av)) j H Q:=λj H Q y=>by
 obtain⟨r,o,S,d,I,ok,e,q⟩:=y
 obtain⟨⟨⟨u,t⟩,h⟩,s,e⟩:=au e
 dsimp only at e
 split at e
 ·rename_i c
  obtain⟨rfl,rfl⟩:=cD e
  refine⟨r,o,S,u,t,h,ok,s,λl a C H1 n i p w=>⟨l,o,h,[],h,ok.to n i,rfl,λx b G H2 m g F J z v=> ?_⟩⟩
  obtain⟨k,A,B⟩:=p.to w m g c.2
  cases v
  refine⟨a,b,k,rfl,rfl,A.sqL c.1,i7.of z,?_⟩
  rw[←B.isEmpty]
  exact q _ _ _ (n.trans m) g (.bl _)
 ·cases e
def N9:PE X (.List [] pos) (tL (md X) (bu av)):=HJ iK
def JW{f:fh}{p:Pos}(d:X.A.units<cLine)(g:PE X a (tQ (md X) f)):PT X (.Compare a [.NotEq] [.List [] p] pos) (tB (md X) (aH (cV f))):=Du Je (uf (IJ d) g N9 (IA _))
def fY.putL{M:Md}{ρ:List Addr}{S:aD}{H:Hp}{k:Nat}{a:Addr}{ds g:List D}{ws:List V}(st:fY M ρ S H)(h:ρ[k]?=some a)(i:S[k]?=some (.lst ds))(r:a8 M ρ H g ws):fY M ρ (S.set k (.lst g)) (upd H a (.lst ws))/\cB ρ H ρ (upd H a (.lst ws)):=by
 obtain⟨l,d,j⟩:=st.obj k a _ h i
 exact st.put h i ⟨ws,cj,r.off d⟩ λx f=>by rw[d] at f;cases f;exact id
def i9(m:List D->List D->Option (List D×D))(f:bD)(g:h_):bD:=λj S=>(f j S).bind λ(x,i)=>match x with
 | .ref k=>(g j i).bind λ(n,h)=>match i[k]?,h[k]? with
   |some (.lst _),some (.lst ds)=>(m ds n).bind λ(l,d)=>some (d,h.set k (.lst l))
   |_,_=>none
 |_=>none
def Dp(M:Md)(r:V->List V->Hp->VK->Prop)(m:List D->List D->Option (List D×D)):Prop:=∀{f:List Addr} {H:Hp} {a:Addr} {l k h:List D} {d:D} {i g:List V} {Q:VK},H a=some (.lst i)->a8 M f H l i->a8 M f H k g->m l k=some (h,d)→
 (∀j w,a8 M f H h j->Rel M f H d w->Q w (upd H a (.lst j)))->r (.ref a) g H Q
def LR{m:List D->List D->Option (List D×D)}{r:V->List V->Hp->VK->Prop}{f:bD}{g:h_}(Y:Dp (md X) r m):∀s H Q,tD (md X) (i9 m f g) s H Q->OC X.K "list" r (tD (md X) f) (AB (md X) g) s H Q:=λs H Q qq=>by
 obtain⟨M,B,S,d,S',ok,e,q⟩:=qq
 obtain⟨⟨x,u⟩,P,e⟩:=au e
 cases x with
 | ref k=>
   dsimp only at e
   obtain⟨⟨ys,N⟩,J,e⟩:=au e
   dsimp only at e
   split at e
   · rename_i I ds p l
     obtain⟨⟨es,d'⟩,F,e⟩:=au e
     obtain⟨rfl,rfl⟩:=cD e
     refine⟨M,B,S,_,u,ok,P,λt v H1 A h U=> ?_⟩
     cases U with
     | ref z=>
       rename_i a
       obtain⟨o,G,_⟩:=h.obj k a _ z p
       refine⟨.inl ⟨rfl,o,i7.of G⟩,t,B,u,ys,N,ok.to A h,J,λW us H2 y i R=> ?_⟩
       have j:=de y.pre z
       obtain⟨vs,L,Z⟩:=i.obj k a _ j l
       refine Y L Z R F λws w rw rd=> ?_
       obtain⟨n,C⟩:=i.putL j l rw
       exact q _ _ _ ((A.trans y).trans C) n (rd.ext C)
   · cases e
 |_=>cases e
def ff:List D->List D->Option (List D×D):=λd f=>match f with
 | [y]=>if d.length<sizeLine then some (d++ [y],.non) else none
 |_=>none
def Lz{M:Md}:Dp M Ep ff:=by
 intro m H a p o n d j l Q h g f e q
 unfold ff at e
 split at e
 ·split at e
  ·rename_i i
   obtain⟨rfl,rfl⟩:=cD e
   cases f with
   | cons f k=>
     cases k
     exact⟨a,j,_,rfl,rfl,h,by rw[←g.length];exact i,q _ _ (g.append (.cons f .nil)) .non⟩
  ·cases e
 ·cases e
def Hw{f:bD}{g:bD}{o:Expr}{h d:Pos}(m:PE X o (tD (md X) f))(l:PE X e (tD (md X) g))(i:attributeBase o "append" X.env (eval o X.env)=eval o X.env:=by rfl) (k:((backTo d (starEach [e] X.env)).all (λx=> !x.1)&&(backToKw d (keywordEach [] X.env)).all (λx=>x.1.isSome)
   &&decide ([e].length+([]:List Keyword).length+(if ([]:List Keyword).isEmpty then 0 else 1)<30))=true:=by rfl)
  (j:(h.endLine==d.line)=true:=by rfl) (hs:starEach [e] X.env= [(false,eval e X.env)]:=by rfl):PE X (.Call (.Attribute o "append" h) [e] [] d) (tD (md X) (i9 ff f (aq g av))):=
 j_ (wb PySem.F.plainAttrs_list PySem.F.slot_list_append PySem.F.type_list_append rg m (cR l iK hs) i k j hs) (LR Lz)
end
section
variable{X:Cx}{a b c e:Expr}{pos:Pos}{st:Stmt}
def Ku{m:List D->List D->Option (List D×D)}{r:V->List V->Hp->VK->Prop}{f:bD}(F:Dp (md X) r m):∀j H Q,tD (md X) (i9 m f av) j H Q->Nh X.K "list" r (tD (md X) f) j H Q:=λj H Q J=>by
 obtain⟨z,L,S,d,U,ok,e,q⟩:=J
 obtain⟨⟨x,u⟩,A,e⟩:=au e
 cases x with
 | ref k=>
   dsimp only at e
   obtain⟨⟨Z,N⟩,y,e⟩:=au e
   cases y
   dsimp only at e
   split at e
   · rename_i s R B h
     obtain⟨⟨Y,W⟩,p,e⟩:=au e
     obtain⟨rfl,rfl⟩:=cD e
     refine⟨z,L,S,_,u,ok,A,λM v H1 G g C=> ?_⟩
     cases C with
     | ref n=>
       rename_i a
       obtain⟨t,l,I⟩:=g.obj k a _ n h
       refine⟨.inl ⟨rfl,t,i7.of l⟩,F l I .nil p λP w rw rd=> ?_⟩
       obtain⟨i,o⟩:=g.putL n h rw
       exact q _ _ _ (G.trans o) i (rd.ext o)
   · cases e
 |_=>cases e
def Gc:List D->List D->Option (List D×D):=λd f=>match f with
 | []=>(d[d.length-1]?).bind λy=>some (d.dropLast,y)
 |_=>none
def L3{M:Md}:Dp M MK Gc:=by
 intro m H a n r p d h o Q i f l e q
 unfold Gc at e
 split at e
 ·obtain⟨y,k,e⟩:=au e
  obtain⟨rfl,rfl⟩:=cD e
  cases l
  obtain⟨v,g,j⟩:=f.get k
  rw[f.length] at g
  exact⟨a,h,v,rfl,rfl,i,g,q _ _ f.dropLast j⟩
 ·cases e
def Pb{f:bD}{o:Expr}{d g:Pos}(j:PE X o (tD (md X) f))(h:attributeBase o "pop" X.env (eval o X.env)=eval o X.env:=by rfl)(i:(d.endLine==g.line)=true:=by rfl):PE X (.Call (.Attribute o "pop" d) [] [] g) (tD (md X) (i9 Gc f av)):=
 j_ (GM PySem.F.plainAttrs_list PySem.F.slot_list_pop PySem.F.type_list_pop K9 j h i) (Ku L3)
def gK:List D->List D->Option (List D×D):=λd f=>match f with
 | [.int i]=>if -(2^63)<=i/\i<2^63 then(seqIndex? i d.length).bind λk=>(d[k]?).bind λy=>some (d.eraseIdx k,y) else none
 |_=>none
def HR{M:Md}:Dp M Gr gK:=by
 intro s H a t x w d m u Q o f g e q
 unfold gK at e
 split at e
 ·split at e
  ·rename_i i j
   obtain⟨k,h,e⟩:=au e
   obtain⟨y,n,e⟩:=au e
   obtain⟨rfl,rfl⟩:=cD e
   cases g with
   | cons g r=>
     cases r
     cases g
     obtain⟨v,l,p⟩:=f.get n
     rw[f.length] at h
     exact⟨a,m,i,k,v,rfl,rfl,o,j.1,j.2,h,l,q _ _ (f.eraseIdx k) p⟩
  ·cases e
 ·cases e
def J_{f:bD}{g:bD}{o:Expr}{h d:Pos}(m:PE X o (tD (md X) f))(l:PE X e (tD (md X) g))(i:attributeBase o "pop" X.env (eval o X.env)=eval o X.env:=by rfl) (k:((backTo d (starEach [e] X.env)).all (λx=> !x.1)&&(backToKw d (keywordEach [] X.env)).all (λx=>x.1.isSome)
   &&decide ([e].length+([]:List Keyword).length+(if ([]:List Keyword).isEmpty then 0 else 1)<30))=true:=by rfl)
  (j:(h.endLine==d.line)=true:=by rfl) (hs:starEach [e] X.env= [(false,eval e X.env)]:=by rfl):PE X (.Call (.Attribute o "pop" h) [e] [] d) (tD (md X) (i9 gK f (aq g av))):=
 j_ (wb PySem.F.plainAttrs_list PySem.F.slot_list_pop PySem.F.type_list_pop GS m (cR l iK hs) i k j hs) (LR HR)
def zR(f:bD)(g:fh):bD:=λi S=>(f i S).bind λ(x,h)=>match x with
 | .ref k=>(g i h).bind λ(p,d)=>match h[k]?,d[k]? with
   |some (.lst _),some (.lst ds)=>if p.2.isM=true/\ds.length+p.1.length<=sizeLine then some (.non,d.set k (.lst (ds++p.1))) else none
   |_,_=>none
 |_=>none
def ME{f:bD}{g:fh}:∀p H Q,tD (md X) (zR f g) p H Q->OC X.K "list" ER (tD (md X) f) (HA (tQ (md X) g) Mp) p H Q:=λp H Q W=>by
 obtain⟨J,B,S,d,S',ok,e,q⟩:=W
 obtain⟨⟨x,s⟩,M,e⟩:=au e
 cases x with
 | ref k=>
   dsimp only at e
   obtain⟨⟨⟨Z,t⟩,L⟩,I,e⟩:=au e
   dsimp only at e
   split at e
   · rename_i F ds o l
     split at e
     · rename_i c
       obtain⟨rfl,rfl⟩:=cD e
       refine⟨J,B,S,_,s,ok,M,λr v H1 A h N=> ?_⟩
       cases N with
       | ref z=>
         rename_i a
         obtain⟨n,C,_⟩:=h.obj k a _ z o
         refine⟨.inl ⟨rfl,n,i7.of C⟩,r,B,s,Z,t,L,ok.to A h,I,λP b R H2 y i U w=> ?_⟩
         have j:=de y.pre z
         obtain⟨G,h3,u⟩:=i.obj k a _ j l
         refine⟨a,b,G,R,rfl,rfl,h3,U.sqM c.1,by rw[←u.length,←w.length];exact c.2,?_⟩
         obtain⟨m,Y⟩:=i.putL j l (u.append w)
         exact q _ _ _ ((A.trans y).trans Y) m .non
     · cases e
   · cases e
 |_=>cases e
def Hn{f:bD}{g:fh}{o:Expr}{h d:Pos}(m:PE X o (tD (md X) f))(l:PE X e (tQ (md X) g))(i:attributeBase o "extend" X.env (eval o X.env)=eval o X.env:=by rfl) (k:((backTo d (starEach [e] X.env)).all (λx=> !x.1)&&(backToKw d (keywordEach [] X.env)).all (λx=>x.1.isSome)
   &&decide ([e].length+([]:List Keyword).length+(if ([]:List Keyword).isEmpty then 0 else 1)<30))=true:=by rfl)
  (j:(h.endLine==d.line)=true:=by rfl) (hs:starEach [e] X.env= [(false,eval e X.env)]:=by rfl):PE X (.Call (.Attribute o "extend" h) [e] [] d) (tD (md X) (zR f g)):=
 j_ (wb PySem.F.plainAttrs_list PySem.F.slot_list_extend PySem.F.type_list_extend FL m (d0 l g9 hs) i k j hs) ME
def wx(f g:bD):ni:=λd h S=>(f h S).bind λ(x,m)=>(g h m).bind λ(y,l)=>match x,y with
 | .ref k,.int i=>match l[k]? with
   |some (.lst ds)=>(CD ds.length i).bind λj=>some (h,l.set k (.lst (ds.set j d)))
   |_=>none
 |_,_=>none
def PZ{f g:bD}:∀v p H Q,tG (md X) (wx f g) v p H Q->MB (tD (md X) f) (tD (md X) g) KG v p H Q:=λv p H Q R=>by
 obtain⟨K,C,S,d,U,Z,ok,r,e,q⟩:=R
 obtain⟨⟨x,u⟩,M,e⟩:=au e
 obtain⟨⟨y,L⟩,J,e⟩:=au e
 cases x with
 | ref k=>
   cases y with
   | int i=>
     dsimp only at e
     split at e
     · rename_i Y t
       obtain⟨j,G,e⟩:=au e
       obtain⟨rfl,rfl⟩:=cD e
       refine⟨K,C,S,_,u,ok,M,λs v1 H1 B n o=>⟨s,C,u,_,L,ok.to B n,J,λP v2 H2 z l N=> ?_⟩⟩
       cases N
       have o:=o.ext z
       cases o with
       | ref A=>
         obtain⟨I,W,w⟩:=l.obj k _ _ A t
         have h:=B.trans z
         obtain⟨m,F⟩:=l.putL A t (a8.set (r.ext h) j w)
         exact⟨_,I,i,j,rfl,rfl,W,by rw[←w.length];exact G,q _ _ _ (h.trans F) ((ok.to h l).to F m)⟩
     · cases e
   |_=>cases e
 |_=>cases e
def Qs{o i:Expr}{f g:bD}(h:PE X o (tD (md X) f))(hi:PE X i (tD (md X) g))
  (d:∀v,assign (.Subscript o i pos) X.env v=(do
   let ov←holding [v] (eval o X.env)
   let iv←holding [v,ov] (eval i X.env)
   standAt pos
   holding [v,ov,iv] (setItem ov iv v)
   release [v,ov,iv] []):=by intro _;rfl):PG X (.Subscript o i pos) (tG (md X) (wx f g)):=OI (Lx h hi set_list d) PZ
def OG(f g h:bD):cA:=λd S=>(f d S).bind λ(x,p)=>(g d p).bind λ(y,o)=>match x,y with
 | .ref k,.int i=>match o[k]? with
   | some (.lst ds)=>if 0<=i then(ds[i.toNat]?).bind λz=>(h d o).bind λ(w,l)=>match z,w,l[k]? with
     |.int m,.int n,some (.lst es)=>(CD es.length i).bind λj=>some (.nx d (l.set k (.lst (es.set j (.int (m+n))))))
     |_,_,_=>none
     else none
   |_=>none
 |_,_=>none
def Pf{o i e:Expr}{f g h:bD}{u:Pos}(ho:PE X o (tD (md X) f))(hi:PE X i (tD (md X) g))(he:PE X e (tD (md X) h))
  (C:∀A B new,augStore i A B new=(do holding [new,A,B] (setItem A B new);release [new,A,B] [];pure .next):=by intros;rfl):PS X (.AugAssign (.Subscript o i u) .Add e pos) (tS (md X) (OG f g h)):=
 Ew (Kq ho hi GZ he LM set_list C) λD σ H qq=>by
  obtain⟨ρ,L,S,o,ok,e,q⟩:=qq
  obtain⟨⟨x,P⟩,e1,e⟩:=au e
  obtain⟨⟨y,U⟩,e2,e⟩:=au e
  cases x with
  | ref k=>
    cases y with
    | int i=>
      dsimp only at e
      split at e
      · rename_i ds hs
        split at e
        · rename_i hi
          obtain⟨z,e3,e⟩:=au e
          obtain⟨⟨w,R⟩,e4,e⟩:=au e
          cases z with
          | int m=>
            cases w with
            | int n=>
              cases d:R[k]? with
              |none=>rw[d] at e;cases e
              | some o3=>
                rw[d] at e
                cases o3 with
                | lst es=>
                  dsimp only at e
                  obtain⟨j,e5,e⟩:=au e
                  cases e
                  refine⟨ρ,L,S,_,P,ok,e1,λM v1 H1 Y F G=>⟨M,L,P,_,U,ok.to Y F,e2,λI v2 H2 W r r2=> ?_⟩⟩
                  cases r2
                  have G:=G.ext W
                  cases G with
                  | ref C=>
                    have p:=Y.trans W
                    obtain⟨vs,h3,h4⟩:=r.obj k _ _ C hs
                    obtain⟨v,h5,h6⟩:=h4.get e3
                    cases h6
                    refine⟨_,vs,i.toNat,_,rfl,by rw[Int.toNat_of_nonneg hi],i7.of h3,h5,I,L,U,_,R,ok.to p r,e4,λa0 v3 H3 Z l r3=> ?_⟩
                    cases r3
                    have s:=de Z.pre C
                    obtain⟨J,g3,N⟩:=l.obj k _ _ s d
                    have t:=p.trans Z
                    obtain⟨K,Q⟩:=l.putL s d (a8.set (.int (m+n)) j N)
                    exact⟨m,n,rfl,rfl,_,J,i,j,rfl,rfl,g3,by rw[←N.length];exact e5,q _ _ _ (t.trans Q) ((ok.to t l).to Q K)⟩
                |_=>cases e
            |_=>cases e
          |_=>cases e
        · cases e
      · cases e
    |_=>cases e
  |_=>cases e
def JC(i j:Nat)(f:h_):cA:=λd S=>(f d S).bind λ(h,g)=>match h with
 | [v,w]=>some (.nx ((d.set i (some v)).set j (some w)) g)
 |_=>none
def Ny{i j:Nat}{f:h_}(h:PS X st (Nl i j (AB (md X) f))):PS X st (tS (md X) (JC i j f)):=Ew h λD v H p=>by
 obtain⟨l,s,S,o,ok,e,q⟩:=p
 obtain⟨⟨u,k⟩,m,e⟩:=au e
 dsimp only at e
 split at e
 ·cases e
  refine⟨l,s,S,_,k,ok,m,λn t w x st r=> ?_⟩
  cases r with
  | cons r d=>
    cases d with
    | cons g d=>
      cases d
      exact⟨_,_,rfl,q _ _ _ x ⟨((ok.en.ext x).set r).set g,st⟩⟩
 ·cases e
end
def eF(cells:List (Str×Addr)):List (Str×NameKind)->List (Str×Addr)->List (Str×Addr)
 | [],acc=>acc
 |(n,k)::r,acc=>if (k==.free)=true then eF cells r ((n,(cells.lookup n).getD 0)::acc) else eF cells r acc
theorem rG{env:Env}:∀(names:List (Str×NameKind)) (b:List (Str×Addr)),(∀y∈names,y.2=.free->(env.cells.lookup y.1).isSome=true)→
  (forIn names b λ(x:Str×NameKind) (f:List (Str×Addr))=>(do
   if (x.2==NameKind.free)=true then do
    let c←cellOf env x.1
    pure (ForInStep.yield ((x.1,c)::f))
   else pure (ForInStep.yield f):Sem (ForInStep (List (Str×Addr)))))=(pure (eF env.cells names b):Sem _)
 | [],b,_=>rfl
 | (n,k)::r,b,h=>by
   rw[List.forIn_cons]
   unfold eF
   by_cases c:(k==NameKind.free)=true
   · obtain⟨a,e⟩:=Option.isSome_iff_exists.mp (h (n,k) QBq (by simpa using c))
     simp only[c,if_true]
     have g:cellOf env n=pure a:=by
       unfold cellOf
       rw[e]
     rw[g,pure_bind,pure_bind,e]
     exact rG r _ λy d=>h y (Qpq _ d)
   · simp only[c,Bool.false_eq_true,if_false]
     rw[pure_bind]
     exact rG r _ λy d=>h y (Qpq _ d)
def HF{a:Scope}{env:Env}(h:∀y∈a.names,y.2=.free->(env.cells.lookup y.1).isSome=true):closureFor a env=pure (eF env.cells a.names []):=by
 unfold closureFor
 have:=rG a.names [] h
 rw[bind_pure]
 exact this
theorem wa{cells:List (Str×Addr)}:∀(names:List (Str×NameKind)) (a:List (Str×Addr)) (p:Str×Addr),p∈eF cells names a->p∈a\/∃n,(n,NameKind.free)∈names/\p=(n,(cells.lookup n).getD 0)
 | [],a,p,h=>.inl h
 | (n,k)::r,a,p,h=>by
   unfold eF at h
   split at h
   · rename_i c
     rcases wa r _ p h with h|⟨m,b,d⟩
     · rcases Qsq.mp h with h|h
       · exact .inr ⟨n,by rw[show k=NameKind.free by simpa using c];exact QBq,h⟩
       · exact .inl h
     · exact .inr ⟨m,Qpq _ b,d⟩
   · rcases wa r _ p h with h|⟨m,b,d⟩
     · exact .inl h
     · exact .inr ⟨m,Qpq _ b,d⟩
theorem v9{cells:List (Str×Addr)}{x:Str}:∀(names:List (Str×NameKind)) (a:List (Str×Addr)),((x,NameKind.free)∈names\/∃c,(x,c)∈a)->∃c,(x,c)∈eF cells names a
 | [],a,h=>by
   rcases h with h|h
   · cases h
   · exact h
 | (n,k)::r,a,h=>by
   unfold eF
   split
   · rename_i c
     refine v9 r _ ?_
     rcases h with h|⟨c,h⟩
     · rcases Qsq.mp h with h|h
       · cases h;exact .inr ⟨_,QBq⟩
       · exact .inl h
     · exact .inr ⟨c,Qpq _ h⟩
   · rename_i c
     refine v9 r _ ?_
     rcases h with h|h
     · rcases Qsq.mp h with h|h
       · cases h;exact absurd rfl c
       · exact .inl h
     · exact .inr h
theorem nK{x:Str}{c:Addr}:∀{l:List (Str×Addr)},(x,c)∈l->∃a,l.lookup x=some a
 | [],h=>by cases h
 | (n,d)::r,h=>by
   unfold List.lookup
   by_cases e:(x==n)=true
   · rw[e];exact⟨d,rfl⟩
   · have b:(x==n)=false:=by simpa using e
     rw[b]
     rcases Qsq.mp h with h|h
     · cases h;simp at e
     · exact nK h
def uC(b:List Str)(a:Str->Option NameKind)(names:List (Str×NameKind)):List (Option Nat)->List Str->Bool
 |some j::js,x::N=>(b[j]? ==some x)&&(a x==some .cell||a x==some .free)&&(names.lookup x==some .free)&&uC b a names js N
 |none::js,_::N=>uC b a names js N
 |_,_=>true
theorem u6{b:List Str}{a:Str->Option NameKind}{names:List (Str×NameKind)}:∀{js:List (Option Nat)} {N:List Str} {k j:Nat} {x:Str},uC b a names js N=true->js[k]?=some (some j)->N[k]?=some x->b[j]?=some x/\(a x=some .cell\/a x=some .free)/\names.lookup x=some .free
 | some i::js,y::N,0,j,x,h,h1,h2=>by
   cases h1
   cases h2
   simp only[uC,QCq,Bool.or_eq_true,beq_iff_eq] at h
   exact⟨h.1.1.1,h.1.1.2,h.1.2⟩
 | some i::js,y::N,k+1,j,x,h,h1,h2=>by
   simp only[uC,QCq] at h
   exact u6 h.2 (by simpa using h1) (by simpa using h2)
 |none::js,y::N,0,j,x,h,h1,h2=>by cases h1
 |none::js,y::N,k+1,j,x,h,h1,h2=>u6 (k:=k) (by simpa [uC] using h) (by simpa using h1) (by simpa using h2)
 | [],N,k,j,x,h,h1,h2=>by simp at h1
 |some i::js,[],k,j,x,h,h1,h2=>by simp at h2
 |none::js,[],k,j,x,h,h1,h2=>by simp at h2
theorem qc{env:Env}{x:Str}:∀{names:List (Str×NameKind)},names.lookup x=some .free->(names.map λ(n,k)=>if (k==NameKind.free&&env.scope.kind==.function&&env.kindOf n==some .cell) then(n,NameKind.cell) else(n,k)).lookup x=some .cell∨
  (names.map λ(n,k)=>if (k==NameKind.free&&env.scope.kind==.function&&env.kindOf n==some .cell) then(n,NameKind.cell) else(n,k)).lookup x=some .free
 | [],h=>by cases h
 | (n,k)::r,h=>by
   unfold List.lookup at h
   rw[QDq]
   by_cases e:(x==n)=true
   · rw[e] at h
     cases h
     dsimp only
     split
     · left;unfold List.lookup;rw[e]
     · right;unfold List.lookup;rw[e]
   · have a:(x==n)=false:=by simpa using e
     rw[a] at h
     have b:=qc (env:=env) h
     dsimp only
     split <;>(unfold List.lookup;rw[a];exact b)
def aI.gen{X:Cx}{N:List Str}{js:List (Option Nat)}{d:Scope}(k:d.kind=.function)(o:d.names.all (λy=>y.2 !=.cell)=true)(A:d.names.all (λy=>y.2 !=.local||d.names.lookup y.1==some .local)=true)
  (q:d.names.all (λy=>y.2 !=.free||(X.env.cells.lookup y.1).isSome)=true) (w:uC X.N X.env.kindOf d.names js N=true) (s:js.length=N.length):aI X N js d (eF X.env.cells d.names []) where
 kind:=k
 nocell:=λy f=>by
  have:=QUq.mp o y f
  simpa using this
 names:=λy f e=>by
  have:=QUq.mp A y f
  rw[e] at this
  simpa using this
 clos:=HF λy f e=>by
  have:=QUq.mp q y f
  rw[e] at this
  simpa using this
 sub:=λx c h=>by
  rcases wa _ _ _ (PySem.mem_of_lookup h) with h|⟨n,l,e⟩
  ·cases h
  ·cases e
   have:=QUq.mp q _ l
   have r:(X.env.cells.lookup x).isSome=true:=by simpa using this
   obtain⟨c,g⟩:=Option.isSome_iff_exists.mp r
   rw[g]
   rfl
 has:=λx h=>by
  have m:(x,NameKind.free)∈d.names:=by
   have:∃k,(relabel d X.env).names.lookup x=some k/\(k=.cell\/k=.free):=by
    rcases h with h|h
    ·exact⟨_,h,.inl rfl⟩
    ·exact⟨_,h,.inr rfl⟩
   obtain⟨B,t,g⟩:=this
   have p:=PySem.mem_of_lookup t
   unfold relabel at p
   obtain⟨⟨n,u⟩,f,i⟩:=Qkq.mp p
   dsimp only at i
   split at i
   ·rename_i c
    cases i
    simp only[QCq] at c
    have:u=NameKind.free:=by simpa using c.1.1
    rw[←this]
    exact f
   ·cases i
    rcases g with z|z
    ·have:=QUq.mp o _ f
     rw[z] at this
     simp at this
    ·rw[←z];exact f
  obtain⟨c,g⟩:=v9 (cells:=X.env.cells) d.names [] (.inl m)
  exact nK g
 cap:=λk j x v l=>by
  obtain⟨a,b,c⟩:=u6 w v l
  refine⟨a,b,?_⟩
  unfold relabel
  exact qc c
 len:=s
structure dS(P:Program)(w:World)(K:PySem.W.Frag)(mg:Str->Option Value)(base:Heap)(k:Nat)(x:Str)(ps:List Str)(F:cQ):Prop where
 ex:∃f fd,bf P w K mg base df k f fd ps (dC ⟨K,mg⟩ ps.length F)/\Binds K fd ps []/\PySem.W.keepIn K (.ref f)=true/\mg x=some (.ref f)
section
variable{X:Cx}{x:Str}{k n:Nat}{ps:List Str}{F:cQ}{e:Expr}{es:List Expr}{g:h_}{p pos:Pos}
def M6(C:dS X.prog X.w X.K X.mg X.base k x ps F)(d:fQ k X.A)(i:Gl X x)(j:PA X (e::es) (AB (md X) g))(c:nA ps.length g)
  (a:(x==("__debug__":Str))=false:=by decide) (he:starEach (e::es) X.env=(false,eval e X.env)::starEach es X.env:=by rfl) (hpl:(backTo pos (starEach es X.env)).any (·.1)=false:=by rfl):
  PE X (.Call (.Name x p) (e::es) [] pos) (tD (md X) (aw F g)):=by
 obtain⟨f,l,G,b,h,m⟩:=C.ex
 exact KS G d i m h b j c a he hpl
def M0(C:dS X.prog X.w X.K X.mg X.base k x ps F)(d:fQ k X.A)(i:Gl X x)(j:PA X (e::es) (AB (md X) g))(c:nA ps.length g)
  (a:(x==("__debug__":Str))=false:=by decide) (he:starEach (e::es) X.env=(false,eval e X.env)::starEach es X.env:=by rfl) (hpl:(backTo pos (starEach es X.env)).any (·.1)=false:=by rfl):
  PE X (.Call (.Name x p) (e::es) [] pos) (tL (md X) (dR F g)):=by
 obtain⟨f,l,G,b,h,m⟩:=C.ex
 exact Lh G d i m h b j c a he hpl
end
def dS.mono{P:Program}{w:World}{K:PySem.W.Frag}{mg:Str->Option Value}{base:Heap}{j k:Nat}{x:Str}{ps:List Str}{F:cQ}(C:dS P w K mg base j x ps F)(h:j<=k):dS P w K mg base k x ps F:=by
 obtain⟨f,a,G,b,c,m⟩:=C.ex
 exact⟨f,a,G.mono h,b,c,m⟩
structure Bl(mg:Str->Option Value):Prop where
 len:mg "len"=none
 tuple:mg "tuple"=none
 list:mg "list"=none
 dict:mg "dict"=none
 set:mg "set"=none
 int:mg "int"=none
 str:mg "str"=none
 bool:mg "bool"=none
 all:mg "all"=none
 any:mg "any"=none
 range:mg "range"=none
 zip:mg "zip"=none
 sorted:mg "sorted"=none
 isi:mg "isinstance"=none
 min:mg "min"=none
 max:mg "max"=none
 abs:mg "abs"=none
 enum:mg "enumerate"=none
open AutoSeq1 in
def oQ(l:Addr)(items:Array Value)(n:Nat)(b:Addr)(a:Array Value)(m:Nat)(o:Option Addr)(k:Array (Option Value))(p:¬(!items.isEmpty&&Builtin.List.listTooLong (items.size+a.size))=true)(c:items.size<=sizeLine)(f:items.size+a.size<=sizeLine+1):
  Meets (Builtin.«list.extend» ⟨[.ref l,.ref b],[]⟩) (λ_ R s=>s.heap.get? l=some {cls:=.type "list",dict:=none,data:=.seq items n,slots:= #[]}/\s.heap.get? b=some {cls:=.type "tuple",dict:=o,data:=.seq a m,slots:=k}/\R (.ok (.ret Value.none)) {s with heap:=s.heap.update l (Obj.mapSeq λx=>x++a),toks:=s.toks}):=
 .of_wp λi w A R s h=>by
  obtain⟨v,g,d,B,z⟩:=s;obtain⟨j,q,h⟩:=h;have r:=idx_int;have t:=AutoSeq1.sub_tuple_tuple;have C:=AutoSeq1.sub_list_list;have y:=AutoSeq1.sub_tuple_list;have u:=AutoSeq1.sub_list_tuple;
  have e:(items++a).size<=sizeLine+1:=by rw[Array.size_append];exact f
  wp_walk using (wpAny_updateSeq j rfl (hz:=c) (_hz':=e)),AutoSeq1.wpAny_loadPart' j,AutoSeq1.wpAny_loadPart' q;exact⟨_,rfl,h⟩
section
variable{X:Cx}{a b c e:Expr}{pos:Pos}{st:Stmt}
def JT:L_ X "list.extend" (λx vs H Q=>∃l b xs i,x=.ref l/\vs= [.ref b]/\H l=some (.lst xs)/\jj X.K H b i/\xs.length+i.length<=sizeLine/\Q .non (upd H l (.lst (xs++i)))):=by
 intro p s P H x vs v N Q I C M h
 obtain⟨l,b,xs,i,rfl,rfl,hH,hB,hz,q⟩:=h
 cases C
 obtain⟨u,rfl,ru⟩:=M.one
 cases ru
 obtain⟨z,f,n,r,R,e⟩:=I.lstM hH
 obtain⟨d,m,⟨⟨G,J,L,t⟩,B,o,A,k⟩,w⟩:=I.tuple hB
 have y:=m.length
 simp only at o k
 subst o k
 have j:f.toArray.size+d.toArray.size<=sizeLine:=by rw[Qjq,Qjq];omega
 have g:¬(!f.toArray.isEmpty&&Builtin.List.listTooLong (f.toArray.size+d.toArray.size))=true:=by
  rw[vj j,Bool.and_false]
  exact Qtq
 refine call_meets F.slot_list_extend ⟨_,e,rfl⟩ F.entry_list_extend (F.args_list_extend_2 _ _)
  (oQ l f.toArray n b d.toArray A J t g (by rw[Qjq];omega) (by omega)) ⟨e,B,?_⟩
 refine⟨.non,_,I.lset (its':=f++d) hH e (by simp) (r.append m) ?_,rfl,q⟩
 rw[lQa]
 omega
def xT(f:bD)(g:fh):bD:=λi S=>(f i S).bind λ(x,h)=>match x with
 | .ref k=>(g i h).bind λ(p,d)=>match h[k]?,d[k]? with
   |some (.lst _),some (.lst ds)=>if p.2.isL=false/\ds.length+p.1.length<=sizeLine then some (.non,d.set k (.lst (ds++p.1))) else none
   |_,_=>none
 |_=>none
def LC{f:bD}{g:fh}:∀s H Q,tD (md X) (xT f g) s H Q->OC X.K "list" (λx vs H Q=>∃l b xs r,x=.ref l/\vs= [.ref b]/\H l=some (.lst xs)/\jj X.K H b r/\xs.length+r.length<=sizeLine/\Q .non (upd H l (.lst (xs++r)))) (tD (md X) f) (HA (tQ (md X) g) Mp) s H Q:=λs H Q Y=>by
 obtain⟨L,F,S,d,S',ok,e,q⟩:=Y
 obtain⟨⟨x,w⟩,N,e⟩:=au e
 cases x with
 | ref k=>
   dsimp only at e
   obtain⟨⟨⟨ys,t⟩,M⟩,J,e⟩:=au e
   dsimp only at e
   split at e
   · rename_i I ds p m
     split at e
     · rename_i c
       obtain⟨rfl,rfl⟩:=cD e
       refine⟨L,F,S,_,w,ok,N,λu v H1 C h P=> ?_⟩
       cases P with
       | ref B=>
         rename_i a
         obtain⟨o,G,_⟩:=h.obj k a _ B p
         refine⟨.inl ⟨rfl,o,i7.of G⟩,u,F,w,ys,t,M,ok.to C h,J,λR b U H2 A i W z=> ?_⟩
         have j:=de A.pre B
         obtain⟨vs,h3,y⟩:=i.obj k a _ j m
         refine⟨a,b,vs,U,rfl,rfl,h3,W.sqT c.1,by rw[←y.length,←z.length];exact c.2,?_⟩
         obtain⟨n,Z⟩:=i.putL j m (y.append z)
         exact q _ _ _ ((C.trans A).trans Z) n .non
     · cases e
   · cases e
 |_=>cases e
def Mw{f:bD}{g:fh}{o:Expr}{h d:Pos}(m:PE X o (tD (md X) f))(l:PE X e (tQ (md X) g))(i:attributeBase o "extend" X.env (eval o X.env)=eval o X.env:=by rfl) (k:((backTo d (starEach [e] X.env)).all (λx=> !x.1)&&(backToKw d (keywordEach [] X.env)).all (λx=>x.1.isSome)
   &&decide ([e].length+([]:List Keyword).length+(if ([]:List Keyword).isEmpty then 0 else 1)<30))=true:=by rfl)
  (j:(h.endLine==d.line)=true:=by rfl) (hs:starEach [e] X.env= [(false,eval e X.env)]:=by rfl):PE X (.Call (.Attribute o "extend" h) [e] [] d) (tD (md X) (xT f g)):=
 j_ (wb PySem.F.plainAttrs_list PySem.F.slot_list_extend PySem.F.type_list_extend JT m (d0 l g9 hs) i k j hs) LC
def pO(x:V):List V->Option Nat
 | []=>none
 |y::r=>if ue y x=true then some 0 else(pO x r).map (·+1)
theorem Ec{x:V}:∀{xs:List V} {j:Nat},pO x xs=some j->(∃y,xs[j]?=some y/\ue y x=true)/\∀m y,m<j->xs[m]?=some y->ue y x=false
 | [],_,h=>by cases h
 | y::r,j,h=>by
   unfold pO at h
   split at h
   · rename_i c
     cases h
     exact⟨⟨y,rfl,c⟩,λm _ f=>absurd f (Nat.not_lt_zero _)⟩
   · rename_i c
     obtain⟨i,l,rfl⟩:=oQm.mp h
     obtain⟨⟨z,g,k⟩,n⟩:=Ec l
     refine⟨⟨z,by simpa using g,k⟩,λm w f d=> ?_⟩
     cases m with
     |zero=>cases d;simpa using c
     |succ m=>exact n m w (by omega) (by simpa using d)
def GJ:OJ X "list.index" (λx vs H Q=>∃a xs y j,x=.ref a/\vs= [y]/\i7 X.K H a xs/\ie y=true/\xs.all ie=true/\pO y xs=some j/\Q (.int (j:Nat)) H):=by
 intro J s σ H x vs v us Q I P rv h
 obtain⟨a,xs,y,j,rfl,rfl,hq,fy,fs,hj,q⟩:=h
 cases P
 obtain⟨u,rfl,ru⟩:=rv.one
 obtain⟨d,r,M,hz⟩:=I.list hq
 obtain⟨⟨R,dd,U,L⟩,n,e,G,g,B⟩:=M
 simp only at G g B
 subst G g B
 obtain⟨⟨z,k,Y⟩,h3⟩:=Ec hj
 have hl:=r.length
 have Z:j<xs.length:=(gQs.mp k).1
 obtain⟨w,p,t⟩:=r.get k
 have l:d.toArray[j]'(by rw[Qjq];omega)=w:=by
  have:=(gQs.mp p).2
  simpa using this
 have C:=mW
 refine call_meets PySem.F.slot_list_index ⟨_,e,rfl⟩ PySem.F.entry_list_index (PySem.F.args_list_index_2 _ _)
  (SeqAt.list_indexAt a d.toArray n none L u (Cf y) j (by rw[Qjq];omega) (by omega) (by rw[l,y2 t (QUq.mp fs z (mQg k))];exact Y) λm W A=> ?_)
  ⟨e,λw p=>jQ ru fy r fs w (by simpa using p),⟨.int j,H,I.tok _,⟨_,rfl⟩,q⟩⟩
 have f:m<xs.length:=by rw[Qjq] at W;omega
 obtain⟨S,i,o⟩:=r.get (gQe f)
 have N:d.toArray[m]=S:=by
  have:=(gQs.mp i).2
  simpa using this
 rw[N,y2 o (QUq.mp fs _ (List.getElem_mem f))]
 exact h3 m _ A (gQe f)
end
end DL
namespace Zq
open PySem
def It(t:Bool)(h:Heap)(i a:Addr)(k:Nat):Prop:=if t=true then h.IsTupleIter i a k else h.IsListIter i a k
def Sq(t:Bool)(h:Heap)(a:Addr)(xs:Array Value):Prop:=if t=true then h.IsTuple a xs else h.IsList a xs
section
variable{t t2:Bool}{h h':Heap}{i j a b z O T:Addr}{k:Nat}{xs ys:Array Value}
theorem It.at(g:It t h i a k)(f:∀o,h.get? i=some o->h'.get? i=some o):It t h' i a k:=by
 cases t with
 |true=>exact(show h.IsTupleIter i a k from g).at f
 |false=>exact(show h.IsListIter i a k from g).at f
def It.ext{c:Addr}(g:It t h i a k)(f:Heap.ExtBut c h h')(n:i≠c):It t h' i a k:=g.at λo e=>f i o n e
def Sq.at(g:Sq t h a xs)(f:∀o,h.get? a=some o->h'.get? a=some o):Sq t h' a xs:=by
 cases t with
 |true=>obtain⟨o,e,r⟩:=(show h.IsTuple a xs from g);exact(show h'.IsTuple a xs from⟨o,f o e,r⟩)
 |false=>obtain⟨o,e,r⟩:=(show h.IsList a xs from g);exact(show h'.IsList a xs from⟨o,f o e,r⟩)
def Sq.ext{c:Addr}(g:Sq t h a xs)(f:Heap.ExtBut c h h')(n:a≠c):Sq t h' a xs:=g.at λo e=>f a o n e
def It.obj(g:It t h i a k):∃o,h.get? i=some o/\∀v,o.data≠.cell v:=by
 cases t with
 |true=>obtain⟨o,e,_,d⟩:=(show h.IsTupleIter i a k from g);exact⟨o,e,λv n=>by rw[d] at n;cases n⟩
 |false=>obtain⟨o,e,_,d⟩:=(show h.IsListIter i a k from g);exact⟨o,e,λv n=>by rw[d] at n;cases n⟩
end
section
variable{prog:Program}{w:World}{A:Around}{E:Value->Shared->Prop}{s:Shared}{t t2:Bool}{z T O i j a b:Addr}{k:Nat}{xs ys:Array Value}{x y u v:Value}
def draw{Q:Value->Shared->Prop}(e:It t s.heap i a k)(c:Sq t s.heap a xs)(d:xs[k]?=some v)
  (q:∀h',It t h' i a (k+1)->Heap.SameBut i s.heap h'->Q v {s with heap:=h'}):wpAny (model prog w) A (Builtin.SmallTypes.nextOf (.ref i)) Q E s:=by
 cases t with
 |true=>exact Zp.M8 e c d q
 |false=>exact wpAny_nextOf_list_item e c d q
def Kz{Q:Value->Shared->Prop}(f:A.handled=none)(g:It t s.heap i a k)(c:Sq t s.heap a xs)(d:xs[k]?=none)
  (q:∀h' e,Heap.ExtBut i s.heap h'->(∃o,h'.get? e=some o/\o.cls=.type "StopIteration")->E (.ref e) {s with heap:=h'}):wpAny (model prog w) A (Builtin.SmallTypes.nextOf (.ref i)) Q E s:=by
 cases t with
 |true=>exact Zp.NI f g c d q
 |false=>exact wpAny_nextOf_list_end f g c d q
abbrev wz(h:Heap)(z T O:Addr)(d c:Value):Prop:=
 h.get? z=some {cls:=.type "zip",dict:=none,data:=.fields #[d,c,.bool false,.ref T,.ref O],slots:= #[]}
def item(D:ZipApart z T O i j a b){Q:Value->Shared->Prop}(n:wz s.heap z T O .none (.bool false))(gT:IsPair s.heap T (.ref i) (.ref j))(gO:IsPair s.heap O u v)(gi:It t s.heap i a k)(gj:It t2 s.heap j b k)
  (ga:Sq t s.heap a xs) (gb:Sq t2 s.heap b ys) (ex:xs[k]?=some x) (ey:ys[k]?=some y)
  (q:∀h',wz h' z T O (rawInt s.heap.objs.size) (.bool false)->IsPair h' O x y->It t h' i a (k+1)->It t2 h' j b (k+1)->IsPair h' s.heap.objs.size x y->Zp.Rest z O i j s.heap h'->Q (.ref s.heap.objs.size) {s with heap:=h'}):
  wpAny (model prog w) A (Builtin.«zip.__next__» ⟨[.ref z],[]⟩) (λN s'=>∃r,N=.done (.ret r)/\Q r s') E s:=by
 refine(?_:wpAny _ _ (field (.ref z) 2 >>= _) _ _ _)
 refine Qaq (QMq n rfl (x:=.bool false) rfl ?_)
 refine(?_:wpAny _ _ (field (.ref z) 3 >>= _) _ _ _)
 refine Qaq (QMq n rfl (x:=.ref T) rfl (Qaq (wpAny_seqItems gT rfl ?_)))
 refine(?_:wpAny _ _ (Builtin.SmallTypes.ownedTupleIsFree (.ref z) >>= _) _ _ _)
 refine Qaq ?_
 unfold Builtin.SmallTypes.ownedTupleIsFree
 refine Qaq (QMq n rfl (x:=.none) rfl (Qgq ?_))
 simp only[if_true]
 refine Qaq (wpAny_rule (Qaq (QMq n rfl (x:=.ref O) rfl (Qaq (wpAny_setField_rec n (by simp) λh1 L g=> ?_)))))
 replace L:wz h1 z T O .ellipsis (.bool false):=L
 refine Qaq ?_
 simp only[List.zipIdx_cons,List.zipIdx_nil,List.forIn_nil,List.forIn_cons]
 refine Qaq (Qaq (wpAny_onRaise ?_))
 refine(?_:wpAny _ _ (Builtin.SmallTypes.nextOf (.ref i) >>= _) _ _ _)
 refine Qaq (draw (gi.ext g.extBut D.i1z) (ga.ext g.extBut D.l1z) ex λh2 i2 h=>Qgq ?_)
 have R:IsPair h2 O u v:=h.extBut _ _ D.TOi1 (g.extBut _ _ D.TOz gO)
 refine Qaq (wpAny_seqItems R rfl (Qaq (wpAny_updateSeq_pair R λh3 J l=>Qaq (wpAny_letGo (Qgq ?_)))))
 replace J:IsPair h3 O x v:=J
 refine Qaq (Qaq (wpAny_onRaise ?_))
 refine(?_:wpAny _ _ (Builtin.SmallTypes.nextOf (.ref j) >>= _) _ _ _)
 refine Qaq (draw (((gj.ext g.extBut D.i2z).ext h.extBut D.i12.symm).ext l.extBut D.TOi2.symm) (((gb.ext g.extBut D.l2z).ext h.extBut D.l2i1).ext l.extBut D.l2TO) ey λh4 j4 p=>Qgq ?_)
 have W:IsPair h4 O x v:=p.extBut _ _ D.TOi2 J
 refine Qaq (wpAny_seqItems W rfl (Qaq (wpAny_updateSeq_pair W λd C m=>Qaq (wpAny_letGo (Qgq (Qgq ?_))))))
 replace C:IsPair d O x y:=C
 refine Qaq (wpAny_seqItems C rfl (Qaq (wpAny_newTuple ?_)))
 have P:d.objs.size=s.heap.objs.size:=by rw[m.1,p.1,l.1,h.1,g.1]
 have Y:wz d z T O .ellipsis (.bool false):=m.extBut _ _ D.TOz.symm (p.extBut _ _ D.i2z.symm (l.extBut _ _ D.TOz.symm (h.extBut _ _ D.i1z.symm L)))
 have r5:Zp.Rest z O i j s.heap d:=λc o f B K M e=>m.extBut _ _ B (p.extBut _ _ M (l.extBut _ _ B (h.extBut _ _ K (g.extBut _ _ f e))))
 have i5:It t d i a (k+1):=((i2.ext l.extBut D.TOi1.symm).ext p.extBut D.i12).ext m.extBut D.TOi1.symm
 have j5:It t2 d j b (k+1):=j4.ext m.extBut D.TOi2.symm
 have S:z<d.objs.size:=Qiq Y
 refine(?_:wpAny _ _ (Builtin.SmallTypes.ownedTupleHandOut (.ref z) (.ref d.objs.size) >>= _) _ _ _)
 refine Qaq ?_
 unfold Builtin.SmallTypes.ownedTupleHandOut
 have z6:wz (d.push {cls:=.type "tuple",data:=.seq #[x,y]}) z T O .ellipsis (.bool false):=Qcq _ Y
 refine Qaq (wpAny_setField_rec z6 (by simp) λh7 I U=> ?_)
 replace I:wz h7 z T O (rawInt d.objs.size) (.bool false):=I
 refine wpAny_setField_rec I (by simp) λG H X=> ?_
 replace H:wz G z T O (rawInt d.objs.size) (.bool false):=H
 have F:∀c o,c≠z->d.get? c=some o->G.get? c=some o:=λc o f e=>X.extBut _ _ f (U.extBut _ _ f (Qcq _ e))
 have Z:IsPair G d.objs.size x y:=X.extBut _ _ (Nat.ne_of_gt S) (U.extBut _ _ (Nat.ne_of_gt S) (Qrq _ rfl))
 rw[P] at H Z
 refine Qgq ⟨_,rfl,?_⟩
 refine(?_:Q (.ref d.objs.size) _)
 rw[P]
 exact q G H (F _ _ D.TOz C) (i5.at λo e=>F _ o D.i1z e) (j5.at λo e=>F _ o D.i2z e) Z λc o f B K M e=>F c o f (r5 c o f B K M e)
def alive{α:Addr}{Q:Option Obj->Shared->Prop}(h:Q (s.heap.get? α) s):wpAny (model prog w) A (loadIfAlive α) Q E s:=λ_ _ _=>h
def again(D:ZipApart z T O i j a b){p:Addr}{W:Obj}{m:Value}{Q:Value->Shared->Prop}(g:wz s.heap z T O (rawInt p) m)(P:s.heap.get? p=some W)(gT:IsPair s.heap T (.ref i) (.ref j))(Z:It t s.heap i a k)(N:It t2 s.heap j b k)
  (ga:Sq t s.heap a xs) (X:Sq t2 s.heap b ys) (ex:xs[k]?=some x) (M:ys[k]?=some y)
  (q:∀h',wz h' z T O (rawInt p) (.bool true)->It t h' i a (k+1)->It t2 h' j b (k+1)->IsPair h' s.heap.objs.size x y->Zp.Rest z O i j s.heap h'->Q (.ref s.heap.objs.size) {s with heap:=h'}):
  wpAny (model prog w) A (Builtin.«zip.__next__» ⟨[.ref z],[]⟩) (λJ F=>∃r,J=.done (.ret r)/\Q r F) E s:=by
 refine(?_:wpAny _ _ (field (.ref z) 2 >>= _) _ _ _)
 refine Qaq (QMq g rfl (x:=.bool false) rfl ?_)
 refine(?_:wpAny _ _ (field (.ref z) 3 >>= _) _ _ _)
 refine Qaq (QMq g rfl (x:=.ref T) rfl (Qaq (wpAny_seqItems gT rfl ?_)))
 refine(?_:wpAny _ _ (Builtin.SmallTypes.ownedTupleIsFree (.ref z) >>= _) _ _ _)
 refine Qaq ?_
 unfold Builtin.SmallTypes.ownedTupleIsFree
 refine Qaq (QMq g rfl (x:=rawInt p) rfl ?_)
 refine(?_:wpAny _ _ (loadIfAlive ((p:Int).toNat) >>= _) _ _ _)
 refine Qaq ?_
 rw[Int.toNat_natCast]
 refine alive ?_
 rw[P]
 refine(?_:wpAny _ _ (field (.ref z) 1 >>= _) _ _ _)
 refine Qaq (QMq g rfl (x:=m) rfl ?_)
 have G:wpAny (model prog w) A (if (m !=Value.bool true)=true then(do let _←setField (.ref z) 1 (.bool true);pure false) else pure false)
   (λr F=>r=false/\∃l,F={s with heap:=l}/\wz l z T O (rawInt p) (.bool true)/\Heap.SameBut z s.heap l) E s:=by
  by_cases c:(m !=Value.bool true)=true
  ·rw[Qhq c]
   exact Qaq (wpAny_setField_rec g (by simp) λl I d=>Qgq ⟨rfl,l,rfl,I,d⟩)
  ·rw[Quq c]
   have e:m=Value.bool true:=by simpa using c
   subst e
   exact Qgq ⟨rfl,s.heap,rfl,g,Heap.SameBut.refl _ _⟩
 refine QRq G (λr F H=> ?_) λ_ _ h=>h
 obtain⟨rfl,l,rfl,I,d⟩:=H
 simp only[Bool.false_eq_true,if_false]
 refine Qaq ?_
 simp only[List.forIn_toArray,List.forIn_cons,List.forIn_nil]
 refine Qaq (Qaq (QLq ?_))
 refine(?_:wpAny _ _ (Builtin.SmallTypes.nextOf (.ref i) >>= _) _ _ _)
 refine Qaq (draw (Z.ext d.extBut D.i1z) (ga.ext d.extBut D.l1z) ex λh2 R n=>Qgq (Qgq ?_))
 refine Qaq (Qaq (QLq ?_))
 refine(?_:wpAny _ _ (Builtin.SmallTypes.nextOf (.ref j) >>= _) _ _ _)
 refine Qaq (draw ((N.ext d.extBut D.i2z).ext n.extBut D.i12.symm) ((X.ext d.extBut D.l2z).ext n.extBut D.l2i1) M λf j4 B=>Qgq (Qgq (Qgq ?_)))
 refine Qaq (wpAny_newTuple ?_ (by show 2<=_;decide))
 have L:f.objs.size=s.heap.objs.size:=by rw[B.1,n.1,d.1]
 have C:∀c o,f.get? c=some o->(f.push {cls:=.type "tuple",data:=.seq #[x,y]}).get? c=some o:=λc o e=>Qcq _ e
 have K:IsPair (f.push {cls:=.type "tuple",data:=.seq #[x,y]}) f.objs.size x y:=Qrq _ rfl
 have Y:wz (f.push {cls:=.type "tuple",data:=.seq #[x,y]}) z T O (rawInt p) (.bool true):=C _ _ (B.extBut _ _ D.i2z.symm (n.extBut _ _ D.i1z.symm I))
 refine Qgq ⟨_,rfl,?_⟩
 refine(?_:Q (.ref f.objs.size) _)
 rw[L] at K⊢
 exact q _ Y ((R.ext B.extBut D.i12).at λo e=>C _ o e) (j4.at λo e=>C _ o e) K λc o S c2 U c4 e=>C c o (B.extBut _ _ c4 (n.extBut _ _ U (d.extBut _ _ S e)))
def stop(D:ZipApart z T O i j a b){Q:Fin->Shared->Prop}(I:A.handled=none)(d:wz s.heap z T O .none (.bool false))(N:IsPair s.heap T (.ref i) (.ref j))(J:It t s.heap i a k)(K:Sq t s.heap a xs)(ex:xs[k]?=none)
  (q:∀h' e,Zp.Rest z O i j s.heap h'->(∃o,h'.get? e=some o/\o.cls=.type "StopIteration")->E (.ref e) {s with heap:=h'}):
  wpAny (model prog w) A (Builtin.«zip.__next__» ⟨[.ref z],[]⟩) Q E s:=by
 refine(?_:wpAny _ _ (field (.ref z) 2 >>= _) _ _ _)
 refine Qaq (QMq d rfl (x:=.bool false) rfl ?_)
 refine(?_:wpAny _ _ (field (.ref z) 3 >>= _) _ _ _)
 refine Qaq (QMq d rfl (x:=.ref T) rfl (Qaq (wpAny_seqItems N rfl ?_)))
 refine(?_:wpAny _ _ (Builtin.SmallTypes.ownedTupleIsFree (.ref z) >>= _) _ _ _)
 refine Qaq ?_
 unfold Builtin.SmallTypes.ownedTupleIsFree
 refine Qaq (QMq d rfl (x:=.none) rfl (Qgq ?_))
 simp only[if_true]
 refine Qaq (wpAny_rule (Qaq (QMq d rfl (x:=.ref O) rfl (Qaq (wpAny_setField_rec d (by simp) λF h g=> ?_)))))
 replace h:wz F z T O .ellipsis (.bool false):=h
 refine Qaq ?_
 simp only[List.zipIdx_cons,List.zipIdx_nil,List.forIn_nil,List.forIn_cons]
 refine Qaq (Qaq (wpAny_onRaise ?_))
 refine(?_:wpAny _ _ (Builtin.SmallTypes.nextOf (.ref i) >>= _) _ _ _)
 refine Qaq (Kz I (J.ext g.extBut D.i1z) (K.ext g.extBut D.l1z) ex λL e m G=> ?_)
 obtain⟨C,f,B⟩:=G
 have l:wz L z T O .ellipsis (.bool false):=m _ _ D.i1z.symm h
 have P:e≠z:=λn=>by rw[n,l] at f;cases f;simp at B
 exact wpAny_setField_rec l (by simp) λM _ r=>q M e (λc o p _ H _ n=>r.extBut _ _ p (m _ _ H (g.extBut _ _ p n))) ⟨C,r.extBut _ _ P f,B⟩
def NG(D:ZipApart z T O i j a b){p:Addr}{L:Obj}{l:Value}{Q:Fin->Shared->Prop}(M:A.handled=none)(d:wz s.heap z T O (rawInt p) l)(I:s.heap.get? p=some L)(S:IsPair s.heap T (.ref i) (.ref j))(N:It t s.heap i a k)(P:Sq t s.heap a xs)(ex:xs[k]?=none)
  (q:∀h' e,Zp.Rest z O i j s.heap h'->(∃o,h'.get? e=some o/\o.cls=.type "StopIteration")->E (.ref e) {s with heap:=h'}):
  wpAny (model prog w) A (Builtin.«zip.__next__» ⟨[.ref z],[]⟩) Q E s:=by
 refine(?_:wpAny _ _ (field (.ref z) 2 >>= _) _ _ _)
 refine Qaq (QMq d rfl (x:=.bool false) rfl ?_)
 refine(?_:wpAny _ _ (field (.ref z) 3 >>= _) _ _ _)
 refine Qaq (QMq d rfl (x:=.ref T) rfl (Qaq (wpAny_seqItems S rfl ?_)))
 refine(?_:wpAny _ _ (Builtin.SmallTypes.ownedTupleIsFree (.ref z) >>= _) _ _ _)
 refine Qaq ?_
 unfold Builtin.SmallTypes.ownedTupleIsFree
 refine Qaq (QMq d rfl (x:=rawInt p) rfl ?_)
 refine(?_:wpAny _ _ (loadIfAlive ((p:Int).toNat) >>= _) _ _ _)
 refine Qaq ?_
 rw[Int.toNat_natCast]
 refine alive ?_
 rw[I]
 refine(?_:wpAny _ _ (field (.ref z) 1 >>= _) _ _ _)
 refine Qaq (QMq d rfl (x:=l) rfl ?_)
 have m:wpAny (model prog w) A (if (l !=Value.bool true)=true then(do let _←setField (.ref z) 1 (.bool true);pure false) else pure false)
   (λr C=>r=false/\∃f,C={s with heap:=f}/\wz f z T O (rawInt p) (.bool true)/\Heap.SameBut z s.heap f) E s:=by
  by_cases c:(l !=Value.bool true)=true
  ·rw[Qhq c]
   exact Qaq (wpAny_setField_rec d (by simp) λf F g=>Qgq ⟨rfl,f,rfl,F,g⟩)
  ·rw[Quq c]
   have e:l=Value.bool true:=by simpa using c
   subst e
   exact Qgq ⟨rfl,s.heap,rfl,d,Heap.SameBut.refl _ _⟩
 refine QRq m (λr C B=> ?_) λ_ _ h=>h
 obtain⟨rfl,f,rfl,F,g⟩:=B
 simp only[Bool.false_eq_true,if_false]
 refine Qaq ?_
 simp only[List.forIn_toArray,List.forIn_cons,List.forIn_nil]
 refine Qaq (Qaq (QLq ?_))
 refine(?_:wpAny _ _ (Builtin.SmallTypes.nextOf (.ref i) >>= _) _ _ _)
 refine Qaq (Kz M (N.ext g.extBut D.i1z) (P.ext g.extBut D.l1z) ex λR e G H=> ?_)
 exact q R e (λc o J _ K _ n=>G _ _ K (g.extBut _ _ J n)) H
def Zs(h:Heap)(z T O i j:Addr):Prop:=wz h z T O .none (.bool false)/\(∃u v,IsPair h O u v)\/∃(p:Addr) (c:Obj) (d:Value),wz h z T O (rawInt (p:Nat)) d/\h.get? p=some c/\p≠z/\p≠O/\p≠i/\p≠j
def Zs.but{h h':Heap}{S:Addr}(g:Zs h z T O i j)(f:∀c o,c≠S->h.get? c=some o->h'.get? c=some o)(e:z≠S)(m:O≠S)(q:∃o,h'.get? S=some o):Zs h' z T O i j:=by
 rcases g with⟨d,u,v,C⟩|⟨p,B,l,d,r,n⟩
 ·exact .inl ⟨f _ _ e d,u,v,f _ _ m C⟩
 ·by_cases c:p=S
  ·subst c
   obtain⟨o,F⟩:=q
   exact .inr ⟨p,o,l,f _ _ e d,F,n⟩
  ·exact .inr ⟨p,B,l,f _ _ e d,f _ _ c r,n⟩
def G_(D:ZipApart z T O i j a b){Q:Option Value->Shared->Prop}(d:Zs s.heap z T O i j)(R:IsPair s.heap T (.ref i) (.ref j))(C:It t s.heap i a k)(n:It t2 s.heap j b k)
  (P:Sq t s.heap a xs) (M:Sq t2 s.heap b ys) (ex:xs[k]?=some x) (G:ys[k]?=some y)
  (q:∀h',Zs h' z T O i j->It t h' i a (k+1)->It t2 h' j b (k+1)->IsPair h' s.heap.objs.size x y->Zp.Rest z O i j s.heap h'->Q (some (.ref s.heap.objs.size)) {s with heap:=h'}):
  wpAny (model prog w) A (pyNext (.ref z)) Q E s:=by
 unfold pyNext
 have h:∀{c o},s.heap.get? c=some o->s.heap.objs.size≠c:=λe=>Nat.ne_of_gt (Qiq e)
 obtain⟨Z,W,_⟩:=C.obj
 obtain⟨X,S,_⟩:=n.obj
 rcases d with⟨d,u,v,N⟩|⟨p,U,Y,d,K,L,J,I,H⟩
 ·have f:s.TypeIs (.ref z) "zip":=⟨_,d,rfl⟩
  exact Qaq (wpAny_attempt (QiQ (name:=Str.ofString "__next__") f F.slot_zip_next (wpAny_call_entry F.slot_zip_next f F.entry_zip_next
   (item D d R N C n P M ex G λh' m a2 B r l g=>Qgq (q h' (.inr ⟨_,_,_,m,l,h d,h N,h W,h S⟩) B r l g)) (F.args_zip_next_1 _))))
 ·have f:s.TypeIs (.ref z) "zip":=⟨_,d,rfl⟩
  exact Qaq (wpAny_attempt (QiQ (name:=Str.ofString "__next__") f F.slot_zip_next (wpAny_call_entry F.slot_zip_next f F.entry_zip_next
   (again D d K R C n P M ex G λh' m B r l g=>Qgq (q h' (.inr ⟨p,U,_,m,g _ _ L J I H K,L,J,I,H⟩) B r l g)) (F.args_zip_next_1 _))))
def Bf(D:ZipApart z T O i j a b){Q:Option Value->Shared->Prop}(h:A.handled=none)(c:Zs s.heap z T O i j)(n:IsPair s.heap T (.ref i) (.ref j))(l:It t s.heap i a k)(m:Sq t s.heap a xs)(ex:xs[k]?=none)
  (q:∀h',Zp.Rest z O i j s.heap h'->Q none {s with heap:=h'}):wpAny (model prog w) A (pyNext (.ref z)) Q E s:=by
 unfold pyNext
 rcases c with⟨c,u,v,H⟩|⟨p,G,C,c,B,_⟩
 ·have d:s.TypeIs (.ref z) "zip":=⟨_,c,rfl⟩
  exact Qaq (wpAny_attempt (QiQ (name:=Str.ofString "__next__") d F.slot_zip_next (wpAny_call_entry F.slot_zip_next d F.entry_zip_next
   (stop D h c n l m ex λh' e r ⟨o,f,g⟩=>Qaq (wpAny_isInstance (T:="StopIteration") (b:=true) ⟨o,f,g⟩ isSubtype_stop (Qgq (q _ r)))) (F.args_zip_next_1 _))))
 ·have d:s.TypeIs (.ref z) "zip":=⟨_,c,rfl⟩
  exact Qaq (wpAny_attempt (QiQ (name:=Str.ofString "__next__") d F.slot_zip_next (wpAny_call_entry F.slot_zip_next d F.entry_zip_next
   (NG D h c B n l m ex λh' e r ⟨o,f,g⟩=>Qaq (wpAny_isInstance (T:="StopIteration") (b:=true) ⟨o,f,g⟩ isSubtype_stop (Qgq (q _ r)))) (F.args_zip_next_1 _))))
end
def PB(t:Bool):String:=if t=true then "tuple_iterator" else "list_iterator"
abbrev H1(t:Bool)(h:Heap)(a:Addr):Heap:=h.push {cls:=.type (PB t),data:=.fields #[.ref a,.int 0 0]}
abbrev H2(t t2:Bool)(h:Heap)(a b:Addr):Heap:=(H1 t h a).push {cls:=.type (PB t2),data:=.fields #[.ref b,.int 0 0]}
abbrev H3(t t2:Bool)(h:Heap)(a b:Addr):Heap:=(H2 t t2 h a b).push {cls:=.type "tuple",data:=.seq #[.ref h.objs.size,.ref (H1 t h a).objs.size]}
abbrev H4(t t2:Bool)(h:Heap)(a b:Addr):Heap:=(H3 t t2 h a b).push {cls:=.type "tuple",data:=.seq #[.none,.none]}
abbrev H5(t t2:Bool)(h:Heap)(a b:Addr):Heap:=(H4 t t2 h a b).push {cls:=.type "zip",data:=.fields #[.none,.bool false,.bool false,.ref (H2 t t2 h a b).objs.size,.ref (H3 t t2 h a b).objs.size]}
def Sq.push{t:Bool}{h:Heap}{a:Addr}{xs:Array Value}(g:Sq t h a xs)(o:Obj):Sq t (h.push o) a xs:=g.at λ_ e=>Qcq _ e
def Fk(t t2:Bool)(a b:Addr)(xs ys:Array Value):Meets (Builtin.«zip.__new__» ⟨[.type "zip",.ref a,.ref b],[]⟩) (λ_ R s=>Sq t s.heap a xs/\Sq t2 s.heap b ys/\R (.ok (.ret (.ref (H4 t t2 s.heap a b).objs.size))) {s with heap:=H5 t t2 s.heap a b}):=
 .of_wp λm w A R s h=>by
  obtain⟨e,g,d,i,f⟩:=s
  obtain⟨l,o,h⟩:=h
  have n:=sub_zip
  have c:=o.push {cls:=.type (PB t),data:=.fields #[.ref a,.int 0 0]}
  cases t <;>cases t2
  ·have k:Heap.IsList (Shared.heap ⟨e,g,d,i,f⟩) a xs:=l
   have j:Heap.IsList (Shared.heap ⟨e.push {cls:=.type "list_iterator",data:=.fields #[.ref a,.int 0 0]},g,d,i,f⟩) b ys:=c
   wp_walk using wpAny_pyIter_list k,wpAny_pyIter_list j
   exact⟨_,rfl,h⟩
  ·have k:Heap.IsList (Shared.heap ⟨e,g,d,i,f⟩) a xs:=l
   have j:Heap.IsTuple (Shared.heap ⟨e.push {cls:=.type "list_iterator",data:=.fields #[.ref a,.int 0 0]},g,d,i,f⟩) b ys:=c
   wp_walk using wpAny_pyIter_list k,wpAny_pyIter_tuple j
   exact⟨_,rfl,h⟩
  ·have k:Heap.IsTuple (Shared.heap ⟨e,g,d,i,f⟩) a xs:=l
   have j:Heap.IsList (Shared.heap ⟨e.push {cls:=.type "tuple_iterator",data:=.fields #[.ref a,.int 0 0]},g,d,i,f⟩) b ys:=c
   wp_walk using wpAny_pyIter_tuple k,wpAny_pyIter_list j
   exact⟨_,rfl,h⟩
  ·have k:Heap.IsTuple (Shared.heap ⟨e,g,d,i,f⟩) a xs:=l
   have j:Heap.IsTuple (Shared.heap ⟨e.push {cls:=.type "tuple_iterator",data:=.fields #[.ref a,.int 0 0]},g,d,i,f⟩) b ys:=c
   wp_walk using wpAny_pyIter_tuple k,wpAny_pyIter_tuple j
   exact⟨_,rfl,h⟩
section
variable{prog:Program}{w:World}{A:Around}{E:Value->Shared->Prop}{s:Shared}
def Kv{t t2:Bool}{a b:Addr}{xs ys:Array Value}{Q:Value->Shared->Prop}(r:Sq t s.heap a xs)(p:Sq t2 s.heap b ys)
  (q:∀h',wz h' (s.heap.objs.size+4) (s.heap.objs.size+2) (s.heap.objs.size+3) .none (.bool false)->IsPair h' (s.heap.objs.size+2) (.ref s.heap.objs.size) (.ref (s.heap.objs.size+1))->IsPair h' (s.heap.objs.size+3) .none .none→
   It t h' s.heap.objs.size a 0->It t2 h' (s.heap.objs.size+1) b 0->(∀c o,s.heap.get? c=some o->h'.get? c=some o)->Q (.ref (s.heap.objs.size+4)) {s with heap:=h'}):
  wpAny (model prog w) A (call (.type "zip") [.ref a,.ref b]) Q E s:=by
 refine callType_new F.called_zip (by decide) (F.typeCall_zip_2 _ _) (F.newCall_zip_2 _ _) (λg=>F.args_object_init_3 g _ _) F.entry_zip_new (Fk t t2 a b xs ys) ⟨r,p,?_⟩
 have f:(H1 t s.heap a).objs.size=s.heap.objs.size+1:=Heap.size_push ..
 have e:(H2 t t2 s.heap a b).objs.size=s.heap.objs.size+2:=by rw[Heap.size_push,f]
 have d:(H3 t t2 s.heap a b).objs.size=s.heap.objs.size+3:=by rw[Heap.size_push,e]
 have j:(H4 t t2 s.heap a b).objs.size=s.heap.objs.size+4:=by rw[Heap.size_push,d]
 have h:(H5 t t2 s.heap a b).get? (H4 t t2 s.heap a b).objs.size=some _:=Qrq _ rfl
 have l:(H5 t t2 s.heap a b).get? (H3 t t2 s.heap a b).objs.size=some _:=Qcq _ (Qrq _ rfl)
 have k:(H5 t t2 s.heap a b).get? (H2 t t2 s.heap a b).objs.size=some _:=Qcq _ (Qcq _ (Qrq _ rfl))
 have i:(H5 t t2 s.heap a b).get? (H1 t s.heap a).objs.size=some _:=Qcq _ (Qcq _ (Qcq _ (Qrq _ rfl)))
 have m:(H5 t t2 s.heap a b).get? s.heap.objs.size=some _:=Qcq _ (Qcq _ (Qcq _ (Qcq _ (Qrq _ rfl))))
 refine(?_:_/\_)
 rw[e,d,j] at h
 rw[f,e] at k
 rw[d] at l
 rw[f] at i
 rw[j]
 refine⟨⟨_,h,rfl⟩,q _ h k l ?_ ?_ λc o n=>Qcq _ (Qcq _ (Qcq _ (Qcq _ (Qcq _ n))))⟩
 ·cases t <;>exact⟨_,m,rfl,rfl⟩
 ·cases t2 <;>exact⟨_,i,rfl,rfl⟩
end
def q0:typeLookup (.type "zip") "__getattr__"=pure none:=by rw[typeLookup_type,builtinLookup_eq_fast];kernel_rfl
def kD:entryFor table "zip.__getattribute__"=some Builtin.«object.__getattribute__»:=
 entryFor_alias (id':="object.__getattribute__") (by kernel_rfl) (by decide +kernel) (by decide +kernel) (by kernel_rfl)
def tW:typeLookup (Value.type "zip") (Str.ofString "keys")=pure none:=by
 rw[typeLookup_type,builtinLookup_eq_fast]
 rfl
def vR(a:Addr)(fs:Array Value)(name:Str)(u:Tok)(e:typeLookup (.type "zip") name=pure none)(b:(["__module__","__name__","__qualname__","__doc__","__annotations__"]:List Str).contains name=false)(hsz:name.length+100<=sizeLine:=by size_fits):
  Meets (Builtin.«object.__getattribute__» ⟨[.ref a,.str name u],[]⟩) (λA R s=>s.heap.get? a=some {cls:=.type "zip",dict:=none,data:=.fields fs,slots:= #[]}/\raisesAttr (.ref a) name A R s):=
 Meets.of_wp λf w A R s c=>by
  obtain⟨h,g,d,k,i⟩:=s
  obtain⟨j,c⟩:=c
  have l:(⟨h,g,d,k,i⟩:Shared).TypeIs (.ref a) "zip":=⟨_,j,rfl⟩
  unfold Builtin.«object.__getattribute__»
  repeat (any_goals (first|assumption|wp_step))
  simp only[b,Bool.false_eq_true,if_false]
  repeat (any_goals (first|assumption|wp_step))
  exact wpAny_raiseAttrError c.1 c.2 (attrMsg_fits (by decide +kernel) hsz)
def E6{prog:Program}{w:World}{A:Around}{E:Value->Shared->Prop}{s:Shared}{a:Addr}{fs:Array Value}{Q:Option Value->Shared->Prop}
  (j:s.heap.get? a=some {cls:=.type "zip",dict:=none,data:=.fields fs,slots:= #[]}) (t:A.handled=none)
  (h:∀(h':Heap) (i:Nat),(∀b o,s.heap.get? b=some o->h'.get? b=some o)->Q none {s with heap:=h',toks:=i}):
  wpAny (model prog w) A (getAttr? (.ref a) (Str.ofString "keys")) Q E s:=by
 obtain⟨q,g,d,i,l⟩:=s
 have v:∀x,Shared.TypeIs ⟨q,g,d,x,l⟩ (.ref a) "zip":=λx=>⟨_,j,rfl⟩
 have k:=sub_AttributeError
 have u:=F.slot_zip_getattribute.lookup
 have r:=F.slot_zip_getattribute.bind (Value.ref a)
 have p:=q0
 unfold getAttr? mkText getAttrBy? getAttrBy
 refine Qaq (Qaq (wpAny_fresh' (Qgq (Qaq (wpAny_attempt (QLq ?_))))))
 unfold typeOf
 refine Qaq (Qaq (wpAny_loadPart' j (Qgq (Qaq (wpAny_of_eq u (QgQ rfl ?_))))))
 unfold getAttrByItsOwn hookBefore
 refine Qaq (QgQ rfl (Qgq (Qaq (wpAny_attempt (QLq ?_)))))
 unfold callGetattribute
 refine QgQ rfl ?_
 unfold boundAndCalled
 refine Qaq (wpAny_of_eq r ?_)
 refine call_meets F.slot_zip_getattribute (v (i+1)) kD (F.args_zip_getattribute_2 (Value.ref a) _) (vR a fs (Str.ofString "keys") i tW (by decide +kernel) (by decide +kernel)) ⟨j,t,λh' f e c=> ?_⟩
 obtain⟨y,z,n⟩:=c.there
 have m:Shared.TypeIs ⟨h',g,d,f,l⟩ (.ref e) "AttributeError":=⟨_,n,rfl⟩
 show wpAny _ _ (getattributeRaised _ _ _ _ _ _ _) _ _ _
 unfold getattributeRaised
 refine Qaq (wpAny_isInstance m k (wpAny_ite_true rfl ?_))
 unfold hookBehind hookOrError
 refine Qaq (QgQ rfl (wpAny_of_eq p ?_))
 show wpAny _ _ (attributeErrorLeaves _ _ _ _ _) _ _ _
 unfold attributeErrorLeaves
 refine wpAny_ite_true rfl (wpAny_throw ?_)
 exact Qaq (wpAny_isInstance m k (wpAny_ite_true rfl (Qgq (h h' f c.keeps))))
def wW{prog:Program}{w:World}{A:Around}{E:Value->Shared->Prop}{s:Shared}{z:Addr}{fs:Array Value}{Q:Value->Shared->Prop}
  (l:s.heap.get? z=some {cls:=.type "zip",dict:=none,data:=.fields fs,slots:= #[]}) (m:A.handled=none)
  (h:∀(h':Heap) (d:Nat),(∀b o,(s.heap.push {cls:=.type "dict",data:=.dict #[]}).get? b=some o->h'.get? b=some o)→
   wpAny (model prog w) A.in1.in1 (pyIter (.ref z)) (λit f=>codeAny (model prog w) A.in1 (.builtin "dict.update.loop" {pos:= [.ref s.heap.objs.size,it,rawInt 0,.none]}) (wants (λr c=>r=.none/\Q (.ref s.heap.objs.size) c) E) f) E {s with heap:=h',toks:=d}):
  wpAny (model prog w) A (call (.type "dict") [.ref z]) Q E s:=by
 refine Dk.A0 ?_
 have j:=Qrq s.heap (o:={cls:=.type "dict",data:=.dict #[]}) rfl
 have i:Shared.TypeIs {s with heap:=s.heap.push {cls:=.type "dict",data:=.dict #[]}} (.ref s.heap.objs.size) "dict":=⟨_,j,rfl⟩
 have a:=Qcq {cls:=.type "dict",data:=.dict #[]} l
 have k:Shared.TypeIs {s with heap:=s.heap.push {cls:=.type "dict",data:=.dict #[]}} (.ref z) "zip":=⟨_,a,rfl⟩
 unfold Builtin.«dict.__init__» Builtin.Dict.selfAndRest
 refine Qaq (Qaq (wpAny_notOrdered_dict i ?_))
 refine Qaq (Qgq (Qgq ?_))
 show wpAny _ _ (Builtin.Dict.updateFrom _ _ _ _ _) _ _ _
 unfold Builtin.Dict.updateFrom
 refine Qaq (wpAny_typeOf k (wpAny_ite_true (by decide +kernel) (Qaq (E6 a (by simpa using m) λh' d g=> ?_))))
 refine wpAny_ite_true rfl ?_
 refine Qaq (wpAny_rule (Qaq (QRq (h h' d g) (λit f q=> ?_) λe f q=>q)))
 exact Qgq ⟨plainId_quiet (by decide +kernel) _,q⟩
end Zq
namespace Zq
open PySem Dk
section
variable{prog:Program}{w:World}{K:Type}[DecidableEq K]{knd:KeyKind prog w K}{z T O i j a b S:Addr}{t t2:Bool}{xs ys:Array Value}
def CL{A:Around}{R:Result->Shared->Prop}(hA:A.in1.handled=none)(D:ZipApart z T O i j a b)(nS:S≠z/\S≠T/\S≠O/\S≠i/\S≠j/\S≠a/\S≠b)(a4:a≠T/\b≠T)(f:Nat->K)(q:∀(n:Nat) v,xs[n]?=some v->knd.is (f n) v=true)(a3:xs.size<=ys.size)(hn:xs.size<=sizeLine):
  ∀ (m n:Nat) (c:Int) (s:Shared),xs.size-n=m->n<=xs.size->Zs s.heap z T O i j->IsPair s.heap T (.ref i) (.ref j)->It t s.heap i a n->It t2 s.heap j b n->Sq t s.heap a xs->Sq t2 s.heap b ys->Heap.DictOf knd s.heap S (Lw f (λn=>ys.getD n .none) n)→
    (∀h' Y,Heap.DictOf knd h' S (Lw f (λn=>ys.getD n .none) xs.size)->(∀c o,c≠z->c≠O->c≠i->c≠j->c≠S->s.heap.get? c=some o->h'.get? c=some o)->R (.ok (.ret .none)) {s with heap:=h',toks:=Y})→
    codeAny (model prog w) A (.builtin "dict.update.loop" {pos:= [.ref S,.ref z,rawInt c,.none]}) R s:=by
 obtain⟨H,n2,n3,G,n5,n6,n7⟩:=nS
 intro m
 induction m with
 | zero=>
   intro n c s hm X U F gi gj B Z L h
   have e:n=xs.size:=by omega
   subst e
   refine codeAny_builtin lj ?_
   rw[Around.under_plainId hZ]
   show wpAny _ _ (do let __x←pyNext (.ref z);_) _ _ _
   refine Qaq (Bf D hA U F gi B (by simp) λh' r=> ?_)
   refine Qaq (Qgq (Qgq (h h' s.toks ?_ λc o k g l p _ e=>r c o k g l p e)))
   obtain⟨o,es,Q,N,h2⟩:=L
   exact⟨o,es,Q,r _ _ H n3 G n5 N,h2⟩
 | succ m ih=>
   intro n c s hm X U F gi gj B Z L h
   have x:n<xs.size:=by omega
   have ex:xs[n]?=some xs[n]:=by simp[x]
   have ey:ys[n]?=some ys[n]:=by simp[show n<ys.size by omega]
   refine codeAny_builtin lj ?_
   rw[Around.under_plainId hZ]
   show wpAny _ _ (do let __x←pyNext (.ref z);_) _ _ _
   refine Qaq (G_ D U F gi gj B Z ex ey λhp a0 P J gp r=> ?_)
   have W:Heap.DictOf knd hp S (Lw f (λn=>ys.getD n .none) n):=by
     obtain⟨o,es,Q,N,h2⟩:=L
     exact⟨o,es,Q,r _ _ H n3 G n5 N,h2⟩
   refine Qaq (QLq (Qaq (wpAny_tryCatch ?_)))
   unfold Builtin.Dict.pairItems
   refine Qaq (wpAny_typeOf (T:="tuple") ⟨_,gp,rfl⟩ (wpAny_ite_true rfl (Qaq ?_)))
   unfold seqItems?
   refine Qaq (wpAny_load' gp (Qgq (Qgq (QLq (wpAny_dictSet_pairs (q n _ ex) W (λh' u hs=> ?_) (QAq (Ea f _ n) (by omega)))))))
   have ev:ys.getD n .none=ys[n]:=by simp[Array.getD,show n<ys.size by omega]
   have y:∀c o,c≠S->hp.get? c=some o->h'.get? c=some o:=λc o hc e=>by rw[hs.2 c hc];exact e
   have d:∀c o,c≠z->c≠O->c≠i->c≠j->c≠S->s.heap.get? c=some o->h'.get? c=some o:=λc o k g l p C e=>y c o C (r c o k g l p e)
   have a2:∃o,h'.get? S=some o:=by obtain⟨o,_,_,e,_⟩:=u;exact⟨o,e⟩
   have M:Heap.DictOf knd h' S (Lw f (λn=>ys.getD n .none) (n+1)):=by
     show Heap.DictOf knd h' S (stored _ (f n) (ys.getD n .none))
     rw[ev]
     exact u
   refine Qgq ⟨plainId_quiet hZ _,ih (n+1) (c+1) _ (by omega) x (a0.but y H.symm n3.symm a2) ?_ (P.at λo e=>y _ o G.symm e) (J.at λo e=>y _ o n5.symm e) ?_ ?_ M λI Y a1 k4=>h I Y a1 λc o k g l p C e=>k4 c o k g l p C (d c o k g l p C e)⟩
   · exact d _ _ D.TIz D.TITO D.TIi1 D.TIi2 n2.symm F
   · exact B.at λo e=>d _ o D.l1z D.l1TO D.l1i1 D.l1i2 n6.symm e
   · exact Z.at λo e=>d _ o D.l2z D.l2TO D.l2i1 D.l2i2 n7.symm e
end
end Zq
namespace L2
open PySem PySem.Spec PyProof.Rows Zq
section
variable{X:Cx}
def F4(K:PySem.W.Frag)(t:Bool)(H:Hp)(a:Addr)(xs:List V):Prop:=if t=true then jj K H a xs else i7 K H a xs
def Inv.sq{c:List (Addr×Obj)}{d:St}{H:Hp}{s:Shared}{t:Bool}{a:Addr}{xs:List V}(I:Inv X c d H s)(h:F4 X.K t H a xs):∃b:List Value,bG xs b/\Sq t s.heap a b.toArray/\xs.length<=sizeLine:=by
 cases t with
 | true=>
   obtain⟨b,r,p,z⟩:=I.tuple h
   exact⟨b,r,(show s.heap.IsTuple a b.toArray from p),z⟩
 | false=>
   obtain⟨b,r,p,z⟩:=I.list h
   exact⟨b,r,(show s.heap.IsList a b.toArray from p.isList),z⟩
def Sq.lt{t:Bool}{h:Heap}{a:Addr}{xs:Array Value}(g:Sq t h a xs):a<h.objs.size:=by
 cases t with
 |true=>obtain⟨o,e,_⟩:=(show h.IsTuple a xs from g);exact Qiq e
 |false=>obtain⟨o,e,_⟩:=(show h.IsList a xs from g);exact Qiq e
def Mq(K:PySem.W.Frag):List V->Hp->VK->Prop:=λe H Q=>∃(t f:Bool) (a b:Addr) (c:List Key) (d:List V),e= [.ref a,.ref b]/\F4 K t H a (c.map kV)/\F4 K f H b d/\c.length=d.length/\∀p,H p=none->Q (.ref p) (upd H p (.dK (kG [] (c.zip d))))
def CP{x y:Expr}{ta:TA}{p1 R c1 M:Pos}(C:X.calm=true)(a2:Gl X "dict")(a1:X.mg "dict"=none)(hg:Gl X "zip")(hm:X.mg "zip"=none)(ha:PA X [x,y] ta)(hs:starEach [x,y] X.env= [(false,eval x X.env),(false,eval y X.env)]:=by rfl)(L:starEach [y] X.env= [(false,eval y X.env)]:=by rfl)
  (he:starEach [Expr.Call (.Name "zip" R) [x,y] [] M] X.env= [(false,eval (Expr.Call (.Name "zip" R) [x,y] [] M) X.env)]:=by rfl):
  PE X (.Call (.Name "dict" p1) [.Call (.Name "zip" R) [x,y] [] M] [] c1) (OH (Mq X.K) ta):=by
 intro B s σ H Q I h
 refine wpAny_Call_Name_kw (oM I a2 a1 (by rfl) ?_)
 refine PyProof.Rows.callWith_type1 ?_ he rfl
 rw[he]
 show wpAny _ _ (spliced ((false,eval (Expr.Call (.Name "zip" R) [x,y] [] M) X.env)::backTo c1 (starEach [] X.env))) _ _ s
 refine Calls.spliced_cons ?_
 refine wpAny_Call_Name_kw (oM I hg hm (by rfl) ?_)
 refine PyProof.Rows.callWith_type1 (cX (ha M B s σ H _ I h) λus j ⟨vs,H1,F,r1,q1⟩=> ?_) (by rw[hs,L]) (by rw[L];rfl)
 obtain⟨t,t2,a,b,d,ys,e,qa,qb,hl,q⟩:=q1
 subst e
 cases r1 with
 | cons r rr=>
   cases rr with
   | cons r' rr=>
     cases rr
     cases r
     cases r'
     obtain⟨m,ra,Z,za⟩:=F.sq qa
     obtain⟨p,rb,pb,zb⟩:=F.sq qb
     have lx:=Sq.lt Z
     have ly:=Sq.lt pb
     have la:=ra.length
     have lb:=rb.length
     rw[lQm] at la
     refine Zq.Kv Z pb λg S gT gO gi gj W=>Calls.spliced_nil ?_
     have I2:Inv X B σ H1 {j with heap:=g}:=F.kept (t':=j.toks) W
     refine Zq.wW S (F.ok.hd C) λU tk k2=> ?_
     have z:∀c o,g.get? c=some o->U.get? c=some o:=λc o e=>k2 c o (Qcq _ e)
     have a5:U.get? g.objs.size=some {cls:=.type "dict",data:=.dict #[]}:=k2 _ _ (Qrq g rfl)
     refine wpAny_pyIter_zip (z _ _ S) ?_
     have DD:=PyProof.Rows.zipApart_new lx ly
     have f:j.heap.objs.size+4<g.objs.size:=Qiq S
     have N:∀(n:Nat) k,d[n]?=some k->d.getD n (.inl 0)=k:=λn k e=>by rw[Qlq,e];rfl
     have G:∀c,c<j.heap.objs.size->c≠j.heap.objs.size+4/\c≠j.heap.objs.size+3/\c≠j.heap.objs.size/\c≠j.heap.objs.size+1/\c≠g.objs.size:=λc C=>
       ⟨Qwq (Qqq C (Nat.le_add_right _ _)),Qwq (Qqq C (Nat.le_add_right _ _)),Qwq C,Qwq (Qqq C (Nat.le_add_right _ _)),Qwq (Nat.lt_trans (Qqq C (Nat.le_add_right _ 4)) f)⟩
     refine Zq.CL (knd:=bZ X.prog X.w) (t:=t) (t2:=t2) (xs:=m.toArray) (ys:=p.toArray) (show X.A.in1.in1.handled=none from F.ok.hd C) DD ?_ ?_ (λn=>d.getD n (.inl 0)) ?_ (by simp;omega) (by simp;omega) m.toArray.size 0 0 _ rfl (Nat.zero_le _)
       (.inl ⟨z _ _ S,_,_,z _ _ gO⟩) (z _ _ gT) (gi.at λo e=>z _ o e) (gj.at λo e=>z _ o e) (Z.at λo e=>z _ o (W _ o e)) (pb.at λo e=>z _ o (W _ o e)) ?_ ?_
     · refine⟨Nat.ne_of_gt f,Nat.ne_of_gt (Nat.lt_trans ?_ f),Nat.ne_of_gt (Nat.lt_trans ?_ f),Nat.ne_of_gt (Nat.lt_trans ?_ f),Nat.ne_of_gt (Nat.lt_trans ?_ f),(G _ lx).2.2.2.2.symm,(G _ ly).2.2.2.2.symm⟩ <;>(show _<j.heap.objs.size+4) <;>omega
     · exact⟨Qwq (Qqq lx (Nat.le_add_right _ _)),Qwq (Qqq ly (Nat.le_add_right _ _))⟩
     · intro n v hv
       have P:m[n]?=some v:=by simpa using hv
       have hn:n<d.length:=by
         have:=(gQs.mp P).1
         omega
       have J:=gQe hn
       obtain⟨u,Y,ru⟩:=ra.get (i:=n) (x:=kV d[n]) (by rw[gQm,J];rfl)
       rw[P] at Y
       cases Y
       show(bZ X.prog X.w).is (d.getD n (.inl 0)) v=true
       rw[N n _ J]
       exact key_is ru _ _
     · obtain⟨o,es,ep,e1,e2⟩:=Heap.DictOf.new (knd:=bZ X.prog X.w) g
       exact⟨o,es,ep,k2 _ _ e1,e2⟩
     · intro h3 a0 dd k3
       have a3:g.objs.size≠sysModules:=by
         have:=I2.big
         exact Nat.ne_of_gt this
       have le:j.heap.objs.size<=g.objs.size:=nQl (Nat.lt_of_le_of_lt (Nat.le_add_right _ 4) f)
       refine⟨rfl,.ref g.objs.size,_,F.laid (a:=g.objs.size) (o:=.dK (kG [] (d.zip ys))) (t':=a0) (h':=h3) (λc o e=> ?_) le (v7 ?_ (beq_eq_false_iff_ne.mpr a3) ?_ dd),rfl,q _ (F.hok.fresh le)⟩
       · obtain⟨o1,o2,o3,o4,o5⟩:=G c (Qiq e)
         exact k3 c o o1 o2 o3 o4 o5 (z c o (W c o e))
       · have:=jz (d.zip ys) []
         rw[QGq,List.length_zip] at this
         omega
       · have a4:∀n,n<=d.length->KV (kG [] ((d.zip ys).take n)) (Dk.Lw (λn=>d.getD n (.inl 0)) (λn=>p.toArray.getD n .none) n):=by
           intro n
           induction n with
           |zero=>intro _;exact .nil
           | succ n ih=>
             intro hn
             have J:=gQe (l:=d) (i:=n) (by omega)
             have hy:=gQe (l:=ys) (i:=n) (by omega)
             obtain⟨u,Y,ru⟩:=rb.get hy
             have ez:(d.zip ys)[n]?=some (d[n],ys[n]):=by rw[List.getElem?_zip_eq_some];exact⟨J,hy⟩
             have e3:(d.zip ys).take (n+1)=(d.zip ys).take n++ [(d[n],ys[n])]:=by rw[QYq,ez];rfl
             have eu:p.toArray.getD n .none=u:=by
               have:=(gQs.mp Y)
               obtain⟨g,U⟩:=this
               simp[Array.getD,g,U]
             rw[e3]
             show KV (List.foldl _ [] ((d.zip ys).take n++ [(d[n],ys[n])])) (stored _ (d.getD n (.inl 0)) (p.toArray.getD n .none))
             rw[List.foldl_append,N n _ J,eu]
             exact(ih (by omega)).put d[n] ru
         have:=a4 d.length (Qmq _)
         have e4:(d.zip ys).take d.length=d.zip ys:=by
           have:(d.zip ys).length=d.length:=by rw[List.length_zip];omega
           rw[←this,QEq]
         rw[e4] at this
         have e5:m.toArray.size=d.length:=by simp;omega
         rw[e5]
         exact this
end
end L2
namespace Zq
open PySem
section
variable{prog:Program}{w:World}{A:Around}{E:Value->Shared->Prop}{s:Shared}{t t2:Bool}{z T O i j a b:Addr}{k:Nat}{xs ys:Array Value}{x y u v:Value}
def E3(D:ZipApart z T O i j a b){Q:Option Value->Shared->Prop}(c:wz s.heap z T O .none (.bool false))(G:IsPair s.heap T (.ref i) (.ref j))(p:IsPair s.heap O u v)(r:It t s.heap i a k)(h:It t2 s.heap j b k)
  (B:Sq t s.heap a xs) (n:Sq t2 s.heap b ys) (ex:xs[k]?=some x) (g:ys[k]?=some y)
  (q:∀h',wz h' z T O (rawInt s.heap.objs.size) (.bool false)->IsPair h' O x y->It t h' i a (k+1)->It t2 h' j b (k+1)->IsPair h' s.heap.objs.size x y->Zp.Rest z O i j s.heap h'->Q (some (.ref s.heap.objs.size)) {s with heap:=h'}):
  wpAny (model prog w) A (pyNext (.ref z)) Q E s:=by
 have d:s.TypeIs (.ref z) "zip":=⟨_,c,rfl⟩
 unfold pyNext
 exact Qaq (wpAny_attempt (QiQ (name:=Str.ofString "__next__") d F.slot_zip_next (wpAny_call_entry F.slot_zip_next d F.entry_zip_next
  (item D c G p r h B n ex g λh' f C m l o e=>Qgq (q h' f C m l o e)) (F.args_zip_next_1 _))))
end
end Zq
namespace L2
open PySem PySem.Spec PyProof.Rows Zq
def Inv.sq_inj{X:Cx}{b:List (Addr×Obj)}{c:St}{H:Hp}{s:Shared}{t:Bool}{a:Addr}{xs ys:List V}(I:Inv X b c H s)(h:F4 X.K t H a xs)(h':F4 X.K t H a ys):xs=ys:=by
 cases t with
 |true=>exact I.tuple_inj h h'
 |false=>exact I.list_inj h h'
def QK(K:PySem.W.Frag)(t t2:Bool)(a b:Addr):It:=
  ⟨λi H=>∃c d x y,F4 K t H a c/\F4 K t2 H b d/\c[i]?=some x/\d[i]?=some y,
   λi H v e=>∃p,v=.ref p/\H p=none/\∀c d x y,F4 K t H a c->F4 K t2 H b d->c[i]?=some x->d[i]?=some y->e=upd H p (.tup [x,y]),
   λi H=>∃c,F4 K t H a c/\c.length<=i⟩
def Ge{P:Program}{w:World}{K:PySem.W.Frag}{B:List Expr}{x1:Nat}{tp:Pos}{t t2:Bool}{z T O i j a b:Addr}(D:ZipApart z T O i j a b):
  Turn P w K (.Tuple B x1 tp) (QK K t t2 a b) [z,T,O,i,j] z (λn h=>wz h z T O .none (.bool false)/\IsPair h T (.ref i) (.ref j)/\(∃u v,IsPair h O u v)/\Zq.It t h i a n/\Zq.It t2 h j b n) where
 mem:=by simp
 obj:=λn h ⟨f,g,⟨u,v,m⟩,p,q⟩ c d=>by
  simp at d
  rcases d with rfl|rfl|rfl|rfl|rfl
  ·exact⟨_,f,λv n=>by cases n⟩
  ·exact⟨_,g,λv n=>by cases n⟩
  ·exact⟨_,m,λv n=>by cases n⟩
  ·exact p.obj
  ·exact q.obj
 keep:=λn h h' ⟨f,g,⟨u,v,m⟩,p,q⟩ k=>⟨k z (by simp) _ f,k T (by simp) _ g,⟨u,v,k O (by simp) _ m⟩,p.at λo e=>k i (by simp) o e,q.at λo e=>k j (by simp) o e⟩
 item:=by
  rintro X M Q hK d n l s σ H E I J ⟨f,g,⟨u,v,m⟩,p,q⟩ U
  subst M Q hK
  obtain⟨xs,ys,x,y,F,qb,R,hy⟩:=U
  obtain⟨N,Y,L,_⟩:=I.sq F
  obtain⟨a2,rb,pb,_⟩:=I.sq qb
  obtain⟨ux,ex,rx⟩:=Y.get R
  obtain⟨uy,ey,ry⟩:=rb.get hy
  have A:∀{c o},s.heap.get? c=some o->c≠s.heap.objs.size:=λe=>Qwq (Qiq e)
  have C:∀c∈[z,T,O,i,j],c≠s.heap.objs.size:=λc d=>by
   obtain⟨oi,e1,_⟩:=p.obj
   obtain⟨oj,e2,_⟩:=q.obj
   simp at d
   rcases d with rfl|rfl|rfl|rfl|rfl
   ·exact A f
   ·exact A g
   ·exact A m
   ·exact A e1
   ·exact A e2
  refine Zq.E3 D f g m p q L pb (x:=ux) (y:=uy) (by simpa using ex) (by simpa using ey) λh1 z1 O1 i1 j1 n1 G=>⟨_,rfl,?_⟩
  have T1:=G _ _ D.TIz D.TITO D.TIi1 D.TIi2 g
  refine wpAny_letOwnedTupleGo_zip z1 λh2 z2 r=> ?_
  have I2:Inv X l σ (upd H s.heap.objs.size (.tup [x,y])) {s with heap:=h2}:=I.turnedNew (t':=s.toks) (fp:= [z,T,O,i,j]) J (λc o d e=> ?_) (Qmq _) ?_
  ·refine⟨.ref s.heap.objs.size,_,I2,rfl,⟨s.heap.objs.size,rfl,I.hok.fresh (Qmq _),λa1 a0 x' y' q1 q2 Z S=> ?_⟩,⟨z2,r.extBut _ _ D.TIz T1,⟨_,_,r.extBut _ _ D.TOz O1⟩,i1.ext r.extBut D.i1z,j1.ext r.extBut D.i2z⟩,λc d=> ?_⟩
   ·rw[I.sq_inj q1 F] at Z
    rw[I.sq_inj q2 qb] at S
    rw[R] at Z
    rw[hy] at S
    cases Z
    cases S
    rfl
   ·rw[bt (C c d)]
    exact(J c d).1
  ·simp at d
   exact r.extBut _ _ d.1 (G c o d.1 d.2.2.1 d.2.2.2.1 d.2.2.2.2 e)
  ·exact⟨by show 2<=_;decide,[ux,uy],.cons rx (.cons ry .nil),_,r.extBut _ _ (λe=>C z (by simp) e.symm) n1,rfl,rfl,0,rfl⟩
 done:=by
  rintro X M Q hK d n l s σ H E I J ⟨f,g,⟨u,v,m⟩,p,q⟩ U
  subst M Q hK
  obtain⟨xs,F,R⟩:=U
  obtain⟨N,Y,L,_⟩:=I.sq F
  have hl:=Y.length
  refine Zq.Bf D (I.ok.hd d) (.inl ⟨f,u,v,m⟩) g p L (by simp;omega) λh1 G=>⟨rfl,I.turnedL (t':=s.toks) (fp:= [z,T,O,i,j]) J λc o d e=> ?_⟩
  simp at d
  exact G c o d.1 d.2.2.1 d.2.2.2.1 d.2.2.2.2 e
 self:=λ_ _ _ _ _ ⟨f,_⟩ h=>wpAny_pyIter_zip f h
section
variable{X:Cx}
def QX(K:PySem.W.Frag)(f:TA):TI:=λd H R=>f d H λg H1=>∃(t c:Bool) (a b:Addr) (e h:List V),g= [.ref a,.ref b]/\F4 K t H1 a e/\F4 K c H1 b h/\R (QK K t c a b) H1
def Jq{f:List Expr}{W:Nat}{Q:Pos}{a b:Expr}{l:TA}{p pos:Pos}(B:Gl X "zip")(N:X.mg "zip"=none)(P:PA X [a,b] l)(hs:starEach [a,b] X.env= [(false,eval a X.env),(false,eval b X.env)]:=by rfl)(g:starEach [b] X.env= [(false,eval b X.env)]:=by rfl):
  PI X (.Tuple f W Q) (.Call (.Name "zip" p) [a,b] [] pos) (QX X.K l):=by
 intro i s Y H R I h
 refine Call_ (oM I B N (by rfl) (PyProof.Rows.callWith_type1 (cX (P pos i s Y H _ I h) λus v ⟨vs,H1,d,L,M⟩=> ?_) (by rw[hs,g]) (by rw[g];rfl)))
 obtain⟨t,t2,x,y,xs,ys,e,J,G,q⟩:=M
 subst e
 cases L with
 | cons r j=>
   cases j with
   | cons z j=>
     cases j
     cases r
     cases z
     obtain⟨F,ra,w,_⟩:=d.sq J
     obtain⟨Z,rb,n,_⟩:=d.sq G
     have lx:=Sq.lt w
     have ly:=Sq.lt n
     refine Zq.Kv w n λh' m C S U A k=> ?_
     refine wpAny_pyIter_zip m ⟨_,_,_,_,H1,rfl,d.kept (t':=v.toks) k,Ge (PyProof.Rows.zipApart_new lx ly),⟨m,C,⟨_,_,S⟩,U,A⟩,λc u=> ?_,q⟩
     have o:v.heap.objs.size<=c:=by
       simp only[Qsq,QXq,or_false] at u
       rcases u with e|e|e|e|e <;>(rw[e];first|exact Qmq _|exact Nat.le_add_right _ _)
     exact d.fpOk o (d.hok.fresh o)
end
end L2
namespace DL
open PySem PySem.Spec PyProof.Rows L2
def CK.sqB{M:Md}{ρ:List Addr}{H:Hp}{a:Addr}{vs:List V}{t:Tag}(h:CK M ρ H a vs t):L2.F4 M.K (!t.isL) H a vs:=by
 cases c:t.isL with
 |true=>exact h.sqL c
 |false=>exact h.sqT c
def BA(xs ys:List D):List D:=List.zipWith (λx y=>D.tup [x,y]) xs ys
open Classical in
def Gn(f g:fh):yd:=λb S=>(f b S).bind λ(p,c)=>(g b c).bind λ(r,a)=>if p.2.stays a p.1/\p.1.length<=r.1.length then some ((BA p.1 r.1,λS=>p.2.stays S p.1/\r.2.stays S r.1),a) else none
section
variable{X:Cx}{a b c e:Expr}{pos:Pos}{st:Stmt}
def P8{m:List Expr}{r:Nat}{tp p:Pos}{f g:fh}(hg:Gl X "zip")(hm:X.mg "zip"=none)(ha:PE X a (tQ (md X) f))(hb:PE X b (tQ (md X) g))(hs:starEach [a,b] X.env= [(false,eval a X.env),(false,eval b X.env)]:=by rfl)(k:starEach [b] X.env= [(false,eval b X.env)]:=by rfl):
  PI X (.Tuple m r tp) (.Call (.Name "zip" p) [a,b] [] pos) (tI (md X) (Gn f g)):=Pp (Jq hg hm (d0 ha (d0 hb g9 k) (by rw[hs,k])) hs k) λσ H R ⟨ρ,K,S,ds,W,S',ok,e,q⟩=>by
 obtain⟨⟨⟨o,t1⟩,L⟩,e1,e⟩:=au e
 obtain⟨⟨⟨l,t2⟩,S2⟩,e2,e⟩:=au e
 dsimp only at e
 split at e
 ·rename_i c
  obtain⟨e3,rfl⟩:=cD e
  obtain⟨rfl,rfl⟩:=Prod.mk.inj e3
  refine⟨ρ,K,S,o,t1,L,ok,e1,λG a1 a2 H1 r C h1 r1=>⟨G,K,L,l,t2,S2,ok.to r C,e2,λa0 b1 ws H2 Z n J r2=> ?_⟩⟩
  obtain⟨t,U,r3⟩:=h1.to r1 Z n c.1
  refine⟨_,_,a1,b1,t,ws,rfl,U.sqB,J.sqB,q _ _ _ (r.trans Z) n λi a3 S3 H3 N j w=> ?_⟩
  obtain⟨A,B,Y⟩:=U.to r3 N j w.1
  obtain⟨Q,I,g4⟩:=J.to r2 N j w.2
  refine⟨λd h=> ?_,λhi=>⟨A,B.sqB,?_⟩⟩
  ·unfold BA at h
   rw[List.getElem?_zipWith] at h
   cases s:o[i]? with
   |none=>rw[s] at h;cases h
   | some x=>
     cases F:l[i]? with
     |none=>rw[s,F] at h;cases h
     | some y=>
       rw[s,F] at h
       cases h
       obtain⟨u,M,ru⟩:=Y.get s
       obtain⟨z,P,rz⟩:=g4.get F
       refine⟨⟨A,Q,u,z,B.sqB,I.sqB,M,P⟩,λv H4 hv=> ?_⟩
       obtain⟨p,rfl,hp,hq⟩:=hv
       have:=hq A Q u z B.sqB I.sqB M P
       subst this
       exact⟨cB.laid hp,j.lay hp,.tup cj ((a8.cons ru (.cons rz .nil)).ext (cB.laid hp))⟩
  ·rw[hi]
   unfold BA
   rw[List.length_zipWith,Y.length.symm]
   have:=c.2
   omega
 ·cases e
end
def wM:D->Option Key
 |.int i=>some (.inl i)
 |.str x=>some (.inr x)
 |_=>none
def uq{M:Md}{ρ:List Addr}{H:Hp}{d:D}{v:V}{k:Key}(r:Rel M ρ H d v)(e:wM d=some k):v=kV k:=by
 cases r <;>simp[wM] at e <;>subst e <;>rfl
def B9:List D->Option (List Key)
 | []=>some []
 |d::r=>(wM d).bind λk=>(B9 r).bind λa=>some (k::a)
theorem AD{M:Md}{ρ:List Addr}{H:Hp}:∀{ds:List D} {vs:List V} {a:List Key},a8 M ρ H ds vs->B9 ds=some a->vs=a.map kV
 |_,_,_,.nil,e=>by cases e;rfl
 | _,_,_,.cons h hs,e=>by
   obtain⟨k,b,e⟩:=au e
   obtain⟨a,c,e⟩:=au e
   cases e
   rw[uq h b,AD hs c]
   rfl
def ik(a:List (Key×D))(k:Key):Option D:=(a.find? λb=>decide (b.1=k)).map (·.2)
def putD(a:List (Key×D))(k:Key)(v:D):List (Key×D):=
 if (a.any λb=>decide (b.1=k))=true then a.map (λb=>if b.1=k then(b.1,v) else b) else a++ [(k,v)]
def bp(b more:List (Key×D)):List (Key×D):=more.foldl (λa c=>putD a c.1 c.2) b
section
variable{M:Md}{ρ:List Addr}{H:Hp}
theorem cE.append:∀{l m:List (Key×D)} {kv kw:List (Key×V)},cE M ρ H l kv->cE M ρ H m kw->cE M ρ H (l++m) (kv++kw)
 | [],_,_,_,h,h'=>by cases h;exact h'
 |(_,_)::_,_,_,_,⟨v,t,e,h,hs⟩,h'=>by subst e;exact⟨v,_,rfl,h,cE.append hs h'⟩
theorem cE.any:∀{l:List (Key×D)} {kv:List (Key×V)} (k:Key),cE M ρ H l kv->(l.any λp=>decide (p.1=k))=kv.any λp=>decide (p.1=k)
 | [],_,_,h=>by cases h;rfl
 |(_,_)::_,_,k,⟨v,t,e,h,hs⟩=>by subst e;simp only[List.any_cons,cE.any k hs]
theorem cE.mapP{d:D}{v:V}{k:Key}(r:Rel M ρ H d v):∀{l:List (Key×D)} {kv:List (Key×V)},cE M ρ H l kv->cE M ρ H (l.map λp=>if p.1=k then(p.1,d) else p) (kv.map λp=>if p.1=k then(p.1,v) else p)
 | [],_,h=>by cases h;rfl
 | (k',_)::_,_,⟨u,t,e,h,hs⟩=>by
   subst e
   simp only[QDq]
   by_cases c:k'=k
   · simp only[c,if_true];exact⟨v,_,rfl,r,cE.mapP r hs⟩
   · simp only[c,if_false];exact⟨u,_,rfl,h,cE.mapP r hs⟩
def cE.put{l:List (Key×D)}{kv:List (Key×V)}{k:Key}{d:D}{v:V}(h:cE M ρ H l kv)(r:Rel M ρ H d v):cE M ρ H (putD l k d) (putK kv k v):=by
 unfold putD putK
 rw[h.any k]
 split
 ·exact h.mapP r
 ·exact h.append ⟨v,[],rfl,r,rfl⟩
theorem cE.merge:∀{m:List (Key×D)} {kw:List (Key×V)} {l:List (Key×D)} {kv:List (Key×V)},cE M ρ H m kw->cE M ρ H l kv->cE M ρ H (bp l m) (kG kv kw)
 | [],_,_,_,h,h'=>by cases h;exact h'
 | (k,d)::m,_,_,_,⟨v,t,e,h,hs⟩,h'=>by
   subst e
   unfold bp kG
   rw[List.foldl_cons,List.foldl_cons]
   exact cE.merge (m:=m) (kw:=t) hs (h'.put h)
theorem cE.zip:∀{a:List Key} {ds:List D} {vs:List V},a8 M ρ H ds vs->cE M ρ H (a.zip ds) (a.zip vs)
 | [],_,_,_=>rfl
 |_::_,_,_,.nil=>rfl
 |k::a,_,_,.cons h hs=>⟨_,_,rfl,h,cE.zip hs⟩
theorem cE.val:∀{l:List (Key×D)} {kv:List (Key×V)} {k:Key} {d:D},cE M ρ H l kv->ik l k=some d->∃v,qQ kv k=some v/\Rel M ρ H d v
 | [],_,_,_,_,e=>by cases e
 | (k',d')::_,_,k,d,⟨v,t,e,h,hs⟩,e'=>by
   subst e
   unfold ik at e'
   unfold qQ
   rw[List.find?_cons] at e'⊢
   by_cases c:k'=k
   · simp only[c,decide_true] at e'⊢
     cases e'
     exact⟨v,rfl,h⟩
   · simp only[c,decide_false] at e'⊢
     exact cE.val hs e'
def cE.ext'{a:List Addr}{b:Hp}{l:List (Key×D)}{kv:List (Key×V)}(h:cE M ρ H l kv)(e:cB ρ H a b):cE M a b l kv:=h.imp λ_ _ r=>r.ext e
def cE.pre'{a:List Addr}{l:List (Key×D)}{kv:List (Key×V)}(h:cE M ρ H l kv)(e:ρ <+: a):cE M a H l kv:=h.imp λ_ _ r=>r.pre e
end
section
variable{X:Cx}{a b c e:Expr}{pos:Pos}{st:Stmt}
def N1{M:Md}{ρ d:List Addr}{H h:Hp}{m:aD}{l:List (Key×D)}{kv:List (Key×V)}{p:Addr}{Q:VK}(x:cB ρ H d h)(st:fY M d m h)(j:h p=none)(r:cE M d h l kv)
  (q:∀f v g,cB ρ H f g->fY M f (m++ [.dct l]) g->Rel M f g (.ref m.length) v->Q v g):Q (.ref p) (upd h p (.dK kv)):=by
 have s:p∉d:=dZ x st j
 have n:cB d h d (upd h p (.dK kv)):=cB.laid j
 have k:=(st.lay (u:=.dK kv) j).box (o:=.dct l) s ⟨kv,cj,(r.ext' n).pre' (List.prefix_append _ _)⟩
 refine q (d++ [p]) (.ref p) _ ⟨x.pre.trans (List.prefix_append _ _),λc i=> ?_,(x.trans n).keep,(x.trans n).grow⟩ k (.ref ?_)
 ·rcases mQa.mp i with i|i
  ·exact x.new c i
  ·rw[Qfq] at i;subst i;exact .inr (x.grow _ j)
 ·rw[←st.len,QQq (Qmq _)]
  simp
open Classical in
def JH(f g:fh):bD:=λh S=>(f h S).bind λ(p,i)=>(g h i).bind λ(r,d)=>if p.2.stays d p.1/\p.1.length=r.1.length then(B9 p.1).bind λj=>some (.ref d.length,d++ [.dct (bp [] (j.zip r.1))]) else none
def MA{Y m P j:Pos}{f g:fh}(hc:X.calm=true)(s:Gl X "dict")(o:X.mg "dict"=none)(G:Gl X "zip")(hm:X.mg "zip"=none)(ha:PE X a (tQ (md X) f))(hb:PE X b (tQ (md X) g))(hs:starEach [a,b] X.env= [(false,eval a X.env),(false,eval b X.env)]:=by rfl)(h:starEach [b] X.env= [(false,eval b X.env)]:=by rfl)
  (he:starEach [Expr.Call (.Name "zip" m) [a,b] [] j] X.env= [(false,eval (Expr.Call (.Name "zip" m) [a,b] [] j) X.env)]:=by rfl):
  PE X (.Call (.Name "dict" Y) [.Call (.Name "zip" m) [a,b] [] j] [] P) (tD (md X) (JH f g)):=j_ (CP hc s o G hm (d0 ha (d0 hb g9 h) (by rw[hs,h])) hs h he) λσ H Q ⟨M,z,S,d,S',ok,e,q⟩=>by
 obtain⟨⟨⟨r,t1⟩,u⟩,R,e⟩:=au e
 obtain⟨⟨⟨k,F⟩,N⟩,I,e⟩:=au e
 dsimp only at e
 split at e
 ·rename_i c
  obtain⟨ks,B,e⟩:=au e
  obtain⟨rfl,rfl⟩:=cD e
  refine⟨M,z,S,r,t1,u,ok,R,λt C J H1 y n K Z=>⟨t,z,u,k,F,N,ok.to y n,I,λa0 b1 W H2 x i h2 w=> ?_⟩⟩
  obtain⟨U,h3,A⟩:=K.to Z x i c.1
  have ek:=AD A B
  subst ek
  have v:=A.length
  rw[lQm] at v
  refine⟨_,_,C,b1,ks,W,rfl,h3.sqB,h2.sqB,by rw[←v,←w.length];exact c.2,λp L=> ?_⟩
  exact N1 (y.trans x) i L (cE.merge (l:= []) (cE.zip w) rfl) q
 ·cases e
def Os:bD:=λ_ S=>some (.ref S.length,S++ [.dct []])
def OM:PE X (.Dict [] [] pos) (tD (md X) Os):=j_ GN λh H Q g=>by
 obtain⟨j,k,S,d,i,ok,e,q⟩:=g
 obtain⟨rfl,rfl⟩:=cD e
 exact λp f=>N1 cB.refl ok.st f (l:= []) (kv:= []) rfl q
def Ld(f g:bD):bD:=λi S=>(f i S).bind λ(x,m)=>(g i m).bind λ(y,h)=>match x with
 | .ref k=>match h[k]? with
   |some (.dct l)=>(wM y).bind λj=>(ik l j).bind λd=>some (d,h)
   |_=>none
 |_=>none
def Pa{f g:bD}(I:X.A.units+1<cLine)(m:PE X a (tD (md X) f))(N:PE X b (tD (md X) g))(hs:I0 b):PE X (.Subscript a b pos) (tD (md X) (Ld f g)):=j_ (Kn I m N hs) λσ H Q M=>by
 obtain⟨z,s,S,d,U,ok,e,q⟩:=M
 obtain⟨⟨x,o⟩,F,e⟩:=au e
 obtain⟨⟨y,B⟩,u,e⟩:=au e
 cases x with
 | ref k=>
   dsimp only at e
   split at e
   · rename_i l hs
     obtain⟨R,t,e⟩:=au e
     obtain⟨W,G,e⟩:=au e
     obtain⟨rfl,rfl⟩:=cD e
     refine⟨z,s,S,_,o,ok,F,λn Y H1 r i j=>⟨n,s,o,y,B,ok.to r i,u,λK Z H2 p h J=> ?_⟩⟩
     cases uq J t
     have j:=j.ext p
     cases j with
     | ref m=>
       obtain⟨kv,w,L⟩:=h.obj k _ _ m hs
       obtain⟨v,P,C⟩:=L.val G
       exact⟨_,v,rfl,by rw[←P];exact Gb.k w,q _ _ _ (r.trans p) h C⟩
   · cases e
 |_=>cases e
def Oc(f g h:bD):cA:=λi S=>(h i S).bind λ(d,o)=>(f i o).bind λ(x,n)=>(g i n).bind λ(y,j)=>match x with
 | .ref k=>match j[k]? with
   |some (.dct l)=>(wM y).bind λm=>if l.length<sizeLine then some (.nx i (j.set k (.dct (putD l m d)))) else none
   |_=>none
 |_=>none
mutual
theorem Rel.offK{M:Md}{ρ:List Addr}{H:Hp}{b:Addr}{g:List (Key×V)}{o:HO}(f:H b=some (.dK g)):∀{d:D} {v:V},Rel M ρ H d v->Rel M ρ (upd H b o) d v
 |_,_,.non=>.non
 |_,_,.bl x=>.bl x
 |_,_,.int i=>.int i
 |_,_,.str x=>.str x
 |_,_,.tup h hs=>.tup (by rw[bt (GH h f (by intro z;cases z))];exact h) (a8.offK f hs)
 |_,_,.ref h=>.ref h
 |_,_,.fn h=>.fn h
theorem a8.offK{M:Md}{ρ:List Addr}{H:Hp}{b:Addr}{f:List (Key×V)}{o:HO}(d:H b=some (.dK f)):∀{ds:List D} {vs:List V},a8 M ρ H ds vs->a8 M ρ (upd H b o) ds vs
 |_,_,.nil=>.nil
 |_,_,.cons h hs=>.cons (Rel.offK d h) (a8.offK d hs)
end
def fY.putKd{M:Md}{ρ:List Addr}{S:aD}{H:Hp}{k:Nat}{a:Addr}{l l':List (Key×D)}{kw:List (Key×V)}(st:fY M ρ S H)(d:ρ[k]?=some a)(f:S[k]?=some (.dct l))(r:cE M ρ H l' kw):fY M ρ (S.set k (.dct l')) (upd H a (.dK kw))/\cB ρ H ρ (upd H a (.dK kw)):=by
 obtain⟨i,g,j⟩:=st.obj k a _ d f
 exact st.put d f ⟨kw,cj,r.imp λ_ _ q=>q.offK g⟩ λx h=>by rw[g] at h;cases h;exact id
def OS{f g h:bD}{i:Pos}{v:Expr}(hu:X.A.units+1<cLine)(p:PE X a (tD (md X) f))(hb:PE X b (tD (md X) g))(W:PE X v (tD (md X) h))(hs:swapsWith v (some (.Subscript a b i)) pos.line X.env=pure false:=by rfl):PS X (.Assign [.Subscript a b i] v pos) (tS (md X) (Oc f g h)):=
 Ew (Jp hu p hb W hs) λD σ H qq=>by
  obtain⟨R,F,S,o,ok,e,q⟩:=qq
  obtain⟨⟨d,I⟩,Y,e⟩:=au e
  obtain⟨⟨x,K⟩,N,e⟩:=au e
  obtain⟨⟨y,U⟩,M,e⟩:=au e
  cases x with
  | ref k=>
    dsimp only at e
    split at e
    · rename_i l hs
      obtain⟨ky,Z,e⟩:=au e
      split at e
      · rename_i hl
        cases e
        refine⟨R,F,S,d,I,ok,Y,λr v1 H1 B m u=>⟨r,F,I,_,K,ok.to B m,N,λz v2 H2 w s t=>⟨z,F,K,y,U,(ok.to B m).to w s,M,λP v3 H3 G j r3=> ?_⟩⟩⟩
        cases uq r3 Z
        have t:=t.ext G
        have u:=u.ext (w.trans G)
        have n:=(B.trans w).trans G
        cases t with
        | ref p=>
          obtain⟨kv,Q,L⟩:=j.obj k _ _ p hs
          obtain⟨C,J⟩:=j.putKd p hs (L.put (k:=ky) u)
          exact⟨_,_,rfl,Gp.k Q (by rw[←L.length];exact hl),q _ _ _ (n.trans J) ((ok.to n j).to J C)⟩
      · cases e
    · cases e
  |_=>cases e
open Classical in
def GR(f:fh)(g:bD):bD:=λh S=>(f h S).bind λ(p,k)=>if p.2.isL=true then(g h k).bind λ(y,d)=>if p.2.stays d p.1 then(xb y).bind λv=>(qA p.1).bind λi=>(pO v i).bind λj=>some (.int (j:Nat),d) else none else none
def OK{f:fh}{g:bD}{o:Expr}{i h:Pos}(ho:PE X o (tQ (md X) f))(ha:PE X e (tD (md X) g))(k:attributeBase o "index" X.env (eval o X.env)=eval o X.env:=by rfl) (n:((backTo h (starEach [e] X.env)).all (λx=> !x.1)&&(backToKw h (keywordEach [] X.env)).all (λx=>x.1.isSome)
   &&decide ([e].length+([]:List Keyword).length+(if ([]:List Keyword).isEmpty then 0 else 1)<30))=true:=by rfl)
  (l:(i.endLine==h.line)=true:=by rfl) (hs:starEach [e] X.env= [(false,eval e X.env)]:=by rfl):PE X (.Call (.Attribute o "index" i) [e] [] h) (tD (md X) (GR f g)):=
 j_ (wb PySem.F.plainAttrs_list PySem.F.slot_list_index PySem.F.type_list_index GJ ho (cR ha iK hs) k n l hs) λσ H Q qq=>by
  obtain⟨N,I,S,d,S',ok,e,q⟩:=qq
  obtain⟨⟨⟨W,t⟩,z⟩,R,e⟩:=au e
  dsimp only at e
  split at e
  ·rename_i B
   obtain⟨⟨y,P⟩,K,e⟩:=au e
   dsimp only at e
   split at e
   ·rename_i M
    obtain⟨v,w,e⟩:=au e
    obtain⟨vs,U,e⟩:=au e
    obtain⟨j,J,e⟩:=au e
    obtain⟨rfl,rfl⟩:=cD e
    refine⟨N,I,S,W,t,z,ok,R,λu a us H1 G p A Y=>⟨.inl ⟨rfl,us,A.sqL B⟩,u,I,z,[y],P,ok.to G p,by simp only[aq,av,K,Qbq],λZ ws H2 C m r=> ?_⟩⟩
    obtain⟨s,h3,r3⟩:=A.to Y C m M
    cases r with
    | cons r L=>
      cases L
      cases mf r w
      obtain⟨rfl,f1⟩:=qz r3 U
      exact⟨a,s,_,j,rfl,rfl,h3.sqL B,pR w,f1,J,q _ _ _ (G.trans C) m (.int _)⟩
   ·cases e
  ·cases e
end
section
variable{X:Cx}{a b c e:Expr}{pos:Pos}{st:Stmt}
def Pv:V->List V->Hp->VK->Prop:=λx g H Q=>∃a b f d,x=.ref a/\g= [.ref b]/\a≠b/\H a=some (.dK f)/\H b=some (.dK d)/\f.length+d.length<=sizeLine/\Q .non (upd H a (.dK (kG f d)))
def FD:OJ X "dict.update" Pv:=by
 intro n s L H x J v K Q I A C h
 obtain⟨a,b,l,f,rfl,rfl,ab,ha,hb,hz,q⟩:=h
 cases A
 obtain⟨u,rfl,ru⟩:=C.one
 cases ru
 obtain⟨z,p,B,g,m⟩:=D1 I.hok ha
 obtain⟨G,k,y,d,j⟩:=D1 I.hok hb
 refine call_meetsIn PySem.F.slot_dict_update m.typeIs PySem.F.entry_dict_update (PySem.F.args_dict_update_2 _ _) (meets_dict_update (bZ X.prog X.w) a b ab k) ⟨B,y,m,j,by rw[←g.length,←d.length];exact hz,λt i _ o=> ?_⟩
 have r:∃q,t.get? a=some q:=let ⟨q,_,_,hq,_⟩:=i;⟨q,hq⟩
 have M:=jz f l
 exact⟨.non,_,uh I (by rw[ha];exact True.intro) o r (v7 (by omega) p (KV.merge d g) i),rfl,q⟩
def Ke(f g:bD):bD:=λi S=>(f i S).bind λ(x,h)=>(g i h).bind λ(y,d)=>match x,y with
 | .ref k,.ref j=>if k≠j then match h[k]?,d[k]?,d[j]? with
   |some (.dct _),some (.dct l),some (.dct m)=>if l.length+m.length<=sizeLine then some (.non,d.set k (.dct (bp l m))) else none
   |_,_,_=>none
   else none
 |_,_=>none
def N4{f g:bD}{o:Expr}{n h:Pos}(ho:PE X o (tD (md X) f))(w:PE X e (tD (md X) g))(p:attributeBase o "update" X.env (eval o X.env)=eval o X.env:=by rfl) (u:((backTo h (starEach [e] X.env)).all (λx=> !x.1)&&(backToKw h (keywordEach [] X.env)).all (λx=>x.1.isSome)
   &&decide ([e].length+([]:List Keyword).length+(if ([]:List Keyword).isEmpty then 0 else 1)<30))=true:=by rfl)
  (r:(n.endLine==h.line)=true:=by rfl) (hs:starEach [e] X.env= [(false,eval e X.env)]:=by rfl):PE X (.Call (.Attribute o "update" n) [e] [] h) (tD (md X) (Ke f g)):=
 j_ (wb PySem.F.plainAttrs_dict PySem.F.slot_dict_update PySem.F.type_dict_update FD ho (cR w iK hs) p u r hs) λσ H Q qq=>by
  obtain⟨ρ,Y,S,d,S',ok,e,q⟩:=qq
  obtain⟨⟨x,C⟩,e1,e⟩:=au e
  obtain⟨⟨y,J⟩,e2,e⟩:=au e
  cases x with
  | ref k=>
    cases y with
    | ref j=>
      dsimp only at e
      split at e
      · rename_i ne
        cases G:C[k]? with
        |none=>rw[G] at e;cases e
        | some o1=>
          rw[G] at e
          cases o1 with
          | dct l0=>
            cases A:J[k]? with
            |none=>rw[A] at e;cases e
            | some o2=>
              rw[A] at e
              cases o2 with
              | dct l=>
                cases M:J[j]? with
                |none=>rw[M] at e;cases e
                | some o3=>
                  rw[M] at e
                  cases o3 with
                  | dct m=>
                    dsimp only at e
                    split at e
                    · rename_i hl
                      obtain⟨rfl,rfl⟩:=cD e
                      refine⟨ρ,Y,S,_,C,ok,e1,λI v H1 U t r1=> ?_⟩
                      cases r1 with
                      | ref w=>
                        rename_i a
                        obtain⟨K,g0,_⟩:=t.obj k a _ w G
                        refine⟨.inr (.inr (.inl ⟨rfl,.inl ⟨K,g0⟩⟩)),I,Y,C,[.ref j],J,ok.to U t,by simp only[aq,av,e2,Qbq],λa0 ws H2 R i L=> ?_⟩
                        cases L with
                        | cons L rr=>
                          cases rr
                          cases L with
                          | ref W=>
                            rename_i b
                            have s:=de R.pre w
                            obtain⟨kv,Z,P⟩:=i.obj k a _ s A
                            obtain⟨kw,g3,N⟩:=i.obj j b _ W M
                            have ab:a≠b:=λz=>by subst z;exact ne (mT i.nd s W)
                            obtain⟨B,x3⟩:=i.putKd s A (cE.merge N P)
                            exact⟨a,b,kv,kw,rfl,rfl,ab,Z,g3,by rw[←P.length,←N.length];exact hl,q _ _ _ ((U.trans R).trans x3) B .non⟩
                    · cases e
                  |_=>cases e
              |_=>cases e
          |_=>cases e
      · cases e
    |_=>cases e
  |_=>cases e
end
end DL
namespace L2
open PySem PySem.Spec PyProof.Rows
section
variable{prog:Program}{w:World}{A:Around}{s:Shared}
def wJ{G F a g:Expr}{q:List Expr}{d:Scope}{pos:Pos}{it:Value}{D:Addr}{env:Env}{R:Result->Shared->Prop}(I:Nat->Shared->Prop)
  (C:∀n s,I n s->wpAny (model prog w) A (pyNext it) (λr e=>match r with
   |none=>R (.ok .next) e
   |some v=>wpAny (model prog w) A (letOwnedTupleGo a it v) (λ_ f=>wpAny (model prog w) A (assign a env v) (λ_ l=>
     wpAny (model prog w) A (forIn q true λc r=>if r=true then do let ok←isTrue c env (eval c env);pure (ForInStep.yield ok) else pure (ForInStep.yield r)) (λok s₃=>
      if ok=true then wpAny (model prog w) A (eval G env) (λx k=>wpAny (model prog w) A (eval F env) (λy i=>
       wpAny (model prog w) A (dictSet D x y) (λ_ j=>∃m,m<n/\I m j) (λ_ _=>False) i) (λ_ _=>False) k) (λ_ _=>False) s₃
      else∃m,m<n/\I m s₃) (λ_ _=>False) l) (λ_ _=>False) f) (λ_ _=>False) e) (λ_ _=>False) s)
  (n:Nat) (h:I n s):codeAny (model prog w) A (.compLoop (.DictComp G F [⟨a,g,q,0⟩] d pos) 0 it (.ref D) env) R s:=by
 refine codeAny_loop rfl I (λn s H=> ?_) n h
 show wpAny _ A ((compTurn (.DictComp G F [⟨a,g,q,0⟩] d pos) 0 it (.ref D) env).onRaise (λx=>do noteFrame x env;theTreesLotGoes x)) _ _ s
 refine wpAny_noted ?_
 rw[compTurn_dict]
 refine Qaq (wpAny_standAt (Qaq (QRq (C n s H) (λr e o=> ?_) λ_ _ b=>b.elim)))
 cases r with
 |none=>exact Qgq o
 | some v=>
   refine Qaq (QRq o (λ_ f p=> ?_) λ_ _ b=>b.elim)
   refine Qaq (QRq p (λ_ l t=>Qaq (QRq t (λok s₃ h₃=> ?_) λ_ _ b=>b.elim)) λ_ _ b=>b.elim)
   cases ok with
   |false=>exact Qgq ⟨rfl,h₃⟩
   | true=>
     exact Qaq (Qaq (QRq h₃ (λx k z=>Qaq (QLq (QRq z (λy i B=>Qaq (wpAny_standAt (QLq (QRq B (λ_ j u=>Qgq ⟨rfl,u⟩) λ_ _ b=>b.elim)))) λ_ _ b=>b.elim))) λ_ _ b=>b.elim))
end
def Le(J:It)(g:TG)(r:TT)(o q:TE)(Q:VK)(D:Addr)(p:St)(H:Hp):Prop:=
 ∃ W:Nat->Nat->St->Hp->Prop,(∃m,W 0 m p H)/\∀i m d e,W i m d e→
   (J.stop i e/\Q (.ref D) e)\/(J.go i e/\∃h:St->Hp->Prop,(∀b f,h b f->∃j,j<m/\W (i+1) j b f)∧
     ∀ x H2,J.yld i e x H2->g x d H2 λa H3=>r a H3 λok H4=>
       if ok=true then o a H4 λk H5=>q a H5 λy n=>∃c l,k=kV l/\n D=some (.dK c)/\c.length<sizeLine/\h a (upd n D (.dK (putK c l y))) else h a H4)
def GX(js:List (Option Nat))(e:TI)(g:TG)(c:TT)(d b:TE):TE:=λa H Q=>e a H λJ H1=>∀D,H1 D=none->Le J g c d b Q D (kb js a) (upd H1 D (.dK []))
def HI{X:Cx}{N:List Str}{js:List (Option Nat)}{a:Scope}{cl:List (Str×Addr)}{tg P kx vx M:Expr}{b0:List Expr}{pos b3:Pos}{wi:TI}{g gt:TG}{tt:TT}{tk tv:TE}
  (S:aI X N js a cl) (hc:X.calm=true) (hi:PI X tg P wi)
  (hg:∀C s H fp,PG (aO X N a cl C s H fp) tg g) (ht:∀C s H fp,pq (aO X N a cl C s H fp) b0 tt) (hk:∀C s H fp,PE (aO X N a cl C s H fp) kx tk) (hv:∀C s H fp,PE (aO X N a cl C s H fp) vx tv) (d9:PG X M gt)
  (hs:∀x,foldedSetIterable P X.env x=pure x:=by intro _;rfl) (e4:swapsWithSole [M] (.DictComp kx vx [⟨tg,P,b0,0⟩] a pos) b3.line X.env=pure true:=by rfl)
  (h1:(assignEach [M] X.env).map (·.2)= [assign M X.env]:=by rfl):PS X (.Assign [M] (.DictComp kx vx [⟨tg,P,b0,0⟩] a pos) b3) (Fc (GX js wi g tt tk tv) gt):=by
 intro Z s σ H Dn I h
 rw[exec_Assign_arm]
 refine Qaq (wpAny_standAt (Qaq (wpAny_of_eq e4 (wpAny_ite_true rfl (Qaq ?_)))))
 rw[h1]
 show wpAny _ _ (do let _←comprehension _ _ _ _ _ _ _ (some λv=>assignAll v [assign M X.env]);pure ()) _ _ _
 refine Qaq ?_
 refine wpAny_comprehension_free (use:=some λv=>assignAll v [assign M X.env]) rfl hs S.clos S.kind S.names (cX (hi Z s σ H _ I h) λv s1 h1=>cX h1 λe7 t h2=> ?_)
 obtain⟨it,fp,tn,J,H2,e,F,T,b5,f2,hD⟩:=h2
 subst e
 refine QhQ (wpAny_newFunctionEnv S.nocell (by intro y hy;simp at hy) (λR K B=> ?_) S.kind)
 dsimp only at K B⊢
 generalize a5:t.heap.push {cls:=.type "dict",data:=.dict #[]}=P2 at K B⊢
 have hC:P2.objs.size=t.heap.objs.size+1:=by rw[←a5,Heap.size_push]
 have b6:t.heap.objs.size≠P2.objs.size:=by rw[hC];exact Qwq (Nat.lt_succ_self _)
 have a3:t.heap.objs.size<=P2.objs.size:=by rw[hC];exact Nat.le_succ _
 have L:∀b,b<t.heap.objs.size->b≠P2.objs.size:=λb f=>by rw[hC];exact Qwq (Nat.lt_succ_of_lt f)
 have a0:∀b o,t.heap.get? b=some o->R.get? b=some o:=λb o e=>B.extBut b o (L b (Qiq e)) (Qcq _ (a5▸Qcq _ e))
 have e5:R.get? t.heap.objs.size=some {cls:=.type "dict",data:=.dict #[]}:=B.extBut _ _ b6 (Qcq _ (a5▸Qrq _ rfl))
 have nD:H2 t.heap.objs.size=none:=F.fresh
 have nC:H2 P2.objs.size=none:=F.hok.fresh a3
 have b7:∀b∈fp,b<t.heap.objs.size:=λb f=>by
  obtain⟨o,e,_⟩:=T.obj _ _ b5 b f
  exact Qiq e
 obtain⟨W,⟨m0,w0⟩,c8⟩:=hD t.heap.objs.size nD
 have d1:(aO X N a cl P2.objs.size t H2 fp).Ok:=by
  refine⟨F.ok.mod,S.kind,F.ok.glob,F.ok.blt,a3,λx y c h1 h2=>F.ok.inj x y c (S.sub x c h1) (S.sub y c h2),S.has,(λx c h=>by cases h),F.ok.hd,F.ok.frames,.inl rfl,
   λb f=>⟨L b (b7 b f),λx c h=>(f2 b f).2.2.2.2.1 x c (S.sub x c h)⟩,F.bs,QAq F.ok.bsz F.sz,λb o e f=> ?_,λb f z=> ?_,F.stack,F.stkFree⟩
  ·rcases(f2 b f).2.2.2.1 with z|z
   ·exact F.ok.noex b o e z
   ·exact absurd (Qqq (Qqq (Qiq e) F.ok.bsz) z) (Nat.lt_irrefl _)
  ·rcases Qsq.mp (F.stkSub b z) with q|q
   ·exact(f2 b f).2.1 q
   ·exact(f2 b f).2.2.1 q
 have c6:dh X.prog X.w (upd H2 t.heap.objs.size (.dK [])) R t.heap.objs.size (.dK []):=by
  obtain⟨o,es,ep,e1,e2⟩:=Heap.DictOf.new (knd:=bZ X.prog X.w) t.heap
  exact v7 (Nat.zero_le _) (beq_eq_false_iff_ne.mpr (Ne.symm (Qwq F.big))) .nil ⟨o,es,ep,B.extBut _ _ b6 (Qcq _ (a5▸e1)),e2⟩
 have I4:Inv (aO X N a cl P2.objs.size t H2 fp) [] (kb js σ) (upd H2 t.heap.objs.size (.dK [])) {t with heap:=R,toks:=t.toks+([]:List (Str×Value)).length}:=by
  refine⟨d1,rfl,F.bare,Un.laid a0 (Qmq _) nD,⟨_,K,λi x v h1 h2 h3=> ?_⟩,λx c h=> ?_,by show upd H2 _ _ P2.objs.size=none;rw[bt b6.symm];exact nC,λx c h=> ?_,λp hp=>absurd (show p∈([]:List (Addr×Obj)) from hp) (by simp),F.hok.laid a0 (Qmq _) c6,by show(kb js σ).length=N.length;unfold kb;rw[lQm];exact S.len⟩
  ·unfold kb at h2
   rw[gQm] at h2
   cases e:js[i]? with
   |none=>rw[e] at h2;cases h2
   | some o=>
     rw[e] at h2
     cases o with
     |none=>cases h2
     | some j=>
       have a4:σ.getD j none=some v:=QdQ h2
       have hj:σ[j]?=some (some v):=by
         rw[Qlq] at a4
         cases q:σ[j]? with
         |none=>rw[q] at a4;cases a4
         |some y=>rw[q] at a4;exact congrArg some a4
       obtain⟨c1,c2,c3⟩:=S.cap i j x e h1
       obtain⟨m,hn,hl⟩:=F.loc
       have e0:KD X.env.scope x:=by
         rcases c2 with z|z
         · exact .inr (.inl z)
         · exact .inr (.inr z)
       obtain⟨u,r,l⟩:=hl j x v c1 hj e0
       refine⟨u,r,.inr ⟨c3,?_⟩⟩
       obtain⟨c,c5⟩:=S.has x c3
       refine⟨c,c5,?_⟩
       rcases l with⟨z,_⟩|⟨_,c',e',z⟩
       · rcases c2 with y|y <;>rw[y] at z <;>cases z
       · rw[S.sub x c c5] at e'
         cases e'
         obtain⟨o,ho,hd⟩:=z
         exact⟨o,a0 _ _ ho,hd⟩
  ·obtain⟨v,o,ho,hd⟩:=F.cell x c (S.sub x c h)
   exact⟨v,o,a0 _ _ ho,hd⟩
  ·obtain⟨v,o,ho,hd⟩:=F.cell x c (S.sub x c h)
   rw[bt (Qwq (Qiq ho))]
   exact F.freeC x c (S.sub x c h)
 have a1:∀{Y:List (Addr×Obj)} {H':Hp},Y= []->(∀b∈fp,H' b=none)->∀b∈fp,qS (aO X N a cl P2.objs.size t H2 fp) Y H' b:=λ{Y H'} ep hn b f=>by
  subst ep
  refine⟨hn b f,L b (b7 b f),λz=>d1.exfs b f z,.inl f,λx c h=>(f2 b f).2.2.2.2.1 x c (S.sub x c h),λp hp=>absurd (show p∈([]:List (Addr×Obj)) from hp) (by simp)⟩
 have b2:codeAny (model X.prog X.w) X.A (.compLoop (.DictComp kx vx [⟨tg,P,b0,0⟩] a pos) 0 (.ref it) (.ref t.heap.objs.size) (compEnvC a cl P2.objs.size X.env))
   (compPost (model X.prog X.w) X.A X.xe (some λv=>assignAll v [assign M X.env]) (λ_ s9=>wpAny (model X.prog X.w) X.A (pure ()) (λ_ e3=>wpAny (model X.prog X.w) X.A (pure Flow.next) (SP X Z Dn) X.xe e3) X.xe s9) (.ref t.heap.objs.size) P2.objs.size) {t with heap:=R,toks:=t.toks+([]:List (Str×Value)).length}:=by
  refine wJ (λn s'=>∃i a2 H',Inv (aO X N a cl P2.objs.size t H2 fp) [] a2 H' s'/\tn i s'.heap/\(∀b∈fp,H' b=none)/\W i n a2 H') ?_ m0
   ⟨0,_,_,I4,T.keep _ _ _ b5 λb _ o e=>a0 b o e,λb f=>by rw[bt (Qwq (b7 b f))];exact(f2 b f).1,w0⟩
  rintro n s3 ⟨i,b1,H3,I3,c0,d3,w3⟩
  rcases c8 i n b1 H3 w3 with⟨stop,q⟩|⟨go,Nx,hN,b8⟩
  ·refine cX (T.done (aO X N a cl P2.objs.size t H2 fp) rfl rfl rfl hc i [] s3 b1 H3 _ I3 (a1 rfl d3) c0 stop) λr s4 U=> ?_
   obtain⟨hr,I5⟩:=U
   subst hr
   obtain⟨m,hn,_⟩:=id I5.loc
   have d8:∀h',Heap.SameBut P2.objs.size s4.heap h'->Inv X Z σ H3 {s4 with heap:=h'}:=by
    intro h' Q
    have u:=I5.base
    have ne:∀b o,t.heap.get? b=some o->b≠P2.objs.size:=λb o e=>L b (Qiq e)
    refine F.call' (ch:=fp) I5.os ⟨λb o e n f hx=>(Q.2 b (ne b o e)).trans (u.keep b o e n f hx),λb o e n f hx=> ?_,u.free,λb o e hx=> ?_,u.tups,u.frzs,u.tbls⟩ (λb ob e=> ?_) I5.bare λb f=>⟨(f2 b f).2.2.2.1,(f2 b f).2.1,(f2 b f).2.2.2.2.1,(f2 b f).2.2.2.2.2⟩
    ·obtain⟨sl,e1⟩:=u.slot b o e n f hx
     exact⟨sl,(Q.2 b (ne b o e)).trans e1⟩
    ·obtain⟨o',e1⟩:=u.there b o e hx
     exact⟨o',(Q.2 b (ne b o e)).trans e1⟩
    ·refine(I5.hok b ob e).stay (λc w' hc q=>(Q.2 c ?_).trans q) (λ_ q=>q) λ_ _ q=>q
     have fC:H3 P2.objs.size=none:=I5.free
     rintro rfl
     rcases hc with z|z
     ·rw[←z,fC] at e;cases e
     ·rw[fC] at z;cases z
   have IX:=d8 s4.heap ⟨rfl,λ_ _=>rfl⟩
   have a6:qS X Z H3 P2.objs.size:=F.fpOk a3 I5.free
   obtain⟨oC,es,ep,c4,wy,d5⟩:=hn
   have IP:=IX.pinned (fp:= [P2.objs.size]) (λb f=>by rw[Qfq] at f;rw[f];exact a6) (λb f=>by rw[Qfq] at f;rw[f];exact⟨oC,c4,λv=>by rw[wy];simp⟩)
   show wpAny _ _ (assignAll (.ref t.heap.objs.size) [assign M X.env]) _ _ _
   rw[assignAll.eq_2]
   refine cX (d9 _ s4 σ H3 (.ref t.heap.objs.size) (.ref t.heap.objs.size) _ IP rfl q) λ_ s6 U=> ?_
   obtain⟨G,H6,I6,q6⟩:=U
   have pC:=I6.pin (P2.objs.size,oC) (Qoq _ (Qoq _ (dA (Qfq.mpr rfl) c4)))
   refine⟨m,⟨oC,es,ep,pC.1,wy,d5⟩,λh' Q=>Qgq (Qgq ⟨G,H6,?_,q6⟩)⟩
   exact I6.unpinned.turned (it:=P2.objs.size) (t':=s6.toks) (λb o' f e=>(Q.2 b f).trans e) pC.2.1 pC.2.2.1 a6.2.2.2.1 a6.2.2.2.2.1 a6.2.2.2.2.2
  ·refine cX (T.item (aO X N a cl P2.objs.size t H2 fp) rfl rfl rfl hc i [] s3 b1 H3 _ I3 (a1 rfl d3) c0 go) λr s4 U=> ?_
   obtain⟨u,hr,h4⟩:=U
   subst hr
   refine cX h4 λ_ s5 U=> ?_
   obtain⟨x,H5,I5,r5,y5,b4,d6⟩:=U
   have d4:=I5.pinned (a1 rfl d6) (T.obj _ _ b4)
   refine cX (hg P2.objs.size t H2 fp _ s5 b1 H5 x u _ d4 r5 (b8 x H5 y5)) λ_ s6 U=> ?_
   obtain⟨G,H6,I6,q6⟩:=U
   refine cX (ht P2.objs.size t H2 fp _ s6 G H6 _ I6 q6) λok s7 U=> ?_
   obtain⟨H7,I7,q7⟩:=U
   have again:∀{s8:Shared} {H8:Hp},Inv (aO X N a cl P2.objs.size t H2 fp) ([]++n_ fp s5.heap) G H8 s8->Nx G H8->∃m,m<n/\∃i a2 H',Inv (aO X N a cl P2.objs.size t H2 fp) [] a2 H' s8/\tn i s8.heap/\(∀b∈fp,H' b=none)/\W i m a2 H':=λ{s8 H8} I8 n8=>by
    obtain⟨m',hm,w8⟩:=hN G H8 n8
    refine⟨m',hm,i+1,G,H8,I8.unpinned,T.keep _ _ _ b4 λb f o e=>(I8.pin (b,o) (Qoq _ (Qoq _ (dA f e)))).1,λb f=> ?_,w8⟩
    obtain⟨o,e,d⟩:=T.obj _ _ b4 b f
    exact(I8.pin (b,o) (Qoq _ (Qoq _ (dA f e)))).2.1
   cases ok with
   |false=>exact again I7 q7
   | true=>
     refine cX (hk P2.objs.size t H2 fp _ s7 G H7 _ I7 q7) λkv s8 U=> ?_
     obtain⟨k,H8,I8,rk,q8⟩:=U
     refine cX (hv P2.objs.size t H2 fp _ s8 G H8 _ I8 q8) λyv s9 U=> ?_
     obtain⟨y,H9,I9,ry,d7,ky,ek,hx,hl,n9⟩:=U
     subst ek
     obtain⟨z,hd,vs,b9,dd⟩:=D1 I9.hok hx
     refine wpAny_dictSet_pairs (Ay rk) dd (λh' d2 Q=> ?_) (by rw[←b9.length];exact z)
     have he:∃q,h'.get? t.heap.objs.size=some q:=let ⟨q,_,_,hq,_⟩:=d2;⟨q,hq⟩
     have e6:=jo d7 ky y
     exact again (uh I9 (by rw[hx];exact True.intro) Q he (v7 (by omega) hd (b9.put ky ry) d2)) n9
 exact codeAny_compStart_dict b2 (T.self _ 0 _ _ _ (T.keep _ _ _ b5 λb _ o e=>a0 b o e) b2)
end L2
namespace DL
open PySem PySem.Spec PyProof.Rows L2
section
variable{M:Md}{ρ:List Addr}{H:Hp}{b:Addr}{us:List (Key×V)}{o:HO}
theorem fY.offK{S:aD}(st:fY M ρ S H)(f:H b=some (.dK us))(n:b∉ρ):fY M ρ S (upd H b o):=⟨st.len,st.nd,λk a p h m=>by
 have q:=st.obj k a p h m
 have g:a≠b:=λz=>n (z▸mQg h)
 cases p with
 |lst i=>obtain⟨e,d,c⟩:=q;exact⟨e,by rw[bt g];exact d,c.offK f⟩
 |frz i=>obtain⟨e,o,d,c⟩:=q;exact⟨e,o,by rw[bt g];exact d,c.offK f⟩
 |dct l=>obtain⟨j,d,c⟩:=q;exact⟨j,by rw[bt g];exact d,c.imp λ_ _ r=>r.offK f⟩⟩
def En.offK{c:cy}{a:L2.St}(h:En M ρ H c a)(g:H b=some (.dK us)):En M ρ (upd H b o) c a:=⟨h.len,λi d q=>by obtain⟨v,e,f⟩:=h.get i d q;exact⟨v,e,f.offK g⟩⟩
end
open Classical in
def jC(g:ni)(t:jE)(b c:bD)(W:aD->Prop):List D->cy->aD->List (Key×D)->Option (List (Key×D)×aD)
 | [],Γ,S,acc=>if W S then some (acc,S) else none
 |d ::ds,Γ,S,acc=>if W S then(g d Γ S).bind λ(a,j)=>(t a j).bind λ(k,e)=>
    if k=true then(b a e).bind λ(x,h)=>(c a h).bind λ(y,f)=>(wM x).bind λi=>if acc.length<sizeLine then jC g t b c W ds a f (putD acc i y) else none
    else jC g t b c W ds a e acc
  else none
def rC(js:List (Option Nat))(i:yd)(g:ni)(t:jE)(b d:bD):cy->aD->Option (List (Key×D)×aD):=λa S=>(i a S).bind λ(p,c)=>jC g t b d p.2 p.1 (pk js a) c []
def JD{M:Md}{js:List (Option Nat)}{i:yd}{g:ni}{t:jE}{fk fv:bD}{σ:L2.St}{H:Hp}{Q:VK}{ρ:List Addr}{Γ:cy}{S S':aD}{l:List (Key×D)}(ok:Ok M ρ Γ S σ H)(e:rC js i g t fk fv Γ S=some (l,S'))
  (q:∀b a kv f,cB ρ H b f->fY M b S' f->H a=none->a∉b->f a=some (.dK kv)->cE M b f l kv->Q (.ref a) f):GX js (tI M i) (tG M g) (tB M t) (tD M fk) (tD M fv) σ H Q:=by
 obtain⟨⟨⟨j,W⟩,S1⟩,e1,e⟩:=au e
 refine⟨ρ,Γ,S,j,W,S1,ok,e1,λp J H1 x1 Y wk D R=> ?_⟩
 have n1:D∉p:=dZ x1 Y R
 have b0:Ok M p (pk js Γ) S1 (kb js σ) (upd H1 D (.dK [])):=⟨((ok.en.ext x1).ext (cB.laid R)).sig js,Y.lay R⟩
 refine⟨λi m s f=>m=j.length-i/\i<=j.length/\∃c C U d n,cB p H1 c f/\Ok M c C U s f/\D∉c/\f D=some (.dK n)/\cE M c f d n/\jC g t fk fv W (j.drop i) C U d=some (l,S'),
  ⟨j.length,by simp,Nat.zero_le _,p,_,S1,[],[],cB.laid R,b0,n1,cj,rfl,e⟩,?_⟩
 rintro i m b6 H2 ⟨rfl,hi,c,C,U,d,n,x2,ok2,n2,hD2,racc,e2⟩
 by_cases P:i<j.length
 ·have hd:j[i]?=some j[i]:=gQe P
  rw[QWq P] at e2
  unfold jC at e2
  split at e2
  ·rename_i w
   obtain⟨w1,w2⟩:=wk i c U H2 x2 ok2.st w
   obtain⟨go,a0⟩:=w1 _ hd
   refine .inr ⟨go,λs f=>∃b F A d n,cB p H1 b f/\Ok M b F A s f/\D∉b/\f D=some (.dK n)/\cE M b f d n/\jC g t fk fv W (j.drop (i+1)) F A d=some (l,S'),
    λs f ⟨b,F,A,d,n,h1,h2,h3,h4,h5,h6⟩=>⟨j.length-(i+1),by omega,rfl,P,b,F,A,d,n,h1,h2,h3,h4,h5,h6⟩,λx H3 hy=> ?_⟩
   obtain⟨x3,a4,r3⟩:=a0 x H3 hy
   obtain⟨⟨h,S4⟩,e4,e5⟩:=au e2
   refine⟨c,C,U,_,h,S4,ok2.to x3 a4,r3,e4,λa2 b5 H4 x4 o=> ?_⟩
   obtain⟨⟨k,S5⟩,e6,e7⟩:=au e5
   refine⟨a2,h,S4,k,S5,o,e6,λZ H5 X K=> ?_⟩
   have u:=(x3.trans x4).trans X
   have G:∀{b f},cB c H2 b f->f D=some (.dK n)/\D∉b:=λ{b f} x=>⟨x.keep _ _ hD2 (.inl n2),λm=>(x.new _ m).elim n2 λz=>by rw[z] at hD2;cases hD2⟩
   dsimp only at e7⊢
   split at e7
   ·rename_i ck
    rw[Qhq ck]
    obtain⟨⟨kx,S6⟩,e8,e9⟩:=au e7
    obtain⟨⟨y,S7⟩,a3,a6⟩:=au e9
    obtain⟨kk,a5,L⟩:=au a6
    refine⟨Z,h,S5,kx,S6,o.to X K,e8,λb4 kv H6 x6 b1 r6=>⟨b4,h,S6,y,S7,(o.to X K).to x6 b1,a3,λb3 v H7 x7 a1 r7=> ?_⟩⟩
    have N:=(u.trans x6).trans x7
    obtain⟨B,n7⟩:=G N
    have I:=racc.ext' N
    split at L
    ·rename_i cl
     refine⟨n,kk,uq r6 a5,B,by rw[←racc.length];exact cl,b3,h,S7,putD d kk y,_,(x2.trans N).off R _,⟨(((o.en.ext X).ext x6).ext x7).offK B,a1.offK B n7⟩,n7,cj,(I.put r7).imp λ_ _ r=>r.offK B,L⟩
    ·cases L
   ·rename_i ck
    rw[Quq ck]
    obtain⟨b2,n5⟩:=G u
    exact⟨Z,h,S5,d,n,x2.trans u,o.to X K,n5,b2,racc.ext' u,e7⟩
  ·cases e2
 ·have e3:i=j.length:=by omega
  subst e3
  rw[List.drop_length] at e2
  unfold jC at e2
  split at e2
  ·rename_i w
   obtain⟨rfl,rfl⟩:=cD e2
   obtain⟨w1,w2⟩:=wk j.length c U H2 x2 ok2.st w
   exact .inl ⟨w2 rfl,q c D n H2 (x1.trans x2) ok2.st (x1.grow _ R) n2 hD2 racc⟩
  ·cases e2
def Ni(n:Nat)(f:cy->aD->Option (List (Key×D)×aD)):cA:=λb S=>(f b S).bind λ(l,a)=>some (.nx (b.set n (some (.ref a.length))) (a++ [.dct l]))
section
variable{X:Cx}{pos:Pos}
def J1{N:List Str}{js:List (Option Nat)}{c:Scope}{p:List (Str×Addr)}{tg d w r f:Expr}{k:List Expr}{i:yd}{g:ni}{t:jE}{z F:bD}{n:Nat}{h:Pos}
  (S:aI X N js c p) (hc:X.calm=true) (hi:PI X tg d (tI (md X) i))
  (J:∀C s H fp,PG (aO X N c p C s H fp) tg (tG (md X) g)) (ht:∀C s H fp,pq (aO X N c p C s H fp) k (tB (md X) t)) (I:∀C s H fp,PE (aO X N c p C s H fp) w (tD (md X) z)) (P:∀C s H fp,PE (aO X N c p C s H fp) r (tD (md X) F)) (y:PG X f (qe n))
  (hs:∀x,foldedSetIterable d X.env x=pure x:=by intro _;rfl) (v:swapsWithSole [f] (.DictComp w r [⟨tg,d,k,0⟩] c pos) h.line X.env=pure true:=by rfl)
  (K:(assignEach [f] X.env).map (·.2)= [assign f X.env]:=by rfl):PS X (.Assign [f] (.DictComp w r [⟨tg,d,k,0⟩] c pos) h) (tS (md X) (Ni n (rC js i g t z F))):=
 Ew (HI S hc hi J ht I P y hs v K) λD σ H Y=>by
  obtain⟨M,Γ,S,o,ok,e,q⟩:=Y
  obtain⟨⟨l,S1⟩,Q,e⟩:=au e
  cases e
  refine JD ok Q λj a U G x A L R W Z=> ?_
  have u:=A.box (o:=.dct l) R ⟨U,W,Z.pre' (List.prefix_append j [a])⟩
  have B:cB M H (j++ [a]) G:=⟨x.pre.trans (List.prefix_append _ _),λb m=>by
   rcases mQa.mp m with m|m
   ·exact x.new b m
   ·rw[Qfq] at m;subst m;exact .inr L,x.keep,x.grow⟩
  refine q (j++ [a]) _ G B ⟨((ok.en.ext B).set (.ref ?_)),u⟩
  rw[←A.len,QQq (Qmq _)]
  simp
end
end DL
namespace Zp
open PySem PySem.W PyProof.Rows
def jI(a:Nat->Nat->Bool):KasT (Array Nat)->Array Nat
 |.ret p=>p
 |.ask i j k=>jI a (k (a i j))
theorem iY(a:Nat->Nat->Bool):∀t:KasT (Array Nat),jI a t∈rS t
 |.ret p=>by simp[jI,rS]
 | .ask i j k=>by
   unfold jI rS
   cases a i j with
   |true=>exact List.mem_append_left _ (iY a (k true))
   |false=>exact Qoq _ (iY a (k false))
theorem zc{a:Nat->Nat->(Bool->Shared->Prop)->Shared->Prop}{Q:Array Nat->Shared->Prop}{s:Shared}{n:Nat}{b:Nat->Nat->Bool}(c:∀i j C,i<n->j<n->i≠j->C (b i j) s->a i j C s):
  ∀t:KasT (Array Nat),vc n t=true->Q (jI b t) s->t.kasWp a Q s
 |.ret p,_,h=>h
 | .ask i j k,ha,h=>by
   simp only[vc,QCq,decide_eq_true_eq] at ha
   obtain⟨⟨⟨⟨d,f⟩,m⟩,l⟩,g⟩:=ha
   refine c i j _ d f m ?_
   cases e:b i j with
   |true=>exact zc c (k true) l (by unfold jI at h;rw[e] at h;exact h)
   |false=>exact zc c (k false) g (by unfold jI at h;rw[e] at h;exact h)
def Mv(fs:List Str)(i j:Nat):Bool:=decide ((fs.getD i "").cps.toList<(fs.getD j "").cps.toList)
def sortBy{α:Type}(fs:List Str)(d:α)(xs:List α):List α:=if xs.length<2 then xs else(jI (Mv fs) (kas_sort xs.length)).toList.map λi=>xs.getD i d
def eT{α:Type}{d:α}(fs:List Str)(xs:List α)(h:xs.length<=3):(sortBy fs d xs).Perm xs:=by
 unfold sortBy
 split
 ·exact List.Perm.refl _
 ·rename_i b
  obtain⟨_,a⟩:=uo xs.length h (by omega)
  have c:(jI (Mv fs) (kas_sort xs.length)).toList.Perm (List.range xs.length):=List.isPerm_iff.mp (QUq.mp a _ (iY _ _))
  have e:(List.range xs.length).map (λi=>xs.getD i d)=xs:=by
   apply List.ext_getElem
   ·simp
   ·intro i f b
    simp[Qlq,b]
  have:=c.map λi=>xs.getD i d
  rw[e] at this
  exact this
section
variable{prog:Program}{w:World}{A:Around}{E:Value->Shared->Prop}{s:Shared}
def CI{a:Addr}{vs:List Value}{fs:List Str}{n:Nat}{P:PySem.Fin->Shared->Prop}(I:s.heap.get? a=some (seqObj "list" vs.toArray n))(h3:vs.length<=3)(ht:eR s.heap vs fs)(hd:fs.Nodup)
  (q:∀J:Array Value,J.toList=sortBy fs Value.none vs->P (.done (.ret .none)) {s with heap:=sortedHeap s.heap a vs J}):wpAny (model prog w) A (Builtin.«list.sort» ⟨[.ref a],[]⟩) P E s:=by
 rw[list_sort_plain]
 have ha:a<s.heap.objs.size:=Qiq I
 refine Qaq (listItems_at I rfl (Qaq (listUpdate_at I rfl ?_ (by rw[Qjq,sizeLine_eq];omega) (Nat.zero_le _))))
 obtain⟨U,K⟩:∃U,(s.heap.update a (Obj.mapSeq λ_=> #[])).get? a=some (seqObj "list" #[] U):=⟨_,get?_update_seq I (λ_=> #[])⟩
 refine Qaq (seqEpoch_at K rfl (Qaq (wpAny_newTuple ?_ (by show vs.length<=_;rw[sizeLine_eq];omega))))
 refine Qaq (wpAny_newList (QLq ?_) (Nat.zero_le _))
 have g:(((s.heap.update a (Obj.mapSeq λ_=> #[])).push (seqObj "tuple" vs.toArray 0)).push (seqObj "list" #[] 0)).get? a=some (seqObj "list" #[] U):=Qcq _ (Qcq _ K)
 have m:eR (((s.heap.update a (Obj.mapSeq λ_=> #[])).push (seqObj "tuple" vs.toArray 0)).push (seqObj "list" #[] 0)) vs fs:=ht.keep λb o e c=>by
  have nb:b≠a:=λz=>by rw[z,I] at e;cases e;simp[seqObj] at c
  exact Qcq _ (Qcq _ (by rw[Heap.get?_update_ne _ _ _ _ nb];exact e))
 refine(?_:wpAny (model prog w) A _ P E {s with heap:=((s.heap.update a (Obj.mapSeq λ_=> #[])).push (seqObj "tuple" vs.toArray 0)).push (seqObj "list" #[] 0)})
 dsimp only
 by_cases F:vs.toArray.size<2
 ·rw[Qhq F,Qhq F]
  refine Qaq (Qgq ?_)
  rw[StateT.run_pure]
  refine Qaq (Qgq ?_)
  dsimp only
  have e2:((vs.toArray.zip vs.toArray).map (·.2))=vs.toArray:=by
   apply Array.toList_inj.mp
   simp
   exact List.map_snd_zip (Qmq _)
  refine Qaq (seqEpoch_at g rfl (Qaq (listUpdate_at g rfl ?_ (hsz2:=by
   refine QAq (Nat.le_of_eq (congrArg Array.size e2)) ?_
   rw[Qjq,sizeLine_eq]
   omega))))
  simp only[bne_self_eq_false,Bool.false_eq_true,if_false]
  refine Qgq ?_
  have:=q vs.toArray (by unfold sortBy;rw[Qhq (by simpa using F)])
  rw[←e2] at this
  exact this
 ·rw[Quq F,Quq F]
  have Z:2<=vs.length:=by simpa using F
  obtain⟨gs,kt,lg,mg⟩:=m.firsts
  have lf:=ht.len
  refine Qaq (kat_kind (T:=.type "str") kt (by omega) (λv hv=> ?_) rfl ?_)
  ·obtain⟨x,t,rfl⟩:=mg v hv
   exact .now
  obtain⟨ok,perm⟩:=uo vs.length h3 Z
  have R:SortSt.mk' (tuples' true) (vs.toArray.zip vs.toArray) #[] 7 none=kas_st (tuples' true) (pairsOf vs) (List.toArray (List.range vs.length)):=by
   have e:=kas_range (pairsOf vs)
   rw[pairsOf_size] at e
   refine(?_:SortSt.mk' (tuples' true) (pairsOf vs) #[] 7 none=SortSt.mk' (tuples' true) ((List.toArray (List.range vs.length)).map (kas_item (pairsOf vs))) #[] 7 none)
   rw[e]
  refine(?_:wpAny (model prog w) A (StateT.run sortRuns' (SortSt.mk' (tuples' true) (vs.toArray.zip vs.toArray) #[] 7 none) >>= _) P E _)
  rw[R]
  have W:=kas_runs (prog:=prog) (w:=w) (A:=A) (E:=E) (κ:=tuples' true) (it:=pairsOf vs) (n:=vs.length)
   (s:={s with heap:=((s.heap.update a (Obj.mapSeq λ_=> #[])).push (seqObj "tuple" vs.toArray 0)).push (seqObj "list" #[] 0)})
   (G:=λp H=>p=jI (Mv fs) (kas_sort vs.length)/\H={s with heap:=((s.heap.update a (Obj.mapSeq λ_=> #[])).push (seqObj "tuple" vs.toArray 0)).push (seqObj "list" #[] 0)})
   (Q:=λ_ f H=>H={s with heap:=((s.heap.update a (Obj.mapSeq λ_=> #[])).push (seqObj "tuple" vs.toArray 0)).push (seqObj "list" #[] 0)}/\failedOf f=none/\∃p,p=jI (Mv fs) (kas_sort vs.length)/\arrOf f=p.map (kas_item (pairsOf vs)))
   Z (by omega) (λp' f H a1 a2 a3 a4=>⟨a4.2,a3,p',a4.1,a2⟩) (zc (n:=vs.length) (λi j C hi hj S hC=> ?_) _ ok ⟨rfl,rfl⟩)
  ·refine Qaq (QRq W ?_ λ_ _ e=>e)
   rintro⟨⟨⟩,f⟩ H ⟨rfl,hf,p,hp,har⟩
   dsimp only
   have l:((arrOf f).map (·.2)).toList=sortBy fs Value.none vs:=by
    unfold sortBy
    rw[Quq (by omega),har,Array.map_map,Array.toList_map,hp]
    refine List.map_congr_left λk _=> ?_
    show(kas_item (pairsOf vs) k).2=_
    rw[kas_item_eq]
   have h:=eT (d:=Value.none) fs vs h3
   have L:((arrOf f).map (·.2)).size=vs.length:=by
    have:=congrArg List.length l
    rw[h.length_eq] at this
    simpa using this
   refine Qaq (seqEpoch_at g rfl (Qaq (listUpdate_at g rfl ?_ (hsz2:=by
    refine QAq (Nat.le_of_eq L) ?_
    rw[sizeLine_eq]
    omega))))
   rw[hf]
   simp only[bne_self_eq_false,Bool.false_eq_true,if_false]
   exact Qgq (q _ l)
  ·unfold kas_cmp
   rw[kas_item_eq,kas_item_eq]
   obtain⟨x,ox,xs,nx,tx,ex,gx,dx,fx⟩:=m.get (i:=i) (by omega)
   obtain⟨y,oy,ys,ny,ty,ey,gy,dy,fy⟩:=m.get (i:=j) (by omega)
   dsimp only
   rw[ex,ey]
   have Y:¬fs.getD i ""=fs.getD j "":=λz=>by
    have B:i<fs.length:=by omega
    have u:j<fs.length:=by omega
    rw[Qlq,Qlq,gQe B,gQe u] at z
    have z':fs[i]=fs[j]:=z
    rcases Nat.lt_or_gt_of_ne S with M|M
    ·exact List.pairwise_iff_getElem.mp hd i j B u M z'
    ·exact List.pairwise_iff_getElem.mp hd j i u B M z'.symm
   refine kat_lt gx dx gy dy ?_
   obtain⟨xr,N⟩:∃r,xs.toList=.str (fs.getD i "") tx::r:=by
    cases e:xs.toList with
    |nil=>have:=congrArg (·[0]?) e;simp[fx] at this
    |cons v r=>have:=congrArg (·[0]?) e;simp[fx] at this;exact⟨r,by rw[Qlq,this]⟩
   obtain⟨yr,X⟩:∃r,ys.toList=.str (fs.getD j "") ty::r:=by
    cases e:ys.toList with
    |nil=>have:=congrArg (·[0]?) e;simp[fy] at this
    |cons v r=>have:=congrArg (·[0]?) e;simp[fy] at this;exact⟨r,by rw[Qlq,this]⟩
   rw[N,X,List.zip_cons_cons]
   refine kat_cons (wpAny_eqBool_str ?_)
   rw[Qdq Y]
   exact kat_no (oneLt_str hC)
def yg{l:Addr}{vs:List Value}{fs:List Str}{Q:Value->Shared->Prop}(j:s.heap.IsList l vs.toArray)(i:vs.length<=3)(ht:eR s.heap vs fs)(hd:fs.Nodup)
  (q:∀a:Array Value,a.toList=sortBy fs Value.none vs->Q (.ref (s.heap.objs.size+1)) {s with heap:=sortedAll s.heap vs a}):wpAny (model prog w) A (call (.builtin "sorted") [.ref l]) Q E s:=by
 refine Calls.call_function_entry kind_sorted plain_sorted entry_sorted (args_sorted1 _) ?_
 unfold Builtin.«sorted»
 refine Qaq (m:=checkCount "sorted" 1 1 _) (Qgq (Qaq (collect_list j (Qaq (wpAny_newList ?_ (by rw[sizeLine_eq];omega))) (by rw[sizeLine_eq];omega))))
 have d:((s.heap.push (seqObj "list" #[] 0)).update s.heap.objs.size (Obj.mapSeq (·++vs.toArray))).objs.size=s.heap.objs.size+1:=by rw[Heap.size_update,size_push']
 have f:(((s.heap.push (seqObj "list" #[] 0)).update s.heap.objs.size (Obj.mapSeq (·++vs.toArray))).push (seqObj "list" vs.toArray 0)).get? (s.heap.objs.size+1)=some (seqObj "list" vs.toArray 0):=by
  rw[←d]
  exact Qrq _ rfl
 have c:eR (((s.heap.push (seqObj "list" #[] 0)).update s.heap.objs.size (Obj.mapSeq (·++vs.toArray))).push (seqObj "list" vs.toArray 0)) vs fs:=ht.keep λb o e _=>by
  have h:b<s.heap.objs.size:=Qiq e
  refine Qcq _ ?_
  rw[Heap.get?_update_ne _ _ _ _ (Qwq h)]
  exact Qcq _ e
 refine(?_:wpAny _ _ _ _ _ {s with heap:=((s.heap.push (seqObj "list" #[] 0)).update s.heap.objs.size (Obj.mapSeq (·++vs.toArray))).push (seqObj "list" vs.toArray 0)})
 rw[d]
 refine Qaq (QLq (wpAny_call_entry slot_list_sort ⟨_,f,rfl⟩ entry_list_sort (CI f i c hd λa g=>⟨_,rfl,?_⟩) (args_list_sort _)))
 exact Qgq ⟨_,rfl,q a g⟩
end
end Zp
namespace L2
open PySem PySem.Spec PyProof.Rows
section
variable{X:Cx}
def Jz(K:PySem.W.Frag):List V->Hp->VK->Prop:=λd H Q=>∃(a:Addr) (b:List Addr) (c:List Str),d= [.ref a]/\i7 K H a (b.map V.ref)/\b.length<=3/\xx H b c/\c.Nodup/\∀(l:Addr),H l=none->Q (.ref l) (upd H l (.lst ((Zp.sortBy c 0 b).map V.ref)))
def wA:jY X (.builtin "sorted") (Jz X.K):=by
 intro l s G H A C Q I r h
 obtain⟨a,c,j,rfl,ha,h3,hF,hd,q⟩:=h
 obtain⟨u,rfl,rx⟩:=vals1 r
 cases (show u=Value.ref a from rx)
 obtain⟨t,y,m,B⟩:=I.list ha
 cases xm y
 have g:s.heap.objs.size<=s.heap.objs.size+1:=Nat.le_succ _
 refine Zp.yg m.isList (by simpa using h3) (BU I hF) hd λd p=> ?_
 have v:d.toList=(Zp.sortBy j 0 c).map Value.ref:=by
  rw[p]
  unfold Zp.sortBy
  rw[lQm]
  split
  ·rfl
  ·rename_i F
   rw[QPq]
   obtain⟨_,k⟩:=Zp.uo c.length h3 (by omega)
   have f:(Zp.jI (Zp.Mv j) (PySem.W.kas_sort c.length)).toList.Perm (List.range c.length):=List.isPerm_iff.mp (QUq.mp k _ (Zp.iY _ _))
   refine List.map_congr_left λi w=> ?_
   have z:i<c.length:=List.mem_range.mp (f.mem_iff.mp w)
   show(c.map Value.ref).getD i Value.none=Value.ref (c.getD i 0)
   rw[Qlq,Qlq,gQm,gQe z]
   rfl
 obtain⟨e,n⟩:=sortedAll_at s.heap (c.map Value.ref) d
 refine⟨.ref (s.heap.objs.size+1),_,I.laid (a:=s.heap.objs.size+1) (o:=.lst ((Zp.sortBy j 0 c).map V.ref)) (h':=sortedAll s.heap (c.map Value.ref) d) (t':=s.toks) (λb o x=>sortedAll_old x) g ⟨?_,d.toList,e,?_,?_⟩,rfl,q _ (I.hok.fresh g)⟩
 ·rw[lQm,(Zp.eT j c h3).length_eq]
  exact QAq h3 (by decide)
 ·have:=vP (Zp.sortBy j 0 c)
  rw[←v] at this
  exact this
 ·simpa using n
end
end L2
namespace DL
open PySem PySem.Spec PyProof.Rows L2
def xW(a b:Str):Prop:=¬(b.cps.toList<a.cps.toList)
instance(a b:Str):Decidable (xW a b):=by unfold xW;infer_instance
def FA(a b:Str):xW a b\/xW b a:=by
 by_cases h:b.cps.toList<a.cps.toList
 ·exact .inr λc=>List.lt_asymm h c
 ·exact .inl h
def yc{a b c:Str}(d:xW a b)(e:xW b c):xW a c:=by
 unfold xW at *
 rw[List.not_lt] at *
 exact List.le_trans d e
def GF{a b:Str}(c:xW a b)(d:xW b a):a=b:=by
 unfold xW at *
 rw[List.not_lt] at *
 have:=List.le_antisymm c d
 cases a
 cases b
 simp only[Str.mk.injEq]
 exact Array.toList_inj.mp this
def Cn(x:Str):List Str->List Str
 | []=> [x]
 |y::r=>if xW x y then x::y::r else y::Cn x r
def qN:List Str->List Str
 | []=> []
 |x::r=>Cn x (qN r)
theorem rM(x:Str):∀l:List Str,(Cn x l).Perm (x::l)
 | []=>List.Perm.refl _
 | y::r=>by
   unfold Cn
   split
   · exact List.Perm.refl _
   · exact((rM x r).cons y).trans (List.Perm.swap _ _ _)
theorem jm:∀l:List Str,(qN l).Perm l
 | []=>List.Perm.refl _
 |x::r=>(rM x _).trans ((jm r).cons x)
theorem sZ{x:Str}:∀{l:List Str},l.Pairwise xW->(Cn x l).Pairwise xW
 | [],_=>by simp[Cn]
 | y::r,h=>by
   rw[List.pairwise_cons] at h
   unfold Cn
   split
   · rename_i c
     refine List.pairwise_cons.mpr ⟨λz a=> ?_,List.pairwise_cons.mpr h⟩
     rcases Qsq.mp a with rfl|a
     · exact c
     · exact yc c (h.1 z a)
   · rename_i c
     refine List.pairwise_cons.mpr ⟨λz a=> ?_,sZ h.2⟩
     rcases Qsq.mp ((rM x r).mem_iff.mp a) with rfl|a
     · exact(FA _ _).resolve_left c
     · exact h.1 z a
theorem nZ:∀l:List Str,(qN l).Pairwise xW
 | []=>List.Pairwise.nil
 |x::r=>sZ (nZ r)
def zI:∀{l:List Str},sortedS l=true->l.Pairwise xW
 | [],_=>List.Pairwise.nil
 | x::r,h=>by
   have e:∀(r:List Str) (x:Str),risingS x r=true->(x::r).Pairwise xW:=by
     intro r
     induction r with
     |nil=>intro x _;simp
     | cons y r d=>
       intro x h
       unfold risingS at h
       simp only[QCq] at h
       have b:=d y h.2
       have c:xW x y:=by
         have:=h.1
         unfold xW
         rw[ltCps_eq] at this
         simpa using this
       refine List.pairwise_cons.mpr ⟨λz a=> ?_,b⟩
       rcases Qsq.mp a with rfl|a
       · exact c
       · exact yc c ((List.pairwise_cons.mp b).1 z a)
   exact e r x h
def Fe{c ss:List Str}(h:sortedS c=true)(p:c.Perm ss):c=qN ss:=
 List.Perm.eq_of_pairwise (le:=xW) (λa b _ _ d e=>GF d e) (zI h) (nZ ss) (p.trans (jm ss).symm)
end DL
namespace L2
open PySem PySem.Spec PyProof.Rows
end L2
namespace DL
open PySem PySem.Spec L2
section
variable{X:Cx}{a b e:Expr}{pos:Pos}
def xM:List D->Option (List Str)
 | []=>some []
 |.str x::r=>(xM r).bind λc=>some (x::c)
 |_::_=>none
theorem BC{M:Md}{ρ:List Addr}{H:Hp}:∀{ds:List D} {vs:List V} {xs:List Str},a8 M ρ H ds vs->xM ds=some xs->vs=xs.map V.str
 | [],_,_,h,e=>by cases h;cases e;rfl
 | d::ds,_,_,h,e=>by
   cases d with
   | str b=>
     simp only[xM] at e
     obtain⟨g,f,e⟩:=au e
     cases e
     cases h with
     | cons h c=>
       cases h
       rw[BC c f]
       rfl
   |_=>cases e
theorem x9{M:Md}{ρ:List Addr}{H:Hp}:∀ss:List Str,a8 M ρ H (ss.map D.str) (ss.map V.str)
 | []=>.nil
 |s::ss=>.cons (.str s) (x9 ss)
def Ez(f:fh):h_:=λg S=>(f g S).bind λ(p,d)=>if p.2.isL=true then(xM p.1).bind λc=>if c.length<64 then some ((qN c).map D.str,d) else none else none
def NZ{f:fh}{p:Pos}(m:Gl X "sorted")(A:X.mg "sorted"=none)(B:PE X a (tQ (md X) f))(hs:starEach [a] X.env= [(false,eval a X.env)]:=by rfl):
  PE X (.Call (.Name "sorted" p) [a] [] pos) (tL (md X) (Ez f)):=
 j_ (jT y0 m A PyProof.Rows.boot_sorted (d0 B g9 hs) (he:=hs)) λK H Q F=>by
  obtain⟨u,G,S,d,J,ok,e,q⟩:=F
  obtain⟨⟨⟨y,t⟩,k⟩,v,e⟩:=au e
  dsimp only at e
  split at e
  ·rename_i c
   obtain⟨s,n,e⟩:=au e
   split at e
   ·rename_i j
    obtain⟨rfl,rfl⟩:=cD e
    refine⟨u,G,S,y,t,k,ok,v,λz a I L x i h r=>⟨a,s,rfl,?_,j,λl w g o C=> ?_⟩⟩
    ·rw[←BC r n];exact h.sqL c
    ·cases Fe o C
     exact q _ _ _ _ (x.trans (cB.laid g)) (i.lay g) (x.grow _ g) (dZ x i g) cj (x9 _)
   ·cases e
  ·cases e
def sE:List D->Option (List Str)
 | []=>some []
 |.tup (.str x::_)::r=>(sE r).bind λc=>some (x::c)
 |_::_=>none
theorem Ai{M:Md}{ρ:List Addr}{H:Hp}:∀{ds:List D} {vs:List V} {xs:List Str},a8 M ρ H ds vs->sE ds=some xs->∃rs:List Addr,vs=rs.map V.ref/\xx H rs xs
 | [],_,_,h,e=>by cases h;cases e;exact⟨[],rfl,.nil⟩
 | .tup (.str x::us)::r,_,_,h,e=>by
   simp only[sE] at e
   obtain⟨i,g,e⟩:=au e
   cases e
   cases h with
   | cons h d=>
     cases h with
     | tup h c=>
       obtain⟨rs,rfl,F⟩:=Ai d g
       cases c with
       | cons f c=>
         cases f
         exact⟨_::rs,rfl,.cons h F⟩
 |.tup (.non::_)::_,_,_,_,e=>by cases e
 |.tup (.bl _::_)::_,_,_,_,e=>by cases e
 |.tup (.int _::_)::_,_,_,_,e=>by cases e
 |.tup (.tup _::_)::_,_,_,_,e=>by cases e
 |.tup (.ref _::_)::_,_,_,_,e=>by cases e
 |.tup (.fn _::_)::_,_,_,_,e=>by cases e
 |.tup []::_,_,_,_,e=>by cases e
 |.non::_,_,_,_,e=>by cases e
 |.bl _::_,_,_,_,e=>by cases e
 |.int _::_,_,_,_,e=>by cases e
 |.str _::_,_,_,_,e=>by cases e
 |.ref _::_,_,_,_,e=>by cases e
 |.fn _::_,_,_,_,e=>by cases e
def vG(ss:List Str)(ds:List D):List D:=Zp.sortBy ss .non ds
def uS{α l:Type}{R:α->l->Prop}{ss:List Str}{xs:List α}{ys:List l}{d:α}{d':l}(q:xs.length=ys.length)(p:xs.length<=3)(h:∀(i:Nat) (x:α),xs[i]?=some x->∃y,ys[i]?=some y/\R x y):
  ∀(i:Nat) (x:α),(Zp.sortBy ss d xs)[i]?=some x->∃y,(Zp.sortBy ss d' ys)[i]?=some y/\R x y:=by
 intro i x e
 unfold Zp.sortBy at *
 rw[←q]
 split at e
 ·rename_i c;rw[Qhq c];exact h i x e
 ·rename_i s
  obtain⟨_,g⟩:=Zp.uo xs.length p (by omega)
  have f:(Zp.jI (Zp.Mv ss) (PySem.W.kas_sort xs.length)).toList.Perm (List.range xs.length):=List.isPerm_iff.mp (QUq.mp g _ (Zp.iY _ _))
  rw[gQm] at e
  obtain⟨k,m,e⟩:=oQm.mp e
  have j:k<xs.length:=List.mem_range.mp (f.mem_iff.mp (mQg m))
  have o:xs[k]?=some x:=by
   rw[Qlq,gQe j] at e
   rw[gQe j]
   exact congrArg some e
  obtain⟨y,n,r⟩:=h k x o
  refine⟨y,?_,r⟩
  rw[Quq (by omega),gQm,m]
  simp[Qlq,n]
theorem a8.of_get{M:Md}{ρ:List Addr}{H:Hp}:∀{ds:List D} {vs:List V},ds.length=vs.length->(∀(i:Nat) (d:D),ds[i]?=some d->∃v,vs[i]?=some v/\Rel M ρ H d v)->a8 M ρ H ds vs
 | [],[],_,_=>.nil
 | [],_::_,h,_=>by cases h
 |_::_,[],h,_=>by cases h
 | d::ds,v::vs,h,g=>by
   obtain⟨f,e,r⟩:=g 0 d rfl
   cases e
   exact .cons r (a8.of_get (Nat.succ.inj h) λi d c=>by
     obtain⟨v,e,r⟩:=g (i+1) d (by simpa using c)
     exact⟨v,by simpa using e,r⟩)
def zr(f:fh):h_:=λg S=>(f g S).bind λ(p,d)=>if p.2.isL=true then(sE p.1).bind λc=>if p.1.length<=3/\c.Nodup then some (vG c p.1,d) else none else none
def FE{f:fh}{p:Pos}(G:Gl X "sorted")(L:X.mg "sorted"=none)(M:PE X a (tQ (md X) f))(hs:starEach [a] X.env= [(false,eval a X.env)]:=by rfl):
  PE X (.Call (.Name "sorted" p) [a] [] pos) (tL (md X) (zr f)):=
 j_ (jT wA G L PyProof.Rows.boot_sorted (d0 M g9 hs) (he:=hs)) λσ H Q N=>by
  obtain⟨J,P,S,d,Z,ok,e,q⟩:=N
  obtain⟨⟨⟨o,t⟩,C⟩,K,e⟩:=au e
  dsimp only at e
  split at e
  ·rename_i c
   obtain⟨n,I,e⟩:=au e
   split at e
   ·rename_i j
    obtain⟨rfl,rfl⟩:=cD e
    refine⟨J,P,S,o,t,C,ok,K,λs a Y W x w h r=> ?_⟩
    obtain⟨u,rfl,F⟩:=Ai r I
    have A:o.length=u.length:=by have:=r.length;simpa using this
    refine⟨a,u,n,rfl,h.sqL c,by omega,F,j.2,λl g=> ?_⟩
    refine q _ _ _ _ (x.trans (cB.laid g)) (w.lay g) (x.grow _ g) (dZ x w g) cj (a8.ext (cB.laid g) ?_)
    refine a8.of_get ?_ λi d m=> ?_
    ·rw[lQm]
     unfold vG
     rw[(Zp.eT n o j.1).length_eq,(Zp.eT n u (by omega)).length_eq,A]
    ·obtain⟨y,k,B⟩:=uS (R:=λ(d:D) (a:Addr)=>Rel (md X) s W d (.ref a)) (d':=0) A j.1 (λi d m=>by
      obtain⟨v,z,U⟩:=r.get m
      rw[gQm] at z
      obtain⟨y,k,rfl⟩:=oQm.mp z
      exact⟨y,k,U⟩) i d m
     exact⟨.ref y,by rw[gQm,k];rfl,B⟩
   ·cases e
  ·cases e
end
def ur{P:Program}{w:World}{K:PySem.W.Frag}{mg:Str->Option Value}{base:Heap}{f:Addr}{d:FuncData}{ps:List Str}{k n:Nat}:bf P w K mg base df k f d ps (dC ⟨K,mg⟩ n λ_ _=>none):=
 {len:=λc H Q E h=>by
   obtain⟨_,_,_,_,_,_,_,_,e,_⟩:=h
   cases e
  run:=λA a s H b g c Q E _ _ _ _ h=>by
   obtain⟨_,_,_,_,_,_,_,_,e,_⟩:=h
   cases e}
end DL
namespace Zq
open PySem PyProof.Rows
end Zq
namespace L2
open PySem PyProof.Rows Zq
end L2
namespace DL
open PySem PySem.Spec L2
structure EZ(P:Program)(w:World)(K:PySem.W.Frag)(mg:Str->Option Value)(x:Str)(tbl:List (Str×Str)):Prop where
 at_:∃a,mg x=some (.ref a)/\∀h:Heap,K.In h->∃vs,h.DictOf (bZ P w) a vs/\∀k nm,tbl.lookup k=some nm->∃f,valueAt vs (Sum.inr k:Key)=some (.ref f)/\mg nm=some (.ref f)
section
variable{X:Cx}{a b c e:Expr}{pos:Pos}
def Ox(d:List (Str×Str))(g:bD):bD:=λh S=>(g h S).bind λ(y,f)=>match y with
 |.str x=>(d.lookup x).bind λi=>some (.fn i,f)
 |_=>none
def JE{x:Str}{i:List (Str×Str)}{g:bD}{p:Pos}(Y:EZ X.prog X.w X.K X.mg x i)(C:Gl X x)(hb:PE X b (tD (md X) g))(hs:I0 b)(hd:(x==("__debug__":Str))=false:=by decide):
  PE X (.Subscript (.Name x p) b pos) (tD (md X) (Ox i g)):=by
 rintro j s σ H Q I ⟨u,Γ,S,d,S',ok,e,q⟩
 obtain⟨a,hm,W⟩:=Y.at_
 obtain⟨⟨y,t⟩,P,e⟩:=au e
 cases y with
 | str z=>
   obtain⟨R,G,e⟩:=au e
   obtain⟨rfl,rfl⟩:=cD e
   refine EL PySem.F.slot_dict_getitem.lookup hs (Ac I C hm ?_ hd)
   refine cX (hb j s σ H (λv l=>∃h,cB u H h l/\fY (md X) h t l/\Rel (md X) h l (.str z) v) I ⟨u,Γ,S,_,t,ok,P,λh v l x M r=>⟨h,x,M,r⟩⟩) λiv s2 L=> ?_
   obtain⟨v,H2,B,rv,h,Z,m,U⟩:=L
   obtain⟨vs,A,N⟩:=W _ B.kIn
   obtain⟨f,hf,n⟩:=N z R G
   cases U
   have ty:s2.TypeIs (.ref a) "dict":=by
     obtain⟨o,es,ep,J,h2,h3,_⟩:=A
     exact⟨o,J,h2.1⟩
   refine⟨ty,wpAny_getItem_of (Ay (k:=Sum.inr z) rv) A.mapOf hf ?_⟩
   exact⟨.ref f,H2,B.tok _,rfl,q _ _ _ Z m (.fn n)⟩
 |_=>cases e
def vL(i:Nat)(T:List (Str×cQ))(g:h_):bD:=λd S=>match d[i]? with
 |some (some (.fn x))=>(T.lookup x).bind λF=>aw F g d S
 |_=>none
def JF{i k:Nat}{y:Str}{ps:List Str}{T:List (Str×cQ)}{j:List Expr}{g:h_}{p:Pos}(hT:∀x F,T.lookup x=some F->dS X.prog X.w X.K X.mg X.base k x ps F)(hr:fQ k X.A)(hN:X.N[i]?=some y)(Z:KD X.env.scope y)
  (ha:PA X (e::j) (AB (md X) g)) (P:nA ps.length g) (z:(y==("__debug__":Str))=false:=by decide) (n:(y==("__classdict__":Str))=false:=by decide) (he:starEach (e::j) X.env=(false,eval e X.env)::starEach j X.env:=by rfl) (hpl:(backTo pos (starEach j X.env)).any (·.1)=false:=by rfl):
  PE X (.Call (.Name y p) (e::j) [] pos) (tD (md X) (vL i T g)):=by
 rintro h s B H Q I ⟨Y,Γ,S,d,S',ok,e,q⟩
 unfold vL at e
 split at e
 ·rename_i x hx
  obtain⟨F,t,e⟩:=au e
  obtain⟨f,fd,G,bb,kp,m⟩:=(hT x F t).ex
  obtain⟨v,o,rv⟩:=ok.en.get i _ hx
  cases rv with
  | fn hm=>
    have L:(md X).mg x=some (.ref f):=m
    rw[hm] at L
    cases L
    refine wpAny_Call_Name_kw (cX (G0 hN Z z n h s B H (λC l=>C=.ref f/\l=H) I ⟨_,o,rfl,rfl⟩) λu s1 U=> ?_)
    obtain⟨C,l,M,r1,t,R⟩:=U
    subst t R
    cases (show u=Value.ref f from r1)
    refine PySem.W.callWith_K (h₀:=X.base) I.ok.mod.kin kp (cX (ha pos h s1 B l _ M (DZ P B l Q ⟨Y,Γ,S,d,S',ok,e,q⟩)) λus s2 ⟨vs,H1,J,r,q2⟩=>⟨J.kIn,?_⟩) he hpl
    exact Hu G hr bb .nil lV J r q2
 ·cases e
end
def Dx(w:World)(x:Str):PyData.keyHash w.params x=hashStr w x:=by
 unfold PyData.keyHash hashStr
 first|rfl|simp
inductive Al(w:World)(mg:Str->Option Value):List DictEntry->List (Str×Str)->Prop
 |nil:Al w mg [] []
 |cons {x nm:Str} {t:Tok} {f:Addr} {es:List DictEntry} {tbl:List (Str×Str)}:mg nm=some (.ref f)->Al w mg es tbl->Al w mg (⟨PyData.keyHash w.params x,.str x t,.ref f⟩::es) ((x,nm)::tbl)
def Al.keys{P:Program}{w:World}{mg:Str->Option Value}{b:List DictEntry}{a:List (Str×Str)}(c:Al w mg b a):∀e∈b,∃k,(bZ P w).is k e.key=true/\e.hash=(bZ P w).hash k:=by
 induction c with
 |nil=>intro e h;cases h
 | @cons x nm t f b a hm c ih=>
   intro e h
   rcases Qsq.mp h with rfl|h
   · exact⟨Sum.inr x,rL x t,Dx w x⟩
   · exact ih e h
def Al.pairs{P:Program}{w:World}{mg:Str->Option Value}{b:List DictEntry}{a:List (Str×Str)}(e:Al w mg b a):∃vs:List (Key×Value),Pairs (bZ P w) b vs/\vs.map (·.1)=a.map (λp=>Sum.inr p.1)∧
  ∀k nm,a.lookup k=some nm->∃f,valueAt vs (Sum.inr k:Key)=some (.ref f)/\mg nm=some (.ref f):=by
 induction e with
 |nil=>exact⟨[],.nil,rfl,λk nm h=>by cases h⟩
 | @cons x nm t f b a hm e ih=>
   obtain⟨vs,i,l,o⟩:=ih
   refine⟨(Sum.inr x,.ref f)::vs,.cons (rL x t) rfl i,by simp[l],λk n h=> ?_⟩
   by_cases c:k=x
   · subst c
     rw[List.lookup_cons_self] at h
     cases h
     refine⟨f,?_,hm⟩
     unfold valueAt
     rw[List.find?_cons_of_pos (by simp)]
     rfl
   · have m:(k==x)=false:=by simpa using c
     rw[List.lookup_cons,m] at h
     obtain⟨g,d,j⟩:=o k n h
     refine⟨g,?_,j⟩
     unfold valueAt at d⊢
     rw[List.find?_cons_of_neg]
     · exact d
     · intro z
       have:(Sum.inr x:Key)=Sum.inr k:=by simpa using z
       exact c (Sum.inr.inj this).symm
def Hx{P:Program}{w:World}{K:PySem.W.Frag}{mg:Str->Option Value}{x:Str}{c:List (Str×Str)}{a:Addr}{f:List DictEntry}{m:Nat}(o:mg x=some (.ref a))(l:K.lookup a=some ⟨.type "dict",none,.dict f.toArray m,#[]⟩)(d:Al w mg f c)(nd:(c.map (·.1)).Nodup):EZ P w K mg x c:=by
 obtain⟨i,k,q,r⟩:=d.pairs (P:=P)
 refine⟨a,o,λh g=>⟨i,⟨_,_,_,g _ _ l,⟨rfl,rfl,rfl⟩,rfl,λe j=>d.keys e (by simpa using j),by simpa using k,?_⟩,r⟩⟩
 rw[q]
 have:c.map (λp=>(Sum.inr p.1:Key))=(c.map (·.1)).map Sum.inr:=by rw[QPq];rfl
 rw[this]
 exact List.Pairwise.map _ (λa b n e=>n (Sum.inr.inj e)) nd
theorem Ia{P:Program}{w:World}{K:PySem.W.Frag}{mg:Str->Option Value}{base:Heap}{k:Nat}{ps:List Str}:∀{T:List (Str×cQ)},(∀p∈T,dS P w K mg base k p.1 ps p.2)->∀x F,T.lookup x=some F->dS P w K mg base k x ps F
 | [],_,x,F,h=>by cases h
 | p::T,g,x,F,h=>by
   by_cases c:x=p.1
   · subst c
     rw[List.lookup_cons_self] at h
     cases h
     exact g p (QBq ..)
   · have a:(x==p.1)=false:=by simpa using c
     rw[List.lookup_cons,a] at h
     exact Ia (λq b=>g q (Qpq _ b)) x F h
def BJ:Sp:=λc H Q _=>∃(a:Addr) (b:List Int) (o:Obj),c= [.ref a]/\H a=some (.frz o (.lst (b.map V.int)))/\b.length<=63/\∀d,Q (.bl true) d
theorem xF{M:Md}{ρ:List Addr}{H:Hp}:∀ns:List Int,a8 M ρ H (ns.map D.int) (ns.map V.int)
 | []=>.nil
 |s::ss=>.cons (.int s) (xF ss)
def IU{P:Program}{w:World}{K:PySem.W.Frag}{mg:Str->Option Value}{base:Heap}{k:Nat}{f:Addr}{i:FuncData}{ps:List Str}{F:cQ}(G:bf P w K mg base df k f i ps (dC ⟨K,mg⟩ 1 F))
  (h:∀ns:List Int,ns.length<=63->∃c,F [.ref 0] [.frz (ns.map D.int)]=some (.d (.bl true),c)):bf P w K mg base df k f i ps BJ:=
 G.imp λt H Q E n=>by
  obtain⟨a,ns,o,e,l,s,q⟩:=n
  subst e
  obtain⟨c,e⟩:=h ns s
  refine⟨[a],[.frz (ns.map D.int)],[.ref 0],_,c,rfl,.cons (.ref rfl) .nil,⟨rfl,by simp,λk b y g m=> ?_⟩,e,λj v p x u r=> ?_⟩
  ·cases k with
   |zero=>cases g;cases m;exact⟨_,o,l,xF ns⟩
   |succ k=>simp at g
  ·cases r
   exact q p
def Cm(K:PySem.W.Frag):Bool:=K.all λp=>match p.2.data with|.seq _ _=>(match p.2.cls with|.type s=>s !="list" |_=>true)|_=>true
def E7{K:PySem.W.Frag}(h:Cm K=true){a:Addr}{o:Obj}(e:K.lookup a=some o){f:Array Value}{n:Nat}(hd:o.data=.seq f n):o.cls≠.type "list":=by
 intro k
 have d:∀(K:List (Addr×Obj)),K.all (λp=>match p.2.data with|.seq _ _=>(match p.2.cls with|.type s=>s !="list" |_=>true)|_=>true)=true->K.lookup a=some o->False:=by
  intro K
  induction K with
  |nil=>intro _ e;cases e
  | cons p K i=>
    intro h e
    rw[List.all_cons,QCq] at h
    obtain⟨b,q⟩:=p
    rw[List.lookup_cons] at e
    by_cases c:a=b
    · subst c
      simp only[BEq.rfl] at e
      cases e
      have g:=h.1
      simp only[hd,k] at g
      simp at g
    · have j:(a==b)=false:=by simpa using c
      rw[j] at e
      exact i h.2 e
 exact d K h e
def NQ{K:PySem.W.Frag}{H:Hp}{a:Addr}{ns:List Int}(b:Cm K=true)(e:ns.length<=63)(c:Ki H)(d:i7 K H a (ns.map V.int)):BJ [.ref a] H (λv _=>v=.bl true) λ_ _ _=>False:=by
 rcases d with(h|⟨o,h⟩)|⟨o,its,n,h,hc,_,hd,_⟩
 ·rcases c a with z|⟨o,f,z⟩
  ·rw[h] at z;cases z
  ·rw[h] at z;cases z
 ·exact⟨a,ns,o,rfl,h,e,λ_=>rfl⟩
 ·exact absurd hc (E7 b h hd)
def N2{l:PySem.W.OpenLaw}{q:Program}{b:List Str}{o:(Str->Option Value)->Heap->Prop}{g:World->Heap->Prop}{d:DefRec}{K:Params->PySem.W.Frag}{k:Nat}(m:l.most=some 63)(c:d.params.defaults= [])(v:fQ k PySem.callerA)
  (j:∀(w:World) (h:Heap),g w h->(K w.params).In h) (t:∀w:World,Cm (K w.params)=true)
  (F:∀(w:World) (mg:Str->Option Value) (e:Addr) (h:Heap),(K w.params).In h->h.Ns mainGlobals mg->mg d.name=some (.ref e)→
   ∃i:FuncData,(∀(s:Shared) (u:Value),BindsTo s i ⟨[u],[]⟩ [("_law_script",u)])/\∀base:Heap,(K w.params).In base->base.Ns mainGlobals mg->bf l.prog w (K w.params) mg base df k e i ["_law_script"] BJ):
  PySem.W.WalkO q b o g l.row.toRowW d [] (λf vs=>PySem.call f vs):=
 L2.Kd (n:=63) (k:=k) (x:="_law_script") (CX:=λ_=>df) (sp:=λ_=>BJ) m (by decide) c v j F (λw H a A y r p=>NQ (t w) y r p) λ_ _ _ _ _ z=>z
end DL
namespace DL
open PySem PySem.Spec L2 PyProof.Rows
section
variable{X:Cx}{x:Str}{e:Expr}{f:bD}{pos pos':Pos}
def FU(i:Nat)(a:X.N.Nodup)(he:PE X e (tD (md X) f))(hi:X.N[i]?=some x:=by rfl)(c:Loc X.env.scope x:=by first|exact Or.inl rfl|exact Or.inr rfl)(hs:swapsWith e (some (.Name x pos')) pos.line X.env=pure false:=by rfl)
  (b:X.fn x=true\/X.env.scope.names.lookup x=some .local:=by first|exact .inl rfl|exact .inr rfl|assumption):PS X (.Assign [.Name x pos'] e pos) (tS (md X) (aU i f)):=N5 (KQ a hi c he hs b)
def QZ(i:Nat)(a:X.N.Nodup)(hi:X.N[i]?=some x:=by rfl)(c:Loc X.env.scope x:=by first|exact Or.inl rfl|exact Or.inr rfl)(b:X.fn x=true\/X.env.scope.names.lookup x=some .local:=by first|exact .inl rfl|exact .inr rfl|assumption):PG X (.Name x pos) (qe i):=zi a hi c b
def Pu(i:Nat)(a:X.N.Nodup)(hi:X.N[i]?=some x:=by rfl)(c:Loc X.env.scope x:=by first|exact Or.inl rfl|exact Or.inr rfl)(b:X.fn x=true\/X.env.scope.names.lookup x=some .local:=by first|exact .inl rfl|exact .inr rfl|assumption):PG X (.Name x pos) (tG (md X) (bH i)):=Hf (zi a hi c b)
def Pc{N:List Str}{a:Scope}{b:List (Str×Addr)}{C:Addr}{s:Shared}{H:Hp}{fp:List Addr}(i:Nat)(c:N.Nodup:=by decide +kernel)(hi:(aO X N a b C s H fp).N[i]?=some x:=by rfl)(d:Loc (aO X N a b C s H fp).env.scope x:=by first|exact Or.inl rfl|exact Or.inr rfl)
  (g:(aO X N a b C s H fp).fn x=true\/(aO X N a b C s H fp).env.scope.names.lookup x=some .local:=by first|exact .inl rfl|exact .inr rfl|assumption):PG (aO X N a b C s H fp) (.Name x pos) (tG (md (aO X N a b C s H fp)) (bH i)):=Hf (zi c hi d g)
def v_(i:Nat)(b:X.N[i]?=some x:=by rfl)(c:KD X.env.scope x:=by first|exact Or.inl rfl|exact Or.inr (Or.inl rfl)|exact Or.inr (Or.inr rfl))(hd:(x==("__debug__":Str))=false:=by decide)(a:(x==("__classdict__":Str))=false:=by decide):PE X (.Name x pos) (tD (md X) (ar i)):=N6 (pv i b c hd a)
end
section
variable{X:Cx}{x:Str}{k k':Nat}{ps:List Str}{F:cQ}{e:Expr}{es:List Expr}{g:h_}{p pos:Pos}
def KP(C:dS X.prog X.w X.K X.mg X.base k x ps F)(d:fQ k' X.A)(h:PA X (e::es) (AB (md X) g))(b:k<=k':=by first|decide|omega)(f:Gl X x:=by rfl)
  (c:nA ps.length g:=by repeat (first|exact Dw|refine m4 ?_))
  (a:(x==("__debug__":Str))=false:=by decide) (he:starEach (e::es) X.env=(false,eval e X.env)::starEach es X.env:=by rfl) (hpl:(backTo pos (starEach es X.env)).any (·.1)=false:=by rfl):
  PE X (.Call (.Name x p) (e::es) [] pos) (tD (md X) (aw F g)):=M6 C (d.mono b) f h c a he hpl
def MQ(C:dS X.prog X.w X.K X.mg X.base k x ps F)(d:fQ k' X.A)(h:PA X (e::es) (AB (md X) g))(b:k<=k':=by first|decide|omega)(f:Gl X x:=by rfl)
  (c:nA ps.length g:=by repeat (first|exact Dw|refine m4 ?_))
  (a:(x==("__debug__":Str))=false:=by decide) (he:starEach (e::es) X.env=(false,eval e X.env)::starEach es X.env:=by rfl) (hpl:(backTo pos (starEach es X.env)).any (·.1)=false:=by rfl):
  PE X (.Call (.Name x p) (e::es) [] pos) (tL (md X) (dR F g)):=M0 C (d.mono b) f h c a he hpl
end
def eC{N P:List Str}{sc:Scope}(a:sc.kind=.function:=by rfl)(b:sc.isCoroutine=false:=by rfl)(c:sc.isGenerator=false:=by rfl)(d:N.Nodup:=by decide +kernel)(e:N.take P.length=P:=by rfl)
  (f:∀x∈P,sc.names.lookup x=some .local\/sc.names.lookup x=some .cell:=by decide +kernel) (g:∀y∈sc.names,y.2≠.free:=by decide +kernel):aF N P sc:=⟨a,b,c,d,e,f,g⟩
structure aV(K:PySem.W.Frag)(x:Str)(st:Stmt)(f:Addr):Prop where
 ex:∃(oc:Value) (od:Option Addr) (kV dc pm:Value) (an:Option Addr) (cd ct:Value) (sl:Array (Option Value)),PySem.W.nsIn K mainGlobals x=some (some (.ref f))∧
  K.lookup f=some ⟨oc,od,.func (PySem.W.fnOf x x (iy st) (fB st) (ay st) .none kV dc pm an cd ct),sl⟩/\PySem.W.codeIn K cd x=true/\PySem.W.keepIn K (.ref f)=true
def aV.of{K:PySem.W.Frag}{x:Str}{st:Stmt}{f:Addr}{i:Value}{d:Option Addr}{kV e pm:Value}{g:Option Addr}{b ct:Value}{h:Array (Option Value)}(a:PySem.W.nsIn K mainGlobals x=some (some (.ref f)))
  (l:K.lookup f=some ⟨i,d,.func (PySem.W.fnOf x x (iy st) (fB st) (ay st) .none kV e pm g b ct),h⟩) (c:PySem.W.codeIn K b x=true) (k:PySem.W.keepIn K (.ref f)=true):aV K x st f:=⟨i,d,kV,e,pm,g,b,ct,h,a,l,c,k⟩
structure PK(K:PySem.W.Frag)(mg:Str->Option Value)(x:Str)(st:Stmt)(ps:List Str)(f:Addr):Prop where
 ex:∃fd,dF K x x st f fd/\Binds K fd ps []/\PySem.W.keepIn K (.ref f)=true
 m:mg x=some (.ref f)
def aV.ok1{K:PySem.W.Frag}{mg:Str->Option Value}{x:Str}{st:Stmt}{ps:List Str}{f:Addr}{h:Heap}(D:aV K x st f)(X:K.In h)(G:h.Ns mainGlobals mg)
  (k:∀(kV c pm:Value) (e:Option Addr) (d ct:Value) (a:List Value),a.length=ps.length->bindArgs (PySem.W.fnOf x x (iy st) (fB st) (ay st) .none kV c pm e d ct) ⟨a,[]⟩=pure (ps.zip a):=by intro _ _ _ _ _ _ a l;rcases a with _|⟨_,_|⟨_,_|⟨_,_|⟨_,_|⟨_,_|⟨_,_⟩⟩⟩⟩⟩⟩ <;>first|rfl|cases l):PK K mg x st ps f:=by
 obtain⟨q,p,kV,o,pm,e,n,ct,m,j,g,i,b⟩:=D.ex
 exact⟨⟨_,Dm g i b,(Dm g i b).binds k,b⟩,PySem.W.mg_of X G j⟩
structure Pk(P:Program)(w:World)(base:Heap):Prop where
def PK.cal{P:Program}{w:World}{base:Heap}{K:PySem.W.Frag}{mg:Str->Option Value}{x:Str}{st:Stmt}{ps:List Str}{f:Addr}{k:Nat}{F:cQ}(O:PK K mg x st ps f)(Z:Pk P w base)
  (h:∀a,dF K x x st f a->Binds K a ps []->PySem.W.keepIn K (.ref f)=true->mg x=some (.ref f)->bf P w K mg base df k f a ps (dC ⟨K,mg⟩ ps.length F)):dS P w K mg base k x ps F:=by
 obtain⟨a,d,b,c⟩:=O.ex
 exact⟨f,a,h a d b c O.m,b,c,O.m⟩
end DL
namespace DL
open PySem PySem.Spec L2
def E{α:Type}(f:cy->aD->Option (α×aD))(c:cy)(S:aD)(Q:α->aD->Prop):Prop:=∃a b,f c S=some (a,b)/\Q a b
def T(f:cA)(a:cy)(S:aD)(Q:Out->Prop):Prop:=∃o,f a S=some o/\Q o
def Fn(F:cQ)(ds:List D)(S:aD)(Q:Res->aD->Prop):Prop:=∃r a,F ds S=some (r,a)/\Q r a
def Tg(g:ni)(d:D)(c:cy)(S:aD)(Q:cy->aD->Prop):Prop:=∃a b,g d c S=some (a,b)/\Q a b
def M_(g:oo)(d:List D)(c:cy)(S:aD)(Q:cy->aD->Prop):Prop:=∃a b,g d c S=some (a,b)/\Q a b
def Op{α:Type}(o:Option α)(Q:α->Prop):Prop:=∃d,o=some d/\Q d
section
variable{Γ:cy}{S:aD}
def E.mono{α:Type}{f:cy->aD->Option (α×aD)}{Q R:α->aD->Prop}(h:E f Γ S Q)(i:∀a S,Q a S->R a S):E f Γ S R:=by
 obtain⟨a,b,e,q⟩:=h
 exact⟨a,b,e,i _ _ q⟩
def T.mono{f:cA}{Q R:Out->Prop}(h:T f Γ S Q)(i:∀o,Q o->R o):T f Γ S R:=by
 obtain⟨a,e,q⟩:=h
 exact⟨a,e,i _ q⟩
def ax{i:Nat}{d:D}{Q:D->aD->Prop}(h:Γ[i]?=some (some d))(q:Q d S):E (ar i) Γ S Q:=⟨d,S,by unfold ar;rw[h],q⟩
def cO{d:D}{Q:D->aD->Prop}(q:Q d S):E (cF d) Γ S Q:=⟨d,S,rfl,q⟩
def bo{Q:List D->aD->Prop}(q:Q [] S):E av Γ S Q:=⟨[],S,rfl,q⟩
def aB{f:bD}{g:h_}{Q:List D->aD->Prop}(h:E f Γ S λd a=>E g Γ a λds S2=>Q (d::ds) S2):E (aq f g) Γ S Q:=by
 obtain⟨d,a,b,ds,S2,c,q⟩:=h
 exact⟨_,_,by unfold aq;rw[b];simp only[Qbq];rw[c];rfl,q⟩
def bc{o:w9}{f g:bD}{Q:D->aD->Prop}(h:E f Γ S λx a=>E g Γ a λy S2=>Op (o S2 x y) λd=>Q d S2):E (aR o f g) Γ S Q:=by
 obtain⟨x,a,c,y,S2,e,d,b,q⟩:=h
 exact⟨d,S2,by unfold aR;rw[c];simp only[Qbq];rw[e];simp only[Qbq];rw[b];rfl,q⟩
def vi{f:h_}{Q:D->aD->Prop}(h:E f Γ S λds a=>ds.length<=sizeLine/\Q (.tup ds) a):E (a_ f) Γ S Q:=by
 obtain⟨ds,a,b,l,q⟩:=h
 exact⟨_,_,by unfold a_;rw[b];simp only[Qbq];rw[Qhq l],q⟩
def du{f:h_}{Q:List D->aD->Prop}(h:E f Γ S λds a=>ds.length<=sizeLine/\Q ds a):E (bu f) Γ S Q:=by
 obtain⟨ds,a,b,l,q⟩:=h
 exact⟨_,_,by unfold bu;rw[b];simp only[Qbq];rw[Qhq l],q⟩
def dP{f:h_}{Q:D->aD->Prop}(h:E f Γ S λds a=>Q (.ref a.length) (a++ [.lst ds])):E (bM f) Γ S Q:=by
 obtain⟨ds,a,b,q⟩:=h
 exact⟨_,_,by unfold bM;rw[b];rfl,q⟩
def CW{o:Kw}{f:h_}{Q:D->aD->Prop}(h:E f Γ S λds a=>Op (o ds) λd=>Q d a):E (tO o f) Γ S Q:=by
 obtain⟨ds,a,b,d,c,q⟩:=h
 exact⟨d,a,by unfold tO;rw[b];simp only[Qbq];rw[c];rfl,q⟩
def bW{f:bD}{Q:(List D×Tag)->aD->Prop}(h:E f Γ S λd a=>Op (vB a d) λp=>Q p a):E (aQ f) Γ S Q:=by
 obtain⟨e,a,b,d,c,q⟩:=h
 exact⟨d,a,by unfold aQ;rw[b];simp only[Qbq];rw[c];rfl,q⟩
def qP{f:h_}{Q:(List D×Tag)->aD->Prop}(h:E f Γ S λds a=>Q (ds,.fr) a):E (ic f) Γ S Q:=by
 obtain⟨ds,a,b,q⟩:=h
 exact⟨_,a,by unfold ic;rw[b];rfl,q⟩
def Ao{f:fh}{Q:D->aD->Prop}(h:E f Γ S λp a=>Q (.int p.1.length) a):E (g_ f) Γ S Q:=by
 obtain⟨p,a,b,q⟩:=h
 exact⟨_,a,by unfold g_;rw[b];rfl,q⟩
def rQ{f:fh}{Q:D->aD->Prop}(h:E f Γ S λp a=>Q (.tup p.1) a):E (tupQ f) Γ S Q:=by
 obtain⟨p,a,b,q⟩:=h
 exact⟨_,a,by unfold tupQ;rw[b];rfl,q⟩
def sy{f:fh}{Q:(List D×Tag)->aD->Prop}(h:E f Γ S λp a=>p.2.isL=true/\Q p a):E (cH f) Γ S Q:=by
 obtain⟨p,a,b,l,q⟩:=h
 exact⟨_,a,by unfold cH;rw[b];simp only[Qbq];rw[Qhq l],q⟩
def uw{f:fh}{Q:D->aD->Prop}(h:E f Γ S λp a=>(p.2.isL=true/\p.2.stays a p.1)/\Q (.bl (!p.1.isEmpty)) a):E (cV f) Γ S Q:=by
 obtain⟨p,a,b,l,q⟩:=h
 exact⟨_,a,by unfold cV;rw[b];simp only[Qbq];rw[Qhq l],q⟩
def aZ(Q:D->aD->Prop)(r:Res)(S2:aD):Prop:=match r with|.d x=>Q x S2|.l _=>False
def aP(Q:List D->aD->Prop)(r:Res)(S2:aD):Prop:=match r with|.d _=>False|.l x=>Q x S2
def aY(Q:Bool->aD->Prop)(d:D)(a:aD):Prop:=match d with|.bl k=>Q k a|_=>False
def bS(g:cA)(Q:Out->Prop)(o:Out):Prop:=match o with|.nx a b=>T g a b Q|o=>Q o
def bV(I:Nat->cy->aD->Prop)(n:Nat)(Q:Out->Prop)(o:Out):Prop:=match o with|.nx a b=>I (n+1) a b|.ct a b=>I (n+1) a b|.bk a b=>Q (.nx a b)|o=>Q o
def eZ(S:aD)(Q:Res->aD->Prop)(o:Out):Prop:=match o with
 |.nx _ a=>Op (settle S .non a) λp=>Q p.1 p.2|.rt d a=>Op (settle S d a) λp=>Q p.1 p.2|.rl l a=>Op (eO S l a) λp=>Q p.1 p.2|_=>False
def QT{Q:D->aD->Prop}{x:D}(h:Q x S):aZ Q (.d x) S:=h
def PC{Q:List D->aD->Prop}{x:List D}(h:Q x S):aP Q (.l x) S:=h
def zu{Q:Bool->aD->Prop}{k:Bool}(h:Q k S):aY Q (.bl k) S:=h
def QS{g:cA}{Q:Out->Prop}(h:let a:=Γ;T g a S Q):bS g Q (.nx Γ S):=h
def cM{F:cQ}{g:h_}{Q:D->aD->Prop}(h:E g Γ S λds a=>Fn F ds a (aZ Q)):E (aw F g) Γ S Q:=by
 obtain⟨ds,a,c,r,b,e,q⟩:=h
 cases r with
 |d x=>exact⟨x,b,by unfold aw;rw[c];simp only[Qbq];rw[e];rfl,q⟩
 |l x=>exact q.elim
def DX{F:cQ}{g:h_}{Q:List D->aD->Prop}(h:E g Γ S λds a=>Fn F ds a (aP Q)):E (dR F g) Γ S Q:=by
 obtain⟨ds,a,c,r,b,e,q⟩:=h
 cases r with
 |d x=>exact q.elim
 |l x=>exact⟨x,b,by unfold dR;rw[c];simp only[Qbq];rw[e];rfl,q⟩
def cN{f:bD}{Q:Bool->aD->Prop}(h:E f Γ S (aY Q)):E (aH f) Γ S Q:=by
 obtain⟨d,a,b,q⟩:=h
 cases d with
 |bl k=>exact⟨k,a,by unfold aH;rw[b];rfl,q⟩
 |_=>exact q.elim
def Bb{f:bD}{Q:Bool->aD->Prop}(h:E f Γ S λd a=>Op (Di a d) λk=>Q k a):E (jW f) Γ S Q:=by
 obtain⟨d,a,b,k,c,q⟩:=h
 exact⟨k,a,by unfold jW;rw[b];simp only[Qbq];rw[c];rfl,q⟩
def uV{f:jE}{Q:Bool->aD->Prop}(h:E f Γ S λk a=>Q (!k) a):E (wF f) Γ S Q:=by
 obtain⟨k,a,b,q⟩:=h
 exact⟨_,a,by unfold wF;rw[b];rfl,q⟩
def om{f g:jE}{Q:Bool->aD->Prop}(h:E f Γ S λk a=>if k=true then E g Γ a Q else Q false a):E (ia f g) Γ S Q:=by
 obtain⟨k,a,b,q⟩:=h
 cases k with
 |true=>obtain⟨j,c,d,q⟩:=(q:E g Γ a Q);exact⟨j,c,by unfold ia;rw[b];exact d,q⟩
 |false=>exact⟨false,a,by unfold ia;rw[b];rfl,q⟩
def D3{f g:jE}{Q:Bool->aD->Prop}(h:E f Γ S λk a=>if k=true then Q true a else E g Γ a Q):E (Mg f g) Γ S Q:=by
 obtain⟨k,a,b,q⟩:=h
 cases k with
 |true=>exact⟨true,a,by unfold Mg;rw[b];rfl,q⟩
 |false=>obtain⟨j,c,d,q⟩:=(q:E g Γ a Q);exact⟨j,c,by unfold Mg;rw[b];exact d,q⟩
def MO{c:jE}{f g:bD}{Q:D->aD->Prop}(h:E c Γ S λk a=>if k=true then E f Γ a Q else E g Γ a Q):E (wK c f g) Γ S Q:=by
 obtain⟨k,a,e,q⟩:=h
 cases k with
 |true=>obtain⟨j,b,d,q⟩:=(q:E f Γ a Q);exact⟨j,b,by unfold wK;rw[e];exact d,q⟩
 |false=>obtain⟨j,b,d,q⟩:=(q:E g Γ a Q);exact⟨j,b,by unfold wK;rw[e];exact d,q⟩
def di{i:Nat}{f:bD}{Q:Out->Prop}(h:E f Γ S λd a=>Q (.nx (Γ.set i (some d)) a)):T (aU i f) Γ S Q:=by
 obtain⟨d,a,b,q⟩:=h
 exact⟨_,by unfold aU;rw[b];rfl,q⟩
def eM{f:bD}{Q:Out->Prop}(h:E f Γ S λd a=>Q (.rt d a)):T (cp f) Γ S Q:=by
 obtain⟨d,a,b,q⟩:=h
 exact⟨_,by unfold cp;rw[b];rfl,q⟩
def Lg{f:h_}{Q:Out->Prop}(h:E f Γ S λd a=>Q (.rl d a)):T (Gk f) Γ S Q:=by
 obtain⟨d,a,b,q⟩:=h
 exact⟨_,by unfold Gk;rw[b];rfl,q⟩
def fm{f:bD}{Q:Out->Prop}(h:E f Γ S λd a=>Q (.nx Γ a)):T (g7 f) Γ S Q:=by
 obtain⟨d,a,b,q⟩:=h
 exact⟨_,by unfold g7;rw[b];rfl,q⟩
def cc{Q:Out->Prop}(q:Q (.nx Γ S)):T fu Γ S Q:=⟨_,rfl,q⟩
def u3{f:bD}{g:ni}{Q:Out->Prop}(h:E f Γ S λd b=>Tg g d Γ b λa S2=>Q (.nx a S2)):T (j9 f g) Γ S Q:=by
 obtain⟨d,b,c,a,S2,e,q⟩:=h
 exact⟨_,by unfold j9;rw[c];simp only[Qbq];rw[e];rfl,q⟩
def aK{f g:cA}{Q:Out->Prop}(h:T f Γ S (bS g Q)):T (aE f g) Γ S Q:=by
 obtain⟨o,b,q⟩:=h
 cases o with
 |nx a c=>obtain⟨o,d,q⟩:=(q:T g a c Q);exact⟨o,by unfold aE;rw[b];exact d,q⟩
 |_=>exact⟨_,by unfold aE;rw[b];rfl,q⟩
def bU{c:jE}{f g:cA}{Q:Out->Prop}(h:E c Γ S λk a=>if k=true then T f Γ a Q else T g Γ a Q):T (cY c f g) Γ S Q:=by
 obtain⟨k,a,d,q⟩:=h
 cases k with
 |true=>obtain⟨j,b,q⟩:=(q:T f Γ a Q);exact⟨j,by unfold cY;rw[d];exact b,q⟩
 |false=>obtain⟨j,b,q⟩:=(q:T g Γ a Q);exact⟨j,by unfold cY;rw[d];exact b,q⟩
def aX{i:Nat}{d:D}{Q:cy->aD->Prop}(q:Q (Γ.set i (some d)) S):Tg (bH i) d Γ S Q:=⟨_,_,rfl,q⟩
def Jo{f g:bD}{d:D}{Q:cy->aD->Prop}(h:E f Γ S λx a=>E g Γ a λy S2=>∃k i ds j,x=.ref k/\y=.int i/\S2[k]?=some (.lst ds)/\CD ds.length i=some j/\Q Γ (S2.set k (.lst (ds.set j d)))):Tg (wx f g) d Γ S Q:=by
 obtain⟨x,a,b,y,S2,c,k,i,ds,j,rfl,rfl,h1,h2,q⟩:=h
 exact⟨_,_,by unfold wx;rw[b];simp only[Qbq];rw[c];simp only[Qbq,h1,h2],q⟩
def QI{f g h:bD}{Q:Out->Prop}(w:E f Γ S λx c=>E g Γ c λy S2=>∃k i ds m,x=.ref k/\y=.int i/\S2[k]?=some (.lst ds)/\0<=i/\ds[i.toNat]?=some (.int m)/\E h Γ S2 λz b=>∃n a j,z=.int n/\b[k]?=some (.lst a)/\CD a.length i=some j/\Q (.nx Γ (b.set k (.lst (a.set j (.int (m+n))))))):T (OG f g h) Γ S Q:=by
 obtain⟨x,c,e,y,S2,d,k,i,ds,m,rfl,rfl,h1,h2,h3,z,b,e3,n,a,j,rfl,h4,h5,q⟩:=w
 exact⟨_,by unfold OG;rw[e];simp only[Qbq];rw[d];simp only[Qbq,h1,Qhq h2,h3,e3,h4,h5],q⟩
def gV{i:yd}{g:ni}{b:cA}{Q:Out->Prop} (h:E i Γ S λp u=>∃I:Nat->cy->aD->Prop,I 0 Γ u/\(∀n a c,I n a c->p.2 c)∧
   (∀(n:Nat) (d:D) (a:cy) (c:aD),p.1[n]?=some d->I n a c->Tg g d a c λs S2=>bS b (bV I n Q) (.nx s S2))∧
   ∀a c,I p.1.length a c->Q (.nx a c)):T (i8 i g b) Γ S Q:=by
 obtain⟨⟨r,W⟩,u,B,I,A,y,f,l⟩:=h
 have C:∀(k n:Nat) (a:cy) (c:aD),n+k=r.length->I n a c->∃o,forL g b W (r.drop n) a c=some o/\Q o:=by
  intro k
  induction k with
  | zero=>
    intro n a c w m
    rw[List.drop_of_length_le (by omega)]
    refine⟨.nx a c,by simp only[forL];rw[Qhq (y _ _ _ m)],l _ _ (by rw[←w];exact m)⟩
  | succ k x=>
    intro n a c w m
    have t:n<r.length:=by omega
    rw[QWq t]
    obtain⟨s,S2,v,o,z,q⟩:=f n r[n] a c (gQe t) m
    simp only[forL]
    rw[Qhq (y _ _ _ m),v]
    simp only[Qbq]
    rw[z]
    simp only[Qbq]
    cases o with
    |nx e j=>exact x (n+1) e j (by omega) q
    |ct e j=>exact x (n+1) e j (by omega) q
    |bk e j=>exact⟨_,rfl,q⟩
    |rt d j=>exact⟨_,rfl,q⟩
    |rl d j=>exact⟨_,rfl,q⟩
 obtain⟨o,v,q⟩:=C r.length 0 Γ u (by omega) A
 exact⟨o,by unfold i8;rw[B];exact v,q⟩
def jt{js:List (Option Nat)}{i:yd}{g:ni}{t:jE}{f:bD}{Q:List D->aD->Prop} (h:E i Γ S λp x=>∃I:Nat->cy->aD->List D->Prop,I 0 (pk js Γ) x []/\(∀n b e a,I n b e a->p.2 e)∧
   (∀(n:Nat) (d:D) (b:cy) (e:aD) (a:List D),p.1[n]?=some d->I n b e a->Tg g d b e λj S2=>E t j S2 λk w=>if k=true then E f j w λy A=>a.length<sizeLine/\I (n+1) j A (a++ [y]) else I (n+1) j w a)∧
   ∀b e a,I p.1.length b e a->Q a e):E (bA js i g t f) Γ S Q:=by
 obtain⟨⟨u,W⟩,x,J,I,H,F,m,o⟩:=h
 have L:∀(k n:Nat) (b:cy) (e:aD) (a:List D),n+k=u.length->I n b e a->∃r l,nX g t f W (u.drop n) b e a=some (r,l)/\Q r l:=by
  intro k
  induction k with
  | zero=>
    intro n b e a B s
    rw[List.drop_of_length_le (by omega)]
    refine⟨a,e,by simp only[nX];rw[Qhq (F _ _ _ _ s)],o _ _ _ (by rw[←B];exact s)⟩
  | succ k C=>
    intro n b e a B s
    have v:n<u.length:=by omega
    rw[QWq v]
    obtain⟨j,S2,z,c,w,G,q⟩:=m n u[n] b e a (gQe v) s
    simp only[nX]
    rw[Qhq (F _ _ _ _ s),z]
    simp only[Qbq]
    rw[G]
    simp only[Qbq]
    cases c with
    | true=>
      rw[Qhq rfl] at q⊢
      obtain⟨y,A,K,M,q⟩:=q
      rw[K]
      simp only[Qbq]
      rw[Qhq M]
      exact C (n+1) j A _ (by omega) q
    | false=>
      rw[Quq (by decide)] at q⊢
      exact C (n+1) j w _ (by omega) q
 obtain⟨r,l,z,q⟩:=L u.length 0 _ x [] (by omega) H
 exact⟨r,l,by unfold bA;rw[J];exact z,q⟩
def Iz{f:bD}{Q:(List D×(aD->Prop))->aD->Prop}(h:E f Γ S λd a=>∃j,d=.int j/\(-(2^62)<=j/\j<2^62)/\Q (jZ 0 j,λ_=>True) a):E (uJ f) Γ S Q:=by
 obtain⟨d,a,b,j,rfl,hj,q⟩:=h
 exact⟨_,a,by unfold uJ;rw[b];simp only[Qbq];rw[Qhq hj],q⟩
def kR{f:fh}{Q:(List D×(aD->Prop))->aD->Prop}(h:E f Γ S λp a=>Q (p.1,λb=>p.2.stays b p.1) a):E (fK f) Γ S Q:=by
 obtain⟨p,a,c,q⟩:=h
 exact⟨_,a,by unfold fK;rw[c];rfl,q⟩
def fZ{m:List D->List D->Option (List D×D)}{f:bD}{g:h_}{Q:D->aD->Prop}(h:E f Γ S λx b=>∃k a,x=.ref k/\b[k]?=some (.lst a)/\E g Γ b λys S2=>∃ds,S2[k]?=some (.lst ds)/\Op (m ds ys) λp=>Q p.2 (S2.set k (.lst p.1))):E (i9 m f g) Γ S Q:=by
 obtain⟨x,b,c,k,a,rfl,h1,ys,S2,e2,ds,h2,p,e3,q⟩:=h
 exact⟨_,_,by unfold i9;rw[c];simp only[Qbq,e2,h1,h2,e3],q⟩
end
def cq{n:Nat}{b:cA}{ds:List D}{S:aD}{Q:Res->aD->Prop}(h:bS b (eZ S Q) (.nx (ds.map some++List.replicate (n-ds.length) none) S)):Fn (eP n b) ds S Q:=by
 obtain⟨o,e,q⟩:=h
 cases o with
 |nx g f=>obtain⟨⟨r,a⟩,c,q⟩:=q;exact⟨r,a,by unfold eP;rw[e];exact c,q⟩
 |rt d f=>obtain⟨⟨r,a⟩,c,q⟩:=q;exact⟨r,a,by unfold eP;rw[e];exact c,q⟩
 |rl d f=>obtain⟨⟨r,a⟩,c,q⟩:=q;exact⟨r,a,by unfold eP;rw[e];exact c,q⟩
 |bk=>exact q.elim
 |ct=>exact q.elim
def iE{S a S2:aD}{d:D}{Q:Res×aD->Prop}(c:p_ S a)(ht:a.take S.length=S2)(hd:∀k,d≠.ref k)(b:cm S.length d=true)(q:Q (.d d,S2)):Op (settle S d a) Q:=by
 refine⟨_,?_,q⟩
 unfold settle
 rw[Qhq c,ht]
 cases d with
 |ref k=>exact absurd rfl (hd k)
 |_=>simp only[b,if_true]
def pD{S a S2:aD}{ds:List D}{Q:Res×aD->Prop}(b:p_ S a)(ht:a.take S.length=S2)(c:b_ S.length ds=true)(q:Q (.l ds,S2)):Op (eO S ds a) Q:=by
 refine⟨_,?_,q⟩
 unfold eO
 rw[Qhq ⟨b,c⟩,ht]
def vm{S:aD}:p_ S S:=⟨Qmq _,λk o _ h=>.inl h⟩
def xp{S:aD}{k:Nat}{o:O}(h:JK S.length o=true):p_ S (S.set k o):=by
 refine⟨by simp,λj u _ e=> ?_⟩
 rw[List.getElem?_set] at e
 split at e
 ·split at e
  ·cases e;exact .inr h
  ·cases e
 ·exact .inl e
end DL
namespace L2
open PySem PySem.Spec PyProof.Rows
end L2
namespace DL
open PySem PySem.Spec L2
end DL
namespace L2
open PySem PySem.Spec PyProof.Rows
section
variable{X:Cx}
def NB:V->List V->Hp->VK->Prop:=λx b H Q=>∃(l:Addr) (a:List V) (i:Int) (y:V),x=.ref l/\b= [.int i,y]/\H l=some (.lst a)/\0<=i/\i<1000000/\i.toNat<=a.length/\a.length<sizeLine/\Q .non (upd H l (.lst (a.take i.toNat++y::a.drop i.toNat)))
def JP{a:List Value}{i:Int}{u:Value}(c:0<=i)(b:i.toNat<=a.length):(a.toArray.extract 0 (if i<0 then(i+(a.toArray.size:Int)).toNat else min i.toNat a.toArray.size)).push u++a.toArray.extract (if i<0 then(i+(a.toArray.size:Int)).toNat else min i.toNat a.toArray.size)=(a.take i.toNat++u::a.drop i.toNat).toArray:=by
 rw[Quq (by omega),Qjq,Nat.min_eq_left b]
 apply Array.toList_inj.mp
 simp
 exact List.take_of_length_le (by rw[List.length_drop];exact Qmq _)
def FT:L_ X "list.insert" NB:=by
 intro d s A H x m v w Q I g k h
 obtain⟨l,p,i,y,rfl,rfl,hH,h0,h1,hk,hz,q⟩:=h
 cases g
 obtain⟨o,u,rfl,r1,ru⟩:=k.two
 obtain⟨t,rfl⟩:=r1
 obtain⟨z,a,n,r,f,e⟩:=I.lstM hH
 have j:Builtin.List.listFitsIndex i=true:=fitsIndex_both (Int.le_trans (by decide) h0) (Int.lt_trans h1 (by decide))
 have b:a.toArray.size<=sizeLine:=by rw[Qjq,←f];exact nQl hz
 have c:¬(!Builtin.List.listFitsIndex i)=true:=by rw[j];exact Qtq
 refine call_meets F.slot_list_insert ⟨_,e,rfl⟩ F.entry_list_insert (F.args_list_insert_3 _ _ _) (AutoSeq1.list_insert_list_int_val_1 l a.toArray n i t u c b) ⟨e,?_⟩
 refine⟨.non,_,I.lset (its':=a.take i.toNat++u::a.drop i.toNat) hH e (JP h0 (f▸hk)) ((r.take _).append (.cons ru (r.drop _))) ?_,rfl,q⟩
 simp only[lQa,Qxq,Qnq,List.length_drop]
 omega
def D_:V->List V->Hp->VK->Prop:=λx b H Q=>∃l a,x=.ref l/\b= []/\H l=some (.lst a)/\Q .non (upd H l (.lst []))
def Fb:L_ X "list.clear" D_:=by
 intro c s k H x g v j Q I d f h
 obtain⟨l,i,rfl,rfl,hH,q⟩:=h
 cases d
 have b:=f.zero
 subst b
 obtain⟨z,a,n,r,m,e⟩:=I.lstM hH
 refine call_meets F.slot_list_clear ⟨_,e,rfl⟩ F.entry_list_clear (F.args_list_clear_1 _) (AutoSeq1.list_clear_list_0 l a.toArray n (by rw[Qjq];omega)) ⟨e,?_⟩
 exact⟨.non,_,I.lset (its':= []) hH e rfl .nil (Nat.zero_le _),rfl,q⟩
end
end L2
namespace DL
open PySem PySem.Spec PyProof.Rows L2
section
variable{X:Cx}{e e2:Expr}
def JZ:List D->List D->Option (List D×D):=λa b=>match b with
 | [.int i,y]=>if 0<=i/\i<1000000/\i.toNat<=a.length/\a.length<sizeLine then some (a.take i.toNat++y::a.drop i.toNat,.non) else none
 |_=>none
def La{M:Md}:Dp M NB JZ:=by
 intro m H a n r p d j o Q l f g e q
 unfold JZ at e
 split at e
 ·split at e
  ·rename_i i y b
   obtain⟨rfl,rfl⟩:=cD e
   cases g with
   | cons g c=>
     cases c with
     | cons c h=>
       cases h
       cases g
       have k:=f.length
       rw[k] at b
       exact⟨a,j,i,_,rfl,rfl,l,b.1,b.2.1,b.2.2.1,b.2.2.2,q _ _ ((f.take _).append (.cons c (f.drop _))) .non⟩
  ·cases e
 ·cases e
def MJ{f g j:bD}{o:Expr}{b a:Pos}(n:PE X o (tD (md X) f))(k:PE X e (tD (md X) g))(m:PE X e2 (tD (md X) j))(c:attributeBase o "insert" X.env (eval o X.env)=eval o X.env:=by rfl) (h:((backTo a (starEach [e,e2] X.env)).all (λx=> !x.1)&&(backToKw a (keywordEach [] X.env)).all (λx=>x.1.isSome)
   &&decide ([e,e2].length+([]:List Keyword).length+(if ([]:List Keyword).isEmpty then 0 else 1)<30))=true:=by rfl)
  (d:(b.endLine==a.line)=true:=by rfl) (hs:starEach [e,e2] X.env=(false,eval e X.env)::starEach [e2] X.env:=by rfl) (i:starEach [e2] X.env= [(false,eval e2 X.env)]:=by rfl) (l:(backTo a (starEach [e2] X.env)).any (·.1)=false:=by rfl):PE X (.Call (.Attribute o "insert" b) [e,e2] [] a) (tD (md X) (i9 JZ f (aq g (aq j av)))):=
 j_ (wb PySem.F.plainAttrs_list PySem.F.slot_list_insert PySem.F.type_list_insert FT n (cR k (cR m iK i) hs) c h d hs l) (LR La)
def Kg:List D->List D->Option (List D×D):=λ_ a=>match a with
 | []=>some ([],.non)
 |_=>none
def K0{M:Md}:Dp M D_ Kg:=by
 intro i H a l k j d c h Q b g f e q
 unfold Kg at e
 split at e
 ·obtain⟨rfl,rfl⟩:=cD e
  cases f
  exact⟨a,c,rfl,rfl,b,q _ _ .nil .non⟩
 ·cases e
def Oz{f:bD}{o:Expr}{a b:Pos}(g:PE X o (tD (md X) f))(c:attributeBase o "clear" X.env (eval o X.env)=eval o X.env:=by rfl)(d:(a.endLine==b.line)=true:=by rfl):PE X (.Call (.Attribute o "clear" a) [] [] b) (tD (md X) (i9 Kg f av)):=
 j_ (GM PySem.F.plainAttrs_list PySem.F.slot_list_clear PySem.F.type_list_clear Fb g c d) (Ku K0)
end
end DL
namespace L2
open PySem PySem.Spec PyProof.Rows
section
variable{X:Cx}{pos:Pos}
def Pi(K:PySem.W.Frag)(n:Nat)(t:Ib):TG:=λv c H Q=>∃a b,v=.ref a/\i7 K H a b/\b.length=n/\t b c H Q
def Mn{d:List Expr}{k:Nat}{t:Ib}{n:Nat}(B:X.calm=true)(h:Gj X d t)
  (p:(assignEach d X.env).length=n:=by rfl) (i:(assignEach d X.env).findIdx? (·.1)=none:=by rfl):PG X (.Tuple d k pos) (Pi X.K n t):=by
 intro c s j H v u Q I r g
 obtain⟨a,x,y,z,C,g⟩:=g
 subst y
 cases r
 obtain⟨f,l,q,F⟩:=I.list z
 rw[assign_Tuple]
 refine Qaq (wpAny_standAt ?_)
 unfold unpack
 rw[show(assignEach d X.env).length=f.toArray.size by simp[p,←C,l.length],i]
 refine Qaq (QLq (PySem.W.kun_itemsOf (I.ok.hd B) q.isList λw A=> ?_))
 have m:Inv X c j H {s with heap:=w}:=I.kept (t':=s.toks) λb o e=>A b o (Qwq (Qiq e)) e
 exact h c _ j H x _ Q m (by simpa using l) g
end
end L2
namespace DL
open PySem PySem.Spec PyProof.Rows L2
section
variable{X:Cx}{pos:Pos}
def GG(g:oo):ni:=λd a S=>match d with
 | .ref k=>match S[k]? with
   |some (.lst ds)=>g ds a S
   |_=>none
 |_=>none
def Qm{b:List Expr}{k:Nat}{g:oo}{n:Nat}(w:X.calm=true)(h:Gj X b (Oe (md X) g))(m:(assignEach b X.env).length=n:=by rfl)(f:(assignEach b X.env).findIdx? (·.1)=none:=by rfl):
  PG X (.Tuple b k pos) (tG (md X) (GG (nG n g))):=OI (Mn w h m f) λv y H Q ⟨s,x,S,d,i,u,ok,r,e,q⟩=>by
 cases r with
 | @ref k a hr=>
   simp only[GG,nG] at e
   split at e
   · rename_i t o
     split at e
     · rename_i c
       obtain⟨l,p,j⟩:=ok.st.obj k a _ hr o
       exact⟨a,l,rfl,i7.of p,by rw[←j.length];exact c,s,x,S,t,i,u,ok,j,e,q⟩
     · cases e
   · cases e
 |_=>cases e
end
end DL
namespace W28
open PySem PySem.Spec L2 DL
abbrev bP:=aR fR
abbrev bC(v:Nat)(k:Int):=aR fR (ar v) (cF (.int k))
abbrev fM(v:Nat)(k:Int):=aq (aR fR (ar v) (cF (.int k)))
abbrev iB(x:Str):=aq (cF (.str x))
abbrev bj(k:Int):=cF (.int k)
abbrev aC(k:Nat):=aq (ar k)
abbrev eI(k:Int):=aq (cF (.int k))
def qO:cA:=
 (aE (aU 2 (bj 0))
 (aE (cY (aH (aR Ce (ar 1) (g_ (aQ (ar 0))))) (aU 2 (tO IV (aq (bP (ar 0) (ar 1)) av))) fu)
 (aE (aU 3 (aR nH (aR t7 (ar 2) (aR nH (aR yt (bj 10) (bj 60)) (aR yt (bj 10) (bj 60)))) (tO intOfD (aq (aR NU (ar 2) (aR yt (bj 10) (bj 18))) av))))
 (Gk (bu (aC 3 (aq (aR t7 (aR cx (aR cx (ar 2) (aR nH (bj 104729) (ar 1))) (bj 7)) (bj 2305843009213693951)) (eI 0 av))))))))
def nc:cQ:=eP 4 qO
def oE:cA:=
 (aE (cY (aH (aR IQ (bC 0 0) (bj 0))) (aE (aU 2 (aR t7 (bC 0 0) (ar 1)))
 (aE (j9 (aR Ar (bC 0 0) (ar 1)) (wx (ar 0) (bj 0)))
 (cp (ar 2)))) fu)
 (aE (OG (ar 0) (bj 2) (bj 1))
 (aE (aU 3 (aR t7 (aR cx (aR cx (aR nH (bC 0 1) (bj 69069)) (aR nH (bj 9973) (bC 0 2))) (bj 5)) (bj 2305843009213693921)))
 (aE (j9 (aR t7 (aR nH (ar 3) (aR cx (aR cx (aR t7 (ar 3) (bj 999983)) (aR nH (bj 2) (bC 0 2))) (bj 3))) (bj 2305843009213693907)) (wx (ar 0) (bj 1)))
 (cp (aR t7 (aR Ar (bC 0 1) (bj 65537)) (ar 1)))))))
def aG:cQ:=eP 4 oE
def mD:cA:=
 (aE (aU 3 (bM (bA [none,some 1] (fK (ic (bu (iB "a" (iB "b" (iB "c" (iB "d" (iB "e" (iB "zz" av))))))))) (bH 0) bI (aR cx (ar 1) (ar 0)))))
 (Gk (Ez (ic (bA [none,some 0,some 3] (uJ (ar 2)) (bH 0) bI (i9 gK (ar 2) (aq (aw aG (aC 1 (aq (g_ (aQ (ar 2))) av))) av)))))))
def cZ:cQ:=eP 4 mD
def oV:cA:=
 (cp (bP (ar 1) (aw aG (aC 0 (aq (g_ (aQ (ar 1))) av)))))
def bK:cQ:=eP 2 oV
def qM(self:cQ):cA:=
 (aE (aU 4 (aw aG (aC 0 (eI 9 av))))
 (aE (cY (Mg (aH (aR Ce (ar 3) (bj 1))) (aH (aR Ce (ar 4) (bj 3)))) (aE (cY (ia (aH (cV (aQ (ar 1)))) (aH (aR IQ (aw aG (aC 0 (eI 3 av))) (bj 0)))) (cp (aw bK (aC 0 (aC 1 av)))) fu)
 (cp (aw aG (aC 0 (aq (bP (bM (bu (eI 3 (eI 10 av)))) (tO intOfD (aq (aR (dk false) (aw aG (aC 0 (eI 5 av))) (bj 0)) av))) av))))) fu)
 (aE (cY (ia (aH (aR (dk false) (ar 4) (bj 3))) (aH (cV (aQ (ar 2))))) (cp (a_ (iB "waits" (aq (aw bK (aC 0 (aC 2 av))) av)))) fu)
 (aE (cY (aH (aR (dk false) (ar 4) (bj 4))) (cp (a_ (iB "not" (aq (aw self (aC 0 (aC 1 (aC 2 (aq (aR jv (ar 3) (bj 1)) av))))) av)))) fu)
 (aE (aU 5 (bP (bM (bu (iB "plus" (iB "minus" (iB "less" (iB "same" (iB "both" av))))))) (aw aG (aC 0 (eI 5 av)))))
 (cp (a_ (aC 5 (aq (aw self (aC 0 (aC 1 (aC 2 (aq (aR jv (ar 3) (bj 1)) av))))) (aq (aw self (aC 0 (aC 1 (aC 2 (aq (aR jv (ar 3) (bj 1)) av))))) av))))))))))
def bx:Nat->cQ
 |0=>λ_ _=>none
 |n+1=>eP 6 (qM (bx n))
def mv:cA:=
 (aE (aU 4 (bP (bM (bu (eI 0 (iB "given" (aq (aw (bx 4) (aC 0 (aC 1 (aC 2 (eI 1 av))))) av))))) (aw aG (aC 0 (eI 3 av)))))
 (aE (aU 5 (a_ (iB "wait" (aq (aw bK (aC 0 (aC 2 av))) (aC 4 av)))))
 (aE (aU 6 (aw aG (aC 0 (eI 3 av))))
 (aE (cY (aH (aR (dk false) (ar 6) (bj 0))) (Gk (bu (aC 5 av))) fu)
 (aE (aU 7 (a_ (iB "not" (aq (aw (bx 4) (aC 0 (aC 1 (aC 2 (eI 2 av))))) av))))
 (Gk (bu (aq (a_ (iB "unless" (aC 7 (aq (aR cx (ar 3) (bj 3)) av)))) (aC 5 (aq (a_ (iB "go" (aq (bP (bM (bu (aC 3 (aq (aR cx (ar 3) (bj 3)) av)))) (aR jv (ar 6) (bj 1))) av))) av))))))))))
def jk:cQ:=eP 8 mv
def u_:cA:=
 (aE (j9 (aw bK (aC 0 (aC 1 av))) (lA (nG 2 (aJ (bH 4) (aJ (bH 5) dB)))))
 (aE (aU 6 (aw bK (aC 0 (aq (bM (yz (ic (bu (aq (cF .non) av))) (aQ (ar 2)))) av))))
 (cp (a_ (iB "do" (aC 6 (aC 4 (aC 5 (aq (aw (bx 4) (aC 0 (aC 3 (aq (bM (bu av)) (eI 1 av))))) av)))))))))
def mR:cQ:=eP 7 u_
def oG:cA:=
 (aE (j9 (ar 1) (lA (nG 3 (aJ (bH 4) (aJ (bH 5) (aJ (bH 6) dB))))))
 (aE (aU 7 (bM (yz (aQ (ar 5)) (ic (bu (iB "given" av))))))
 (aE (aU 8 (bM (bu av)))
 (aE (i8 (uJ (aR cx (bj 1) (aw aG (aC 0 (aC 3 av))))) (bH 9) (aE (aU 10 (aw aG (aC 0 (eI 9 av))))
 (cY (ia (aH (aR Ce (ar 10) (bj 2))) (aH (cV (aQ (ar 6))))) (g7 (zR (ar 8) (ic (dR jk (aC 0 (aC 7 (aC 6 (aq (g_ (aQ (ar 8))) av)))))))) (cY (ia (aH (aR Ce (ar 10) (bj 4))) (aH (cV (aQ (ar 6))))) (aE (aU 11 (bP (bM (bu (iB "call" (iB "all" av)))) (tO intOfD (aq (qZ (aR (dk false) (ar 4) (cF (.str "when free"))) (aR (dk false) (ar 10) (bj 3))) av))))
 (g7 (i9 ff (ar 8) (aq (a_ (aC 11 (aq (aw bK (aC 0 (aC 6 av))) av))) av)))) (cY (ia (aH (aR (dk false) (ar 10) (bj 4))) (aH (cV (aQ (ar 2))))) (g7 (i9 ff (ar 8) (aq (aw mR (aC 0 (aC 2 (aC 5 (aC 7 av))))) av))) (cY (aH (aR (dk false) (ar 10) (bj 5))) (aE (g7 (i9 ff (ar 8) (aq (a_ (iB "unless" (aq (aw (bx 4) (aC 0 (aC 7 (aC 6 (eI 2 av))))) (aq (aR cx (g_ (aQ (ar 8))) (bj 2)) av)))) av)))
 (g7 (i9 ff (ar 8) (aq (a_ (iB "tell" (aq (aw aG (aC 0 (eI 10 av))) av))) av)))) (cY (ia (aH (aR Ce (ar 10) (bj 8))) (aH (cV (aQ (ar 5))))) (g7 (i9 ff (ar 8) (aq (a_ (iB "put" (aq (aw bK (aC 0 (aC 5 av))) (aq (aw (bx 4) (aC 0 (aC 7 (aC 6 (eI 2 av))))) av)))) av))) (g7 (i9 ff (ar 8) (aq (a_ (iB "tell" (aq (aw (bx 4) (aC 0 (aC 7 (aC 6 (eI 1 av))))) av))) av))))))))))
 (cp (tupQ (cH (aQ (ar 8)))))))))
def kK:cQ:=eP 12 oG
def ow:cA:=
 (aE (aU 5 (aw bK (aC 0 (aC 3 av))))
 (aE (aU 6 (bM (dR cZ (aC 0 (iB "" (aq (bP (bM (bu (eI 1 (eI 1 (eI 2 (eI 0 av)))))) (aw aG (aC 0 (eI 4 av)))) av))))))
 (aE (aU 7 (bM (dR cZ (aC 0 (iB "" (aq (aw aG (aC 0 (aq (aR cx (ar 4) (bj 1)) av))) av))))))
 (aE (aU 8 (bM (bu av)))
 (aE (i8 (fK (ic (dR cZ (aC 0 (iB "" (aq (aR cx (bj 1) (aw aG (aC 0 (eI 3 av)))) av)))))) (bH 9) (aE (aU 10 (bM (bA [none,some 1] (fK (aQ (ar 8))) (bH 0) bI (a_ (aC 1 (fM 0 0 av))))))
 (aE (aU 11 (bM (yz (aQ (ar 2)) (ic (Kc (aQ (ar 10)) (tO intOfD (aq (aR (dk false) (aw aG (aC 0 (eI 5 av))) (bj 0)) av)))))))
 (g7 (i9 ff (ar 8) (aq (a_ (aC 9 (aq (aw kK (aC 0 (aq (a_ (aC 5 (aC 6 (aC 7 av)))) (aC 11 (eI 4 av))))) av))) av))))))
 (aE (aU 12 (tupQ (ic (bA [none,some 0] (fK (aQ (ar 7))) (bH 0) bI (a_ (aC 0 (aq (bP (bM (bu (iB "row" (iB "turns" av)))) (aw aG (aC 1 (eI 2 av)))) av)))))))
 (cp (a_ (aC 1 (aC 5 (aq (tupQ (ic (bA [none,some 0] (fK (aQ (ar 6))) (bH 0) bI (a_ (aC 0 (aq (aw aG (aC 1 (eI 3 av))) av)))))) (aC 12 (aq (tupQ (cH (aQ (ar 8)))) av)))))))))))))
def kX:cQ:=eP 13 ow
def sR:cA:=
 (aE (aU 4 (bM (dR cZ (aC 0 (iB "" (aC 1 av))))))
 (aE (aU 5 (bM (bu av)))
 (aE (IL (aH (cV (aQ (ar 4)))) (aE (aU 6 (bM (bu av)))
 (aE (i8 (fK (aQ (ar 5))) (bH 7) (g7 (zR (ar 6) (ic (bA [none,some 7] (fK (aQ (bC 7 4))) (bH 0) bI (a_ (fM 1 0 (fM 0 0 av))))))))
 (aE (aU 8 (i9 gK (ar 4) (aq (aw aG (aC 0 (aq (g_ (aQ (ar 4))) av))) av)))
 (g7 (i9 ff (ar 5) (aq (aw kX (aC 0 (aC 8 (aC 6 (aC 2 (aC 3 av)))))) av)))))) 4)
 (cp (tupQ (ic (zr (aQ (ar 5)))))))))
def jb:cQ:=eP 9 sR
def mX:cA:=
 (aE (aU 1 (bM (bu av)))
 (aE (i8 (fK (aQ (bC 0 0))) (lA (nG 5 (aJ (bH 2) (aJ (bH 3) (aJ (bH 4) (aJ (bH 5) (aJ (bH 6) dB))))))) (g7 (i9 ff (ar 1) (aq (bM (bu (aq (bM (bA [none,none] (fK (aQ (ar 4))) (lA (nG 2 (aJ (bH 0) (aJ (bH 1) dB)))) bI (ar 1))) (aq (hU (bj 1)) (aq (bM (bu av)) (aq (bM (bu av)) (aq (bM (bA [none] (fK (aQ (ar 5))) (bH 0) bI (bM (bu av)))) av))))))) av))))
 (aE (aU 7 (bM (bu av)))
 (aE (i8 (fK (aQ (bC 0 3))) (lA (nG 2 (aJ (bH 4) (aJ (bH 8) dB)))) (g7 (i9 ff (ar 7) (aq (bM (bu (aq (bM (bA [none,none] (fK (aQ (ar 4))) (lA (nG 2 (aJ (bH 0) (aJ (bH 1) dB)))) bI (ar 1))) (aq (bM (bu (aq (bM (bu (aq (hU (bj 1)) (aq (hU (bj 1)) (eI 0 (eI 0 (eI 0 av))))))) av))) av)))) av))))
 (Gk (bu (aC 1 (aq (bM (bA [none,none] (fK (aQ (bC 0 1))) (lA (nG 2 (aJ (bH 0) (aJ (bH 1) dB)))) bI (bM (bu (aC 1 (aq (bM (bu av)) av)))))) (aq (bM (bA [none,none] (fK (aQ (bC 0 2))) (lA (nG 2 (aJ (bH 0) (aJ (bH 1) dB)))) bI (ar 1))) (aC 7 av))))))))))
def jf:cQ:=Cb 9 mX
def oA:cA:=
 (cp (tupQ (ic (bA [none,none] (fK (aQ (ar 0))) (lA (nG 2 (aJ (bH 0) (aJ (bH 1) dB)))) bI (ar 1)))))
def gc:cQ:=eP 1 oA
def lZ:cA:=
 (aE (j9 (ar 0) (lA (nG 5 (aJ (bH 1) (aJ (bH 2) (aJ (bH 3) (aJ (bH 4) (aJ (bH 5) dB))))))))
 (cp (a_ (aq (aw gc (aC 3 av)) (aq (cF (.int (-1))) (aq (a_ av) (aq (a_ av) (aq (tupQ (ic (bA [none] (fK (aQ (ar 4))) (bH 0) bI (a_ av)))) av))))))))
def jq:cQ:=eP 6 lZ
def Ds:cA:=
 (aE (j9 (ar 0) (lA (nG 4 (aJ (bH 1) (aJ (bH 2) (aJ (bH 3) (aJ (bH 4) dB)))))))
 (aE (aU 5 (a_ (aq (cF (.int (-1))) (aq (cF (.int (-1))) (eI 0 (eI 0 (eI 0 av)))))))
 (cp (a_ (aq (tupQ (ic (bA [none] (fK (aQ (ar 1))) (bH 0) bI (aw jq (aC 0 av))))) (aq (tupQ (ic (bA [none,none] (fK (aQ (ar 2))) (lA (nG 2 (aJ (bH 0) (aJ (bH 1) dB)))) bI (a_ (aC 1 (aq (a_ av) av)))))) (aq (aw gc (aC 3 av)) (aq (tupQ (ic (bA [none,none,some 5] (fK (aQ (ar 4))) (lA (nG 2 (aJ (bH 0) (aJ (bH 1) dB)))) bI (a_ (aq (aw gc (aC 0 av)) (aq (a_ (aC 2 av)) av)))))) av))))))))
def yP:cQ:=eP 6 Ds
def iJ:cA:=
 (aE (i8 (fK (aQ (bC 0 0))) (GG (nG 5 (aJ (bH 2) (aJ (bH 3) (aJ (bH 4) (aJ (bH 5) (aJ (bH 6) dB))))))) (aE (cY (aH (B_ false (ar 1) (ic (yz (aQ (ar 4)) (aQ (ar 5)))))) (cp (cF (.bl true))) fu)
 (i8 (fK (aQ (ar 6))) (bH 7) (cY (aH (B_ false (ar 1) (ic (bA [none,none] (fK (aQ (ar 7))) (lA (nG 2 (aJ (bH 0) (aJ (bH 1) dB)))) bI (ar 1))))) (cp (cF (.bl true))) fu))))
 (cp (J3 (ic (bA [none,none,some 1] (fK (aQ (bC 0 1))) (GG (nG 2 (aJ (bH 0) (aJ (bH 1) dB)))) bI (B_ false (ar 2) (aQ (ar 1))))))))
def fU:cQ:=eP 8 iJ
def qI:cA:=
 (aE (aU 2 (bM (bu av)))
 (aE (i8 (uJ (g_ (aQ (bC 0 3)))) (bH 3) (aE (aU 4 (bP (bP (bP (bC 1 3) (ar 3)) (bj 1)) (hU (bj 1))))
 (aE (aU 5 (qZ (aR Ce (bC 4 0) (bj 0)) (aR (dk false) (bC 4 2) (g_ (aQ (bP (bP (bC 0 3) (ar 3)) (bj 1)))))))
 (cY (ia (wF (jW (ar 5))) (wF (jW (aw fU (aC 1 (aC 3 av)))))) (g7 (i9 ff (ar 2) (aC 3 av))) fu))))
 (cp (ar 2))))
def m5:cQ:=eP 6 qI
def oD:cA:=
 (aE (cY (ia (aH (B_ false (ar 2) (aQ (ar 1)))) (aH (aR (dk false) (aw aG (aC 0 (eI 2 av))) (bj 0)))) (cp (ar 2)) fu)
 (cp (aw bK (aC 0 (aC 1 av)))))
def kH:cQ:=eP 3 oD
def jB:cA:=
 (aE (cY (aH (aR Ce (bC 2 0) (bj 0))) (cp (bP (bP (bC 0 3) (ar 1)) (bj 1))) fu)
 (cp (bP (bP (bP (bP (bC 0 0) (bC 2 0)) (bj 4)) (bC 2 1)) (bj 1))))
def fA:cQ:=eP 3 jB
def mw:cA:=
 (cY (aH (aR Ce (bC 0 1) (bj 0))) (j9 (ar 1) (wx (ar 0) (bj 1))) (g7 (i9 ff (bC 0 2) (aC 1 av))))
def g6:cQ:=Cb 2 mw
def mK:cA:=
 (aE (j9 (hU (bj 1)) (wx (ar 0) (bj 1)))
 (cY (aH (cV (aQ (bC 0 3)))) (j9 (i9 gK (bC 0 3) (eI 0 av)) (wx (ar 0) (bj 1))) (cY (aH (cV (aQ (bC 0 2)))) (j9 (i9 gK (bC 0 2) (eI 0 av)) (wx (ar 0) (bj 1))) fu)))
def gZ:cQ:=Cb 1 mK
def oZ:cA:=
 (cp (GR (ic (bA [none] (fK (aQ (ar 0))) (bH 0) bI (bC 0 0))) (ar 1)))
def c9:cQ:=eP 2 oZ
def rR:cA:=
 (aE (aU 5 (bP (bP (bP (bC 1 3) (ar 2)) (bj 1)) (hU (bj 1))))
 (cY (aH (aR NU (bC 5 0) (bj 0))) (j9 (ar 4) (wx (bP (bP (bC 1 0) (bC 5 0)) (bj 0)) (aw c9 (aq (bP (bP (bC 0 0) (bC 5 0)) (bj 2)) (aC 3 av))))) (cY (aH (B_ false (ar 3) (ic (bA [none] (fK (aQ (bP (bP (bC 0 3) (ar 2)) (bj 0)))) (bH 0) bI (bC 0 0))))) (j9 (ar 4) (wx (bP (bP (bC 1 3) (ar 2)) (bj 0)) (aw c9 (aq (bP (bP (bC 0 3) (ar 2)) (bj 0)) (aC 3 av))))) (j9 (ar 4) (wx (bC 1 2) (aw c9 (fM 0 2 (aC 3 av))))))))
def j6:cQ:=Cb 6 rR
def rq:cA:=
 (aE (aU 3 (bP (bP (bC 1 3) (ar 2)) (bj 1)))
 (aE (j9 (i9 Gc (ar 3) av) (GG (nG 5 (aJ (bH 4) (aJ (bH 5) (aJ (bH 6) (aJ (bH 7) (aJ (bH 8) dB))))))))
 (aE (g7 (aw gZ (aq (bP (bC 1 0) (ar 4)) av)))
 (aE (aU 9 (bP (aw fA (aC 0 (aC 2 (aq (bP (ar 3) (hU (bj 1))) av)))) (aR jv (bP (bP (ar 3) (hU (bj 1))) (bj 2)) (bj 1))))
 (cY (aH (aR (BF true) (bC 9 1) (cF .non))) (g7 (aw j6 (aC 0 (aC 1 (aC 2 (fM 9 1 (aC 8 av))))))) fu)))))
def nB:cQ:=Cb 10 rq
def mG(self:cQ):cA:=
 (aE (cY (jW (pd "int" (ar 0))) (cp (ar 0)) fu)
 (aE (cY (jW (pd "str" (ar 0))) (cp (Ld (ar 1) (ar 0))) fu)
 (aE (cY (aH (aR (dk false) (bC 0 0) (cF (.str "waits")))) (cp (tO intOfD (aq (aR IQ (Ld (ar 2) (bC 0 1)) (bj 0)) av))) fu)
 (aE (aU 3 (bM (bA [none,some 1,some 2] (fK (aQ (vY (ar 0) (vT (bj 1)) wu))) (bH 0) bI (aw self (aC 0 (aC 1 (aC 2 av)))))))
 (aE (cY (aH (aR (dk false) (bC 0 0) (cF (.str "not")))) (cp (tO intOfD (aq (aR (dk false) (bC 3 0) (bj 0)) av))) fu)
 (aE (j9 (ar 3) (GG (nG 2 (aJ (bH 4) (aJ (bH 5) dB)))))
 (aE (cY (aH (aR (dk false) (bC 0 0) (cF (.str "plus")))) (cp (tO minD (eI 9 (aq (aR cx (ar 4) (ar 5)) av)))) fu)
 (aE (cY (aH (aR (dk false) (bC 0 0) (cF (.str "minus")))) (cp (tO maxD (eI 0 (aq (aR jv (ar 4) (ar 5)) av)))) fu)
 (aE (cY (aH (aR (dk false) (bC 0 0) (cF (.str "less")))) (cp (tO intOfD (aq (aR Ce (ar 4) (ar 5)) av))) fu)
 (cp (tO intOfD (aq (wK (aH (aR (dk false) (bC 0 0) (cF (.str "same")))) (aR (dk false) (ar 4) (ar 5)) (qZ (aR IQ (ar 4) (bj 0)) (aR IQ (ar 5) (bj 0)))) av))))))))))))
def dY:Nat->cQ
 |0=>λ_ _=>none
 |n+1=>eP 6 (mG (dY n))
def kZ:cA:=
 (aE (aU 4 (bP (bP (bP (bC 1 3) (ar 2)) (bj 1)) (hU (bj 1))))
 (aE (cY (aH (aR Ce (bC 4 0) (bj 0))) (aE (aU 5 (aR cx (bP (bP (bC 0 3) (ar 2)) (bj 0)) (bC 0 2)))
 (aE (aU 6 (bM (yz (aQ (bP (bP (bC 1 3) (ar 2)) (bj 0))) (aQ (bC 1 2)))))
 (cp (aw (dY 5) (aC 3 (aq (JH (ic (bA [none] (fK (aQ (ar 5))) (bH 0) bI (bC 0 0))) (aQ (ar 6))) (aq Os av))))))) fu)
 (aE (aU 7 (bP (bC 0 0) (bC 4 0)))
 (aE (aU 8 (JH (ic (bA [none] (fK (aQ (bC 7 2))) (bH 0) bI (bC 0 0))) (aQ (bP (bP (bC 1 0) (bC 4 0)) (bj 0)))))
 (aE (Oc (ar 8) (cF (.str "given")) (bC 4 3))
 (aE (aU 9 (bM (bA [none] (fK (aQ (bP (bP (bC 1 0) (bC 4 0)) (bj 4)))) (bH 0) bI (g_ (aQ (ar 0))))))
 (aE (aU 10 (JH (ic (bA [none] (fK (aQ (bC 7 3))) (bH 0) bI (bC 0 0))) (aQ (ar 9))))
 (cp (aw (dY 5) (aC 3 (aC 8 (aC 10 av))))))))))))
def cG:cQ:=eP 11 kZ
def wc:cA:=
 (aE (aU 4 (bP (bP (bP (bP (bC 1 3) (ar 2)) (bj 1)) (hU (bj 1))) (bj 0)))
 (aE (aU 5 (bP (bC 1 0) (ar 4)))
 (aE (aU 6 (aw c9 (aq (bP (bP (bC 0 0) (ar 4)) (bj 3)) (fM 3 1 av))))
 (aE (aU 7 (bP (bC 5 4) (ar 6)))
 (cY (aH (aR (dk false) (bC 3 0) (cF (.str "wait")))) (aE (aU 8 (aR nH (aw cG (aC 0 (aC 1 (aC 2 (fM 3 2 av))))) (tO intOfD (aq (aR (dk false) (bP (bP (bP (bP (bC 0 0) (ar 4)) (bj 3)) (ar 6)) (bj 1)) (cF (.str "turns"))) av))))
 (aE (g7 (i9 JZ (ar 7) (aq (g_ (ic (bA [none,some 8] (fK (aQ (ar 7))) (bH 0) (aH (aR PL (bC 0 0) (ar 1))) (ar 0)))) (aq (a_ (aC 8 (aC 2 av))) av))))
 (g7 (aw gZ (aC 5 av))))) (cY (aH (aR (dk false) (bC 3 0) (cF (.str "all")))) (g7 (i9 Kg (ar 7) av)) (cY (aH (cV (aQ (ar 7)))) (aE (aU 9 (i9 gK (ar 7) (eI 0 av)))
 (cY (aH (aR (dk false) (bP (bP (bC 0 0) (ar 4)) (bj 1)) (cF (.str "at once")))) (aE (j9 (bC 9 1) (wx (ar 5) (bj 1)))
 (g7 (i9 ff (bC 5 3) (aC 2 av)))) fu)) fu)))))))
def oq:cQ:=Cb 10 wc
def vF:cA:=
 (cY (aH (cV (aQ (bC 0 1)))) (g7 (i9 gK (bC 0 1) (eI 0 av))) (j9 (tO minD (eI 9 (aq (aR cx (bC 0 0) (bj 1)) av))) (wx (ar 0) (bj 0))))
def oP:cQ:=Cb 1 vF
def x8:cA:=
 (cY (aH (aR IQ (bC 0 0) (bj 0))) (j9 (aR jv (bC 0 0) (bj 1)) (wx (ar 0) (bj 0))) (g7 (i9 ff (bC 0 1) (aC 1 av))))
def rN:cQ:=Cb 2 x8
def nI:cA:=
 (aE (cY (aH (aR (dk true) (bC 3 0) (cF (.str "take")))) (g7 (aw oP (aq (bP (bC 1 1) (aw c9 (fM 0 1 (fM 3 1 av)))) av))) fu)
 (cY (aH (aR (dk true) (bC 3 0) (cF (.str "give")))) (g7 (aw rN (aq (bP (bC 1 1) (aw c9 (fM 0 1 (aq (bP (ar 3) (hU (bj 1))) av)))) (aC 2 av)))) fu))
def jw:cQ:=Cb 4 nI
def sj:cA:=
 (aE (aU 4 (bP (bP (bP (bC 1 3) (ar 2)) (bj 1)) (hU (bj 1))))
 (aE (cY (aH (aR (dk false) (bC 3 0) (cF (.str "put")))) (g7 (aw j6 (aC 0 (aC 1 (aC 2 (fM 3 1 (aq (aw cG (aC 0 (aC 1 (aC 2 (fM 3 2 av))))) av))))))) (cY (aH (aR (dk false) (bC 3 0) (cF (.str "unless")))) (cY (aH (aR (dk false) (aw cG (aC 0 (aC 1 (aC 2 (fM 3 1 av))))) (bj 0))) (j9 (bC 3 2) (wx (ar 4) (bj 2))) fu) (cY (aH (aR (dk false) (bC 3 0) (cF (.str "go")))) (j9 (bC 3 1) (wx (ar 4) (bj 2))) (cY (aH (aR (dk false) (bC 3 0) (cF (.str "do")))) (aE (aU 5 (aw cG (aC 0 (aC 1 (aC 2 (fM 3 4 av))))))
 (aE (aU 6 (aw c9 (fM 0 0 (fM 3 2 av))))
 (aE (g7 (i9 ff (bP (bP (bC 1 3) (ar 2)) (bj 1)) (aq (bM (bu (aC 6 (aq (aw c9 (aq (bP (bP (bC 0 0) (ar 6)) (bj 4)) (fM 3 3 av))) (eI 0 (aC 5 (eI 0 av))))))) av)))
 (g7 (aw g6 (aq (bP (bC 1 0) (ar 6)) (aC 2 av))))))) (cY (aH (aR (dk false) (bC 3 0) (cF (.str "tell")))) (j9 (aw cG (aC 0 (aC 1 (aC 2 (fM 3 1 av))))) (wx (ar 4) (bj 4))) (cY (aH (B_ false (bC 3 0) (aQ (a_ (iB "wait" (iB "call" (iB "all" av))))))) (g7 (aw oq (aC 0 (aC 1 (aC 2 (aC 3 av)))))) (cY (aH (aR (dk false) (bC 3 0) (cF (.str "say")))) (cp (a_ (aC 2 (aq (aw cG (aC 0 (aC 1 (aC 2 (fM 3 1 av))))) av)))) (g7 (aw jw (aC 0 (aC 1 (aC 2 (aC 3 av)))))))))))))
 (cp (cF .non))))
def j8:cQ:=Cb 7 sj
def oW:cA:=
 (aE (aU 3 (bP (bP (bP (bC 1 3) (ar 2)) (bj 1)) (hU (bj 1))))
 (aE (aU 4 (aw fA (aC 0 (aC 2 (aC 3 av)))))
 (aE (cY (ia (aH (aR NU (bC 3 0) (bj 0))) (aH (aR (dk true) (bP (bP (bC 1 0) (bC 3 0)) (bj 1)) (ar 2)))) (g7 (aw g6 (aq (bP (bC 1 0) (bC 3 0)) (aC 2 av)))) (cY (aH (aR (dk false) (bC 3 2) (g_ (aQ (ar 4))))) (g7 (aw nB (aC 0 (aC 1 (aC 2 av))))) (aE (j9 (aR cx (bC 3 2) (bj 1)) (wx (ar 3) (bj 2)))
 (cp (aw j8 (aC 0 (aC 1 (aC 2 (aq (bP (ar 4) (aR jv (bC 3 2) (bj 1))) av)))))))))
 (cp (cF .non)))))
def ku:cQ:=Cb 5 oW
def mV:cA:=
 (cp (bP (bP (bP (bC 0 3) (ar 1)) (bj 1)) (hU (bj 1))))
def c7:cQ:=eP 2 mV
def sN:cA:=
 (aE (JC 3 4 (fM 2 0 (fM 2 1 av)))
 (aE (cY (aH (aR (dk false) (ar 3) (cF (.int (-1))))) (cp (bP (bP (bC 0 3) (ar 1)) (bj 1))) fu)
 (cp (bP (bP (bP (bP (bC 0 0) (ar 3)) (bj 4)) (ar 4)) (bj 1)))))
def fO:cQ:=eP 5 sN
def rp:cA:=
 (Gk (bA [none] (fK (aQ (ar 0))) (bH 0) bI (bC 0 0)))
def eE:cQ:=eP 1 rp
def rF:cA:=
 (cp (GR (ic (dR eE (aC 0 av))) (ar 1)))
def dr:cQ:=eP 2 rF
def ph:cA:=
 (cp (aR cx (aR cx (vY (ar 0) wu (vT (ar 1))) (a_ (aC 2 av))) (vY (ar 0) (vT (aR cx (ar 1) (bj 1))) wu)))
def dD:cQ:=eP 3 ph
def oF:cA:=
 (cp (aR cx (vY (ar 0) wu (vT (bj 3))) (a_ (aq (aw dD (fM 0 3 (aC 1 (aq (a_ (aC 2 (aC 3 av))) av)))) av))))
def fE:cQ:=eP 4 oF
def pG:cA:=
 (cp (aR cx (a_ (aq (aw dD (fM 0 0 (aC 1 (aC 2 av)))) av)) (vY (ar 0) (vT (bj 1)) wu)))
def c_:cQ:=eP 3 pG
def kJ:cA:=
 (aE (aU 5 (bP (aw c7 (aC 1 (aC 2 av))) (bj 0)))
 (aE (cY (aH (aR (dk true) (ar 5) (cF (.int (-1))))) (aE (aU 6 (aw dr (aq (bP (bP (bC 0 0) (ar 5)) (bj 2)) (aC 3 av))))
 (aE (aU 7 (aw dD (aq (bP (bP (bC 1 0) (ar 5)) (bj 0)) (aC 6 (aC 4 av)))))
 (cp (aw c_ (aC 1 (aC 5 (aq (aR cx (a_ (aC 7 av)) (vY (bP (bC 1 0) (ar 5)) (vT (bj 1)) wu)) av))))))) fu)
 (aE (cY (aH (B_ false (ar 3) (ic (dR eE (fM 0 2 av))))) (aE (aU 8 (aw dD (fM 1 2 (aq (aw dr (fM 0 2 (aC 3 av))) (aC 4 av)))))
 (cp (a_ (fM 1 0 (fM 1 1 (aC 8 (fM 1 3 av))))))) fu)
 (aE (j9 (bP (bC 1 3) (ar 2)) (lA (nG 2 (aJ (bH 7) (aJ (bH 9) dB)))))
 (aE (aU 6 (aw dr (aq (bP (bP (bC 0 3) (ar 2)) (bj 0)) (aC 3 av))))
 (cp (aw fE (aC 1 (aC 2 (aq (aw dD (aC 7 (aC 6 (aC 4 av)))) (aC 9 av)))))))))))
def fJ:cQ:=eP 10 kJ
def jx:cA:=
 (aE (cY (aH (aR (dk false) (ar 0) (cF (.str "plus")))) (cp (tO minD (aq (aR cx (ar 1) (ar 2)) (aq (cF (.int (9))) av)))) fu)
 (aE (cY (aH (aR (dk false) (ar 0) (cF (.str "minus")))) (cp (tO maxD (aq (aR jv (ar 1) (ar 2)) (eI 0 av)))) fu)
 (aE (cY (aH (aR (dk false) (ar 0) (cF (.str "less")))) (cp (wK (aH (aR Ce (ar 1) (ar 2))) (bj 1) (bj 0))) fu)
 (aE (cY (aH (aR (dk false) (ar 0) (cF (.str "same")))) (cp (wK (aH (aR (dk false) (ar 1) (ar 2))) (bj 1) (bj 0))) fu)
 (cp (wK (ia (aH (aR (dk true) (ar 1) (bj 0))) (aH (aR (dk true) (ar 2) (bj 0)))) (bj 1) (bj 0)))))))
def gP:cQ:=eP 3 jx
def sr(self:cQ):cA:=
 (aE (cY (jW (pd "int" (ar 0))) (cp (ar 0)) fu)
 (aE (cY (jW (pd "str" (ar 0))) (cp (Ld (ar 1) (ar 0))) fu)
 (aE (cY (aH (aR (dk false) (bC 0 0) (cF (.str "waits")))) (cp (wK (aH (aR IQ (Ld (ar 2) (bC 0 1)) (bj 0))) (bj 1) (bj 0))) fu)
 (aE (aU 3 (aw self (fM 0 1 (aC 1 (aC 2 av)))))
 (aE (cY (aH (aR (dk false) (bC 0 0) (cF (.str "not")))) (cp (wK (aH (aR (dk false) (ar 3) (bj 0))) (bj 1) (bj 0))) fu)
 (cp (aw gP (fM 0 0 (aC 3 (aq (aw self (fM 0 2 (aC 1 (aC 2 av)))) av))))))))))
def gk:Nat->cQ
 |0=>λ_ _=>none
 |n+1=>eP 4 (sr (gk n))
def nz:cA:=
 (aE (aU 4 (aw c7 (aC 1 (aC 2 av))))
 (aE (aU 5 (bC 4 0))
 (aE (cY (aH (aR (dk false) (ar 5) (cF (.int (-1))))) (aE (aU 6 (JH (ic (dR eE (fM 0 2 av))) (aQ (bC 1 2))))
 (aE (g7 (Ke (ar 6) (JH (ic (dR eE (aq (bP (bP (bC 0 3) (ar 2)) (bj 0)) av))) (aQ (bP (bP (bC 1 3) (ar 2)) (bj 0))))))
 (cp (aw (gk 6) (aC 3 (aC 6 (aq Os av))))))) fu)
 (aE (aU 6 (JH (ic (dR eE (aq (bP (bP (bC 0 0) (ar 5)) (bj 2)) av))) (aQ (bP (bP (bC 1 0) (ar 5)) (bj 0)))))
 (aE (Oc (ar 6) (cF (.str "given")) (bC 4 3))
 (aE (Ni 7 (rC [none,none] (Gn (ic (dR eE (aq (bP (bP (bC 0 0) (ar 5)) (bj 3)) av))) (aQ (bP (bP (bC 1 0) (ar 5)) (bj 4)))) (lA (nG 2 (aJ (bH 0) (aJ (bH 1) dB)))) bI (ar 0) (g_ (aQ (ar 1)))))
 (cp (aw (gk 6) (aC 3 (aC 6 (aC 7 av)))))))))))
def dM:cQ:=eP 8 nz
def zG:cA:=
 (cp (aw fJ (aC 0 (aC 1 (aC 2 (fM 3 1 (aq (aw dM (aC 0 (aC 1 (aC 2 (fM 3 2 av))))) av)))))))
def uc:cQ:=eP 4 zG
def gG:cA:=
 (aE (j9 (bP (bC 0 3) (ar 1)) (lA (nG 2 (aJ (bH 3) (aJ (bH 4) dB)))))
 (cp (aw fE (aC 0 (aC 1 (aC 3 (aq (aR cx (vY (ar 4) wu (vT (hU (bj 1)))) (a_ (aC 2 av))) av)))))))
def dJ:cQ:=eP 5 gG
def yq:cA:=
 (aE (aU 3 (aw c7 (aC 0 (aC 1 av))))
 (cp (aw dJ (aC 0 (aC 1 (aq (aR cx (aR cx (vY (ar 3) wu (vT (bj 2))) (a_ (aC 2 av))) (vY (ar 3) (vT (bj 3)) wu)) av))))))
def ke:cQ:=eP 4 yq
def pe:cA:=
 (aE (cY (aH (aR (dk false) (aw dM (aC 0 (aC 1 (aC 2 (fM 3 1 av))))) (bj 0))) (cp (aw ke (aC 1 (aC 2 (fM 3 2 av))))) fu)
 (cp (ar 1)))
def kC:cQ:=eP 4 pe
def CM:cA:=
 (cp (aw ke (aC 1 (aC 2 (fM 3 1 av)))))
def zo:cQ:=eP 4 CM
def vn:cA:=
 (aE (j9 (bP (bC 0 0) (ar 1)) (lA (nG 5 (aJ (bH 3) (aJ (bH 4) (aJ (bH 5) (aJ (bH 6) (aJ (bH 7) dB))))))))
 (aE (cY (aH (aR (dk false) (ar 4) (cF (.int (-1))))) (cp (aw c_ (aC 0 (aC 1 (aq (a_ (aC 3 (aC 2 (aC 5 (aC 6 (aC 7 av)))))) av))))) fu)
 (cp (aw c_ (aC 0 (aC 1 (aq (a_ (aC 3 (aC 4 (aq (aR cx (ar 5) (a_ (aC 2 av))) (aC 6 (aC 7 av)))))) av)))))))
def mI:cQ:=eP 8 vn
def C6:cA:=
 (aE (aU 4 (aw dr (fM 0 0 (fM 3 2 av))))
 (aE (aU 5 (aw dr (aq (bP (bP (bC 0 0) (ar 4)) (bj 4)) (fM 3 3 av))))
 (aE (aU 6 (a_ (aC 4 (aC 5 (eI 0 (aq (aw dM (aC 0 (aC 1 (aC 2 (fM 3 4 av))))) (eI 0 av)))))))
 (aE (j9 (bP (bC 1 3) (ar 2)) (lA (nG 2 (aJ (bH 7) (aJ (bH 8) dB)))))
 (cp (aw mI (aq (aw fE (aC 1 (aC 2 (aC 7 (aq (aR cx (ar 8) (a_ (aC 6 av))) av))))) (aC 4 (aC 2 av)))))))))
def zf:cQ:=eP 9 C6
def Bn:cA:=
 (aE (aU 4 (bP (aw c7 (aC 1 (aC 2 av))) (bj 0)))
 (cp (a_ (aC 4 (aq (aw dr (aq (bP (bP (bC 0 0) (ar 4)) (bj 3)) (aC 3 av))) av)))))
def mH:cQ:=eP 5 Bn
def u0:cA:=
 (aE (aU 4 (bP (bC 0 0) (ar 1)))
 (cp (aw c_ (aC 0 (aC 1 (aq (aR cx (vY (ar 4) wu (vT (bj 4))) (a_ (aq (aw dD (fM 4 4 (aC 2 (aC 3 av)))) av))) av))))))
def iO:cQ:=eP 5 u0
def CB:cA:=
 (aE (j9 (bP (bC 0 0) (ar 1)) (lA (nG 5 (aJ (bH 2) (aJ (bH 3) (aJ (bH 4) (aJ (bH 5) (aJ (bH 6) dB))))))))
 (aE (cY (jW (ar 5)) (cp (aw c_ (aC 0 (aC 1 (aq (a_ (aC 2 (fM 5 0 (aC 4 (aq (vY (ar 5) (vT (bj 1)) wu) (aC 6 av)))))) av))))) fu)
 (aE (cY (jW (ar 4)) (cp (aw c_ (aC 0 (aC 1 (aq (a_ (aC 2 (fM 4 0 (aq (vY (ar 4) (vT (bj 1)) wu) (aC 5 (aC 6 av)))))) av))))) fu)
 (cp (aw c_ (aC 0 (aC 1 (aq (a_ (aC 2 (aq (cF (.int (-1))) (aC 4 (aC 5 (aC 6 av)))))) av))))))))
def ve:cQ:=eP 7 CB
def Bm:cA:=
 (aE (j9 (aw mH (aC 0 (aC 1 (aC 2 (fM 3 1 av))))) (lA (nG 2 (aJ (bH 4) (aJ (bH 5) dB)))))
 (aE (aU 6 (bj 0))
 (aE (cY (aH (aR (dk false) (bP (bP (bP (bP (bC 0 0) (ar 4)) (bj 3)) (ar 5)) (bj 1)) (cF (.str "turns")))) (aU 6 (aw dM (aC 0 (aC 1 (aC 2 (fM 3 2 av)))))) fu)
 (aE (aU 7 (bP (bP (bP (bC 1 0) (ar 4)) (bj 4)) (ar 5)))
 (aE (aU 8 (g_ (ic (bA [none,none,some 6] (fK (aQ (ar 7))) (lA (nG 2 (aJ (bH 0) (aJ (bH 1) dB)))) (aH (aR PL (ar 0) (ar 2))) (ar 0)))))
 (aE (aU 9 (aw iO (aC 1 (aC 4 (aC 5 (aq (aR cx (aR cx (vY (ar 7) wu (vT (ar 8))) (a_ (aq (a_ (aC 6 (aC 2 av))) av))) (vY (ar 7) (vT (ar 8)) wu)) av))))))
 (cp (aw ve (aC 9 (aC 4 av))))))))))
def vy:cQ:=eP 10 Bm
def Bk:cA:=
 (aE (j9 (aw mH (aC 0 (aC 1 (aC 2 (fM 3 1 av))))) (lA (nG 2 (aJ (bH 4) (aJ (bH 5) dB)))))
 (aE (aU 6 (bP (bP (bP (bC 1 0) (ar 4)) (bj 4)) (ar 5)))
 (aE (cY (wF (jW (ar 6))) (cp (ar 1)) fu)
 (aE (aU 7 (aw iO (aC 1 (aC 4 (aC 5 (aq (vY (ar 6) (vT (bj 1)) wu) av))))))
 (aE (cY (aH (aR (dk false) (bP (bP (bC 0 0) (ar 4)) (bj 1)) (cF (.str "when free")))) (cp (ar 7)) fu)
 (aE (j9 (bP (bC 7 0) (ar 4)) (lA (nG 5 (aJ (bH 8) (aJ (bH 9) (aJ (bH 10) (aJ (bH 11) (aJ (bH 12) dB))))))))
 (cp (aw c_ (aC 7 (aC 4 (aq (a_ (aC 8 (aq (bP (bC 6 0) (bj 1)) (aC 10 (aq (aR cx (ar 11) (a_ (aC 2 av))) (aC 12 av)))))) av)))))))))))
def uN:cQ:=eP 13 Bk
def DQ:cA:=
 (aE (j9 (aw mH (aC 0 (aC 1 (aC 2 (fM 3 1 av))))) (lA (nG 2 (aJ (bH 4) (aJ (bH 5) dB)))))
 (cp (aw iO (aC 1 (aC 4 (aC 5 (aq (a_ av) av)))))))
def yR:cQ:=eP 6 DQ
def vQ:cA:=
 (aE (aU 4 (aw dM (aC 0 (aC 1 (aC 2 (fM 3 1 av))))))
 (cp (aw dJ (aC 1 (aC 2 (aq (aR cx (vY (aw c7 (aC 1 (aC 2 av))) wu (vT (bj 4))) (a_ (aC 4 av))) av))))))
def qp:cQ:=eP 5 vQ
def vA:cA:=
 (cp (aR cx (a_ (fM 0 0 (aq (aw dD (fM 0 1 (aC 1 (aC 2 av)))) av))) (vY (ar 0) (vT (bj 2)) wu)))
def gI:cQ:=eP 3 vA
def GI:cA:=
 (aE (aU 4 (aw dr (fM 0 1 (aC 3 av))))
 (aE (j9 (bP (bC 1 1) (ar 4)) (lA (nG 2 (aJ (bH 5) (aJ (bH 6) dB)))))
 (aE (cY (aH (aR IQ (ar 5) (bj 0))) (cp (aw gI (aC 1 (aC 4 (aq (a_ (aq (aR jv (ar 5) (bj 1)) (aC 6 av))) av))))) fu)
 (cp (aw gI (aC 1 (aC 4 (aq (a_ (aC 5 (aq (aR cx (ar 6) (a_ (aC 2 av))) av))) av))))))))
def zY:cQ:=eP 7 GI
def Bh:cA:=
 (cp (aw zY (aC 0 (aC 1 (aC 2 (fM 3 1 av))))))
def uE:cQ:=eP 4 Bh
def s_:cA:=
 (aE (aU 3 (aw dr (fM 0 1 (aC 2 av))))
 (aE (j9 (bP (bC 1 1) (ar 3)) (lA (nG 2 (aJ (bH 4) (aJ (bH 5) dB)))))
 (aE (cY (jW (ar 5)) (cp (aw gI (aC 1 (aC 3 (aq (a_ (aC 4 (aq (vY (ar 5) (vT (bj 1)) wu) av))) av))))) fu)
 (cp (aw gI (aC 1 (aC 3 (aq (a_ (aq (tO minD (aq (aR cx (ar 4) (bj 1)) (aq (cF (.int (9))) av))) (aC 5 av))) av))))))))
def ji:cQ:=eP 6 s_
def Aj:cA:=
 (cp (aw ji (aC 0 (aC 1 (fM 3 1 av)))))
def uH:cQ:=eP 4 Aj
def A9:cA:=
 (cp (aw zY (aC 0 (aq (aw ji (aC 0 (aC 1 (fM 3 1 av)))) (aC 2 (fM 3 2 av))))))
def vV:cQ:=eP 4 A9
def yX:cA:=
 (cp (ar 1))
def uu:cQ:=eP 4 yX
def nq:List (Str×Str):= [("put","by_put"),("unless","by_unless"),("go","by_go"),("do","by_do"),("wait","by_wait"),("call","by_call"),("all","by_all"),("tell","by_tell"),("take","by_take"),("give","by_give"),("pass","by_pass"),("say","by_say")]
def vW:List (Str×cQ):= [("by_put",uc),("by_unless",kC),("by_go",zo),("by_do",zf),("by_wait",vy),("by_call",uN),("by_all",yR),("by_tell",qp),("by_take",uE),("by_give",uH),("by_pass",vV),("by_say",uu)]
def x_:cA:=
 (aE (aU 4 (Ox nq (bC 3 0)))
 (cp (vL 4 vW (aC 0 (aC 1 (aC 2 (aC 3 av)))))))
def jV:cQ:=eP 5 x_
def sx:cA:=
 (aE (j9 (bP (bC 1 3) (ar 2)) (lA (nG 2 (aJ (bH 3) (aJ (bH 4) dB)))))
 (aE (j9 (bP (ar 4) (hU (bj 1))) (lA (nG 5 (aJ (bH 5) (aJ (bH 6) (aJ (bH 7) (aJ (bH 8) (aJ (bH 9) dB))))))))
 (aE (aU 10 (aw fE (aq (aw ve (aC 1 (aC 5 av))) (aC 2 (aC 3 (aq (vY (ar 4) wu (vT (hU (bj 1)))) av))))))
 (aE (aU 11 (bP (aw fO (aC 0 (aC 2 (aq (bP (ar 4) (hU (bj 2))) av)))) (aR jv (bP (bP (ar 4) (hU (bj 2))) (bj 2)) (bj 1))))
 (aE (cY (aH (aR (BF false) (bC 11 1) (cF .non))) (cp (ar 10)) fu)
 (cp (aw fJ (aC 0 (aC 10 (aC 2 (fM 11 1 (aC 9 av))))))))))))
def jP:cQ:=eP 12 sx
def lO:cA:=
 (aE (aU 3 (aw c7 (aC 1 (aC 2 av))))
 (aE (aU 4 (bC 3 0))
 (aE (cY (ia (aH (aR (dk true) (ar 4) (cF (.int (-1))))) (aH (aR (dk true) (bP (bP (bC 1 0) (ar 4)) (bj 1)) (ar 2)))) (cp (a_ (aq (aw mI (aC 1 (aC 4 (aC 2 av)))) (aq (cF .non) av)))) fu)
 (aE (aU 5 (aw fO (aC 0 (aC 2 (aC 3 av)))))
 (aE (cY (aH (aR (dk false) (bC 3 2) (g_ (aQ (ar 5))))) (cp (a_ (aq (aw jP (aC 0 (aC 1 (aC 2 av)))) (aq (cF .non) av)))) fu)
 (aE (aU 6 (bP (ar 5) (bC 3 2)))
 (aE (aU 7 (cF .non))
 (aE (cY (aH (aR (dk false) (bC 6 0) (cF (.str "say")))) (aU 7 (a_ (aC 2 (aq (aw dM (aC 0 (aC 1 (aC 2 (fM 6 1 av))))) av)))) fu)
 (cp (a_ (aq (aw jV (aC 0 (aq (aw ke (aC 1 (aC 2 (aq (aR cx (bC 3 2) (bj 1)) av)))) (aC 2 (aC 6 av))))) (aC 7 av))))))))))))
def pY:cQ:=eP 8 lO
def qK:cA:=
 (Gk (bA [none,none] (fK (aQ (ar 0))) (lA (nG 2 (aJ (bH 0) (aJ (bH 1) dB)))) bI (ar 1)))
def nk:cQ:=eP 1 qK
def iQ:cA:=
 (aE (aU 1 (bM (bu av)))
 (aE (i8 (fK (aQ (bC 0 1))) (lA (nG 2 (aJ (bH 2) (aJ (bH 3) dB)))) (g7 (xT (ar 1) (aQ (ar 3)))))
 (aE (i8 (fK (aQ (bC 0 0))) (lA (nG 5 (aJ (bH 4) (aJ (bH 5) (aJ (bH 3) (aJ (bH 6) (aJ (bH 7) dB))))))) (aE (g7 (xT (ar 1) (aQ (aR cx (ar 3) (ar 6)))))
 (i8 (fK (aQ (ar 7))) (bH 8) (g7 (zR (ar 1) (ic (dR nk (aC 8 av))))))))
 (cp (ar 1)))))
def eU:cQ:=eP 9 iQ
def iM:cA:=
 (aE (aU 3 (aw c7 (aC 1 (aC 2 av))))
 (cp (qZ (aR (dk false) (bC 3 0) (cF (.int (-1)))) (aR (dk false) (bC 3 2) (g_ (aQ (aw fO (aC 0 (aC 2 (aC 3 av))))))))))
def fX:cQ:=eP 4 iM
def rA:cA:=
 (aE (aU 2 (bM (dR eU (aC 1 av))))
 (Gk (bA [none,some 0,some 1,some 2] (uJ (g_ (aQ (bC 1 3)))) (bH 0) (ia (aH (B_ true (ar 0) (aQ (ar 3)))) (wF (jW (aw fX (aC 1 (aC 2 (aC 0 av))))))) (ar 0))))
def nj:cQ:=eP 3 rA
def we:cA:=
 (aE (cY (aH (B_ true (ar 2) (ic (dR nj (aC 0 (aC 1 av)))))) never fu)
 (cp (aw pY (aC 0 (aC 1 (aC 2 av))))))
def qB:cQ:=eP 3 we
def gf(self:cQ):cA:=
 (aE (cY (jW (pd "tuple" (ar 1))) (aE (cY (Mg (wF (jW (pd "tuple" (ar 0)))) (aH (aR (dk true) (g_ (aQ (ar 0))) (g_ (aQ (ar 1)))))) (cp (cF (.bl false))) fu)
 (cp (Jl (ic (bA [none,none] (Gn (aQ (ar 0)) (aQ (ar 1))) (lA (nG 2 (aJ (bH 0) (aJ (bH 1) dB)))) bI (aw self (aC 0 (aC 1 av)))))))) fu)
 (aE (cY (Mg (jW (pd "str" (ar 1))) (aH (aR (BF false) (ar 1) (cF .non)))) (cp (qZ (aR (dk false) (pd "str" (ar 0)) (pd "str" (ar 1))) (aR (dk false) (ar 0) (ar 1)))) fu)
 (cp (qZ (pd "int" (ar 0)) (qZ (Jr (pd "bool" (ar 0))) (aR (dk false) (ar 0) (ar 1)))))))
def gq:Nat->cQ
 |0=>λ_ _=>none
 |n+1=>eP 2 (gf (gq n))
def kg:cA:=
 (aE (aU 1 (bM (bu av)))
 (aE (i8 (fK (aQ (bC 0 0))) (GG (nG 5 (aJ (bH 2) (aJ (bH 3) (aJ (bH 4) (aJ (bH 5) (aJ (bH 6) dB))))))) (g7 (i9 ff (ar 1) (aq (a_ (aq (tupQ (cH (aQ (ar 2)))) (aC 3 (aq (tupQ (cH (aQ (ar 4)))) (aq (tupQ (cH (aQ (ar 5)))) (aq (tupQ (ic (bA [none] (fK (aQ (ar 6))) (bH 0) bI (tupQ (cH (aQ (ar 0))))))) av)))))) av))))
 (aE (aU 7 (bM (bu av)))
 (aE (i8 (fK (aQ (bC 0 3))) (GG (nG 2 (aJ (bH 2) (aJ (bH 8) dB)))) (g7 (i9 ff (ar 7) (aq (a_ (aq (tupQ (cH (aQ (ar 2)))) (aq (tupQ (ic (bA [none] (fK (aQ (ar 8))) (bH 0) bI (tupQ (cH (aQ (ar 0))))))) av))) av))))
 (cp (a_ (aq (tupQ (cH (aQ (ar 1)))) (aq (tupQ (ic (bA [none,none] (fK (aQ (bC 0 1))) (GG (nG 2 (aJ (bH 0) (aJ (bH 1) dB)))) bI (a_ (aC 0 (aq (tupQ (cH (aQ (ar 1)))) av)))))) (aq (tupQ (cH (aQ (bC 0 2)))) (aq (tupQ (cH (aQ (ar 7)))) av))))))))))
def ip:cQ:=eP 9 kg
def ou:cA:=
 (aE (aU 3 (bM (dR jf (aC 1 av))))
 (aE (aU 4 (aw yP (aC 1 av)))
 (aE (aU 5 (hU (bj 1)))
 (aE (i8 (uJ (ar 2)) (bH 6) (aE (aU 7 (bM (dR m5 (aC 1 (aC 3 av)))))
 (cY (aH (cV (aQ (ar 7)))) (aE (aU 5 (aw kH (aC 0 (aC 7 (aC 5 av)))))
 (aE (aU 8 (aw ku (aC 1 (aC 3 (aC 5 av)))))
 (aE (aU 9 (aw qB (aC 1 (aC 4 (aC 5 av)))))
 (aE (cY (wF (jW (aw (gq 10) (aC 9 (aq (a_ (aq (aw ip (aC 3 av)) (aC 8 av))) av))))) (cp (cF (.bl false))) fu)
 (aU 4 (bC 9 0)))))) fu)))
 (cp (cF (.bl true)))))))
def kY:cQ:=eP 10 ou
def rE:cA:=
 (aE (aU 5 (bM (bu av)))
 (aE (i8 (uJ (aR cx (bj 1) (aw aG (aC 0 (aC 4 av))))) (bH 6) (aE (aU 7 (aw aG (aC 0 (eI 10 av))))
 (cY (ia (aH (aR Ce (ar 7) (bj 5))) (aH (cV (aQ (ar 1))))) (g7 (i9 ff (ar 5) (aq (aw mR (aC 0 (aC 1 (aC 2 (aC 2 av))))) av))) (cY (ia (aH (aR (dk false) (ar 7) (bj 5))) (aH (cV (aQ (ar 3))))) (g7 (i9 ff (ar 5) (aq (a_ (aq (bP (bM (bu (iB "take" (iB "give" av)))) (aw aG (aC 0 (eI 2 av)))) (aq (aw bK (aC 0 (aC 3 av))) av))) av))) (cY (ia (aH (aR (dk false) (ar 7) (bj 6))) (aH (cV (aQ (ar 3))))) (g7 (i9 ff (ar 5) (aq (a_ (iB "pass" (aq (aw bK (aC 0 (aC 3 av))) (aq (aw bK (aC 0 (aC 3 av))) av)))) av))) (cY (ia (aH (aR (dk false) (ar 7) (bj 7))) (aH (cV (aQ (ar 2))))) (g7 (i9 ff (ar 5) (aq (a_ (iB "put" (aq (aw bK (aC 0 (aC 2 av))) (aq (aw (bx 4) (aC 0 (aC 2 (aq (bM (bu av)) (eI 2 av))))) av)))) av))) (cY (aH (aR (dk false) (ar 7) (bj 8))) (aE (g7 (i9 ff (ar 5) (aq (a_ (iB "unless" (aq (aw (bx 4) (aC 0 (aC 2 (aq (bM (bu av)) (eI 2 av))))) (aq (aR cx (g_ (aQ (ar 5))) (bj 2)) av)))) av)))
 (g7 (i9 ff (ar 5) (aq (a_ (iB "say" (aq (aw (bx 4) (aC 0 (aC 2 (aq (bM (bu av)) (eI 1 av))))) av))) av)))) (g7 (i9 ff (ar 5) (aq (a_ (iB "say" (aq (aw (bx 4) (aC 0 (aC 2 (aq (bM (bu av)) (eI 1 av))))) av))) av))))))))))
 (aE (cY (aH (aR (dk false) (aw aG (aC 0 (eI 5 av))) (bj 0))) (g7 (i9 ff (ar 5) (aq (a_ (iB "go" (aq (aw aG (aC 0 (aq (aR cx (g_ (aQ (ar 5))) (bj 2)) av))) av))) av))) fu)
 (cp (tupQ (cH (aQ (ar 5))))))))
def m7:cQ:=eP 8 rE
def mh:cA:=
 (aE (aU 4 (bM (bu av)))
 (aE (i8 (fK (aQ (ar 1))) (bH 5) (g7 (zR (ar 4) (ic (bA [none,some 5] (fK (aQ (bC 5 4))) (bH 0) bI (a_ (fM 1 0 (fM 0 0 av))))))))
 (aE (aU 6 (bM (dR cZ (aC 0 (iB "p" (aq (aw aG (aC 0 (aq (aR cx (ar 3) (bj 1)) av))) av))))))
 (aE (aU 7 (bM (dR cZ (aC 0 (iB "o" (aq (bP (bM (bu (eI 0 (eI 0 (eI 1 (eI 2 av)))))) (aw aG (aC 0 (eI 4 av)))) av))))))
 (aE (aU 8 (bM (bu av)))
 (aE (i8 (uJ (ar 2)) (bH 9) (aE (aU 10 (bM (dR cZ (aC 0 (iB "" (aq (bP (bM (bu (eI 0 (eI 1 (eI 1 (eI 2 av)))))) (aw aG (aC 0 (eI 4 av)))) av))))))
 (aE (aU 11 (aw m7 (aC 0 (aC 4 (aq (bM (yz (aQ (ar 10)) (aQ (ar 7)))) (aC 6 (eI 4 av)))))))
 (g7 (i9 ff (ar 8) (aq (a_ (aq (tupQ (ic (bA [none,some 0] (fK (aQ (ar 10))) (bH 0) bI (a_ (aC 0 (aq (aw aG (aC 1 (eI 3 av))) av)))))) (aC 11 av))) av))))))
 (aE (aU 12 (tupQ (ic (bA [none,some 0] (fK (aQ (ar 6))) (bH 0) bI (a_ (aC 0 (aq (aw aG (aC 1 (eI 3 av))) av)))))))
 (cp (a_ (aC 1 (aC 12 (aq (tupQ (ic (bA [none,some 0] (fK (aQ (ar 7))) (bH 0) bI (a_ (aC 0 (aq (aw aG (aC 1 (eI 3 av))) av)))))) (aq (tupQ (cH (aQ (ar 8)))) av)))))))))))))
def jl:cQ:=eP 13 mh
def Lb:cA:=
 (aE (i8 (uJ (tO maxD (eI 1 (aq (tO minD (aq (g_ (aQ (ar 0))) (eI 4 av))) av)))) (bH 1) (aE (aU 2 (bM (dR nc (aC 0 (aC 1 av)))))
 (aE (aU 3 (aw jb (aC 2 (aq (aR cx (bj 1) (aw aG (aC 2 (eI 3 av)))) (aq (bM (bu (iB "at once" (iB "when free" av)))) (eI 0 av))))))
 (cY (wF (jW (aw kY (aC 2 (aq (aw jl (aC 2 (aC 3 (aq (aR cx (bj 1) (aw aG (aC 2 (eI 4 av)))) (eI 0 av))))) (eI 40 av)))))) (cp (cF (.bl false))) fu))))
 (cp (cF (.bl true))))
def Jg:cQ:=eP 4 Lb
def top(i:Nat):Stmt:=PySem.Challenge.pw_calledroom_k22_deeds_begun_and_ended.main.body.getD i (.Pass ⟨0,0,0,0⟩)
abbrev oI:Stmt:=top 56
abbrev lJ:Stmt:=top 57
abbrev kn:Stmt:=top 59
abbrev mq:Stmt:=top 58
abbrev oU:Stmt:=top 60
abbrev kN:Stmt:=top 61
abbrev rj:Stmt:=top 62
abbrev mU:Stmt:=top 63
abbrev lR:Stmt:=top 64
abbrev ki:Stmt:=top 65
abbrev kI:Stmt:=top 72
abbrev mE:Stmt:=top 10
abbrev kP:Stmt:=top 12
abbrev yo:Stmt:=top 11
abbrev hJ:Stmt:=top 75
abbrev oh:Stmt:=top 76
abbrev mN:Stmt:=top 68
abbrev iH:Stmt:=top 74
abbrev kW:Stmt:=top 79
abbrev kO:Stmt:=top 80
abbrev mY:Stmt:=top 71
abbrev pH:Stmt:=top 78
abbrev oa:Stmt:=top 81
abbrev kj:Stmt:=top 70
abbrev jy:Stmt:=top 77
abbrev lP:Stmt:=top 82
abbrev mm:Stmt:=top 83
abbrev oN:Stmt:=top 84
abbrev iP:Stmt:=top 85
abbrev oT:Stmt:=top 86
abbrev lW:Stmt:=top 87
abbrev kM:Stmt:=top 13
abbrev kA:Stmt:=top 14
abbrev oY:Stmt:=top 23
abbrev og:Stmt:=top 25
abbrev lG:Stmt:=top 15
abbrev lI:Stmt:=top 18
abbrev mj:Stmt:=top 16
abbrev lN:Stmt:=top 27
abbrev i0:Stmt:=top 6
abbrev oB:Stmt:=top 5
abbrev oH:Stmt:=top 26
abbrev vH:Stmt:=top 31
abbrev fV:Stmt:=top 19
abbrev vg:Stmt:=top 20
abbrev mM:Stmt:=top 32
abbrev yG:Stmt:=top 33
abbrev qU:Stmt:=top 28
abbrev yl:Stmt:=top 34
abbrev qJ:Stmt:=top 35
abbrev lY:Stmt:=top 36
abbrev zq:Stmt:=top 29
abbrev rB:Stmt:=top 37
abbrev rf:Stmt:=top 38
abbrev vd:Stmt:=top 39
abbrev sf:Stmt:=top 40
abbrev mr:Stmt:=top 17
abbrev yu:Stmt:=top 42
abbrev rX:Stmt:=top 41
abbrev kh:Stmt:=top 44
abbrev qH:Stmt:=top 43
abbrev qL:Stmt:=top 45
abbrev uP:Stmt:=top 46
abbrev oX:Stmt:=top 48
abbrev oK:Stmt:=top 30
abbrev sh:Stmt:=top 54
abbrev pw:Stmt:=top 21
abbrev g8:Stmt:=top 51
abbrev hX:Stmt:=top 52
abbrev pF:Stmt:=top 50
abbrev rZ:Stmt:=top 53
abbrev lE:Stmt:=top 69
abbrev jA:Stmt:=top 73
abbrev lX:Stmt:=top 88
abbrev oO:Stmt:=top 66
abbrev kB:Stmt:=top 67
abbrev pL:Stmt:=top 89
end W28
namespace W28
open PySem PySem.Spec L2 DL PyProof.Rows
abbrev LQ:List Str:= ["_law_bell"]
abbrev Nv:List Str:= ["_law_deed_here","_law_room_here"]
abbrev CH:List Str:= ["_law_found","_law_due"]
abbrev Jw:List Str:= ["_law_now","_law_own_here"]
abbrev DV:List Str:= ["_law_now"]
abbrev EB:List Str:= ["_law_pair"]
abbrev EE:List Str:= ["_law_pot_here","_law_goals","_law_things","_law_words_here"]
abbrev DI:List Str:= ["_law_pot_here","_law_goals","_law_words_here","_law_passes","_law_most"]
abbrev Em:List Str:= ["_law_pot_here","_law_many","_law_manners","_law_bells_most"]
abbrev EA:List Str:= ["_law_pot_here","_law_many"]
abbrev EC:List Str:= ["_law_pot_here","_law_name","_law_goals","_law_manners","_law_bells_most"]
abbrev ET:List Str:= ["_law_pot_here","_law_room_here","_law_goals","_law_most"]
abbrev DY:List Str:= ["_law_pot_here","_law_rooms_here","_law_hands","_law_passes_most"]
abbrev Ak:List Str:= ["_law_pot_here","_law_some","_law_last"]
abbrev AC:List Str:= ["_law_pot_here","_law_some"]
abbrev DS:List Str:= ["_law_pot_here","_law_stem","_law_many"]
abbrev EN:List Str:= ["_law_pot_here","_law_words_here","_law_bells","_law_at"]
abbrev xh:List Str:= ["_law_pot_here","_law_words_here","_law_bells","_law_deep"]
abbrev Er:List Str:= ["_law_pot_here","_law_world_here","_law_many"]
abbrev Am:List Str:= ["_law_room_here","_law_own_here"]
abbrev AS:List Str:= ["_law_room_here"]
abbrev Ag:List Str:= ["_law_rows","_law_word"]
abbrev Eu:List Str:= ["_law_script","_law_k"]
abbrev HV:List Str:= ["_law_script"]
abbrev Br:List Str:= ["_law_told","_law_own_here"]
abbrev xA:List Str:= ["_law_told","_law_things","_law_waiting"]
abbrev Bt:List Str:= ["_law_told"]
abbrev Im:List Str:= ["_law_word","_law_pot_here"]
abbrev D4:List Str:= ["_law_word","_law_value_here"]
abbrev jX:List Str:= ["_law_world_here","_law_now","_law_own_here","_law_row_here"]
abbrev Ek:List Str:= ["_law_world_here","_law_now","_law_own_here","_law_told"]
abbrev Ed:List Str:= ["_law_world_here","_law_now","_law_own_here","_law_word","_law_value_here"]
abbrev sU:List Str:= ["_law_world_here","_law_now","_law_own_here"]
abbrev EU:List Str:= ["_law_world_here","_law_now"]
abbrev Be:List Str:= ["_law_world_here","_law_own_here","_law_frame"]
abbrev D6:List Str:= ["_law_world_here"]
abbrev Bs:List Str:= ["form","first","second"]
abbrev BO:List Str:= ["line"]
abbrev As:List Str:= ["parts","at","part"]
abbrev Bo:List Str:= ["roll","name"]
abbrev Au:List Str:= ["roll"]
abbrev BD:List Str:= ["room"]
abbrev AA:List Str:= ["scene","at","room"]
abbrev Af:List Str:= ["scene","at","turnstile"]
abbrev EK:List Str:= ["scene","hand","frame"]
abbrev Eg:List Str:= ["scene","hand","row"]
abbrev Ax:List Str:= ["scene","hand","values","frames"]
abbrev BV:List Str:= ["scene","hand"]
abbrev EM:List Str:= ["scene","room","bell","line"]
abbrev DN:List Str:= ["scene","room","hand"]
abbrev y8:List Str:= ["scene","room"]
abbrev yw:List Str:= ["scene"]
abbrev uO:List Str:= ["things"]
abbrev rh:List Str:= ["tree","things","waiting"]
abbrev yi:List Str:= ["world","hand","frame"]
abbrev yH:List Str:= ["world","scene","hand","name"]
abbrev bh:List Str:= ["world","scene","hand","row"]
abbrev zK:List Str:= ["world","scene","hand","tree"]
abbrev yM:List Str:= ["world","scene","hand","word","value"]
abbrev yf:List Str:= ["world","scene","hand","word"]
abbrev eY:List Str:= ["world","scene","hand"]
abbrev yE:List Str:= ["world","scene","name"]
abbrev ye:List Str:= ["world","scene"]
abbrev zA:List Str:= ["world"]
section
variable(P:Program)(w:World)(K:PySem.W.Frag)(mg:Str->Option Value)(base:Heap)
abbrev Dl:Prop:=dS P w K mg base 1 "_law_pot" Eu nc
abbrev cK:Prop:=dS P w K mg base 1 "_law_take" EA aG
abbrev kT:Prop:=dS P w K mg base 2 "_law_words" DS cZ
abbrev eV:Prop:=dS P w K mg base 2 "_law_pick" AC bK
abbrev kE:Prop:=dS P w K mg base 7 "_law_sum" xh (bx 4)
abbrev zE:Prop:=dS P w K mg base 8 "_law_waits" EN jk
abbrev xP:Prop:=dS P w K mg base 8 "_law_do" EE mR
abbrev Av:Prop:=dS P w K mg base 9 "_law_deed" ET kK
abbrev AK:Prop:=dS P w K mg base 10 "_law_room" EC kX
abbrev zL:Prop:=dS P w K mg base 11 "_law_rooms" Em jb
abbrev yV:Prop:=dS P w K mg base 1 "_law_first" D6 jf
abbrev tq:Prop:=dS P w K mg base 1 "values_of" uO gc
abbrev zd:Prop:=dS P w K mg base 2 "begun_room" BD jq
abbrev Kf:Prop:=dS P w K mg base 3 "begun" zA yP
abbrev ub:Prop:=dS P w K mg base 1 "_law_is_bound" Jw fU
abbrev DC:Prop:=dS P w K mg base 2 "_law_may" EU m5
abbrev BZ:Prop:=dS P w K mg base 3 "_law_next" Ak kH
abbrev mO:Prop:=dS P w K mg base 1 "_law_program" Be fA
abbrev pQ:Prop:=dS P w K mg base 1 "_law_enter" Am g6
abbrev qw:Prop:=dS P w K mg base 1 "_law_leave" AS gZ
abbrev jh:Prop:=dS P w K mg base 1 "_law_spot" Ag c9
abbrev vf:Prop:=dS P w K mg base 2 "_law_set" Ed j6
abbrev Dh:Prop:=dS P w K mg base 3 "_law_end" sU nB
abbrev zT:Prop:=dS P w K mg base 6 "_law_value" xA (dY 5)
abbrev nJ:Prop:=dS P w K mg base 7 "_law_reckon" Ek cG
abbrev A1:Prop:=dS P w K mg base 8 "_law_ring" jX oq
abbrev BG:Prop:=dS P w K mg base 1 "_law_give" Bt oP
abbrev C4:Prop:=dS P w K mg base 1 "_law_get" Br rN
abbrev wo:Prop:=dS P w K mg base 2 "_law_counted" jX jw
abbrev DB:Prop:=dS P w K mg base 9 "_law_row" jX j8
abbrev Ap:Prop:=dS P w K mg base 10 "_law_step" sU ku
abbrev d_:Prop:=dS P w K mg base 1 "last_frame" BV c7
abbrev kd:Prop:=dS P w K mg base 1 "program_of" yi fO
abbrev oS:Prop:=dS P w K mg base 1 "names_of" Au eE
abbrev iL:Prop:=dS P w K mg base 2 "place_of" Bo dr
abbrev gX:Prop:=dS P w K mg base 1 "with_part" As dD
abbrev je:Prop:=dS P w K mg base 2 "with_hand" Ax fE
abbrev gR:Prop:=dS P w K mg base 2 "with_room" AA c_
abbrev tm:Prop:=dS P w K mg base 3 "put_thing" yM fJ
abbrev vh:Prop:=dS P w K mg base 1 "value_of_two" Bs gP
abbrev Cy:Prop:=dS P w K mg base 8 "value_of" rh (gk 6)
abbrev gF:Prop:=dS P w K mg base 9 "reckoned" zK dM
abbrev ja:Prop:=dS P w K mg base 3 "with_last_frame" EK dJ
abbrev uK:Prop:=dS P w K mg base 4 "at_row" Eg ke
abbrev xJ:Prop:=dS P w K mg base 3 "come_in" DN mI
abbrev q_:Prop:=dS P w K mg base 3 "bell_of" yf mH
abbrev my:Prop:=dS P w K mg base 3 "with_line" EM iO
abbrev D5:Prop:=dS P w K mg base 3 "leave" y8 ve
abbrev sC:Prop:=dS P w K mg base 2 "with_pass" Af gI
abbrev EH:Prop:=dS P w K mg base 3 "taken" yH zY
abbrev qd:Prop:=dS P w K mg base 3 "given_back" yE ji
abbrev CC:Prop:=dS P w K mg base 11 "row_done" bh jV
abbrev CO:Prop:=dS P w K mg base 4 "end_deed" eY jP
abbrev E1:Prop:=dS P w K mg base 12 "step_of" eY pY
abbrev C2:Prop:=dS P w K mg base 1 "hands_at" BO nk
abbrev tP:Prop:=dS P w K mg base 2 "hands_in_rows" yw eU
abbrev t8:Prop:=dS P w K mg base 2 "is_behind_all" eY fX
abbrev Dt:Prop:=dS P w K mg base 3 "may_step" ye nj
abbrev FS:Prop:=dS P w K mg base 13 "stepped" eY qB
abbrev Ca:Prop:=dS P w K mg base 11 "_law_same" CH (gq 10)
abbrev wH:Prop:=dS P w K mg base 1 "_law_frozen" DV ip
abbrev Ae:Prop:=dS P w K mg base 14 "_law_walk" Er kY
abbrev CQ:Prop:=dS P w K mg base 9 "_law_own" DI m7
abbrev ym:Prop:=dS P w K mg base 10 "_law_world" DY jl
end
def Pj{X:Cx}{a:Expr}{pos:Pos}{f:fh}{p:Pos}(b:Gl X "len")(d:X.mg "len"=none)(c:PE X a (tQ (md X) f))(hs:starEach [a] X.env= [(false,eval a X.env)]):PE X (.Call (.Name "len" p) [a] [] pos) (tD (md X) (g_ f)):=KA b d c hs
def bB{X:Cx}{pos:Pos}{N:List Str}{js:List (Option Nat)}{a:Scope}{c:List (Str×Addr)}{tg b d:Expr}{e:List Expr}{i:yd}{g:ni}{t:jE}{f:bD}(S:aI X N js a c)(j:X.calm=true)(hi:PI X tg b (tI (md X) i))(h:∀C s H fp,PG (aO X N a c C s H fp) tg (tG (md (aO X N a c C s H fp)) g))(ht:∀C s H fp,pq (aO X N a c C s H fp) e (tB (md (aO X N a c C s H fp)) t))(he:∀C s H fp,PE (aO X N a c C s H fp) d (tD (md (aO X N a c C s H fp)) f))(hs:∀x,foldedSetIterable b X.env x=pure x:=by intro _;rfl):PE X (.ListComp d [⟨tg,b,e,0⟩] a pos) (tL (md X) (bA js i g t f)):=II S j hi h ht he hs
def zg{X:Cx}{pos:Pos}{N:List Str}{js:List (Option Nat)}{a:Scope}{j:List (Str×Addr)}{tg b e c:Expr}{h:List Expr}{i:yd}{g:ni}{t:jE}{f:bD}{n:Nat}{d:Pos}(S:aI X N js a j)(p:X.calm=true)(hi:PI X tg b (tI (md X) i))(m:∀C s H fp,PG (aO X N a j C s H fp) tg (tG (md (aO X N a j C s H fp)) g))(ht:∀C s H fp,pq (aO X N a j C s H fp) h (tB (md (aO X N a j C s H fp)) t))(he:∀C s H fp,PE (aO X N a j C s H fp) e (tD (md (aO X N a j C s H fp)) f))(l:PG X c (qe n))(hs:∀x,foldedSetIterable b X.env x=pure x:=by intro _;rfl)(k:swapsWithSole [c] (.ListComp e [⟨tg,b,h,0⟩] a pos) d.line X.env=pure true:=by rfl)(o:(assignEach [c] X.env).map (·.2)= [assign c X.env]:=by rfl):PS X (.Assign [c] (.ListComp e [⟨tg,b,h,0⟩] a pos) d) (tS (md X) (aU n (bM (bA js i g t f)))):=Mf S p hi m ht he l hs k o
def G5{X:Cx}{pos:Pos}{N:List Str}{js:List (Option Nat)}{a:Scope}{d:List (Str×Addr)}{tg b k h c:Expr}{f:List Expr}{i:yd}{g:ni}{t:jE}{m o:bD}{n:Nat}{e:Pos}(S:aI X N js a d)(v:X.calm=true)(hi:PI X tg b (tI (md X) i))(q:∀C s H fp,PG (aO X N a d C s H fp) tg (tG (md (aO X N a d C s H fp)) g))(ht:∀C s H fp,pq (aO X N a d C s H fp) f (tB (md (aO X N a d C s H fp)) t))(p:∀C s H fp,PE (aO X N a d C s H fp) k (tD (md (aO X N a d C s H fp)) m))(u:∀C s H fp,PE (aO X N a d C s H fp) h (tD (md (aO X N a d C s H fp)) o))(l:PG X c (qe n))(hs:∀x,foldedSetIterable b X.env x=pure x:=by intro _;rfl)(j:swapsWithSole [c] (.DictComp k h [⟨tg,b,f,0⟩] a pos) e.line X.env=pure true:=by rfl)(r:(assignEach [c] X.env).map (·.2)= [assign c X.env]:=by rfl):PS X (.Assign [c] (.DictComp k h [⟨tg,b,f,0⟩] a pos) e) (tS (md X) (Ni n (rC js i g t m o))):=J1 S v hi q ht p u l hs j r
local macro_rules|`(tactic|ac_rfl)=>do
 let g (l:List (String×Nat)):Lean.MacroM (Array (Lean.TSyntax `Lean.Parser.Tactic.tacticSeq)):=l.toArray.mapM λ(s,k)=>do
  let ws:=((s.splitOn " ").map λn=>Lean.mkIdent n.toName).toArray
  let h←`(?_)
  let e:=Lean.Syntax.mkApp ⟨ws[0]!.raw⟩ ((ws.toList.tail!.map λw=>⟨w.raw⟩).toArray++Array.replicate k h)
  `(tacticSeq|refine $e)
 let a←g [("Pc",5),("v_",5),("cR",3),("mB",0),("qC",3),("iK",0),("k0",2),("ML",1),("OE",3),("DT",1),("Pu",5),("PP",3),("NW",1),("NN",0),("Od",0),("GV",1),("QM",2),("Ky",1),("Gm",2),("HJ",1),("NH M4 Of",3),("Qt",1),("PQ",0),("P_",5),("Nr",0),("Qn",4),("Hw",6),("Pj",4),("Qb",1),("Oo",3),("OV",1),("PN",0),("NC",6),("Qs",3),("JW",2),("JB",5),("Qf",1),("Qi M4 Of",3),("NH P0 Qa",3),("P7",2),("P1",0),("NH Qw Qe",3),("Qg",2),("O_",1),("OQ",4),("Qo",2),("QE",2),("Qm",4),("QW",0),("Qv",1),("QG",2),("Q2",3),("Qk",3),("MA",10),("NH P5 QC",3),("J_",6),("QA",7),("QZ",5),("Pa",4),("Qy",2),("Hn",6),("Qi P5 QC",3),("Pn",2),("Qi P0 Qa",3),("OK",6),("NH Qu P4",3),("OM",0),("OS",5),("NH P3 QF",3),("P8",6),("NH Ph PY",3),("Mw",6),("On",3),("Qi Qu P4",3),("Pf",4),("NZ",4),("Qd",2),("QO",5),("Q1",3),("Pb",3),("NH OD Om",3),("MJ",9),("Oz",3),("N4",6),("Ow",0),("Qc",5),("Qx",1),("xI",1),("Qp",1),("Ql",1),("OO",1),("Qr",2),("QN",1)]
 let b←g [("IA",1),("PassesOwn.never",0),("KF",0),("JA",0),("Bl.abs",1),("Bl.all",1),("Bl.any",1),("Bl.bool",1),("Bl.dict",1),("Bl.int",1),("Bl.isi",1),("Bl.len",1),("Bl.max",1),("Bl.min",1),("Bl.range",1),("Bl.sorted",1),("Bl.str",1),("Bl.tuple",1),("Bl.zip",1),("k0",2),("xI",1)]
 let c←([("MI FX My Bl.int",0),("PM jT Mz Bl.min",1),("OW jT Mu Bl.max",1),("Pg jT M7 Bl.abs",0),("str",2),("int",2),("tuple",2),("bool",2)]:List (String×Nat)).toArray.mapM λ(s,k)=>do
  let ws:=((s.splitOn " ").map λn=>Lean.mkIdent n.toName).toArray
  if k=2 then
   `(tacticSeq|refine Jk (v:=.ty $(Lean.quote s)) rfl ($(Lean.mkIdent (.str (.str .anonymous "Bl") s)) (by assumption)) $(Lean.mkIdent (.str `PyProof.Rows ("boot_" ++s))) rfl)
  else
   let e←if k=1 then `($(ws[2]!) rfl) else pure ⟨ws[2]!.raw⟩
   `(tacticSeq|((with_reducible refine OY $(ws[0]!) ?_);refine $(ws[1]!) $e rfl ($(ws[3]!) (by assumption)) (by rfl) ?_))
 `(tactic|repeat (first
 |exact rfl
 |exact Or.inl rfl
 |(with_reducible first $[| $a]*)
 |(with_reducible first|refine PW.pt (w_and ?_ ?_)|refine PW.pt (w_or ?_ ?_))
 |refine KP (by assumption) (by assumption) ?_
 |refine FU _ (by assumption) ?_
 |refine MQ (by assumption) (by assumption) ?_
 |refine kU (zw (v:=.int (-1)) rfl (by assumption) ⟨_,rfl⟩) λ_ _=>.int (-1)
 |refine kU (zw (v:=.int (9)) rfl (by assumption) ⟨_,rfl⟩) λ_ _=>.int (9)
 |assumption
 |exact Or.inr rfl
 |exact Or.inr (Or.inl rfl)
 |exact Or.inr (Or.inr rfl)
 |decide
 |omega
 |(intro _ _;rfl)
 |(intro _;rfl)
 |(intro _ _ _;rfl)
 |exact⟨rfl,rfl,rfl,rfl,rfl,rfl,rfl⟩
 |exact λ_ _=>.int _
 |(first $[| $c]*)
 |(first $[| $b]*)))
section
variable{P:Program}{w:World}{K:PySem.W.Frag}{mg:Str->Option Value}{base:Heap}{f:Addr}{fd:FuncData}
def sP:aF ["_law_script","_law_k","_law_cell","_law_digits"] Eu (ay oI):=eC
def B5(F:dF K "_law_pot" "_law_pot" oI f fd)(B:Bl mg):bf P w K mg base df 1 f fd Eu (dC ⟨K,mg⟩ 2 nc):=by
 have d:=sP.nd
 refine bg F sP λb A a s H E c=> ?_
 delta qO
 ac_rfl
def qh:aF ["_law_pot_here","_law_many","_law_digit","_law_mixed"] EA (ay lJ):=eC
def zk(F:dF K "_law_take" "_law_take" lJ f fd)(B:Bl mg):bf P w K mg base df 1 f fd EA (dC ⟨K,mg⟩ 2 aG):=by
 have d:=qh.nd
 refine bg F qh λb A a s H E c=> ?_
 delta oE
 ac_rfl
def nO:aF ["_law_pot_here","_law_stem","_law_many","_law_left"] DS (ay kn):=eC
def xa(F:dF K "_law_words" "_law_words" kn f fd)(B:Bl mg)(c:cK P w K mg base):bf P w K mg base df 2 f fd DS (dC ⟨K,mg⟩ 3 cZ):=by
 have e:=nO.nd
 refine bg F nO λb A a s H E d=> ?_
 delta mD
 ac_rfl
 refine bB (N:= ["_law_one","_law_stem"]) (js:= [none,some 1]) (aI.gen rfl rfl rfl rfl rfl rfl) rfl ?_ (λ_ _ _ _=> ?_) (λ_ _ _ _=> ?_) (λ_ _ _ _=> ?_)
 ac_rfl
 refine bB (N:= ["_law_k","_law_pot_here","_law_left"]) (js:= [none,some 0,some 3]) (aI.gen rfl rfl rfl rfl rfl rfl) rfl ?_ (λ_ _ _ _=> ?_) (λ_ _ _ _=> ?_) (λ_ _ _ _=> ?_)
 ac_rfl
def yT:aF AC AC (ay mq):=eC
def y3(F:dF K "_law_pick" "_law_pick" mq f fd)(B:Bl mg)(c:cK P w K mg base):bf P w K mg base df 2 f fd AC (dC ⟨K,mg⟩ 2 bK):=by
 refine bg F yT λb A a s H E d=> ?_
 delta oV
 ac_rfl
def sO:aF ["_law_pot_here","_law_words_here","_law_bells","_law_deep","_law_way","_law_word"] xh (ay oU):=eC
theorem sW(F:dF K "_law_sum" "_law_sum" oU f fd)(B:Bl mg)(d:cK P w K mg base)(e:eV P w K mg base)(b:Binds K fd xh [])(c:PySem.W.keepIn K (.ref f)=true)(m:mg "_law_sum"=some (.ref f)):∀n,bf P w K mg base df (3+n) f fd xh (dC ⟨K,mg⟩ 4 (bx n))
 |0=>ur
 | n+1=>by
   have j:dS P w K mg base (3+n) "_law_sum" xh (bx n):=⟨f,fd,sW F B d e b c m n,b,c,m⟩
   have l:=sO.nd
   refine bg (k:=3+n) F sO λg A a s H E h=> ?_
   have i:=h.units0
   delta qM
   ac_rfl
def nU:aF ["_law_pot_here","_law_words_here","_law_bells","_law_at","_law_turn","_law_row_here","_law_way","_law_test"] EN (ay kN):=eC
def xg(F:dF K "_law_waits" "_law_waits" kN f fd)(B:Bl mg)(e:kE P w K mg base)(c:cK P w K mg base)(d:eV P w K mg base):bf P w K mg base df 8 f fd EN (dC ⟨K,mg⟩ 4 jk):=by
 have h:=nU.nd
 refine bg F nU λb A a s H E g=> ?_
 delta mv
 ac_rfl
def vo:aF ["_law_pot_here","_law_goals","_law_things","_law_words_here","_law_room_here","_law_deed_here","_law_goal"] EE (ay rj):=eC
def Dd(F:dF K "_law_do" "_law_do" rj f fd)(B:Bl mg)(c:eV P w K mg base)(d:kE P w K mg base):bf P w K mg base df 8 f fd EE (dC ⟨K,mg⟩ 4 mR):=by
 have g:=vo.nd
 refine bg F vo λb A a s H E e=> ?_
 delta u_
 ac_rfl
def pS:aF ["_law_pot_here","_law_room_here","_law_goals","_law_most","_law_manner","_law_things","_law_bells","_law_words_here","_law_rows","_law_k","_law_way","_law_word"] ET (ay mU):=eC
def yB(F:dF K "_law_deed" "_law_deed" mU f fd)(B:Bl mg)(g:cK P w K mg base)(i:zE P w K mg base)(h:eV P w K mg base)(e:xP P w K mg base)(j:kE P w K mg base):bf P w K mg base df 9 f fd ET (dC ⟨K,mg⟩ 4 kK):=by
 have k:=pS.nd
 refine bg F pS λb A a s H E c=> ?_
 have d:=c.units0
 delta oG
 ac_rfl
def p6:aF ["_law_pot_here","_law_name","_law_goals","_law_manners","_law_bells_most","_law_manner","_law_things","_law_bells","_law_deeds","_law_word","_law_here","_law_some","_law_sorts"] EC (ay lR):=eC
def zj(F:dF K "_law_room" "_law_room" lR f fd)(B:Bl mg)(d:eV P w K mg base)(c:kT P w K mg base)(e:cK P w K mg base)(i:Av P w K mg base):bf P w K mg base df 10 f fd EC (dC ⟨K,mg⟩ 5 kX):=by
 have h:=p6.nd
 refine bg F p6 λb A a s H E g=> ?_
 delta ow
 ac_rfl
 refine zg (n:=10) (N:= ["_law_deed_here","_law_name"]) (js:= [none,some 1]) (aI.gen rfl rfl rfl rfl rfl rfl) rfl ?_ (λ_ _ _ _=> ?_) (λ_ _ _ _=> ?_) (λ_ _ _ _=> ?_) ?_
 ac_rfl
 refine bB (N:= ["_law_bell","_law_pot_here"]) (js:= [none,some 0]) (aI.gen rfl rfl rfl rfl rfl rfl) rfl ?_ (λ_ _ _ _=> ?_) (λ_ _ _ _=> ?_) (λ_ _ _ _=> ?_)
 ac_rfl
 refine bB (N:= ["_law_thing","_law_pot_here"]) (js:= [none,some 0]) (aI.gen rfl rfl rfl rfl rfl rfl) rfl ?_ (λ_ _ _ _=> ?_) (λ_ _ _ _=> ?_) (λ_ _ _ _=> ?_)
 ac_rfl
def nR:aF ["_law_pot_here","_law_many","_law_manners","_law_bells_most","_law_names","_law_rooms_here","_law_goals","_law_room_here","_law_name"] Em (ay ki):=eC
def wL(F:dF K "_law_rooms" "_law_rooms" ki f fd)(B:Bl mg)(e:kT P w K mg base)(g:cK P w K mg base)(i:AK P w K mg base):bf P w K mg base df 11 f fd Em (dC ⟨K,mg⟩ 4 jb):=by
 have a:=nR.nd
 refine bg F nR λh A c s H E b=> ?_
 have d:=b.units0
 exact(k0 (FU 4 a (GV (MQ e b (cR (v_ 0) (cR NN (cR (v_ 1) iK))))))
  (k0 (FU 5 a (GV (HJ iK)))
  (k0 (Jm 4 PassesOwn.never (JW d (ML (v_ 4))) (k0 (FU 6 a (GV (HJ iK)))
  (k0 (NC PassesOwn.never rfl (Ky (ML (v_ 5))) (Pu 7 a) (xI (Gm (Hn (v_ 6) (Qt (II (N:=Nv) (js:= [none,some 7]) (aI.gen rfl rfl rfl rfl rfl rfl) rfl (Ky (ML (qC (v_ 7) mB))) (λ_ _ _ _=>(Pc 0)) (λ_ _ _ _=>Nr) (λ_ _ _ _=>(NW (cR (qC (v_ 1) mB) (cR (qC (v_ 0) mB) iK))))))))))
  (k0 (FU 8 a (J_ (v_ 4) (KP g b (cR (v_ 0) (cR (KA rfl B.len (ML (v_ 4))) iK)))))
  (xI (Gm (Hw (v_ 5) (KP i b (cR (v_ 0) (cR (v_ 8) (cR (v_ 6) (cR (v_ 2) (cR (v_ 3) iK)))))))))))))
  (xI (DT (JB rfl B.tuple (Qt (FE rfl B.sorted (ML (v_ 5)))) (ht:=JA)))))))
end
section
variable{P:Program}{w:World}{K:PySem.W.Frag}{mg:Str->Option Value}{base:Heap}{f:Addr}{fd:FuncData}
def nN:aF ["_law_world_here","_law_rooms_here","_law_name","_law_manner","_law_things","_law_bells","_law_deeds","_law_hands","_law_program_here"] D6 (ay kI):=eC
def wO(F:dF K "_law_first" "_law_first" kI f fd)(B:Bl mg):bf P w K mg base df 1 f fd D6 (dC ⟨K,mg⟩ 1 jf):=by
 have d:=nN.nd
 refine iS F nN λb A a s H E c=> ?_
 delta mX
 ac_rfl
 refine bB (N:=D4) (js:= [none,none]) (aI.gen rfl rfl rfl rfl rfl rfl) rfl ?_ (λ_ _ _ _=> ?_) (λ_ _ _ _=> ?_) (λ_ _ _ _=> ?_)
 ac_rfl
 refine bB (N:=LQ) (js:= [none]) (aI.gen rfl rfl rfl rfl rfl rfl) rfl ?_ (λ_ _ _ _=> ?_) (λ_ _ _ _=> ?_) (λ_ _ _ _=> ?_)
 ac_rfl
 refine bB (N:=D4) (js:= [none,none]) (aI.gen rfl rfl rfl rfl rfl rfl) rfl ?_ (λ_ _ _ _=> ?_) (λ_ _ _ _=> ?_) (λ_ _ _ _=> ?_)
 ac_rfl
 refine bB (N:=D4) (js:= [none,none]) (aI.gen rfl rfl rfl rfl rfl rfl) rfl ?_ (λ_ _ _ _=> ?_) (λ_ _ _ _=> ?_) (λ_ _ _ _=> ?_)
 ac_rfl
 refine bB (N:=D4) (js:= [none,none]) (aI.gen rfl rfl rfl rfl rfl rfl) rfl ?_ (λ_ _ _ _=> ?_) (λ_ _ _ _=> ?_) (λ_ _ _ _=> ?_)
 ac_rfl
def yC:aF uO uO (ay mE):=eC
def ze(F:dF K "values_of" "values_of" mE f fd)(B:Bl mg):bf P w K mg base df 1 f fd uO (dC ⟨K,mg⟩ 1 gc):=by
 refine bg F yC λb A a s H E c=> ?_
 delta oA
 ac_rfl
 refine bB (N:= ["word","value"]) (js:= [none,none]) (aI.gen rfl rfl rfl rfl rfl rfl) rfl ?_ (λ_ _ _ _=> ?_) (λ_ _ _ _=> ?_) (λ_ _ _ _=> ?_)
 ac_rfl
def nM:aF ["room","name","manner","things","bells","deeds"] BD (ay kP):=eC
def wB(F:dF K "begun_room" "begun_room" kP f fd)(B:Bl mg)(d:tq P w K mg base){c:Tok}(h:mg "NOBODY"=some (.int (-1) c)):bf P w K mg base df 2 f fd BD (dC ⟨K,mg⟩ 1 jq):=by
 have g:=nM.nd
 refine bg F nM λb A a s H E e=> ?_
 delta lZ
 ac_rfl
 refine bB (N:= ["bell"]) (js:= [none]) (aI.gen rfl rfl rfl rfl rfl rfl) rfl ?_ (λ_ _ _ _=> ?_) (λ_ _ _ _=> ?_) (λ_ _ _ _=> ?_)
 ac_rfl
def Bu:aF ["world","rooms","passes","shared","hands","own"] zA (ay yo):=eC
def IB(F:dF K "begun" "begun" yo f fd)(B:Bl mg)(d:tq P w K mg base)(g:zd P w K mg base){b:Tok}(e:mg "OWN"=some (.int (-1) b)):bf P w K mg base df 3 f fd zA (dC ⟨K,mg⟩ 1 yP):=by
 have i:=Bu.nd
 refine bg F Bu λc A a s H E h=> ?_
 delta Ds
 ac_rfl
 refine bB (N:=BD) (js:= [none]) (aI.gen rfl rfl rfl rfl rfl rfl) rfl ?_ (λ_ _ _ _=> ?_) (λ_ _ _ _=> ?_) (λ_ _ _ _=> ?_)
 ac_rfl
 refine bB (N:= ["name","value"]) (js:= [none,none]) (aI.gen rfl rfl rfl rfl rfl rfl) rfl ?_ (λ_ _ _ _=> ?_) (λ_ _ _ _=> ?_) (λ_ _ _ _=> ?_)
 ac_rfl
 refine bB (N:= ["things","program","own"]) (js:= [none,none,some 5]) (aI.gen rfl rfl rfl rfl rfl rfl) rfl ?_ (λ_ _ _ _=> ?_) (λ_ _ _ _=> ?_) (λ_ _ _ _=> ?_)
 ac_rfl
def j3:aF ["_law_now","_law_own_here","_law_values","_law_within","_law_row_here","_law_late","_law_bells","_law_bell"] Jw (ay hJ):=eC
def qG(F:dF K "_law_is_bound" "_law_is_bound" hJ f fd)(B:Bl mg):bf P w K mg base df 1 f fd Jw (dC ⟨K,mg⟩ 2 fU):=by
 have d:=j3.nd
 refine bg F j3 λb A a s H E c=> ?_
 delta iJ
 ac_rfl
 refine bB (N:= ["_law_turn","_law_other"]) (js:= [none,none]) (aI.gen rfl rfl rfl rfl rfl rfl) rfl ?_ (λ_ _ _ _=> ?_) (λ_ _ _ _=> ?_) (λ_ _ _ _=> ?_)
 ac_rfl
 refine bB (N:= ["_law_value_here","_law_row_here","_law_own_here"]) (js:= [none,none,some 1]) (aI.gen rfl rfl rfl rfl rfl rfl) rfl ?_ (λ_ _ _ _=> ?_) (λ_ _ _ _=> ?_) (λ_ _ _ _=> ?_)
 ac_rfl
def sL:aF ["_law_world_here","_law_now","_law_found","_law_own_here","_law_frame","_law_ended"] EU (ay oh):=eC
def AO(F:dF K "_law_may" "_law_may" oh f fd)(B:Bl mg)(c:ub P w K mg base):bf P w K mg base df 2 f fd EU (dC ⟨K,mg⟩ 2 m5):=by
 have e:=sL.nd
 refine bg F sL λb A a s H E d=> ?_
 delta qI
 ac_rfl
def zh:aF Ak Ak (ay mN):=eC
def Ab(F:dF K "_law_next" "_law_next" mN f fd)(B:Bl mg)(c:cK P w K mg base)(d:eV P w K mg base):bf P w K mg base df 3 f fd Ak (dC ⟨K,mg⟩ 3 kH):=by
 refine bg F zh λb A a s H E e=> ?_
 delta oD
 ac_rfl
def ua:aF Be Be (ay iH):=eC
def tT(F:dF K "_law_program" "_law_program" iH f fd)(B:Bl mg):bf P w K mg base df 1 f fd Be (dC ⟨K,mg⟩ 3 fA):=by
 refine bg F ua λb A a s H E c=> ?_
 delta jB
 ac_rfl
def xc:aF Am Am (ay kW):=eC
def wC(F:dF K "_law_enter" "_law_enter" kW f fd)(B:Bl mg):bf P w K mg base df 1 f fd Am (dC ⟨K,mg⟩ 2 g6):=by
 refine iS F xc λb A a s H E c=> ?_
 delta mw
 ac_rfl
def wX:aF AS AS (ay kO):=eC
def wI(F:dF K "_law_leave" "_law_leave" kO f fd)(B:Bl mg):bf P w K mg base df 1 f fd AS (dC ⟨K,mg⟩ 1 gZ):=by
 refine iS F wX λb A a s H E c=> ?_
 have d:=c.units0
 delta mK
 ac_rfl
def yh:aF Ag Ag (ay mY):=eC
def yW(F:dF K "_law_spot" "_law_spot" mY f fd)(B:Bl mg):bf P w K mg base df 1 f fd Ag (dC ⟨K,mg⟩ 2 c9):=by
 refine bg F yh λb A a s H E c=> ?_
 delta oZ
 ac_rfl
 refine bB (N:= ["_law_row_here"]) (js:= [none]) (aI.gen rfl rfl rfl rfl rfl rfl) rfl ?_ (λ_ _ _ _=> ?_) (λ_ _ _ _=> ?_) (λ_ _ _ _=> ?_)
 ac_rfl
def sM:aF ["_law_world_here","_law_now","_law_own_here","_law_word","_law_value_here","_law_frame"] Ed (ay pH):=eC
def AI(F:dF K "_law_set" "_law_set" pH f fd)(B:Bl mg)(e:jh P w K mg base):bf P w K mg base df 2 f fd Ed (dC ⟨K,mg⟩ 5 j6):=by
 have d:=sM.nd
 refine iS F sM λb A a s H E c=> ?_
 delta rR
 ac_rfl
 refine bB (N:=EB) (js:= [none]) (aI.gen rfl rfl rfl rfl rfl rfl) rfl ?_ (λ_ _ _ _=> ?_) (λ_ _ _ _=> ?_) (λ_ _ _ _=> ?_)
 ac_rfl
def sF:aF ["_law_world_here","_law_now","_law_own_here","_law_frames","_law_room_here","_law_deed_here","_law_row_here","_law_given","_law_told","_law_ahead"] sU (ay oa):=eC
def AJ(F:dF K "_law_end" "_law_end" oa f fd)(B:Bl mg)(d:qw P w K mg base)(h:mO P w K mg base)(c:vf P w K mg base):bf P w K mg base df 3 f fd sU (dC ⟨K,mg⟩ 3 nB):=by
 have g:=sF.nd
 refine iS F sF λb A a s H E e=> ?_
 delta rq
 ac_rfl
def nV:aF ["_law_told","_law_things","_law_waiting","_law_parts","_law_one","_law_other"] xA (ay kj):=eC
theorem n0(F:dF K "_law_value" "_law_value" kj f fd)(B:Bl mg)(b:Binds K fd xA [])(c:PySem.W.keepIn K (.ref f)=true)(m:mg "_law_value"=some (.ref f)):∀n,bf P w K mg base df (1+n) f fd xA (dC ⟨K,mg⟩ 3 (dY n))
 |0=>ur
 | n+1=>by
   have h:dS P w K mg base (1+n) "_law_value" xA (dY n):=⟨f,fd,n0 F B b c m n,b,c,m⟩
   have i:=nV.nd
   refine bg (k:=1+n) F nV λe A a s H E g=> ?_
   have d:=EI g
   delta mG
   ac_rfl
   refine zg (n:=3) (N:= ["_law_part","_law_things","_law_waiting"]) (js:= [none,some 1,some 2]) (aI.gen rfl rfl rfl rfl rfl rfl) rfl ?_ (λ_ _ _ _=> ?_) (λ_ _ _ _=> ?_) (λ_ _ _ _=> ?_) ?_
   ac_rfl
end
section
variable{P:Program}{w:World}{K:PySem.W.Frag}{mg:Str->Option Value}{base:Heap}{f:Addr}{fd:FuncData}
def mZ:aF ["_law_world_here","_law_now","_law_own_here","_law_told","_law_frame","_law_words_here","_law_values","_law_room_here","_law_things","_law_many","_law_waiting"] Ek (ay jy):=eC
def uL(F:dF K "_law_reckon" "_law_reckon" jy f fd)(B:Bl mg)(e:zT P w K mg base):bf P w K mg base df 7 f fd Ek (dC ⟨K,mg⟩ 4 cG):=by
 have g:=mZ.nd
 refine bg F mZ λc A a s H E d=> ?_
 have b:=EI d
 delta kZ
 ac_rfl
 refine bB (N:=EB) (js:= [none]) (aI.gen rfl rfl rfl rfl rfl rfl) rfl ?_ (λ_ _ _ _=> ?_) (λ_ _ _ _=> ?_) (λ_ _ _ _=> ?_)
 ac_rfl
 refine bB (N:=EB) (js:= [none]) (aI.gen rfl rfl rfl rfl rfl rfl) rfl ?_ (λ_ _ _ _=> ?_) (λ_ _ _ _=> ?_) (λ_ _ _ _=> ?_)
 ac_rfl
 refine zg (n:=9) (N:=LQ) (js:= [none]) (aI.gen rfl rfl rfl rfl rfl rfl) rfl ?_ (λ_ _ _ _=> ?_) (λ_ _ _ _=> ?_) (λ_ _ _ _=> ?_) ?_
 ac_rfl
 refine bB (N:=EB) (js:= [none]) (aI.gen rfl rfl rfl rfl rfl rfl) rfl ?_ (λ_ _ _ _=> ?_) (λ_ _ _ _=> ?_) (λ_ _ _ _=> ?_)
 ac_rfl
def qm:aF ["_law_world_here","_law_now","_law_own_here","_law_row_here","_law_number","_law_room_here","_law_spot_here","_law_bell","_law_turn","_law_called"] jX (ay lP):=eC
def zD(F:dF K "_law_ring" "_law_ring" lP f fd)(B:Bl mg)(i:jh P w K mg base)(e:nJ P w K mg base)(g:qw P w K mg base):bf P w K mg base df 8 f fd jX (dC ⟨K,mg⟩ 4 oq):=by
 have h:=qm.nd
 refine iS F qm λb A a s H E c=> ?_
 have d:=c.units0
 delta wc
 ac_rfl
 refine bB (N:= ["_law_one","_law_turn"]) (js:= [none,some 8]) (aI.gen rfl rfl rfl rfl rfl rfl) rfl ?_ (λ_ _ _ _=> ?_) (λ_ _ _ _=> ?_) (λ_ _ _ _=> ?_)
 ac_rfl
def zx:aF Bt Bt (ay mm):=eC
def yZ(F:dF K "_law_give" "_law_give" mm f fd)(B:Bl mg):bf P w K mg base df 1 f fd Bt (dC ⟨K,mg⟩ 1 oP):=by
 refine iS F zx λb A a s H E c=> ?_
 have d:=c.units0
 delta vF
 ac_rfl
def B1:aF Br Br (ay oN):=eC
def B7(F:dF K "_law_get" "_law_get" oN f fd)(B:Bl mg):bf P w K mg base df 1 f fd Br (dC ⟨K,mg⟩ 2 rN):=by
 refine iS F B1 λb A a s H E c=> ?_
 delta x8
 ac_rfl
def t6:aF jX jX (ay iP):=eC
def t9(F:dF K "_law_counted" "_law_counted" iP f fd)(B:Bl mg)(c:BG P w K mg base)(g:jh P w K mg base)(e:C4 P w K mg base):bf P w K mg base df 2 f fd jX (dC ⟨K,mg⟩ 4 jw):=by
 refine iS F t6 λb A a s H E d=> ?_
 delta nI
 ac_rfl
def sY:aF ["_law_world_here","_law_now","_law_own_here","_law_row_here","_law_frame","_law_given","_law_number"] jX (ay oT):=eC
def A_(F:dF K "_law_row" "_law_row" oT f fd)(B:Bl mg)(e:vf P w K mg base)(d:nJ P w K mg base)(k:jh P w K mg base)(g:pQ P w K mg base)(c:A1 P w K mg base)(i:wo P w K mg base):bf P w K mg base df 9 f fd jX (dC ⟨K,mg⟩ 4 j8):=by
 have j:=sY.nd
 refine iS F sY λb A a s H E h=> ?_
 delta sj
 ac_rfl
def pJ:aF ["_law_world_here","_law_now","_law_own_here","_law_frame","_law_program_here"] sU (ay lW):=eC
def yS(F:dF K "_law_step" "_law_step" lW f fd)(B:Bl mg)(h:mO P w K mg base)(d:pQ P w K mg base)(c:Dh P w K mg base)(i:DB P w K mg base):bf P w K mg base df 10 f fd sU (dC ⟨K,mg⟩ 3 ku):=by
 have g:=pJ.nd
 refine iS F pJ λb A a s H E e=> ?_
 delta oW
 ac_rfl
def wQ:aF BV BV (ay kM):=eC
def wR(F:dF K "last_frame" "last_frame" kM f fd)(B:Bl mg):bf P w K mg base df 1 f fd BV (dC ⟨K,mg⟩ 2 c7):=by
 refine bg F wQ λb A a s H E c=> ?_
 delta mV
 ac_rfl
def nT:aF ["world","hand","frame","room","deed"] yi (ay kA):=eC
def w6(F:dF K "program_of" "program_of" kA f fd)(B:Bl mg){d:Tok}(b:mg "OWN"=some (.int (-1) d)):bf P w K mg base df 1 f fd yi (dC ⟨K,mg⟩ 3 fO):=by
 have e:=nT.nd
 refine bg F nT λc A a s H E g=> ?_
 exact(k0 (Ny (Mh (i:=3) (j:=4) rfl e rfl rfl (by decide) rfl rfl (cR (qC (v_ 2) mB) (cR (qC (v_ 2) mB) iK)) rfl))
  (k0 (PP (NH M4 Of (v_ 3) (kU (zw (v:=.int (-1)) rfl b ⟨_,rfl⟩) λ_ _=>.int (-1)) (IA _)) (xI (DT (qC (qC (qC (v_ 0) mB) (v_ 1)) mB))) Od)
  (xI (DT (qC (qC (qC (qC (qC (v_ 0) mB) (v_ 3)) mB) (v_ 4)) mB)))))
def A5:aF Au Au (ay oY):=eC
def B0(F:dF K "names_of" "names_of" oY f fd)(B:Bl mg):bf P w K mg base df 1 f fd Au (dC ⟨K,mg⟩ 1 eE):=by
 refine bg F A5 λb A a s H E c=> ?_
 delta rp
 ac_rfl
 refine bB (N:= ["row"]) (js:= [none]) (aI.gen rfl rfl rfl rfl rfl rfl) rfl ?_ (λ_ _ _ _=> ?_) (λ_ _ _ _=> ?_) (λ_ _ _ _=> ?_)
 ac_rfl
def BR:aF Bo Bo (ay og):=eC
def BH(F:dF K "place_of" "place_of" og f fd)(B:Bl mg)(c:oS P w K mg base):bf P w K mg base df 2 f fd Bo (dC ⟨K,mg⟩ 2 dr):=by
 refine bg F BR λb A a s H E d=> ?_
 delta rF
 ac_rfl
def zH:aF As As (ay lG):=eC
def yK(F:dF K "with_part" "with_part" lG f fd)(B:Bl mg):bf P w K mg base df 1 f fd As (dC ⟨K,mg⟩ 3 dD):=by
 refine bg F zH λb A a s H E c=> ?_
 delta ph
 ac_rfl
def z4:aF Ax Ax (ay lI):=eC
def yJ(F:dF K "with_hand" "with_hand" lI f fd)(B:Bl mg)(d:gX P w K mg base):bf P w K mg base df 2 f fd Ax (dC ⟨K,mg⟩ 4 fE):=by
 refine bg F z4 λb A a s H E c=> ?_
 delta oF
 ac_rfl
def y_:aF AA AA (ay mj):=eC
def yF(F:dF K "with_room" "with_room" mj f fd)(B:Bl mg)(d:gX P w K mg base):bf P w K mg base df 2 f fd AA (dC ⟨K,mg⟩ 3 c_):=by
 refine bg F y_ λb A a s H E c=> ?_
 delta pG
 ac_rfl
def qy:aF ["world","scene","hand","word","value","room","place","values","shared","frames"] yM (ay lN):=eC
def zp(F:dF K "put_thing" "put_thing" lN f fd)(B:Bl mg)(e:d_ P w K mg base)(d:iL P w K mg base)(k:gX P w K mg base)(l:gR P w K mg base)(h:oS P w K mg base)(m:je P w K mg base){c:Tok}(g:mg "OWN"=some (.int (-1) c)):bf P w K mg base df 3 f fd yM (dC ⟨K,mg⟩ 5 fJ):=by
 have j:=qy.nd
 refine bg F qy λb A a s H E i=> ?_
 delta kJ
 ac_rfl
end
section
variable{P:Program}{w:World}{K:PySem.W.Frag}{mg:Str->Option Value}{base:Heap}{f:Addr}{fd:FuncData}
def t_:aF Bs Bs (ay i0):=eC
def tR(F:dF K "value_of_two" "value_of_two" i0 f fd)(B:Bl mg){b:Tok}(d:mg "HIGHEST"=some (.int (9) b)):bf P w K mg base df 1 f fd Bs (dC ⟨K,mg⟩ 3 gP):=by
 refine bg F t_ λc A a s H E e=> ?_
 delta jx
 ac_rfl
def sG:aF ["tree","things","waiting","first"] rh (ay oB):=eC
theorem tw(F:dF K "value_of" "value_of" oB f fd)(B:Bl mg)(e:vh P w K mg base)(b:Binds K fd rh [])(c:PySem.W.keepIn K (.ref f)=true)(m:mg "value_of"=some (.ref f)):∀n,bf P w K mg base df (2+n) f fd rh (dC ⟨K,mg⟩ 3 (gk n))
 |0=>ur
 | n+1=>by
   have i:dS P w K mg base (2+n) "value_of" rh (gk n):=⟨f,fd,tw F B e b c m n,b,c,m⟩
   have j:=sG.nd
   refine bg (k:=2+n) F sG λg A a s H E h=> ?_
   have d:=EI h
   delta sr
   ac_rfl
def sQ:aF ["world","scene","hand","tree","frame","room","things","waiting"] zK (ay oH):=eC
def Bx(F:dF K "reckoned" "reckoned" oH f fd)(B:Bl mg)(g:d_ P w K mg base)(j:oS P w K mg base)(i:Cy P w K mg base){c:Tok}(h:mg "OWN"=some (.int (-1) c)):bf P w K mg base df 9 f fd zK (dC ⟨K,mg⟩ 4 dM):=by
 have k:=sQ.nd
 refine bg F sQ λd A a s H E e=> ?_
 have b:=EI e
 delta nz
 ac_rfl
 refine G5 (n:=7) (N:= ["bell","line"]) (js:= [none,none]) (aI.gen rfl rfl rfl rfl rfl rfl) rfl ?_ (λ_ _ _ _=> ?_) (λ_ _ _ _=> ?_) (λ_ _ _ _=> ?_) (λ_ _ _ _=> ?_) ?_
 ac_rfl
def FN:aF bh bh (ay vH):=eC
def Gf(F:dF K "by_put" "by_put" vH f fd)(B:Bl mg)(c:tm P w K mg base)(e:gF P w K mg base):bf P w K mg base df 10 f fd bh (dC ⟨K,mg⟩ 4 uc):=by
 refine bg F FN λb A a s H E d=> ?_
 delta zG
 ac_rfl
def iU:aF ["scene","hand","frame","values","frames"] EK (ay fV):=eC
def pj(F:dF K "with_last_frame" "with_last_frame" fV f fd)(B:Bl mg)(e:je P w K mg base):bf P w K mg base df 3 f fd EK (dC ⟨K,mg⟩ 3 dJ):=by
 have d:=iU.nd
 refine bg F iU λb A a s H E c=> ?_
 delta gG
 ac_rfl
def xl:aF ["scene","hand","row","frame"] Eg (ay vg):=eC
def F2(F:dF K "at_row" "at_row" vg f fd)(B:Bl mg)(c:d_ P w K mg base)(d:ja P w K mg base):bf P w K mg base df 4 f fd Eg (dC ⟨K,mg⟩ 3 ke):=by
 have g:=xl.nd
 refine bg F xl λb A a s H E e=> ?_
 delta yq
 ac_rfl
def yj:aF bh bh (ay mM):=eC
def y4(F:dF K "by_unless" "by_unless" mM f fd)(B:Bl mg)(d:gF P w K mg base)(e:uK P w K mg base):bf P w K mg base df 10 f fd bh (dC ⟨K,mg⟩ 4 kC):=by
 refine bg F yj λb A a s H E c=> ?_
 delta pe
 ac_rfl
def HS:aF bh bh (ay yG):=eC
def Gw(F:dF K "by_go" "by_go" yG f fd)(B:Bl mg)(d:uK P w K mg base):bf P w K mg base df 5 f fd bh (dC ⟨K,mg⟩ 4 zo):=by
 refine bg F HS λb A a s H E c=> ?_
 delta CM
 ac_rfl
def vJ:aF ["scene","room","hand","values","within","row","late","bells"] DN (ay qU):=eC
def Dr(F:dF K "come_in" "come_in" qU f fd)(B:Bl mg)(g:gR P w K mg base){c:Tok}(h:mg "NOBODY"=some (.int (-1) c)):bf P w K mg base df 3 f fd DN (dC ⟨K,mg⟩ 3 mI):=by
 have e:=vJ.nd
 refine bg F vJ λb A a s H E d=> ?_
 delta vn
 ac_rfl
def A4:aF ["world","scene","hand","row","room","deed","frame","values","frames"] bh (ay yl):=eC
def GC(F:dF K "by_do" "by_do" yl f fd)(B:Bl mg)(c:iL P w K mg base)(e:gF P w K mg base)(d:xJ P w K mg base)(i:je P w K mg base):bf P w K mg base df 10 f fd bh (dC ⟨K,mg⟩ 4 zf):=by
 have g:=A4.nd
 refine bg F A4 λb A a s H E h=> ?_
 delta C6
 ac_rfl
def u7:aF ["world","scene","hand","word","room"] yf (ay qJ):=eC
def C1(F:dF K "bell_of" "bell_of" qJ f fd)(B:Bl mg)(d:d_ P w K mg base)(c:iL P w K mg base):bf P w K mg base df 3 f fd yf (dC ⟨K,mg⟩ 4 mH):=by
 have g:=u7.nd
 refine bg F u7 λb A a s H E e=> ?_
 delta Bn
 ac_rfl
def qx:aF ["scene","room","bell","line","state"] EM (ay lY):=eC
def yU(F:dF K "with_line" "with_line" lY f fd)(B:Bl mg)(g:gR P w K mg base)(e:gX P w K mg base):bf P w K mg base df 3 f fd EM (dC ⟨K,mg⟩ 4 iO):=by
 have d:=qx.nd
 refine bg F qx λb A a s H E c=> ?_
 delta u0
 ac_rfl
def AE:aF ["scene","room","values","within","row","late","bells"] y8 (ay zq):=eC
def HG(F:dF K "leave" "leave" zq f fd)(B:Bl mg)(g:gR P w K mg base){c:Tok}(h:mg "NOBODY"=some (.int (-1) c)):bf P w K mg base df 3 f fd y8 (dC ⟨K,mg⟩ 2 ve):=by
 have e:=AE.nd
 refine bg F AE λb A a s H E d=> ?_
 delta CB
 ac_rfl
def uA:aF ["world","scene","hand","row","room","bell","turn","line","ahead","waiting"] bh (ay rB):=eC
def Da(F:dF K "by_wait" "by_wait" rB f fd)(B:Bl mg)(c:q_ P w K mg base)(g:gF P w K mg base)(d:my P w K mg base)(i:D5 P w K mg base):bf P w K mg base df 10 f fd bh (dC ⟨K,mg⟩ 4 vy):=by
 have h:=uA.nd
 refine bg F uA λb A a s H E e=> ?_
 delta Bm
 ac_rfl
 refine bB (N:= ["other","waiter","turn"]) (js:= [none,none,some 6]) (aI.gen rfl rfl rfl rfl rfl rfl) rfl ?_ (λ_ _ _ _=> ?_) (λ_ _ _ _=> ?_) (λ_ _ _ _=> ?_)
 ac_rfl
def uZ:aF ["world","scene","hand","row","room","bell","line","called","values","within","queue","late","bells"] bh (ay rf):=eC
def CG(F:dF K "by_call" "by_call" rf f fd)(B:Bl mg)(c:q_ P w K mg base)(d:my P w K mg base)(h:gR P w K mg base):bf P w K mg base df 4 f fd bh (dC ⟨K,mg⟩ 4 uN):=by
 have g:=uZ.nd
 refine bg F uZ λb A a s H E e=> ?_
 delta Bk
 ac_rfl
end
section
variable{P:Program}{w:World}{K:PySem.W.Frag}{mg:Str->Option Value}{base:Heap}{f:Addr}{fd:FuncData}
def xH:aF ["world","scene","hand","row","room","bell"] bh (ay vd):=eC
def FO(F:dF K "by_all" "by_all" vd f fd)(B:Bl mg)(c:q_ P w K mg base)(d:my P w K mg base):bf P w K mg base df 4 f fd bh (dC ⟨K,mg⟩ 4 yR):=by
 have g:=xH.nd
 refine bg F xH λb A a s H E e=> ?_
 delta DQ
 ac_rfl
def uF:aF ["world","scene","hand","row","told"] bh (ay sf):=eC
def CF(F:dF K "by_tell" "by_tell" sf f fd)(B:Bl mg)(g:gF P w K mg base)(d:ja P w K mg base)(c:d_ P w K mg base):bf P w K mg base df 10 f fd bh (dC ⟨K,mg⟩ 4 qp):=by
 have h:=uF.nd
 refine bg F uF λb A a s H E e=> ?_
 delta vQ
 ac_rfl
def Aa:aF Af Af (ay mr):=eC
def yA(F:dF K "with_pass" "with_pass" mr f fd)(B:Bl mg)(d:gX P w K mg base):bf P w K mg base df 2 f fd Af (dC ⟨K,mg⟩ 3 gI):=by
 refine bg F Aa λb A a s H E c=> ?_
 delta vA
 ac_rfl
def Bw:aF ["world","scene","hand","name","place","value","row"] yH (ay yu):=eC
def Iu(F:dF K "taken" "taken" yu f fd)(B:Bl mg)(c:iL P w K mg base)(d:sC P w K mg base):bf P w K mg base df 3 f fd yH (dC ⟨K,mg⟩ 4 zY):=by
 have g:=Bw.nd
 refine bg F Bw λb A a s H E e=> ?_
 delta GI
 ac_rfl
def CJ:aF bh bh (ay rX):=eC
def Cs(F:dF K "by_take" "by_take" rX f fd)(B:Bl mg)(d:EH P w K mg base):bf P w K mg base df 4 f fd bh (dC ⟨K,mg⟩ 4 uE):=by
 refine bg F CJ λb A a s H E c=> ?_
 delta Bh
 ac_rfl
def nW:aF ["world","scene","name","place","value","row"] yE (ay kh):=eC
def wU(F:dF K "given_back" "given_back" kh f fd)(B:Bl mg)(d:iL P w K mg base)(e:sC P w K mg base){b:Tok}(g:mg "HIGHEST"=some (.int (9) b)):bf P w K mg base df 3 f fd yE (dC ⟨K,mg⟩ 3 ji):=by
 have i:=nW.nd
 refine bg F nW λc A a s H E h=> ?_
 delta s_
 ac_rfl
def Dc:aF bh bh (ay qH):=eC
def C5(F:dF K "by_give" "by_give" qH f fd)(B:Bl mg)(d:qd P w K mg base):bf P w K mg base df 4 f fd bh (dC ⟨K,mg⟩ 4 uH):=by
 refine bg F Dc λb A a s H E c=> ?_
 delta Aj
 ac_rfl
def C0:aF bh bh (ay qL):=eC
def CV(F:dF K "by_pass" "by_pass" qL f fd)(B:Bl mg)(d:EH P w K mg base)(e:qd P w K mg base):bf P w K mg base df 4 f fd bh (dC ⟨K,mg⟩ 4 vV):=by
 refine bg F C0 λb A a s H E c=> ?_
 delta A9
 ac_rfl
def Ga:aF bh bh (ay uP):=eC
def Fs(F:dF K "by_say" "by_say" uP f fd)(B:Bl mg):bf P w K mg base df 1 f fd bh (dC ⟨K,mg⟩ 4 uu):=by
 refine bg F Ga λb A a s H E c=> ?_
 delta yX
 ac_rfl
def sI:aF ["world","scene","hand","row","deed"] bh (ay oX):=eC
def Bp(F:dF K "row_done" "row_done" oX f fd)(B:Bl mg)(e:∀x F,vW.lookup x=some F->dS P w K mg base 10 x bh F)(b:EZ P w K mg "DONE_BY" nq):bf P w K mg base df 11 f fd bh (dC ⟨K,mg⟩ 4 jV):=by
 have g:=sI.nd
 refine bg F sI λc A a s H E d=> ?_
 exact(k0 (FU 4 g (JE b rfl (qC (v_ 3) mB) (λ_ _=>rfl)))
  (xI (DT (JF e (d.mono (by decide)) rfl (by first|exact Or.inl rfl|exact Or.inr (Or.inl rfl)) (cR (v_ 0) (cR (v_ 1) (cR (v_ 2) (cR (v_ 3) iK)))) (m4 (m4 (m4 (m4 Dw))))))))
def sX:aF ["world","scene","hand","values","frames","room","deed","row","given","told","outside","came_by"] eY (ay oK):=eC
def BL(F:dF K "end_deed" "end_deed" oK f fd)(B:Bl mg)(i:je P w K mg base)(h:D5 P w K mg base)(e:kd P w K mg base)(c:tm P w K mg base):bf P w K mg base df 4 f fd eY (dC ⟨K,mg⟩ 3 jP):=by
 have g:=sX.nd
 refine bg F sX λb A a s H E d=> ?_
 delta sx
 ac_rfl
def wj:aF ["world","scene","hand","frame","room","program","row","event"] eY (ay sh):=eC
def CY(F:dF K "step_of" "step_of" sh f fd)(B:Bl mg)(d:d_ P w K mg base)(e:xJ P w K mg base)(m:kd P w K mg base)(g:CO P w K mg base)(j:gF P w K mg base)(k:CC P w K mg base)(i:uK P w K mg base){b:Tok}(h:mg "OWN"=some (.int (-1) b)):bf P w K mg base df 12 f fd eY (dC ⟨K,mg⟩ 3 pY):=by
 have n:=wj.nd
 refine bg F wj λc A a s H E l=> ?_
 delta lO
 ac_rfl
def An:aF BO BO (ay pw):=eC
def BK(F:dF K "hands_at" "hands_at" pw f fd)(B:Bl mg):bf P w K mg base df 1 f fd BO (dC ⟨K,mg⟩ 1 nk):=by
 refine bg F An λb A a s H E c=> ?_
 delta qK
 ac_rfl
 refine bB (N:= ["turn","hand"]) (js:= [none,none]) (aI.gen rfl rfl rfl rfl rfl rfl) rfl ?_ (λ_ _ _ _=> ?_) (λ_ _ _ _=> ?_) (λ_ _ _ _=> ?_)
 ac_rfl
def j2:aF ["scene","hands","value","row","values","within","late","bells","line"] yw (ay g8):=eC
def qV(F:dF K "hands_in_rows" "hands_in_rows" g8 f fd)(B:Bl mg)(e:C2 P w K mg base):bf P w K mg base df 2 f fd yw (dC ⟨K,mg⟩ 1 eU):=by
 have d:=j2.nd
 refine bg F j2 λb A a s H E c=> ?_
 delta iQ
 ac_rfl
def jR:aF ["world","scene","hand","frame"] eY (ay hX):=eC
def qT(F:dF K "is_behind_all" "is_behind_all" hX f fd)(B:Bl mg)(d:d_ P w K mg base)(h:kd P w K mg base){c:Tok}(e:mg "OWN"=some (.int (-1) c)):bf P w K mg base df 2 f fd eY (dC ⟨K,mg⟩ 3 fX):=by
 have i:=jR.nd
 refine bg F jR λb A a s H E g=> ?_
 delta iM
 ac_rfl
def tN:aF ["world","scene","held_up"] ye (ay pF):=eC
def AH(F:dF K "may_step" "may_step" pF f fd)(B:Bl mg)(d:tP P w K mg base)(c:t8 P w K mg base):bf P w K mg base df 3 f fd ye (dC ⟨K,mg⟩ 2 nj):=by
 have g:=tN.nd
 refine bg F tN λb A a s H E e=> ?_
 delta rA
 ac_rfl
 refine bB (N:= ["hand","world","scene","held_up"]) (js:= [none,some 0,some 1,some 2]) (aI.gen rfl rfl rfl rfl rfl rfl) rfl ?_ (λ_ _ _ _=> ?_) (λ_ _ _ _=> ?_) (λ_ _ _ _=> ?_)
 ac_rfl
def Dy:aF eY eY (ay rZ):=eC
def Cq(F:dF K "stepped" "stepped" rZ f fd)(B:Bl mg)(e:Dt P w K mg base)(c:E1 P w K mg base):bf P w K mg base df 13 f fd eY (dC ⟨K,mg⟩ 3 qB):=by
 refine bg F Dy λb A a s H E d=> ?_
 delta we
 ac_rfl
def zy:aF CH CH (ay lE):=eC
theorem pK(F:dF K "_law_same" "_law_same" lE f fd)(B:Bl mg)(b:Binds K fd CH [])(c:PySem.W.keepIn K (.ref f)=true)(m:mg "_law_same"=some (.ref f)):∀n,bf P w K mg base df (1+n) f fd CH (dC ⟨K,mg⟩ 2 (gq n))
 |0=>ur
 | n+1=>by
   have e:dS P w K mg base (1+n) "_law_same" CH (gq n):=⟨f,fd,pK F B b c m n,b,c,m⟩
   refine bg (k:=1+n) F zy λd A a s H E g=> ?_
   delta gf
   ac_rfl
   refine bB (N:= ["_law_one","_law_other"]) (js:= [none,none]) (aI.gen rfl rfl rfl rfl rfl rfl) rfl ?_ (λ_ _ _ _=> ?_) (λ_ _ _ _=> ?_) (λ_ _ _ _=> ?_)
   ac_rfl
end
section
variable{P:Program}{w:World}{K:PySem.W.Frag}{mg:Str->Option Value}{base:Heap}{f:Addr}{fd:FuncData}
def mL:aF ["_law_now","_law_rooms_here","_law_values","_law_within","_law_row_here","_law_late","_law_bells","_law_hands","_law_frames"] DV (ay jA):=eC
def wg(F:dF K "_law_frozen" "_law_frozen" jA f fd)(B:Bl mg):bf P w K mg base df 1 f fd DV (dC ⟨K,mg⟩ 1 ip):=by
 have d:=mL.nd
 refine bg F mL λb A a s H E c=> ?_
 delta kg
 ac_rfl
 refine bB (N:=LQ) (js:= [none]) (aI.gen rfl rfl rfl rfl rfl rfl) rfl ?_ (λ_ _ _ _=> ?_) (λ_ _ _ _=> ?_) (λ_ _ _ _=> ?_)
 ac_rfl
 refine bB (N:= ["_law_frame"]) (js:= [none]) (aI.gen rfl rfl rfl rfl rfl rfl) rfl ?_ (λ_ _ _ _=> ?_) (λ_ _ _ _=> ?_) (λ_ _ _ _=> ?_)
 ac_rfl
 refine bB (N:= ["_law_value_here","_law_row_here"]) (js:= [none,none]) (aI.gen rfl rfl rfl rfl rfl rfl) rfl ?_ (λ_ _ _ _=> ?_) (λ_ _ _ _=> ?_) (λ_ _ _ _=> ?_)
 ac_rfl
def qg:aF ["_law_pot_here","_law_world_here","_law_many","_law_now","_law_scene","_law_last","_law_turn","_law_some","_law_event","_law_found"] Er (ay lX):=eC
def yn(F:dF K "_law_walk" "_law_walk" lX f fd)(B:Bl mg)(h:yV P w K mg base)(i:Kf P w K mg base)(k:DC P w K mg base)(j:BZ P w K mg base)(n:Ap P w K mg base)(d:FS P w K mg base)(g:Ca P w K mg base)(l:wH P w K mg base):bf P w K mg base df 14 f fd Er (dC ⟨K,mg⟩ 3 kY):=by
 have m:=qg.nd
 refine bg F qg λb A a s H E c=> ?_
 have e:=c.units0
 delta ou
 ac_rfl
def tJ:aF ["_law_pot_here","_law_goals","_law_words_here","_law_passes","_law_most","_law_rows","_law_k","_law_way"] DI (ay oO):=eC
def BX(F:dF K "_law_own" "_law_own" oO f fd)(B:Bl mg)(g:cK P w K mg base)(e:xP P w K mg base)(h:eV P w K mg base)(i:kE P w K mg base):bf P w K mg base df 9 f fd DI (dC ⟨K,mg⟩ 5 m7):=by
 have j:=tJ.nd
 refine bg F tJ λb A a s H E c=> ?_
 have d:=c.units0
 delta rE
 ac_rfl
def nQ:aF ["_law_pot_here","_law_rooms_here","_law_hands","_law_passes_most","_law_goals","_law_room_here","_law_passes","_law_shared","_law_made","_law_k","_law_own_here","_law_program_here","_law_counted_here"] DY (ay kB):=eC
def w_(F:dF K "_law_world" "_law_world" kB f fd)(B:Bl mg)(d:kT P w K mg base)(e:cK P w K mg base)(c:CQ P w K mg base):bf P w K mg base df 10 f fd DY (dC ⟨K,mg⟩ 4 jl):=by
 have h:=nQ.nd
 refine bg F nQ λb A a s H E g=> ?_
 delta mh
 ac_rfl
 refine bB (N:=Nv) (js:= [none,some 5]) (aI.gen rfl rfl rfl rfl rfl rfl) rfl ?_ (λ_ _ _ _=> ?_) (λ_ _ _ _=> ?_) (λ_ _ _ _=> ?_)
 ac_rfl
 refine bB (N:=Im) (js:= [none,some 0]) (aI.gen rfl rfl rfl rfl rfl rfl) rfl ?_ (λ_ _ _ _=> ?_) (λ_ _ _ _=> ?_) (λ_ _ _ _=> ?_)
 ac_rfl
 refine bB (N:=Im) (js:= [none,some 0]) (aI.gen rfl rfl rfl rfl rfl rfl) rfl ?_ (λ_ _ _ _=> ?_) (λ_ _ _ _=> ?_) (λ_ _ _ _=> ?_)
 ac_rfl
 refine bB (N:=Im) (js:= [none,some 0]) (aI.gen rfl rfl rfl rfl rfl rfl) rfl ?_ (λ_ _ _ _=> ?_) (λ_ _ _ _=> ?_) (λ_ _ _ _=> ?_)
 ac_rfl
def Ij:aF ["_law_script","_law_k","_law_pot_here","_law_rooms_here"] HV (ay pL):=eC
def Lp(F:dF K "law" "law" pL f fd)(B:Bl mg)(d:Dl P w K mg base)(i:zL P w K mg base)(c:cK P w K mg base)(e:Ae P w K mg base)(j:ym P w K mg base):bf P w K mg base df 15 f fd HV (dC ⟨K,mg⟩ 1 Jg):=by
 have h:=Ij.nd
 refine bg F Ij λb A a s H E g=> ?_
 delta Lb
 ac_rfl
end
def all_mk{l:PySem.W.OpenLaw}{w:World}{K:PySem.W.Frag}{h:Heap}{mg:Str->Option Value}{fa f1 f2 f3 f4 f5 f6 f7 f8 f9 s9 i1 a5 s6 u8 H9 g4 v1 t0 k6 z8 p1 I3 l0 l4 P2 c0 w0 k9 c3 z0 q1 p2 s7 f0 x7 p4 n1 o2 I5 e4 o6 g0 S e8 e9 a2 J e7 Q H0 l7 t4 a0 t U r y1 k5 C q4 M N y j4 c4 b7 l9 t3 h9 i2 s3 y5 r9 H6 t1 s5 f:Addr}(X:K.In h)(G:h.Ns mainGlobals mg)(b5:mg "law"=some (.ref fa))
  (d1:aV K "_law_pot" oI f1)
  (d2:aV K "_law_take" lJ f2)
  (d3:aV K "_law_words" kn f3)
  (d4:aV K "_law_pick" mq f4)
  (d5:aV K "_law_sum" oU f5)
  (d6:aV K "_law_waits" kN f6)
  (d7:aV K "_law_do" rj f7)
  (d8:aV K "_law_deed" mU f8)
  (d9:aV K "_law_room" lR f9)
  (x4:aV K "_law_rooms" ki s9)
  (x6:aV K "_law_first" kI i1)
  (w3:aV K "values_of" mE a5)
  (r6:aV K "begun_room" kP s6)
  (I9:aV K "begun" yo u8)
  (x1:aV K "_law_is_bound" hJ H9)
  (i5:aV K "_law_may" oh g4)
  (b8:aV K "_law_next" mN v1)
  (g3:aV K "_law_program" iH t0)
  (b6:aV K "_law_enter" kW k6)
  (v6:aV K "_law_leave" kO z8)
  (m2:aV K "_law_spot" mY p1)
  (r2:aV K "_law_set" pH I3)
  (h0:aV K "_law_end" oa l0)
  (w2:aV K "_law_value" kj l4)
  (b2:aV K "_law_reckon" jy P2)
  (l8:aV K "_law_ring" lP c0)
  (w4:aV K "_law_give" mm w0)
  (n9:aV K "_law_get" oN k9)
  (n4:aV K "_law_counted" iP c3)
  (k7:aV K "_law_row" oT z0)
  (h4:aV K "_law_step" lW q1)
  (z3:aV K "last_frame" kM p2)
  (m0:aV K "program_of" kA s7)
  (h6:aV K "names_of" oY f0)
  (w8:aV K "place_of" og x7)
  (g2:aV K "with_part" lG p4)
  (e0:aV K "with_hand" lI n1)
  (w7:aV K "with_room" mj o2)
  (j5:aV K "put_thing" lN I5)
  (z2:aV K "value_of_two" i0 e4)
  (m1:aV K "value_of" oB o6)
  (I1:aV K "reckoned" oH g0)
  (x0:aV K "by_put" vH S)
  (c5:aV K "with_last_frame" fV e8)
  (h2:aV K "at_row" vg e9)
  (o0:aV K "by_unless" mM a2)
  (q5:aV K "by_go" yG J)
  (b0:aV K "come_in" qU e7)
  (r0:aV K "by_do" yl Q)
  (h5:aV K "bell_of" qJ H0)
  (r4:aV K "with_line" lY l7)
  (a6:aV K "leave" zq t4)
  (o3:aV K "by_wait" rB a0)
  (b4:aV K "by_call" rf t)
  (c6:aV K "by_all" vd U)
  (b3:aV K "by_tell" sf r)
  (z1:aV K "with_pass" mr y1)
  (z6:aV K "taken" yu k5)
  (h3:aV K "by_take" rX C)
  (p3:aV K "given_back" kh q4)
  (x3:aV K "by_give" qH M)
  (H7:aV K "by_pass" qL N)
  (h1:aV K "by_say" uP y)
  (q7:aV K "row_done" oX j4)
  (z5:aV K "end_deed" oK c4)
  (w5:aV K "step_of" sh b7)
  (u2:aV K "hands_at" pw l9)
  (q8:aV K "hands_in_rows" g8 t3)
  (l3:aV K "is_behind_all" hX h9)
  (x2:aV K "may_step" pF i2)
  (n2:aV K "stepped" rZ s3)
  (w1:aV K "_law_same" lE y5)
  (I6:aV K "_law_frozen" jA r9)
  (q2:aV K "_law_walk" lX H6)
  (r3:aV K "_law_own" oO t1)
  (s8:aV K "_law_world" kB s5)
  {oc kV dc pm cd ct:Value} {od an:Option Addr} {sl:Array (Option Value)} (l2:PySem.W.nsIn K mainGlobals "law"=some (some (.ref f))) (r5:K.lookup f=some ⟨oc,od,.func (PySem.W.fnOf "law" "law" (iy pL) (fB pL) (ay pL) .none kV dc pm an cd ct),sl⟩) (q9:PySem.W.codeIn K cd "law"=true) (o5:PySem.W.keepIn K (.ref f)=true)
  {iT:Tok} (HP:PySem.W.nsIn K mainGlobals "NOBODY"=some (some (.int (-1) iT)))
  {j0:Tok} (Nf:PySem.W.nsIn K mainGlobals "OWN"=some (some (.int (-1) j0)))
  {jO:Tok} (Fy:PySem.W.nsIn K mainGlobals "HIGHEST"=some (some (.int (9) jO)))
  {xw Co:Nat} {yN zN zW zv z9 zC zO yY zU yy wY wZ:Tok} (Fg:PySem.W.nsIn K mainGlobals "DONE_BY"=some (some (.ref xw))) (Dz:K.lookup xw=some ⟨.type "dict",none,.dict (List.toArray [⟨PyData.keyHash w.params "put",.str "put" yN,.ref S⟩,⟨PyData.keyHash w.params "unless",.str "unless" zN,.ref a2⟩,⟨PyData.keyHash w.params "go",.str "go" zW,.ref J⟩,⟨PyData.keyHash w.params "do",.str "do" zv,.ref Q⟩,⟨PyData.keyHash w.params "wait",.str "wait" z9,.ref a0⟩,⟨PyData.keyHash w.params "call",.str "call" zC,.ref t⟩,⟨PyData.keyHash w.params "all",.str "all" zO,.ref U⟩,⟨PyData.keyHash w.params "tell",.str "tell" yY,.ref r⟩,⟨PyData.keyHash w.params "take",.str "take" zU,.ref C⟩,⟨PyData.keyHash w.params "give",.str "give" yy,.ref M⟩,⟨PyData.keyHash w.params "pass",.str "pass" wY,.ref N⟩,⟨PyData.keyHash w.params "say",.str "say" wZ,.ref y⟩]) Co,#[]⟩)
  (MV:PySem.W.nsIn K mainGlobals "len"=some none) (JJ:PySem.W.nsIn K mainGlobals "tuple"=some none) (Lv:PySem.W.nsIn K mainGlobals "list"=some none) (Mi:PySem.W.nsIn K mainGlobals "dict"=some none) (MR:PySem.W.nsIn K mainGlobals "set"=some none) (NV:PySem.W.nsIn K mainGlobals "int"=some none) (MF:PySem.W.nsIn K mainGlobals "str"=some none) (LD:PySem.W.nsIn K mainGlobals "bool"=some none) (NS:PySem.W.nsIn K mainGlobals "all"=some none) (NR:PySem.W.nsIn K mainGlobals "any"=some none) (JL:PySem.W.nsIn K mainGlobals "range"=some none) (MG:PySem.W.nsIn K mainGlobals "zip"=some none) (Hy:PySem.W.nsIn K mainGlobals "sorted"=some none) (zP:PySem.W.nsIn K mainGlobals "isinstance"=some none) (ND:PySem.W.nsIn K mainGlobals "min"=some none) (N8:PySem.W.nsIn K mainGlobals "max"=some none) (NL:PySem.W.nsIn K mainGlobals "abs"=some none) (AY:PySem.W.nsIn K mainGlobals "enumerate"=some none)
  (T:∀ns:List Int,ns.length<=63->∃S',Jg [.ref 0] [.frz (ns.map D.int)]=some (.d (.bl true),S')):
  ∃fd:FuncData,(∀(s:Shared) (v:Value),BindsTo s fd ⟨[v],[]⟩ [("_law_script",v)])/\∀base:Heap,K.In base->base.Ns mainGlobals mg->bf l.prog w K mg base df 15 fa fd HV BJ:=by
 have e:=b5.symm.trans (PySem.W.mg_of X G l2)
 cases e
 have n3:=Dm (st:=pL) r5 q9 o5
 have O1:=d1.ok1 (ps:=Eu) X G
 have O2:=d2.ok1 (ps:=EA) X G
 have O3:=d3.ok1 (ps:=DS) X G
 have O4:=d4.ok1 (ps:=AC) X G
 have O5:=d5.ok1 (ps:=xh) X G
 have O6:=d6.ok1 (ps:=EN) X G
 have O7:=d7.ok1 (ps:=EE) X G
 have O8:=d8.ok1 (ps:=ET) X G
 have O9:=d9.ok1 (ps:=EC) X G
 have g1:=x4.ok1 (ps:=Em) X G
 have h7:=x6.ok1 (ps:=D6) X G
 have L2:=w3.ok1 (ps:=uO) X G
 have s4:=r6.ok1 (ps:=BD) X G
 have v0:=I9.ok1 (ps:=zA) X G
 have l6:=x1.ok1 (ps:=Jw) X G
 have n6:=i5.ok1 (ps:=EU) X G
 have k3:=b8.ok1 (ps:=Ak) X G
 have k1:=g3.ok1 (ps:=Be) X G
 have o1:=b6.ok1 (ps:=Am) X G
 have s2:=v6.ok1 (ps:=AS) X G
 have n5:=m2.ok1 (ps:=Ag) X G
 have l5:=r2.ok1 (ps:=Ed) X G
 have b1:=h0.ok1 (ps:=sU) X G
 have o9:=w2.ok1 (ps:=xA) X G
 have k4:=b2.ok1 (ps:=Ek) X G
 have l1:=l8.ok1 (ps:=jX) X G
 have g5:=w4.ok1 (ps:=Bt) X G
 have z7:=n9.ok1 (ps:=Br) X G
 have n7:=n4.ok1 (ps:=jX) X G
 have c1:=k7.ok1 (ps:=jX) X G
 have q6:=h4.ok1 (ps:=sU) X G
 have e3:=z3.ok1 (ps:=BV) X G
 have c2:=m0.ok1 (ps:=yi) X G
 have e2:=h6.ok1 (ps:=Au) X G
 have b9:=w8.ok1 (ps:=Bo) X G
 have s0:=g2.ok1 (ps:=As) X G
 have I7:=e0.ok1 (ps:=Ax) X G
 have u1:=w7.ok1 (ps:=AA) X G
 have v3:=j5.ok1 (ps:=yM) X G
 have o4:=z2.ok1 (ps:=Bs) X G
 have v4:=m1.ok1 (ps:=rh) X G
 have v2:=I1.ok1 (ps:=zK) X G
 have a3:=x0.ok1 (ps:=bh) X G
 have t2:=c5.ok1 (ps:=EK) X G
 have r1:=h2.ok1 (ps:=Eg) X G
 have u:=o0.ok1 (ps:=bh) X G
 have Y:=q5.ok1 (ps:=bh) X G
 have e6:=b0.ok1 (ps:=DN) X G
 have P:=r0.ok1 (ps:=bh) X G
 have o7:=h5.ok1 (ps:=yf) X G
 have j1:=r4.ok1 (ps:=EM) X G
 have e5:=a6.ok1 (ps:=y8) X G
 have q:=o3.ok1 (ps:=bh) X G
 have a1:=b4.ok1 (ps:=bh) X G
 have H:=c6.ok1 (ps:=bh) X G
 have n:=b3.ok1 (ps:=bh) X G
 have n8:=z1.ok1 (ps:=Af) X G
 have M2:=z6.ok1 (ps:=yH) X G
 have A:=h3.ok1 (ps:=bh) X G
 have N0:=p3.ok1 (ps:=yE) X G
 have R:=x3.ok1 (ps:=bh) X G
 have I:=H7.ok1 (ps:=bh) X G
 have a4:=h1.ok1 (ps:=bh) X G
 have m9:=q7.ok1 (ps:=bh) X G
 have o8:=z5.ok1 (ps:=eY) X G
 have I4:=w5.ok1 (ps:=eY) X G
 have e1:=u2.ok1 (ps:=BO) X G
 have h8:=q8.ok1 (ps:=yw) X G
 have H8:=l3.ok1 (ps:=eY) X G
 have I2:=x2.ok1 (ps:=ye) X G
 have k2:=n2.ok1 (ps:=eY) X G
 have q3:=w1.ok1 (ps:=CH) X G
 have r7:=I6.ok1 (ps:=DV) X G
 have s1:=q2.ok1 (ps:=Er) X G
 have I8:=r3.ok1 (ps:=DI) X G
 have x5:=s8.ok1 (ps:=DY) X G
 have j7:=PySem.W.mg_of X G HP
 have i:=PySem.W.mg_of X G Nf
 have nu:=PySem.W.mg_of X G Fy
 have r8:EZ l.prog w K mg "DONE_BY" nq:=Hx (PySem.W.mg_of X G Fg) Dz (.cons a3.m (.cons u.m (.cons Y.m (.cons P.m (.cons q.m (.cons a1.m (.cons H.m (.cons n.m (.cons A.m (.cons R.m (.cons I.m (.cons a4.m .nil)))))))))))) (by decide +kernel)
 have B:Bl mg:=⟨QFq X G MV,QFq X G JJ,QFq X G Lv,QFq X G Mi,QFq X G MR,QFq X G NV,QFq X G MF,QFq X G LD,QFq X G NS,QFq X G NR,QFq X G JL,QFq X G MG,QFq X G Hy,QFq X G zP,QFq X G ND,QFq X G N8,QFq X G NL,QFq X G AY⟩
 refine⟨PySem.W.fnOf "law" "law" (iy pL) (fB pL) (ay pL) .none kV dc pm an cd ct,λs v=>.of_eq rfl,λbase _ _=> ?_⟩
 have Z:Pk l.prog w base:=⟨⟩
 have wq:=O1.cal Z λ_ F _ _ _=>B5 F B
 have a:=O2.cal Z λ_ F _ _ _=>zk F B
 have et:=O3.cal Z λ_ F _ _ _=>xa F B a
 have c:=O4.cal Z λ_ F _ _ _=>y3 F B a
 have eg:=O5.cal Z λ_ F b k m=>sW F B a c b k m 4
 have p9:=O6.cal Z λ_ F _ _ _=>xg F B eg a c
 have nh:=O7.cal Z λ_ F _ _ _=>Dd F B c eg
 have tF:=O8.cal Z λ_ F _ _ _=>yB F B a p9 c nh eg
 have mi:=O9.cal Z λ_ F _ _ _=>zj F B c et a tF
 have qE:=g1.cal Z λ_ F _ _ _=>wL F B et a mi
 have pX:=h7.cal Z λ_ F _ _ _=>wO F B
 have jg:=L2.cal Z λ_ F _ _ _=>ze F B
 have pW:=s4.cal Z λ_ F _ _ _=>wB F B jg j7
 have DK:=v0.cal Z λ_ F _ _ _=>IB F B jg pW i
 have lu:=l6.cal Z λ_ F _ _ _=>qG F B
 have vE:=n6.cal Z λ_ F _ _ _=>AO F B lu
 have sJ:=k3.cal Z λ_ F _ _ _=>Ab F B a c
 have fT:=k1.cal Z λ_ F _ _ _=>tT F B
 have iz:=o1.cal Z λ_ F _ _ _=>wC F B
 have ij:=s2.cal Z λ_ F _ _ _=>wI F B
 have dW:=n5.cal Z λ_ F _ _ _=>yW F B
 have kc:=l5.cal Z λ_ F _ _ _=>AI F B dW
 have vI:=b1.cal Z λ_ F _ _ _=>AJ F B ij fT kc
 have kS:=o9.cal Z λ_ F b k m=>n0 F B b k m 5
 have gN:=k4.cal Z λ_ F _ _ _=>uL F B kS
 have sT:=l1.cal Z λ_ F _ _ _=>zD F B dW gN ij
 have tf:=g5.cal Z λ_ F _ _ _=>yZ F B
 have uQ:=z7.cal Z λ_ F _ _ _=>B7 F B
 have mJ:=n7.cal Z λ_ F _ _ _=>t9 F B tf dW uQ
 have vN:=c1.cal Z λ_ F _ _ _=>A_ F B kc gN dW iz sT mJ
 have sS:=q6.cal Z λ_ F _ _ _=>yS F B fT iz vI vN
 have g:=e3.cal Z λ_ F _ _ _=>wR F B
 have fc:=c2.cal Z λ_ F _ _ _=>w6 F B i
 have gB:=e2.cal Z λ_ F _ _ _=>B0 F B
 have o:=b9.cal Z λ_ F _ _ _=>BH F B gB
 have z:=s0.cal Z λ_ F _ _ _=>yK F B
 have dX:=I7.cal Z λ_ F _ _ _=>yJ F B z
 have L:=u1.cal Z λ_ F _ _ _=>yF F B z
 have jd:=v3.cal Z λ_ F _ _ _=>zp F B g o z L gB dX i
 have iV:=o4.cal Z λ_ F _ _ _=>tR F B nu
 have pB:=v4.cal Z λ_ F b k m=>tw F B iV b k m 6
 have j:=v2.cal Z λ_ F _ _ _=>Bx F B g gB pB i
 have IE:=a3.cal Z λ_ F _ _ _=>Gf F B jd j
 have eJ:=t2.cal Z λ_ F _ _ _=>pj F B dX
 have jK:=r1.cal Z λ_ F _ _ _=>F2 F B g eJ
 have Aq:=u.cal Z λ_ F _ _ _=>y4 F B j jK
 have J8:=Y.cal Z λ_ F _ _ _=>Gw F B jK
 have m_:=e6.cal Z λ_ F _ _ _=>Dr F B L j7
 have Jf:=P.cal Z λ_ F _ _ _=>GC F B o j m_ dX
 have iA:=o7.cal Z λ_ F _ _ _=>C1 F B g o
 have fP:=j1.cal Z λ_ F _ _ _=>yU F B L z
 have uk:=e5.cal Z λ_ F _ _ _=>HG F B L j7
 have Fw:=q.cal Z λ_ F _ _ _=>Da F B iA j fP uk
 have FZ:=a1.cal Z λ_ F _ _ _=>CG F B iA fP L
 have HK:=H.cal Z λ_ F _ _ _=>FO F B iA fP
 have E8:=n.cal Z λ_ F _ _ _=>CF F B j eJ g
 have jn:=n8.cal Z λ_ F _ _ _=>yA F B z
 have uz:=M2.cal Z λ_ F _ _ _=>Iu F B o jn
 have F0:=A.cal Z λ_ F _ _ _=>Cs F B uz
 have iu:=N0.cal Z λ_ F _ _ _=>wU F B o jn nu
 have Fi:=R.cal Z λ_ F _ _ _=>C5 F B iu
 have FG:=I.cal Z λ_ F _ _ _=>CV F B uz iu
 have HH:=a4.cal Z λ_ F _ _ _=>Fs F B
 have wm:∀x F,vW.lookup x=some F->dS l.prog w K mg base 10 x bh F:=by
  refine Ia λp hp=> ?_
  simp only[vW,Qsq,QXq,or_false] at hp
  rcases hp with rfl|rfl|rfl|rfl|rfl|rfl|rfl|rfl|rfl|rfl|rfl|rfl
  ·exact IE.mono (by decide)
  ·exact Aq.mono (by decide)
  ·exact J8.mono (by decide)
  ·exact Jf.mono (by decide)
  ·exact Fw.mono (by decide)
  ·exact FZ.mono (by decide)
  ·exact HK.mono (by decide)
  ·exact E8.mono (by decide)
  ·exact F0.mono (by decide)
  ·exact Fi.mono (by decide)
  ·exact FG.mono (by decide)
  ·exact HH.mono (by decide)
 have u4:=m9.cal Z λ_ F _ _ _=>Bp F B wm r8
 have uM:=o8.cal Z λ_ F _ _ _=>BL F B dX uk fc jd
 have xC:=I4.cal Z λ_ F _ _ _=>CY F B g m_ fc uM j u4 jK i
 have vK:=e1.cal Z λ_ F _ _ _=>BK F B
 have k8:=h8.cal Z λ_ F _ _ _=>qV F B vK
 have lq:=H8.cal Z λ_ F _ _ _=>qT F B g fc i
 have uB:=I2.cal Z λ_ F _ _ _=>AH F B k8 lq
 have xt:=k2.cal Z λ_ F _ _ _=>Cq F B uB xC
 have lL:=q3.cal Z λ_ F b k m=>pK F B b k m 10
 have nP:=r7.cal Z λ_ F _ _ _=>wg F B
 have tM:=s1.cal Z λ_ F _ _ _=>yn F B pX DK vE sJ sS xt lL nP
 have vt:=I8.cal Z λ_ F _ _ _=>BX F B a nh c eg
 have ql:=x5.cal Z λ_ F _ _ _=>w_ F B et a vt
 exact IU (Lp n3 B wq qE a tM ql) T
end W28
namespace DL
open PySem PySem.Spec L2
def lQ{a:cy}{S:aD}{Q:Bool->aD->Prop}(q:Q true S):E bI a S Q:=⟨_,_,rfl,q⟩
section
variable{S:aD}
def KB{i j:Int}{Q:D->Prop}(q:Q (.int (i+j))):Op (cx S (.int i) (.int j)) Q:=⟨_,rfl,q⟩
def K6{i j:Str}{Q:D->Prop}(h:i.length+j.length<=sizeLine)(q:Q (.str (i++j))):Op (cx S (.str i) (.str j)) Q:=⟨_,by simp only[cx];rw[Qhq h],q⟩
def gu{i j:List D}{Q:D->Prop}(h:i.length+j.length<=sizeLine)(q:Q (.tup (i++j))):Op (cx S (.tup i) (.tup j)) Q:=⟨_,by simp only[cx];rw[Qhq h],q⟩
def gJ{k:Int->Int->D}{i j:Int}{Q:D->Prop}(q:Q (k i j)):Op (intD (λ_ _=>True) k S (.int i) (.int j)) Q:=⟨_,by simp only[intD,if_true],q⟩
def vO{i j:Int}{Q:D->Prop}(h:0<j)(q:Q (.int (i%j))):Op (t7 S (.int i) (.int j)) Q:=⟨_,by simp only[t7,intD];rw[Qhq h],q⟩
def GY{i j:Int}{Q:D->Prop}(h:G4 i j)(q:Q (.int (i/j))):Op (Ar S (.int i) (.int j)) Q:=⟨_,by simp only[Ar,intD];rw[Qhq h],q⟩
def yb{i j:Int}{Q:D->Prop}(h:Ju i j)(q:Q (.int (i*j))):Op (nH S (.int i) (.int j)) Q:=⟨_,by simp only[nH,intD];rw[Qhq h.ok],q⟩
def aA{ds:List D}{i:Int}{d:D}{Q:D->Prop}(h:kQ ds i=some d)(q:Q d):Op (fR S (.tup ds) (.int i)) Q:=⟨_,h,q⟩
def bR{k:Nat}{ds:List D}{i:Int}{d:D}{Q:D->Prop}(a:S[k]?=some (.lst ds))(h:kQ ds i=some d)(q:Q d):Op (fR S (.ref k) (.int i)) Q:=⟨_,by simp only[fR,a];exact h,q⟩
def cu{ds:List D}{Q:List D×Tag->Prop}(q:Q (ds,.tu)):Op (vB S (.tup ds)) Q:=⟨_,rfl,q⟩
def a7{k:Nat}{ds:List D}{Q:List D×Tag->Prop}(a:S[k]?=some (.lst ds))(q:Q (ds,.st k)):Op (vB S (.ref k)) Q:=⟨_,by simp only[vB,a],q⟩
def N3{α:Type}{o:Option α}{d:α}{Q:α->Prop}(h:o=some d)(q:Q d):Op o Q:=⟨d,h,q⟩
end
def aL{b:Bool}{p q:Prop}(a:b=true->p)(c:b=false->q):if b=true then p else q:=by
 cases b with
 |true=>exact a rfl
 |false=>exact c rfl
end DL
local macro_rules|`(tactic|symm)=>do
 let mut a:Array (Lean.TSyntax `Lean.Parser.Tactic.tacticSeq):= #[]
 for s in (["aK","QT","zu","PC","bU","eM","Lg","di","u3","fm","cc","QI","bc","cO","aB","bo","vi","du","dP","CW","bW","qP","Ao","rQ","sy","uw","cM","DX","cN","Bb","uV","om","D3","MO","lQ","aX","Jo","Iz","kR","KB","gJ","cu"]:List String) do a:=a.push (←`(tacticSeq|refine $(Lean.mkIdent (.str (.str .anonymous "DL") s)) ?_))
 `(tactic|repeat(first|(with_reducible first $[| $a]*)|((with_reducible refine DL.QS ?_); intro _)|((with_reducible refine DL.ax (d := ?_) ?_ ?_); rotate_left; rfl)|dsimp only [DL.aZ, DL.aP, DL.aY, DL.bS, DL.bV, DL.eZ]))
local macro_rules|`(tactic|apply $e)=>`(tactic|(refine $e;symm))
namespace W28
open PySem PySem.Spec L2 DL
def rD(a b c:Int):O:=.lst [.int a,.int b,.int c]
def F9{S:aD}{k:Nat}{a b p m:Int}{Q:Res->aD->Prop}(e:S[k]?=some (rD a b p))(f:0<m)(t:m<1000000)
  (h:∀(d q n r:Int),0<=d->d<m->Q (.d (.int d)) (S.set k (rD q n r))):Fn aG [.ref k,.int m] S Q:=by
 have l:k<S.length:=(gQs.mp e).1
 have j:∀(o:O),(S.set k o).take S.length=S.set k o:=λo=>by rw[List.take_of_length_le];simp
 refine cq ?_
 unfold oE
 symm
 refine bR e rfl ?_
 symm
 refine aL (λc=> ?_) (λc=> ?_)
 ·symm
  refine bR e rfl ?_
  symm
  refine vO f ?_
  symm
  refine bR e rfl ?_
  symm
  refine GY ⟨f,by omega⟩ ?_
  symm
  refine⟨_,_,_,_,rfl,rfl,e,rfl,?_⟩
  symm
  refine iE (xp (by rfl)) (j _) (λ_ z=>by cases z) rfl ?_
  exact h _ _ _ _ (Int.emod_nonneg _ (by omega)) (Int.emod_lt_of_pos _ f)
 ·symm
  refine⟨_,_,_,_,rfl,rfl,e,by decide,rfl,?_⟩
  symm
  refine⟨_,_,_,rfl,e,rfl,?_⟩
  have i:∀o:O,(S.set k o)[k]?=some o:=λo=>by rw[Qyq l]
  symm
  refine bR (i _) rfl ?_
  symm
  refine yb (.inr ⟨by decide,by decide⟩) ?_
  symm
  refine bR (i _) rfl ?_
  refine yb (.inl ⟨by decide,by decide⟩) ?_
  symm
  refine vO (by decide) ?_
  generalize g:(b*69069+9973*_+5)%2305843009213693921=mx
  have s:0<=mx:=by rw[←g];exact Int.emod_nonneg _ (by decide)
  have u:mx<2305843009213693921:=by rw[←g];exact Int.emod_lt_of_pos _ (by decide)
  symm
  refine vO (by decide) ?_
  symm
  refine bR (i _) rfl ?_
  refine yb (.inl ⟨by decide,by decide⟩) ?_
  symm
  refine yb (.inl ⟨by omega,by omega⟩) ?_
  symm
  refine vO (by decide) ?_
  symm
  refine⟨_,_,_,_,rfl,rfl,i _,rfl,?_⟩
  symm
  refine bR (by rw[List.set_set];exact i _) rfl ?_
  symm
  refine GY ⟨by decide,by decide⟩ ?_
  symm
  refine vO f ?_
  symm
  rw[List.set_set]
  refine iE (xp (by rfl)) (j _) (λ_ z=>by cases z) rfl ?_
  exact h _ _ _ _ (Int.emod_nonneg _ (by omega)) (Int.emod_lt_of_pos _ f)
structure Ex(k:Nat)(S S':aD):Prop where
 len:S.length<=S'.length
 keep:∀(j:Nat) (o:O),j≠k->S[j]?=some o->S'[j]?=some o
 pot:∃a b c,S'[k]?=some (rD a b c)
def Ex.refl{k:Nat}{S:aD}{a b c:Int}(h:S[k]?=some (rD a b c)):Ex k S S:=⟨Qmq _,λ_ _ _ h=>h,_,_,_,h⟩
def Ex.trans{k:Nat}{S a S2:aD}(x:Ex k S a)(y:Ex k a S2):Ex k S S2:=⟨QAq x.len y.len,λj o n h=>y.keep j o n (x.keep j o n h),y.pot⟩
def Ex.set{k:Nat}{S d:aD}{a b c:Int}(x:Ex k S d):Ex k S (d.set k (rD a b c)):=by
 obtain⟨_,_,_,h⟩:=x.pot
 refine⟨by simpa using x.len,λj o n h=> ?_,a,b,c,Qyq (gQs.mp h).1⟩
 rw[QKq (Ne.symm n)]
 exact x.keep j o n h
def Ex.app{k:Nat}{S d G:aD}(x:Ex k S d):Ex k S (d++G):=by
 obtain⟨a,b,c,h⟩:=x.pot
 refine⟨by rw[lQa];have:=x.len;omega,λj o n h=> ?_,a,b,c,?_⟩
 ·have:=x.keep j o n h
  rw[QHq (gQs.mp this).1]
  exact this
 ·rw[QHq (gQs.mp h).1]
  exact h
def Ex.put{k r:Nat}{S d:aD}{o:O}(x:Ex k S d)(i:S.length<=r)(g:k<S.length):Ex k S (d.set r o):=by
 obtain⟨a,b,c,h⟩:=x.pot
 refine⟨by simpa using x.len,λj e n h=> ?_,a,b,c,?_⟩
 ·have f:=(gQs.mp h).1
  rw[QKq (by omega)]
  exact x.keep j e n h
 ·rw[QKq (by omega)]
  exact h
def Ex.lt{k:Nat}{S d:aD}(x:Ex k S d):k<d.length:=by
 obtain⟨a,b,c,h⟩:=x.pot
 exact(gQs.mp h).1
def aN{S G:aD}{j:Nat}{o:O}(h:S[j]?=some o):(S++G)[j]?=some o:=by
 rw[QHq (gQs.mp h).1]
 exact h
def aM{S:aD}{o:O}:(S++ [o])[S.length]?=some o:=by simp
def ft{S:aD}{k j:Nat}{o a:O}(n:j≠k)(h:S[j]?=some o):(S.set k a)[j]?=some o:=by
 rw[QKq (Ne.symm n)]
 exact h
def cJ{S:aD}{j:Nat}{o a:O}(h:S[j]?=some o):(S.set j a)[j]?=some a:=Qyq (gQs.mp h).1
def Ex.clean{k:Nat}{S f:aD}(x:Ex k S f)(l:k<S.length):p_ S f/\∃a b c,f.take S.length=S.set k (rD a b c):=by
 obtain⟨a,b,c,h⟩:=x.pot
 have g:∀j,j<S.length->f[j]?=(S.set k (rD a b c))[j]? :=λj d=>by
  by_cases e:j=k
  ·subst e
   rw[h,Qyq d]
  ·rw[QKq (Ne.symm e),x.keep j _ e (gQe d),gQe d]
 refine⟨⟨x.len,λj o d e=> ?_⟩,a,b,c,?_⟩
 ·by_cases i:j=k
  ·subst i
   rw[h] at e
   cases e
   exact .inr rfl
  ·rw[x.keep j _ i (gQe d)] at e
   rw[gQe d]
   exact .inl e
 ·apply List.ext_getElem?
  intro j
  by_cases d:j<S.length
  ·rw[List.getElem?_take_of_lt d]
   exact g j d
  ·rw[List.getElem?_eq_none (by rw[Qxq];omega),List.getElem?_eq_none (by simp;omega)]
def lU{k:Nat}{S e:aD}{d:D}{Q:Res->aD->Prop}(x:Ex k S e)(h:k<S.length)(hd:∀k,d≠.ref k)(g:cm S.length d=true)(q:∀a b c,Q (.d d) (S.set k (rD a b c))):Op (settle S d e) λp=>Q p.1 p.2:=by
 obtain⟨i,a,b,c,f⟩:=x.clean h
 exact iE i f hd g (q a b c)
def KJ{k:Nat}{S d:aD}{ds:List D}{Q:Res->aD->Prop}(x:Ex k S d)(f:k<S.length)(h:b_ S.length ds=true)(q:∀a b c,Q (.l ds) (S.set k (rD a b c))):Op (eO S ds d) λp=>Q p.1 p.2:=by
 obtain⟨g,a,b,c,e⟩:=x.clean f
 exact pD g e h (q a b c)
def bN{S S0:aD}{k:Nat}{m:Int}{Q:Res->aD->Prop}(x:Ex k S0 S)(g:0<m)(j:m<1000000)
  (h:∀(d:Nat) (e:aD),(d:Int)<m->Ex k S0 e->Ex k S e->e.length=S.length->Q (.d (.int d)) e):Fn aG [.ref k,.int m] S Q:=by
 obtain⟨a,b,c,f⟩:=x.pot
 refine F9 f g j λd p l q o i=> ?_
 obtain⟨n,rfl⟩:∃n:Nat,d=n:=⟨d.toNat,by omega⟩
 exact h n _ i x.set (Ex.refl f).set (by simp)
def bq{α:Type}{xs:List α}{j:Nat}{x:α}(h:xs[j]?=some x):kQ xs (j:Int)=some x:=by
 have a:=(gQs.mp h).1
 unfold kQ CD
 rw[Qhq (by omega),Qhq (by omega)]
 simpa using h
def fe{S S0:aD}{k i:Nat}{xs:List D}{Q:Res->aD->Prop}(x:Ex k S0 S)(hi:i≠k)(l:S[i]?=some (.lst xs))(t:0<xs.length)(s:xs.length<1000)(q:∀d∈xs,(∀k,d≠.ref k)/\cm 0 d=true)
  (e:∀d∈xs,cm S.length d=true)
  (h:∀(d:D) (g:aD),d∈xs->Ex k S0 g->Ex k S g->g.length=S.length->Q (.d d) g):Fn bK [.ref k,.ref i] S Q:=by
 have y:Ex k S S:=by obtain⟨a,b,c,p⟩:=x.pot;exact Ex.refl p
 refine cq ?_
 unfold oV
 symm
 apply a7 l ?_
 refine bN y (by show(0:Int)<xs.length;omega) (by show(xs.length:Int)<1000000;omega) λd g o m r n=> ?_
 dsimp only[aZ,aP,aY,bS,bV,eZ]
 have f:d<xs.length:=by have:(d:Int)<(xs.length:Int):=o;omega
 refine bR (m.keep _ _ hi l) (bq (gQe f)) ?_
 have j:=List.getElem_mem f
 refine lU m x.lt (q _ j).1 (e _ j) λa b c=> ?_
 exact h _ _ j x.set y.set (by simp)
end W28
namespace DL
open PySem PySem.Spec L2
mutual
theorem dN{m:Nat}:∀{d:D},cm 0 d=true->cm m d=true
 |.non,_=>rfl
 |.bl _,_=>rfl
 |.int _,_=>rfl
 |.str _,_=>rfl
 |.tup ds,h=>by simp only[cm] at h⊢;exact jU h
 |.ref k,h=>by simp[cm] at h
 |.fn _,_=>rfl
theorem jU{m:Nat}:∀{ds:List D},b_ 0 ds=true->b_ m ds=true
 | [],_=>rfl
 | d::ds,h=>by
   simp only[b_,QCq] at h⊢
   exact⟨dN h.1,jU h.2⟩
end
theorem zJ{m:Nat}:∀{ds:List D},(∀d∈ds,cm m d=true)->b_ m ds=true
 | [],_=>rfl
 | d::ds,h=>by
   simp only[b_,QCq]
   exact⟨h d (QBq ..),zJ λe a=>h e (Qpq _ a)⟩
def a9{α:Type}{m:Nat}{f:α->D}{l:List α}(h:∀a∈l,cm m (f a)=true):b_ m (l.map f)=true:=zJ λd c=>by
 obtain⟨a,b,rfl⟩:=Qkq.mp c
 exact h a b
theorem xu:∀ss:List Str,xM (ss.map D.str)=some ss
 | []=>rfl
 |s::ss=>by simp only[QDq,xM];rw[xu ss];rfl
def Lf{b:cy}{S:aD}{f:fh}{Q:List D->aD->Prop}(h:E f b S λp a=>p.2.isL=true/\∃ss:List Str,p.1=ss.map D.str/\ss.length<64/\Q ((qN ss).map D.str) a):E (Ez f) b S Q:=by
 obtain⟨p,a,e,l,ss,c,d,q⟩:=h
 exact⟨_,a,by unfold Ez;rw[e];simp only[Qbq];rw[Qhq l,c,xu];simp only[Qbq];rw[Qhq d],q⟩
end DL
namespace W28
open PySem PySem.Spec L2 DL
def six:List Str:= ["a","b","c","d","e","zz"]
theorem r_{α a:Type}(g:α->a):∀(l:List α) (k:Nat),(l.map g).eraseIdx k=(l.eraseIdx k).map g
 | [],_=>rfl
 |_::_,0=>rfl
 |x::l,k+1=>congrArg (g x::·) (r_ g l k)
def BI{α:Type}{b a c:List α}{j:Nat}(d:j<a.length)(h:(b++a).Perm c):((b++ [a[j]])++a.eraseIdx j).Perm c:=by
 refine List.Perm.trans ?_ h
 rw[Qvq]
 refine List.Perm.append_left b ?_
 show(a[j]::a.eraseIdx j).Perm a
 rw[List.eraseIdx_eq_take_drop_succ]
 have e:a=a.take j++a[j]::a.drop (j+1):=by rw[←QWq d,List.take_append_drop]
 refine List.Perm.trans ?_ (List.Perm.of_eq e.symm)
 exact List.perm_middle.symm
def HU{n j:Nat}(h:j<n)(a:n<1000):seqIndex? (j:Int) n=some j:=(z_ (by unfold CD;rw[Qhq (by omega),Qhq (by omega)];simp)).1
def iZ{S S0:aD}{k:Nat}{e:Str}{i:Int}{Q:Res->aD->Prop}(x:Ex k S0 S)(hm:0<=i)(P:i<=6)(W:e.length<=1)
  (h:∀(ws:List Str) (s:aD),(∃l,(ws++l).Perm (six.map (e++·)))->(ws.length:Int)=i->Ex k S0 s->Ex k S s->s.length=S.length->Q (.l (ws.map D.str)) s):Fn cZ [.ref k,.str e,.int i] S Q:=by
 have y:Ex k S S:=by obtain⟨a,b,c,hh⟩:=x.pot;exact Ex.refl hh
 refine cq ?_
 unfold mD
 symm
 apply jt ?_
 refine⟨by decide,⟨λn f s g=>f= [f.getD 0 none,some (.str e)]/\s=S/\g=((six.take n).map (e++·)).map D.str,⟨rfl,rfl,rfl⟩,λn f s g h=>trivial,λn d f s g F ⟨t,u,p⟩=> ?_,λf s g ⟨_,u,p⟩=> ?_⟩⟩
 ·have u:=u.symm
  subst u p
  obtain⟨o,rfl⟩:∃o,f= [o,some (.str e)]:=⟨_,t⟩
  have L:∃z,six[n]?=some z/\d=.str z:=by
   rcases n with _|_|_|_|_|_|n <;>first|(cases F;exact⟨_,rfl,rfl⟩)|(simp at F)
  obtain⟨z,J,rfl⟩:=L
  have Z:z.length<=2:=by
   have:=mQg J
   simp only[six,Qsq,QXq,or_false] at this
   rcases this with rfl|rfl|rfl|rfl|rfl|rfl <;>decide
  symm
  rw[Qhq rfl]
  symm
  refine K6 (QAq (show e.length+z.length<=3 by omega) (by decide)) ?_
  have w:n<6:=(gQs.mp J).1
  refine⟨?_,rfl,rfl,?_⟩
  ·simp only[lQm,Qxq]
   exact Nat.lt_of_le_of_lt (Nat.min_le_left _ _) (Nat.lt_trans w (by decide))
  ·rw[QYq,J]
   simp
 ·have u:=u.symm
  subst u p
  symm
  apply Lf ?_
  apply jt ?_
  refine⟨i,rfl,⟨by omega,by omega⟩,λn f B g=>∃(r m:List Str),f= [f.getD 0 none,some (.ref k),some (.ref S.length)]/\Ex k S B/\B.length=S.length+1/\B[S.length]?=some (.lst (m.map D.str))/\g=r.map D.str/\r.length=n/\(r++m).Perm (six.map (e++·)),?_,λ_ _ _ _ _=>trivial,?_,?_⟩
  ·refine⟨[],six.map (e++·),rfl,y.app,by simp,?_,rfl,rfl,List.Perm.refl _⟩
   exact aM
  ·rintro n d f B g F ⟨r,m,t,I,A,G,rfl,w,hp⟩
   obtain⟨o,rfl⟩:∃o,f= [o,some (.ref k),some (.ref S.length)]:=⟨_,t⟩
   have q:=hp.length_eq
   simp only[lQa,lQm] at q
   have X:six.length=6:=rfl
   have Y:n<6:=by
    have:=(gQs.mp F).1
    simp only[jZ,lQm,QVq] at this
    omega
   have U:0<m.length:=by omega
   symm
   rw[Qhq rfl]
   apply fZ ?_
   apply⟨_,_,rfl,G,?_⟩
   apply a7 G ?_
   refine bN I (by simp only[lQm];omega) (by simp only[lQm];omega) λj S3 R N H K=> ?_
   dsimp only[aZ,aP,aY,bS,bV,eZ]
   symm
   have v:j<m.length:=by simpa using R
   have M:S.length≠k:=by have:=x.lt;omega
   have C:=H.keep _ _ M G
   refine⟨_,C,?_⟩
   refine N3 (d:=((m.map D.str).eraseIdx j,D.str m[j])) ?_ ?_
   ·simp only[gK]
    rw[Qhq ⟨by omega,by omega⟩,lQm,HU v (by omega)]
    simp[gQe v]
   ·refine⟨?_,r++ [m[j]],m.eraseIdx j,rfl,N.put (Qmq _) x.lt,by simp[K,A],?_,by simp,by simp[w],BI v hp⟩
    ·simp only[lQm]
     exact Nat.lt_trans (show r.length<6 by omega) (by decide)
    ·rw[cJ C,r_]
  ·rintro f B g ⟨r,m,t,I,A,G,rfl,w,hp⟩
   have q:=hp.length_eq
   simp only[lQa,lQm] at q
   have X:six.length=6:=rfl
   refine⟨rfl,r,rfl,by omega,?_⟩
   refine KJ I x.lt (a9 λ_ _=>rfl) λa b c=> ?_
   refine h _ _ ⟨m,(QJq m (jm r)).trans hp⟩ ?_ x.set y.set (by simp)
   rw[(jm r).length_eq,w]
   simp only[jZ,lQm,QVq]
   omega
end W28
namespace DL
open PySem PySem.Spec L2
def xV{a:cy}{S:aD}{f g:fh}{Q:List D->aD->Prop}(h:E f a S λp b=>E g a b λr S2=>(p.2.isM=true/\r.2.isM=true/\p.2.stays S2 p.1/\p.1.length+r.1.length<=sizeLine)/\Q (p.1++r.1) S2):E (yz f g) a S Q:=by
 obtain⟨p,b,c,r,S2,d,l,q⟩:=h
 exact⟨_,S2,by unfold yz;rw[c];simp only[Qbq];rw[d];simp only[Qbq];rw[Qhq l],q⟩
def dG{S:aD}{i j:Int}{Q:D->Prop}(q:Q (.bl (decide (i=j)))):Op (dk false S (.int i) (.int j)) Q:=⟨_,by simp[dk,xb,Cp],q⟩
def jc{S:aD}{i j:Str}{Q:D->Prop}(q:Q (.bl (decide (i=j)))):Op (dk false S (.str i) (.str j)) Q:=⟨_,by simp[dk,xb,Cp],q⟩
def iq{a:cy}{S:aD}{n:Nat}{g:oo}{ds:List D}{Q:cy->aD->Prop}(d:ds.length=n)(h:M_ g ds a S Q):Tg (lA (nG n g)) (.tup ds) a S Q:=by
 obtain⟨b,c,e,q⟩:=h
 exact⟨b,c,by show nG n g ds a S=_;unfold nG;rw[Qhq d];exact e,q⟩
def bJ{a:cy}{S:aD}{Q:cy->aD->Prop}(q:Q a S):M_ dB [] a S Q:=⟨_,_,rfl,q⟩
def az{b:cy}{S:aD}{f:ni}{g:oo}{d:D}{ds:List D}{Q:cy->aD->Prop}(h:Tg f d b S λa e=>M_ g ds a e Q):M_ (aJ f g) (d::ds) b S Q:=by
 obtain⟨a,e,j,c,i,k,q⟩:=h
 exact⟨c,i,by show(f d b S).bind _=_;rw[j];exact k,q⟩
end DL
namespace W28
open PySem PySem.Spec L2 DL
def ops:List Str:= ["plus","minus","less","same","both"]
inductive Tr where
 |num (n:Nat)|word (x:Str)|waits (b:Str)|no (t:Tr)|two (o:Str) (a b:Tr)
def Tr.d:Tr->D
 |.num n=>.int n
 |.word x=>.str x
 |.waits b=>.tup [.str "waits",.str b]
 |.no t=>.tup [.str "not",t.d]
 |.two o a b=>.tup [.str o,a.d,b.d]
def Tr.Ok(ws bs:List Str):Tr->Prop
 |.num n=>n<=9
 |.word x=>x∈ws
 |.waits b=>b∈bs
 |.no t=>t.Ok ws bs
 |.two o a b=>o∈ops/\a.Ok ws bs/\b.Ok ws bs
def Tr.dep:Tr->Nat
 |.num _=>1
 |.word _=>1
 |.waits _=>1
 |.no t=>t.dep+1
 |.two _ a b=>max a.dep b.dep+1
theorem Tr.low:∀t:Tr,cm 0 t.d=true
 |.num _=>rfl
 |.word _=>rfl
 |.waits _=>rfl
 |.no t=>by simp only[Tr.d,cm,b_];rw[t.low];rfl
 |.two _ a b=>by simp only[Tr.d,cm,b_];rw[a.low,b.low];rfl
def Tr.noref(t:Tr):∀k,t.d≠.ref k:=by
 intro k
 cases t <;>simp[Tr.d]
def eA{ws:List Str}:∀d∈ws.map D.str,(∀k,d≠.ref k)/\cm 0 d=true:=λd b=>by
 obtain⟨a,_,rfl⟩:=Qkq.mp b
 exact⟨λk z=>(nomatch z),rfl⟩
def fS{ws:List Str}{m:Nat}:∀d∈ws.map D.str,cm m d=true:=λd b=>by
 obtain⟨a,_,rfl⟩:=Qkq.mp b
 rfl
def LI{n:Nat}(h:(n:Int)<5):∃o,o∈ops/\kQ ([.str "plus",.str "minus",.str "less",.str "same",.str "both"]:List D) (n:Int)=some (.str o):=by
 rcases n with _|_|_|_|_|n
 ·exact⟨"plus",by simp[ops],rfl⟩
 ·exact⟨"minus",by simp[ops],rfl⟩
 ·exact⟨"less",by simp[ops],rfl⟩
 ·exact⟨"same",by simp[ops],rfl⟩
 ·exact⟨"both",by simp[ops],rfl⟩
 ·omega
theorem ju:∀(n:Nat) {S S0:aD} {k i j:Nat} {ws bs:List Str} {deep:Nat} {Q:Res->aD->Prop} (x:Ex k S0 S) (hi:i≠k) (P:j≠k) (W:S[i]?=some (.lst (ws.map D.str))) (hb:S[j]?=some (.lst (bs.map D.str))) (lw:ws.length<1000) (lb:bs.length<1000) (hn:deep<n)
  (h:∀(t:Tr) (f:aD),t.Ok ws bs->t.dep<=deep+1->Ex k S0 f->Ex k S f->f.length=S.length->Q (.d t.d) f),Fn (bx n) [.ref k,.ref i,.ref j,.int deep] S Q
 |0,_,_,_,_,_,_,_,_,_,_,_,_,_,_,_,_,hn,_=>absurd hn (Nat.not_lt_zero _)
 | n+1,S,S0,k,i,j,ws,bs,deep,Q,x,hi,P,W,hb,lw,lb,hn,h=>by
   have y:Ex k S S:=by obtain⟨a,b,c,hh⟩:=x.pot;exact Ex.refl hh
   have A:∀(t:Tr) (f:aD),t.Ok ws bs->t.dep<=deep+1->Ex k S f->Op (settle S t.d f) λp=>Q p.1 p.2:=λt f J h2 e=>lU e x.lt t.noref (dN t.low) λa b c=>h _ _ J h2 x.set y.set (by simp)
   refine cq ?_
   unfold qM
   symm
   apply bN y (by decide) (by decide) λw S1 a1 X _ l1=> ?_
   have a3:=X.keep _ _ hi W
   have a2:=X.keep _ _ P hb
   have F:∀l,Ex k S l->T (aE (cY (ia (aH (cV (aQ (ar 1)))) (aH (aR IQ (aw aG (aq (ar 0) (aq (cF (.int 3)) av))) (cF (.int 0))))) (cp (aw bK (aq (ar 0) (aq (ar 1) av)))) fu)
     (cp (aw aG (aq (ar 0) (aq (aR fR (bM (bu (aq (cF (.int 3)) (aq (cF (.int 10)) av)))) (tO intOfD (aq (aR (dk false) (aw aG (aq (ar 0) (aq (cF (.int 5)) av))) (cF (.int 0))) av))) av)))))
     [some (.ref k),some (.ref i),some (.ref j),some (.int deep),some (.int w),none] l λo=>match o with|.rt d f=>Op (settle S d f) λp=>Q p.1 p.2|_=>False:=by
     intro l q
     have Z:=q.keep _ _ hi W
     have u:∀N,Ex k S N->T (cp (aw aG (aq (ar 0) (aq (aR fR (bM (bu (aq (cF (.int 3)) (aq (cF (.int 10)) av)))) (tO intOfD (aq (aR (dk false) (aw aG (aq (ar 0) (aq (cF (.int 5)) av))) (cF (.int 0))) av))) av))))
       [some (.ref k),some (.ref i),some (.ref j),some (.int deep),some (.int w),none] N λo=>match o with|.rt d f=>Op (settle S d f) λp=>Q p.1 p.2|_=>False:=by
       intro N U
       symm
       apply⟨by decide,?_⟩
       apply bN (U.app (G:= [O.lst [D.int 3,D.int 10]])) (by decide) (by decide) λd S4 hd I L l4=> ?_
       apply dG ?_
       have a0:S4[N.length]?=some (.lst [.int 3,.int 10]):=L.keep _ _ (by have:=U.lt;omega) aM
       have hm:∃m:Int,(m=3\/m=10)/\Op (intOfD [D.bl (decide ((d:Int)=0))]) (λz=>∃r,z=.int r/\kQ ([.int 3,.int 10]:List D) r=some (.int m)):=by
         by_cases c:(d:Int)=0
         · exact⟨10,.inr rfl,_,rfl,1,by rw[Qeq c];rfl,rfl⟩
         · exact⟨3,.inl rfl,_,rfl,0,by rw[Qdq c];rfl,rfl⟩
       obtain⟨m,hm,z,C,r,rfl,e6⟩:=hm
       refine⟨_,C,?_⟩
       apply bR a0 e6 ?_
       refine bN I (by omega) (by omega) λv S5 hv C _ l5=> ?_
       dsimp only[aZ,aP,aY,bS,bV,eZ]
       exact A (.num v) _ (by show v<=9;omega) (by show 1<=deep+1;omega) C
     symm
     refine a7 Z ?_
     refine⟨⟨rfl,Z⟩,?_⟩
     dsimp only[aZ,aP,aY,bS,bV,eZ]
     refine aL (λc=> ?_) (λc=> ?_)
     · symm
       apply bN q (by decide) (by decide) λd N hd U _ l3=> ?_
       refine aL (λc2=> ?_) (λc2=> ?_)
       · symm
         have M:0<(ws.map D.str).length:=by
           cases ws with
           |nil=>simp at c
           |cons a b=>simp
         refine fe U hi (U.keep _ _ hi W) M (by simpa using lw) eA fS λv S4 hv I _ l4=> ?_
         obtain⟨z,hz,rfl⟩:=Qkq.mp hv
         exact A (.word z) _ hz (by show 1<=deep+1;omega) I
       · exact cc (u N U)
     · rw[Quq (by decide)]
       exact cc (u l q)
   have go:∀{R:Res->aD->Prop} {l:aD},Ex k S l->1<=deep->(∀(t:Tr) (f:aD),t.Ok ws bs->t.dep<=deep->Ex k S f->R (.d t.d) f)->Fn (bx n) [.ref k,.ref i,.ref j,.int ((deep:Int)-1)] l R:=by
     intro R l q hd hR
     have e:((deep:Int)-1)=((deep-1:Nat):Int):=by omega
     rw[e]
     exact ju n q hi P (q.keep _ _ hi W) (q.keep _ _ P hb) lw lb (by omega) λt f J h2 h3 _ _=>hR t f J (by omega) h3
   have Y:∀l,Ex k S l->1<=deep->T (aE (cY (ia (aH (aR (dk false) (ar 4) (cF (.int 3)))) (aH (cV (aQ (ar 2))))) (cp (a_ (aq (cF (.str "waits")) (aq (aw bK (aq (ar 0) (aq (ar 2) av))) av)))) fu)
     (aE (cY (aH (aR (dk false) (ar 4) (cF (.int 4)))) (cp (a_ (aq (cF (.str "not")) (aq (aw (bx n) (aq (ar 0) (aq (ar 1) (aq (ar 2) (aq (aR jv (ar 3) (cF (.int 1))) av))))) av)))) fu)
     (aE (aU 5 (aR fR (bM (bu (aq (cF (.str "plus")) (aq (cF (.str "minus")) (aq (cF (.str "less")) (aq (cF (.str "same")) (aq (cF (.str "both")) av))))))) (aw aG (aq (ar 0) (aq (cF (.int 5)) av)))))
     (cp (a_ (aq (ar 5) (aq (aw (bx n) (aq (ar 0) (aq (ar 1) (aq (ar 2) (aq (aR jv (ar 3) (cF (.int 1))) av))))) (aq (aw (bx n) (aq (ar 0) (aq (ar 1) (aq (ar 2) (aq (aR jv (ar 3) (cF (.int 1))) av))))) av))))))))
     [some (.ref k),some (.ref i),some (.ref j),some (.int deep),some (.int w),none] l λo=>match o with|.rt d f=>Op (settle S d f) λp=>Q p.1 p.2|_=>False:=by
     intro l q s
     have K:=q.keep _ _ P hb
     have H:T (aE (aU 5 (aR fR (bM (bu (aq (cF (.str "plus")) (aq (cF (.str "minus")) (aq (cF (.str "less")) (aq (cF (.str "same")) (aq (cF (.str "both")) av))))))) (aw aG (aq (ar 0) (aq (cF (.int 5)) av)))))
       (cp (a_ (aq (ar 5) (aq (aw (bx n) (aq (ar 0) (aq (ar 1) (aq (ar 2) (aq (aR jv (ar 3) (cF (.int 1))) av))))) (aq (aw (bx n) (aq (ar 0) (aq (ar 1) (aq (ar 2) (aq (aR jv (ar 3) (cF (.int 1))) av))))) av))))))
       [some (.ref k),some (.ref i),some (.ref j),some (.int deep),some (.int w),none] l λo=>match o with|.rt d f=>Op (settle S d f) λp=>Q p.1 p.2|_=>False:=by
       symm
       apply⟨by decide,?_⟩
       refine bN (q.app (G:= [O.lst [.str "plus",.str "minus",.str "less",.str "same",.str "both"]])) (by decide) (by decide) λd S4 hd I L l4=> ?_
       dsimp only[aZ,aP,aY,bS,bV,eZ]
       obtain⟨o,B,C⟩:=LI hd
       refine bR (L.keep _ _ (by have:=q.lt;omega) aM) C ?_
       symm
       apply go I s λt1 S5 J h2 C=> ?_
       apply go C s λt2 S6 h3 h4 e6=> ?_
       refine⟨by show 3<=_;decide,?_⟩
       exact A (.two o t1 t2) _ ⟨B,J,h3⟩ (by simp only[Tr.dep];omega) e6
     have g:T (aE (cY (aH (aR (dk false) (ar 4) (cF (.int 4)))) (cp (a_ (aq (cF (.str "not")) (aq (aw (bx n) (aq (ar 0) (aq (ar 1) (aq (ar 2) (aq (aR jv (ar 3) (cF (.int 1))) av))))) av)))) fu)
       (aE (aU 5 (aR fR (bM (bu (aq (cF (.str "plus")) (aq (cF (.str "minus")) (aq (cF (.str "less")) (aq (cF (.str "same")) (aq (cF (.str "both")) av))))))) (aw aG (aq (ar 0) (aq (cF (.int 5)) av)))))
       (cp (a_ (aq (ar 5) (aq (aw (bx n) (aq (ar 0) (aq (ar 1) (aq (ar 2) (aq (aR jv (ar 3) (cF (.int 1))) av))))) (aq (aw (bx n) (aq (ar 0) (aq (ar 1) (aq (ar 2) (aq (aR jv (ar 3) (cF (.int 1))) av))))) av)))))))
       [some (.ref k),some (.ref i),some (.ref j),some (.int deep),some (.int w),none] l λo=>match o with|.rt d f=>Op (settle S d f) λp=>Q p.1 p.2|_=>False:=by
       symm
       refine dG ?_
       dsimp only[aZ,aP,aY,bS,bV,eZ]
       refine aL (λc=> ?_) (λc=> ?_)
       · symm
         apply go q s λt S5 J h2 C=> ?_
         refine⟨by show 2<=_;decide,?_⟩
         exact A (.no t) _ J (by simp only[Tr.dep];omega) C
       · exact cc H
     symm
     refine dG ?_
     dsimp only[aZ,aP,aY,bS,bV,eZ]
     refine aL (λc=> ?_) (λc=> ?_)
     · symm
       refine a7 K ?_
       refine⟨⟨rfl,K⟩,?_⟩
       dsimp only[aZ,aP,aY,bS,bV,eZ]
       refine aL (λc=> ?_) (λc=> ?_)
       · symm
         have M:0<(bs.map D.str).length:=by
           cases bs with
           |nil=>simp at c
           |cons a b=>simp
         refine fe q P K M (by simpa using lb) eA fS λv S4 hv I _ l4=> ?_
         obtain⟨z,hz,rfl⟩:=Qkq.mp hv
         symm
         refine⟨by show 2<=_;decide,?_⟩
         exact A (.waits z) _ hz (by show 1<=deep+1;omega) I
       · exact cc g
     · rw[Quq (by decide)]
       exact cc g
   refine aL (λc=> ?_) (λc=> ?_)
   · rw[Qhq rfl]
     exact(F S1 X).mono λo B=>by
       cases o with
       |rt d f=>exact B
       |_=>exact B.elim
   · symm
     refine aL (λc2=> ?_) (λc2=> ?_)
     · exact(F S1 X).mono λo B=>by
         cases o with
         |rt d f=>exact B
         |_=>exact B.elim
     · have s:1<=deep:=by
         have:=QaQ c
         omega
       refine cc ?_
       exact(Y S1 X s).mono λo B=>by
         cases o with
         |rt d f=>exact B
         |_=>exact B.elim
inductive Rw where
 |put (x:Str) (t:Tr)|unl (t:Tr) (n:Nat)|go (n:Nat)|do_ (g:Option Str) (r d:Str) (t:Tr)|wait (b:Str) (t:Tr)|call (b:Str)|all (b:Str)|tell (t:Tr)
 |take (p:Str)|give (p:Str)|pass (p q:Str)|say (t:Tr)
def Gz:Option Str->D
 |none=>.non
 |some x=>.str x
def Rw.d:Rw->D
 |.put x t=>.tup [.str "put",.str x,t.d]
 |.unl t n=>.tup [.str "unless",t.d,.int n]
 |.go n=>.tup [.str "go",.int n]
 |.do_ g r d t=>.tup [.str "do",Gz g,.str r,.str d,t.d]
 |.wait b t=>.tup [.str "wait",.str b,t.d]
 |.call b=>.tup [.str "call",.str b]
 |.all b=>.tup [.str "all",.str b]
 |.tell t=>.tup [.str "tell",t.d]
 |.take p=>.tup [.str "take",.str p]
 |.give p=>.tup [.str "give",.str p]
 |.pass p q=>.tup [.str "pass",.str p,.str q]
 |.say t=>.tup [.str "say",t.d]
structure Sc where
 own:Bool
 ws:List Str
 ps:List Str
 bs:List Str
 gs:List (Str×Str)
 ts:List Str
def FV(sc:Sc)(t:Tr):Prop:=t.Ok sc.ws sc.bs/\t.dep<=4
def Rw.Ok(sc:Sc)(n:Nat):Rw->Prop
 |.put x t=>x∈sc.ps/\FV sc t
 |.unl t m=>FV sc t/\m<=n
 |.go m=>m<=n
 |.do_ g r d t=>(∀x,g=some x->x∈sc.ps)/\(r,d)∈sc.gs/\FV sc t
 |.wait b t=>sc.own=false/\b∈sc.bs/\FV sc t
 |.call b=>sc.own=false/\b∈sc.bs
 |.all b=>sc.own=false/\b∈sc.bs
 |.tell t=>sc.own=false/\FV sc t
 |.take p=>sc.own=true/\p∈sc.ts
 |.give p=>sc.own=true/\p∈sc.ts
 |.pass p q=>sc.own=true/\p∈sc.ts/\q∈sc.ts
 |.say t=>sc.own=true/\FV sc t
def Rw.Ok.mono{sc:Sc}{n m:Nat}{r:Rw}(h:r.Ok sc n)(l:n<=m):r.Ok sc m:=by
 cases r with
 |unl t k=>exact⟨h.1,QAq h.2 l⟩
 |go k=>exact QAq h l
 |_=>exact h
theorem Rw.low(r:Rw):cm 0 r.d=true:=by
 cases r with
 |do_ g r d t=>cases g <;>simp only[Rw.d,cm,b_,Gz,t.low,Bool.and_true,Bool.true_and]
 |_=>simp only[Rw.d,cm,b_,Tr.low,Bool.and_true,Bool.true_and]
def vC(sc:Sc)(rs:List Rw):Prop:=∀r∈rs,r.Ok sc rs.length
def Gs{S S0:aD}{k i j:Nat}{f:Nat}{sc:Sc}{Q:Res->aD->Prop}(x:Ex k S0 S)(hi:i≠k)(q:j≠k)(U:S[i]?=some (.lst (sc.ws.map D.str)))(L:S[j]?=some (.lst (sc.bs.map D.str)))(Y:sc.ws.length<1000)(I:sc.bs.length<1000)(Z:0<sc.bs.length)(hg:(("given":Str))∈sc.ws)(W:sc.own=false)
  (h:∀(rs:List Rw) (m:aD),(∀r∈rs,r.Ok sc (f+rs.length))->1<=rs.length->rs.length<=3->Ex k S0 m->Ex k S m->m.length=S.length->Q (.l (rs.map Rw.d)) m):Fn jk [.ref k,.ref i,.ref j,.int f] S Q:=by
 have y:Ex k S S:=by obtain⟨a,b,c,hh⟩:=x.pot;exact Ex.refl hh
 have u:∀(rs:List Rw) (m:aD),(∀r∈rs,r.Ok sc (f+rs.length))->1<=rs.length->rs.length<=3->Ex k S m->Op (eO S (rs.map Rw.d) m) λp=>Q p.1 p.2:=λrs m H X F e=>KJ e x.lt (a9 λr _=>dN r.low) λa b c=>h _ _ H X F x.set y.set (by simp)
 refine cq ?_
 unfold mv
 symm
 apply ju 4 (deep:=1) y hi q U L Y I (by decide) λt S1 H X P _ l1=> ?_
 refine⟨by show 3<=_;decide,?_⟩
 symm
 refine bN (P.app (G:= [O.lst [.int 0,.str "given",t.d]])) (by decide) (by decide) λd S2 hd N C l2=> ?_
 dsimp only[aZ,aP,aY,bS,bV,eZ]
 have ht:∃o:Tr,FV sc o/\kQ ([.int 0,.str "given",t.d]:List D) (d:Int)=some o.d:=by
  rcases d with _|_|_|d
  ·exact⟨.num 0,⟨by show 0<=9;omega,by show 1<=4;omega⟩,rfl⟩
  ·exact⟨.word "given",⟨hg,by show 1<=4;omega⟩,rfl⟩
  ·exact⟨t,⟨H,by omega⟩,rfl⟩
  ·omega
 obtain⟨o,s,ha⟩:=ht
 refine bR (C.keep _ _ (by have:=P.lt;omega) aM) ha ?_
 symm
 refine fe N q (N.keep _ _ q L) (by simpa using Z) (by simpa using I) eA fS λv S3 hv e3 _ l3=> ?_
 obtain⟨z,R,rfl⟩:=Qkq.mp hv
 symm
 refine⟨by show 3<=_;decide,?_⟩
 symm
 apply bN e3 (by decide) (by decide) λn S4 M w _ l4=> ?_
 refine dG ?_
 dsimp only[aZ,aP,aY,bS,bV,eZ]
 refine aL (λc=> ?_) (λc=> ?_)
 ·symm
  refine⟨by show 1<=_;decide,?_⟩
  refine u [.wait z o] _ (λr A=> ?_) (by simp) (by simp) w
  rw[Qfq.mp A]
  exact⟨W,R,s⟩
 ·symm
  apply ju 4 (deep:=2) w hi q (w.keep _ _ hi U) (w.keep _ _ q L) Y I (by decide) λK S5 h3 h4 e5 _ l5=> ?_
  refine⟨by show 2<=_;decide,?_⟩
  symm
  refine⟨by show 3<=_;decide,?_⟩
  symm
  refine⟨by show 2<=_;decide,?_⟩
  symm
  have J:∃g:Nat,(g=f\/g=f+3)/\kQ ([.int f,.int ((f:Int)+3)]:List D) ((n:Int)-1)=some (.int (g:Nat)):=by
   have:=QaQ c
   rcases n with _|_|_|n
   ·exact absurd rfl this
   ·exact⟨f,.inl rfl,rfl⟩
   ·exact⟨f+3,.inr rfl,rfl⟩
   ·omega
  obtain⟨g,a0,B⟩:=J
  apply bR aM B ?_
  refine⟨by show 2<=_;decide,?_⟩
  symm
  refine⟨by show 3<=_;decide,?_⟩
  refine u [.unl (.no K) (f+3),.wait z o,.go g] _ (λr A=> ?_) (by simp) (by simp) e5.app
  simp only[Qsq,QXq,or_false] at A
  have hl:([.unl (.no K) (f+3),.wait z o,.go g]:List Rw).length=3:=rfl
  rcases A with rfl|rfl|rfl
  ·exact⟨⟨h3,by show K.dep+1<=4;omega⟩,by rw[hl];exact Qmq _⟩
  ·exact⟨W,R,s⟩
  ·show g<=f+3
   omega
def dt(g:Str×Str):D:=.tup [.str g.1,.str g.2]
def Bq{c:List (Str×Str)}:∀d∈c.map dt,(∀k,d≠.ref k)/\cm 0 d=true:=λd b=>by
 obtain⟨a,_,rfl⟩:=Qkq.mp b
 exact⟨λk z=>(nomatch z),rfl⟩
def Gg{c:List (Str×Str)}{m:Nat}:∀d∈c.map dt,cm m d=true:=λd b=>by
 obtain⟨a,_,rfl⟩:=Qkq.mp b
 rfl
def Kx{S S0:aD}{k g t i:Nat}{sc:Sc}{Q:Res->aD->Prop}{n:Nat}(x:Ex k S0 S)(N:g≠k)(ht:t≠k)(hi:i≠k)(P:S[g]?=some (.lst (sc.gs.map dt)))(gt:S[t]?=some (.lst (sc.ps.map D.str)))(R:S[i]?=some (.lst (sc.ws.map D.str)))
  (X:0<sc.gs.length) (lg:sc.gs.length<1000) (lt:sc.ps.length<900) (lw:sc.ws.length<1000)
  (h:∀(r:Rw) (q:aD),r.Ok sc n->Ex k S0 q->Ex k S q->q.length=S.length->Q (.d r.d) q):Fn mR [.ref k,.ref g,.ref t,.ref i] S Q:=by
 have y:Ex k S S:=by obtain⟨a,b,c,hh⟩:=x.pot;exact Ex.refl hh
 refine cq ?_
 unfold u_
 symm
 refine fe y N P (by simpa using X) (by simpa using lg) Bq Gg λv L W B _ l1=> ?_
 obtain⟨⟨J,I⟩,Y,rfl⟩:=Qkq.mp W
 dsimp only[aZ,aP,aY,bS,bV,eZ]
 apply iq rfl (az (aX (az (aX (bJ ?_)))))
 apply xV ?_
 apply⟨by decide,?_⟩
 refine a7 (B.keep _ _ ht gt) ?_
 refine⟨⟨rfl,rfl,trivial,by simp only[lQm,Qnq,QGq];exact QAq (show 0+1+sc.ps.length<=1000 by omega) (by decide)⟩,?_⟩
 symm
 have l:∀d∈([.non]++sc.ps.map D.str:List D),(∃o:Option Str,d=Gz o/\∀z,o=some z->z∈sc.ps):=λd e=>by
  rcases mQa.mp e with e|e
  ·rw[Qfq.mp e]
   exact⟨none,rfl,λz C=>by cases C⟩
  ·obtain⟨a,Z,rfl⟩:=Qkq.mp e
   exact⟨some a,rfl,λz C=>by cases C;exact Z⟩
 have f:∀(m:Nat),∀d∈([.non]++sc.ps.map D.str:List D),(∀k,d≠.ref k)/\cm m d=true:=λm d e=>by
  obtain⟨o,rfl,_⟩:=l d e
  cases o <;>exact⟨λk z=>(nomatch z),rfl⟩
 refine fe (i:=L.length) (B.app (G:= [O.lst ([.non]++sc.ps.map D.str)])) (by have:=B.lt;omega) aM (by simp) (by simp;omega) (f 0) (λd e=>(f _ d e).2) λv2 U F u _ l2=> ?_
 obtain⟨o,rfl,ho⟩:=l v2 F
 symm
 apply⟨by decide,?_⟩
 refine ju 4 (deep:=1) (bs:= []) (u.app (G:= [O.lst []])) hi (j:=U.length) (by have:=u.lt;omega) (aN (u.keep _ _ hi R)) aM lw (by decide) (by decide) λs S3 h3 h4 K _ l3=> ?_
 symm
 refine⟨by show 5<=_;decide,?_⟩
 have p:s.Ok sc.ws sc.bs:=by
  have w:∀t:Tr,t.Ok sc.ws []->t.Ok sc.ws sc.bs:=by
   intro t
   induction t with
   |num n=>exact id
   |word x=>exact id
   |waits b=>intro z;exact absurd z (by simp[Tr.Ok])
   |no t M=>exact M
   |two o a b H A=>exact λz=>⟨z.1,H z.2.1,A z.2.2⟩
  exact w s h3
 refine lU (d:=(Rw.do_ o J I s).d) K x.lt (λk z=>(nomatch z)) (dN (Rw.low _)) λa b c=> ?_
 exact h (.do_ o J I s) _ ⟨ho,Y,p,by omega⟩ x.set y.set (by simp)
end W28
namespace DL
open PySem PySem.Spec L2
def HL{c:cy}{S:aD}{f:bD}{g:fh}{Q:D->aD->Prop}(h:E f c S λx b=>∃k a,x=.ref k/\b[k]?=some (.lst a)/\E g c b λp S2=>∃ds,S2[k]?=some (.lst ds)/\(p.2.isM=true/\ds.length+p.1.length<=sizeLine)/\Q .non (S2.set k (.lst (ds++p.1)))):E (zR f g) c S Q:=by
 obtain⟨x,b,d,k,a,rfl,h1,p,S2,e2,ds,h2,h3,q⟩:=h
 exact⟨_,_,by unfold zR;rw[d];simp only[Qbq,e2,h1,h2];rw[Qhq h3],q⟩
def lS{b:cy}{S:aD}{f g:bD}{Q:D->aD->Prop}(h:E f b S λd a=>∃k,d=.bl k/\if k=true then E g b a Q else Q (.bl false) a):E (qZ f g) b S Q:=by
 obtain⟨d,a,c,k,rfl,q⟩:=h
 cases k with
 |true=>obtain⟨j,e,i,q⟩:=(q:E g b a Q);exact⟨j,e,by unfold qZ;rw[c];exact i,q⟩
 |false=>exact⟨_,a,by unfold qZ;rw[c];rfl,q⟩
def fo{ds:List D}{y:D}{Q:List D×D->Prop}(h:ds.length<sizeLine)(q:Q (ds++ [y],.non)):Op (ff ds [y]) Q:=⟨_,by simp only[ff];rw[Qhq h],q⟩
end DL
namespace W28
open PySem PySem.Spec L2 DL
def fq:List Str:= ["given"]
def uj{d:cy}{S:aD}{i j l:Nat}{w m:Int}{ds:List D}{Q:Bool->aD->Prop}(hi:d[i]?=some (some (.int w)))(f:d[j]?=some (some (.ref l)))(e:S[l]?=some (.lst ds))(q:∀c,(c=true->0<ds.length)->Q c S):
  E (ia (aH (aR Ce (ar i) (cF (.int m)))) (aH (cV (aQ (ar j))))) d S Q:=by
 refine om (cN (bc (ax hi (cO (gJ ?_)))))
 refine aL (λc=> ?_) λc=>q false λz=>(nomatch z)
 refine cN (uw (bW (ax f (a7 e ⟨⟨rfl,e⟩,q _ λz=> ?_⟩))))
 cases ds with
 |nil=>cases z
 |cons a b=>simp
def ud{d:cy}{S:aD}{i j l:Nat}{w m:Int}{ds:List D}{Q:Bool->aD->Prop}(hi:d[i]?=some (some (.int w)))(f:d[j]?=some (some (.ref l)))(e:S[l]?=some (.lst ds))(q:∀c,(c=true->0<ds.length)->Q c S):
  E (ia (aH (aR (dk false) (ar i) (cF (.int m)))) (aH (cV (aQ (ar j))))) d S Q:=by
 refine om (cN (bc (ax hi (cO (dG ?_)))))
 refine aL (λc=> ?_) λc=>q false λz=>(nomatch z)
 refine cN (uw (bW (ax f (a7 e ⟨⟨rfl,e⟩,q _ λz=> ?_⟩))))
 cases ds with
 |nil=>cases z
 |cons a b=>simp
def KO{a:cy}{S:aD}{i:Nat}{w m:Int}{Q:Bool->aD->Prop}(hi:a[i]?=some (some (.int w)))(q:∀c,Q c S):E (aH (aR (dk false) (ar i) (cF (.int m)))) a S Q:=cN (bc (ax hi (cO (dG (q _)))))
def Js{e:cy}{S:aD}{i j:Nat}{m s:Str}{w n:Int}{Q:D->aD->Prop}(hi:e[i]?=some (some (.str m)))(f:e[j]?=some (some (.int w)))(q:∀b:Nat,b<=1->Q (.int b) S):
  E (tO intOfD (aq (qZ (aR (dk false) (ar i) (cF (.str s))) (aR (dk false) (ar j) (cF (.int n)))) av)) e S Q:=by
 refine CW (aB (lS (bc (ax hi (cO (jc ⟨_,rfl,?_⟩))))))
 have a:∀b:Bool,E av e S λh g=>Op (intOfD (.bl b::h)) λd=>Q d g:=λb=>bo (by
  cases b with
  |true=>exact⟨_,rfl,q 1 (by omega)⟩
  |false=>exact⟨_,rfl,q 0 (by omega)⟩)
 refine aL (λc=> ?_) (λc=> ?_)
 ·exact bc (ax f (cO (dG (a _))))
 ·exact a false
def IR{S S0:aD}{k t b g:Nat}{ah:Str}{M aa:List Str}{goals:List (Str×Str)}{Q:Res->aD->Prop}(x:Ex k S0 S)(nt:t≠k)(nb:b≠k)(ng:g≠k)(gt:S[t]?=some (.lst (M.map D.str)))(gb:S[b]?=some (.lst (aa.map D.str)))(gg:S[g]?=some (.lst (goals.map dt)))
  (lt:M.length<500) (lb:aa.length<500) (lg:goals.length<500)
  (h:∀(rs:List Rw) (Z:aD),vC ⟨false,M++fq,M,aa,goals,[]⟩ rs->0<rs.length->rs.length<=12->Ex k S0 Z->Ex k S Z->Z.length=S.length->Q (.d (.tup (rs.map Rw.d))) Z):
  Fn kK [.ref k,.tup [.str ah,.ref t,.ref b],.ref g,.int 4] S Q:=by
 have y:Ex k S S:=by obtain⟨a,b,c,hh⟩:=x.pot;exact Ex.refl hh
 have kl:=x.lt
 have tl:=(gQs.mp gt).1
 have bl:=(gQs.mp gb).1
 have gl:=(gQs.mp gg).1
 generalize I:(⟨false,M++fq,M,aa,goals,[]⟩:Sc)=sc at h
 have so:sc.own=false:=by rw[←I]
 have sw:sc.ws=M++fq:=by rw[←I]
 have sp:sc.ps=M:=by rw[←I]
 have sb:sc.bs=aa:=by rw[←I]
 have sg:sc.gs=goals:=by rw[←I]
 refine cq ?_
 unfold oG
 symm
 apply iq rfl (az (aX (az (aX (az (aX (bJ ?_)))))))
 apply xV ?_
 apply a7 gt ?_
 refine⟨by decide,?_⟩
 refine⟨⟨rfl,rfl,gt,by simp only[lQm,Qnq,QGq];exact QAq (show M.length+(0+1)<=1000 by omega) (by decide)⟩,?_⟩
 symm
 refine⟨by decide,?_⟩
 have ew:M.map D.str++ [D.str "given"]=sc.ws.map D.str:=by rw[sw];simp[fq]
 rw[ew]
 have e0:Ex k S (S++ [O.lst (sc.ws.map D.str)]++ [O.lst []]):=y.app.app
 generalize hr:S.length+1=r
 have K:(S++ [O.lst (sc.ws.map D.str)]).length=r:=by simp[hr]
 rw[K]
 have iw:(S++ [O.lst (sc.ws.map D.str)]++ [O.lst []])[S.length]?=some (.lst (sc.ws.map D.str)):=aN aM
 have ir:(S++ [O.lst (sc.ws.map D.str)]++ [O.lst []])[r]?=some (.lst []):=by rw[←K];exact aM
 have il:(S++ [O.lst (sc.ws.map D.str)]++ [O.lst []]).length=r+1:=by simp[←hr]
 generalize (S++ [O.lst (sc.ws.map D.str)]++ [O.lst []])=S1 at e0 iw ir il⊢
 apply aK (gV ?_)
 apply bN e0 (by decide) (by decide) λa1 S2 b2 e2 b0 l2=> ?_
 refine⟨_,rfl,⟨by omega,by omega⟩,?_⟩
 have N:r≠k:=by omega
 have B:S.length≠k:=by omega
 let Inv:Nat->cy->aD->Prop:=λn a5 Z=>∃(o9 a6 a4:Option D) (rs:List Rw),a5= [some (.ref k),some (.tup [.str ah,.ref t,.ref b]),some (.ref g),some (.int 4),some (.str ah),some (.ref t),some (.ref b),some (.ref S.length),some (.ref r),o9,a6,a4]∧
  Ex k S Z/\Z[S.length]?=some (.lst (sc.ws.map D.str))/\Z[r]?=some (.lst (rs.map Rw.d))/\rs.length<=3*n/\n<=rs.length/\n<=4/\∀q∈rs,q.Ok sc rs.length
 refine⟨Inv,⟨_,_,_,[],rfl,e2,b0.keep _ _ B iw,b0.keep _ _ N ir,by simp,by simp,by omega,by simp⟩,λ_ _ _ _=>trivial,?_,?_⟩
 ·rintro n d a5 S3 hd ⟨o9,a6,a4,rs,rfl,e3,hw3,hr3,hl1,hl2,hn4,hok⟩
  have c0:n<4:=by
   have:=(gQs.mp hd).1
   simp only[jZ,lQm,QVq] at this
   omega
  apply aX ?_
  refine bN e3 (by decide) (by decide) λb9 S4 c2 U b1 l4=> ?_
  dsimp only[aZ,aP,aY,bS,bV,eZ]
  have o:=b1.keep _ _ B hw3
  have j:=b1.keep _ _ N hr3
  have W:=U.keep _ _ nt gt
  have w:=U.keep _ _ nb gb
  have a2:=U.keep _ _ ng gg
  rw[←sp] at W
  rw[←sb] at w
  rw[←sg] at a2
  have p:∀(L:List Rw) (a0:Option D) (P:aD),Ex k S P->P[S.length]?=some (.lst (sc.ws.map D.str))->P[r]?=some (.lst (rs.map Rw.d++L.map Rw.d))->1<=L.length->L.length<=3->(∀q∈L,q.Ok sc (rs.length+L.length))→
    Inv (n+1) [some (.ref k),some (.tup [.str ah,.ref t,.ref b]),some (.ref g),some (.int 4),some (.str ah),some (.ref t),some (.ref b),some (.ref S.length),some (.ref r),some d,some (.int b9),a0] P:=by
   intro L a0 P J h1 h2 h3 h4 h5
   refine⟨_,_,_,rs++L,rfl,J,h1,by rw[h2,Qzq],by rw[lQa];omega,by rw[lQa];omega,by omega,λq Y=> ?_⟩
   rw[lQa]
   rcases mQa.mp Y with Y|Y
   ·exact(hok q Y).mono (by omega)
   ·exact h5 q Y
  have i:∀m:Nat,m<=100->m<sizeLine:=λm hm=>Nat.lt_of_le_of_lt hm (by decide)
  have l9:rs.length<=9:=by omega
  have lr:(rs.map Rw.d).length=rs.length:=by simp
  have a3:∀{t':Tr},t'.Ok sc.ws sc.bs->t'.dep<=3->FV sc t':=λh1 h2=>⟨h1,by omega⟩
  have H:sc.ws.length<1000:=by rw[sw];simp[fq];omega
  have R:sc.bs.length<1000:=by rw[sb];omega
  have b7:sc.ps.length<900:=by rw[sp];omega
  have b4:sc.gs.length<1000:=by rw[sg];omega
  refine bU (uj rfl rfl w λc hc=>aL (λF=> ?_) (λF=> ?_))
  ·
   apply fm (HL ?_)
   apply⟨_,_,rfl,j,?_⟩
   apply a7 j ?_
   rw[lr]
   refine Gs (sc:=sc) U B nb o w H R (by simpa using hc F) (by rw[sw];simp[fq]) so λL P h1 b6 h2 J e l5=> ?_
   dsimp only[aZ,aP,aY,bS,bV,eZ]
   have l:=e.keep _ _ N j
   have X:=L.length
   refine⟨_,l,⟨rfl,?_⟩,?_⟩
   ·simp only[lQm]
    exact nQl (i _ (by omega))
   ·exact p L _ _ (J.put (by omega) kl) (ft (by omega) (e.keep _ _ B o)) (cJ l) b6 h2 h1
  refine bU (uj rfl rfl w λc hc=>aL (λF=> ?_) (λF=> ?_))
  ·apply aK (di ?_)
   refine⟨by decide,?_⟩
   refine Js rfl rfl λv hv=> ?_
   have b5:∃(f:Str->Rw) (s:Str),(∀z,(f z).d=.tup [.str s,.str z])/\(∀z n,z∈sc.bs->(f z).Ok sc n)/\kQ ([.str "call",.str "all"]:List D) (v:Int)=some (.str s):=by
    rcases v with _|_|v
    ·exact⟨.call,"call",λ_=>rfl,λz n hz=>⟨so,hz⟩,rfl⟩
    ·exact⟨.all,"all",λ_=>rfl,λz n hz=>⟨so,hz⟩,rfl⟩
    ·omega
   obtain⟨f,s,hf,b3,hs⟩:=b5
   refine bR aM hs ?_
   apply fm (fZ ?_)
   apply⟨_,_,rfl,aN j,?_⟩
   refine fe (U.app (G:= [O.lst [.str "call",.str "all"]])) nb (aN w) (hc F) (by simp;omega) eA fS λv2 P b8 J e l5=> ?_
   obtain⟨z,hz,rfl⟩:=Qkq.mp b8
   symm
   refine⟨by show 2<=_;decide,?_⟩
   symm
   have l:=e.keep _ _ N (aN j)
   refine⟨_,l,fo (i _ (by rw[lr];omega)) ?_⟩
   refine p [f z] _ _ (J.put (by omega) kl) (ft (by omega) (e.keep _ _ B (aN o))) ?_ (by simp) (by simp) λq' C=>by rw[Qfq.mp C];exact b3 _ _ hz
   rw[cJ l]
   simp[hf]
  refine bU (ud rfl rfl a2 λc hc=>aL (λF=> ?_) (λF=> ?_))
  ·apply fm (fZ ?_)
   apply⟨_,_,rfl,j,?_⟩
   apply Kx (n:=rs.length+1) (sc:=sc) U ng nt B a2 W o (by simpa using hc F) b4 b7 H λq P h1 J e l5=> ?_
   have l:=e.keep _ _ N j
   refine⟨_,l,fo (i _ (by rw[lr];omega)) ?_⟩
   exact p [q] _ _ (J.put (by omega) kl) (ft (by omega) (e.keep _ _ B o)) (cJ l) (by simp) (by simp) λq' C=>by rw[Qfq.mp C];exact h1
  refine bU (KO rfl λc=>aL (λF=> ?_) (λF=> ?_))
  ·apply aK (fm (fZ ?_))
   apply⟨_,_,rfl,j,?_⟩
   apply ju 4 (deep:=2) U B nb o w H R (by decide) λt3 P h3 h4 J e l5=> ?_
   have l:=e.keep _ _ N j
   apply a7 l ?_
   refine⟨by show 3<=_;decide,?_⟩
   symm
   refine⟨_,l,fo (i _ (by rw[lr];omega)) ?_⟩
   dsimp only[aZ,aP,aY,bS,bV,eZ]
   apply fm (fZ ?_)
   apply⟨_,_,rfl,cJ l,?_⟩
   apply bN (J.put (r:=r) (by omega) kl) (by decide) (by decide) λv S6 hv e6 A l6=> ?_
   refine⟨by show 2<=_;decide,?_⟩
   symm
   have u:=A.keep _ _ N (cJ l)
   refine⟨_,u,fo (i _ (by simp;omega)) ?_⟩
   refine p [.unl t3 (rs.length+2),.tell (.num v)] _ _ (e6.put (by omega) kl) (ft (by omega) (A.keep _ _ B (ft (by omega) (e.keep _ _ B o)))) ?_ (by simp) (by simp) λq Y=> ?_
   ·rw[cJ u]
    simp[Rw.d,Tr.d]
   ·simp only[Qsq,QXq,or_false] at Y
    rcases Y with rfl|rfl
    ·exact⟨a3 h3 (by omega),by show rs.length+2<=rs.length+2;omega⟩
    ·exact⟨so,by show v<=9;omega,by show 1<=4;omega⟩
  refine bU (uj rfl rfl W λc hc=>aL (λF=> ?_) (λF=> ?_))
  ·apply fm (fZ ?_)
   apply⟨_,_,rfl,j,?_⟩
   refine fe U nt W (hc F) (by simp;omega) eA fS λv P hv J e l5=> ?_
   obtain⟨z,hz,rfl⟩:=Qkq.mp hv
   symm
   apply ju 4 (deep:=2) J B nb (e.keep _ _ B o) (e.keep _ _ nb w) H R (by decide) λt3 S6 h3 h4 e6 A l6=> ?_
   refine⟨by show 3<=_;decide,?_⟩
   symm
   have u:=A.keep _ _ N (e.keep _ _ N j)
   refine⟨_,u,fo (i _ (by rw[lr];omega)) ?_⟩
   exact p [.put z t3] _ _ (e6.put (by omega) kl) (ft (by omega) (A.keep _ _ B (e.keep _ _ B o))) (cJ u) (by simp) (by simp) λq' C=>by rw[Qfq.mp C];exact⟨hz,a3 h3 (by omega)⟩
  ·apply fm (fZ ?_)
   apply⟨_,_,rfl,j,?_⟩
   apply ju 4 (deep:=1) U B nb o w H R (by decide) λt3 S6 h3 h4 e6 A l6=> ?_
   refine⟨by show 2<=_;decide,?_⟩
   symm
   have u:=A.keep _ _ N j
   refine⟨_,u,fo (i _ (by rw[lr];omega)) ?_⟩
   exact p [.tell t3] _ _ (e6.put (by omega) kl) (ft (by omega) (A.keep _ _ B o)) (cJ u) (by simp) (by simp) λq' C=>by rw[Qfq.mp C];exact⟨so,a3 h3 (by omega)⟩
 ·rintro a5 S3 ⟨o9,a6,a4,rs,rfl,e3,hw3,hr3,hl1,hl2,hn4,hok⟩
  have X:(jZ 0 (1+(a1:Int))).length=a1+1:=by simp only[jZ,lQm,QVq];omega
  rw[X] at hl1 hl2 hn4
  symm
  refine a7 hr3 ?_
  refine⟨rfl,?_⟩
  dsimp only[aZ,aP,aY,bS,bV,eZ]
  refine lU e3 x.lt (λk z=>(nomatch z)) (by simp only[cm];exact a9 λq _=>dN q.low) λa b c=> ?_
  exact h rs _ hok (by omega) (by omega) x.set y.set (by simp)
end W28
namespace DL
open PySem PySem.Spec L2
def Pz{a b:cy}{d:D}(h:a.set 0 none=b.set 0 none):a.set 0 (some d)=b.set 0 (some d):=by
 have:=congrArg (λc:cy=>c.set 0 (some d)) h
 simpa using this
def Cz{i:cy}{S:aD}{js:List (Option Nat)}{f:fh}{e:bD}{Q:List D->aD->Prop}(F:D->D)(h:E f i S λp c=>p.2.stays c p.1/\p.1.length<=1000/\(∀d∈p.1,E e ((pk js i).set 0 (some d)) c λy S2=>y=F d/\S2=c)/\Q (p.1.map F) c):
  E (bA js (fK f) (bH 0) bI e) i S Q:=by
 refine jt (kR (h.mono λp c r=> ?_))
 obtain⟨k,u,m,q⟩:=r
 refine⟨λn b g a=>g=c/\a=(p.1.take n).map F/\b.set 0 none=(pk js i).set 0 none,⟨rfl,rfl,rfl⟩,λn b g a h=>by rw[h.1];exact k,λn d b g a j h=> ?_,λb g a h=> ?_⟩
 ·obtain⟨rfl,rfl,h3⟩:=h
  refine aX (lQ ?_)
  rw[Qhq rfl,Pz h3]
  refine(m d (mQg j)).mono λy S2 o=> ?_
  obtain⟨s,l⟩:=o
  subst s l
  have t:=(gQs.mp j).1
  refine⟨?_,rfl,?_,by simp⟩
  ·rw[lQm,Qxq]
   exact bF (by omega)
  ·rw[QYq,j]
   simp
 ·obtain⟨rfl,rfl,_⟩:=h
  rw[QEq]
  exact q
end DL
namespace W28
open PySem PySem.Spec L2 DL
def lC(p:Str×Nat):D:=.tup [.str p.1,.int p.2]
def EW(p:Str×Str):D:=.tup [.str p.1,.str p.2]
def gU(p:Str×List Rw):D:=.tup [.str p.1,.tup (p.2.map Rw.d)]
def D9{s:cy}{S S0:aD}{k j l:Nat}{m:Nat}{ws:List Str}{Q:List D->aD->Prop}(x:Ex k S0 S)(F:s.getD 0 none=some (.ref k))(C:s[j]?=some (some (.ref l)))(A:S[l]?=some (.lst (ws.map D.str)))(G:l≠k)(I:0<m)(M:m<1000)(N:ws.length<=1000)
  (h:∀(ps:List (Str×Nat)) (f:aD),ps.map (·.1)=ws->(∀p∈ps,p.2<m)->Ex k S0 f->Ex k S f->f.length=S.length->Q (ps.map lC) f):
  E (bA [none,some 0] (fK (aQ (ar j))) (bH 0) bI (a_ (aq (ar 0) (aq (aw aG (aq (ar 1) (aq (cF (.int m)) av))) av)))) s S Q:=by
 have y:Ex k S S:=by obtain⟨a,b,c,H⟩:=x.pot;exact Ex.refl H
 refine jt (kR (bW (ax C (a7 A ?_))))
 refine⟨λn i f g=>∃(o:Option D) (ps:List (Str×Nat)),i= [o,some (.ref k)]/\Ex k S0 f/\Ex k S f/\f.length=S.length/\ps.map (·.1)=ws.take n/\(∀p∈ps,p.2<m)/\g=ps.map lC,⟨none,[],by show [none,s.getD 0 none]=_;rw[F],x,y,rfl,rfl,by simp,rfl⟩,?_,?_,?_⟩
 ·rintro n i f g ⟨o,ps,_,_,e,_⟩
  exact e.keep _ _ G A
 ·rintro n d i f g u ⟨o,ps,rfl,e0,e1,el,h1,h2,rfl⟩
  obtain⟨z,r,rfl⟩:∃z,ws[n]?=some z/\d=.str z:=by
   rw[gQm] at u
   obtain⟨z,r,e⟩:=oQm.mp u
   exact⟨z,r,e.symm⟩
  symm
  rw[Qhq rfl]
  symm
  apply bN e0 (by omega) (by omega) λv K L B t P=> ?_
  refine⟨by show 2<=_;decide,?_⟩
  have J:=(gQs.mp r).1
  have w:ps.length=n:=by
   have:=congrArg List.length h1
   rw[lQm,Qxq] at this
   omega
  refine⟨?_,_,ps++ [(z,v)],rfl,B,e1.trans t,by omega,?_,λp q=> ?_,by simp[lC]⟩
  ·rw[lQm]
   exact bF (by omega)
  ·rw[Qzq,h1,QYq,r]
   rfl
  ·rcases mQa.mp q with q|q
   ·exact h2 p q
   ·rw[Qfq.mp q]
    show v<m
    omega
 ·rintro i f g ⟨o,ps,rfl,e0,e1,el,h1,h2,rfl⟩
  exact h ps f (by rw[h1];simp) h2 e0 e1 el
def L8{t:cy}{S S0:aD}{k j l:Nat}{ws:List Str}{Q:List D->aD->Prop}(x:Ex k S0 S)(H:t.getD 0 none=some (.ref k))(F:t[j]?=some (some (.ref l)))(B:S[l]?=some (.lst (ws.map D.str)))(I:l≠k)(P:ws.length<=1000)
  (h:∀(ps:List (Str×Str)) (f:aD),ps.map (·.1)=ws->(∀p∈ps,p.2="row" \/p.2="turns")->Ex k S0 f->Ex k S f->Q (ps.map EW) f):
  E (bA [none,some 0] (fK (aQ (ar j))) (bH 0) bI (a_ (aq (ar 0) (aq (aR fR (bM (bu (aq (cF (.str "row")) (aq (cF (.str "turns")) av)))) (aw aG (aq (ar 1) (aq (cF (.int 2)) av)))) av)))) t S Q:=by
 have y:Ex k S S:=by obtain⟨a,b,c,K⟩:=x.pot;exact Ex.refl K
 refine jt (kR (bW (ax F (a7 B ?_))))
 refine⟨λn i f g=>∃(o:Option D) (ps:List (Str×Str)),i= [o,some (.ref k)]/\Ex k S0 f/\Ex k S f/\ps.map (·.1)=ws.take n/\(∀p∈ps,p.2="row" \/p.2="turns")/\g=ps.map EW,⟨none,[],by show [none,t.getD 0 none]=_;rw[H],x,y,rfl,by simp,rfl⟩,?_,?_,?_⟩
 ·rintro n i f g ⟨o,ps,_,_,e,_⟩
  exact e.keep _ _ I B
 ·rintro n d i f g w ⟨o,ps,rfl,e0,e1,h1,h2,rfl⟩
  obtain⟨z,r,rfl⟩:∃z,ws[n]?=some z/\d=.str z:=by
   rw[gQm] at w
   obtain⟨z,r,e⟩:=oQm.mp w
   exact⟨z,r,e.symm⟩
  symm
  rw[Qhq rfl]
  symm
  apply⟨by decide,?_⟩
  refine bN (e0.app (G:= [O.lst [.str "row",.str "turns"]])) (by decide) (by decide) λv M N C m R=> ?_
  dsimp only[aZ,aP,aY,bS,bV,eZ]
  have u:∃s:Str,(s="row" \/s="turns")/\kQ ([.str "row",.str "turns"]:List D) (v:Int)=some (.str s):=by
   rcases v with _|_|v
   ·exact⟨"row",.inl rfl,rfl⟩
   ·exact⟨"turns",.inr rfl,rfl⟩
   ·omega
  obtain⟨s,u,J⟩:=u
  refine bR (m.keep _ _ (by have:=e0.lt;omega) aM) J ?_
  symm
  refine⟨by show 2<=_;decide,?_⟩
  have L:=(gQs.mp r).1
  have A:ps.length=n:=by
   have:=congrArg List.length h1
   rw[lQm,Qxq] at this
   omega
  refine⟨?_,_,ps++ [(z,s)],rfl,C,(e1.app).trans m,?_,λp q=> ?_,by simp[EW]⟩
  ·rw[lQm]
   exact bF (by omega)
  ·rw[Qzq,h1,QYq,r]
   rfl
  ·rcases mQa.mp q with q|q
   ·exact h2 p q
   ·rw[Qfq.mp q]
    exact u
 ·rintro i f g ⟨o,ps,rfl,e0,e1,h1,h2,rfl⟩
  exact h ps f (by rw[h1];simp) h2 e0 e1
def Rw.Ok.sub{a:Bool}{ws ps bs ts:List Str}{c b:List (Str×Str)}{n:Nat}{r:Rw}(h:r.Ok ⟨a,ws,ps,bs,c,ts⟩ n)(hs:∀g∈c,g∈b):r.Ok ⟨a,ws,ps,bs,b,ts⟩ n:=by
 cases r with
 |do_ g r d t=>exact⟨h.1,hs _ h.2.1,h.2.2⟩
 |_=>exact h
def vC.sub{a:Bool}{ws ps bs ts:List Str}{c b:List (Str×Str)}{rs:List Rw}(h:vC ⟨a,ws,ps,bs,c,ts⟩ rs)(hs:∀g∈c,g∈b):vC ⟨a,ws,ps,bs,b,ts⟩ rs:=λr d=>(h r d).sub hs
structure Rm where
 name:Str
 ah:Str
 ao:List (Str×Nat)
 aa:List (Str×Str)
 ae:List (Str×List Rw)
def Rm.d(r:Rm):D:=.tup [.str r.name,.str r.ah,.tup (r.ao.map lC),.tup (r.aa.map EW),.tup (r.ae.map gU)]
def He:Nat:=0
def JN:Nat:=0
structure uT(gs:List (Str×Str))(r:Rm):Prop where
 mn:r.ah="at once" \/r.ah="when free"
 tv:∀p∈r.ao,p.2<=9
 l1:r.ao.length<=6
 l2:r.aa.length<=6
 l3:r.ae.length<=6
 bv:∀p∈r.aa,p.2="row" \/p.2="turns"
 pr:∀p∈r.ae,vC ⟨false,r.ao.map (·.1)++fq,r.ao.map (·.1),r.aa.map (·.1),gs,[]⟩ p.2/\p.2.length<=12
 bz:r.aa.length<=He
def Il(p:Str×List Rw):cm 0 (gU p)=true:=by
 simp only[gU,cm,b_,Bool.and_true,Bool.true_and]
 exact a9 λr _=>r.low
def Rm.low(r:Rm):cm 0 r.d=true:=by
 simp only[Rm.d,cm,b_,Bool.and_true,Bool.true_and,QCq]
 exact⟨a9 λ_ _=>rfl,a9 λ_ _=>rfl,a9 λp _=>Il p⟩
end W28
namespace DL
open PySem PySem.Spec L2
def Ol{a:cy}{S:aD}{f:fh}{g:bD}{Q:List D->aD->Prop}(h:E f a S λp b=>E g a b λr S2=>∃n:Nat,r=.int n/\(p.2.isM=true/\p.2.stays S2 p.1/\p.1.length*n<=1000/\n<=1)/\Q ((List.replicate n p.1).flatten) S2):E (Kc f g) a S Q:=by
 obtain⟨p,b,c,r,S2,d,n,rfl,⟨h1,h2,h3,h4⟩,q⟩:=h
 refine⟨_,S2,?_,q⟩
 unfold Kc
 rw[c]
 simp only[Qbq]
 rw[d]
 simp only[Qbq]
 rw[Qhq ⟨h1,h2,by omega,by omega,by simpa using QAq h3 (by decide)⟩]
 simp
end DL
namespace W28
open PySem PySem.Spec L2 DL
def J5{S S0:aD}{k g m bm:Nat}{ms:List Str}{name:Str}{goals:List (Str×Str)}{Q:Res->aD->Prop}(x:Ex k S0 S)(ng:g≠k)(nm:m≠k)(gg:S[g]?=some (.lst (goals.map dt)))(gm:S[m]?=some (.lst (ms.map D.str)))(c2:∀s∈ms,s="at once" \/s="when free")(m0:0<ms.length)(m9:ms.length<9)(b3:bm<=He)(lg:goals.length<=100)
  (h:∀(r:Rm) (H:aD),r.name=name->uT (goals++r.ae.map λp=>(name,p.1)) r->Ex k S0 H->Ex k S H->H.length=S.length->Q (.d r.d) H):
  Fn kX [.ref k,.str name,.ref g,.ref m,.int bm] S Q:=by
 have d7:bm<=3:=QAq b3 (by decide)
 have y:Ex k S S:=by obtain⟨a,b,c,hh⟩:=x.pot;exact Ex.refl hh
 have kl:=x.lt
 refine cq ?_
 unfold ow
 symm
 refine fe y nm gm (by simpa using m0) (by rw[lQm];omega) (λd K=> ?_) (λd K=> ?_) λmn S1 b4 e1 _ l1=> ?_
 ·obtain⟨s,_,rfl⟩:=Qkq.mp K
  exact⟨λk z=>(nomatch z),rfl⟩
 ·obtain⟨s,_,rfl⟩:=Qkq.mp K
  rfl
 obtain⟨ah,a4,rfl⟩:∃s:Str,(s="at once" \/s="when free")/\mn=.str s:=by
  obtain⟨s,hs,rfl⟩:=Qkq.mp b4
  exact⟨s,c2 s hs,rfl⟩
 symm
 apply⟨by decide,?_⟩
 refine bN (e1.app (G:= [O.lst [.int 1,.int 1,.int 2,.int 0]])) (by decide) (by decide) λv S2 hv e2 b8 l2=> ?_
 dsimp only[aZ,aP,aY,bS,bV,eZ]
 obtain⟨nt,d6,ha⟩:∃n:Nat,n<=2/\kQ ([.int 1,.int 1,.int 2,.int 0]:List D) (v:Int)=some (.int n):=by
  rcases v with _|_|_|_|v
  ·exact⟨1,by omega,rfl⟩
  ·exact⟨1,by omega,rfl⟩
  ·exact⟨2,by omega,rfl⟩
  ·exact⟨0,by omega,rfl⟩
  ·omega
 refine bR (b8.keep _ _ (by have:=e1.lt;omega) aM) ha ?_
 symm
 apply iZ e2 (by omega) (by omega) (by decide) λR Z _ f4 e3 c8 l3=> ?_
 apply bN (e3.app (G:= [O.lst (R.map D.str)])) (by omega) (by omega) λnb S4 d9 e4 b0 l4=> ?_
 apply iZ e4 (by omega) (by omega) (by decide) λA t _ e0 e5 a5 l5=> ?_
 refine⟨by decide,?_⟩
 have F:Z.length≠k:=by have:=e3.lt;omega
 have N:t.length≠k:=by have:=e5.lt;omega
 have gt:(t++ [O.lst (A.map D.str)]++ [O.lst []])[Z.length]?=some (.lst (R.map D.str)):=aN (aN (a5.keep _ _ F (b0.keep _ _ F aM)))
 have gb:(t++ [O.lst (A.map D.str)]++ [O.lst []])[t.length]?=some (.lst (A.map D.str)):=aN aM
 have d3:S.length<=Z.length:=e3.len
 have f3:S.length<=t.length:=e5.len
 have d2:Z.length<t.length:=by
  have:=a5.len
  have:=b0.len
  simp only[lQa,Qnq,QGq] at *
  omega
 have e6:Ex k S (t++ [O.lst (A.map D.str)]++ [O.lst []]):=e5.app.app
 generalize hr:t.length+1=r
 have B:(t++ [O.lst (A.map D.str)]).length=r:=by simp[hr]
 rw[B]
 have gr:(t++ [O.lst (A.map D.str)]++ [O.lst []])[r]?=some (.lst []):=by rw[←B];exact aM
 generalize (t++ [O.lst (A.map D.str)]++ [O.lst []])=S6 at e6 gt gb gr⊢
 have c3:R.length=nt:=by omega
 have c4:A.length=nb:=by omega
 apply aK (gV ?_)
 apply bN e6 (by decide) (by decide) λnd S7 d8 e7 L l7=> ?_
 apply iZ e7 (by omega) (by omega) (by decide) λb1 S8 _ c5 e8 P l8=> ?_
 have kr:r≠k:=by omega
 let Inv:Nat->cy->aD->Prop:=λn W H=>∃(o9 Y U:Option D) (j:List (Str×List Rw)),W= [some (.ref k),some (.str name),some (.ref g),some (.ref m),some (.int bm),some (.str ah),some (.ref Z.length),some (.ref t.length),some (.ref r),o9,Y,U,none]∧
  Ex k S H/\H[Z.length]?=some (.lst (R.map D.str))/\H[t.length]?=some (.lst (A.map D.str))/\H[r]?=some (.lst (j.map gU))/\j.length=n/\(∀p∈j,vC ⟨false,R++fq,R,A,goals++j.map λp=>(name,p.1),[]⟩ p.2/\p.2.length<=12)
 refine⟨Inv,⟨none,none,none,[],rfl,e8,P.keep _ _ F (L.keep _ _ F gt),P.keep _ _ N (L.keep _ _ N gb),P.keep _ _ kr (L.keep _ _ kr gr),rfl,by simp⟩,λ_ _ _ _=>trivial,?_,?_⟩
 ·rintro n d W S9 K ⟨o9,Y,U,j,rfl,e9,gt9,gb9,gr9,hn,hpr⟩
  obtain⟨w,hw,rfl⟩:∃z,b1[n]?=some z/\d=.str z:=by
   rw[gQm] at K
   obtain⟨z,hz,e⟩:=oQm.mp K
   exact⟨z,hz,e.symm⟩
  have f1:n<3:=by
   have:=(gQs.mp hw).1
   omega
  apply aX ?_
  apply Cz (λd=>match d with|.tup (a::_)=>.tup [.str name,a]|d=>d) ?_
  refine a7 gr9 ?_
  refine⟨gr9,by simp;omega,λd K=> ?_,?_⟩
  ·obtain⟨p,_,rfl⟩:=Qkq.mp K
   symm
   apply aA rfl ?_
   exact⟨by show 2<=_;decide,rfl,rfl⟩
  have eh:(j.map gU).map (λd=>match d with|.tup (a::_)=>.tup [.str name,a]|d=>d)=(j.map λp=>(name,p.1)).map dt:=by
   rw[QPq,QPq]
   rfl
  rw[eh]
  generalize hh:(j.map λp=>(name,p.1))=here
  have lh:here.length=n:=by rw[←hh];simpa using hn
  symm
  apply xV ?_
  have b2:=e9.keep _ _ ng gg
  apply a7 (aN b2) ?_
  apply Ol ?_
  apply a7 aM ?_
  apply bN (e9.app (G:= [O.lst (here.map dt)])) (by decide) (by decide) λv2 a1 f0 u f d4=> ?_
  apply dG ?_
  have k9:S9.length≠k:=by have:=e9.lt;omega
  have c1:=f.keep _ _ k9 aM
  obtain⟨q,hq,b5⟩:∃q:Nat,q<=1/\intOfD [D.bl (decide ((v2:Int)=0))]=some (.int q):=by
   by_cases c:(v2:Int)=0
   ·exact⟨1,by omega,by rw[Qeq c];rfl⟩
   ·exact⟨0,by omega,by rw[Qdq c];rfl⟩
  refine⟨_,b5,?_⟩
  refine⟨q,rfl,⟨rfl,c1,?_,hq⟩,?_⟩
  ·simp only[lQm]
   have:here.length*q<=here.length*1:=Nat.mul_le_mul_left _ hq
   omega
  obtain⟨o,a0,a3,d5⟩:∃l:List (Str×Str),goals.map dt++(List.replicate q (here.map dt)).flatten=l.map dt/\(∀g∈l,g∈goals++here)/\l.length<=goals.length+10:=by
   rcases q with _|_|q
   ·exact⟨goals,by simp,λg X=>List.mem_append_left _ X,by omega⟩
   ·exact⟨goals++here,by simp,λg X=>X,by rw[lQa];omega⟩
   ·omega
  refine⟨⟨rfl,rfl,u.keep _ _ ng gg,?_⟩,?_⟩
  ·have:=congrArg List.length a0
   rw[lQa] at this
   rw[this,lQm]
   exact nQl (bF (by omega))
  rw[a0]
  symm
  apply fZ ?_
  have I:(a1++ [O.lst (o.map dt)])[r]?=some (.lst (j.map gU)):=aN (f.keep _ _ kr (aN gr9))
  apply⟨_,_,rfl,I,?_⟩
  refine⟨by show 3<=_;decide,?_⟩
  symm
  refine IR (goals:=o) (u.app (G:= [O.lst (o.map dt)])) F N (by have:=u.lt;omega) (aN (f.keep _ _ F (aN gt9))) (aN (f.keep _ _ N (aN gb9))) aM (by omega) (by omega) (by omega) λrs b7 h1 h2 h3 M i c0=> ?_
  symm
  refine⟨by show 2<=_;decide,?_⟩
  symm
  have J:=i.keep _ _ kr I
  refine⟨_,J,fo (bF (by simp;omega)) ?_⟩
  refine⟨_,_,_,j++ [(w,rs)],rfl,M.put (by omega) kl,ft (by omega) (i.keep _ _ F (aN (f.keep _ _ F (aN gt9)))),ft (by omega) (i.keep _ _ N (aN (f.keep _ _ N (aN gb9)))),?_,by simp[hn],λp C=> ?_⟩
  ·rw[cJ J]
   simp[gU]
  ·rcases mQa.mp C with C|C
   ·refine⟨(hpr p C).1.sub λg X=> ?_,(hpr p C).2⟩
    rw[Qzq,←Qvq]
    exact List.mem_append_left _ X
   ·rw[Qfq.mp C]
    refine⟨h1.sub λg X=> ?_,h3⟩
    rw[Qzq,←Qvq]
    refine List.mem_append_left _ ?_
    rw[hh]
    exact a3 g X
 ·rintro W S9 ⟨o9,Y,U,j,rfl,e9,gt9,gb9,gr9,hn,hpr⟩
  have d1:j.length<=3:=by
   rw[hn]
   simp only[lQm]
   omega
  symm
  apply L8 e9 rfl rfl gb9 N (by omega) λbs a1 a2 b9 u f=> ?_
  apply D9 (m:=3) u rfl rfl (f.keep _ _ F gt9) F (by decide) (by decide) (by omega) λts b7 a6 b6 M i c0=> ?_
  refine a7 (i.keep _ _ kr (f.keep _ _ kr gr9)) ?_
  apply⟨rfl,?_⟩
  refine⟨by show 5<=_;decide,?_⟩
  have f2:ts.length=R.length:=by rw[←a6];simp
  have c6:bs.length=A.length:=by rw[←a2];simp
  refine lU (d:=(Rm.mk name ah ts bs j).d) M x.lt (λk z=>(nomatch z)) (dN (Rm.low _)) λa b c=> ?_
  refine h ⟨name,ah,ts,bs,j⟩ _ rfl ⟨a4,λp C=>by have:=b6 p C;omega,by show ts.length<=6;omega,by show bs.length<=6;omega,by show j.length<=6;omega,b9,?_,by show bs.length<=He;omega⟩ x.set y.set (by simp)
  intro p C
  show vC ⟨false,ts.map (·.1)++fq,ts.map (·.1),bs.map (·.1),_,[]⟩ p.2/\_
  rw[a6,a2]
  exact hpr p C
end W28
namespace DL
open PySem PySem.Spec L2
theorem NK{c:jE}{b:cA}{Q:Out->Prop}(I:Nat->cy->aD->Prop)(g:∀m a S,I m a S->E c a S λk f=>if k=true then∃e,m=e+1/\T b a f λo=>match o with|.nx d S2=>I e d S2|_=>False else Q (.nx a f)):
  ∀(n m:Nat) (a:cy) (S:aD),m<n->I m a S->T (IL c b n) a S Q
 |0,_,_,_,h,_=>absurd h (Nat.not_lt_zero _)
 | n+1,m,a,S,h,hi=>by
   obtain⟨k,f,i,q⟩:=g m a S hi
   cases k with
   |false=>exact⟨_,by simp only[IL];rw[i];rfl,q⟩
   | true=>
     obtain⟨e,rfl,o,e2,q⟩:=(q:∃e,m=e+1/\T b a f _)
     cases o with
     | nx d S2=>
       obtain⟨o,j,q⟩:=NK I g n e d S2 (by omega) q
       exact⟨o,by simp only[IL];rw[i];simp only[Qbq,if_true];rw[e2];exact j,q⟩
     |_=>exact q.elim
def Kr{b:cy}{S:aD}{f:fh}{Q:List D->aD->Prop}(h:E f b S λp a=>p.2.isL=true/\∃ss,sE p.1=some ss/\(p.1.length<=3/\ss.Nodup)/\Q (vG ss p.1) a):E (zr f) b S Q:=by
 obtain⟨p,a,e,l,ss,c,d,q⟩:=h
 exact⟨_,a,by unfold zr;rw[e];simp only[Qbq];rw[Qhq l,c];simp only[Qbq];rw[Qhq d],q⟩
def E2{α:Type}{f:α->D}{ss:List Str}{xs:List α}(c:α)(b:xs.length<=3):∃ys:List α,ys.Perm xs/\vG ss (xs.map f)=ys.map f:=by
 refine⟨Zp.sortBy ss c xs,Zp.eT ss xs b,?_⟩
 have j:(vG ss (xs.map f)).length=((Zp.sortBy ss c xs).map f).length:=by
  unfold vG
  rw[(Zp.eT ss (xs.map f) (by simpa using b)).length_eq,lQm,lQm,(Zp.eT ss xs b).length_eq]
 apply List.ext_getElem?
 intro i
 cases e:(vG ss (xs.map f))[i]? with
 | none=>
   rw[List.getElem?_eq_none_iff] at e
   rw[eq_comm,List.getElem?_eq_none_iff]
   omega
 | some d=>
   obtain⟨y,g,r⟩:=uS (R:=λ(d:D) (a:α)=>d=f a) (ss:=ss) (xs:=xs.map f) (ys:=xs) (d:=.non) (d':=c) (by simp) (by simpa using b) (λi d h=>by
     rw[gQm] at h
     obtain⟨y,g,e⟩:=oQm.mp h
     exact⟨y,g,e.symm⟩) i d e
   rw[gQm,g,r]
   rfl
end DL
namespace W28
open PySem PySem.Spec L2 DL
def aS(rs:List Rm):List (Str×Str):=rs.flatMap λr=>r.ae.map λp=>(r.name,p.1)
def uT.sub{c a:List (Str×Str)}{r:Rm}(h:uT c r)(hs:∀g∈c,g∈a):uT a r:={h with pr:=λp b=>⟨(h.pr p b).1.sub hs,(h.pr p b).2⟩}
theorem EO:∀rs:List Rm,sE (rs.map Rm.d)=some (rs.map (·.name))
 | []=>rfl
 | r::rs=>by
   show sE (Rm.d r::rs.map Rm.d)=_
   simp only[Rm.d,sE]
   rw[EO rs]
   rfl
def Ah{S:aD}{b:cy}{i j v:Nat}{rs:List Rm}{f:fh}{Q:Out->Prop}{tg:Tag}(I:v<b.length)(F:b[j]?=some (some (.ref i)))(w:S[i]?=some (.lst []))
  (K:∀(R:List D×Tag->aD->Prop),R (rs.map Rm.d,tg) S->E f b S R) (hs:∀o,tg.stays (S.set i o) (rs.map Rm.d)) (A:v≠j) (hd:∀r∈rs,r.ae.length<=6) (U:rs.length<=3)
  (q:∀o,Q (.nx (b.set v o) (S.set i (.lst ((aS rs).map dt))))):
  T (i8 (fK f) (bH v) (g7 (zR (ar j) (ic (bA [none,some v] (fK (aQ (aR fR (ar v) (cF (.int 4))))) (bH 0) bI (a_ (aq (aR fR (ar 1) (cF (.int 0))) (aq (aR fR (ar 0) (cF (.int 0))) av)))))))) b S Q:=by
 refine gV (kR (K _ ?_))
 have P:i<S.length:=(gQs.mp w).1
 have g:∀o:Option D,(b.set v o)[v]?=some o:=λo=>Qyq I
 have t:∀o:Option D,(b.set v o)[j]?=some (some (.ref i)):=λo=>by rw[QKq A];exact F
 refine⟨λn c y=>(n=0->c=b)/\(∃o,c=b.set v o)/\y=S.set i (.lst ((aS (rs.take n)).map dt)),⟨λ_=>rfl,?_,?_⟩,λn c y h=> ?_,λn d c y u ⟨_,⟨o,k⟩,m⟩=> ?_,λc y ⟨N,⟨o,k⟩,m⟩=> ?_⟩
 ·exact⟨b[v],by rw[List.set_getElem_self]⟩
 ·apply List.ext_getElem?
  intro x
  rw[List.getElem?_set]
  split
  ·rename_i e
   subst e
   rw[w]
   rfl
  ·rfl
 ·rw[h.2.2];exact hs _
 ·obtain⟨r,s,rfl⟩:∃r,rs[n]?=some r/\d=r.d:=by
   rw[gQm] at u
   obtain⟨z,J,e⟩:=oQm.mp u
   exact⟨z,J,e.symm⟩
  subst k m
  have M:=(gQs.mp s).1
  refine aX (fm (HL ?_))
  rw[List.set_set]
  refine ax (t _) ?_
  refine⟨_,_,rfl,cJ w,qP (Cz (λd=>match d with|.tup (a::_)=>.tup [.str r.name,a]|d=>d) ?_)⟩
  refine bW (bc (ax (g _) (cO (aA rfl (cu ?_)))))
  have G:=hd r (mQg s)
  refine⟨trivial,by simp;omega,λd hd=> ?_,?_⟩
  ·obtain⟨p,_,rfl⟩:=Qkq.mp hd
   have C:(pk [none,some v] (b.set v (some r.d))).set 0 (some (gU p))= [some (gU p),some r.d]:=by
    show [some (gU p),(b.set v (some r.d)).getD v none]=_
    rw[Qlq,g]
    rfl
   rw[C]
   symm
   apply aA rfl ?_
   apply aA rfl ?_
   exact⟨by show 2<=_;decide,rfl,rfl⟩
  ·have L:∀l:List Rm,(∀r∈l,r.ae.length<=6)->(aS l).length<=6*l.length:=by
    intro l
    induction l with
    |nil=>intro _;simp[aS]
    | cons a l B=>
      intro h
      have:=B λr s=>h r (Qpq _ s)
      have:=h a (QBq ..)
      simp only[aS,QSq,lQa,lQm,Qnq] at *
      omega
   have H:=L (rs.take n) λr s=>hd r (List.mem_of_mem_take s)
   rw[Qxq] at H
   refine⟨_,cJ w,⟨rfl,?_⟩,λz=>absurd z (by omega),⟨_,rfl⟩,?_⟩
   ·simp only[lQm]
    exact nQl (bF (by omega))
   ·rw[List.set_set,QYq,s]
    congr 2
    simp only[aS,List.flatMap_append,Qzq,Option.toList_some,QSq,List.flatMap_nil,List.append_nil,QPq]
    rfl
 ·subst k m
  rw[lQm,QEq]
  exact q o
def IS(d:Str):∀a b:Str,d++a=d++b->a=b:=by
 intro a b h
 have f:(d++a).cps.toList=(d++b).cps.toList:=by rw[h]
 have e:∀c:Str,(d++c).cps.toList=d.cps.toList++c.cps.toList:=λc=>by
  show(d.cps++c.cps).toList=_
  simp
 rw[e,e] at f
 exact Str.ext' (Array.toList_inj.mp (List.append_cancel_left f))
def Ft(c:Str):(six.map (c++·)).Nodup:=by
 have d:six.Nodup:=by decide +kernel
 exact List.Pairwise.map (R:=(·≠·)) (S:=(·≠·)) _ (λa b n e=>n (IS c a b e)) d
def Gx{S S0:aD}{k m bm w:Nat}{ms:List Str}{Q:Res->aD->Prop}(x:Ex k S0 S)(nm:m≠k)(gm:S[m]?=some (.lst (ms.map D.str)))(b1:∀s∈ms,s="at once" \/s="when free")(m0:0<ms.length)(m9:ms.length<9)(b0:bm<=He)(hm:w<=3)
  (h:∀(rs:List Rm) (G:aD),(rs.map (·.name)).Nodup->rs.length<=3->(∀r∈rs,uT (aS rs) r)->Ex k S0 G->Ex k S G->G.length=S.length->Q (.d (.tup (rs.map Rm.d))) G):
  Fn jb [.ref k,.int w,.ref m,.int bm] S Q:=by
 have y:Ex k S S:=by obtain⟨a,b,c,hh⟩:=x.pot;exact Ex.refl hh
 have kl:=x.lt
 have ml:=(gQs.mp gm).1
 refine cq ?_
 unfold sR
 symm
 apply iZ y (by omega) (by omega) (by decide) λe K hp b4 e1 b3 l1=> ?_
 refine⟨by decide,?_⟩
 have nn:e.Nodup:=by
  obtain⟨l,hp⟩:=hp
  exact(List.nodup_append.mp (hp.nodup_iff.mpr (Ft _))).1
 generalize ha:K.length=a
 generalize J:a+1=r
 have u:(K++ [O.lst (e.map D.str)]).length=r:=by simp[ha,J]
 rw[u]
 have e2:Ex k S (K++ [O.lst (e.map D.str)]++ [O.lst []]):=e1.app.app
 have ga:(K++ [O.lst (e.map D.str)]++ [O.lst []])[a]?=some (.lst (e.map D.str)):=by rw[←ha];exact aN aM
 have gr:(K++ [O.lst (e.map D.str)]++ [O.lst []])[r]?=some (.lst []):=by rw[←u];exact aM
 have b2:=e1.lt
 generalize (K++ [O.lst (e.map D.str)]++ [O.lst []])=S2 at e2 ga gr⊢
 have sa:S.length<=a:=by rw[←ha];exact e1.len
 have ka:a≠k:=by omega
 have kr:r≠k:=by omega
 refine aK (NK (λq a1 G=>∃(o6 o7 o8:Option D) (n:List Str) (rs:List Rm),a1= [some (.ref k),some (.int w),some (.ref m),some (.int bm),some (.ref a),some (.ref r),o6,o7,o8]/\Ex k S G/\G[a]?=some (.lst (n.map D.str))/\G[r]?=some (.lst (rs.map Rm.d))/\n.length=q/\(rs.map (·.name)++n).Perm e/\∀x∈rs,uT (aS rs) x) ?_ 4 e.length _ _ (by omega) ?_)
 ·rintro q a1 t ⟨o6,o7,o8,n,rs,rfl,e3,ga3,gr3,F,hpm,hok⟩
  have C:=hpm.length_eq
  rw[lQa,lQm] at C
  symm
  refine a7 ga3 ?_
  refine⟨⟨rfl,ga3⟩,?_⟩
  dsimp only[aZ,aP,aY,bS,bV,eZ]
  refine aL (λc=> ?_) (λc=> ?_)
  ·have a0:0<n.length:=by
    cases n with
    |nil=>simp at c
    |cons a b=>simp
   apply⟨n.length-1,by omega,?_⟩
   refine⟨by decide,?_⟩
   refine aK ?_
   have k3:t.length≠k:=by have:=e3.lt;omega
   have r3:=(gQs.mp gr3).1
   have a3:=(gQs.mp ga3).1
   have N:∀o,Tag.stays ((t++ [O.lst []]).set t.length o) (rs.map Rm.d) (.st r):=λo=>ft (by omega) (aN gr3)
   refine Ah (i:=t.length) (j:=6) (v:=7) (rs:=rs) (tg:=.st r) (by simp) rfl aM (λR hR=>bW (ax rfl (a7 (aN gr3) hR))) N (by decide) (λr J=>(hok r J).l3) (by omega) (λo=> ?_)
   have e4:Ex k S ((t++ [O.lst []]).set t.length (.lst ((aS rs).map dt))):=e3.app.put e3.len kl
   have B:((t++ [O.lst []]).set t.length (.lst ((aS rs).map dt)))[a]?=some (.lst (n.map D.str)):=ft (by omega) (aN ga3)
   have a2:((t++ [O.lst []]).set t.length (.lst ((aS rs).map dt)))[r]?=some (.lst (rs.map Rm.d)):=ft (by omega) (aN gr3)
   have Z:((t++ [O.lst []]).set t.length (.lst ((aS rs).map dt)))[t.length]?=some (.lst ((aS rs).map dt)):=cJ aM
   have lg:(aS rs).length<=100:=by
    have a6:∀l:List Rm,(∀r∈l,r.ae.length<=6)->(aS l).length<=6*l.length:=by
     intro l
     induction l with
     |nil=>intro _;simp[aS]
     | cons a l ih=>
       intro h
       have:=ih λr J=>h r (Qpq _ J)
       have:=h a (QBq ..)
       simp only[aS,QSq,lQa,lQm,Qnq] at *
       omega
    have:=a6 rs λr J=>(hok r J).l3
    omega
   generalize ((t++ [O.lst []]).set t.length (.lst ((aS rs).map dt)))=S4 at e4 B a2 Z⊢
   dsimp only[aZ,aP,aY,bS,bV,eZ]
   apply aK (di (fZ ?_))
   apply⟨_,_,rfl,B,?_⟩
   apply a7 B ?_
   refine bN e4 (by simp only[lQm];omega) (by simp only[lQm];omega) λj S5 hj e5 H l5=> ?_
   dsimp only[aZ,aP,aY,bS,bV,eZ]
   symm
   have A:j<n.length:=by simpa using hj
   have M:=H.keep _ _ ka B
   refine⟨_,M,?_⟩
   refine N3 (d:=((n.map D.str).eraseIdx j,D.str n[j])) ?_ ?_
   ·simp only[gK]
    rw[Qhq ⟨by omega,by omega⟩,lQm,HU A (by omega)]
    simp[gQe A]
   dsimp only[aZ,aP,aY,bS,bV,eZ]
   refine fm (fZ ?_)
   have e6:Ex k S (S5.set a (.lst ((n.map D.str).eraseIdx j))):=e5.put sa kl
   have W:(S5.set a (.lst ((n.map D.str).eraseIdx j)))[a]?=some (.lst ((n.eraseIdx j).map D.str)):=by rw[cJ M,r_]
   have I:(S5.set a (.lst ((n.map D.str).eraseIdx j)))[r]?=some (.lst (rs.map Rm.d)):=ft (by omega) (H.keep _ _ kr a2)
   have U:(S5.set a (.lst ((n.map D.str).eraseIdx j)))[t.length]?=some (.lst ((aS rs).map dt)):=ft (by omega) (H.keep _ _ k3 Z)
   generalize (S5.set a (.lst ((n.map D.str).eraseIdx j)))=S6 at e6 W I U⊢
   symm
   apply⟨_,_,rfl,I,?_⟩
   apply J5 (goals:=aS rs) e6 k3 nm U (e6.keep _ _ nm gm) b1 m0 m9 b0 lg λrm S7 X a5 e7 Y l7=> ?_
   have P:=Y.keep _ _ kr I
   refine⟨_,P,fo (bF (by simp only[lQm];omega)) ?_⟩
   have a4:aS (rs++ [rm])=aS rs++rm.ae.map λp=>(rm.name,p.1):=by simp[aS]
   refine⟨_,_,_,n.eraseIdx j,rs++ [rm],rfl,e7.put (by omega) kl,ft (by omega) (Y.keep _ _ ka W),?_,?_,?_,λq F=> ?_⟩
   ·rw[cJ P]
    simp
   ·rw[List.length_eraseIdx_of_lt A]
   ·rw[Qzq]
    show((rs.map (·.name)++ [rm.name])++n.eraseIdx j).Perm e
    rw[X]
    exact BI A hpm
   ·rw[a4]
    rcases mQa.mp F with F|F
    ·exact(hok q F).sub λg L=>List.mem_append_left _ L
    ·rw[Qfq.mp F,X]
     exact a5
  ·have a0:n= []:=by
    cases n with
    |nil=>rfl
    |cons a b=>simp at c
   subst a0
   rw[List.append_nil] at hpm
   apply eM (rQ (qP (Kr ?_)))
   refine a7 gr3 ?_
   have l3:rs.length<=3:=by simp at C;omega
   refine⟨rfl,_,EO rs,⟨by simpa using l3,hpm.nodup_iff.mpr nn⟩,?_⟩
   obtain⟨ys,hy,he⟩:=E2 (f:=Rm.d) (ss:=rs.map (·.name)) (xs:=rs) ⟨"","",[],[],[]⟩ l3
   rw[he]
   refine lU e3 x.lt (λk z=>(nomatch z)) (by simp only[cm];exact a9 λq _=>dN q.low) λa b c=> ?_
   refine h ys _ ((hy.map _).nodup_iff.mpr (hpm.nodup_iff.mpr nn)) (by rw[hy.length_eq];exact l3) (λq F=>(hok q (hy.mem_iff.mp F)).sub λg L=> ?_) x.set y.set (by simp)
   simp only[aS,QOq] at L⊢
   obtain⟨z,hz,L⟩:=L
   exact⟨z,hy.mem_iff.mpr hz,L⟩
 ·exact⟨none,none,none,e,[],rfl,e2,ga,gr,rfl,by simp,by simp⟩
def Mj{S S0:aD}{k g w p:Nat}{words ai:List Str}{goals:List (Str×Str)}{Q:Res->aD->Prop}(x:Ex k S0 S)(ng:g≠k)(nw:w≠k)(np:p≠k)(gg:S[g]?=some (.lst (goals.map dt)))(gw:S[w]?=some (.lst (words.map D.str)))(gp:S[p]?=some (.lst (ai.map D.str)))
  (lg:goals.length<500) (lw:words.length<500) (lp:ai.length<500)
  (h:∀(rs:List Rw) (Z:aD),vC ⟨true,words,words,[],goals,ai⟩ rs->0<rs.length->rs.length<=9->Ex k S0 Z->Ex k S Z->Z.length=S.length->Q (.d (.tup (rs.map Rw.d))) Z):
  Fn m7 [.ref k,.ref g,.ref w,.ref p,.int 4] S Q:=by
 have y:Ex k S S:=by obtain⟨a,b,c,hh⟩:=x.pot;exact Ex.refl hh
 have kl:=x.lt
 have gl:=(gQs.mp gg).1
 have wl:=(gQs.mp gw).1
 have pl:=(gQs.mp gp).1
 generalize U:(⟨true,words,words,[],goals,ai⟩:Sc)=sc at h
 have so:sc.own=true:=by rw[←U]
 have sw:sc.ws=words:=by rw[←U]
 have sp:sc.ps=words:=by rw[←U]
 have sb:sc.bs= []:=by rw[←U]
 have sg:sc.gs=goals:=by rw[←U]
 have st:sc.ts=ai:=by rw[←U]
 refine cq ?_
 unfold rE
 symm
 refine⟨by decide,?_⟩
 generalize hr:S.length=r
 have ir:(S++ [O.lst []])[r]?=some (.lst []):=by rw[←hr];exact aM
 have e0:Ex k S (S++ [O.lst []]):=y.app
 generalize (S++ [O.lst []])=S1 at e0 ir⊢
 have X:r≠k:=by omega
 apply aK (gV ?_)
 apply bN e0 (by decide) (by decide) λa3 S2 b4 e2 c2 l2=> ?_
 refine⟨_,rfl,⟨by omega,by omega⟩,?_⟩
 let Inv:Nat->cy->aD->Prop:=λn a6 Z=>∃(o6 o7:Option D) (rs:List Rw),a6= [some (.ref k),some (.ref g),some (.ref w),some (.ref p),some (.int 4),some (.ref r),o6,o7]∧
  Ex k S Z/\Z[r]?=some (.lst (rs.map Rw.d))/\rs.length<=2*n/\n<=rs.length/\n<=4/\∀q∈rs,q.Ok sc rs.length
 have u:∀m:Nat,m<=100->m<sizeLine:=λm hm=>Nat.lt_of_le_of_lt hm (by decide)
 have a0:sc.ws.length<1000:=by rw[sw];omega
 have c0:sc.ps.length<900:=by rw[sp];omega
 have b6:sc.gs.length<1000:=by rw[sg];omega
 have up:∀{t':Tr} {d:Nat},t'.Ok sc.ws []->t'.dep<=d+1->d<=3->FV sc t':=λh1 h2 h3=>⟨by rw[sb];exact h1,by omega⟩
 refine⟨Inv,⟨_,_,[],rfl,e2,c2.keep _ _ X ir,by simp,by simp,by omega,by simp⟩,λ_ _ _ _=>trivial,?_,?_⟩
 ·rintro n d a6 S3 hd ⟨o6,o7,rs,rfl,e3,hr3,hl1,hl2,hn4,Y⟩
  have c3:n<4:=by
   have:=(gQs.mp hd).1
   simp only[jZ,lQm,QVq] at this
   omega
  apply aX ?_
  refine bN e3 (by decide) (by decide) λb1 S4 c4 J b0 l4=> ?_
  dsimp only[aZ,aP,aY,bS,bV,eZ]
  have e:=b0.keep _ _ X hr3
  have K:=J.keep _ _ nw gw
  have a5:=J.keep _ _ ng gg
  have W:=J.keep _ _ np gp
  rw[←sw] at K
  rw[←sg] at a5
  rw[←st] at W
  have a1:=K
  rw[sw,←sp] at a1
  have C:∀(ms:List Rw) (I:aD),Ex k S I->I[r]?=some (.lst (rs.map Rw.d++ms.map Rw.d))->1<=ms.length->ms.length<=2->(∀q∈ms,q.Ok sc (rs.length+ms.length))→
    Inv (n+1) [some (.ref k),some (.ref g),some (.ref w),some (.ref p),some (.int 4),some (.ref r),some d,some (.int b1)] I:=by
   intro ms I H h2 h3 h4 h5
   refine⟨_,_,rs++ms,rfl,H,by rw[h2,Qzq],by rw[lQa];omega,by rw[lQa];omega,by omega,λq N=> ?_⟩
   rw[lQa]
   rcases mQa.mp N with N|N
   ·exact(Y q N).mono (by omega)
   ·exact h5 q N
  have lr:(rs.map Rw.d).length=rs.length:=by simp
  have a2:∀I (q5:List Rw),Ex k S I->I[r]?=some (.lst (q5.map Rw.d))->q5.length<=50->∀(R:Out->Prop),(∀(t:Tr) (S6:aD),FV sc t->Ex k S S6->S6[r]?=some (.lst ((q5++ [Rw.say t]).map Rw.d))->R (.nx [some (.ref k),some (.ref g),some (.ref w),some (.ref p),some (.int 4),some (.ref r),some d,some (.int b1)] S6))→
    T (g7 (i9 ff (ar 5) (aq (a_ (aq (cF (.str "say")) (aq (aw (bx 4) (aq (ar 0) (aq (ar 2) (aq (bM (bu av)) (aq (cF (.int 1)) av))))) av))) av))) [some (.ref k),some (.ref g),some (.ref w),some (.ref p),some (.int 4),some (.ref r),some d,some (.int b1)] I R:=by
   intro I q5 H B c5 R hR
   apply fm (fZ ?_)
   apply⟨_,_,rfl,B,?_⟩
   apply⟨by decide,?_⟩
   have w5:=H.keep _ _ nw gw
   rw[←sw] at w5
   refine ju 4 (deep:=1) (bs:= []) (H.app (G:= [O.lst []])) nw (j:=I.length) (by have:=H.lt;omega) (aN w5) aM a0 (by decide) (by decide) λt3 S6 h3 h4 e6 L l6=> ?_
   symm
   refine⟨by show 2<=_;decide,?_⟩
   symm
   have A:=L.keep _ _ X (aN B)
   refine⟨_,A,fo (u _ (by simp;omega)) ?_⟩
   refine hR t3 _ (up h3 h4 (by omega)) (e6.put (by omega) kl) ?_
   rw[cJ A]
   simp[Rw.d]
  refine bU (uj rfl rfl a5 λc hc=>aL (λP=> ?_) (λP=> ?_))
  ·apply fm (fZ ?_)
   apply⟨_,_,rfl,e,?_⟩
   apply Kx (n:=rs.length+1) (sc:=sc) J ng nw nw a5 a1 K (by simpa using hc P) b6 c0 a0 λq I h1 H i l5=> ?_
   have B:=i.keep _ _ X e
   refine⟨_,B,fo (u _ (by rw[lr];omega)) ?_⟩
   exact C [q] _ (H.put (by omega) kl) (cJ B) (by simp) (by simp) λq' F=>by rw[Qfq.mp F];exact h1
  refine bU (ud rfl rfl W λc hc=>aL (λP=> ?_) (λP=> ?_))
  ·apply fm (fZ ?_)
   apply⟨_,_,rfl,e,?_⟩
   apply⟨by decide,?_⟩
   refine bN (J.app (G:= [O.lst [.str "take",.str "give"]])) (by decide) (by decide) λv I hv H i l5=> ?_
   dsimp only[aZ,aP,aY,bS,bV,eZ]
   have b7:∃(f:Str->Rw) (s:Str),(∀z,(f z).d=.tup [.str s,.str z])/\(∀z n,z∈sc.ts->(f z).Ok sc n)/\kQ ([.str "take",.str "give"]:List D) (v:Int)=some (.str s):=by
    rcases v with _|_|v
    ·exact⟨.take,"take",λ_=>rfl,λz n hz=>⟨so,hz⟩,rfl⟩
    ·exact⟨.give,"give",λ_=>rfl,λz n hz=>⟨so,hz⟩,rfl⟩
    ·omega
   obtain⟨f,s,hf,b5,hs⟩:=b7
   refine bR (i.keep _ _ (by have:=J.lt;omega) aM) hs ?_
   symm
   refine fe H np (i.keep _ _ np (aN W)) (hc P) (by rw[st];simp;omega) eA fS λv2 S6 M e6 L l6=> ?_
   obtain⟨z,hz,rfl⟩:=Qkq.mp M
   symm
   refine⟨by show 2<=_;decide,?_⟩
   symm
   have A:=L.keep _ _ X (i.keep _ _ X (aN e))
   refine⟨_,A,fo (u _ (by rw[lr];omega)) ?_⟩
   refine C [f z] _ (e6.put (by omega) kl) ?_ (by simp) (by simp) λq' F=>by rw[Qfq.mp F];exact b5 _ _ hz
   rw[cJ A]
   simp[hf]
  refine bU (ud rfl rfl W λc hc=>aL (λP=> ?_) (λP=> ?_))
  ·apply fm (fZ ?_)
   apply⟨_,_,rfl,e,?_⟩
   refine fe J np W (hc P) (by rw[st];simp;omega) eA fS λv2 I M H i l5=> ?_
   obtain⟨z,hz,rfl⟩:=Qkq.mp M
   symm
   refine fe H np (i.keep _ _ np W) (hc P) (by rw[st];simp;omega) eA fS λv3 S6 b9 e6 L l6=> ?_
   obtain⟨z2,b8,rfl⟩:=Qkq.mp b9
   symm
   refine⟨by show 3<=_;decide,?_⟩
   symm
   have A:=L.keep _ _ X (i.keep _ _ X e)
   refine⟨_,A,fo (u _ (by rw[lr];omega)) ?_⟩
   exact C [.pass z z2] _ (e6.put (by omega) kl) (cJ A) (by simp) (by simp) λq' F=>by rw[Qfq.mp F];exact⟨so,hz,b8⟩
  refine bU (ud rfl rfl K λc hc=>aL (λP=> ?_) (λP=> ?_))
  ·apply fm (fZ ?_)
   apply⟨_,_,rfl,e,?_⟩
   refine fe J nw K (hc P) (by simp;omega) eA fS λv2 I M H i l5=> ?_
   obtain⟨z,hz,rfl⟩:=Qkq.mp M
   symm
   apply⟨by decide,?_⟩
   refine ju 4 (deep:=2) (bs:= []) (H.app (G:= [O.lst []])) nw (j:=I.length) (by have:=H.lt;omega) (aN (i.keep _ _ nw K)) aM a0 (by decide) (by decide) λt3 S6 h3 h4 e6 L l6=> ?_
   symm
   refine⟨by show 3<=_;decide,?_⟩
   symm
   have A:=L.keep _ _ X (aN (i.keep _ _ X e))
   refine⟨_,A,fo (u _ (by rw[lr];omega)) ?_⟩
   exact C [.put z t3] _ (e6.put (by omega) kl) (cJ A) (by simp) (by simp) λq' F=>by rw[Qfq.mp F];exact⟨by rw[sp,←sw];exact hz,up h3 h4 (by omega)⟩
  refine bU (KO rfl λc=>aL (λP=> ?_) (λP=> ?_))
  ·apply aK (fm (fZ ?_))
   apply⟨_,_,rfl,e,?_⟩
   apply⟨by decide,?_⟩
   refine ju 4 (deep:=2) (bs:= []) (J.app (G:= [O.lst []])) nw (j:=S4.length) (by have:=J.lt;omega) (aN K) aM a0 (by decide) (by decide) λt3 I h3 h4 H i l5=> ?_
   symm
   have B:=i.keep _ _ X (aN e)
   apply a7 B ?_
   refine⟨by show 3<=_;decide,?_⟩
   symm
   refine⟨_,B,fo (u _ (by rw[lr];omega)) ?_⟩
   dsimp only[aZ,aP,aY,bS,bV,eZ]
   have A:(I.set r (.lst (rs.map Rw.d++ [.tup [.str "unless",t3.d,.int (((rs.map Rw.d).length:Int)+2)]])))[r]?=some (.lst ((rs++ [Rw.unl t3 (rs.length+2)]).map Rw.d)):=by
    rw[cJ B]
    simp[Rw.d]
   refine a2 _ (rs++ [Rw.unl t3 (rs.length+2)]) (H.put (by omega) kl) A (by simp;omega) _ λt4 S6 h5 e6 a4=> ?_
   refine C [.unl t3 (rs.length+2),.say t4] _ e6 (by rw[a4];simp) (by simp) (by simp) λq N=> ?_
   simp only[Qsq,QXq,or_false] at N
   rcases N with rfl|rfl
   ·exact⟨up h3 h4 (by omega),Qmq _⟩
   ·exact⟨so,h5⟩
  ·refine a2 _ rs J e (by omega) _ λt4 S6 h5 e6 a4=> ?_
   exact C [.say t4] _ e6 (by rw[a4];simp) (by simp) (by simp) λq' F=>by rw[Qfq.mp F];exact⟨so,h5⟩
 ·rintro a6 S3 ⟨o6,o7,rs,rfl,e3,hr3,hl1,hl2,hn4,Y⟩
  have b2:(jZ 0 (1+(a3:Int))).length=a3+1:=by simp only[jZ,lQm,QVq];omega
  rw[b2] at hl1 hl2 hn4
  have b3:∀(rs:List Rw) (S4:aD),Ex k S S4->S4[r]?=some (.lst (rs.map Rw.d))->(∀q∈rs,q.Ok sc rs.length)->0<rs.length->rs.length<=9->T (cp (tupQ (cH (aQ (ar 5))))) [some (.ref k),some (.ref g),some (.ref w),some (.ref p),some (.int 4),some (.ref r),o6,o7] S4 λo=>match o with
    |.nx _ Z=>Op (settle S .non Z) λp=>Q p.1 p.2|.rt d Z=>Op (settle S d Z) λp=>Q p.1 p.2|.rl l Z=>Op (eO S l Z) λp=>Q p.1 p.2|_=>False:=by
   intro rs S4 J e Y h1 h2
   symm
   refine a7 e ?_
   refine⟨rfl,?_⟩
   dsimp only[aZ,aP,aY,bS,bV,eZ]
   refine lU J x.lt (λk z=>(nomatch z)) (by simp only[cm];exact a9 λq _=>dN q.low) λa b c=> ?_
   exact h rs _ Y h1 h2 x.set y.set (by simp)
  apply aK (bU ?_)
  apply bN e3 (by decide) (by decide) λv S4 hv J b0 l4=> ?_
  refine dG ?_
  dsimp only[aZ,aP,aY,bS,bV,eZ]
  have e:=b0.keep _ _ X hr3
  refine aL (λc=> ?_) (λc=> ?_)
  ·apply fm (fZ ?_)
   apply⟨_,_,rfl,e,?_⟩
   apply a7 e ?_
   refine bN J (by simp only[lQm];omega) (by simp only[lQm];omega) λv2 I M H i l5=> ?_
   symm
   refine⟨by show 2<=_;decide,?_⟩
   symm
   have B:=i.keep _ _ X e
   refine⟨_,B,fo (u _ (by simp;omega)) ?_⟩
   dsimp only[aZ,aP,aY,bS,bV,eZ]
   simp only[lQm] at M
   refine b3 (rs++ [Rw.go v2]) _ (H.put (by omega) kl) (by rw[cJ B];simp[Rw.d]) (λq N=> ?_) (by simp) (by simp;omega)
   rw[lQa]
   rcases mQa.mp N with N|N
   ·exact(Y q N).mono (by simp)
   ·rw[Qfq.mp N]
    show v2<=rs.length+1
    omega
  ·exact cc (b3 rs S4 J e Y (by omega) (by omega))
def eK(p:List (Str×Nat)×List Rw):D:=.tup [.tup (p.1.map lC),.tup (p.2.map Rw.d)]
structure dH where
 aj:List Rm
 ai:List (Str×Nat)
 ak:List (Str×Nat)
 af:List (List (Str×Nat)×List Rw)
def dH.d(w:dH):D:=.tup [.tup (w.aj.map Rm.d),.tup (w.ai.map lC),.tup (w.ak.map lC),.tup (w.af.map eK)]
structure Df(gs:List (Str×Str))(ak ai:List Str)(h:List (Str×Nat)×List Rw):Prop where
 tv:∀p∈h.1,p.2<=9
 l1:h.1.length<=6
 l2:h.2.length<=9
 l0:0<h.2.length
 dj:∀x∈h.1.map (·.1),x∉ak
 pr:vC ⟨true,h.1.map (·.1)++ak,h.1.map (·.1)++ak,[],gs,ai⟩ h.2
structure eQ(w:dH):Prop where
 nd:(w.aj.map (·.name)).Nodup
 l1:w.aj.length<=3
 l2:w.ai.length<=6
 l3:w.ak.length<=6
 l4:w.af.length<=4
 l0:0<w.af.length
 pv:∀p∈w.ai,p.2<=9
 sv:∀p∈w.ak,p.2<=9
 rm:∀r∈w.aj,uT (aS w.aj) r
 hd:∀h∈w.af,Df (aS w.aj) (w.ak.map (·.1)) (w.ai.map (·.1)) h
 pz:w.ai.length<=JN
def GD(p:List (Str×Nat)×List Rw):cm 0 (eK p)=true:=by
 simp only[eK,cm,b_,Bool.and_true,Bool.true_and,QCq]
 exact⟨a9 λ_ _=>rfl,a9 λr _=>r.low⟩
def dH.low(w:dH):cm 0 w.d=true:=by
 simp only[dH.d,cm,b_,Bool.and_true,Bool.true_and,QCq]
 exact⟨a9 λr _=>r.low,a9 λ_ _=>rfl,a9 λ_ _=>rfl,a9 λp _=>GD p⟩
def F3{rs:List Rm}(hd:∀r∈rs,r.ae.length<=6):(aS rs).length<=6*rs.length:=by
 induction rs with
 |nil=>simp[aS]
 | cons a l c=>
   have:=c λr b=>hd r (Qpq _ b)
   have:=hd a (QBq ..)
   simp only[aS,QSq,lQa,lQm,Qnq] at *
   omega
def Dv{a ak:List Str}(b:∃l,(a++l).Perm (six.map (("":Str)++·)))(c:∃l,(ak++l).Perm (six.map (("o":Str)++·))):∀x∈a,x∉ak:=λx e g=>by
 obtain⟨l,b⟩:=b
 obtain⟨m,c⟩:=c
 have f:=b.mem_iff.mp (mQa.mpr (.inl e))
 have d:=c.mem_iff.mp (mQa.mpr (.inl g))
 have h:∀x∈six.map (("":Str)++·),x∉six.map (("o":Str)++·):=by decide +kernel
 exact h x f d
def Hg{S S0:aD}{k af pm:Nat}{rs:List Rm}{Q:Res->aD->Prop}(x:Ex k S0 S)(h0:0<af)(h4:af<=4)(c3:pm<=JN)(nd:(rs.map (·.name)).Nodup)(hl:rs.length<=3)(a0:∀r∈rs,uT (aS rs) r)
  (h:∀(w:dH) (F:aD),eQ w->Ex k S0 F->Ex k S F->F.length=S.length->Q (.d w.d) F):
  Fn jl [.ref k,.tup (rs.map Rm.d),.int af,.int pm] S Q:=by
 have y:Ex k S S:=by obtain⟨a,b,c,hh⟩:=x.pot;exact Ex.refl hh
 have kl:=x.lt
 have f2:pm<=2:=QAq c3 (by decide)
 have d5:=F3 λr hr=>(a0 r hr).l3
 refine cq ?_
 unfold mh
 symm
 refine⟨by decide,?_⟩
 refine aK ?_
 refine Ah (i:=S.length) (j:=4) (v:=5) (rs:=rs) (tg:=.tu) (by simp +zetaDelta) rfl aM (λR hR=>bW (ax rfl (cu hR))) (λ_=>trivial) (by decide) (λr hr=>(a0 r hr).l3) hl (λo=> ?_)
 have e1:Ex k S ((S++ [O.lst []]).set S.length (.lst ((aS rs).map dt))):=y.app.put (Qmq _) kl
 have a6:((S++ [O.lst []]).set S.length (.lst ((aS rs).map dt)))[S.length]?=some (.lst ((aS rs).map dt)):=cJ aM
 generalize ((S++ [O.lst []]).set S.length (.lst ((aS rs).map dt)))=S1 at e1 a6⊢
 generalize hg:S.length=g at a6⊢
 have X:g≠k:=by omega
 symm
 apply bN e1 (by omega) (by omega) λnp S2 f1 e2 d3 l2=> ?_
 apply iZ e2 (by omega) (by omega) (by decide) λai q _ d4 e3 c1 l3=> ?_
 apply⟨by decide,?_⟩
 have k3:q.length≠k:=by have:=e3.lt;omega
 have b2:(q++ [O.lst (ai.map D.str)])[g]?=some (.lst ((aS rs).map dt)):=aN (c1.keep _ _ X (d3.keep _ _ X a6))
 have b9:(q++ [O.lst (ai.map D.str)])[q.length]?=some (.lst (ai.map D.str)):=aM
 have a1:Ex k S (q++ [O.lst (ai.map D.str)]):=e3.app
 have f7:S.length<=q.length:=e3.len
 have c4:(q++ [O.lst (ai.map D.str)]).length=q.length+1:=by simp
 generalize (q++ [O.lst (ai.map D.str)])=T3 at b2 b9 a1 c4⊢
 refine bN (a1.app (G:= [O.lst [.int 0,.int 0,.int 1,.int 2]])) (by decide) (by decide) λv S4 hv e4 J l4=> ?_
 dsimp only[aZ,aP,aY,bS,bV,eZ]
 obtain⟨ns,f3,ha⟩:∃n:Nat,n<=2/\kQ ([.int 0,.int 0,.int 1,.int 2]:List D) (v:Int)=some (.int n):=by
  rcases v with _|_|_|_|v
  ·exact⟨0,by omega,rfl⟩
  ·exact⟨0,by omega,rfl⟩
  ·exact⟨1,by omega,rfl⟩
  ·exact⟨2,by omega,rfl⟩
  ·omega
 refine bR (J.keep _ _ (by have:=a1.lt;omega) aM) ha ?_
 symm
 apply iZ e4 (by omega) (by omega) (by decide) λl t b8 e0 e5 U l5=> ?_
 refine⟨by decide,?_⟩
 have k5:t.length≠k:=by have:=e5.lt;omega
 have b5:(t++ [O.lst (l.map D.str)]++ [O.lst []])[g]?=some (.lst ((aS rs).map dt)):=aN (aN (U.keep _ _ X (J.keep _ _ X (aN b2))))
 have b4:(t++ [O.lst (l.map D.str)]++ [O.lst []])[q.length]?=some (.lst (ai.map D.str)):=aN (aN (U.keep _ _ k3 (J.keep _ _ k3 (aN b9))))
 have b7:(t++ [O.lst (l.map D.str)]++ [O.lst []])[t.length]?=some (.lst (l.map D.str)):=aN aM
 have d8:q.length<t.length:=by
  have:=U.len
  have:=J.len
  simp only[lQa,Qnq,QGq] at *
  omega
 have e6:Ex k S (t++ [O.lst (l.map D.str)]++ [O.lst []]):=e5.app.app
 generalize hr:t.length+1=r
 have C:(t++ [O.lst (l.map D.str)]).length=r:=by simp[hr]
 rw[C]
 have gr:(t++ [O.lst (l.map D.str)]++ [O.lst []])[r]?=some (.lst []):=by rw[←C];exact aM
 generalize (t++ [O.lst (l.map D.str)]++ [O.lst []])=S6 at e6 b5 b4 b7 gr⊢
 have kr:r≠k:=by have:=e5.lt;omega
 apply aK (gV ?_)
 refine⟨_,rfl,⟨by omega,by omega⟩,?_⟩
 let Inv:Nat->cy->aD->Prop:=λn a4 F=>∃(o9 a5 a3:Option D) (u:List (List (Str×Nat)×List Rw)),a4= [some (.ref k),some (.tup (rs.map Rm.d)),some (.int af),some (.int pm),some (.ref g),o,some (.ref q.length),some (.ref t.length),some (.ref r),o9,a5,a3,none]∧
  Ex k S F/\F[g]?=some (.lst ((aS rs).map dt))/\F[q.length]?=some (.lst (ai.map D.str))/\F[t.length]?=some (.lst (l.map D.str))/\F[r]?=some (.lst (u.map eK))/\u.length=n/\(∀p∈u,Df (aS rs) l ai p)
 refine⟨Inv,⟨none,none,none,[],rfl,e6,b5,b4,b7,gr,rfl,by simp⟩,λ_ _ _ _=>trivial,?_,?_⟩
 ·rintro n d a4 S7 hd ⟨o9,a5,a3,u,rfl,e7,gg7,gp7,gs7,gr7,hn,hpr⟩
  have c2:n<4:=by
   have:=(gQs.mp hd).1
   simp only[jZ,lQm,QVq] at this
   omega
  apply aX ?_
  apply⟨by decide,?_⟩
  refine bN (e7.app (G:= [O.lst [.int 0,.int 1,.int 1,.int 2]])) (by decide) (by decide) λv S8 hv e8 s l8=> ?_
  dsimp only[aZ,aP,aY,bS,bV,eZ]
  obtain⟨nw,f0,ha⟩:∃n:Nat,n<=2/\kQ ([.int 0,.int 1,.int 1,.int 2]:List D) (v:Int)=some (.int n):=by
   rcases v with _|_|_|_|v
   ·exact⟨0,by omega,rfl⟩
   ·exact⟨1,by omega,rfl⟩
   ·exact⟨1,by omega,rfl⟩
   ·exact⟨2,by omega,rfl⟩
   ·omega
  refine bR (s.keep _ _ (by have:=e7.lt;omega) aM) ha ?_
  symm
  apply iZ e8 (by omega) (by omega) (by decide) λf N b1 f4 e9 H l9=> ?_
  have k9:N.length≠k:=by have:=e9.lt;omega
  have e:∀{i:Nat} {o:O},i≠k->S7[i]?=some o->(N++ [O.lst (f.map D.str)])[i]?=some o:=λn h=>aN (H.keep _ _ n (s.keep _ _ n (aN h)))
  have I:(N++ [O.lst (f.map D.str)])[N.length]?=some (.lst (f.map D.str)):=aM
  have a2:Ex k S (N++ [O.lst (f.map D.str)]):=e9.app
  have P:=e X gg7
  have Z:=e k3 gp7
  have Y:=e k5 gs7
  have b3:=e kr gr7
  have r9:r<N.length:=by
   have:=(gQs.mp gr7).1
   have:=s.len
   have:=H.len
   simp only[lQa,Qnq,QGq] at *
   omega
  generalize (N++ [O.lst (f.map D.str)])=T9 at I a2 P Z Y b3⊢
  apply xV ?_
  apply a7 I ?_
  refine a7 Y ?_
  refine⟨⟨rfl,rfl,I,by simp only[lQm];exact nQl (bF (by omega))⟩,?_⟩
  rw[←Qzq]
  symm
  refine Mj (words:=f++l) (ai:=ai) (goals:=aS rs) (a2.app (G:= [O.lst ((f++l).map D.str)])) X (by have:=a2.lt;omega) k3 (aN P) aM (aN Z) (by omega) (by rw[lQa];omega) (by omega) λpr d6 h1 h2 h3 c0 A d9=> ?_
  symm
  apply fZ ?_
  have L:=A.keep _ _ kr (aN b3)
  apply⟨_,_,rfl,L,?_⟩
  apply D9 (m:=3) c0 rfl rfl (A.keep _ _ k9 (aN I)) k9 (by decide) (by decide) (by omega) λts d1 W c6 c5 M f5=> ?_
  refine⟨by show 2<=_;decide,?_⟩
  symm
  have K:=M.keep _ _ kr L
  refine⟨_,K,fo (bF (by simp only[lQm];omega)) ?_⟩
  have kp:∀{i:Nat} {o:O},i≠k->i≠r->T9[i]?=some o->∀o',(d1.set r o')[i]?=some o:=λn n2 h o'=>ft n2 (M.keep _ _ n (A.keep _ _ n (aN h)))
  have f8:ts.length=f.length:=by rw[←W];simp
  refine⟨_,_,_,u++ [(ts,pr)],rfl,c5.put (by omega) kl,kp X (by omega) P _,kp k3 (by omega) Z _,kp k5 (by omega) Y _,?_,by simp[hn],λp B=> ?_⟩
  ·rw[cJ K]
   simp[eK]
  ·rcases mQa.mp B with B|B
   ·exact hpr p B
   ·rw[Qfq.mp B]
    refine⟨λp B=>by have:=c6 p B;omega,by show ts.length<=6;omega,h3,h2,by rw[W];exact Dv b1 b8,?_⟩
    show vC ⟨true,ts.map (·.1)++l,ts.map (·.1)++l,[],_,_⟩ pr
    rw[W]
    exact h1
 ·rintro a4 S7 ⟨o9,a5,a3,u,rfl,e7,gg7,gp7,gs7,gr7,hn,hpr⟩
  have c2:u.length=af:=by
   rw[hn]
   simp only[jZ,lQm,QVq]
   omega
  symm
  apply D9 (m:=3) e7 rfl rfl gp7 k3 (by decide) (by decide) (by omega) λps S8 b0 c8 e8 s l8=> ?_
  apply D9 (m:=3) e8 rfl rfl (s.keep _ _ k5 gs7) k5 (by decide) (by decide) (by omega) λss N b6 d2 e9 H l9=> ?_
  refine a7 (H.keep _ _ kr (s.keep _ _ kr gr7)) ?_
  apply⟨rfl,?_⟩
  refine⟨by show 4<=_;decide,?_⟩
  have f6:ps.length=ai.length:=by rw[←b0];simp
  have d7:ss.length=l.length:=by rw[←b6];simp
  refine lU (d:=(dH.mk rs ps ss u).d) e9 x.lt (λk z=>(nomatch z)) (dN (dH.low _)) λa b c=> ?_
  refine h ⟨rs,ps,ss,u⟩ _ ⟨nd,hl,by show ps.length<=6;omega,by show ss.length<=6;omega,by show u.length<=4;omega,by show 0<u.length;omega,λp B=>by have:=c8 p B;omega,λp B=>by have:=d2 p B;omega,a0,?_,by show ps.length<=JN;omega⟩ x.set y.set (by simp)
  show∀h∈u,Df (aS rs) (ss.map (·.1)) (ps.map (·.1)) h
  rw[b6,b0]
  exact hpr
end W28
namespace DL
open PySem PySem.Spec L2
def KU{l:cy}{S:aD}{js:List (Option Nat)}{f:fh}{g:ni}{i:bD}{Q:List D->aD->Prop}(P:cy->Prop)(F:D->D)(w:P (pk js l)) (h:E f l S λp e=>p.2.stays e p.1/\p.1.length<=1000∧
   (∀d∈p.1,∀a,P a->Tg g d a e λc S2=>S2=e/\P c/\E i c e λy m=>y=F d/\m=e)/\Q (p.1.map F) e):E (bA js (fK f) g bI i) l S Q:=by
 refine jt (kR (h.mono λp e v=> ?_))
 obtain⟨o,A,t,q⟩:=v
 refine⟨λn a j b=>j=e/\b=(p.1.take n).map F/\P a,⟨rfl,rfl,w⟩,λn a j b h=>by rw[h.1];exact o,λn d a j b k h=> ?_,λa j b h=> ?_⟩
 ·obtain⟨rfl,rfl,h3⟩:=h
  obtain⟨c,S2,x,rfl,h4,h5⟩:=t d (mQg k) a h3
  refine⟨c,S2,x,lQ ?_⟩
  rw[Qhq rfl]
  refine h5.mono λy m u=> ?_
  obtain⟨s,r⟩:=u
  subst s r
  have z:=(gQs.mp k).1
  refine⟨?_,rfl,?_,h4⟩
  ·rw[lQm,Qxq]
   exact bF (by omega)
  ·rw[QYq,k]
   simp
 ·obtain⟨rfl,rfl,_⟩:=h
  rw[QEq]
  exact q
def i6{α:Type}{o:cy}{S:aD}{js:List (Option Nat)}{f:fh}{g:ni}{k:bD}{Q:List D->aD->Prop}(P:cy->Prop)(enc G:α->D)(B:P (pk js o)) (h:E f o S λp i=>∃xs:List α,p.1=xs.map enc/\p.2.stays i p.1/\xs.length<=1000∧
   (∀x∈xs,∀a,P a->Tg g (enc x) a i λc S2=>S2=i/\P c/\E k c i λy r=>y=G x/\r=i)/\Q (xs.map G) i):E (bA js (fK f) g bI k) o S Q:=by
 refine jt (kR (h.mono λp i A=> ?_))
 obtain⟨xs,s,t,H,w,q⟩:=A
 refine⟨λn a m b=>m=i/\b=(xs.take n).map G/\P a,⟨rfl,rfl,B⟩,λn a m b h=>by rw[h.1];exact t,λn d a m b l h=> ?_,λa m b h=> ?_⟩
 ·obtain⟨rfl,rfl,h3⟩:=h
  have l:p.1[n]?=some d:=l
  rw[s,gQm] at l
  obtain⟨x,j,rfl⟩:=oQm.mp l
  obtain⟨c,S2,C,rfl,h4,h5⟩:=w x (mQg j) a h3
  refine⟨c,S2,C,lQ ?_⟩
  rw[Qhq rfl]
  refine h5.mono λy r z=> ?_
  obtain⟨v,u⟩:=z
  subst v u
  have F:=(gQs.mp j).1
  refine⟨?_,rfl,?_,h4⟩
  ·rw[lQm,Qxq]
   exact bF (by omega)
  ·rw[QYq,j]
   simp
 ·obtain⟨rfl,rfl,_⟩:=h
  have e:p.1.length=xs.length:=by rw[s,lQm]
  show Q ((xs.take p.1.length).map G) _
  rw[e,QEq]
  exact q
def dm{S:aD}{d:D}{Q:Res->aD->Prop}(hd:∀k,d≠.ref k)(a:cm 0 d=true)(q:Q (.d d) S):Op (settle S d S) λp=>Q p.1 p.2:=iE vm (QEq) hd (dN a) q
def Hv{S:aD}{ds:List D}{Q:Res->aD->Prop}(a:b_ 0 ds=true)(q:Q (.l ds) S):Op (eO S ds S) λp=>Q p.1 p.2:=pD vm (QEq) (jU a) q
end DL
namespace W28
open PySem PySem.Spec L2 DL
structure cC where
 room:Int
 deed:Int
 row:Int
 given:Int
 told:Int
structure dQ where
 vals:List Int
 within:Int
 row:List Int
 ag:List Int
 aa:List (List (Int×Int))
structure bO where
 aj:List dQ
 ai:List (Int×List Int)
 ak:List Int
 af:List (List Int×List cC)
def eN(l:List Int):D:=.tup (l.map D.int)
def cC.d(f:cC):D:=.tup [.int f.room,.int f.deed,.int f.row,.int f.given,.int f.told]
def pairD(p:Int×Int):D:=.tup [.int p.1,.int p.2]
def jS(l:List (Int×Int)):D:=.tup (l.map pairD)
def dQ.d(r:dQ):D:=.tup [eN r.vals,.int r.within,eN r.row,eN r.ag,.tup (r.aa.map jS)]
def G6(p:Int×List Int):D:=.tup [.int p.1,eN p.2]
def sD(h:List Int×List cC):D:=.tup [eN h.1,.tup (h.2.map cC.d)]
def bO.d(s:bO):D:=.tup [.tup (s.aj.map dQ.d),.tup (s.ai.map G6),eN s.ak,.tup (s.af.map sD)]
def mP(l:List Int):cm 0 (eN l)=true:=by simp only[eN,cm];exact a9 λ_ _=>rfl
def Iy(l:List (Int×Int)):cm 0 (jS l)=true:=by simp only[jS,cm];exact a9 λ_ _=>rfl
def dQ.low(r:dQ):cm 0 r.d=true:=by
 simp only[dQ.d,cm,b_,mP,Bool.and_true,Bool.true_and]
 exact a9 λl _=>Iy l
def K3(p:Int×List Int):cm 0 (G6 p)=true:=by simp only[G6,cm,b_,mP,Bool.and_true]
def DF(h:List Int×List cC):cm 0 (sD h)=true:=by
 simp only[sD,cm,b_,mP,Bool.and_true,Bool.true_and]
 exact a9 λ_ _=>rfl
def bO.low(s:bO):cm 0 s.d=true:=by
 simp only[bO.d,cm,b_,mP,Bool.and_true,Bool.true_and,QCq]
 exact⟨a9 λr _=>r.low,a9 λp _=>K3 p,a9 λh _=>DF h⟩
def bL(ts:List (Str×Nat)):List Int:=ts.map λp=>(p.2:Int)
def cn(r:Rm):dQ:=⟨bL r.ao,-1,[],[],r.aa.map λ_=> []⟩
def xf:cC:=⟨-1,-1,0,0,0⟩
def da(w:dH):bO:=⟨w.aj.map cn,w.ai.map λp=>((p.2:Int),[]),bL w.ak,w.af.map λh=>(bL h.1,[xf])⟩
section
variable{S:aD}{Q:Res->aD->Prop}
def kL{ts:List (Str×Nat)}(l:ts.length<=1000)(h:Q (.d (eN (bL ts))) S):Fn gc [.tup (ts.map lC)] S Q:=by
 refine cq ?_
 unfold oA
 symm
 apply KU (λc=>∃a b,c= [a,b]) (λd=>match d with|.tup [_,v]=>v|d=>d) ⟨none,none,rfl⟩ ?_
 refine⟨trivial,by simpa using l,λd g c f=> ?_,?_⟩
 ·obtain⟨p,_,rfl⟩:=Qkq.mp g
  obtain⟨a,b,rfl⟩:=f
  refine iq rfl (az (aX (az (aX (bJ ?_)))))
  apply⟨rfl,⟨_,_,rfl⟩,?_⟩
  exact⟨rfl,rfl⟩
 ·have e:(ts.map lC).map (λd=>match d with|.tup [_,v]=>v|d=>d)=(bL ts).map D.int:=by
   simp only[bL,QPq]
   rfl
  rw[e]
  exact dm (d:=eN (bL ts)) (λk z=>(nomatch z)) (mP _) h
def wD{r:Rm}(b:r.ao.length<=6)(a:r.aa.length<=6)(h:Q (.d (cn r).d) S):Fn jq [r.d] S Q:=by
 refine cq ?_
 unfold lZ
 symm
 apply iq rfl (az (aX (az (aX (az (aX (az (aX (az (aX (bJ ?_)))))))))))
 apply kL (by omega) ?_
 apply⟨by decide,?_⟩
 apply⟨by decide,?_⟩
 apply Cz (λ_=>.tup []) ?_
 refine⟨trivial,by simp;omega,λd c=> ?_,?_⟩
 ·symm
  exact⟨by decide,rfl,rfl⟩
 ·symm
  refine⟨by show 5<=_;decide,?_⟩
  have e:D.tup ((r.aa.map EW).map λ_=>D.tup [])=D.tup ((cn r).aa.map jS):=by
   simp only[cn,QPq]
   rfl
  rw[e]
  exact dm (d:=(cn r).d) (λk z=>(nomatch z)) (dQ.low _) h
def HC{w:dH}(o:eQ w)(h:Q (.d (da w).d) S):Fn yP [w.d] S Q:=by
 refine cq ?_
 unfold Ds
 symm
 apply iq rfl (az (aX (az (aX (az (aX (az (aX (bJ ?_)))))))))
 apply⟨by decide,?_⟩
 have n:=o.l1
 have m:=o.l2
 have l:=o.l3
 have q:=o.l4
 apply i6 (α:=Rm) (λc=>∃a,c= [a]) Rm.d (λr=>(cn r).d) ⟨none,rfl⟩ ?_
 refine⟨w.aj,rfl,trivial,by omega,λr f c e=> ?_,?_⟩
 ·obtain⟨a,rfl⟩:=e
  apply aX ⟨rfl,⟨_,rfl⟩,?_⟩
  exact wD (o.rm r f).l1 (o.rm r f).l2 ⟨rfl,rfl⟩
 symm
 apply i6 (α:=Str×Nat) (λc=>∃a b,c= [a,b]) lC (λp=>G6 ((p.2:Int),[])) ⟨none,none,rfl⟩ ?_
 refine⟨w.ai,rfl,trivial,by omega,λr f c e=> ?_,?_⟩
 ·obtain⟨a,b,rfl⟩:=e
  refine iq rfl (az (aX (az (aX (bJ ?_)))))
  apply⟨rfl,⟨_,_,rfl⟩,?_⟩
  apply⟨by decide,?_⟩
  exact⟨by show 2<=_;decide,rfl,rfl⟩
 symm
 apply kL (by omega) ?_
 apply i6 (α:=List (Str×Nat)×List Rw) (λc=>∃a b,c= [a,b,some xf.d]) eK (λh=>sD (bL h.1,[xf])) ⟨none,none,rfl⟩ ?_
 refine⟨w.af,rfl,trivial,by omega,λr f c e=> ?_,?_⟩
 ·obtain⟨a,b,rfl⟩:=e
  refine iq rfl (az (aX (az (aX (bJ ?_)))))
  apply⟨rfl,⟨_,_,rfl⟩,?_⟩
  refine kL (by have:=(o.hd r f).l1;omega) ?_
  symm
  refine⟨by show 1<=_;decide,?_⟩
  symm
  exact⟨by show 2<=_;decide,rfl,rfl⟩
 symm
 refine⟨by show 4<=_;decide,?_⟩
 have j:w.aj.map (λr=>(cn r).d)=(da w).aj.map dQ.d:=by simp only[da,QPq];rfl
 have i:w.ai.map (λp=>G6 ((p.2:Int),[]))=(da w).ai.map G6:=by simp only[da,QPq];rfl
 have g:w.af.map (λh=>sD (bL h.1,[xf]))=(da w).af.map sD:=by simp only[da,QPq];rfl
 rw[j,i,g]
 exact dm (d:=(da w).d) (λk z=>(nomatch z)) (bO.low _) h
end
end W28
namespace DL
open PySem PySem.Spec L2
section
variable{Γ:cy}{S:aD}
def jH{f:bD}{Q:D->aD->Prop}(h:E f Γ S λd a=>∃i,d=.int i/\Q (.int (-i)) a):E (hU f) Γ S Q:=by
 obtain⟨d,a,b,i,rfl,q⟩:=h
 exact⟨_,a,by unfold hU;rw[b];rfl,q⟩
def fg{Q:Option Int->aD->Prop}(q:Q none S):E wu Γ S Q:=⟨_,_,rfl,q⟩
def fj{f:bD}{Q:Option Int->aD->Prop}(h:E f Γ S λd a=>∃i,d=.int i/\Q (some i) a):E (vT f) Γ S Q:=by
 obtain⟨d,a,b,i,rfl,q⟩:=h
 exact⟨_,a,by unfold vT;rw[b];rfl,q⟩
def qW{f:bD}{lo hi:Mx}{Q:D->aD->Prop}(h:E f Γ S λd b=>E lo Γ b λl S2=>E hi Γ S2 λu a=>∃ds,d=.tup ds/\Q (.tup (l_ ds l u)) a):E (vY f lo hi) Γ S Q:=by
 obtain⟨d,b,e,l,S2,g,u,a,c,ds,rfl,q⟩:=h
 exact⟨_,a,by unfold vY;rw[e];simp only[Qbq];rw[g];simp only[Qbq];rw[c];rfl,q⟩
def M3{i j:Nat}{f:h_}{Q:Out->Prop}(h:E f Γ S λds c=>∃a b,ds= [a,b]/\Q (.nx ((Γ.set i (some a)).set j (some b)) c)):T (JC i j f) Γ S Q:=by
 obtain⟨ds,c,d,a,b,rfl,q⟩:=h
 exact⟨_,by unfold JC;rw[d];rfl,q⟩
end
def Mc{α:Type}{xs:List α}{i:Nat}(h:i<=xs.length):l_ xs none (some (i:Int))=xs.take i:=by
 unfold l_
 rw[HT.vM,HT.Es,Nat.min_eq_left h]
 simp
def p8{α:Type}{xs:List α}{i:Nat}(h:i<=xs.length):l_ xs (some (i:Int)) none=xs.drop i:=by
 unfold l_
 rw[HT.vM,HT.Es,Nat.min_eq_left h]
 rw[List.take_of_length_le]
 simp
def Bj{α:Type}{xs:List α}(h:0<xs.length):l_ xs none (some (-1))=xs.dropLast:=by
 unfold l_
 rw[HT.vM]
 show(xs.drop 0).take (HT.fI xs.length xs.length (some (-1))-0)=_
 rw[show HT.fI xs.length xs.length (some (-1))=xs.length-1 by simp only[HT.fI];rw[Qhq (by omega)];omega]
 simp[List.dropLast_eq_take]
def uI{α:Type}{xs:List α}{x:α}(h:xs.getLast? =some x):kQ xs (-1)=some x:=by
 have c:0<xs.length:=by
  cases xs with
  |nil=>cases h
  |cons a b=>simp
 unfold kQ CD
 rw[Quq (by omega),Qhq (by omega)]
 rw[List.getLast?_eq_getElem?] at h
 simp only[Qbq]
 rw[show((-1:Int)+(xs.length:Int)).toNat=xs.length-1 by omega]
 exact h
end DL
namespace W28
open PySem PySem.Spec L2 DL
section
variable{S:aD}{Q:Res->aD->Prop}
def cz{s:bO}{h:Nat}{vs:List Int}{fs:List cC}{f:cC}(a:s.af[h]?=some (vs,fs))(b:fs.getLast? =some f)(q:Q (.d f.d) S):Fn c7 [s.d,.int h] S Q:=by
 refine cq ?_
 unfold mV
 symm
 apply aA rfl ?_
 refine aA (d:=sD (vs,fs)) (bq (by rw[gQm,a];rfl)) ?_
 symm
 refine aA rfl ?_
 apply jH ?_
 refine⟨1,rfl,?_⟩
 refine aA (d:=f.d) (uI (by rw[QfQ,b];rfl)) ?_
 exact dm (λk z=>(nomatch z)) rfl q
def progOf(w:dH)(h:Nat)(f:cC):Option (List Rw):=
 if f.room= -1 then(w.af[h]?).map (·.2) else if 0<=f.room/\0<=f.deed then(w.aj[f.room.toNat]?).bind λr=>(r.ae[f.deed.toNat]?).map (·.2) else none
def iC{α:Type}{xs:List α}{i:Int}{x:α}(a:0<=i)(h:xs[i.toNat]?=some x):kQ xs i=some x:=by
 obtain⟨n,rfl⟩:∃n:Nat,i=n:=⟨i.toNat,by omega⟩
 exact bq (by simpa using h)
def vD(rs:List Rw):cm 0 (.tup (rs.map Rw.d))=true:=by simp only[cm];exact a9 λr _=>r.low
def gL{w:dH}{h:Nat}{f:cC}{pr:List Rw}(a:progOf w h f=some pr)(q:Q (.d (.tup (pr.map Rw.d))) S):Fn fO [w.d,.int h,f.d] S Q:=by
 refine cq ?_
 unfold sN
 apply aK (M3 ?_)
 apply aA rfl ?_
 apply aA rfl ?_
 apply⟨_,_,rfl,?_⟩
 refine dG ?_
 dsimp only[aZ,aP,aY,bS,bV,eZ]
 unfold progOf at a
 by_cases c:f.room= -1
 ·rw[Qhq c] at a
  obtain⟨j,b,rfl⟩:=oQm.mp a
  rw[Qeq c,Qhq rfl]
  symm
  apply aA rfl ?_
  refine aA (d:=eK j) (bq (by rw[gQm,b];rfl)) ?_
  symm
  refine aA rfl ?_
  exact dm (λk z=>(nomatch z)) (vD _) q
 ·rw[Quq c] at a
  split at a
  ·rename_i e
   obtain⟨r,b,a⟩:=au a
   obtain⟨g,i,rfl⟩:=oQm.mp a
   rw[Qdq c,Quq (by decide)]
   symm
   apply aA rfl ?_
   refine aA (d:=r.d) (iC e.1 (by rw[gQm,b];rfl)) ?_
   symm
   apply aA rfl ?_
   refine aA (d:=gU g) (iC e.2 (by rw[gQm,i];rfl)) ?_
   symm
   refine aA rfl ?_
   exact dm (λk z=>(nomatch z)) (vD _) q
  ·cases a
def fW{xs:List D}{i:Nat}{d:D}(hi:i<xs.length)(m:xs.length<=900)(f:b_ 0 xs=true)(g:cm 0 d=true)(q:Q (.d (.tup (xs.set i d))) S):Fn dD [.tup xs,.int i,d] S Q:=by
 refine cq ?_
 unfold ph
 symm
 apply qW ?_
 apply fg (fj ?_)
 apply⟨_,rfl,_,rfl,?_⟩
 refine⟨by show 1<=_;decide,?_⟩
 rw[Mc (by omega)]
 refine gu (by simp only[Qxq,Qnq,QGq];exact nQl (bF (by omega))) ?_
 apply qW ?_
 apply fj ?_
 refine⟨_,rfl,fg ⟨_,rfl,?_⟩⟩
 rw[show((i:Int)+1)=((i+1:Nat):Int) by omega,p8 (by omega)]
 refine gu (by simp only[lQa,Qxq,List.length_drop,Qnq,QGq];exact nQl (bF (by omega))) ?_
 have e:xs.take i++ [d]++xs.drop (i+1)=xs.set i d:=by
  rw[List.set_eq_take_append_cons_drop,Qhq hi]
  simp
 rw[e]
 refine dm (λk z=>(nomatch z)) ?_ q
 simp only[cm]
 refine zJ λz b=> ?_
 rcases QTq b with b|rfl
 ·have c:∀l:List D,b_ 0 l=true->∀z∈l,cm 0 z=true:=by
   intro l
   induction l with
   |nil=>intro _ z b;cases b
   | cons a l j=>
     intro h z b
     simp only[b_,QCq] at h
     rcases Qsq.mp b with rfl|b
     · exact h.1
     · exact j h.2 z b
  exact c xs f z b
 ·exact g
end
section
variable{S:aD}{Q:Res->aD->Prop}
def map_set{α b:Type}(f:α->b)(l:List α)(i:Nat)(a:α):(l.set i a).map f=(l.map f).set i (f a):=by
 rw[List.map_set]
def bE(s:bO):∀k,s.d≠.ref k:=λk z=>(nomatch z)
def e_{s:bO}{i:Nat}{r:dQ}(hi:i<s.aj.length)(a:s.aj.length<=900)(q:Q (.d ({s with aj:=s.aj.set i r}:bO).d) S):Fn c_ [s.d,.int i,r.d] S Q:=by
 refine cq ?_
 unfold pG
 symm
 apply aA rfl ?_
 apply fW (by simpa using hi) (by simpa using a) (a9 λr _=>r.low) r.low ?_
 refine⟨by show 1<=_;decide,?_⟩
 apply qW ?_
 apply fj ?_
 refine⟨_,rfl,fg ⟨_,rfl,?_⟩⟩
 refine gu (by show 4<=_;decide) ?_
 refine dm (d:=({s with aj:=s.aj.set i r}:bO).d) (bE _) (bO.low _) q|>λz=> ?_
 rw[←map_set]
 exact z
def ix{s:bO}{i:Nat}{vs:List Int}{fs:List cC}(hi:i<s.af.length)(a:s.af.length<=900)(q:Q (.d ({s with af:=s.af.set i (vs,fs)}:bO).d) S):Fn fE [s.d,.int i,eN vs,.tup (fs.map cC.d)] S Q:=by
 refine cq ?_
 unfold oF
 apply eM (bc (qW ?_))
 apply fg (fj ?_)
 apply⟨_,rfl,_,rfl,?_⟩
 apply aA rfl ?_
 refine⟨by show 2<=_;decide,?_⟩
 symm
 apply fW (d:=sD (vs,fs)) (by simpa using hi) (by simpa using a) (a9 λr _=>DF r) (DF (vs,fs)) ?_
 refine⟨by show 1<=_;decide,?_⟩
 refine gu (by show 4<=_;decide) ?_
 refine dm (d:=({s with af:=s.af.set i (vs,fs)}:bO).d) (bE _) (bO.low _) q|>λz=> ?_
 rw[←map_set]
 exact z
def i4{s:bO}{h:Nat}{vs:List Int}{fs:List cC}{f:cC}(a:s.af[h]?=some (vs,fs))(b:0<fs.length)(g:fs.length<=900)(c:s.af.length<=900)(q:Q (.d ({s with af:=s.af.set h (vs,fs.dropLast++ [f])}:bO).d) S):Fn dJ [s.d,.int h,f.d] S Q:=by
 refine cq ?_
 unfold gG
 symm
 apply aA rfl ?_
 refine aA (d:=sD (vs,fs)) (bq (by rw[gQm,a];rfl)) ?_
 apply iq rfl (az (aX (az (aX (bJ ?_)))))
 apply qW ?_
 apply fg (fj (jH ?_))
 apply⟨1,rfl,_,rfl,_,rfl,?_⟩
 refine⟨by show 1<=_;decide,?_⟩
 rw[Bj (by simpa using b)]
 refine gu (by simp only[List.length_dropLast,lQm,Qnq,QGq];exact nQl (bF (by omega))) ?_
 symm
 have e:(fs.map cC.d).dropLast++ [f.d]=(fs.dropLast++ [f]).map cC.d:=by rw[Qzq,List.map_dropLast];rfl
 rw[e]
 refine ix (gQs.mp a).1 c ?_
 exact dm (bE _) (bO.low _) q
def rJ{s:bO}{h:Nat}{vs:List Int}{fs:List cC}{f:cC}{n:Int}(c:s.af[h]?=some (vs,fs))(e:fs.getLast? =some f)(j:fs.length<=900)(g:s.af.length<=900)(q:Q (.d ({s with af:=s.af.set h (vs,fs.dropLast++ [{f with row:=n}])}:bO).d) S):Fn ke [s.d,.int h,.int n] S Q:=by
 refine cq ?_
 unfold yq
 symm
 apply cz c e ?_
 apply qW ?_
 apply fg (fj ?_)
 apply⟨_,rfl,_,rfl,?_⟩
 refine⟨by show 1<=_;decide,?_⟩
 refine gu (by show 3<=_;decide) ?_
 apply qW ?_
 apply fj ?_
 refine⟨_,rfl,fg ⟨_,rfl,?_⟩⟩
 refine gu (by show 5<=_;decide) ?_
 symm
 have i:0<fs.length:=by
  cases fs with
  |nil=>cases e
  |cons a b=>simp
 refine i4 (f:={f with row:=n}) c i j g ?_
 exact dm (bE _) (bO.low _) q
def f_(r:dQ)(h:Int):dQ:=if r.within= -1 then{r with within:=h} else{r with row:=r.row++ [h]}
def eX(r:dQ):dQ:=match r.ag,r.row with
 |a::l,_=>{r with within:=a,ag:=l}
 | [],a::l=>{r with within:=a,row:=l}
 | [],[]=>{r with within:= -1}
def uW{s:bO}{i:Nat}{h:Int}{r:dQ}(a:s.aj[i]?=some r)(f:s.aj.length<=900)(lr:r.row.length<=900)(q:Q (.d ({s with aj:=s.aj.set i (f_ r h)}:bO).d) S):Fn mI [s.d,.int i,.int h] S Q:=by
 have b:=(gQs.mp a).1
 refine cq ?_
 unfold vn
 symm
 apply aA rfl ?_
 refine aA (d:=r.d) (bq (by rw[gQm,a];rfl)) ?_
 apply iq rfl (az (aX (az (aX (az (aX (az (aX (az (aX (bJ ?_)))))))))))
 refine dG ?_
 dsimp only[aZ,aP,aY,bS,bV,eZ]
 unfold f_ at q
 by_cases c:r.within= -1
 ·rw[Qhq c] at q
  rw[Qeq c,Qhq rfl]
  symm
  refine⟨by show 5<=_;decide,?_⟩
  symm
  refine e_ (r:={r with within:=h}) b f ?_
  exact dm (bE _) (bO.low _) q
 ·rw[Quq c] at q
  rw[Qdq c,Quq (by decide)]
  symm
  refine⟨by show 1<=_;decide,?_⟩
  refine gu (by simp only[lQm,Qnq,QGq];exact nQl (bF (by omega))) ?_
  symm
  refine⟨by show 5<=_;decide,?_⟩
  symm
  have e:D.tup (r.row.map D.int++ [D.int h])=eN (r.row++ [h]):=by simp[eN]
  rw[e]
  refine e_ (r:={r with row:=r.row++ [h]}) b f ?_
  exact dm (bE _) (bO.low _) q
end
section
variable{S:aD}{Q:Res->aD->Prop}
def Ct{α:Type}{a:α}{l:List α}:kQ (a::l) 0=some a:=bq (j:=0) rfl
def Gy{S:aD}{ds:List D}{Q:Bool->Prop}(q:Q (!ds.isEmpty)):Op (Di S (.tup ds)) Q:=⟨_,rfl,q⟩
def Ir{s:bO}{i:Nat}{r:dQ}(m:s.aj[i]?=some r)(k:s.aj.length<=900)(q:Q (.d ({s with aj:=s.aj.set i (eX r)}:bO).d) S):Fn ve [s.d,.int i] S Q:=by
 have j:=(gQs.mp m).1
 refine cq ?_
 unfold CB
 symm
 apply aA rfl ?_
 refine aA (d:=r.d) (bq (by rw[gQm,m];rfl)) ?_
 refine iq rfl (az (aX (az (aX (az (aX (az (aX (az (aX (bJ ?_)))))))))))
 obtain⟨b,g,f,n,h⟩:=r
 symm
 refine Gy ?_
 cases n with
 | cons a l=>
   apply aL (λ_=> ?_) (λc=>by cases c)
   apply aA (d:=.int a) Ct ?_
   apply qW ?_
   apply fj ?_
   apply⟨_,rfl,fg ⟨_,rfl,?_⟩⟩
   refine⟨by show 5<=_;decide,?_⟩
   symm
   have e:D.tup (l_ ((a::l).map D.int) (some 1) none)=eN l:=by
     rw[show(some (1:Int))=some ((1:Nat):Int) from rfl,p8 (by simp)]
     rfl
   rw[e]
   refine e_ (r:=⟨b,a,f,l,h⟩) j k ?_
   exact dm (bE _) (bO.low _) q
 | nil=>
   refine aL (λc=>by cases c) (λ_=> ?_)
   apply cc ?_
   refine Gy ?_
   cases f with
   | cons a l=>
     apply aL (λ_=> ?_) (λc=>by cases c)
     apply aA (d:=.int a) Ct ?_
     apply qW ?_
     apply fj ?_
     apply⟨_,rfl,fg ⟨_,rfl,?_⟩⟩
     refine⟨by show 5<=_;decide,?_⟩
     symm
     have e:D.tup (l_ ((a::l).map D.int) (some 1) none)=eN l:=by
       rw[show(some (1:Int))=some ((1:Nat):Int) from rfl,p8 (by simp)]
       rfl
     rw[e]
     refine e_ (r:=⟨b,a,l,[],h⟩) j k ?_
     exact dm (bE _) (bO.low _) q
   | nil=>
     refine aL (λc=>by cases c) (λ_=> ?_)
     apply cc ?_
     refine⟨by show 5<=_;decide,?_⟩
     symm
     refine e_ (r:=⟨b,-1,[],[],h⟩) j k ?_
     exact dm (bE _) (bO.low _) q
def fN{α:Type}{enc:α->D}{nm:α->Str}{xs:List α}(he:∀a,∃r,enc a=.tup (.str (nm a)::r))(d:xs.length<=1000)(q:Q (.l ((xs.map nm).map D.str)) S):Fn eE [.tup (xs.map enc)] S Q:=by
 refine cq ?_
 unfold rp
 symm
 apply i6 (α:=α) (λb=>∃a,b= [a]) enc (λa=>.str (nm a)) ⟨none,rfl⟩ ?_
 refine⟨xs,rfl,trivial,d,λr g b c=> ?_,?_⟩
 ·obtain⟨a,rfl⟩:=c
  refine aX ⟨rfl,⟨_,rfl⟩,?_⟩
  obtain⟨f,e⟩:=he r
  rw[e]
  symm
  exact aA Ct ⟨rfl,rfl⟩
 ·have e:xs.map (λa=>D.str (nm a))=(xs.map nm).map D.str:=by rw[QPq];rfl
  rw[e]
  exact Hv (a9 λ_ _=>rfl) q
theorem gE:∀ss:List Str,qA (ss.map D.str)=some (ss.map V.str)
 | []=>rfl
 |s::ss=>by simp only[QDq,qA,xb,Qbq];rw[gE ss];rfl
theorem ug{x:Str}:∀{ns:List Str},x∈ns->∃j,pO (.str x) (ns.map V.str)=some j/\ns[j]?=some x
 | [],h=>by cases h
 | n::ns,h=>by
   by_cases c:n=x
   · subst c
     exact⟨0,by simp[pO,ue],rfl⟩
   · obtain⟨j,a,b⟩:=ug (ns:=ns) ((Qsq.mp h).resolve_left (Ne.symm c))
     exact⟨j+1,by simp only[QDq,pO];rw[a];simp[ue,c],by simpa using b⟩
end
end W28
namespace DL
open PySem PySem.Spec L2
section
variable{Γ:cy}{S:aD}
def uU{T:String}{f:bD}{Q:D->aD->Prop}(h:E f Γ S λd a=>Op (Jh a T d) λk=>Q (.bl k) a):E (pd T f) Γ S Q:=by
 obtain⟨d,a,b,k,c,q⟩:=h
 exact⟨_,a,by unfold pd;rw[b];simp only[Qbq];rw[c];rfl,q⟩
def rH{b:Bool}{Q:Bool->Prop}(q:Q b):Op (Di S (.bl b)) Q:=⟨_,rfl,q⟩
def Ja{f g:bD}{Q:D->aD->Prop}(h:E f Γ S λx b=>E g Γ b λy S2=>∃k a z v,x=.ref k/\y=.str z/\S2[k]?=some (.dct a)/\ik a (.inr z)=some v/\Q v S2):E (Ld f g) Γ S Q:=by
 obtain⟨x,b,d,y,S2,c,k,a,z,v,rfl,rfl,h1,h2,q⟩:=h
 exact⟨v,S2,by unfold Ld;rw[d];simp only[Qbq];rw[c];simp only[Qbq,h1,wM,h2],q⟩
def mQ{i j:Int}{Q:D->Prop}(q:Q (.bl (!decide (i=j)))):Op (dk true S (.int i) (.int j)) Q:=⟨_,by simp[dk,xb,Cp],q⟩
def Gv{i j:Int}{Q:D->Prop}(q:Q (.int (if j<i then j else i))):Op (minD [.int i,.int j]) Q:=⟨_,rfl,q⟩
def Hl{i j:Int}{Q:D->Prop}(q:Q (.int (if j>i then j else i))):Op (maxD [.int i,.int j]) Q:=⟨_,rfl,q⟩
end
end DL
namespace W28
open PySem PySem.Spec L2 DL
def KH(o:Str)(a b:Int):Int:=
 if o="plus" then(if 9<a+b then 9 else a+b) else if o="minus" then(if 0>a-b then 0 else a-b) else if o="less" then(if a<b then 1 else 0)
 else if o="same" then(if a=b then 1 else 0) else(if a≠0/\b≠0 then 1 else 0)
def nL(th wt:Str->Int):Tr->Int
 |.num n=>n
 |.word x=>th x
 |.waits b=>if 0<wt b then 1 else 0
 |.no t=>if nL th wt t=0 then 1 else 0
 |.two o a b=>KH o (nL th wt a) (nL th wt b)
def E4{o:Str}{a b:Int}(d:0<=a/\a<=9)(c:0<=b/\b<=9):0<=KH o a b/\KH o a b<=9:=by
 unfold KH
 repeat' split
 all_goals omega
theorem iD{th wt:Str->Int}{ws bs:List Str}(h:∀x∈ws,0<=th x/\th x<=9):∀{t:Tr},t.Ok ws bs->0<=nL th wt t/\nL th wt t<=9
 |.num n,ho=>by have:n<=9:=ho;simp only[nL];omega
 |.word x,ho=>h x ho
 |.waits b,_=>by simp only[nL];split <;>omega
 |.no t,_=>by simp only[nL];split <;>omega
 |.two o a b,ho=>E4 (iD h ho.2.1) (iD h ho.2.2)
section
variable{S:aD}{Q:Res->aD->Prop}
def cU{S:aD}{i:Int}{Q:Res->aD->Prop}(q:Q (.d (.int i)) S):Op (settle S (.int i) S) λp=>Q p.1 p.2:=dm (λk z=>(nomatch z)) rfl q
def tZ{o:Str}{a b:Int}(q:Q (.d (.int (KH o a b))) S):Fn gP [.str o,.int a,.int b] S Q:=by
 refine cq ?_
 unfold jx
 unfold KH at q
 symm
 refine jc ?_
 dsimp only[aZ,aP,aY,bS,bV,eZ]
 by_cases i:o="plus"
 ·rw[Qhq i] at q
  rw[Qeq i,Qhq rfl]
  symm
  refine Gv ?_
  exact cU q
 rw[Quq i] at q
 rw[Qdq i,Quq (by decide)]
 apply cc ?_
 refine jc ?_
 dsimp only[aZ,aP,aY,bS,bV,eZ]
 by_cases e:o="minus"
 ·rw[Qhq e] at q
  rw[Qeq e,Qhq rfl]
  symm
  refine Hl ?_
  exact cU q
 rw[Quq e] at q
 rw[Qdq e,Quq (by decide)]
 apply cc ?_
 refine jc ?_
 dsimp only[aZ,aP,aY,bS,bV,eZ]
 by_cases j:o="less"
 ·rw[Qhq j] at q
  rw[Qeq j,Qhq rfl]
  symm
  by_cases c:a<b
  ·rw[Qhq c] at q
   rw[Qeq c,Qhq rfl]
   symm
   exact cU q
  ·rw[Quq c] at q
   rw[Qdq c,Quq (by decide)]
   symm
   exact cU q
 rw[Quq j] at q
 rw[Qdq j,Quq (by decide)]
 apply cc ?_
 refine jc ?_
 dsimp only[aZ,aP,aY,bS,bV,eZ]
 by_cases h:o="same"
 ·rw[Qhq h] at q
  rw[Qeq h,Qhq rfl]
  symm
  refine dG ?_
  dsimp only[aZ,aP,aY,bS,bV,eZ]
  by_cases c:a=b
  ·rw[Qhq c] at q
   rw[Qeq c,Qhq rfl]
   symm
   exact cU q
  ·rw[Quq c] at q
   rw[Qdq c,Quq (by decide)]
   symm
   exact cU q
 rw[Quq h] at q
 rw[Qdq h,Quq (by decide)]
 apply cc ?_
 refine mQ ?_
 dsimp only[aZ,aP,aY,bS,bV,eZ]
 by_cases f:a=0
 ·rw[Quq (λz=>z.1 f)] at q
  rw[Qeq f]
  show if (false=true) then _ else _
  rw[Quq (by decide)]
  show if (false=true) then _ else _
  rw[Quq (by decide)]
  symm
  exact cU q
 ·rw[Qdq f]
  show if (true=true) then _ else _
  rw[Qhq rfl]
  symm
  refine mQ ?_
  dsimp only[aZ,aP,aY,bS,bV,eZ]
  by_cases g:b=0
  ·rw[Quq (λz=>z.2 g)] at q
   rw[Qeq g]
   show if (false=true) then _ else _
   rw[Quq (by decide)]
   symm
   exact cU q
  ·rw[Qhq ⟨f,g⟩] at q
   rw[Qdq g]
   show if (true=true) then _ else _
   rw[Qhq rfl]
   symm
   exact cU q
end
def bX{c:cy}{S:aD}{T:String}{f:bD}{d:D}{b:Bool}{Q:Bool->aD->Prop}(h:E f c S λx a=>x=d/\a=S)(hd:Jh S T d=some b)(q:Q b S):E (jW (pd T f)) c S Q:=by
 refine Bb (uU (h.mono λx a e=> ?_))
 obtain⟨g,i⟩:=e
 subst g i
 exact⟨b,hd,rH q⟩
def D7{o:Str}(h:o∈ops):o≠"waits" /\o≠"not":=by
 simp only[ops,Qsq,QXq,or_false] at h
 rcases h with rfl|rfl|rfl|rfl|rfl <;>exact⟨by decide +kernel,by decide +kernel⟩
theorem gS{th wt:Str->Int}{ws bs:List Str}{i j:Nat}{e kws:List (Key×D)}{S:aD}(hi:S[i]?=some (.dct e))(g:S[j]?=some (.dct kws))(f:∀x∈ws,ik e (.inr x)=some (.int (th x)))(h:∀b∈bs,ik kws (.inr b)=some (.int (wt b))):
  ∀(n:Nat) (t:Tr) {Q:Res->aD->Prop},t.Ok ws bs->t.dep<=n->Q (.d (.int (nL th wt t))) S->Fn (gk n) [t.d,.ref i,.ref j] S Q
 |0,t,Q,_,hd,_=>by cases t <;>simp[Tr.dep] at hd
 | n+1,t,Q,ho,hd,q=>by
   refine cq ?_
   unfold sr
   cases t with
   | num v=>
     refine aK (bU (bX (d:=.int v) (ax rfl ⟨rfl,rfl⟩) rfl ?_))
     apply aL (λ_=> ?_) (λc=>by cases c)
     exact cU q
   | word x=>
     refine aK (bU (bX (d:=.str x) (ax rfl ⟨rfl,rfl⟩) rfl ?_))
     refine aL (λc=>by cases c) (λ_=>cc ?_)
     refine aK (bU (bX (d:=.str x) (ax rfl ⟨rfl,rfl⟩) rfl ?_))
     refine aL (λ_=> ?_) (λc=>by cases c)
     apply eM (Ja ?_)
     refine⟨_,_,_,_,rfl,rfl,hi,f x ho,?_⟩
     exact cU q
   | waits b=>
     refine aK (bU (bX (d:=.tup [.str "waits",.str b]) (ax rfl ⟨rfl,rfl⟩) rfl ?_))
     refine aL (λc=>by cases c) (λ_=>cc ?_)
     refine aK (bU (bX (d:=.tup [.str "waits",.str b]) (ax rfl ⟨rfl,rfl⟩) rfl ?_))
     apply aL (λc=>by cases c) (λ_=>cc ?_)
     apply aA rfl ?_
     refine jc ?_
     dsimp only[aZ,aP,aY,bS,bV,eZ]
     rw[Qeq rfl,Qhq rfl]
     symm
     apply Ja ?_
     refine aA rfl ?_
     apply⟨_,_,_,_,rfl,rfl,g,h b ho,?_⟩
     simp only[nL] at q
     by_cases c:0<wt b
     · rw[Qhq c] at q
       rw[Qeq c,Qhq rfl]
       symm
       exact cU q
     · rw[Quq c] at q
       rw[Qdq c,Quq (by decide)]
       symm
       exact cU q
   | no t=>
     have k:t.dep<=n:=by simp only[Tr.dep] at hd;omega
     refine aK (bU (bX (d:=.tup [.str "not",t.d]) (ax rfl ⟨rfl,rfl⟩) rfl ?_))
     refine aL (λc=>by cases c) (λ_=>cc ?_)
     refine aK (bU (bX (d:=.tup [.str "not",t.d]) (ax rfl ⟨rfl,rfl⟩) rfl ?_))
     apply aL (λc=>by cases c) (λ_=>cc ?_)
     apply aA rfl ?_
     refine jc ?_
     dsimp only[aZ,aP,aY,bS,bV,eZ]
     rw[Qdq (show¬(("not":Str)="waits") by decide +kernel),Quq (by decide)]
     apply cc ?_
     apply aA rfl ?_
     apply gS hi g f h n t ho k ?_
     apply aA rfl ?_
     refine jc ?_
     dsimp only[aZ,aP,aY,bS,bV,eZ]
     rw[Qeq rfl,Qhq rfl]
     symm
     refine dG ?_
     dsimp only[aZ,aP,aY,bS,bV,eZ]
     simp only[nL] at q
     by_cases c:nL th wt t=0
     · rw[Qhq c] at q
       rw[Qeq c,Qhq rfl]
       symm
       exact cU q
     · rw[Quq c] at q
       rw[Qdq c,Quq (by decide)]
       symm
       exact cU q
   | two o a b=>
     have m:a.dep<=n:=by simp only[Tr.dep] at hd;omega
     have l:b.dep<=n:=by simp only[Tr.dep] at hd;omega
     obtain⟨p,r⟩:=D7 ho.1
     refine aK (bU (bX (d:=.tup [.str o,a.d,b.d]) (ax rfl ⟨rfl,rfl⟩) rfl ?_))
     refine aL (λc=>by cases c) (λ_=>cc ?_)
     refine aK (bU (bX (d:=.tup [.str o,a.d,b.d]) (ax rfl ⟨rfl,rfl⟩) rfl ?_))
     apply aL (λc=>by cases c) (λ_=>cc ?_)
     apply aA rfl ?_
     refine jc ?_
     dsimp only[aZ,aP,aY,bS,bV,eZ]
     rw[Qdq p,Quq (by decide)]
     apply cc ?_
     apply aA rfl ?_
     apply gS hi g f h n a ho.2.1 m ?_
     apply aA rfl ?_
     refine jc ?_
     dsimp only[aZ,aP,aY,bS,bV,eZ]
     rw[Qdq r,Quq (by decide)]
     apply cc ?_
     apply aA rfl ?_
     apply aA rfl ?_
     apply gS hi g f h n b ho.2.2 l ?_
     refine tZ ?_
     exact cU q
end W28
namespace DL
open PySem PySem.Spec L2
def xE{l:List (Key×D)}{k:Key}(h:k∈l.map (·.1)):∃d,ik l k=some d/\(k,d)∈l:=by
 unfold ik
 cases e:l.find? λg=>decide (g.1=k) with
 | none=>
   obtain⟨p,c,rfl⟩:=Qkq.mp h
   have:=List.find?_eq_none.mp e p c
   simp at this
 | some p=>
   have a:=List.find?_some e
   have b:=List.mem_of_find?_eq_some e
   have f:p.1=k:=by simpa using a
   exact⟨p.2,rfl,by rw[←f];exact b⟩
def A8{l:List (Key×D)}{k:Key}{v:D}{p:Key×D}(h:p∈putD l k v):p∈l\/p=(k,v):=by
 unfold putD at h
 split at h
 ·obtain⟨q,a,e⟩:=Qkq.mp h
  split at e
  ·rename_i c
   rw[←e,c]
   exact .inr rfl
  ·rw[←e]
   exact .inl a
 ·rcases mQa.mp h with h|h
  ·exact .inl h
  ·exact .inr (Qfq.mp h)
def jJ{l:List (Key×D)}{k x:Key}{v:D}(h:x=k\/x∈l.map (·.1)):x∈(putD l k v).map (·.1):=by
 unfold putD
 split
 ·rename_i c
  have a:∀p∈l,(if p.1=k then(p.1,v) else p).1=p.1:=λp _=>by split <;>rfl
  have e:(l.map λp=>if p.1=k then(p.1,v) else p).map (·.1)=l.map (·.1):=by
   rw[QPq]
   exact List.map_congr_left a
  rw[e]
  rcases h with rfl|h
  ·obtain⟨p,b,d⟩:=List.any_eq_true.mp c
   exact Qkq.mpr ⟨p,b,by simpa using d⟩
  ·exact h
 ·rw[Qzq]
  rcases h with rfl|h
  ·exact Qoq _ (by simp)
  ·exact List.mem_append_left _ h
theorem kF:∀{more l:List (Key×D)} {p:Key×D},p∈bp l more->p∈l\/p∈more
 | [],l,p,h=>.inl h
 | q::more,l,p,h=>by
   rcases kF (more:=more) (l:=putD l q.1 q.2) h with h|h
   · rcases A8 h with h|rfl
     · exact .inl h
     · exact .inr (QBq ..)
   · exact .inr (Qpq _ h)
theorem eW:∀{more l:List (Key×D)} {x:Key},x∈l.map (·.1)\/x∈more.map (·.1)->x∈(bp l more).map (·.1)
 | [],l,x,h=>h.elim id λz=>by cases z
 | q::more,l,x,h=>by
   refine eW (more:=more) (l:=putD l q.1 q.2) ?_
   rcases h with h|h
   · exact .inl (jJ (.inr h))
   · rcases Qsq.mp h with rfl|h
     · exact .inl (jJ (.inl rfl))
     · exact .inr h
theorem vz:∀ss:List Str,B9 (ss.map D.str)=some (ss.map Sum.inr)
 | []=>rfl
 |s::ss=>by simp only[QDq,B9,wM,Qbq];rw[vz ss];rfl
section
variable{Γ:cy}{S:aD}
def M1{Q:D->aD->Prop}(q:Q (.ref S.length) (S++ [.dct []])):E Os Γ S Q:=⟨_,_,rfl,q⟩
def FQ{f g:fh}{Q:D->aD->Prop}(h:E f Γ S λp a=>E g Γ a λr S2=>∃ss:List Str,p.1=ss.map D.str/\(p.2.stays S2 p.1/\p.1.length=r.1.length)/\Q (.ref S2.length) (S2++ [.dct (bp [] ((ss.map Sum.inr).zip r.1))])):E (JH f g) Γ S Q:=by
 obtain⟨p,a,d,r,S2,e,ss,b,c,q⟩:=h
 refine⟨_,_,?_,q⟩
 unfold JH
 rw[d]
 simp only[Qbq]
 rw[e]
 simp only[Qbq]
 rw[Qhq c,b,vz]
 rfl
def NY{f g:bD}{Q:D->aD->Prop}(h:E f Γ S λx a=>E g Γ a λy S2=>∃k j b l m,x=.ref k/\y=.ref j/\k≠j/\a[k]?=some (.dct b)/\S2[k]?=some (.dct l)/\S2[j]?=some (.dct m)/\l.length+m.length<=sizeLine/\Q .non (S2.set k (.dct (bp l m)))):E (Ke f g) Γ S Q:=by
 obtain⟨x,a,c,y,S2,d,k,j,b,l,m,rfl,rfl,hn,h0,h1,h2,h3,q⟩:=h
 exact⟨_,_,by unfold Ke;rw[c];simp only[Qbq];rw[d];simp only[Qbq];rw[Qhq hn];simp only[h0,h1,h2];rw[Qhq h3],q⟩
def Nz{f g h:bD}{Q:Out->Prop}(w:E h Γ S λd b=>E f Γ b λx S2=>E g Γ S2 λy a=>∃k l z,x=.ref k/\y=.str z/\a[k]?=some (.dct l)/\l.length<sizeLine/\Q (.nx Γ (a.set k (.dct (putD l (.inr z) d))))):T (Oc f g h) Γ S Q:=by
 obtain⟨d,b,i,x,S2,e,y,a,c,k,l,z,rfl,rfl,h1,h2,q⟩:=w
 exact⟨_,by unfold Oc;rw[i];simp only[Qbq];rw[e];simp only[Qbq];rw[c];simp only[Qbq,h1,wM];rw[Qhq h2],q⟩
def Px{α:Type}{n:Nat}{js:List (Option Nat)}{i:yd}{g:ni}{s w:bD}{Q:Out->Prop}(P:cy->Prop)(enc:α->D)(e:α->Str)(f:α->D)(I:P (pk js Γ)) (h:E i Γ S λp d=>∃xs:List α,p.1=xs.map enc/\p.2 d/\xs.length<=1000∧
   (∀x∈xs,∀c,P c->Tg g (enc x) c d λj S2=>S2=d/\P j/\E s j d λy A=>y=.str (e x)/\A=d/\E w j d λz B=>z=f x/\B=d)∧
   Q (.nx (Γ.set n (some (.ref d.length))) (d++ [.dct (bp [] (xs.map λx=>(Sum.inr (e x),f x)))]))):T (Ni n (rC js i g bI s w)) Γ S Q:=by
 obtain⟨⟨R,W⟩,d,J,xs,rfl,hW,hl,hs,q⟩:=h
 have N:∀(l:List (Key×D)) (k:Key) (v:D),(putD l k v).length<=l.length+1:=λl k v=>by
  unfold putD
  split <;>simp
 have L:∀(m:List α) (c:cy) (b:List (Key×D)),(∀y∈m,y∈xs)->P c->b.length+m.length<=1000->∃r,jC g bI s w W (m.map enc) c d b=some (r,d)/\r=bp b (m.map λx=>(Sum.inr (e x),f x)):=by
  intro m
  induction m with
  |nil=>intro c b _ _ _;exact⟨b,by simp only[List.map_nil,jC];rw[Qhq hW],rfl⟩
  | cons a m G=>
    intro c b C H o
    obtain⟨j,S2,t,rfl,hp1,y,A,e3,rfl,rfl,z,B,e4,rfl,rfl⟩:=hs a (C a (QBq ..)) c H
    have u:=N b (Sum.inr (e a)) (f a)
    simp only[Qnq] at o
    obtain⟨r,F,M⟩:=G j (putD b (Sum.inr (e a)) (f a)) (λy K=>C y (Qpq _ K)) hp1 (by omega)
    refine⟨r,?_,M⟩
    simp only[QDq,jC]
    rw[Qhq hW,t]
    simp only[Qbq,bI,if_true]
    rw[e3]
    simp only[Qbq]
    rw[e4]
    simp only[Qbq,wM]
    rw[Qhq (bF (by omega))]
    exact F
 obtain⟨r,t,rfl⟩:=L xs _ [] (λ_ h=>h) I (by simpa using hl)
 exact⟨_,by unfold Ni rC;rw[J];simp only[Qbq];rw[t];rfl,q⟩
end
def Hm{a:cy}{S:aD}{f g:fh}{Q:(List D×(aD->Prop))->aD->Prop}(h:E f a S λp b=>E g a b λr S2=>(p.2.stays S2 p.1/\p.1.length<=r.1.length)/\Q (BA p.1 r.1,λS=>p.2.stays S p.1/\r.2.stays S r.1) S2):E (Gn f g) a S Q:=by
 obtain⟨p,b,c,r,S2,e,d,q⟩:=h
 exact⟨_,S2,by unfold Gn;rw[c];simp only[Qbq];rw[e];simp only[Qbq];rw[Qhq d],q⟩
def i_(l:List (Key×D)):Prop:=∀p∈l,∃v:Int,p.2=.int v/\0<=v/\v<=9
def i_.merge{l m:List (Key×D)}(a:i_ l)(b:i_ m):i_ (bp l m):=λp c=>(kF c).elim (a p) (b p)
def i_.put{l:List (Key×D)}{k:Key}{v:Int}(h:i_ l)(c:0<=v)(b:v<=9):i_ (putD l k (.int v)):=λp a=>by
 rcases A8 a with a|rfl
 ·exact h p a
 ·exact⟨v,rfl,c,b⟩
def numAt(l:List (Key×D))(x:Str):Int:=match ik l (.inr x) with|some (.int v)=>v|_=>0
def gY{l:List (Key×D)}(h:i_ l){x:Str}(f:(Sum.inr x:Key)∈l.map (·.1)):ik l (.inr x)=some (.int (numAt l x))/\0<=numAt l x/\numAt l x<=9:=by
 obtain⟨d,b,c⟩:=xE f
 obtain⟨v,a,i,g⟩:=h _ c
 have a:d=.int v:=a
 subst a
 have e:numAt l x=v:=by unfold numAt;rw[b]
 rw[e]
 exact⟨b,i,g⟩
def Hb{ss:List Str}{vs:List Int}(h:∀v∈vs,0<=v/\v<=9):i_ ((ss.map (Sum.inr:Str->Key)).zip (vs.map D.int)):=λp b=>by
 have a:p.2∈vs.map D.int:=(QeQ (show(p.1,p.2)∈_ from b)).2
 obtain⟨v,c,e⟩:=Qkq.mp a
 exact⟨v,e.symm,h v c⟩
def Ha{ss:List Str}{ds:List D}(h:ss.length=ds.length):((ss.map (Sum.inr:Str->Key)).zip ds).map (·.1)=ss.map Sum.inr:=by
 rw[List.map_fst_zip]
 simpa using Nat.le_of_eq h
end DL
namespace W28
open PySem PySem.Spec L2 DL
def dU(ts:List (Str×Nat))(vs:List Int):List (Key×D):=bp [] (((ts.map (·.1)).map Sum.inr).zip (vs.map D.int))
def qj(w:dH)(s:bO)(ts:List (Str×Nat))(vs:List Int):List (Key×D):=bp (dU w.ak s.ak) (dU ts vs)
def ig(r:Rm)(rs:dQ)(a:Int):List (Key×D):=putD (dU r.ao rs.vals) (.inr "given") (.int a)
def xN(r:Rm)(rs:dQ):List (Key×D):=bp [] ((r.aa.zip rs.aa).map λp=>(Sum.inr p.1.1,D.int (p.2.length:Nat)))
def dI{ts:List (Str×Nat)}{vs:List Int}(h:∀v∈vs,0<=v/\v<=9):i_ (dU ts vs):=i_.merge (λp a=>by cases a) (Hb h)
def dq{ts:List (Str×Nat)}{vs:List Int}(a:ts.length=vs.length){x:Str}(h:x∈ts.map (·.1)):(Sum.inr x:Key)∈(dU ts vs).map (·.1):=by
 refine eW (.inr ?_)
 rw[Ha (by simpa using a)]
 exact Qkq.mpr ⟨x,h,rfl⟩
structure rK(S S':aD):Prop where
 len:S.length<=S'.length
 eq:∀j,j<S.length->S'[j]?=S[j]?
def rK.refl{S:aD}:rK S S:=⟨Qmq _,λ_ _=>rfl⟩
def rK.app{S a G:aD}(x:rK S a):rK S (a++G):=⟨by rw[lQa];have:=x.len;omega,λj b=>by rw[QHq (by have:=x.len;omega)];exact x.eq j b⟩
def rK.put{S a:aD}{r:Nat}{o:O}(x:rK S a)(c:S.length<=r):rK S (a.set r o):=⟨by simpa using x.len,λj b=>by rw[QKq (by omega)];exact x.eq j b⟩
def uD{S a:aD}{d:D}{Q:Res->aD->Prop}(x:rK S a)(hd:∀k,d≠.ref k)(c:cm 0 d=true)(q:Q (.d d) S):Op (settle S d a) λp=>Q p.1 p.2:=by
 refine iE ⟨x.len,λk o f e=>.inl (by rw[←x.eq k f];exact e)⟩ ?_ hd (dN c) q
 apply List.ext_getElem?
 intro j
 by_cases b:j<S.length
 ·rw[List.getElem?_take_of_lt b]
  exact x.eq j b
 ·rw[List.getElem?_eq_none (by rw[Qxq];omega),List.getElem?_eq_none (by omega)]
def kf:∀a:Str×Nat,∃r,lC a=.tup (.str a.1::r):=λa=>⟨_,rfl⟩
def IW:∀a:Str×Str,∃r,EW a=.tup (.str a.1::r):=λa=>⟨_,rfl⟩
section
variable{S:aD}{Q:Res->aD->Prop}
theorem o_:∀{m l:List (Key×D)},(bp l m).length<=l.length+m.length
 | [],l=>Qmq _
 | q::m,l=>by
   have b:(bp (putD l q.1 q.2) m).length<=(putD l q.1 q.2).length+m.length:=o_
   have a:(putD l q.1 q.2).length<=l.length+1:=by unfold putD;split <;>simp
   show(bp (putD l q.1 q.2) m).length<=_
   simp only[Qnq]
   omega
def vU{ts:List (Str×Nat)}{vs:List Int}:(dU ts vs).length<=ts.length:=by
 refine QAq o_ ?_
 simp only[QGq,List.length_zip,lQm]
 omega
def zV{w:dH}{s:bO}{h:Nat}{ts:List (Str×Nat)}{pr:List Rw}{vs:List Int}{fs:List cC}{f:cC}{t:Tr}(r:w.af[h]?=some (ts,pr))(hs:s.af[h]?=some (vs,fs))(F:fs.getLast? =some f)(H:f.room= -1)
  (p:w.ak.length=s.ak.length) (o:ts.length=vs.length) (K:w.ak.length<=100) (I:ts.length<=100) (A:∀v∈s.ak,0<=v/\v<=9) (y:∀v∈vs,0<=v/\v<=9)
  (B:t.Ok (ts.map (·.1)++w.ak.map (·.1)) []) (hd:t.dep<=6) (q:Q (.d (.int (nL (numAt (qj w s ts vs)) (λ_=>0) t))) S):Fn dM [w.d,s.d,.int h,t.d] S Q:=by
 have a:i_ (qj w s ts vs):=i_.merge (dI A) (dI y)
 refine cq ?_
 unfold nz
 symm
 apply cz hs F ?_
 apply aA (d:=.int f.room) rfl ?_
 refine dG ?_
 dsimp only[aZ,aP,aY,bS,bV,eZ]
 rw[Qeq H,Qhq rfl]
 symm
 apply FQ ?_
 apply aA rfl ?_
 apply fN (enc:=lC) (nm:=(·.1)) kf (by omega) ?_
 refine aA rfl ?_
 refine cu (ds:=s.ak.map D.int) ?_
 refine⟨_,rfl,⟨trivial,by simp only[lQm];exact p⟩,?_⟩
 dsimp only[aZ,aP,aY,bS,bV,eZ]
 rw[show bp [] (((w.ak.map (·.1)).map (Sum.inr:Str->Key)).zip (s.ak.map D.int))=dU w.ak s.ak from rfl]
 apply aK (fm (NY ?_))
 apply FQ ?_
 apply aA rfl ?_
 refine aA (d:=eK (ts,pr)) (bq (by rw[gQm,r];rfl)) ?_
 symm
 apply aA rfl ?_
 apply fN (enc:=lC) (nm:=(·.1)) kf (by omega) ?_
 apply aA rfl ?_
 refine aA (d:=sD (vs,fs)) (bq (by rw[gQm,hs];rfl)) ?_
 symm
 refine aA rfl ?_
 refine cu (ds:=vs.map D.int) ?_
 refine⟨_,rfl,⟨trivial,by simp only[lQm];exact o⟩,?_⟩
 dsimp only[aZ,aP,aY,bS,bV,eZ]
 rw[show bp [] (((ts.map (·.1)).map (Sum.inr:Str->Key)).zip (vs.map D.int))=dU ts vs from rfl]
 have e:(S++ [O.dct (dU w.ak s.ak)])[S.length]?=some (.dct (dU w.ak s.ak)):=aM
 have i:(S++ [O.dct (dU w.ak s.ak)]).length=S.length+1:=by simp
 have C:rK S (S++ [O.dct (dU w.ak s.ak)]):=rK.refl.app
 show∃k j u l m,D.ref S.length=.ref k/\D.ref (S++ [O.dct (dU w.ak s.ak)]).length=.ref j/\k≠j/\(S++ [O.dct (dU w.ak s.ak)])[k]?=some (.dct u)/\(S++ [O.dct (dU w.ak s.ak)]++ [O.dct (dU ts vs)])[k]?=some (.dct l)/\(S++ [O.dct (dU w.ak s.ak)]++ [O.dct (dU ts vs)])[j]?=some (.dct m)/\_
 refine⟨_,_,_,_,_,rfl,rfl,by omega,e,aN e,aM,?_,?_⟩
 ·have J:=vU (ts:=w.ak) (vs:=s.ak)
  have L:=vU (ts:=ts) (vs:=vs)
  exact nQl (bF (by omega))
 have g:((S++ [O.dct (dU w.ak s.ak)]++ [O.dct (dU ts vs)]).set S.length (.dct (bp (dU w.ak s.ak) (dU ts vs))))[S.length]?=some (.dct (qj w s ts vs)):=cJ (aN e)
 have n:rK S ((S++ [O.dct (dU w.ak s.ak)]++ [O.dct (dU ts vs)]).set S.length (.dct (bp (dU w.ak s.ak) (dU ts vs)))):=C.app.put (Qmq _)
 generalize ((S++ [O.dct (dU w.ak s.ak)]++ [O.dct (dU ts vs)]).set S.length (.dct (bp (dU w.ak s.ak) (dU ts vs))))=S2 at g n⊢
 symm
 apply M1 ?_
 refine gS (th:=numAt (qj w s ts vs)) (wt:=λ_=>0) (ws:=ts.map (·.1)++w.ak.map (·.1)) (bs:= []) (aN g) aM (λx c=> ?_) (λb G=>by cases G) 6 t B hd ?_
 ·refine(gY a ?_).1
  refine eW ?_
  rcases mQa.mp c with c|c
  ·exact .inr (dq o c)
  ·exact .inl (dq p c)
 ·exact uD n.app (λk z=>(nomatch z)) rfl q
end
section
variable{S:aD}{Q:Res->aD->Prop}
theorem Ba:∀(bs:List (Str×Str)) (ls:List (List (Int×Int))),BA ((bs.map (·.1)).map D.str) (ls.map jS)=(bs.zip ls).map λp=>D.tup [.str p.1.1,jS p.2]
 | [],_=>rfl
 |_::_,[]=>rfl
 | b::bs,l::ls=>by
   have:=Ba bs ls
   simp only[BA,QDq,List.zipWith_cons_cons,List.zip_cons_cons] at this⊢
   rw[this]
def tE(r:Rm)(rs:dQ)(x:Str):Int:=numAt (xN r rs) x
def AL{r:Rm}{rs:dQ}(k:r.aa.length=rs.aa.length){x:Str}(h:x∈r.aa.map (·.1)):ik (xN r rs) (.inr x)=some (.int (tE r rs x)):=by
 have g:(Sum.inr x:Key)∈(xN r rs).map (·.1):=by
  refine eW (.inr ?_)
  rw[QPq]
  obtain⟨b,j,rfl⟩:=Qkq.mp h
  obtain⟨i,c,e⟩:=QbQ j
  refine Qkq.mpr ⟨(b,rs.aa[i]'(by omega)),?_,rfl⟩
  rw[←e]
  have:(r.aa.zip rs.aa)[i]?=some (r.aa[i],rs.aa[i]'(by omega)):=by
   rw[List.getElem?_zip_eq_some]
   exact⟨gQe c,gQe (by omega)⟩
  exact mQg this
 obtain⟨d,f,a⟩:=xE g
 have c:∃v:Int,d=.int v:=by
  rcases kF a with a|a
  ·cases a
  ·obtain⟨p,_,e⟩:=Qkq.mp a
   exact⟨_,(congrArg (·.2) e).symm⟩
 obtain⟨v,rfl⟩:=c
 unfold tE DL.numAt
 rw[f]
def wG{w:dH}{s:bO}{h i:Nat}{vs:List Int}{fs:List cC}{f:cC}{r:Rm}{rs:dQ}{t:Tr}(hs:s.af[h]?=some (vs,fs))(F:fs.getLast? =some f)(H:f.room=i)(n:w.aj[i]?=some r)(e:s.aj[i]?=some rs)
  (y:r.ao.length=rs.vals.length) (I:r.aa.length=rs.aa.length) (L:r.ao.length<=100) (J:r.aa.length<=100) (A:∀v∈rs.vals,0<=v/\v<=9) (u:0<=f.given/\f.given<=9)
  (B:t.Ok (r.ao.map (·.1)++fq) (r.aa.map (·.1))) (hd:t.dep<=6) (q:Q (.d (.int (nL (numAt (ig r rs f.given)) (tE r rs) t))) S):Fn dM [w.d,s.d,.int h,t.d] S Q:=by
 have c:i_ (ig r rs f.given):=(dI A).put u.1 u.2
 refine cq ?_
 unfold nz
 symm
 apply cz hs F ?_
 apply aA (d:=.int f.room) rfl ?_
 refine dG ?_
 dsimp only[aZ,aP,aY,bS,bV,eZ]
 rw[Qdq (show¬f.room= -1 by omega),Quq (by decide),H]
 apply cc ?_
 apply FQ ?_
 apply aA rfl ?_
 refine aA (d:=r.d) (bq (by rw[gQm,n];rfl)) ?_
 symm
 apply aA rfl ?_
 apply fN (enc:=lC) (nm:=(·.1)) kf (by omega) ?_
 apply aA rfl ?_
 refine aA (d:=rs.d) (bq (by rw[gQm,e];rfl)) ?_
 symm
 refine aA rfl ?_
 refine cu (ds:=rs.vals.map D.int) ?_
 refine⟨_,rfl,⟨trivial,by simp only[lQm];exact y⟩,?_⟩
 dsimp only[aZ,aP,aY,bS,bV,eZ]
 rw[show bp [] (((r.ao.map (·.1)).map (Sum.inr:Str->Key)).zip (rs.vals.map D.int))=dU r.ao rs.vals from rfl]
 have C:rK S (S++ [O.dct (dU r.ao rs.vals)]):=rK.refl.app
 apply aK (Nz ?_)
 apply aA (d:=.int f.given) rfl ?_
 refine⟨_,_,_,rfl,rfl,aM,bF (by have:=vU (ts:=r.ao) (vs:=rs.vals);omega),?_⟩
 have m:((S++ [O.dct (dU r.ao rs.vals)]).set S.length (.dct (putD (dU r.ao rs.vals) (.inr "given") (.int f.given))))[S.length]?=some (.dct (ig r rs f.given)):=cJ aM
 have o:rK S ((S++ [O.dct (dU r.ao rs.vals)]).set S.length (.dct (putD (dU r.ao rs.vals) (.inr "given") (.int f.given)))):=C.put (Qmq _)
 generalize ((S++ [O.dct (dU r.ao rs.vals)]).set S.length (.dct (putD (dU r.ao rs.vals) (.inr "given") (.int f.given))))=S2 at m o⊢
 apply aK (Px (α:=(Str×Str)×List (Int×Int)) (λj=>∃a b,j= [a,b]) (λp=>D.tup [.str p.1.1,jS p.2]) (λp=>p.1.1) (λp=>.int (p.2.length:Nat)) ⟨none,none,rfl⟩ (Hm ?_))
 apply aA rfl ?_
 refine aA (d:=r.d) (bq (by rw[gQm,n];rfl)) ?_
 symm
 apply aA rfl ?_
 apply fN (enc:=EW) (nm:=(·.1)) IW (by omega) ?_
 apply aA rfl ?_
 refine aA (d:=rs.d) (bq (by rw[gQm,e];rfl)) ?_
 symm
 refine aA rfl ?_
 refine cu (ds:=rs.aa.map jS) ?_
 refine⟨⟨trivial,by simp only[lQm];omega⟩,r.aa.zip rs.aa,Ba _ _,⟨trivial,trivial⟩,by rw[List.length_zip];omega,λp K j l=> ?_,?_⟩
 ·obtain⟨a,b,rfl⟩:=l
  refine iq rfl (az (aX (az (aX (bJ ?_)))))
  apply⟨rfl,⟨_,_,rfl⟩,?_⟩
  apply⟨rfl,rfl,?_⟩
  refine cu (ds:=p.2.map pairD) ?_
  exact⟨by simp,rfl⟩
 symm
 refine gS (th:=numAt (ig r rs f.given)) (wt:=tE r rs) (ws:=r.ao.map (·.1)++fq) (bs:=r.aa.map (·.1)) (kws:=xN r rs) (aN m) aM (λx g=> ?_) (λb G=>AL I G) 6 t B hd ?_
 ·refine(gY c ?_).1
  refine jJ ?_
  rcases mQa.mp g with g|g
  ·exact .inr (dq y g)
  ·left
   rw[Qfq.mp g]
 ·exact uD o.app (λk z=>(nomatch z)) rfl q
end
end W28
namespace DL
open PySem PySem.Spec L2
def yk{b:cy}{S:aD}{a:Bool}{f:bD}{g:fh}{Q:D->aD->Prop}(h:E f b S λx c=>E g b c λp S2=>∃v vs,xb x=some v/\qA p.1=some vs/\Q (.bl (if a then !Ig v vs else Ig v vs)) S2):E (B_ a f g) b S Q:=by
 obtain⟨x,c,i,p,S2,j,v,vs,d,e,q⟩:=h
 exact⟨_,S2,by unfold B_;rw[i];simp only[Qbq];rw[j];simp only[Qbq];rw[d,e];rfl,q⟩
def yI{x:Str}{ss:List Str}:Ig (.str x) (ss.map V.str)=decide (x∈ss):=by
 induction ss with
 |nil=>rfl
 | cons a ss d=>
   show(ue (.str a) (.str x)||Ig (.str x) (ss.map V.str))=_
   rw[d]
   simp only[ue,Qsq]
   by_cases c:a=x
   · subst c;simp
   · have b:¬x=a:=λz=>c z.symm
     simp[c,b]
end DL
namespace W28
open PySem PySem.Spec L2 DL
section
variable{S:aD}{Q:Res->aD->Prop}
def eB(ns:List Str)(vs:List Int)(x:Str)(v:Int):List Int:=vs.set ((pO (.str x) (ns.map V.str)).getD 0) v
def qu{α:Type}{enc:α->D}{nm:α->Str}{xs:List α}{x:Str}(he:∀a,∃r,enc a=.tup (.str (nm a)::r))(l:xs.length<=1000)(h:x∈xs.map nm)(q:((pO (.str x) ((xs.map nm).map V.str)).getD 0)<xs.length->Q (.d (.int ((pO (.str x) ((xs.map nm).map V.str)).getD 0:Nat))) S):Fn dr [.tup (xs.map enc),.str x] S Q:=by
 refine cq ?_
 unfold rF
 obtain⟨j,e,i⟩:=ug h
 have f:j<xs.length:=by have:=(gQs.mp i).1;simpa using this
 rw[e] at q
 refine eM ?_
 have c:E (ic (dR eE (aq (ar 0) av))) ([D.tup (xs.map enc),D.str x].map some++List.replicate (2- [D.tup (xs.map enc),D.str x].length) none) S λp b=>p=((xs.map nm).map D.str,.fr)/\b=S:=by
  symm
  exact fN he l ⟨rfl,rfl⟩
 obtain⟨p,b,g,rfl,rfl⟩:=c
 refine⟨.int j,b,?_,dm (λk z=>(nomatch z)) rfl (q f)⟩
 unfold GR
 rw[g]
 simp only[Qbq]
 rw[Qhq (show Tag.fr.isL=true from rfl)]
 show((ar 1 _ b).bind _)=_
 rw[show ar 1 ([D.tup (xs.map enc),D.str x].map some++List.replicate (2- [D.tup (xs.map enc),D.str x].length) none) b=some (.str x,b) from rfl]
 simp only[Qbq]
 rw[Qhq (show Tag.stays b _ .fr from trivial)]
 show(xb (.str x)).bind _=_
 simp only[xb,Qbq]
 rw[gE]
 simp only[Qbq]
 rw[e]
 rfl
def Iw{w:dH}{s:bO}{h i:Nat}{vs:List Int}{fs:List cC}{f:cC}{r:Rm}{rs:dQ}{x:Str}{v:Int}(hs:s.af[h]?=some (vs,fs))(g:fs.getLast? =some f)(j:f.room=i)(b:w.aj[i]?=some r)(a:s.aj[i]?=some rs)
  (n:r.ao.length=rs.vals.length) (m:r.ao.length<=100) (k:s.aj.length<=100) (c:x∈r.ao.map (·.1))
  (q:Q (.d ({s with aj:=s.aj.set i {rs with vals:=eB (r.ao.map (·.1)) rs.vals x v}}:bO).d) S):Fn fJ [w.d,s.d,.int h,.str x,.int v] S Q:=by
 refine cq ?_
 unfold kJ
 symm
 apply cz hs g ?_
 apply aA (d:=.int f.room) rfl ?_
 refine mQ ?_
 dsimp only[aZ,aP,aY,bS,bV,eZ]
 rw[Qdq (show¬f.room= -1 by omega),j]
 show if (true=true) then _ else _
 rw[Qhq rfl]
 symm
 apply aA rfl ?_
 refine aA (d:=r.d) (bq (by rw[gQm,b];rfl)) ?_
 symm
 apply aA rfl ?_
 apply qu (enc:=lC) (nm:=(·.1)) kf (by omega) c λl=> ?_
 apply aA rfl ?_
 refine aA (d:=rs.d) (bq (by rw[gQm,a];rfl)) ?_
 symm
 apply aA rfl ?_
 refine fW (xs:=rs.vals.map D.int) (by rw[lQm];omega) (by rw[lQm];omega) (a9 λ_ _=>rfl) rfl ?_
 symm
 refine⟨by show 1<=_;decide,?_⟩
 apply qW ?_
 apply aA rfl ?_
 refine aA (d:=rs.d) (bq (by rw[gQm,a];rfl)) ?_
 apply fj ?_
 refine⟨_,rfl,fg ⟨_,rfl,?_⟩⟩
 refine gu (by show 5<=_;decide) ?_
 symm
 have e:({rs with vals:=eB (r.ao.map (·.1)) rs.vals x v}:dQ).d=.tup ([.tup ((rs.vals.map D.int).set ((pO (.str x) ((r.ao.map (·.1)).map V.str)).getD 0) (.int v))]++l_ [eN rs.vals,.int rs.within,eN rs.row,eN rs.ag,.tup (rs.aa.map jS)] (some 1) none):=by
  show D.tup [eN (eB _ _ _ _),_,_,_,_]=_
  unfold eB eN
  rw[map_set]
  rfl
 rw[←e]
 refine e_ (gQs.mp a).1 (by omega) ?_
 exact dm (bE _) (bO.low _) q
end
section
variable{S:aD}{Q:Res->aD->Prop}
def lF(w:dH)(s:bO)(h:Nat)(ts:List (Str×Nat))(vs:List Int)(fs:List cC)(x:Str)(v:Int):bO:=
 if x∈w.ak.map (·.1) then{s with ak:=eB (w.ak.map (·.1)) s.ak x v} else{s with af:=s.af.set h (eB (ts.map (·.1)) vs x v,fs)}
def IZ{w:dH}{s:bO}{h:Nat}{ts:List (Str×Nat)}{pr:List Rw}{vs:List Int}{fs:List cC}{f:cC}{x:Str}{v:Int}(g:w.af[h]?=some (ts,pr))(hs:s.af[h]?=some (vs,fs))(j:fs.getLast? =some f)(l:f.room= -1)
  (u:w.ak.length=s.ak.length) (t:ts.length=vs.length) (o:w.ak.length<=100) (n:ts.length<=100) (r:s.af.length<=100) (i:x∈ts.map (·.1)++w.ak.map (·.1))
  (q:Q (.d (lF w s h ts vs fs x v).d) S):Fn fJ [w.d,s.d,.int h,.str x,.int v] S Q:=by
 refine cq ?_
 unfold kJ
 symm
 apply cz hs j ?_
 apply aA (d:=.int f.room) rfl ?_
 refine mQ ?_
 dsimp only[aZ,aP,aY,bS,bV,eZ]
 rw[Qeq l]
 refine aL (λc=>by cases c) (λ_=>cc ?_)
 apply aK (bU (cN (yk ?_)))
 apply aA rfl ?_
 apply fN (enc:=lC) (nm:=(·.1)) kf (by omega) ?_
 refine⟨_,_,rfl,gE _,?_⟩
 unfold lF at q
 show if Ig (.str x) ((w.ak.map (·.1)).map V.str)=true then _ else _
 rw[yI]
 by_cases c:x∈w.ak.map (·.1)
 ·rw[Qhq c] at q
  rw[Qeq c,Qhq rfl]
  symm
  apply aA rfl ?_
  apply aA rfl ?_
  apply qu (enc:=lC) (nm:=(·.1)) kf (by omega) c λb=> ?_
  refine fW (xs:=s.ak.map D.int) (by rw[lQm];omega) (by rw[lQm];omega) (a9 λ_ _=>rfl) rfl ?_
  symm
  apply aA rfl ?_
  apply aA rfl ?_
  apply aA rfl ?_
  refine⟨by show 4<=_;decide,?_⟩
  rw[←map_set]
  exact dm (d:=({s with ak:=eB (w.ak.map (·.1)) s.ak x v}:bO).d) (bE _) (bO.low _) q
 ·rw[Quq c] at q
  rw[Qdq c,Quq (by decide)]
  refine cc ?_
  have a:x∈ts.map (·.1):=(mQa.mp i).resolve_right c
  symm
  apply aA rfl ?_
  refine aA (d:=sD (vs,fs)) (bq (by rw[gQm,hs];rfl)) ?_
  apply iq rfl (az (aX (az (aX (bJ ?_)))))
  apply aA rfl ?_
  refine aA (d:=eK (ts,pr)) (bq (by rw[gQm,g];rfl)) ?_
  symm
  apply aA rfl ?_
  apply qu (enc:=lC) (nm:=(·.1)) kf (by omega) a λb=> ?_
  refine fW (xs:=vs.map D.int) (by rw[lQm];omega) (by rw[lQm];omega) (a9 λ_ _=>rfl) rfl ?_
  symm
  rw[←map_set]
  rw[show D.tup ((vs.set ((pO (.str x) ((ts.map (·.1)).map V.str)).getD 0) v).map D.int)=eN (eB (ts.map (·.1)) vs x v) from rfl]
  generalize eB (ts.map (·.1)) vs x v=nv at q⊢
  have m:h<s.af.length:=(gQs.mp hs).1
  have k:s.af.length<=900:=by omega
  have e:Op (settle S ({s with af:=s.af.set h (nv,fs)}:bO).d S) λp=>Q p.1 p.2:=dm (bE _) (bO.low _) q
  exact ix m k e
end
section
variable{S:aD}{Q:Res->aD->Prop}
def gQ(ns:List Str)(x:Str):Nat:=(pO (.str x) (ns.map V.str)).getD 0
def rY{ns:List Str}{x:Str}(h:x∈ns):gQ ns x<ns.length/\ns[gQ ns x]?=some x:=by
 obtain⟨j,b,a⟩:=ug h
 unfold gQ
 rw[b]
 exact⟨(gQs.mp a).1,a⟩
def ya{α:Type}{enc:α->D}{nm:α->Str}{xs:List α}{x:Str}(he:∀a,∃r,enc a=.tup (.str (nm a)::r))(c:xs.length<=1000)(b:x∈xs.map nm)(q:Q (.d (.int (gQ (xs.map nm) x:Nat))) S):Fn dr [.tup (xs.map enc),.str x] S Q:=qu he c b λ_=>q
def DU(p:Int×List Int)(h:Int):Int×List Int:=if 0<p.1 then(p.1-1,p.2) else(p.1,p.2++ [h])
def Bi(p:Int×List Int):Int×List Int:=match p.2 with
 |_::l=>(p.1,l)
 | []=>(if 9<p.1+1 then 9 else p.1+1,[])
end
section
variable{S:aD}{Q:Res->aD->Prop}
def E_{b sd hd a:D}{s:bO}(q:Q (.d s.d) S):Fn uu [b,s.d,hd,a] S Q:=by
 refine cq ?_
 unfold yX
 symm
 exact dm (bE _) (bO.low _) q
def Hs{i:D}{s:bO}{h n:Nat}{vs:List Int}{fs:List cC}{f:cC}(a:s.af[h]?=some (vs,fs))(b:fs.getLast? =some f)(g:fs.length<=900)(c:s.af.length<=900)(q:Q (.d ({s with af:=s.af.set h (vs,fs.dropLast++ [{f with row:=n}])}:bO).d) S):Fn zo [i,s.d,.int h,(Rw.go n).d] S Q:=by
 refine cq ?_
 unfold CM
 symm
 apply aA (d:=.int n) rfl ?_
 have e:Op (settle S ({s with af:=s.af.set h (vs,fs.dropLast++ [{f with row:=n}])}:bO).d S) λp=>Q p.1 p.2:=dm (bE _) (bO.low _) q
 exact rJ a b g c e
end
section
variable{S:aD}{Q:Res->aD->Prop}
def Fv(w:dH)(s:bO)(h:Nat)(t:Tr)(v:Int):Prop:=∀(S:aD) (Q:Res->aD->Prop),Q (.d (.int v)) S->Fn dM [w.d,s.d,.int h,t.d] S Q
def Puts(w:dH)(s:bO)(h:Nat)(x:Str)(v:Int)(a:bO):Prop:=∀(S:aD) (Q:Res->aD->Prop),Q (.d a.d) S->Fn fJ [w.d,s.d,.int h,.str x,.int v] S Q
def E9{w:dH}{s a:bO}{h:Nat}{x:Str}{t:Tr}{v:Int}(c:Fv w s h t v)(b:Puts w s h x v a)(q:Q (.d a.d) S):Fn uc [w.d,s.d,.int h,(Rw.put x t).d] S Q:=by
 refine cq ?_
 unfold zG
 symm
 apply aA (d:=.str x) rfl ?_
 apply aA (d:=t.d) rfl ?_
 apply c _ _ ?_
 refine b _ _ ?_
 exact dm (bE _) (bO.low _) q
def zM{w:dH}{s:bO}{h n:Nat}{t:Tr}{v:Int}{vs:List Int}{fs:List cC}{f:cC}(i:Fv w s h t v)(b:s.af[h]?=some (vs,fs))(g:fs.getLast? =some f)(a:fs.length<=900)(j:s.af.length<=900)
  (q:Q (.d (if v=0 then({s with af:=s.af.set h (vs,fs.dropLast++ [{f with row:=n}])}:bO) else s).d) S):Fn kC [w.d,s.d,.int h,(Rw.unl t n).d] S Q:=by
 refine cq ?_
 unfold pe
 symm
 apply aA (d:=t.d) rfl ?_
 apply i _ _ ?_
 refine dG ?_
 dsimp only[aZ,aP,aY,bS,bV,eZ]
 by_cases c:v=0
 ·rw[Qhq c] at q
  rw[Qeq c,Qhq rfl]
  symm
  apply aA (d:=.int n) rfl ?_
  have e:Op (settle S ({s with af:=s.af.set h (vs,fs.dropLast++ [{f with row:=n}])}:bO).d S) λp=>Q p.1 p.2:=dm (bE _) (bO.low _) q
  exact rJ b g a j e
 ·rw[Quq c] at q
  rw[Qdq c,Quq (by decide)]
  apply cc ?_
  exact dm (bE _) (bO.low _) q
end
section
variable{S:aD}{Q:Res->aD->Prop}
def DA{w:dH}{s:bO}{h:Nat}{t:Tr}{v:Int}{vs:List Int}{fs:List cC}{f:cC}(k:Fv w s h t v)(c:s.af[h]?=some (vs,fs))(e:fs.getLast? =some f)(g:fs.length<=900)(l:s.af.length<=900)
  (q:Q (.d ({s with af:=s.af.set h (vs,fs.dropLast++ [{f with told:=v}])}:bO).d) S):Fn qp [w.d,s.d,.int h,(Rw.tell t).d] S Q:=by
 refine cq ?_
 unfold vQ
 symm
 apply aA (d:=t.d) rfl ?_
 apply k _ _ ?_
 apply qW ?_
 refine cz c e ?_
 apply fg (fj ?_)
 apply⟨_,rfl,_,rfl,?_⟩
 refine⟨by show 1<=_;decide,?_⟩
 refine gu (by show 5<=_;decide) ?_
 symm
 have i:0<fs.length:=by
  cases fs with
  |nil=>cases e
  |cons a b=>simp
 have j:Op (settle S ({s with af:=s.af.set h (vs,fs.dropLast++ [{f with told:=v}])}:bO).d S) λp=>Q p.1 p.2:=dm (bE _) (bO.low _) q
 exact i4 (f:={f with told:=v}) c i g l j
end
section
variable{S:aD}{Q:Res->aD->Prop}
def LO:∀a:Rm,∃r,a.d=.tup (.str a.name::r):=λa=>⟨_,rfl⟩
def IH:∀a:Str×List Rw,∃r,gU a=.tup (.str a.1::r):=λa=>⟨_,rfl⟩
def Hi{w:dH}{s:bO}{h:Nat}{g:Option Str}{a c:Str}{t:Tr}{v:Int}{vs:List Int}{fs:List cC}{r:Rm}{rs:dQ}(o:Fv w s h t v)(hs:s.af[h]?=some (vs,fs))(f:a∈w.aj.map (·.name))(k:w.aj[gQ (w.aj.map (·.name)) a]?=some r)(b:s.aj[gQ (w.aj.map (·.name)) a]?=some rs)(j:c∈r.ae.map (·.1))
  (A:w.aj.length<=100) (y:r.ae.length<=100) (B:s.aj.length<=100) (l:rs.row.length<=900) (x:fs.length<=900) (z:s.af.length<=100)
  (q:Q (.d ({s with af:=s.af.set h (vs,fs++ [⟨(gQ (w.aj.map (·.name)) a:Nat),(gQ (r.ae.map (·.1)) c:Nat),0,v,0⟩]),aj:=s.aj.set (gQ (w.aj.map (·.name)) a) (f_ rs h)}:bO).d) S):Fn zf [w.d,s.d,.int h,(Rw.do_ g a c t).d] S Q:=by
 refine cq ?_
 unfold C6
 symm
 apply aA rfl ?_
 apply aA (d:=.str a) rfl ?_
 refine ya (enc:=Rm.d) (nm:=(·.name)) LO (by omega) f ?_
 generalize gQ (w.aj.map (·.name)) a=i at k b q⊢
 symm
 apply aA rfl ?_
 refine aA (d:=r.d) (bq (by rw[gQm,k];rfl)) ?_
 symm
 apply aA rfl ?_
 apply aA (d:=.str c) rfl ?_
 refine ya (enc:=gU) (nm:=(·.1)) IH (by omega) j ?_
 generalize gQ (r.ae.map (·.1)) c=dd at q⊢
 symm
 apply aA (d:=t.d) rfl ?_
 apply o _ _ ?_
 refine⟨by show 5<=_;decide,?_⟩
 symm
 apply aA rfl ?_
 refine aA (d:=sD (vs,fs)) (bq (by rw[gQm,hs];rfl)) ?_
 apply iq rfl (az (aX (az (aX (bJ ?_)))))
 refine⟨by show 1<=_;decide,?_⟩
 refine gu (by simp only[lQm,Qnq,QGq];exact nQl (bF (by omega))) ?_
 symm
 have e:fs.map cC.d++ [D.tup [.int i,.int dd,.int 0,.int v,.int 0]]=(fs++ [(⟨i,dd,0,v,0⟩:cC)]).map cC.d:=by rw[Qzq];rfl
 rw[e]
 generalize n:fs++ [(⟨i,dd,0,v,0⟩:cC)]=nf at q⊢
 have u:h<s.af.length:=(gQs.mp hs).1
 apply ix (vs:=vs) (fs:=nf) u (by omega) ?_
 have m:Op (settle S ({s with af:=s.af.set h (vs,nf),aj:=s.aj.set i (f_ rs h)}:bO).d S) λp=>Q p.1 p.2:=dm (bE _) (bO.low _) q
 exact uW (s:={s with af:=s.af.set h (vs,nf)}) b (by show s.aj.length<=900;omega) l m
end
section
variable{S:aD}{Q:Res->aD->Prop}
def HB(free:Bool)(rs:dQ)(b:Nat)(h:Int):dQ:=match rs.aa[b]? with
 |some (p::l)=>if free then{rs with aa:=rs.aa.set b l} else{rs with aa:=rs.aa.set b l,within:=p.2,ag:=rs.ag++ [h]}
 |_=>rs
end
end W28
namespace DL
open PySem PySem.Spec L2
def um{α:Type}{v:cy}{S:aD}{js:List (Option Nat)}{i:yd}{g:ni}{t:jE}{o:bD}{Q:List D->aD->Prop}(P:cy->Prop)(enc G:α->D)(c:α->Bool)(L:P (pk js v)) (h:E i v S λp f=>∃xs:List α,p.1=xs.map enc/\p.2 f/\xs.length<=1000∧
   (∀x∈xs,∀a,P a->Tg g (enc x) a f λb S2=>S2=f/\P b/\E t b f λk w=>w=f/\k=c x/\(c x=true->E o b f λy A=>y=G x/\A=f))/\Q ((xs.filter c).map G) f):E (bA js i g t o) v S Q:=by
 refine jt (h.mono λp f K=> ?_)
 obtain⟨xs,z,C,W,J,q⟩:=K
 refine⟨λn a s j=>s=f/\j=((xs.take n).filter c).map G/\P a,⟨rfl,rfl,L⟩,λn a s j h=>by rw[h.1];exact C,λn d a s j r h=> ?_,λa s j h=> ?_⟩
 ·obtain⟨rfl,rfl,h3⟩:=h
  have r:p.1[n]?=some d:=r
  rw[z,gQm] at r
  obtain⟨x,l,rfl⟩:=oQm.mp r
  obtain⟨b,S2,M,rfl,h4,h5⟩:=J x (mQg l) a h3
  refine⟨b,S2,M,?_⟩
  refine h5.mono λk w u=> ?_
  obtain⟨I,F,R⟩:=u
  subst I F
  have U:=(gQs.mp l).1
  have B:((xs.take (n+1)).filter c).map G=((xs.take n).filter c).map G++if c x=true then [G x] else []:=by
   rw[QYq,l]
   cases m:c x <;>simp[m]
  by_cases m:c x=true
  ·rw[Qhq m]
   refine(R m).mono λy A u=> ?_
   obtain⟨N,H⟩:=u
   subst N H
   refine⟨?_,rfl,?_,h4⟩
   ·rw[lQm]
    have:=List.length_filter_le c (xs.take n)
    rw[Qxq] at this
    exact bF (by omega)
   ·rw[B,Qhq m]
  ·rw[Quq m]
   refine⟨rfl,?_,h4⟩
   rw[B,Quq m,List.append_nil]
 ·obtain⟨rfl,rfl,_⟩:=h
  have e:p.1.length=xs.length:=by rw[z,lQm]
  show Q (((xs.take p.1.length).filter c).map G) _
  rw[e,QEq]
  exact q
end DL
namespace W28
open PySem PySem.Spec L2 DL
section
variable{S:aD}{Q:Res->aD->Prop}
def NO(l:List (Int×Int))(t h:Int):List (Int×Int):=l.take (l.filter λp=>decide (p.1<=t)).length++ [(t,h)]++l.drop (l.filter λp=>decide (p.1<=t)).length
end
end W28
namespace DL
open PySem PySem.Spec L2
section
variable{Γ:cy}{S:aD}
def OZ{a:List (Str×Str)}{g:bD}{Q:D->aD->Prop}(h:E g Γ S λy b=>∃x nm,y=.str x/\a.lookup x=some nm/\Q (.fn nm) b):E (Ox a g) Γ S Q:=by
 obtain⟨y,b,c,x,nm,rfl,e2,q⟩:=h
 exact⟨_,b,by unfold Ox;rw[c];simp only[Qbq];rw[e2];rfl,q⟩
def Kt{i:Nat}{T:List (Str×cQ)}{g:h_}{x:Str}{F:cQ}{Q:D->aD->Prop}(a:Γ[i]?=some (some (.fn x)))(b:T.lookup x=some F)(h:E (aw F g) Γ S Q):E (vL i T g) Γ S Q:=by
 obtain⟨y,c,d,q⟩:=h
 exact⟨_,c,by unfold vL;rw[a];show(T.lookup x).bind _=_;rw[b];exact d,q⟩
def L5{f:bD}{Q:D->aD->Prop}(h:E f Γ S λd a=>∃k,d=.bl k/\Q (.bl (!k)) a):E (Jr f) Γ S Q:=by
 obtain⟨d,a,b,k,rfl,q⟩:=h
 exact⟨_,a,by unfold Jr;rw[b];rfl,q⟩
def ES{a:Bool}{x:D}{Q:D->Prop}(q:Q (.bl (if a then !isNone x else isNone x))):Op (BF a S x .non) Q:=⟨_,rfl,q⟩
end
def xG{α:Type}{xs:List α}{a b:α}:kQ (xs++ [a,b]) (-2)=some a:=by
 unfold kQ CD
 rw[Quq (by omega),Qhq (by simp;omega)]
 simp only[Qbq]
 rw[show((-2:Int)+((xs++ [a,b]).length:Int)).toNat=xs.length by simp;omega]
 simp
end DL
namespace W28
open PySem PySem.Spec L2 DL
section
variable{S:aD}{Q:Res->aD->Prop}
def Qh:Rw->cQ
 |.put _ _=>uc
 |.unl _ _=>kC
 |.go _=>zo
 |.do_ _ _ _ _=>zf
 |.wait _ _=>vy
 |.call _=>uN
 |.all _=>yR
 |.tell _=>qp
 |.take _=>uE
 |.give _=>uH
 |.pass _ _=>vV
 |.say _=>uu
def Rw.kind:Rw->Str
 |.put _ _=>"put"
 |.unl _ _=>"unless"
 |.go _=>"go"
 |.do_ _ _ _ _=>"do"
 |.wait _ _=>"wait"
 |.call _=>"call"
 |.all _=>"all"
 |.tell _=>"tell"
 |.take _=>"take"
 |.give _=>"give"
 |.pass _ _=>"pass"
 |.say _=>"say"
def Rw.d_kind(r:Rw):∃l,r.d=.tup (.str r.kind::l):=by cases r <;>exact⟨_,rfl⟩
def Kh(r:Rw):∃nm,nq.lookup r.kind=some nm/\vW.lookup nm=some (Qh r):=by
 cases r
 ·exact⟨"by_put",rfl,rfl⟩
 ·exact⟨"by_unless",rfl,rfl⟩
 ·exact⟨"by_go",rfl,rfl⟩
 ·exact⟨"by_do",rfl,rfl⟩
 ·exact⟨"by_wait",rfl,rfl⟩
 ·exact⟨"by_call",rfl,rfl⟩
 ·exact⟨"by_all",rfl,rfl⟩
 ·exact⟨"by_tell",rfl,rfl⟩
 ·exact⟨"by_take",rfl,rfl⟩
 ·exact⟨"by_give",rfl,rfl⟩
 ·exact⟨"by_pass",rfl,rfl⟩
 ·exact⟨"by_say",rfl,rfl⟩
def Mm(w:dH)(s:bO)(h:Nat)(r:Rw)(a:bO):Prop:=∀(S:aD) (Q:Res->aD->Prop),Q (.d a.d) S->Fn (Qh r) [w.d,s.d,.int h,r.d] S Q
def B2{w:dH}{s b:bO}{h:Nat}{r:Rw}(hd:Mm w s h r b)(q:Q (.d b.d) S):Fn jV [w.d,s.d,.int h,r.d] S Q:=by
 obtain⟨a,e,f⟩:=Kh r
 obtain⟨l,c⟩:=r.d_kind
 refine cq ?_
 unfold x_
 apply aK (di (OZ ?_))
 rw[c]
 refine aA (d:=.str r.kind) Ct ?_
 rw[←c]
 refine⟨_,a,rfl,e,?_⟩
 apply eM (Kt (x:=a) rfl f ?_)
 refine hd _ _ ?_
 exact dm (bE _) (bO.low _) q
def tH{w:dH}{s n:bO}{h i:Nat}{vs:List Int}{e:List cC}{b f:cC}{rs:dQ}{pr:List Rw}{g:Option Str}{r p:Str}{t:Tr}(hs:s.af[h]?=some (vs,e++ [b,f]))(z:f.room=i)(m:s.aj[i]?=some rs)(y:s.aj.length<=900)(v:s.af.length<=900)
  (u:progOf w h b=some pr) (B:1<=b.row) (k:pr[(b.row-1).toNat]?=some (.do_ g r p t))
  (j:∀a:bO,a={s with aj:=s.aj.set i (eX rs),af:=s.af.set h (vs,e++ [b])}->match g with|none=>n=a|some x=>Puts w a h x f.told n)
  (q:Q (.d n.d) S):Fn jP [w.d,s.d,.int h] S Q:=by
 have A:h<s.af.length:=(gQs.mp hs).1
 refine cq ?_
 unfold sx
 symm
 apply aA rfl ?_
 refine aA (d:=sD (vs,e++ [b,f])) (bq (by rw[gQm,hs];rfl)) ?_
 refine iq rfl (az (aX (az (aX (bJ ?_)))))
 have o:(e++ [b,f]).map cC.d=e.map cC.d++ [b.d,f.d]:=by simp
 dsimp only[aZ,aP,aY,bS,bV,eZ]
 rw[o]
 symm
 apply jH ?_
 refine⟨1,rfl,?_⟩
 refine aA (d:=f.d) (uI (by simp)) ?_
 refine iq rfl (az (aX (az (aX (az (aX (az (aX (az (aX (bJ ?_)))))))))))
 rw[z]
 symm
 apply Ir m y ?_
 apply qW ?_
 apply fg (fj (jH ?_))
 refine⟨1,rfl,_,rfl,_,rfl,?_⟩
 rw[Bj (by simp)]
 have l:D.tup ((e.map cC.d++ [b.d,f.d]).dropLast)=.tup ((e++ [b]).map cC.d):=by
  rw[show e.map cC.d++ [b.d,f.d]=(e.map cC.d++ [b.d])++ [f.d] by simp,List.dropLast_concat]
  simp
 rw[l]
 symm
 refine ix (s:={s with aj:=s.aj.set i (eX rs)}) A v ?_
 have j:=j _ rfl
 dsimp only at j⊢
 generalize ({s with aj:=s.aj.set i (eX rs),af:=s.af.set h (vs,e++ [b])}:bO)=a at j⊢
 symm
 apply jH ?_
 refine⟨2,rfl,?_⟩
 apply aA (d:=b.d) xG ?_
 apply gL u ?_
 apply jH ?_
 refine⟨2,rfl,?_⟩
 apply aA (d:=b.d) xG ?_
 apply aA (d:=.int b.row) rfl ?_
 refine aA (d:=(Rw.do_ g r p t).d) (iC (by omega) (by rw[gQm,k];rfl)) ?_
 symm
 apply aA (d:=Gz g) rfl ?_
 refine ES ?_
 cases g with
 | none=>
   dsimp only at j
   subst j
   apply aL (λ_=> ?_) (λc=>by cases c)
   exact dm (bE _) (bO.low _) q
 | some x=>
   apply aL (λc=>by cases c) (λ_=>cc ?_)
   apply aA (d:=.str x) rfl ?_
   refine j _ _ ?_
   exact dm (bE _) (bO.low _) q
end
section
variable{S:aD}{Q:Res->aD->Prop}
def NA(h:Nat):Option Int->D
 |none=>.non
 |some v=>.tup [.int h,.int v]
def JM(h:Nat)(e:Option Int):cm 0 (NA h e)=true:=by cases e <;>rfl
def J2(s:bO)(h:Nat)(e:Option Int):D:=.tup [s.d,NA h e]
def ui(s:bO)(h:Nat)(e:Option Int):cm 0 (J2 s h e)=true:=by
 simp only[J2,cm,b_,JM,bO.low,Bool.and_true]
def AM(w:dH)(s:bO)(h:Nat)(a:bO)(e:Option Int):Prop:=∀(S:aD) (Q:Res->aD->Prop),Q (.d (J2 a h e)) S->Fn pY [w.d,s.d,.int h] S Q
def FM{w:dH}{s:bO}{h i:Nat}{vs:List Int}{fs:List cC}{f:cC}{rs:dQ}(hs:s.af[h]?=some (vs,fs))(g:fs.getLast? =some f)(j:f.room=i)(a:s.aj[i]?=some rs)(b:rs.within≠h)(e:s.aj.length<=900)(c:rs.row.length<=900):
  AM w s h {s with aj:=s.aj.set i (f_ rs h)} none:=by
 intro S Q q
 refine cq ?_
 unfold lO
 symm
 apply cz hs g ?_
 apply aA (d:=.int f.room) rfl ?_
 refine mQ ?_
 dsimp only[aZ,aP,aY,bS,bV,eZ]
 rw[Qdq (show¬f.room= -1 by omega),j]
 show if (true=true) then _ else _
 rw[Qhq rfl]
 symm
 apply aA rfl ?_
 refine aA (d:=rs.d) (bq (by rw[gQm,a];rfl)) ?_
 symm
 apply aA (d:=.int rs.within) rfl ?_
 refine mQ ?_
 dsimp only[aZ,aP,aY,bS,bV,eZ]
 rw[Qdq b]
 show if (true=true) then _ else _
 rw[Qhq rfl]
 symm
 apply uW a e c ?_
 refine⟨by show 2<=_;decide,?_⟩
 exact dm (d:=J2 _ h none) (λk z=>(nomatch z)) (ui _ _ _) q
def Here(s:bO)(h:Nat)(f:cC):Prop:=f.room= -1\/∃(i:Nat) (a:dQ),f.room=i/\s.aj[i]?=some a/\a.within=h
def xY{w:dH}{s:bO}{h:Nat}{f:cC}{a b c d:Option D}{Q:Bool->aD->Prop}(l:Here s h f)(q:Q false S):E (ia (aH (aR (dk true) (ar 4) (cF (.int (-1))))) (aH (aR (dk true) (aR fR (aR fR (aR fR (ar 1) (cF (.int 0))) (ar 4)) (cF (.int 1))) (ar 2)))) [some w.d,some s.d,some (.int h),some f.d,some (.int f.room),a,b,c] S Q:=by
 rcases l with g|⟨i,j,g,e,k⟩
 ·symm
  refine mQ ?_
  dsimp only[aZ,aP,aY,bS,bV,eZ]
  rw[Qeq g]
  show if (false=true) then _ else _
  rw[Quq (by decide)]
  exact q
 ·symm
  refine mQ ?_
  dsimp only[aZ,aP,aY,bS,bV,eZ]
  rw[Qdq (show¬f.room= -1 by omega),g]
  show if (true=true) then _ else _
  rw[Qhq rfl]
  symm
  apply aA rfl ?_
  refine aA (d:=j.d) (bq (by rw[gQm,e];rfl)) ?_
  symm
  apply aA (d:=.int j.within) rfl ?_
  refine mQ ?_
  dsimp only[aZ,aP,aY,bS,bV,eZ]
  rw[Qeq k]
  exact q
def Az{w:dH}{s b:bO}{h:Nat}{vs:List Int}{fs:List cC}{f:cC}{pr:List Rw}(hs:s.af[h]?=some (vs,fs))(g:fs.getLast? =some f)(i:Here s h f)(e:progOf w h f=some pr)(a:f.row=pr.length)
  (he:∀(S:aD) (Q:Res->aD->Prop),Q (.d b.d) S->Fn jP [w.d,s.d,.int h] S Q):AM w s h b none:=by
 intro S Q q
 refine cq ?_
 unfold lO
 symm
 apply cz hs g ?_
 refine aA (d:=.int f.room) rfl ?_
 refine aK (bU (xY (d:=none) i ?_))
 apply aL (λc=>by cases c) (λ_=>cc ?_)
 apply gL e ?_
 apply aA (d:=.int f.row) rfl ?_
 refine dG ?_
 dsimp only[aZ,aP,aY,bS,bV,eZ]
 rw[lQm,Qeq a,Qhq rfl]
 symm
 apply he _ _ ?_
 refine⟨by show 2<=_;decide,?_⟩
 exact dm (d:=J2 _ h none) (λk z=>(nomatch z)) (ui _ _ _) q
def LS(w:dH)(s:bO)(h:Nat)(r:Rw)(e:Option Int):Prop:=match r with
 |.say t=>∃v,e=some v/\Fv w s h t v
 |_=>e=none
def Aw{w:dH}{s j:bO}{h:Nat}{vs:List Int}{fs:List cC}{f:cC}{pr:List Rw}{r:Rw}{e:Option Int}(hs:s.af[h]?=some (vs,fs))(m:fs.getLast? =some f)(B:Here s h f)(x:progOf w h f=some pr)(y:0<=f.row)(b:pr[f.row.toNat]?=some r)(A:fs.length<=900)(u:s.af.length<=900)
  (a:LS w s h r e) (hd:Mm w {s with af:=s.af.set h (vs,fs.dropLast++ [{f with row:=f.row+1}])} h r j):AM w s h j e:=by
 intro S Q q
 have n:=(gQs.mp b).1
 refine cq ?_
 unfold lO
 symm
 apply cz hs m ?_
 refine aA (d:=.int f.room) rfl ?_
 refine aK (bU (xY (d:=none) B ?_))
 apply aL (λc=>by cases c) (λ_=>cc ?_)
 apply gL x ?_
 apply aA (d:=.int f.row) rfl ?_
 refine dG ?_
 dsimp only[aZ,aP,aY,bS,bV,eZ]
 rw[lQm,Qdq (show¬f.row=(pr.length:Int) by omega),Quq (by decide)]
 apply cc ?_
 refine aA (d:=.int f.row) rfl ?_
 refine aA (d:=r.d) (iC y (by rw[gQm,b];rfl)) ?_
 symm
 obtain⟨l,C⟩:=r.d_kind
 have g:T (cp (a_ (aq (aw jV (aq (ar 0) (aq (aw ke (aq (ar 1) (aq (ar 2) (aq (aR cx (aR fR (ar 3) (cF (.int 2))) (cF (.int 1))) av)))) (aq (ar 2) (aq (ar 6) av))))) (aq (ar 7) av))))
   [some w.d,some s.d,some (.int h),some f.d,some (.int f.room),some (.tup (pr.map Rw.d)),some r.d,some (NA h e)] S (λo=>match o with
   |.nx _ i=>Op (settle S .non i) λp=>Q p.1 p.2|.rt d i=>Op (settle S d i) λp=>Q p.1 p.2|.rl l i=>Op (eO S l i) λp=>Q p.1 p.2|_=>False):=by
  symm
  apply aA (d:=.int f.row) rfl ?_
  apply rJ hs m A u ?_
  apply B2 hd ?_
  refine⟨by show 2<=_;decide,?_⟩
  exact dm (d:=J2 _ h e) (λk z=>(nomatch z)) (ui _ _ _) q
 cases r with
 | say t=>
   obtain⟨v,rfl,hv⟩:=a
   apply aA (d:=.str "say") rfl ?_
   refine jc ?_
   dsimp only[aZ,aP,aY,bS,bV,eZ]
   rw[Qeq rfl,Qhq rfl]
   symm
   apply aA (d:=t.d) rfl ?_
   apply hv _ _ ?_
   refine⟨by show 2<=_;decide,?_⟩
   exact g
 | _=>
   have a:e=none:=a
   subst a
   apply aA rfl ?_
   refine jc ?_
   dsimp only[aZ,aP,aY,bS,bV,eZ]
   refine aL (λc=>absurd (QZq c) (by decide +kernel)) (λ_=>cc ?_)
   exact g
end
end W28
namespace DL
open PySem PySem.Spec L2
section
variable{Γ:cy}{S:aD}
def Iq{f:bD}{g:fh}{Q:D->aD->Prop}(h:E f Γ S λx b=>∃k a,x=.ref k/\b[k]?=some (.lst a)/\E g Γ b λp S2=>∃ds,S2[k]?=some (.lst ds)/\(p.2.isL=false/\ds.length+p.1.length<=sizeLine)/\Q .non (S2.set k (.lst (ds++p.1)))):E (xT f g) Γ S Q:=by
 obtain⟨x,b,c,k,a,rfl,h1,p,S2,e2,ds,h2,h3,q⟩:=h
 exact⟨_,_,by unfold xT;rw[c];simp only[Qbq,e2,h1,h2];rw[Qhq h3],q⟩
end
def Dq{S a:aD}{k:Nat}{ds:List D}{Q:Res×aD->Prop}(b:p_ S a)(e:S.length<=k)(c:a[k]?=some (.lst ds))(d:b_ S.length ds=true)(q:Q (.l ds,a.take S.length)):Op (settle S (.ref k) a) Q:=by
 refine⟨_,?_,q⟩
 unfold settle
 rw[Qhq b]
 show(if k<S.length then _ else _)=_
 rw[Quq (by omega),c]
 show(if b_ S.length ds=true then _ else _)=_
 rw[Qhq d]
def yO{n:Nat}(h:n<=100000):n<=sizeLine:=QAq h (by decide)
theorem fH:∀ss:List Int,qA (ss.map D.int)=some (ss.map V.int)
 | []=>rfl
 |s::ss=>by simp only[QDq,qA,xb,Qbq];rw[fH ss];rfl
def m8{x:Int}{ss:List Int}:Ig (.int x) (ss.map V.int)=decide (x∈ss):=by
 induction ss with
 |nil=>rfl
 | cons a ss d=>
   show(ue (.int a) (.int x)||Ig (.int x) (ss.map V.int))=_
   rw[d]
   simp only[ue,Qsq]
   by_cases c:a=x
   · subst c;simp
   · have b:¬x=a:=λz=>c z.symm
     simp[c,b]
end DL
namespace W28
open PySem PySem.Spec L2 DL
section
variable{S:aD}{Q:Res->aD->Prop}
def AW{S a:aD}(x:rK S a):a.take S.length=S:=by
 apply List.ext_getElem?
 intro j
 by_cases b:j<S.length
 ·rw[List.getElem?_take_of_lt b]
  exact x.eq j b
 ·rw[List.getElem?_eq_none (by rw[Qxq];omega),List.getElem?_eq_none (by omega)]
def Ln{S a:aD}{ds:List D}{Q:Res->aD->Prop}(x:rK S a)(c:b_ 0 ds=true)(q:Q (.l ds) S):Op (eO S ds a) λp=>Q p.1 p.2:=
 pD ⟨x.len,λk o b e=>.inl (by rw[←x.eq k b];exact e)⟩ (AW x) (jU c) q
def Ii{S a:aD}{k:Nat}{ds:List D}{Q:Res->aD->Prop}(x:rK S a)(b:S.length<=k)(c:a[k]?=some (.lst ds))(d:b_ 0 ds=true)(q:Q (.l ds) S):Op (settle S (.ref k) a) λp=>Q p.1 p.2:=
 Dq ⟨x.len,λk o b e=>.inl (by rw[←x.eq k b];exact e)⟩ b c (jU d) (by rw[AW x];exact q)
def AZ{l:List (Int×Int)}(f:l.length<=1000)(q:Q (.l ((l.map (·.2)).map D.int)) S):Fn nk [jS l] S Q:=by
 refine cq ?_
 unfold qK
 symm
 apply i6 (α:=Int×Int) (λc=>∃a b,c= [a,b]) pairD (λp=>.int p.2) ⟨none,none,rfl⟩ ?_
 refine cu (ds:=l.map pairD) ?_
 refine⟨l,rfl,trivial,f,λp g c d=> ?_,?_⟩
 ·obtain⟨a,b,rfl⟩:=d
  refine iq rfl (az (aX (az (aX (bJ ?_)))))
  apply⟨rfl,⟨_,_,rfl⟩,?_⟩
  exact⟨rfl,rfl⟩
 ·have e:l.map (λp=>D.int p.2)=(l.map (·.2)).map D.int:=by rw[QPq];rfl
  rw[e]
  exact Hv (a9 λ_ _=>rfl) q
def hV(r:dQ):List Int:=r.row++r.ag++r.aa.flatMap λl=>l.map (·.2)
def held(s:bO):List Int:=s.ai.flatMap (·.2)++s.aj.flatMap hV
theorem qv{α d:Type}{f:α->List d}{n:Nat}:∀{l:List α},(∀a∈l,(f a).length<=n)->(l.flatMap f).length<=n*l.length
 | [],_=>by simp
 | a::l,h=>by
   have e:=h a (QBq ..)
   have g:=qv (f:=f) (l:=l) λb c=>h b (Qpq _ c)
   rw[QSq,lQa,Qnq,Nat.mul_add]
   omega
def rV{α b:Type}{f:α->List b}{l:List α}{n:Nat}{a:α}(h:l[n]?=some a):(l.take (n+1)).flatMap f=(l.take n).flatMap f++f a:=by
 rw[QYq,h]
 simp
def qX{s:bO}{n:Nat}(L:n<=100)(b1:s.ai.length<=100)(b2:s.aj.length<=20)(P:∀p∈s.ai,p.2.length<=n)(r1:∀r∈s.aj,r.row.length<=n/\r.ag.length<=n/\r.aa.length<=10/\∀l∈r.aa,l.length<=n)
  (q:Q (.l ((held s).map D.int)) S):Fn eU [s.d] S Q:=by
 have Z:∀o:List D,rK S (S++ [.lst o]):=λo=>rK.refl.app
 have H:∀r∈s.aj,∀j:Nat,((r.aa.take j).flatMap λl=>l.map (·.2)).length<=1000:=λr H j=>by
  obtain⟨_,_,R,N⟩:=r1 r H
  have C:=qv (f:=λl:List (Int×Int)=>l.map (·.2)) (n:=n) (l:=r.aa.take j) λl v=>by rw[lQm];exact N l (List.mem_of_mem_take v)
  have G:(r.aa.take j).length<=10:=by rw[Qxq];omega
  have W:n*(r.aa.take j).length<=100*10:=Nat.mul_le_mul L G
  omega
 have I:∀r∈s.aj,(hV r).length<=1200:=λr h=>by
  have J:=H r h r.aa.length
  obtain⟨Y,R,_⟩:=r1 r h
  rw[QEq] at J
  simp only[hV,lQa]
  omega
 have x:∀j:Nat,((s.ai.take j).flatMap (·.2)).length<=10000:=λj=>by
  have C:=qv (f:=λp:Int×List Int=>p.2) (n:=n) (l:=s.ai.take j) λl v=>P l (List.mem_of_mem_take v)
  have G:(s.ai.take j).length<=100:=by rw[Qxq];omega
  have W:n*(s.ai.take j).length<=100*100:=Nat.mul_le_mul L G
  omega
 have K:∀j:Nat,((s.aj.take j).flatMap hV).length<=24000:=λj=>by
  have C:=qv (f:=hV) (n:=1200) (l:=s.aj.take j) λl v=>I l (List.mem_of_mem_take v)
  have G:(s.aj.take j).length<=20:=by rw[Qxq];omega
  omega
 refine cq ?_
 unfold iQ
 symm
 refine⟨by decide,?_⟩
 apply aK (gV (kR ?_))
 refine aA rfl ?_
 refine cu (ds:=s.ai.map G6) ?_
 refine⟨λj k u=>(∃a b c d e f g,k= [some s.d,some (.ref S.length),a,b,c,d,e,f,g])/\u=S++ [.lst (((s.ai.take j).flatMap (·.2)).map D.int)],⟨⟨_,_,_,_,_,_,_,rfl⟩,rfl⟩,λ_ _ _ _=>trivial,?_,?_⟩
 ·rintro j d k u t ⟨⟨a,b,c,F,e,f,g,rfl⟩,rfl⟩
  have t:(s.ai.map G6)[j]?=some d:=t
  rw[gQm] at t
  obtain⟨p,M,rfl⟩:=oQm.mp t
  refine iq rfl (az (aX (az (aX (bJ ?_)))))
  apply fm (Iq ?_)
  apply⟨_,_,rfl,aM,?_⟩
  refine cu (ds:=p.2.map D.int) ?_
  refine⟨_,aM,⟨rfl,?_⟩,⟨_,_,_,_,_,_,_,rfl⟩,?_⟩
  ·have:=x j
   have:=P p (mQg M)
   simp only[lQm]
   exact yO (by omega)
  ·rw[rV M,Qzq]
   simp
 rintro k u ⟨⟨a,b,c,F,e,f,g,rfl⟩,rfl⟩
 have v:(s.ai.map G6).length=s.ai.length:=lQm ..
 rw[v,QEq]
 apply aK (gV (kR ?_))
 refine aA rfl ?_
 refine cu (ds:=s.aj.map dQ.d) ?_
 refine⟨λj k u=>(∃a b c d e f g,k= [some s.d,some (.ref S.length),a,b,c,d,e,f,g])/\u=S++ [.lst ((s.ai.flatMap (·.2)++(s.aj.take j).flatMap hV).map D.int)],⟨⟨_,_,_,_,_,_,_,rfl⟩,by simp⟩,λ_ _ _ _=>trivial,?_,?_⟩
 ·rintro j d k u t ⟨⟨a,b,c,F,e,f,g,rfl⟩,rfl⟩
  have t:(s.aj.map dQ.d)[j]?=some d:=t
  rw[gQm] at t
  obtain⟨r,B,rfl⟩:=oQm.mp t
  have w:=mQg B
  obtain⟨Y,R,N,C⟩:=r1 r w
  have A:(s.ai.flatMap (·.2)++(s.aj.take j).flatMap hV).length<=34000:=by
   have:=x s.ai.length
   rw[QEq] at this
   have:=K j
   rw[lQa]
   omega
  generalize y:s.ai.flatMap (·.2)++(s.aj.take j).flatMap hV=o at A⊢
  refine iq rfl (az (aX (az (aX (az (aX (az (aX (az (aX (bJ ?_)))))))))))
  apply aK (fm (Iq ?_))
  apply⟨_,_,rfl,aM,?_⟩
  refine gu (i:=r.row.map D.int) (j:=r.ag.map D.int) (by simp only[lQm];exact yO (by omega)) ?_
  refine cu ?_
  refine⟨_,aM,⟨rfl,?_⟩,?_⟩
  ·simp only[lQa,lQm]
   exact yO (by omega)
  dsimp only[aZ,aP,aY,bS,bV,eZ]
  have X:(S++ [O.lst (o.map D.int)]).set S.length (.lst (o.map D.int++(r.row.map D.int++r.ag.map D.int)))=S++ [.lst ((o++(r.row++r.ag)).map D.int)]:=by simp
  rw[X]
  apply gV (kR ?_)
  refine⟨λj k u=>(∃a b c d e f g,k= [some s.d,some (.ref S.length),a,b,c,d,e,f,g])/\u=S++ [.lst ((o++(r.row++r.ag)++(r.aa.take j).flatMap λl=>l.map (·.2)).map D.int)],⟨⟨_,_,_,_,_,_,_,rfl⟩,by simp⟩,λ_ _ _ _=>trivial,?_,?_⟩
  ·rintro m d k u t ⟨⟨a,b,c,F,e,f,g,rfl⟩,rfl⟩
   have t:(r.aa.map jS)[m]?=some d:=t
   rw[gQm] at t
   obtain⟨l,z,rfl⟩:=oQm.mp t
   have U:=C l (mQg z)
   refine aX ?_
   apply fm (HL ?_)
   apply⟨_,_,rfl,aM,?_⟩
   apply AZ (by omega) ?_
   refine⟨_,aM,⟨rfl,?_⟩,⟨_,_,_,_,_,_,_,rfl⟩,?_⟩
   ·have:=H r w m
    simp only[lQa,lQm]
    exact yO (by omega)
   ·rw[rV z,←Qvq,Qzq]
    simp
  ·rintro k u ⟨J,rfl⟩
   refine⟨J,?_⟩
   have v:(r.aa.map jS).length=r.aa.length:=lQm ..
   rw[v,QEq,rV B]
   subst y
   simp only[hV,Qvq]
 ·rintro k u ⟨⟨a,b,c,F,e,f,g,rfl⟩,rfl⟩
  have v:(s.aj.map dQ.d).length=s.aj.length:=lQm ..
  rw[v,QEq]
  symm
  exact Ii (Z _) (Qmq _) aM (a9 λ_ _=>rfl) q
end
section
variable{S:aD}{Q:Res->aD->Prop}
def AF(s:bO)(h:Nat):Option cC:=(s.af[h]?).bind λp=>p.2.getLast?
def iW(w:dH)(s:bO)(h:Nat):Bool:=match AF s h with
 |some f=>decide (f.room= -1)&&decide (f.row=(((progOf w h f).getD []).length:Int))
 |none=>false
def rT{w:dH}{s:bO}{h:Nat}{vs:List Int}{fs:List cC}{f:cC}{pr:List Rw}(hs:s.af[h]?=some (vs,fs))(a:fs.getLast? =some f)(b:progOf w h f=some pr)(q:Q (.d (.bl (iW w s h))) S):Fn fX [w.d,s.d,.int h] S Q:=by
 have e:iW w s h=(decide (f.room= -1)&&decide (f.row=(pr.length:Int))):=by
  unfold iW AF
  rw[hs]
  show(match fs.getLast? with|some f=>_|none=>_)=_
  rw[a]
  simp only[b,Option.getD_some]
 rw[e] at q
 refine cq ?_
 unfold iM
 symm
 apply cz hs a ?_
 apply lS ?_
 apply aA (d:=.int f.room) rfl ?_
 refine dG ?_
 refine⟨_,rfl,?_⟩
 by_cases c:f.room= -1
 ·rw[Qeq c] at q⊢
  rw[Qhq rfl]
  symm
  apply aA (d:=.int f.row) rfl ?_
  apply gL b ?_
  refine dG ?_
  rw[lQm]
  exact dm (λk z=>(nomatch z)) rfl q
 ·rw[Qdq c] at q⊢
  rw[Quq (by decide)]
  exact dm (λk z=>(nomatch z)) rfl q
def p5(w:dH)(s:bO):List Nat:=(List.range s.af.length).filter λh=> !decide ((h:Int)∈held s)&& !iW w s h
def mC(h:Nat):D:=.int h
def Mo(w:dH)(s:bO):Prop:=∀(S:aD) (Q:Res->aD->Prop),Q (.l ((p5 w s).map mC)) S->Fn nj [w.d,s.d] S Q
def AX{w:dH}{s:bO}(o:∀(S:aD) (Q:Res->aD->Prop),Q (.l ((held s).map D.int)) S->Fn eU [s.d] S Q)(j:∀h<s.af.length,∃vs fs f pr,s.af[h]?=some (vs,fs)/\fs.getLast? =some f/\progOf w h f=some pr)(p:s.af.length<=100):Mo w s:=by
 intro S Q q
 refine cq ?_
 unfold rA
 symm
 apply o _ _ ?_
 apply um (α:=Nat) (λb=>∃a,b= [a,some w.d,some s.d,some (.ref S.length)]) (λ(i:Nat)=>D.int (0+(i:Int))) mC (λh=> !decide ((h:Int)∈held s)&& !iW w s h) ⟨none,rfl⟩ ?_
 apply aA rfl ?_
 refine⟨_,rfl,?_,?_⟩
 ·simp only[lQm]
  omega
 refine⟨List.range s.af.length,?_,trivial,by simp;omega,λh k b e=> ?_,?_⟩
 ·simp only[jZ,lQm]
  rfl
 ·obtain⟨a,rfl⟩:=e
  obtain⟨vs,fs,f,pr,g,m,n⟩:=j h (List.mem_range.mp k)
  refine aX ⟨rfl,⟨_,rfl⟩,?_⟩
  rw[Int.zero_add]
  apply om (cN (yk ?_))
  refine a7 (ds:=(held s).map D.int) aM ?_
  refine⟨_,_,rfl,fH _,?_⟩
  rw[m8]
  by_cases c:(h:Int)∈held s
  ·rw[Qeq c]
   refine aL (λc=>by cases c) (λ_=> ?_)
   exact⟨rfl,rfl,λc=>by cases c⟩
  ·rw[Qdq c]
   apply aL (λ_=> ?_) (λc=>by cases c)
   refine rT g m n ?_
   dsimp only[aZ,aP,aY,bS,bV,eZ]
   refine rH ?_
   apply⟨rfl,rfl,λ_=> ?_⟩
   exact⟨rfl,rfl⟩
 ·refine Ln (rK.refl.app) (a9 λ_ _=>rfl) q
def CN{w:dH}{s b:bO}{h:Nat}{e:Option Int}(f:Mo w s)(i:h∈p5 w s)(a:AM w s h b e)(q:Q (.d (J2 b h e)) S):Fn qB [w.d,s.d,.int h] S Q:=by
 refine cq ?_
 unfold we
 apply aK (bU (cN (yk ?_)))
 refine f _ _ ?_
 dsimp only[aZ,aP,aY,bS,bV,eZ]
 have g:(p5 w s).map mC=((p5 w s).map λh:Nat=>(h:Int)).map D.int:=by rw[QPq];rfl
 refine⟨_,_,rfl,by rw[g];exact fH _,?_⟩
 rw[m8,Qeq (Qkq.mpr ⟨h,i,rfl⟩)]
 apply aL (λc=>by cases c) (λ_=>cc ?_)
 refine a _ _ ?_
 exact dm (λk z=>(nomatch z)) (ui _ _ _) q
end
structure sm(n:Nat)(r:Rm)(rs:dQ):Prop where
 lv:r.ao.length=rs.vals.length
 lb:r.aa.length=rs.aa.length
 vv:∀v∈rs.vals,0<=v/\v<=9
 br:rs.row.length<=n
 bl:rs.ag.length<=n
 bb:∀l∈rs.aa,l.length<=n
structure GQ(w:dH)(h:Nat)(f:cC):Prop where
 pr:∃pr,progOf w h f=some pr/\0<=f.row/\f.row<=pr.length
 gv:0<=f.given/\f.given<=9
 tv:0<=f.told/\f.told<=9
def PD(w:dH)(h:Nat)(f:cC):Prop:=∃a g b c t,progOf w h f=some a/\1<=f.row/\a[(f.row-1).toNat]?=some (.do_ g b c t)
def jF:List cC->Prop
 | []=>False
 |f0::tl=>f0.room= -1/\∀f∈tl,f.room≠-1
structure jL(w:dH)(n h:Nat)(ts:List (Str×Nat))(vs:List Int)(fs:List cC):Prop where
 lv:ts.length=vs.length
 vv:∀v∈vs,0<=v/\v<=9
 lf:fs.length<=n
 fr:∀f∈fs,GQ w h f
 hd:jF fs
 ch:∀f∈fs.dropLast,PD w h f
structure dg(w:dH)(n:Nat)(s:bO):Prop where
 lr:w.aj.length=s.aj.length
 rm:∀(i:Nat) (r:Rm) (rs:dQ),w.aj[i]?=some r->s.aj[i]?=some rs->sm n r rs
 lp:w.ai.length=s.ai.length
 ps:∀p∈s.ai,p.2.length<=n
 ls:w.ak.length=s.ak.length
 sv:∀v∈s.ak,0<=v/\v<=9
 lh:w.af.length=s.af.length
 hd:∀(h:Nat) (ts:List (Str×Nat)) (pr:List Rw) (vs:List Int) (fs:List cC),w.af[h]?=some (ts,pr)->s.af[h]?=some (vs,fs)->jL w n h ts vs fs
def sm.mono{n m:Nat}{r:Rm}{rs:dQ}(h:sm n r rs)(l:n<=m):sm m r rs:=⟨h.lv,h.lb,h.vv,QAq h.br l,QAq h.bl l,λx a=>QAq (h.bb x a) l⟩
def jL.mono{w:dH}{n m h:Nat}{ts:List (Str×Nat)}{vs:List Int}{fs:List cC}(x:jL w n h ts vs fs)(l:n<=m):jL w m h ts vs fs:=⟨x.lv,x.vv,QAq x.lf l,x.fr,x.hd,x.ch⟩
def dg.mono{w:dH}{n m:Nat}{s:bO}(x:dg w n s)(l:n<=m):dg w m s:=⟨x.lr,λi r f a b=>(x.rm i r f a b).mono l,x.lp,λp e=>QAq (x.ps p e) l,x.ls,x.sv,x.lh,λh j c g d a b=>(x.hd h j c g d a b).mono l⟩
def get_set{α:Type}{l:List α}{i j:Nat}{a b:α}(h:(l.set i a)[j]?=some b):(j=i/\b=a)\/(j≠i/\l[j]?=some b):=by
 rw[List.getElem?_set] at h
 split at h
 ·rename_i c
  split at h
  ·cases h;exact .inl ⟨c.symm,rfl⟩
  ·cases h
 ·rename_i c
  exact .inr ⟨λz=>c z.symm,h⟩
def dg.room{w:dH}{n i:Nat}{s:bO}{r:Rm}{d:dQ}(x:dg w n s)(e:w.aj[i]?=some r)(g:sm n r d):dg w n {s with aj:=s.aj.set i d} where
 lr:=by simpa using x.lr
 rm:=λj f c a b=>by
  rcases get_set b with⟨rfl,rfl⟩|⟨_,b⟩
  ·rw[e] at a;cases a;exact g
  ·exact x.rm j f c a b
 lp:=x.lp
 ps:=x.ps
 ls:=x.ls
 sv:=x.sv
 lh:=x.lh
 hd:=x.hd
def dg.share{w:dH}{n:Nat}{s:bO}{vs:List Int}(x:dg w n s)(a:vs.length=s.ak.length)(b:∀v∈vs,0<=v/\v<=9):dg w n {s with ak:=vs}:=⟨x.lr,x.rm,x.lp,x.ps,by rw[x.ls,←a],b,x.lh,x.hd⟩
def dg.hand{w:dH}{n h:Nat}{s:bO}{ts:List (Str×Nat)}{pr:List Rw}{vs:List Int}{fs:List cC}(x:dg w n s)(i:w.af[h]?=some (ts,pr))(k:jL w n h ts vs fs):dg w n {s with af:=s.af.set h (vs,fs)} where
 lr:=x.lr
 rm:=x.rm
 lp:=x.lp
 ps:=x.ps
 ls:=x.ls
 sv:=x.sv
 lh:=by simpa using x.lh
 hd:=λj f a c d b g=>by
  rcases get_set g with⟨rfl,e⟩|⟨_,g⟩
  ·rw[i] at b;cases b;cases e;exact k
  ·exact x.hd j f a c d b g
def fD{α:Type}{l:List α}{a:α}(h:l.getLast? =some a):l=l.dropLast++ [a]:=by
 cases l with
 |nil=>cases h
 | cons x y=>
   have b:x::y≠[]:=by simp
   rw[List.getLast?_eq_some_getLast b] at h
   cases h
   exact(List.dropLast_concat_getLast b).symm
def jF.last{fs:List cC}{f f':cC}:∀{b:List cC},jF (b++ [f])->f'.room=f.room->jF (b++ [f'])
 | [],h,e=>⟨by rw[e];exact h.1,λ_ z=>by cases z⟩
 | a::l,h,e=>⟨h.1,λx c=>by
   rcases mQa.mp c with c|c
   · exact h.2 x (mQa.mpr (.inl c))
   · rw[Qfq.mp c,e];exact h.2 f (mQa.mpr (.inr (Qfq.mpr rfl)))⟩
def jF.push{f':cC}:∀{fs:List cC},jF fs->f'.room≠-1->jF (fs++ [f'])
 | [],h,_=>h.elim
 | a::l,h,e=>⟨h.1,λx b=>by
   rcases mQa.mp b with b|b
   · exact h.2 x b
   · rw[Qfq.mp b];exact e⟩
def jF.pop{c f:cC}:∀{d:List cC},jF (d++ [c,f])->jF (d++ [c])
 | [],h=>⟨h.1,λ_ z=>by cases z⟩
 | a::l,h=>⟨h.1,λx b=>h.2 x (by
   rcases mQa.mp b with b|b
   · exact mQa.mpr (.inl b)
   · exact mQa.mpr (.inr (by rw[Qfq.mp b];simp)))⟩
def jF.two{f:cC}:∀{b:List cC},jF (b++ [f])->f.room≠-1->∃d c,b=d++ [c]
 | [],h,e=>absurd h.1 e
 |a::l,h,e=>⟨(a::l).dropLast,(a::l).getLast (by simp),(List.dropLast_concat_getLast (by simp)).symm⟩
section
variable{w:dH}{n h:Nat}{ts:List (Str×Nat)}{vs:List Int}{fs:List cC}{f f' f2:cC}
def jL.setLast(x:jL w n h ts vs fs)(d:fs.getLast? =some f)(e:f'.room=f.room)(i:GQ w h f'):jL w n h ts vs (fs.dropLast++ [f']):=by
 have b:=fD d
 have c:=x.hd
 rw[b] at c
 refine⟨x.lv,x.vv,?_,λg a=> ?_,jF.last (fs:=fs) c e,λg a=> ?_⟩
 ·have:=congrArg List.length b
  have:=x.lf
  simp only[lQa,Qnq,QGq] at *
  omega
 ·rcases mQa.mp a with a|a
  ·exact x.fr g (List.dropLast_subset _ a)
  ·rw[Qfq.mp a];exact i
 ·rw[List.dropLast_concat] at a
  exact x.ch g a
def jL.push(x:jL w n h ts vs fs)(b:fs.getLast? =some f)(d:PD w h f)(e:f'.room≠-1)(i:GQ w h f'):jL w (n+1) h ts vs (fs++ [f']):=by
 refine⟨x.lv,x.vv,?_,λg a=> ?_,x.hd.push e,λg a=> ?_⟩
 ·have:=x.lf
  simp only[lQa,Qnq,QGq]
  omega
 ·rcases mQa.mp a with a|a
  ·exact x.fr g a
  ·rw[Qfq.mp a];exact i
 ·rw[List.dropLast_concat,fD b] at a
  rcases mQa.mp a with a|a
  ·exact x.ch g a
  ·rw[Qfq.mp a];exact d
def jL.pop{b:List cC}(x:jL w n h ts vs (b++ [f2,f])):jL w n h ts vs (b++ [f2])/\PD w h f2:=by
 have e:(b++ [f2,f]).dropLast=b++ [f2]:=by rw[show b++ [f2,f]=(b++ [f2])++ [f] by simp,List.dropLast_concat]
 have c:=x.ch
 rw[e] at c
 refine⟨⟨x.lv,x.vv,?_,λg a=>x.fr g ?_,x.hd.pop,λg a=>c g ?_⟩,c f2 (by simp)⟩
 ·have:=x.lf
  simp only[lQa,Qnq,QGq] at *
  omega
 ·rcases mQa.mp a with a|a
  ·exact mQa.mpr (.inl a)
  ·exact mQa.mpr (.inr (by rw[Qfq.mp a];simp))
 ·rw[List.dropLast_concat] at a
  exact mQa.mpr (.inl a)
def jL.vals{a:List Int}(x:jL w n h ts vs fs)(c:a.length=vs.length)(b:∀v∈a,0<=v/\v<=9):jL w n h ts a fs:=⟨by rw[x.lv,c],b,x.lf,x.fr,x.hd,x.ch⟩
def jL.last(x:jL w n h ts vs fs):∃f,fs.getLast? =some f/\GQ w h f:=by
 have:=x.hd
 cases fs with
 |nil=>exact this.elim
 | cons a l=>
   refine⟨_,List.getLast?_eq_some_getLast (by simp),x.fr _ (List.getLast_mem (by simp))⟩
end
def iX{w:dH}{h:Nat}{f:cC}{pr:List Rw}(a:progOf w h f=some pr):(f.room= -1/\∃ts,w.af[h]?=some (ts,pr))\/∃(i j:Nat) (r:Rm) (g:Str),f.room=i/\f.deed=j/\w.aj[i]?=some r/\r.ae[j]?=some (g,pr):=by
 unfold progOf at a
 split at a
 ·rename_i c
  obtain⟨⟨ts,b⟩,d,e⟩:=oQm.mp a
  cases e
  exact .inl ⟨c,ts,d⟩
 ·split at a
  ·rename_i c
   obtain⟨r,d,e⟩:=au a
   obtain⟨⟨g,b⟩,l,k⟩:=oQm.mp e
   cases k
   exact .inr ⟨f.room.toNat,f.deed.toNat,r,g,by omega,by omega,d,l⟩
  ·cases a
def Fl{w:dH}{h i j:Nat}{f:cC}{r:Rm}{e:Str}{pr:List Rw}(a:f.room=i)(b:f.deed=j)(d:w.aj[i]?=some r)(c:r.ae[j]?=some (e,pr)):progOf w h f=some pr:=by
 unfold progOf
 rw[Quq (by omega),Qhq ⟨by omega,by omega⟩,a,b]
 show(w.aj[i]?).bind _=_
 rw[d]
 show(r.ae[j]?).map _=_
 rw[c]
 rfl
def Bv(w:dH)(h:Nat)(f:cC):Option Sc:=if f.room= -1 then(w.af[h]?).map λp=>⟨true,p.1.map (·.1)++w.ak.map (·.1),p.1.map (·.1)++w.ak.map (·.1),[],aS w.aj,w.ai.map (·.1)⟩
 else(w.aj[f.room.toNat]?).map λr=>⟨false,r.ao.map (·.1)++fq,r.ao.map (·.1),r.aa.map (·.1),aS w.aj,[]⟩
def Ad{w:dH}{h:Nat}{f:cC}{pr:List Rw}(o:eQ w)(d:progOf w h f=some pr):∃sc,Bv w h f=some sc/\vC sc pr:=by
 unfold Bv
 rcases iX d with⟨c,k,a⟩|⟨i,j,r,l,a,g,b,e⟩
 ·rw[Qhq c,a]
  exact⟨_,rfl,(o.hd _ (mQg a)).pr⟩
 ·rw[Quq (by omega),a]
  refine⟨_,by rw[show((i:Int)).toNat=i by omega,b];rfl,((o.rm _ (mQg b)).pr _ (mQg e)).1⟩
def FW{w:dH}(o:eQ w):dg w 1 (da w) where
 lr:=by simp[da]
 rm:=λi r s c d=>by
  simp only[da,gQm,c,Option.map_some,Option.some.injEq] at d
  subst d
  have g:=o.rm r (mQg c)
  refine⟨by simp[cn,bL],by simp[cn],λv b=> ?_,by simp[cn],by simp[cn],λl j=> ?_⟩
  ·simp only[cn,bL,Qkq] at b
   obtain⟨p,a,rfl⟩:=b
   have:=g.tv p a
   omega
  ·simp only[cn,Qkq] at j
   obtain⟨p,a,rfl⟩:=j
   simp
 lp:=by simp[da]
 ps:=λp a=>by
  simp only[da,Qkq] at a
  obtain⟨p,a,rfl⟩:=a
  simp
 ls:=by simp[da,bL]
 sv:=λv b=>by
  simp only[da,bL,Qkq] at b
  obtain⟨p,a,rfl⟩:=b
  have:=o.sv p a
  omega
 lh:=by simp[da]
 hd:=λh q k n m c d=>by
  simp only[da,gQm,c,Option.map_some,Option.some.injEq] at d
  cases d
  have g:=o.hd _ (mQg c)
  refine⟨by simp[bL],λv b=> ?_,by simp,λf e=> ?_,⟨rfl,λ_ z=>by cases z⟩,λf e=>by cases e⟩
  ·simp only[bL,Qkq] at b
   obtain⟨p,a,rfl⟩:=b
   have:=g.tv p a
   omega
  ·rw[Qfq.mp e]
   refine⟨⟨k,?_,by decide,?_⟩,by decide,by decide⟩
   ·unfold progOf
    rw[Qhq (show xf.room= -1 from rfl),c]
    rfl
   ·show(0:Int)<=_
    omega
def Ei(s:bO)(h:Nat):List Int×List cC:=(s.af[h]?).getD ([],[])
def OF(w:dH)(h:Nat):List (Str×Nat)×List Rw:=(w.af[h]?).getD ([],[])
def jD(s:bO)(h:Nat):cC:=((Ei s h).2.getLast?).getD xf
def IM(w:dH)(i:Nat):Rm:=(w.aj[i]?).getD ⟨"","",[],[],[]⟩
def Cd(s:bO)(i:Nat):dQ:=(s.aj[i]?).getD ⟨[],0,[],[],[]⟩
def Ob(s:bO)(k:Nat):Int×List Int:=(s.ai[k]?).getD (0,[])
def C8(s:bO)(h:Nat)(f:cC):bO:={s with af:=s.af.set h ((Ei s h).1,(Ei s h).2.dropLast++ [f])}
def fF(s:bO)(i:Nat)(r:dQ):bO:={s with aj:=s.aj.set i r}
def Gq(s:bO)(k:Nat)(p:Int×List Int):bO:={s with ai:=s.ai.set k p}
def dE(w:dH)(s:bO)(h:Nat)(t:Tr):Int:=
 if (jD s h).room= -1 then nL (numAt (qj w s (OF w h).1 (Ei s h).1)) (λ_=>0) t
 else nL (numAt (ig (IM w (jD s h).room.toNat) (Cd s (jD s h).room.toNat) (jD s h).given)) (tE (IM w (jD s h).room.toNat) (Cd s (jD s h).room.toNat)) t
def lK(w:dH)(s:bO)(h:Nat)(x:Str)(v:Int):bO:=
 if (jD s h).room= -1 then lF w s h (OF w h).1 (Ei s h).1 (Ei s h).2 x v
 else fF s (jD s h).room.toNat {Cd s (jD s h).room.toNat with vals:=eB ((IM w (jD s h).room.toNat).ao.map (·.1)) (Cd s (jD s h).room.toNat).vals x v}
def HQ(r:Rm)(rs:dQ)(b:Str)(v:Int)(h:Nat):dQ:=
 eX {rs with aa:=rs.aa.set (gQ (r.aa.map (·.1)) b) (NO ((rs.aa[gQ (r.aa.map (·.1)) b]?).getD []) (if ((r.aa[gQ (r.aa.map (·.1)) b]?).getD ("","")).2="turns" then v else 0) h)}
def uv(w:dH)(s:bO)(h:Nat):Rw->bO
 |.put x t=>lK w s h x (dE w s h t)
 |.unl t n=>if dE w s h t=0 then C8 s h {jD s h with row:=n} else s
 |.go n=>C8 s h {jD s h with row:=n}
 |.do_ _ a c t=>fF {s with af:=s.af.set h ((Ei s h).1,(Ei s h).2++ [⟨(gQ (w.aj.map (·.name)) a:Nat),(gQ ((IM w (gQ (w.aj.map (·.name)) a)).ae.map (·.1)) c:Nat),0,dE w s h t,0⟩])} (gQ (w.aj.map (·.name)) a) (f_ (Cd s (gQ (w.aj.map (·.name)) a)) h)
 |.wait b t=>fF s (jD s h).room.toNat (HQ (IM w (jD s h).room.toNat) (Cd s (jD s h).room.toNat) b (dE w s h t) h)
 |.call b=>fF s (jD s h).room.toNat (HB (decide ((IM w (jD s h).room.toNat).ah="when free")) (Cd s (jD s h).room.toNat) (gQ ((IM w (jD s h).room.toNat).aa.map (·.1)) b) h)
 |.all b=>fF s (jD s h).room.toNat {Cd s (jD s h).room.toNat with aa:=(Cd s (jD s h).room.toNat).aa.set (gQ ((IM w (jD s h).room.toNat).aa.map (·.1)) b) []}
 |.tell t=>C8 s h {jD s h with told:=dE w s h t}
 |.take p=>Gq s (gQ (w.ai.map (·.1)) p) (DU (Ob s (gQ (w.ai.map (·.1)) p)) h)
 |.give p=>Gq s (gQ (w.ai.map (·.1)) p) (Bi (Ob s (gQ (w.ai.map (·.1)) p)))
 |.pass p q=>Gq (Gq s (gQ (w.ai.map (·.1)) p) (Bi (Ob s (gQ (w.ai.map (·.1)) p)))) (gQ (w.ai.map (·.1)) q) (DU (Ob (Gq s (gQ (w.ai.map (·.1)) p) (Bi (Ob s (gQ (w.ai.map (·.1)) p)))) (gQ (w.ai.map (·.1)) q)) h)
 |.say _=>s
def lB(s:bO)(h:Nat):bO:=fF {s with af:=s.af.set h ((Ei s h).1,(Ei s h).2.dropLast)} (jD s h).room.toNat (eX (Cd s (jD s h).room.toNat))
def G2(w:dH)(s:bO)(h:Nat):Option Rw:=(progOf w h (jD s h)).bind λa=>a[((jD s h).row-1).toNat]?
def p0(w:dH)(s:bO)(h:Nat):bO:=match G2 w (lB s h) h with
 |some (.do_ (some x) _ _ _)=>lK w (lB s h) h x (jD s h).told
 |_=>lB s h
def ib(s:bO)(h:Nat):bO:=C8 s h {jD s h with row:=(jD s h).row+1}
def CS(w:dH)(s:bO)(h:Nat):Rw->Option Int
 |.say t=>some (dE w s h t)
 |_=>none
def eD(w:dH)(s:bO)(h:Nat):bO×Option Int:=
 if (jD s h).room≠-1/\(Cd s (jD s h).room.toNat).within≠h then(fF s (jD s h).room.toNat (f_ (Cd s (jD s h).room.toNat) h),none)
 else match progOf w h (jD s h) with
  |none=>(s,none)
  | some a=>if (jD s h).row=a.length then(p0 w s h,none) else match a[(jD s h).row.toNat]? with
    |none=>(s,none)
    |some r=>(uv w (ib s h) h r,CS w s h r)
section
variable{w:dH}{h:Nat}{s:bO}{vs:List Int}{fs:List cC}{f:cC}
def gD(hs:s.af[h]?=some (vs,fs)):Ei s h=(vs,fs):=by unfold Ei;rw[hs];rfl
def eG(hs:s.af[h]?=some (vs,fs))(a:fs.getLast? =some f):jD s h=f:=by unfold jD;rw[gD hs];show(fs.getLast?).getD _=f;rw[a];rfl
def yD{p:List (Str×Nat)×List Rw}(a:w.af[h]?=some p):OF w h=p:=by unfold OF;rw[a];rfl
def se{i:Nat}{r:Rm}(a:w.aj[i]?=some r):IM w i=r:=by unfold IM;rw[a];rfl
def fG{i:Nat}{r:dQ}(a:s.aj[i]?=some r):Cd s i=r:=by unfold Cd;rw[a];rfl
def gM{g:cC}(hs:s.af[h]?=some (vs,fs)):C8 s h g={s with af:=s.af.set h (vs,fs.dropLast++ [g])}:=by unfold C8;rw[gD hs]
end
section
variable{w:dH}{n h:Nat}{s:bO}{vs:List Int}{fs:List cC}{f:cC}{sc:Sc}
def dg.whand(x:dg w n s)(hs:s.af[h]?=some (vs,fs)):∃ts pr,w.af[h]?=some (ts,pr)/\jL w n h ts vs fs:=by
 have a:h<w.af.length:=by rw[x.lh];exact(gQs.mp hs).1
 exact⟨_,_,gQe a,x.hd h _ _ vs fs (gQe a) hs⟩
def dg.wroom{i:Nat}{r:Rm}(x:dg w n s)(a:w.aj[i]?=some r):∃rs,s.aj[i]?=some rs/\sm n r rs:=by
 have b:i<s.aj.length:=by rw[←x.lr];exact(gQs.mp a).1
 exact⟨_,gQe b,x.rm i r _ a (gQe b)⟩
def fw{t:Sc}(a:Bv w h f=some t):(f.room= -1/\∃ts pr,w.af[h]?=some (ts,pr)/\t=⟨true,ts.map (·.1)++w.ak.map (·.1),ts.map (·.1)++w.ak.map (·.1),[],aS w.aj,w.ai.map (·.1)⟩)∨
  (f.room≠-1/\∃r,w.aj[f.room.toNat]?=some r/\t=⟨false,r.ao.map (·.1)++fq,r.ao.map (·.1),r.aa.map (·.1),aS w.aj,[]⟩):=by
 unfold Bv at a
 split at a
 ·rename_i c
  obtain⟨⟨ts,pr⟩,b,d⟩:=oQm.mp a
  exact .inl ⟨c,ts,pr,b,d.symm⟩
 ·rename_i c
  obtain⟨r,b,d⟩:=oQm.mp a
  exact .inr ⟨c,r,b,d.symm⟩
def gC(x:GQ w h f)(c:f.room≠-1):f.room=(f.room.toNat:Int):=by
 obtain⟨e,a,_⟩:=x.pr
 rcases iX a with⟨b,_⟩|⟨i,_,_,_,d,_⟩
 ·exact absurd b c
 ·omega
def qf{t:Tr}(o:eQ w)(x:dg w n s)(hs:s.af[h]?=some (vs,fs))(j:fs.getLast? =some f)(z:Bv w h f=some sc)(ht:FV sc t):(0<=dE w s h t/\dE w s h t<=9)/\Fv w s h t (dE w s h t):=by
 obtain⟨p,H,l,g⟩:=x.whand hs
 have B:=o.hd _ (mQg l)
 have m:=g.fr f (QcQ j)
 have K:=o.l3
 have C:=B.l1
 have A:=x.ls
 rcases fw z with⟨c,F,G,e,rfl⟩|⟨c,r,hr,rfl⟩
 ·rw[l] at e
  cases e
  have a:i_ (qj w s p vs):=i_.merge (dI x.sv) (dI g.vv)
  have u:dE w s h t=nL (numAt (qj w s p vs)) (λ_=>0) t:=by unfold dE;rw[eG hs j,Qhq c,yD l,gD hs]
  rw[u]
  refine⟨?_,λS Q q=>zV l hs j c A g.lv (by omega) (by dsimp only at C;omega) x.sv g.vv ht.1 (by have:=ht.2;omega) q⟩
  refine iD (ws:=p.map (·.1)++w.ak.map (·.1)) (bs:= []) (λy b=> ?_) ht.1
  refine(gY a (eW ?_)).2
  rcases mQa.mp b with b|b
  ·exact .inr (dq g.lv b)
  ·exact .inl (dq A b)
 ·obtain⟨v,i,d⟩:=x.wroom hr
  have k:=o.rm r (mQg hr)
  have I:=k.l1
  have J:=k.l2
  have a:i_ (ig r v f.given):=(dI d.vv).put m.gv.1 m.gv.2
  have u:dE w s h t=nL (numAt (ig r v f.given)) (tE r v) t:=by unfold dE;rw[eG hs j,Quq c,se hr,fG i]
  rw[u]
  refine⟨?_,λS Q q=>wG hs j (gC m c) hr i d.lv d.lb (by omega) (by omega) d.vv m.gv ht.1 (by have:=ht.2;omega) q⟩
  refine iD (ws:=r.ao.map (·.1)++fq) (bs:=r.aa.map (·.1)) (λy b=> ?_) ht.1
  refine(gY a (jJ ?_)).2
  rcases mQa.mp b with b|b
  ·exact .inr (dq d.lv b)
  ·left
   rw[Qfq.mp b]
def pE{ns:List Str}{y:Str}{v:Int}{a:List Int}(c:∀v∈a,0<=v/\v<=9)(d:0<=v/\v<=9):(eB ns a y v).length=a.length/\∀u∈eB ns a y v,0<=u/\u<=9:=by
 unfold eB
 refine⟨by simp,λz b=> ?_⟩
 rcases QTq b with b|rfl
 ·exact c z b
 ·exact d
def DH{y:Str}{v:Int}(o:eQ w)(x:dg w n s)(hs:s.af[h]?=some (vs,fs))(j:fs.getLast? =some f)(p:Bv w h f=some sc)(z:y∈sc.ps)(m:0<=v/\v<=9):Puts w s h y v (lK w s h y v)/\dg w n (lK w s h y v):=by
 obtain⟨u,I,i,k⟩:=x.whand hs
 have B:=o.hd _ (mQg i)
 have H:=k.fr f (QcQ j)
 have N:=o.l1
 have P:=o.l3
 have C:=B.l1
 have L:=o.l4
 have M:=x.lr
 have J:=x.lh
 rcases fw p with⟨c,F,G,e,rfl⟩|⟨c,r,hr,rfl⟩
 ·rw[i] at e
  cases e
  have l:lK w s h y v=lF w s h u vs fs y v:=by unfold lK;rw[eG hs j,Qhq c,yD i,gD hs]
  rw[l]
  refine⟨λS Q q=>IZ i hs j c x.ls k.lv (by omega) (by dsimp only at C;omega) (by omega) z q,?_⟩
  unfold lF
  split
  ·obtain⟨d,b⟩:=pE (ns:=w.ak.map (·.1)) (y:=y) x.sv m
   exact x.share d b
  ·obtain⟨d,b⟩:=pE (ns:=u.map (·.1)) (y:=y) k.vv m
   exact x.hand i (k.vals d b)
 ·obtain⟨A,g,a⟩:=x.wroom hr
  have t:=o.rm r (mQg hr)
  have K:=t.l1
  have l:lK w s h y v={s with aj:=s.aj.set f.room.toNat {A with vals:=eB (r.ao.map (·.1)) A.vals y v}}:=by unfold lK;rw[eG hs j,Quq c,se hr,fG g];rfl
  rw[l]
  refine⟨λS Q q=>Iw hs j (gC H c) hr g a.lv (by omega) (by omega) z q,?_⟩
  obtain⟨d,b⟩:=pE (ns:=r.ao.map (·.1)) (y:=y) a.vv m
  exact x.room hr ⟨by rw[a.lv,←d],a.lb,b,a.br,a.bl,a.bb⟩
def dg.goes{m:Int}{pr:List Rw}(x:dg w n s)(hs:s.af[h]?=some (vs,fs))(a:fs.getLast? =some f)(e:progOf w h f=some pr)(j:0<=m)(d:m<=pr.length):dg w n {s with af:=s.af.set h (vs,fs.dropLast++ [{f with row:=m}])}:=by
 obtain⟨k,g,i,b⟩:=x.whand hs
 have c:=b.fr f (QcQ a)
 exact x.hand i (b.setLast a rfl ⟨⟨pr,e,j,d⟩,c.gv,c.tv⟩)
def dg.tells{v:Int}(x:dg w n s)(hs:s.af[h]?=some (vs,fs))(a:fs.getLast? =some f)(g:0<=v/\v<=9):dg w n {s with af:=s.af.set h (vs,fs.dropLast++ [{f with told:=v}])}:=by
 obtain⟨i,d,e,b⟩:=x.whand hs
 have c:=b.fr f (QcQ a)
 exact x.hand e (b.setLast a rfl ⟨c.pr,c.gv,g⟩)
def sm.come{r:Rm}{rs:dQ}{k:Int}(x:sm n r rs):sm (n+1) r (f_ rs k):=by
 unfold f_
 have:=x.br
 split
 ·exact⟨x.lv,x.lb,x.vv,by show rs.row.length<=_;omega,Nat.le_succ_of_le x.bl,λl a=>Nat.le_succ_of_le (x.bb l a)⟩
 ·exact⟨x.lv,x.lb,x.vv,by simp;omega,Nat.le_succ_of_le x.bl,λl a=>Nat.le_succ_of_le (x.bb l a)⟩
def sm.leave{r:Rm}{rs:dQ}(x:sm n r rs):sm n r (eX rs):=by
 obtain⟨g,b,c,i,j⟩:=rs
 have d:=x.br
 have e:=x.bl
 unfold eX
 dsimp only at d e⊢
 cases i with
 |cons a l=>exact⟨x.lv,x.lb,x.vv,x.br,by simp at e;show l.length<=n;omega,x.bb⟩
 | nil=>
   cases c with
   |cons a l=>exact⟨x.lv,x.lb,x.vv,by simp at d;show l.length<=n;omega,x.bl,x.bb⟩
   |nil=>exact⟨x.lv,x.lb,x.vv,x.br,x.bl,x.bb⟩
def EF{a j:Str}(o:eQ w)(d:(a,j)∈aS w.aj):a∈w.aj.map (·.name)/\∃r,w.aj[gQ (w.aj.map (·.name)) a]?=some r/\j∈r.ae.map (·.1):=by
 unfold aS at d
 obtain⟨r,c,l⟩:=QOq.mp d
 obtain⟨p,m,e⟩:=Qkq.mp l
 cases e
 have g:r.name∈w.aj.map (·.name):=Qkq.mpr ⟨r,c,rfl⟩
 refine⟨g,r,?_,Qkq.mpr ⟨p,m,rfl⟩⟩
 obtain⟨t,k⟩:=rY g
 obtain⟨i,b,e⟩:=QbQ c
 have q:(w.aj.map (·.name))[i]?=some r.name:=by rw[gQm,gQe b,e];rfl
 rw[mT o.nd k q,gQe b,e]
def rP{w:dH}(o:eQ w){y:Str}(b:y∈w.ai.map (·.1)):False:=by
 have a:=List.length_pos_of_mem b
 rw[lQm] at a
 have c:=o.pz
 have d:JN=0:=rfl
 omega
def qR{c:List (Str×Str)}{r:Rm}(o:uT c r){y:Str}(b:y∈r.aa.map (·.1)):False:=by
 have a:=List.length_pos_of_mem b
 rw[lQm] at a
 have d:=o.bz
 have e:He=0:=rfl
 omega
def Ey{r:Rw}{pr:List Rw}(o:eQ w)(x:dg w n s)(hn:n<=100)(hs:s.af[h]?=some (vs,fs))(C:fs.getLast? =some f)(M:progOf w h f=some pr)(h1:1<=f.row)(J:pr[(f.row-1).toNat]?=some r):Mm w s h r (uv w s h r)/\dg w (n+1) (uv w s h r):=by
 have e1:=gD hs
 have e2:=eG hs C
 obtain⟨sc,k,b9⟩:=Ad o M
 have b:=b9 r (mQg J)
 obtain⟨ts,R,hw,hi⟩:=x.whand hs
 have fi:=hi.fr f (QcQ C)
 have b1:=o.l1
 have b2:=o.l2
 have b3:=o.l3
 have b4:=o.l4
 have lr:=x.lr
 have lp:=x.lp
 have lh:=x.lh
 have lf:=hi.lf
 have U:=x.mono (Nat.le_succ n)
 have d:sc.own=false->∃(i:Nat) (r:Rm) (I:dQ),f.room=i/\w.aj[i]?=some r/\s.aj[i]?=some I/\sm n r I/\uT (aS w.aj) r/\sc.bs=r.aa.map (·.1):=λho=>by
  rcases fw k with⟨c,Y,R,a0,rfl⟩|⟨c,r,F,rfl⟩
  ·cases ho
  ·obtain⟨I,A,P⟩:=x.wroom F
   exact⟨_,r,I,gC fi c,F,A,P,o.rm r (mQg F),rfl⟩
 have u:sc.own=true->sc.ts=w.ai.map (·.1):=λho=>by
  rcases fw k with⟨c,Y,R,a0,rfl⟩|⟨c,r,F,rfl⟩
  ·rfl
  ·cases ho
 have a3:∀y,y∈w.ai.map (·.1)->∀ps:List (Int×List Int),w.ai.length=ps.length->∃p,ps[gQ (w.ai.map (·.1)) y]?=some p:=λy j ps hl=>by
  have:=(rY j).1
  rw[lQm] at this
  exact⟨_,gQe (by omega)⟩
 have b8:∀p:Int×List Int,p.2.length<=n->(DU p h).2.length<=n+1:=λp M=>by
  unfold DU
  split
  ·show p.2.length<=_;omega
  ·simp;omega
 have a5:∀p:Int×List Int,p.2.length<=n->(Bi p).2.length<=n:=λp M=>by
  obtain⟨v,l⟩:=p
  unfold Bi
  cases l with
  |nil=>simp
  |cons a l=>simp at M;show l.length<=n;omega
 cases r with
 | put y t=>
   obtain⟨L,F⟩:=qf o x hs C k b.2
   obtain⟨c2,c1⟩:=DH o x hs C k b.1 L
   exact⟨λS Q q=>E9 F c2 q,c1.mono (Nat.le_succ n)⟩
 | unl t m=>
   obtain⟨L,F⟩:=qf o x hs C k b.1
   have N:uv w s h (.unl t m)=if dE w s h t=0 then{s with af:=s.af.set h (vs,fs.dropLast++ [{f with row:=m}])} else s:=by simp only[uv,e2,gM hs]
   rw[N]
   refine⟨λS Q q=>zM F hs C (by omega) (by omega) q,?_⟩
   split
   · exact U.goes hs C M (by omega) (by have:=b.2;omega)
   · exact U
 | go m=>
   have N:uv w s h (.go m)={s with af:=s.af.set h (vs,fs.dropLast++ [{f with row:=m}])}:=by simp only[uv,e2,gM hs]
   rw[N]
   exact⟨λS Q q=>Hs hs C (by omega) (by omega) q,U.goes hs C M (by omega) (by have:m<=pr.length:=b;omega)⟩
 | do_ g H K t=>
   obtain⟨L,F⟩:=qf o x hs C k b.2.2
   have ev:uv w s h (.do_ g H K t)=uv w s h (.do_ g H K t):=rfl
   generalize b0:dE w s h t=v at L F
   have c0:sc.gs=aS w.aj:=by
     rcases fw k with⟨c,Y,R,a0,rfl⟩|⟨c,r,F,rfl⟩ <;>rfl
   have Z:=b.2.1
   rw[c0] at Z
   obtain⟨a6,r,e,a2⟩:=EF o Z
   obtain⟨I,A,P⟩:=x.wroom e
   have B:=o.rm r (mQg e)
   have b5:=B.l3
   have b6:=P.br
   have N:uv w s h (.do_ g H K t)={s with af:=s.af.set h (vs,fs++ [⟨(gQ (w.aj.map (·.name)) H:Nat),(gQ (r.ae.map (·.1)) K:Nat),0,v,0⟩]),aj:=s.aj.set (gQ (w.aj.map (·.name)) H) (f_ I h)}:=by simp only[uv,e1,se e,fG A,b0,fF]
   rw[N]
   refine⟨λS Q q=>Hi F hs a6 e A a2 (by omega) (by omega) (by omega) (by omega) (by omega) (by omega) q,?_⟩
   have a4:=rY a2
   have a1:=a4.1
   rw[lQm] at a1
   obtain⟨⟨c3,W⟩,b7⟩:∃p,r.ae[gQ (r.ae.map (·.1)) K]?=some p:=⟨_,gQe a1⟩
   have pf:progOf w h ⟨(gQ (w.aj.map (·.name)) H:Nat),(gQ (r.ae.map (·.1)) K:Nat),0,v,0⟩=some W:=Fl rfl rfl e b7
   have hh:=hi.push (f':=⟨(gQ (w.aj.map (·.name)) H:Nat),(gQ (r.ae.map (·.1)) K:Nat),0,v,0⟩) C ⟨pr,g,H,K,t,M,h1,J⟩ (by show((gQ (w.aj.map (·.name)) H:Nat):Int)≠-1;omega) ⟨⟨W,pf,by show(0:Int)<=0;omega,by show(0:Int)<=_;omega⟩,L,by show(0:Int)<=0/\(0:Int)<=9;omega⟩
   exact(U.hand hw hh).room e P.come
 | wait y t=>
   obtain⟨i,r,I,X,e,A,P,B,G⟩:=d b.1
   have j:=b.2.1
   rw[G] at j
   exact(qR B j).elim
 | call y=>
   obtain⟨i,r,I,X,e,A,P,B,G⟩:=d b.1
   have j:=b.2
   rw[G] at j
   exact(qR B j).elim
 | all y=>
   obtain⟨i,r,I,X,e,A,P,B,G⟩:=d b.1
   have j:=b.2
   rw[G] at j
   exact(qR B j).elim
 | tell t=>
   obtain⟨L,F⟩:=qf o x hs C k b.2
   have N:uv w s h (.tell t)={s with af:=s.af.set h (vs,fs.dropLast++ [{f with told:=dE w s h t}])}:=by simp only[uv,e2,gM hs]
   rw[N]
   exact⟨λS Q q=>DA F hs C (by omega) (by omega) q,U.tells hs C L⟩
 | take y=>
   have j:=b.2
   rw[u b.1] at j
   exact(rP o j).elim
 | give y=>
   have j:=b.2
   rw[u b.1] at j
   exact(rP o j).elim
 | pass y z=>
   have j:=b.2.1
   rw[u b.1] at j
   exact(rP o j).elim
 |say t=>exact⟨λS Q q=>E_ (sd:=.non) q,U⟩
end
section
variable{w:dH}{n h:Nat}{s:bO}{vs:List Int}{fs:List cC}{f:cC}{sc:Sc}
def dg.mays(o:eQ w)(x:dg w n s)(l:n<=100):Mo w s:=by
 have F:=o.l1
 have A:=o.l2
 have C:=o.l4
 have B:=x.lr
 have G:=x.lp
 have y:=x.lh
 refine AX (λS Q q=>qX l (by omega) (by omega) x.ps (λk c=> ?_) q) (λh t=> ?_) (by omega)
 ·obtain⟨i,d,e⟩:=QbQ c
  have a:s.aj[i]?=some k:=by rw[gQe d,e]
  have g:w.aj[i]?=some (w.aj[i]'(by omega)):=gQe (by omega)
  have b:=x.rm i _ k g a
  have:=(o.rm _ (mQg g)).l2
  have:=b.lb
  exact⟨b.br,b.bl,by omega,b.bb⟩
 ·obtain⟨⟨vs,fs⟩,a⟩:∃p,s.af[h]?=some p:=⟨_,gQe t⟩
  obtain⟨z,v,g,d⟩:=x.whand a
  obtain⟨f,r,u⟩:=d.last
  obtain⟨j,m,_⟩:=u.pr
  exact⟨vs,fs,f,j,a,r,m⟩
def Jc(o:eQ w)(x:dg w n s)(hn:n<=100)(hm:h∈p5 w s)(hs:s.af[h]?=some (vs,fs))(l:fs.getLast? =some f):AM w s h (eD w s h).1 (eD w s h).2/\dg w (n+1) (eD w s h).1:=by
 have e1:=gD hs
 have K:=eG hs l
 obtain⟨ts,a4,hw,hi⟩:=x.whand hs
 have fi:=hi.fr f (QcQ l)
 obtain⟨pr,b,U,a6⟩:=fi.pr
 have b1:=o.l1
 have b4:=o.l4
 have lr:=x.lr
 have lh:=x.lh
 have lf:=hi.lf
 have nb:¬(f.room= -1/\f.row=pr.length):=by
  rintro⟨c1,c2⟩
  have:=(List.mem_filter.mp hm).2
  rw[QCq] at this
  have hb:iW w s h=true:=by
   unfold iW AF
   rw[hs]
   show(match fs.getLast? with|some f=>_|none=>_)=_
   rw[l]
   simp only[b,Option.getD_some,c1,c2,decide_true,Bool.and_true]
  rw[hb] at this
  exact absurd this.2 (by decide)
 by_cases c:f.room= -1
 ·
  have I:pr=a4:=by
   unfold progOf at b
   rw[Qhq c,hw] at b
   cases b;rfl
  subst I
  have F:f.row.toNat<pr.length:=by
   have:f.row≠pr.length:=λz=>nb ⟨c,z⟩
   omega
  have a:pr[f.row.toNat]?=some (pr[f.row.toNat]):=gQe F
  generalize pr[f.row.toNat]=r at a
  obtain⟨sc,G,H⟩:=Ad o b
  have k:=H r (mQg a)
  have N:LS w s h r (CS w s h r):=by
   cases r with
   |say t=>exact⟨_,rfl,(qf o x hs l G k.2).2⟩
   |_=>rfl
  have B:eD w s h=(uv w {s with af:=s.af.set h (vs,fs.dropLast++ [{f with row:=f.row+1}])} h r,CS w s h r):=by
   unfold eD ib
   rw[K,Quq (λz=>z.1 c),b]
   simp only
   rw[Quq (λz=>nb ⟨c,z⟩),a,gM hs]
  rw[B]
  have M:=x.goes hs l b (m:=f.row+1) (by omega) (by omega)
  have P:h<s.af.length:=(gQs.mp hs).1
  obtain⟨L,p⟩:=Ey (f:={f with row:=f.row+1}) (r:=r) (pr:=pr) o M hn (Qyq P) (by simp) b (by show 1<=f.row+1;omega) (by show pr[(f.row+1-1).toNat]?=_;rw[show f.row+1-1=f.row by omega];exact a)
  exact⟨Aw hs l (.inl c) b U a (by omega) (by omega) N L,p⟩
 ·
  rcases iX b with⟨c',_⟩|⟨i,j,r,dn,h1,h2,h3,h4⟩
  ·exact absurd c' c
  obtain⟨J,d,ri⟩:=x.wroom h3
  have br:=ri.br
  have Y:f.room.toNat=i:=by omega
  by_cases W:J.within=h
  ·have u:Here s h f:=.inr ⟨i,J,h1,d,W⟩
   by_cases ce:f.row=pr.length
   ·
    have R:=fD l
    have L:=hi.hd
    rw[R] at L
    obtain⟨C,A,hg⟩:=L.two c
    have a2:fs=C++ [A,f]:=by rw[R,hg];simp
    subst a2
    obtain⟨a0,a3⟩:=hi.pop
    obtain⟨a5,g,rn,a1,t,X,p2,Z⟩:=a3
    have eo:lB s h={s with aj:=s.aj.set i (eX J),af:=s.af.set h (vs,C++ [A])}:=by
     unfold lB
     rw[K,e1,Y,fG d]
     simp only[fF]
     rw[show C++ [A,f]=(C++ [A])++ [f] by simp,List.dropLast_concat]
    have ho:(lB s h).af[h]?=some (vs,C++ [A]):=by rw[eo];exact Qyq (gQs.mp hs).1
    have eb:G2 w (lB s h) h=some (.do_ g rn a1 t):=by
     unfold G2
     rw[eG ho (f:=A) (by simp),X]
     exact Z
    have B:eD w s h=(p0 w s h,none):=by
     unfold eD
     rw[K,Y,fG d,Quq (λz=>z.2 W),b]
     simp only
     rw[Qhq ce]
    have M:dg w n {s with aj:=s.aj.set i (eX J),af:=s.af.set h (vs,C++ [A])}:=(x.hand hw a0).room h3 ri.leave
    obtain⟨sc,G,H⟩:=Ad o X
    have k:=H _ (mQg Z)
    have P:h<s.af.length:=(gQs.mp hs).1
    cases g with
    | none=>
      have ee:p0 w s h={s with aj:=s.aj.set i (eX J),af:=s.af.set h (vs,C++ [A])}:=by unfold p0;rw[eb];exact eo
      rw[B,ee]
      exact⟨Az hs l u b ce λS Q q=>tH hs h1 d (by omega) (by omega) X p2 Z (λ_ e=>e.symm) q,M.mono (Nat.le_succ n)⟩
    | some y=>
      obtain⟨I,p⟩:=DH (y:=y) (v:=f.told) o M (Qyq P) (by simp) G (k.1 y rfl) fi.tv
      have ee:p0 w s h=lK w {s with aj:=s.aj.set i (eX J),af:=s.af.set h (vs,C++ [A])} h y f.told:=by unfold p0;rw[eb,eo,K]
      rw[B,ee]
      exact⟨Az hs l u b ce λS Q q=>tH hs h1 d (by omega) (by omega) X p2 Z (λ_ e=>by rw[e];exact I) q,p.mono (Nat.le_succ n)⟩
   ·
    have F:f.row.toNat<pr.length:=by omega
    have a:pr[f.row.toNat]?=some (pr[f.row.toNat]):=gQe F
    generalize pr[f.row.toNat]=r' at a
    have k:=((o.rm _ (mQg h3)).pr _ (mQg h4)).1 r' (mQg a)
    have he:LS w s h r' none:=by
     cases r' with
     |say t=>exact absurd k.1 (show¬(false=true) by decide)
     |_=>rfl
    have M:=x.goes hs l b (m:=f.row+1) (by omega) (by omega)
    have P:h<s.af.length:=(gQs.mp hs).1
    have B:eD w s h=(uv w {s with af:=s.af.set h (vs,fs.dropLast++ [{f with row:=f.row+1}])} h r',none):=by
     unfold eD ib
     rw[K,Y,fG d,Quq (λz=>z.2 W),b]
     simp only
     rw[Quq ce,a,gM hs]
     refine congrArg (Prod.mk _) ?_
     cases r' with
     |say t=>exact absurd k.1 (show¬(false=true) by decide)
     |_=>rfl
    rw[B]
    obtain⟨L,p⟩:=Ey (f:={f with row:=f.row+1}) (r:=r') (pr:=pr) o M hn (Qyq P) (by simp) b (by show 1<=f.row+1;omega) (by show pr[(f.row+1-1).toNat]?=_;rw[show f.row+1-1=f.row by omega];exact a)
    exact⟨Aw hs l u b U a (by omega) (by omega) he L,p⟩
  ·
   have B:eD w s h=({s with aj:=s.aj.set i (f_ J h)},none):=by
    unfold eD
    rw[K,Y,fG d,Qhq ⟨c,W⟩]
    rfl
   rw[B]
   exact⟨FM hs l h1 d W (by omega) (by omega),(x.mono (Nat.le_succ n)).room h3 ri.come⟩
end
abbrev Cell:=Nat×O
def wN(S:aD)(L:List Cell):Prop:=∀p∈L,S[p.1]?=some p.2
def xX{L:List Cell}(nd:(L.map (·.1)).Nodup):∀{p q:Cell},p∈L->q∈L->p.1=q.1->p=q:=by
 induction L with
 |nil=>intro p q h;cases h
 | cons a L f=>
   rw[QDq,List.nodup_cons] at nd
   intro p q d g e
   rcases Qsq.mp d with b|b <;>rcases Qsq.mp g with c|c
   · rw[b,c]
   · exact absurd (Qkq.mpr ⟨q,c,by rw[←e,b]⟩) nd.1
   · exact absurd (Qkq.mpr ⟨p,b,by rw[e,c]⟩) nd.1
   · exact f nd.2 b c e
def wN.set{S:aD}{L a:List Cell}{b:Nat}{o:O}(H:wN S L)(nd:(a.map (·.1)).Nodup)(f:(b,o)∈a)(hs:∀p∈a,p.1≠b->p∈L)(g:b<S.length):wN (S.set b o) a:=λp d=>by
 by_cases c:p.1=b
 ·have e:=xX nd d f c
  rw[e]
  exact Qyq g
 ·rw[QKq (Ne.symm c)]
  exact H p (hs p d c)
def cP(l:List Int):O:=.lst (l.map D.int)
structure Fp where
 a:Nat
 v:Nat
 r:Nat
 l:Nat
 b:Nat
 bs:List Nat
structure Cc where
 a:Nat
 v:Nat
 f:Nat
 fs:List Nat
structure Gh where
 a:Nat
 r:Nat
structure zS where
 k:Nat
 r:Nat
 p:Nat
 s:Nat
 h:Nat
 rs:List Fp
 ps:List Gh
 hs:List Cc
def qF(f:cC):O:=.lst [.int f.room,.int f.deed,.int f.row,.int f.given,.int f.told]
def DP(l:List (Int×Int)):O:=.lst (l.map pairD)
def AQ(t:Fp)(r:dQ):List Cell:= [(t.a,.lst [.ref t.v,.int r.within,.ref t.r,.ref t.l,.ref t.b]),(t.v,cP r.vals),(t.r,cP r.row),(t.l,cP r.ag),(t.b,.lst (t.bs.map D.ref))]++(t.bs.zip r.aa).map λp=>(p.1,DP p.2)
def wy(t:Cc)(h:List Int×List cC):List Cell:= [(t.a,.lst [.ref t.v,.ref t.f]),(t.v,cP h.1),(t.f,.lst (t.fs.map D.ref))]++(t.fs.zip h.2).map λp=>(p.1,qF p.2)
def KL(t:Gh)(p:Int×List Int):List Cell:= [(t.a,.lst [.int p.1,.ref t.r]),(t.r,cP p.2)]
def EY(t:zS)(s:bO):List Cell:= [(t.k,.lst [.ref t.r,.ref t.p,.ref t.s,.ref t.h]),(t.r,.lst (t.rs.map λx=>.ref x.a)),(t.p,.lst (t.ps.map λx=>.ref x.a)),(t.s,cP s.ak),(t.h,.lst (t.hs.map λx=>.ref x.a))]++
 ((t.rs.zip s.aj).flatMap (λp=>AQ p.1 p.2)++((t.ps.zip s.ai).flatMap (λp=>KL p.1 p.2)++(t.hs.zip s.af).flatMap λp=>wy p.1 p.2))
def CA(t:Fp):List Nat:= [t.a,t.v,t.r,t.l,t.b]++t.bs
def AV(t:Cc):List Nat:= [t.a,t.v,t.f]++t.fs
def JO(t:Gh):List Nat:= [t.a,t.r]
def zZ(t:zS):List Nat:= [t.k,t.r,t.p,t.s,t.h]++(t.rs.flatMap CA++(t.ps.flatMap JO++t.hs.flatMap AV))
theorem y6{α a:Type}:∀(xs:List α) (ys:List a),((xs.zip ys).map (·.1)).Sublist xs
 | [],_=>by simp
 |_::_,[]=>by simp
 |x::xs,y::ys=>by simpa using (y6 xs ys)
theorem me{α a:Type}{f:α×a->List Cell}{g:α->List Nat}(h:∀p,((f p).map (·.1)).Sublist (g p.1)):∀(xs:List α) (ys:List a),(((xs.zip ys).flatMap f).map (·.1)).Sublist (xs.flatMap g)
 | [],_=>by simp
 |_::_,[]=>by simp
 | x::xs,y::ys=>by
   rw[List.zip_cons_cons,QSq,QSq,Qzq]
   exact(h (x,y)).append (me h xs ys)
def Dg(p:Fp×dQ):((AQ p.1 p.2).map (·.1)).Sublist (CA p.1):=by
 unfold AQ CA
 rw[Qzq,QPq]
 exact(QjQ _).append (y6 _ _)
def Cj(p:Cc×(List Int×List cC)):((wy p.1 p.2).map (·.1)).Sublist (AV p.1):=by
 unfold wy AV
 rw[Qzq,QPq]
 exact(QjQ _).append (y6 _ _)
def K_(p:Gh×(Int×List Int)):((KL p.1 p.2).map (·.1)).Sublist (JO p.1):=QjQ _
def zF(t:zS)(s:bO):((EY t s).map (·.1)).Sublist (zZ t):=by
 unfold EY zZ
 rw[Qzq,Qzq,Qzq]
 exact(QjQ _).append ((me Dg _ _).append ((me K_ _ _).append (me Cj _ _)))
structure Nw(lo:Nat)(S:aD)(t:zS)(s:bO):Prop where
 ho:wN S (EY t s)
 nd:(zZ t).Nodup
 lo:∀a∈zZ t,lo<=a
 lr:t.rs.length=s.aj.length
 lp:t.ps.length=s.ai.length
 lh:t.hs.length=s.af.length
 lb:∀p∈t.rs.zip s.aj,p.1.bs.length=p.2.aa.length
 lf:∀p∈t.hs.zip s.af,p.1.fs.length=p.2.2.length
theorem cI{α a:Type}:∀{xs:List α} {ys:List a} {i:Nat} {x:α} {y:a},xs[i]?=some x->ys[i]?=some y->(x,y)∈xs.zip ys
 | [],_,_,_,_,h,_=>by simp at h
 |_::_,[],_,_,_,_,h=>by simp at h
 |_::_,_::_,0,_,_,h1,h2=>by simp at h1 h2;subst h1 h2;simp
 | _::xs,_::ys,i+1,x,y,h1,h2=>by
   have:=cI (xs:=xs) (ys:=ys) (i:=i) (x:=x) (y:=y) (by simpa using h1) (by simpa using h2)
   simp[this]
theorem jr{α a:Type}:∀{xs:List α} {ys:List a} {p:α×a},p∈xs.zip ys->∃i:Nat,xs[i]?=some p.1/\ys[i]?=some p.2
 | [],_,_,h=>by cases h
 |_::_,[],_,h=>by cases h
 | x::xs,y::ys,p,h=>by
   rcases Qsq.mp h with rfl|h
   · exact⟨0,rfl,rfl⟩
   · obtain⟨i,b,c⟩:=jr h
     exact⟨i+1,by simpa using b,by simpa using c⟩
def DM{α c:Type}{xs:List α}{ys:List c}{i:Nat}{x x':α}{y d:c}(k:xs[i]?=some x)(l:ys[i]?=some y){p:α×c}(h:p∈(xs.set i x').zip (ys.set i d)):p=(x',d)\/p∈xs.zip ys:=by
 obtain⟨j,b,a⟩:=jr h
 rcases get_set b with⟨rfl,e1⟩|⟨n1,b⟩
 ·rcases get_set a with⟨_,g⟩|⟨f,_⟩
  ·exact .inl (Prod.ext e1 g)
  ·exact absurd rfl f
 ·rcases get_set a with⟨e,_⟩|⟨_,a⟩
  ·exact absurd e n1
  ·exact .inr (cI b a)
def yQ{α:Type}{xs:List α}{i:Nat}{x:α}(h:xs[i]?=some x):xs.set i x=xs:=by
 apply List.ext_getElem?
 intro j
 by_cases c:i=j
 ·subst c;rw[Qyq (gQs.mp h).1,h]
 ·rw[QKq c]
section
variable{lo:Nat}{S:aD}{t:zS}{s:bO}{i b:Nat}{o:O}
def Nw.lt(N:Nw lo S t s){p:Cell}(h:p∈EY t s):p.1<S.length:=(gQs.mp (N.ho p h)).1
def Nw.top(N:Nw lo S t s):S[t.k]?=some (.lst [.ref t.r,.ref t.p,.ref t.s,.ref t.h]):=N.ho (t.k,_) (by simp[EY])
def Nw.tr(N:Nw lo S t s):S[t.r]?=some (.lst (t.rs.map λx=>.ref x.a)):=N.ho (t.r,_) (by simp[EY])
def Nw.tp(N:Nw lo S t s):S[t.p]?=some (.lst (t.ps.map λx=>.ref x.a)):=N.ho (t.p,_) (by simp[EY])
def Nw.ts(N:Nw lo S t s):S[t.s]?=some (cP s.ak):=N.ho (t.s,cP s.ak) (mQa.mpr (.inl (by simp)))
def Nw.th(N:Nw lo S t s):S[t.h]?=some (.lst (t.hs.map λx=>.ref x.a)):=N.ho (t.h,_) (by simp[EY])
def k_{x:Fp}{r:dQ}{p:Cell}(h:(x,r)∈t.rs.zip s.aj)(a:p∈AQ x r):p∈EY t s:=mQa.mpr (.inr (mQa.mpr (.inl (QOq.mpr ⟨_,h,a⟩))))
def vq{x:Gh}{r:Int×List Int}{p:Cell}(h:(x,r)∈t.ps.zip s.ai)(a:p∈KL x r):p∈EY t s:=mQa.mpr (.inr (mQa.mpr (.inr (mQa.mpr (.inl (QOq.mpr ⟨_,h,a⟩))))))
def qt{x:Cc}{r:List Int×List cC}{p:Cell}(h:(x,r)∈t.hs.zip s.af)(a:p∈wy x r):p∈EY t s:=mQa.mpr (.inr (mQa.mpr (.inr (mQa.mpr (.inr (QOq.mpr ⟨_,h,a⟩))))))
def pT{p:Cell}(h:p∈EY t s):(p∈[(t.k,.lst [.ref t.r,.ref t.p,.ref t.s,.ref t.h]),(t.r,.lst (t.rs.map λx=>.ref x.a)),(t.p,.lst (t.ps.map λx=>.ref x.a)),(t.s,cP s.ak),(t.h,.lst (t.hs.map λx=>.ref x.a))])∨
  (∃q∈t.rs.zip s.aj,p∈AQ q.1 q.2)\/(∃q∈t.ps.zip s.ai,p∈KL q.1 q.2)\/∃q∈t.hs.zip s.af,p∈wy q.1 q.2:=by
 rcases mQa.mp h with h|h
 ·exact .inl h
 ·rcases mQa.mp h with h|h
  ·exact .inr (.inl (QOq.mp h))
  ·rcases mQa.mp h with h|h
   ·exact .inr (.inr (.inl (QOq.mp h)))
   ·exact .inr (.inr (.inr (QOq.mp h)))
def Nw.app(N:Nw lo S t s){G:aD}:Nw lo (S++G) t s:=⟨λp a=>aN (N.ho p a),N.nd,N.lo,N.lr,N.lp,N.lh,N.lb,N.lf⟩
def Nw.room(N:Nw lo S t s){x:Fp}{r r':dQ}(f:t.rs[i]?=some x)(m:s.aj[i]?=some r)(v:(b,o)∈AQ x r')(hs:∀p∈AQ x r',p.1≠b->p∈AQ x r)(g:r'.aa.length=r.aa.length):Nw lo (S.set b o) t (fF s i r'):=by
 have d:=cI f m
 have z:=(gQs.mp m).1
 have n:(x,r')∈t.rs.zip (fF s i r').aj:=cI f (Qyq z)
 have u:∀q∈t.rs.zip (fF s i r').aj,q=(x,r')\/q∈t.rs.zip s.aj:=λq a=>DM (x':=x) f m (by rw[yQ f];exact a)
 have A:=k_ n v
 refine⟨wN.set N.ho ((zF _ _).nodup N.nd) A (λp j y=> ?_) ?_,N.nd,N.lo,by simpa [fF] using N.lr,N.lp,N.lh,λq a=> ?_,N.lf⟩
 ·rcases pT j with h|⟨q,a,h⟩|⟨q,a,h⟩|⟨q,a,h⟩
  ·exact mQa.mpr (.inl h)
  ·rcases u q a with rfl|a
   ·exact k_ d (hs p h y)
   ·exact k_ a h
  ·exact vq a h
  ·exact qt a h
 ·have:b∈(AQ x r).map (·.1):=by
   have k:b∈(AQ x r').map (·.1):=Qkq.mpr ⟨_,v,rfl⟩
   have e:(AQ x r').map (·.1)=(AQ x r).map (·.1):=by
    have w:=N.lb _ d
    have c:∀l:List (List (Int×Int)),x.bs.length=l.length->((x.bs.zip l).map λp=>((p.1,DP p.2):Cell)).map (·.1)=x.bs:=λl g=>by
     rw[QPq]
     exact List.map_fst_zip (Nat.le_of_eq g)
    unfold AQ
    rw[Qzq,Qzq,c _ w,c _ (by rw[g];exact w)]
    rfl
   rw[←e]
   exact k
  obtain⟨p,j,e⟩:=Qkq.mp this
  rw[←e]
  exact N.lt (k_ d j)
 ·rcases u q a with rfl|a
  ·show x.bs.length=r'.aa.length
   rw[g]
   exact N.lb _ d
  ·exact N.lb q a
def Nw.share(N:Nw lo S t s){d:List Int}:Nw lo (S.set t.s (cP d)) t {s with ak:=d}:=by
 refine⟨wN.set N.ho ((zF _ _).nodup N.nd) (by simp[EY]) (λp e c=> ?_) (gQs.mp N.ts).1,N.nd,N.lo,N.lr,N.lp,N.lh,N.lb,N.lf⟩
 rcases pT e with h|⟨q,a,h⟩|⟨q,a,h⟩|⟨q,a,h⟩
 ·refine mQa.mpr (.inl ?_)
  simp only[Qsq,QXq,or_false] at h⊢
  rcases h with h|h|h|h|h
  ·exact .inl h
  ·exact .inr (.inl h)
  ·exact .inr (.inr (.inl h))
  ·rw[h] at c;exact absurd rfl c
  ·exact .inr (.inr (.inr (.inr h)))
 ·exact k_ a h
 ·exact vq a h
 ·exact qt a h
def Nw.hand(N:Nw lo S t s){x x':Cc}{r r':List Int×List cC}(e:t.hs[i]?=some x)(g:s.af[i]?=some r)(z:x'.a=x.a)(B:(b,o)∈wy x' r')(hs:∀p∈wy x' r',p.1≠b->p∈wy x r\/S[p.1]?=some p.2)(C:b<S.length)(A:x'.fs.length=r'.2.length)
  (nd:(zZ {t with hs:=t.hs.set i x'}).Nodup) (f:∀a∈zZ {t with hs:=t.hs.set i x'},lo<=a):Nw lo (S.set b o) {t with hs:=t.hs.set i x'} {s with af:=s.af.set i r'}:=by
 have v:=cI e g
 have w:=(gQs.mp g).1
 have n:=(gQs.mp e).1
 have j:(x',r')∈(t.hs.set i x').zip (s.af.set i r'):=cI (Qyq n) (Qyq w)
 have m:∀q∈(t.hs.set i x').zip (s.af.set i r'),q=(x',r')\/q∈t.hs.zip s.af:=λq d=>DM e g d
 have y:(b,o)∈EY {t with hs:=t.hs.set i x'} {s with af:=s.af.set i r'}:=qt j B
 have u:(t.hs.set i x').map (λx=>D.ref x.a)=t.hs.map λx=>.ref x.a:=by
  rw[List.map_set,z]
  exact yQ (by rw[gQm,e];rfl)
 refine⟨λp l=> ?_,nd,f,N.lr,N.lp,by simpa using N.lh,N.lb,λq d=> ?_⟩
 ·by_cases c:p.1=b
  ·rw[xX ((zF _ _).nodup nd) l y c]
   exact Qyq C
  ·rw[QKq (Ne.symm c)]
   rcases pT l with h|⟨q,d,h⟩|⟨q,d,h⟩|⟨q,d,h⟩
   ·refine N.ho p (mQa.mpr (.inl ?_))
    have h:p∈[(t.k,O.lst [.ref t.r,.ref t.p,.ref t.s,.ref t.h]),(t.r,.lst (t.rs.map λx=>.ref x.a)),(t.p,.lst (t.ps.map λx=>.ref x.a)),(t.s,cP s.ak),(t.h,.lst ((t.hs.set i x').map λx=>.ref x.a))]:=h
    rw[u] at h
    exact h
   ·exact N.ho p (k_ d h)
   ·exact N.ho p (vq d h)
   ·rcases m q d with rfl|d
    ·rcases hs p h c with h|h
     ·exact N.ho p (qt v h)
     ·exact h
    ·exact N.ho p (qt d h)
 ·rcases m q d with rfl|d
  ·exact A
  ·exact N.lf q d
end
end W28
namespace DL
open PySem PySem.Spec L2
section
variable{Γ:cy}{S:aD}
def Nu{f:fh}{Q:D->aD->Prop}(h:E f Γ S λp a=>p.2.isL=true/\∃bs,Ht p.1=some bs/\Q (.bl (bs.all id)) a):E (Jl f) Γ S Q:=by
 obtain⟨p,a,b,l,bs,c,q⟩:=h
 exact⟨_,a,by unfold Jl;rw[b];simp only[Qbq];rw[Qhq l,c];rfl,q⟩
def GK{i j:Int}{Q:D->Prop}(h:GA i j)(q:Q (.int (i^j.toNat))):Op (yt S (.int i) (.int j)) Q:=⟨_,by simp only[yt,intD];rw[Qhq h],q⟩
def LF{i j:Int}{Q:D->Prop}(h:IntMulOk i j)(q:Q (.int (i*j))):Op (nH S (.int i) (.int j)) Q:=⟨_,by simp only[nH,intD];rw[Qhq h],q⟩
end
theorem BE:∀n:Nat,Ht (List.replicate n (.bl true))=some (List.replicate n true)
 |0=>rfl
 |n+1=>by simp only[QNq,Ht];rw[BE n];rfl
end DL
namespace W28
open PySem PySem.Spec L2 DL
section
variable{S S0:aD}{Q:Res->aD->Prop}
def FC(l:List Nat):l.map mC=(l.map λh:Nat=>(h:Int)).map D.int:=by rw[QPq];rfl
def ko{l:List Nat}:∀d∈l.map mC,(∀k,d≠.ref k)/\cm 0 d=true:=λd b=>by
 obtain⟨a,_,rfl⟩:=Qkq.mp b
 exact⟨λk z=>(nomatch z),rfl⟩
def Jt{k i:Nat}{l:List Nat}{e:Int}(x:Ex k S0 S)(hi:i≠k)(u:S[i]?=some (.lst (l.map mC)))(B:0<l.length)(A:l.length<1000)
  (h:∀(m:Nat) (f:aD),m∈l->Ex k S0 f->Ex k S f->f.length=S.length->Q (.d (.int m)) f):Fn kH [.ref k,.ref i,.int e] S Q:=by
 have y:Ex k S S:=by obtain⟨a,b,c,C⟩:=x.pot;exact Ex.refl C
 have g:∀q,Ex k S q->q.length=S.length->T (cp (aw bK (aq (ar 0) (aq (ar 1) av)))) [some (.ref k),some (.ref i),some (.int e)] q (λo=>match o with
   |.nx _ f=>Op (settle S .non f) λp=>Q p.1 p.2|.rt d f=>Op (settle S d f) λp=>Q p.1 p.2|.rl l f=>Op (eO S l f) λp=>Q p.1 p.2|_=>False):=λq v F=>by
  symm
  refine fe (xs:=l.map mC) v hi (v.keep _ _ hi u) (by simpa using B) (by simpa using A) ko (λd j=>dN (ko d j).2) λd f j r w n=> ?_
  obtain⟨m,s,rfl⟩:=Qkq.mp j
  dsimp only[aZ,aP,aY,bS,bV,eZ]
  refine lU r x.lt (ko _ j).1 (dN (ko _ j).2) λa b c=> ?_
  exact h m _ s x.set y.set (by simp)
 refine cq ?_
 unfold oD
 apply aK (bU (om (cN (yk ?_))))
 refine a7 u ?_
 refine⟨_,_,rfl,by rw[FC];exact fH _,?_⟩
 rw[m8]
 show if decide (e∈l.map λh:Nat=>(h:Int))=true then _ else _
 by_cases c:e∈l.map λh:Nat=>(h:Int)
 ·rw[Qeq c,Qhq rfl]
  obtain⟨m,s,rfl⟩:=Qkq.mp c
  symm
  apply bN y (by decide) (by decide) λd f j r w n=> ?_
  refine dG ?_
  dsimp only[aZ,aP,aY,bS,bV,eZ]
  by_cases t:(d:Int)=0
  ·rw[Qeq t,Qhq rfl]
   symm
   refine lU r x.lt (λk z=>(nomatch z)) rfl λa b c=> ?_
   exact h m _ s x.set y.set (by simp)
  ·rw[Qdq t,Quq (by decide)]
   refine cc ?_
   exact g f r n
 ·rw[Qdq c,Quq (by decide)]
  rw[Quq (by decide)]
  refine cc ?_
  exact g S y rfl
end
end W28
namespace DL
open PySem PySem.Spec L2
def Cv{n:Nat}{b:cA}{ds:List D}{S:aD}{Q:Res->aD->Prop} (h:T b (ds.map some++List.replicate (n-ds.length) none) S λo=>match o with
   |.nx _ a=>Q (.d .non) a|.rt d a=>Q (.d d) a|.rl l a=>Q (.l l) a|_=>False):Fn (Cb n b) ds S Q:=by
 obtain⟨o,c,q⟩:=h
 cases o with
 |nx e a=>exact⟨_,_,by unfold Cb;rw[c];rfl,q⟩
 |rt d a=>exact⟨_,_,by unfold Cb;rw[c];rfl,q⟩
 |rl d a=>exact⟨_,_,by unfold Cb;rw[c];rfl,q⟩
 |bk=>exact q.elim
 |ct=>exact q.elim
def C_{b:cy}{S:aD}{n k:Nat}{g:oo}{ds:List D}{Q:cy->aD->Prop}(f:S[k]?=some (.lst ds))(d:ds.length=n)(h:M_ g ds b S Q):Tg (GG (nG n g)) (.ref k) b S Q:=by
 obtain⟨a,c,e,q⟩:=h
 exact⟨a,c,by unfold GG;simp only[f];unfold nG;rw[Qhq d];exact e,q⟩
def DJ{a:D}{l:List D}{Q:List D×D->Prop}(q:Q (l,a))(b:l.length<999):Op (gK (a::l) [.int 0]) Q:=by
 refine⟨_,?_,q⟩
 unfold gK
 have h:seqIndex? (0:Int) (a::l).length=some 0:=W28.HU (n:=(a::l).length) (j:=0) (by simp) (by simp;omega)
 simp only
 rw[Qhq (by decide),h]
 rfl
def I_{a:D}{l:List D}{Q:List D×D->Prop}(q:Q (l,a)):Op (Gc (l++ [a]) []) Q:=⟨_,by unfold Gc;simp,q⟩
def kq{ds:List D}{y:D}{Q:List D×D->Prop}(a:ds.length<999)(q:Q (ds++ [y],.non)):Op (ff ds [y]) Q:=⟨_,by unfold ff;exact Qhq (bF (by omega)),q⟩
end DL
namespace W28
open PySem PySem.Spec L2 DL
structure Bg(lo:Nat)(S S':aD):Prop where
 len:S.length<=S'.length
 eq:∀j,j<lo->S'[j]?=S[j]?
def Bg.refl{lo:Nat}{S:aD}:Bg lo S S:=⟨Qmq _,λ_ _=>rfl⟩
def Bg.put{lo b:Nat}{S a:aD}{o:O}(k:Bg lo S a)(h:lo<=b):Bg lo S (a.set b o):=⟨by simpa using k.len,λj c=>by rw[QKq (by omega)];exact k.eq j c⟩
structure Go(lo:Nat)(S0 S:aD)(t:zS)(s:bO):Prop where
 n:Nw lo S t s
 k:Bg lo S0 S
 l:lo<=S0.length
section
variable{lo:Nat}{S0 S:aD}{t:zS}{s:bO}{i:Nat}
def Go.app(g:Go lo S0 S t s){G:aD}:Go lo S0 (S++G) t s:=⟨g.n.app,⟨by rw[lQa];have:=g.k.len;omega,λj a=>by rw[QHq (by have:=g.k.len;have:=g.l;omega)];exact g.k.eq j a⟩,g.l⟩
def D0{x:Fp}(b:t.rs[i]?=some x){a:Nat}(h:a∈CA x):a∈zZ t:=mQa.mpr (.inr (mQa.mpr (.inl (QOq.mpr ⟨x,mQg b,h⟩))))
def DW{x:Cc}(b:t.hs[i]?=some x){a:Nat}(h:a∈AV x):a∈zZ t:=mQa.mpr (.inr (mQa.mpr (.inr (mQa.mpr (.inr (QOq.mpr ⟨x,mQg b,h⟩))))))
section
variable{x:Fp}{r:dQ}(g:Go lo S0 S t s)(hx:t.rs[i]?=some x)(hr:s.aj[i]?=some r)
include g hx hr
def Go.ca:S[x.a]?=some (.lst [.ref x.v,.int r.within,.ref x.r,.ref x.l,.ref x.b]):=g.n.ho (x.a,_) (k_ (cI hx hr) (mQa.mpr (.inl (by simp))))
def Go.cv:S[x.v]?=some (cP r.vals):=g.n.ho (x.v,cP r.vals) (k_ (cI hx hr) (mQa.mpr (.inl (by simp))))
def Go.cr:S[x.r]?=some (cP r.row):=g.n.ho (x.r,cP r.row) (k_ (cI hx hr) (mQa.mpr (.inl (by simp))))
def Go.cl:S[x.l]?=some (cP r.ag):=g.n.ho (x.l,cP r.ag) (k_ (cI hx hr) (mQa.mpr (.inl (by simp))))
def Go.cb:S[x.b]?=some (.lst (x.bs.map D.ref)):=g.n.ho (x.b,_) (k_ (cI hx hr) (mQa.mpr (.inl (by simp))))
def Go.cbs{j a:Nat}{l:List (Int×Int)}(b:x.bs[j]?=some a)(c:r.aa[j]?=some l):S[a]?=some (DP l):=g.n.ho (a,_) (k_ (cI hx hr) (mQa.mpr (.inr (Qkq.mpr ⟨_,cI b c,rfl⟩))))
def Go.lb:x.bs.length=r.aa.length:=g.n.lb _ (cI hx hr)
def Go.within(v:Int):Go lo S0 (S.set x.a (.lst [.ref x.v,.int v,.ref x.r,.ref x.l,.ref x.b])) t (fF s i {r with within:=v}):=
 ⟨g.n.room hx hr (mQa.mpr (.inl (QBq ..))) (λp d c=>by
  rcases Qsq.mp d with h|h
  ·rw[h] at c;exact absurd rfl c
  ·exact Qpq _ h) rfl,g.k.put (g.n.lo _ (D0 hx (by simp[CA]))),g.l⟩
def Go.vals(c:List Int):Go lo S0 (S.set x.v (cP c)) t (fF s i {r with vals:=c}):=
 ⟨g.n.room hx hr (mQa.mpr (.inl (Qpq _ (QBq ..)))) (λp a b=>by
  rcases Qsq.mp a with h|a
  ·exact Qsq.mpr (.inl h)
  ·rcases Qsq.mp a with h|h
   ·rw[h] at b;exact absurd rfl b
   ·exact Qpq _ (Qpq _ h)) rfl,g.k.put (g.n.lo _ (D0 hx (by simp[CA]))),g.l⟩
def Go.row(c:List Int):Go lo S0 (S.set x.r (cP c)) t (fF s i {r with row:=c}):=
 ⟨g.n.room hx hr (mQa.mpr (.inl (by simp))) (λp a b=>by
  rcases Qsq.mp a with h|a
  ·exact Qsq.mpr (.inl h)
  ·rcases Qsq.mp a with h|a
   ·exact Qpq _ (Qsq.mpr (.inl h))
   ·rcases Qsq.mp a with h|h
    ·rw[h] at b;exact absurd rfl b
    ·exact Qpq _ (Qpq _ (Qpq _ h))) rfl,g.k.put (g.n.lo _ (D0 hx (by simp[CA]))),g.l⟩
def Go.ag(c:List Int):Go lo S0 (S.set x.l (cP c)) t (fF s i {r with ag:=c}):=
 ⟨g.n.room hx hr (mQa.mpr (.inl (by simp))) (λp a b=>by
  rcases Qsq.mp a with h|a
  ·exact Qsq.mpr (.inl h)
  ·rcases Qsq.mp a with h|a
   ·exact Qpq _ (Qsq.mpr (.inl h))
   ·rcases Qsq.mp a with h|a
    ·exact Qpq _ (Qpq _ (Qsq.mpr (.inl h)))
    ·rcases Qsq.mp a with h|h
     ·rw[h] at b;exact absurd rfl b
     ·exact Qpq _ (Qpq _ (Qpq _ (Qpq _ h)))) rfl,g.k.put (g.n.lo _ (D0 hx (by simp[CA]))),g.l⟩
end
def p7{r1 a:dQ}:fF (fF s i r1) i a=fF s i a:=by unfold fF;simp
def zt{r1:dQ}{r:dQ}(a:s.aj[i]?=some r):(fF s i r1).aj[i]?=some r1:=Qyq (gQs.mp a).1
section
variable{x:Fp}{r:dQ}{Q:Res->aD->Prop}(g:Go lo S0 S t s)(hx:t.rs[i]?=some x)(hr:s.aj[i]?=some r)
include g hx hr
def Bc{h:Int}(f: -1<=r.within)(j:r.row.length<900)(q:∀b,Go lo S0 b t (fF s i (f_ r h))->Q (.d .non) b):Fn g6 [.ref x.a,.int h] S Q:=by
 refine Cv ?_
 unfold mw
 symm
 apply bR (g.ca hx hr) (d:=.int r.within) rfl ?_
 refine aL (λc=> ?_) (λc=> ?_)
 ·have c:r.within<0:=QZq c
  have e:f_ r h={r with within:=h}:=Qhq (by omega)
  rw[e] at q
  symm
  exact⟨_,_,_,_,rfl,rfl,g.ca hx hr,rfl,q _ (g.within hx hr h)⟩
 ·have c:¬r.within<0:=QaQ c
  have e:f_ r h={r with row:=r.row++ [h]}:=Quq (by omega)
  rw[e] at q
  apply fm (fZ ?_)
  refine bR (g.ca hx hr) (d:=.ref x.r) rfl ?_
  apply⟨_,_,rfl,g.cr hx hr,?_⟩
  refine⟨_,g.cr hx hr,kq (by rw[lQm];omega) ?_⟩
  have:=q _ (g.row hx hr (r.row++ [h]))
  unfold cP at this
  rw[Qzq] at this
  exact this
def Bd(o:r.row.length<900)(m:r.ag.length<900)(q:∀n,Go lo S0 n t (fF s i (eX r))->Q (.d .non) n):Fn gZ [.ref x.a] S Q:=by
 refine Cv ?_
 unfold mK
 symm
 apply jH ?_
 refine⟨1,rfl,?_⟩
 refine Jo (ax rfl (cO ⟨_,_,_,_,rfl,rfl,g.ca hx hr,rfl,?_⟩))
 have f:=g.within hx hr (-1)
 have e:=zt (r1:={r with within:= -1}) hr
 show T _ _ (S.set x.a (.lst [.ref x.v,.int (-1),.ref x.r,.ref x.l,.ref x.b])) _
 generalize S.set x.a (.lst [.ref x.v,.int (-1),.ref x.r,.ref x.l,.ref x.b])=S1 at f⊢
 obtain⟨vals,within,row,ag,aa⟩:=r
 apply bU (cN (uw ?_))
 refine bR (f.ca hx e) (d:=.ref x.l) rfl ?_
 refine a7 (f.cl hx e) ?_
 refine⟨⟨rfl,f.cl hx e⟩,?_⟩
 dsimp only[aZ,aP,aY,bS,bV,eZ]
 cases ag with
 | cons a l=>
   refine aL (λ_=> ?_) (λc=>by cases c)
   apply u3 (fZ ?_)
   refine bR (f.ca hx e) (d:=.ref x.l) rfl ?_
   apply⟨_,_,rfl,f.cl hx e,?_⟩
   refine⟨_,f.cl hx e,DJ ?_ (by rw[lQm];simp at m;omega)⟩
   have j:=f.ag hx e l
   have h:=zt (r1:={vals:=vals,within:= -1,row:=row,ag:=l,aa:=aa}) e
   refine Jo (ax rfl (cO ⟨_,_,_,_,rfl,rfl,j.ca hx h,rfl,?_⟩))
   have k:=j.within hx h a
   rw[p7,p7] at k
   exact q _ k
 | nil=>
   refine aL (λc=>by cases c) (λ_=> ?_)
   apply bU (cN (uw ?_))
   refine bR (f.ca hx e) (d:=.ref x.r) rfl ?_
   refine a7 (f.cr hx e) ?_
   refine⟨⟨rfl,f.cr hx e⟩,?_⟩
   dsimp only[aZ,aP,aY,bS,bV,eZ]
   cases row with
   | cons a l=>
     refine aL (λ_=> ?_) (λc=>by cases c)
     apply u3 (fZ ?_)
     refine bR (f.ca hx e) (d:=.ref x.r) rfl ?_
     apply⟨_,_,rfl,f.cr hx e,?_⟩
     refine⟨_,f.cr hx e,DJ ?_ (by rw[lQm];simp at o;omega)⟩
     have j:=f.row hx e l
     have h:=zt (r1:={vals:=vals,within:= -1,row:=l,ag:= [],aa:=aa}) e
     refine Jo (ax rfl (cO ⟨_,_,_,_,rfl,rfl,j.ca hx h,rfl,?_⟩))
     have k:=j.within hx h a
     rw[p7,p7] at k
     exact q _ k
   | nil=>
     refine aL (λc=>by cases c) (λ_=>cc ?_)
     exact q _ f
end
end
end W28
namespace DL
open PySem PySem.Spec L2
def HD{S:aD}{k:Nat}{ds:List D}{Q:List D×Tag->Prop}(a:S[k]?=some (.frz ds))(q:Q (ds,.fz k)):Op (vB S (.ref k)) Q:=⟨_,by simp only[vB,a],q⟩
def Nt{S:aD}{k:Nat}{ds:List D}{i:Int}{d:D}{Q:D->Prop}(a:S[k]?=some (.frz ds))(h:kQ ds i=some d)(q:Q d):Op (fR S (.ref k) (.int i)) Q:=⟨_,by simp only[fR,a];exact h,q⟩
def M9{i:Int}{Q:D->Prop}(q:Q (.int (if i<0 then -i else i))):Op (IV [.int i]) Q:=⟨_,rfl,q⟩
def iI{b:Bool}{Q:D->Prop}(q:Q (.int (if b then 1 else 0))):Op (intOfD [.bl b]) Q:=⟨_,rfl,q⟩
def vw{j:Nat}{n:Nat}{d:D}(h:(jZ 0 (j:Int))[n]?=some d):d=.int n/\n<j:=by
 have a:n<j:=by
  have:=(gQs.mp h).1
  unfold jZ at this
  simpa using this
 unfold jZ at h
 rw[gQm,List.getElem?_range (by simpa using a)] at h
 cases h
 exact⟨by simp,a⟩
def G8{j:Nat}:(jZ 0 (j:Int)).length=j:=by
 unfold jZ
 simp
end DL
namespace W28
open PySem PySem.Spec L2 DL
section
variable{S:aD}{Q:Res->aD->Prop}
def LZ{ns:List Int}{k:Nat}(i:S[0]?=some (.frz (ns.map D.int)))(q:∀a b:Int,Q (.l [.int a,.int b,.int 0]) S):Fn nc [.ref 0,.int k] S Q:=by
 refine cq ?_
 unfold qO
 have f:∀g:Int,T (aE (aU 3 (aR nH (aR t7 (ar 2) (aR nH (aR yt (cF (.int 10)) (cF (.int 60))) (aR yt (cF (.int 10)) (cF (.int 60))))) (tO intOfD (aq (aR NU (ar 2) (aR yt (cF (.int 10)) (cF (.int 18)))) av))))
   (Gk (bu (aq (ar 3) (aq (aR t7 (aR cx (aR cx (ar 2) (aR nH (cF (.int 104729)) (ar 1))) (cF (.int 7))) (cF (.int 2305843009213693951))) (aq (cF (.int 0)) av))))))
   [some (.ref 0),some (.int k),some (.int g),none] S (λo=>match o with
   |.nx _ e=>Op (settle S .non e) λp=>Q p.1 p.2|.rt d e=>Op (settle S d e) λp=>Q p.1 p.2|.rl l e=>Op (eO S l e) λp=>Q p.1 p.2|_=>False):=by
  intro g
  symm
  apply GK ⟨by decide,by decide,by decide⟩ ?_
  apply GK ⟨by decide,by decide,by decide⟩ ?_
  refine LF (IntMulOk.of_bits (by decide +kernel) (by decide +kernel)) ?_
  refine vO (show(0:Int)<10^(60:Int).toNat*10^(60:Int).toNat by decide +kernel) ?_
  generalize g%(10^(60:Int).toNat*10^(60:Int).toNat)=c1
  symm
  refine GK ⟨by decide,by decide,by decide⟩ ?_
  generalize (10:Int)^(18:Int).toNat=c2
  symm
  refine iI ?_
  have h:Ju c1 (if decide (c2<=g)=true then 1 else 0):=by
   right
   split <;>decide
  generalize (if decide (c2<=g)=true then(1:Int) else 0)=c3 at h⊢
  apply yb h ?_
  apply yb (.inl ⟨by decide,by decide⟩) ?_
  apply vO (by decide) ?_
  refine⟨by show 3<=_;decide,?_⟩
  exact Hv rfl (q _ _)
 symm
 apply HD i ?_
 rw[lQm]
 by_cases c:(k:Int)<ns.length
 ·rw[Qeq c,Qhq rfl]
  have j:k<ns.length:=by omega
  symm
  refine Nt i (bq (x:=.int ns[k]) (by rw[gQm,gQe j];rfl)) ?_
  symm
  refine M9 ?_
  exact f _
 ·rw[Qdq c,Quq (by decide)]
  refine cc ?_
  exact f 0
end
section
variable{S:aD}{Q:Res->aD->Prop}
def jN{α:Type}{enc:α->D}{nm:α->Str}{xs:List α}{g:cy}{f:fh}{tg:Tag}{Q:List D->aD->Prop}(he:∀a,∃r,enc a=.tup (.str (nm a)::r))(j:xs.length<=1000)(i:E f g S λp d=>p=(xs.map enc,tg)/\d=S)(ht:tg.stays S (xs.map enc))(q:Q ((xs.map nm).map D.str) S):
  E (bA [none] (fK f) (bH 0) bI (aR fR (ar 0) (cF (.int 0)))) g S Q:=by
 refine i6 (α:=α) (λb=>∃a,b= [a]) enc (λa=>.str (nm a)) ⟨none,rfl⟩ (i.mono λp d h=> ?_)
 obtain⟨rfl,rfl⟩:=h
 refine⟨xs,rfl,ht,j,λr l b c=> ?_,?_⟩
 ·obtain⟨a,rfl⟩:=c
  refine aX ⟨rfl,⟨_,rfl⟩,?_⟩
  obtain⟨k,e⟩:=he r
  rw[e]
  symm
  exact aA Ct ⟨rfl,rfl⟩
 ·have e:xs.map (λa=>D.str (nm a))=(xs.map nm).map D.str:=by rw[QPq];rfl
  rw[e]
  exact q
def qi{α:Type}{enc:α->D}{nm:α->Str}{xs:List α}{x:Str}(he:∀a,∃r,enc a=.tup (.str (nm a)::r))(h:xs.length<=1000)(g:x∈xs.map nm)(q:Q (.d (.int (gQ (xs.map nm) x:Nat))) S):Fn c9 [.tup (xs.map enc),.str x] S Q:=by
 refine cq ?_
 unfold oZ
 obtain⟨j,e,i⟩:=ug g
 unfold gQ at q
 rw[e] at q
 refine eM ?_
 have c:E (ic (bA [none] (fK (aQ (ar 0))) (bH 0) bI (aR fR (ar 0) (cF (.int 0))))) ([D.tup (xs.map enc),D.str x].map some++List.replicate (2- [D.tup (xs.map enc),D.str x].length) none) S λp b=>p=((xs.map nm).map D.str,.fr)/\b=S:=
  qP (jN (tg:=.tu) he h (bW (ax rfl (cu ⟨rfl,rfl⟩))) trivial ⟨rfl,rfl⟩)
 obtain⟨p,b,f,rfl,rfl⟩:=c
 refine⟨.int j,b,?_,dm (λk z=>(nomatch z)) rfl q⟩
 unfold GR
 rw[f]
 simp only[Qbq]
 rw[Qhq (show Tag.fr.isL=true from rfl)]
 show((ar 1 _ b).bind _)=_
 rw[show ar 1 ([D.tup (xs.map enc),D.str x].map some++List.replicate (2- [D.tup (xs.map enc),D.str x].length) none) b=some (.str x,b) from rfl]
 simp only[Qbq]
 rw[Qhq (show Tag.stays b _ .fr from trivial)]
 show(xb (.str x)).bind _=_
 simp only[xb,Qbq]
 rw[gE]
 simp only[Qbq]
 rw[e]
 rfl
end
def lM{c:cy}{S:aD}{i:Nat}{a b:Str}{l:List D}{Q:Bool->aD->Prop}(h:c[i]?=some (some (.tup (.str a::l))))(q:Q (decide (a=b)) S):E (aH (aR (dk false) (aR fR (ar i) (cF (.int 0))) (cF (.str b)))) c S Q:=
 cN (bc (bc (ax h (cO (aA (d:=.str a) Ct (cO (jc q)))))))
theorem rO{th wt:Str->Int}{ws bs:List Str}{i j:Nat}{s kws:List (Key×D)}{S:aD}(hi:S[i]?=some (.dct s))(L:S[j]?=some (.dct kws))(K:∀x∈ws,ik s (.inr x)=some (.int (th x)))(M:∀b∈bs,ik kws (.inr b)=some (.int (wt b)))(J:∀x∈ws,0<=th x/\th x<=9):
  ∀(n:Nat) (t:Tr) {Q:Res->aD->Prop},t.Ok ws bs->t.dep<=n->Q (.d (.int (nL th wt t))) S->Fn (dY n) [t.d,.ref i,.ref j] S Q
 |0,t,Q,_,hd,_=>by cases t <;>simp[Tr.dep] at hd
 | n+1,t,Q,ho,hd,q=>by
   refine cq ?_
   unfold mG
   have g:∀(o:Str) (h:List Tr) (k:Nat) {R:List D->aD->Prop},h.length<=2->(∀u∈h,u.Ok ws bs/\u.dep<=n)->R (h.map λu=>.int (nL th wt u)) S→
       E (bA [none,some 1,some 2] (fK (aQ (vY (ar 0) (vT (cF (.int 1))) wu))) (bH 0) bI (aw (dY n) (aq (ar 0) (aq (ar 1) (aq (ar 2) av))))) [some (.tup (.str o::h.map Tr.d)),some (.ref i),some (.ref j),none,none,none] S R:=λo h k R Z A q=>by
     refine i6 (α:=Tr) (λC=>∃a,C= [a,some (.ref i),some (.ref j)]) Tr.d (λu=>.int (nL th wt u)) ⟨none,rfl⟩ ?_
     refine bW (qW (ax rfl (fj (cO ⟨1,rfl,fg ⟨_,rfl,?_⟩⟩))))
     rw[show l_ (D.str o::h.map Tr.d) (some 1) none=h.map Tr.d from p8 (i:=1) (by simp)]
     refine cu ⟨h,rfl,trivial,by omega,λu l C I=> ?_,q⟩
     obtain⟨a,rfl⟩:=I
     apply aX ⟨rfl,⟨_,rfl⟩,?_⟩
     exact rO hi L K M J n u (A u l).1 (A u l).2 ⟨rfl,rfl⟩
   cases t with
   | num v=>
     refine aK (bU (bX (d:=.int v) (ax rfl ⟨rfl,rfl⟩) rfl ?_))
     apply aL (λ_=> ?_) (λc=>by cases c)
     exact cU q
   | word x=>
     refine aK (bU (bX (d:=.str x) (ax rfl ⟨rfl,rfl⟩) rfl ?_))
     refine aL (λc=>by cases c) (λ_=>cc ?_)
     refine aK (bU (bX (d:=.str x) (ax rfl ⟨rfl,rfl⟩) rfl ?_))
     refine aL (λ_=> ?_) (λc=>by cases c)
     apply eM (Ja ?_)
     refine⟨_,_,_,_,rfl,rfl,hi,K x ho,?_⟩
     exact cU q
   | waits b=>
     refine aK (bU (bX (d:=.tup [.str "waits",.str b]) (ax rfl ⟨rfl,rfl⟩) rfl ?_))
     refine aL (λc=>by cases c) (λ_=>cc ?_)
     refine aK (bU (bX (d:=.tup [.str "waits",.str b]) (ax rfl ⟨rfl,rfl⟩) rfl ?_))
     refine aL (λc=>by cases c) (λ_=>cc ?_)
     refine aK (bU (lM (a:="waits") rfl ?_))
     refine aL (λ_=> ?_) (λc=>absurd (QaQ c) (by simp))
     apply eM (CW (aB (bc (Ja ?_))))
     refine aA (d:=.str b) rfl ?_
     apply⟨_,_,_,_,rfl,rfl,L,M b ho,?_⟩
     refine iI ?_
     simp only[nL] at q
     have e:(if decide (0<wt b)=true then(1:Int) else 0)=if 0<wt b then 1 else 0:=by by_cases c:0<wt b <;>simp[c]
     rw[e]
     exact cU q
   | no u=>
     refine aK (bU (bX (d:=.tup [.str "not",u.d]) (ax rfl ⟨rfl,rfl⟩) rfl ?_))
     refine aL (λc=>by cases c) (λ_=>cc ?_)
     refine aK (bU (bX (d:=.tup [.str "not",u.d]) (ax rfl ⟨rfl,rfl⟩) rfl ?_))
     refine aL (λc=>by cases c) (λ_=>cc ?_)
     refine aK (bU (lM (a:="not") rfl ?_))
     refine aL (λc=>absurd (QZq c) (by decide +kernel)) (λ_=>cc ?_)
     refine aK (di (dP (g "not" [u] 0 (by simp) (λY l=>by
       rw[Qfq.mp l]
       simp only[Tr.dep] at hd
       exact⟨ho,by omega⟩) ?_)))
     refine aK (bU (lM (a:="not") rfl ?_))
     refine aL (λ_=> ?_) (λc=>absurd (QaQ c) (by simp))
     refine eM (CW (aB (bc (bc (ax rfl (cO (bR aM (d:=.int (nL th wt u)) rfl (cO (dG (bo (iI ?_)))))))))))
     simp only[nL] at q
     have e:(if decide (nL th wt u=0)=true then(1:Int) else 0)=if nL th wt u=0 then 1 else 0:=by by_cases c:nL th wt u=0 <;>simp[c]
     rw[e]
     exact uD rK.refl.app (λk z=>(nomatch z)) rfl q
   | two o a b=>
     obtain⟨G,B,m⟩:=ho
     obtain⟨P,U⟩:=D7 G
     simp only[Tr.dep] at hd
     have W:=iD (wt:=wt) (ws:=ws) (bs:=bs) J B
     have X:=iD (wt:=wt) (ws:=ws) (bs:=bs) J m
     refine aK (bU (bX (d:=.tup [.str o,a.d,b.d]) (ax rfl ⟨rfl,rfl⟩) rfl ?_))
     refine aL (λc=>by cases c) (λ_=>cc ?_)
     refine aK (bU (bX (d:=.tup [.str o,a.d,b.d]) (ax rfl ⟨rfl,rfl⟩) rfl ?_))
     refine aL (λc=>by cases c) (λ_=>cc ?_)
     refine aK (bU (lM (a:=o) rfl ?_))
     refine aL (λc=>absurd (QZq c) P) (λ_=>cc ?_)
     refine aK (di (dP (g o [a,b] 0 (by simp) (λu l=>by
       simp only[Qsq,QXq,or_false] at l
       rcases l with rfl|rfl
       · exact⟨B,by omega⟩
       · exact⟨m,by omega⟩) ?_)))
     simp only[QDq,List.map_nil]
     refine aK (bU (lM (a:=o) rfl ?_))
     refine aL (λc=>absurd (QZq c) U) (λ_=>cc ?_)
     refine aK (u3 (ax rfl (C_ aM rfl (az (aX (az (aX (bJ ?_))))))))
     simp only[nL] at q
     generalize nL th wt a=va at q W⊢
     generalize nL th wt b=vb at q X⊢
     have f:∀{v:Int},v=KH o va vb->Op (settle S (.int v) (S++ [.lst [.int va,.int vb]])) λp=>Q p.1 p.2:=λe=>by
       rw[e]
       exact uD rK.refl.app (λk z=>(nomatch z)) rfl q
     unfold KH at f
     refine aK (bU (lM (a:=o) rfl ?_))
     refine aL (λc=> ?_) (λc=>cc ?_)
     · have c:=QZq c
       refine eM (CW (aB (cO (aB (bc (ax rfl (ax rfl (KB (bo (Gv (f ?_)))))))))))
       rw[Qhq c]
       repeat' split
       all_goals omega
     have r:=QaQ c
     refine aK (bU (lM (a:=o) rfl ?_))
     refine aL (λc=> ?_) (λc=>cc ?_)
     · have c:=QZq c
       refine eM (CW (aB (cO (aB (bc (ax rfl (ax rfl (gJ (bo (Hl (f ?_)))))))))))
       rw[Quq r,Qhq c]
       repeat' split
       all_goals omega
     have F:=QaQ c
     refine aK (bU (lM (a:=o) rfl ?_))
     refine aL (λc=> ?_) (λc=>cc ?_)
     · have c:=QZq c
       refine eM (CW (aB (bc (ax rfl (ax rfl (gJ (bo (iI (f ?_)))))))))
       rw[Quq r,Quq F,Qhq c]
       by_cases z:va<vb <;>simp[z]
     have H:=QaQ c
     refine eM (CW (aB (MO (lM (a:=o) rfl ?_))))
     refine aL (λc=> ?_) (λc=> ?_)
     · have c:=QZq c
       refine bc (ax rfl (ax rfl (dG (bo (iI (f ?_))))))
       rw[Quq r,Quq F,Quq H,Qhq c]
       by_cases z:va=vb <;>simp[z]
     · have N:=QaQ c
       refine lS (bc (ax rfl (cO (gJ ⟨_,rfl,?_⟩))))
       refine aL (λz=> ?_) (λz=> ?_)
       · have z:=QZq z
         refine bc (ax rfl (cO (gJ (bo (iI (f ?_))))))
         rw[Quq r,Quq F,Quq H,Quq N]
         by_cases y:0<vb
         · rw[Qeq y,Qhq rfl,Qhq ⟨by omega,by omega⟩]
         · rw[Qdq y,Quq (by decide),Quq (λw=>by omega)]
       · have z:=QaQ z
         refine bo (iI (f ?_))
         rw[Quq r,Quq F,Quq H,Quq N,Quq (by decide),Quq (λw=>by omega)]
end W28
namespace DL
open PySem PySem.Spec L2
def u9{l:List (Key×D)}{a k:Key}{v:D}:ik (putD l a v) k=if a=k then some v else ik l k:=by
 unfold putD
 split
 ·rename_i h
  induction l with
  |nil=>simp at h
  | cons p l i=>
    unfold ik at i⊢
    rw[QDq,List.find?_cons,List.find?_cons]
    by_cases c:p.1=a
    · rw[Qhq c]
      by_cases d:a=k
      · rw[Qhq d]
        simp[c,d]
      · rw[Quq d]
        have n:¬p.1=k:=by rw[c];exact d
        simp only[n,decide_false]
        by_cases e:(l.any λb=>decide (b.1=a))=true
        · have:=i e
          rw[Quq d] at this
          exact this
        · have f:l.map (λb=>if b.1=a then(b.1,v) else b)=l:=by
            rw[List.map_congr_left (g:=id) (λq j=> ?_),List.map_id]
            have:¬q.1=a:=λz=>e (List.any_eq_true.mpr ⟨q,j,Qeq z⟩)
            rw[Quq this]
            rfl
          rw[f]
    · rw[Quq c]
      have r:(l.any λb=>decide (b.1=a))=true:=by simpa [c] using h
      by_cases d:p.1=k
      · simp only[d,decide_true]
        rw[Quq (λz=>c (d.trans z.symm))]
      · simp only[d,decide_false]
        exact i r
 ·rename_i h
  unfold ik
  rw[List.find?_append]
  cases m:l.find? λb=>decide (b.1=k) with
  | some q=>
    have j:=List.find?_some m
    have o:=List.mem_of_find?_eq_some m
    have n:¬a=k:=λz=>h (List.any_eq_true.mpr ⟨q,o,by rw[z];exact j⟩)
    rw[Quq n]
    rfl
  | none=>
    by_cases d:a=k
    · rw[Qhq d];simp[d]
    · rw[Quq d];simp[d]
theorem mF{k:Key}:∀{m l:List (Key×D)},k∉m.map Prod.fst->ik (bp l m) k=ik l k
 | [],l,_=>rfl
 | p::m,l,h=>by
   have a:bp l (p::m)=bp (putD l p.1 p.2) m:=rfl
   rw[a,mF (λz=>h (Qpq _ z)),u9,Quq (λz=>h (by rw[QDq,z];exact QBq ..))]
theorem yp{k:Key}:∀{m l l':List (Key×D)},k∈m.map Prod.fst->ik (bp l m) k=ik (bp l' m) k
 | [],_,_,h=>by cases h
 | p::m,l,l',h=>by
   have a:∀l,bp l (p::m)=bp (putD l p.1 p.2) m:=λ_=>rfl
   rw[a,a]
   by_cases c:k∈m.map Prod.fst
   · exact yp c
   · have e:p.1=k:=by
       rcases Qsq.mp h with z|z
       · exact z.symm
       · exact absurd z c
     rw[mF c,mF c,u9,u9,Qhq e,Qhq e]
def Cw{l m:List (Key×D)}{k:Key}(h:k∈(bp l m).map Prod.fst):k∈l.map Prod.fst\/k∈m.map Prod.fst:=by
 obtain⟨p,a,e⟩:=Qkq.mp h
 rcases kF a with z|z
 ·exact .inl (Qkq.mpr ⟨p,z,e⟩)
 ·exact .inr (Qkq.mpr ⟨p,z,e⟩)
def F6{l:List (Key×D)}{a:Key}{v:D}(h:(l.map Prod.fst).Nodup):((putD l a v).map Prod.fst).Nodup:=by
 unfold putD
 split
 ·have e:(l.map λd=>if d.1=a then(d.1,v) else d).map Prod.fst=l.map Prod.fst:=by
   rw[QPq]
   refine List.map_congr_left λp _=> ?_
   show(if p.1=a then(p.1,v) else p).1=p.1
   split <;>rfl
  rw[e]
  exact h
 ·rename_i c
  rw[Qzq,List.nodup_append]
  refine⟨h,by simp,λx g y b e=> ?_⟩
  obtain⟨p,f,i⟩:=Qkq.mp g
  have b:y=a:=by simpa using b
  exact c (List.any_eq_true.mpr ⟨p,f,Qeq (by rw[i,e,b])⟩)
theorem sH:∀{m l:List (Key×D)},(l.map Prod.fst).Nodup->((bp l m).map Prod.fst).Nodup
 | [],_,h=>h
 |p::m,l,h=>sH (m:=m) (F6 h)
theorem xD:∀{m l:List (Key×D)},((l++m).map Prod.fst).Nodup->bp l m=l++m
 | [],l,_=>by simp[bp]
 | p::m,l,h=>by
   have a:bp l (p::m)=bp (putD l p.1 p.2) m:=rfl
   have e:putD l p.1 p.2=l++ [p]:=by
     unfold putD
     rw[Quq]
     intro z
     obtain⟨q,b,e⟩:=List.any_eq_true.mp z
     rw[Qzq,List.nodup_append] at h
     exact h.2.2 q.1 (Qkq.mpr ⟨q,b,rfl⟩) p.1 (by simp) (QZq e)
   rw[a,e,xD (by simpa using h)]
   simp
def Fq{l:List (Key×D)}{k:Key}:ik (bp [] (bp [] l)) k=ik (bp [] l) k:=by
 rw[xD (m:=bp [] l) (l:= []) (by simpa using sH (m:=l) (l:= []) .nil)]
 rfl
def F_{l m n:List (Key×D)}:bp l (m++n)=bp (bp l m) n:=List.foldl_append
end DL
namespace W28
open PySem PySem.Spec L2 DL
def Io{w:dH}{s:bO}{ts:List (Str×Nat)}{vs:List Int}{x:Str}(ls:w.ak.length=s.ak.length)(f:ts.length=vs.length)(r:∀v∈s.ak,0<=v/\v<=9)(q:∀v∈vs,0<=v/\v<=9)(o:∀y∈ts.map (·.1),y∉w.ak.map (·.1))(j:x∈ts.map (·.1)++w.ak.map (·.1)):
  ik (bp [] ((((ts++w.ak).map (·.1)).map Sum.inr).zip ((vs++s.ak).map D.int))) (.inr x)=some (.int (numAt (qj w s ts vs) x)):=by
 have d:i_ (qj w s ts vs):=i_.merge (dI r) (dI q)
 have n:(Sum.inr x:Key)∈(qj w s ts vs).map (·.1):=eW (by
  rcases mQa.mp j with h|h
  ·exact .inr (dq f h)
  ·exact .inl (dq ls h))
 rw[←(gY d n).1]
 rw[Qzq,Qzq,Qzq,List.zip_append (by simpa using f),F_]
 unfold qj
 have g:∀{a:List (Str×Nat)} {b:List Int},a.length=b.length->((((a.map (·.1)).map Sum.inr:List Key).zip (b.map D.int)).map (·.1))=(a.map (·.1)).map Sum.inr:=λh=>List.map_fst_zip (by simp[h])
 have i:∀{a:List (Str×Nat)} {y:Str},(Sum.inr y:Key)∈(a.map (·.1)).map Sum.inr↔y∈a.map (·.1):=λ{a y}=>by
  constructor
  ·intro h
   obtain⟨z,p,e⟩:=Qkq.mp h
   cases e
   exact p
  ·exact λh=>Qkq.mpr ⟨y,h,rfl⟩
 have k:∀{a:List (Str×Nat)} {b:List Int} {y:Str},a.length=b.length->((Sum.inr y:Key)∈(dU a b).map (·.1)↔y∈a.map (·.1)):=λ{a b y} hl=>by
  constructor
  ·intro h
   have:=Cw h
   rcases this with h|h
   ·cases h
   ·rw[g hl] at h
    exact i.mp h
  ·exact dq hl
 by_cases c:x∈ts.map (·.1)
 ·rw[mF (by rw[g ls];exact λz=>o x c (i.mp z)),yp (l':= []) ((k f).mpr c)]
  exact Fq.symm
 ·have l:x∈w.ak.map (·.1):=(mQa.mp j).resolve_left c
  rw[mF (m:=dU ts vs) (λz=>c ((k f).mp z))]
  exact yp (by rw[g ls];exact i.mpr l)
section
variable{lo:Nat}{S0 S:aD}{t:zS}{s:bO}{h i:Nat}{vs:List Int}{fs:List cC}{f:cC}{w:dH}{n:Nat}{sc:Sc}
def Go.hx(g:Go lo S0 S t s)(hs:s.af[h]?=some (vs,fs)):∃x,t.hs[h]?=some x:=⟨_,gQe (by rw[g.n.lh];exact(gQs.mp hs).1)⟩
def Go.rx{r:dQ}(g:Go lo S0 S t s)(a:s.aj[i]?=some r):∃x,t.rs[i]?=some x:=⟨_,gQe (by rw[g.n.lr];exact(gQs.mp a).1)⟩
section
variable{x:Cc}(g:Go lo S0 S t s)(hx:t.hs[h]?=some x)(hs:s.af[h]?=some (vs,fs))
include g hx hs
def Go.ha:S[x.a]?=some (.lst [.ref x.v,.ref x.f]):=g.n.ho (x.a,_) (qt (cI hx hs) (mQa.mpr (.inl (by simp))))
def Go.hv:S[x.v]?=some (cP vs):=g.n.ho (x.v,cP vs) (qt (cI hx hs) (mQa.mpr (.inl (by simp))))
def Go.hf:S[x.f]?=some (.lst (x.fs.map D.ref)):=g.n.ho (x.f,_) (qt (cI hx hs) (mQa.mpr (.inl (by simp))))
def Go.hfs{j a:Nat}{f:cC}(c:x.fs[j]?=some a)(b:fs[j]?=some f):S[a]?=some (qF f):=g.n.ho (a,qF f) (qt (cI hx hs) (mQa.mpr (.inr (Qkq.mpr ⟨_,cI c b,rfl⟩))))
def Go.lf:x.fs.length=fs.length:=g.n.lf _ (cI hx hs)
def Go.last(b:fs.getLast? =some f):∃a,x.fs.getLast? =some a/\S[a]?=some (qF f):=by
 have l:=g.lf hx hs
 rw[List.getLast?_eq_getElem?] at b
 have c:=(gQs.mp b).1
 have e:x.fs.getLast? =x.fs[fs.length-1]? :=by rw[List.getLast?_eq_getElem?,l]
 rw[e]
 exact⟨_,gQe (by omega),g.hfs hx hs (gQe (by omega)) b⟩
end
def xk{xs:List Nat}{a:Nat}(h:xs.getLast? =some a):kQ (xs.map D.ref) (-1)=some (.ref a):=uI (by rw[QfQ,h];rfl)
def uR{b:cy}{v:Nat}{x:Cc}{Q:D->aD->Prop}(g:Go lo S0 S t s)(c:t.hs[h]?=some x)(hs:s.af[h]?=some (vs,fs))(e:b[1]?=some (some (.ref t.k)))(j:b[v]?=some (some (.int h)))(q:Q (.ref x.f) S):
  E (aR fR (aR fR (aR fR (ar 1) (cF (.int 3))) (ar v)) (cF (.int 1))) b S Q:=
 bc (bc (bc (ax e (cO (bR g.n.top (d:=.ref t.h) rfl (ax j (bR g.n.th (d:=.ref x.a) (bq (by rw[gQm,c];rfl)) (cO (bR (g.ha c hs) (d:=.ref x.f) rfl q)))))))))
def pU{b:cy}{v:Nat}{x:Cc}{a:Nat}{Q:D->aD->Prop}(g:Go lo S0 S t s)(c:t.hs[h]?=some x)(hs:s.af[h]?=some (vs,fs))(e:x.fs.getLast? =some a)(d:b[1]?=some (some (.ref t.k)))(j:b[v]?=some (some (.int h)))(q:Q (.ref a) S):
  E (aR fR (aR fR (aR fR (aR fR (ar 1) (cF (.int 3))) (ar v)) (cF (.int 1))) (hU (cF (.int 1)))) b S Q:=
 bc (uR g c hs d j (jH (cO ⟨1,rfl,bR (g.hf c hs) (xk e) q⟩)))
def EX{b:cy}{v:Nat}{x:Cc}{Q:D->aD->Prop}(g:Go lo S0 S t s)(c:t.hs[h]?=some x)(hs:s.af[h]?=some (vs,fs))(e:b[1]?=some (some (.ref t.k)))(j:b[v]?=some (some (.int h)))(q:Q (.ref x.v) S):
  E (aR fR (aR fR (aR fR (ar 1) (cF (.int 3))) (ar v)) (cF (.int 0))) b S Q:=
 bc (bc (bc (ax e (cO (bR g.n.top (d:=.ref t.h) rfl (ax j (bR g.n.th (d:=.ref x.a) (bq (by rw[gQm,c];rfl)) (cO (bR (g.ha c hs) (d:=.ref x.v) rfl q)))))))))
def oz{b:cy}{x:Fp}{e:bD}{Q:D->aD->Prop}(g:Go lo S0 S t s)(l:t.rs[i]?=some x)(j:b[1]?=some (some (.ref t.k)))(he:E e b S λd c=>d=.int i/\c=S)(q:Q (.ref x.a) S):
  E (aR fR (aR fR (ar 1) (cF (.int 0))) e) b S Q:=by
 refine bc (bc (ax j (cO (bR g.n.top (d:=.ref t.r) rfl (he.mono λd c m=> ?_)))))
 obtain⟨rfl,rfl⟩:=m
 exact bR g.n.tr (d:=.ref x.a) (bq (by rw[gQm,l];rfl)) q
def gW{b:cy}{a j:Nat}{k v:Int}{f:cC}{Q:D->aD->Prop}(e:S[a]?=some (qF f))(c:b[j]?=some (some (.ref a)))(d:kQ ([.int f.room,.int f.deed,.int f.row,.int f.given,.int f.told]:List D) k=some (.int v))(q:Q (.int v) S):E (aR fR (ar j) (cF (.int k))) b S Q:=
 bc (ax c (cO (bR e d q)))
def xq:∀a:Str×Nat,∃r,lC a=.tup (.str a.1::r):=λ_=>⟨_,rfl⟩
def Nc:∀a:Str×Str,∃r,EW a=.tup (.str a.1::r):=λ_=>⟨_,rfl⟩
def Gd{r:Rm}{rs:dQ}(c:r.aa.length=rs.aa.length):bp [] (((r.aa.map (·.1)).map Sum.inr).zip (rs.aa.map λl=>D.int (l.length:Nat)))=xN r rs:=by
 unfold xN
 congr 1
 rw[QPq]
 generalize rs.aa=d at c⊢
 generalize r.aa=e at c⊢
 induction e generalizing d with
 |nil=>rfl
 | cons a e g=>
   cases d with
   |nil=>simp at c
   | cons b d=>
     have:=g d (by simpa using c)
     simp only[QDq,List.zip_cons_cons]
     rw[this]
     rfl
def F1{tr:Tr}{Q:Res->aD->Prop}(g:Go lo S0 S t s)(o:eQ w)(x:dg w n s)(hs:s.af[h]?=some (vs,fs))(Z:fs.getLast? =some f)(a2:Bv w h f=some sc)(ht:FV sc tr)(q:Q (.d (.int (dE w s h tr))) S):Fn cG [w.d,.ref t.k,.int h,tr.d] S Q:=by
 obtain⟨hd,C⟩:=g.hx hs
 obtain⟨a,ha,F⟩:=g.last C hs Z
 obtain⟨H,pr,Y,X⟩:=x.whand hs
 have o2:=o.hd _ (mQg Y)
 have fi:=X.fr f (QcQ Z)
 have b3:=o.l3
 have b4:H.length<=6:=o2.l1
 have ls:=x.ls
 have lv:=X.lv
 refine cq ?_
 unfold kZ
 refine aK (di (pU g C hs ha rfl rfl ?_))
 refine aK (bU (cN (bc (gW F rfl (v:=f.room) rfl (cO (gJ ?_))))))
 rcases fw a2 with⟨c,a4,a5,P,rfl⟩|⟨c,r,hr,rfl⟩
 ·rw[Y] at P
  cases P
  rw[c]
  refine zu ?_
  refine aL (λ_=> ?_) (λz=>by cases z)
  have er:dE w s h tr=nL (numAt (qj w s H vs)) (λ_=>0) tr:=by unfold dE;rw[eG hs Z,Qhq c,yD Y,gD hs]
  rw[er] at q
  symm
  apply aA (d:=.tup (w.af.map eK)) rfl ?_
  refine aA (d:=eK (H,pr)) (bq (by rw[gQm,Y];rfl)) ?_
  symm
  apply aA (d:=.tup (H.map lC)) rfl ?_
  refine aA (d:=.tup (w.ak.map lC)) rfl ?_
  refine gu (by rw[lQm,lQm];exact QAq (show _<=12 by omega) (by decide)) ?_
  rw[←Qzq]
  refine aK (di (dP (xV ?_)))
  refine bW (EX g C hs rfl rfl (a7 (g.hv C hs) ?_))
  refine bW (bc (ax rfl (cO (bR g.n.top (d:=.ref t.s) rfl (a7 g.n.ts ?_)))))
  refine⟨⟨rfl,rfl,g.hv C hs,by rw[lQm,lQm];exact QAq (show _<=12 by omega) (by decide)⟩,?_⟩
  rw[←Qzq]
  refine eM (cM (aB (ax rfl (aB (FQ (qP ?_))))))
  refine jN (enc:=lC) (nm:=(·.1)) (xs:=H++w.ak) (tg:=.tu) xq (by rw[lQa];omega) (bW (ax rfl (cu ⟨rfl,rfl⟩))) trivial ?_
  refine bW (ax rfl (a7 aM ⟨(H++w.ak).map (·.1),rfl,⟨trivial,by simp only[lQm,lQa];omega⟩,?_⟩))
  refine aB (M1 (bo ?_))
  have b5:=ht.2
  refine rO (th:=numAt (qj w s H vs)) (wt:=λ_=>0) (ws:=H.map (·.1)++w.ak.map (·.1)) (bs:= []) (aN aM) aM (λy A=>Io ls lv x.sv X.vv o2.dj A) (λb hb=>by cases hb) (λy A=> ?_) 5 tr ht.1 (by omega) ?_
  ·have B:i_ (qj w s H vs):=i_.merge (dI x.sv) (dI X.vv)
   refine(gY B (eW ?_)).2
   rcases mQa.mp A with A|A
   ·exact .inr (dq lv A)
   ·exact .inl (dq ls A)
  ·exact uD rK.refl.app.app.app (λk z=>(nomatch z)) rfl q
 ·obtain⟨u,m,W⟩:=x.wroom hr
  have U:=o.rm r (mQg hr)
  have M:=gC fi c
  obtain⟨I,e⟩:=g.rx m
  have b5:=U.l1
  have b6:=U.l2
  have b7:=ht.2
  have a3:=W.lv
  have L:=W.lb
  refine aL (λz=>by have:=QZq z;omega) (λ_=>cc ?_)
  have er:dE w s h tr=nL (numAt (ig r u f.given)) (tE r u) tr:=by unfold dE;rw[eG hs Z,Quq c,se hr,fG m]
  rw[er] at q
  generalize f.room.toNat=i at hr m e M
  have he:∀{Γ:cy} {S:aD},Γ[4]?=some (some (.ref a))->S[a]?=some (qF f)->E (aR fR (ar 4) (cF (.int 0))) Γ S λd J=>d=.int i/\J=S:=λh1 h2=>gW h2 h1 (v:=f.room) rfl ⟨by rw[M],rfl⟩
  refine aK (di (bc (bc (ax rfl (cO (aA (d:=.tup (w.aj.map Rm.d)) rfl ((he rfl F).mono λd J hd=> ?_)))))))
  obtain⟨rfl,rfl⟩:=hd
  refine aA (d:=r.d) (bq (by rw[gQm,hr];rfl)) ?_
  refine aK (di (FQ (qP ?_)))
  refine jN (enc:=lC) (nm:=(·.1)) (xs:=r.ao) (tg:=.tu) xq (by omega) (bW (bc (ax rfl (cO (aA (d:=.tup (r.ao.map lC)) rfl (cu ⟨rfl,rfl⟩)))))) trivial ?_
  refine bW (bc (oz g e rfl (he rfl F) (cO (bR (g.ca e m) (d:=.ref I.v) rfl (a7 (g.cv e m) ⟨r.ao.map (·.1),rfl,⟨trivial,by simp only[lQm];omega⟩,?_⟩)))))
  refine aK (Nz ?_)
  refine gW (aN F) rfl (v:=f.given) rfl ?_
  refine ax rfl (cO ⟨_,_,_,rfl,rfl,aM,?_,?_⟩)
  ·refine Nat.lt_of_le_of_lt (o_ (l:= [])) ?_
   rw[List.length_zip,lQm,lQm,lQm]
   exact Nat.lt_of_le_of_lt (show _<=6 by simp;omega) (by decide)
  have gd:(J++ [O.dct (bp [] (((r.ao.map (·.1)).map Sum.inr).zip (u.vals.map D.int)))]).set J.length (.dct (ig r u f.given))=J++ [O.dct (ig r u f.given)]:=by simp
  have a0:putD (bp [] (((r.ao.map (·.1)).map Sum.inr).zip (u.vals.map D.int))) (.inr "given") (.int f.given)=ig r u f.given:=rfl
  rw[a0,gd]
  have K:=g.app (G:= [O.dct (ig r u f.given)])
  have N:(J++ [O.dct (ig r u f.given)])[a]?=some (qF f):=aN F
  refine aK (di (dP ?_))
  refine i6 (α:=Nat×List (Int×Int)) (λR=>∃a,R= [a]) (λp=>.ref p.1) (λp=>.int (p.2.length:Nat)) ⟨none,rfl⟩ ?_
  refine bW (bc (oz K e rfl (he rfl N) (cO (bR (K.ca e m) (d:=.ref I.b) rfl (a7 (K.cb e m) ?_)))))
  have lz:=g.lb e m
  refine⟨I.bs.zip u.aa,?_,K.cb e m,by rw[List.length_zip];omega,λp hp R a1=> ?_,?_⟩
  ·show I.bs.map D.ref=(I.bs.zip u.aa).map ((λk=>D.ref k)∘Prod.fst)
   rw[←QPq,List.map_fst_zip (by omega)]
  ·obtain⟨a',rfl⟩:=a1
   obtain⟨j,k1,k2⟩:=jr hp
   refine aX ⟨rfl,⟨_,rfl⟩,?_⟩
   refine Ao (bW (ax rfl (a7 (K.cbs e m k1 k2) ⟨?_,rfl⟩)))
   rw[lQm]
  have eb:(I.bs.zip u.aa).map (λp=>D.int (p.2.length:Nat))=u.aa.map λl=>D.int (l.length:Nat):=by
   show(I.bs.zip u.aa).map ((λl:List (Int×Int)=>D.int (l.length:Nat))∘Prod.snd)=_
   rw[←QPq,List.map_snd_zip (by omega)]
  rw[eb]
  refine aK (di (FQ (qP ?_)))
  refine jN (enc:=EW) (nm:=(·.1)) (xs:=r.aa) (tg:=.tu) Nc (by omega) (bW (bc (ax rfl (cO (aA (d:=.tup (r.aa.map EW)) rfl (cu ⟨rfl,rfl⟩)))))) trivial ?_
  refine bW (ax rfl (a7 aM ⟨r.aa.map (·.1),rfl,⟨trivial,by simp only[lQm];omega⟩,?_⟩))
  rw[Gd L]
  refine eM (cM (aB (ax rfl (aB (ax rfl (aB (ax rfl (bo ?_))))))))
  have B:i_ (ig r u f.given):=(dI W.vv).put fi.gv.1 fi.gv.2
  have kk:∀y∈r.ao.map (·.1)++fq,(Sum.inr y:Key)∈(ig r u f.given).map (·.1):=λy A=>jJ (by
   rcases mQa.mp A with A|A
   ·exact .inr (dq W.lv A)
   ·left
    rw[Qfq.mp A])
  refine rO (th:=numAt (ig r u f.given)) (wt:=tE r u) (ws:=r.ao.map (·.1)++fq) (bs:=r.aa.map (·.1)) (aN (aN aM)) aM (λy A=>(gY B (kk y A)).1) (λb hb=>AL L hb) (λy A=>(gY B (kk y A)).2) 5 tr ht.1 (by omega) ?_
  exact uD rK.refl.app.app.app (λk z=>(nomatch z)) rfl q
end
end W28
namespace DL
open PySem PySem.Spec L2
def J7{n j:Nat}(h:j<n):CD n (j:Int)=some j:=by unfold CD;rw[Qhq (by omega),Qhq (by omega)];simp
def vp{b:cy}{S:aD}{f e:bD}{d:D}{k j:Nat}{ds:List D}{Q:cy->aD->Prop}(l:E f b S λx a=>x=.ref k/\a=S)(he:E e b S λy a=>y=.int j/\a=S)(c:S[k]?=some (.lst ds))(g:j<ds.length)(q:Q b (S.set k (.lst (ds.set j d)))):Tg (wx f e) d b S Q:=by
 refine Jo (l.mono λx a h=> ?_)
 obtain⟨rfl,rfl⟩:=h
 refine he.mono λy m i=> ?_
 obtain⟨rfl,rfl⟩:=i
 exact⟨_,_,_,_,rfl,rfl,c,J7 g,q⟩
end DL
namespace W28
open PySem PySem.Spec L2 DL
theorem pM{α c:Type}{f:α->List c}:∀{l:List α} {i:Nat} {a b:α},l[i]?=some a->(f b).Sublist (f a)->((l.set i b).flatMap f).Sublist (l.flatMap f)
 | [],_,_,_,h,_=>by simp at h
 | x::l,0,a,b,h,s=>by
   simp at h
   subst h
   rw[List.set_cons_zero,QSq,QSq]
   exact s.append (QjQ _)
 | x::l,i+1,a,b,h,s=>by
   rw[List.set_cons_succ,QSq,QSq]
   exact(QjQ _).append (pM (by simpa using h) s)
theorem nY{α c:Type}{f:α->List c}:∀{l:List α} {i:Nat} {a b:α} {n:c},l[i]?=some a->(f b).Perm (n::f a)->((l.set i b).flatMap f).Perm (n::l.flatMap f)
 | [],_,_,_,_,h,_=>by simp at h
 | x::l,0,a,b,n,h,s=>by
   simp at h
   subst h
   rw[List.set_cons_zero,QSq,QSq]
   exact s.append_right _
 | x::l,i+1,a,b,n,h,s=>by
   rw[List.set_cons_succ,QSq,QSq]
   exact((nY (by simpa using h) s).append_left (f x)).trans List.perm_middle
section
variable{lo:Nat}{S0 S:aD}{t:zS}{s:bO}{h i:Nat}{vs:List Int}{fs:List cC}{f:cC}{w:dH}{n:Nat}{sc:Sc}{Q:Res->aD->Prop}
def Go.all_lt(g:Go lo S0 S t s):∀a∈zZ t,a<S.length:=λa o=>by
 rcases mQa.mp o with z|z
 ·simp only[Qsq,QXq,or_false] at z
  rcases z with rfl|rfl|rfl|rfl|rfl
  ·exact(gQs.mp g.n.top).1
  ·exact(gQs.mp g.n.tr).1
  ·exact(gQs.mp g.n.tp).1
  ·exact(gQs.mp g.n.ts).1
  ·exact(gQs.mp g.n.th).1
 ·rcases mQa.mp z with z|z
  ·obtain⟨x,b,z⟩:=QOq.mp z
   obtain⟨i,c,e⟩:=QbQ b
   have b:t.rs[i]?=some x:=by rw[gQe c,e]
   obtain⟨r,d⟩:∃r,s.aj[i]?=some r:=⟨_,gQe (by rw[←g.n.lr];exact c)⟩
   rcases mQa.mp z with z|z
   ·simp only[Qsq,QXq,or_false] at z
    rcases z with rfl|rfl|rfl|rfl|rfl
    ·exact(gQs.mp (g.ca b d)).1
    ·exact(gQs.mp (g.cv b d)).1
    ·exact(gQs.mp (g.cr b d)).1
    ·exact(gQs.mp (g.cl b d)).1
    ·exact(gQs.mp (g.cb b d)).1
   ·obtain⟨j,l,e⟩:=QbQ z
    exact(gQs.mp (g.cbs b d (j:=j) (by rw[gQe l,e]) (gQe (by rw[←g.lb b d];exact l)))).1
  ·rcases mQa.mp z with z|z
   ·obtain⟨x,b,z⟩:=QOq.mp z
    obtain⟨i,c,e⟩:=QbQ b
    have b:t.ps[i]?=some x:=by rw[gQe c,e]
    obtain⟨p,m⟩:∃p,s.ai[i]?=some p:=⟨_,gQe (by rw[←g.n.lp];exact c)⟩
    simp only[JO,Qsq,QXq,or_false] at z
    rcases z with rfl|rfl
    ·exact g.n.lt (vq (cI b m) (QBq ..))
    ·exact g.n.lt (p:=(x.r,cP p.2)) (vq (cI b m) (Qpq _ (QBq ..)))
   ·obtain⟨x,b,z⟩:=QOq.mp z
    obtain⟨i,c,e⟩:=QbQ b
    have b:t.hs[i]?=some x:=by rw[gQe c,e]
    obtain⟨⟨vs,fs⟩,k⟩:∃p,s.af[i]?=some p:=⟨_,gQe (by rw[←g.n.lh];exact c)⟩
    rcases mQa.mp z with z|z
    ·simp only[Qsq,QXq,or_false] at z
     rcases z with rfl|rfl|rfl
     ·exact(gQs.mp (g.ha b k)).1
     ·exact(gQs.mp (g.hv b k)).1
     ·exact(gQs.mp (g.hf b k)).1
    ·obtain⟨j,l,e⟩:=QbQ z
     exact(gQs.mp (g.hfs b k (j:=j) (by rw[gQe l,e]) (gQe (by rw[←g.lf b k];exact l)))).1
section
variable{x:Cc}(g:Go lo S0 S t s)(hx:t.hs[h]?=some x)(hs:s.af[h]?=some (vs,fs))
include g hx hs
def Go.hvals(a:List Int):Go lo S0 (S.set x.v (cP a)) t {s with af:=s.af.set h (a,fs)}:=by
 have e:{t with hs:=t.hs.set h x}=t:=by rw[yQ hx]
 have j:=(gQs.mp (g.hv hx hs)).1
 have:=g.n.hand (x':=x) (r':=(a,fs)) (b:=x.v) (o:=cP a) hx hs rfl (mQa.mpr (.inl (by simp))) (λp c d=>.inl (by
  rcases Qsq.mp c with z|c
  ·exact Qsq.mpr (.inl z)
  ·rcases Qsq.mp c with z|z
   ·rw[z] at d;exact absurd rfl d
   ·exact Qpq _ (Qpq _ z))) j (g.lf hx hs) (by rw[e];exact g.n.nd) (by rw[e];exact g.n.lo)
 rw[e] at this
 exact⟨this,g.k.put (g.n.lo _ (DW hx (by simp[AV]))),g.l⟩
def Go.frame{a:Nat}(r:x.fs.getLast? =some a)(y:fs.getLast? =some f)(f':cC):Go lo S0 (S.set a (qF f')) t {s with af:=s.af.set h (vs,fs.dropLast++ [f'])}:=by
 have e:{t with hs:=t.hs.set h x}=t:=by rw[yQ hx]
 have l:=g.lf hx hs
 have v:x.fs=x.fs.dropLast++ [a]:=fD r
 have B:=fD y
 have C:x.fs.dropLast.length=fs.dropLast.length:=by rw[List.length_dropLast,List.length_dropLast,l]
 obtain⟨b,A,m⟩:=g.last hx hs y
 rw[r] at A
 cases A
 have F:=(gQs.mp m).1
 have c:x.fs.length=(fs.dropLast++ [f']).length:=by
  have G:0<x.fs.length:=by rw[v];simp
  rw[lQa,List.length_dropLast,←l]
  simp
  omega
 have q:∀d,(x.fs.zip (fs.dropLast++ [d])).map (λp=>((p.1,qF p.2):Cell))=(x.fs.dropLast.zip fs.dropLast).map (λp=>(p.1,qF p.2))++ [(a,qF d)]:=λd=>by
  conv=>lhs;rw[v]
  rw[List.zip_append C,Qzq]
  rfl
 have:=g.n.hand (x':=x) (r':=(vs,fs.dropLast++ [f'])) (b:=a) (o:=qF f') hx hs rfl (by
   unfold wy
   rw[q]
   simp) (λp j u=>.inl (by
  unfold wy at j⊢
  rw[q] at j
  rw[B,q]
  rcases mQa.mp j with z|z
  ·exact mQa.mpr (.inl z)
  ·rcases mQa.mp z with z|z
   ·exact mQa.mpr (.inr (mQa.mpr (.inl z)))
   ·rw[Qfq.mp z] at u;exact absurd rfl u)) F c (by rw[e];exact g.n.nd) (by rw[e];exact g.n.lo)
 rw[e] at this
 exact⟨this,g.k.put (g.n.lo _ (DW hx (mQa.mpr (.inr (QcQ r))))),g.l⟩
def Go.pop(c:0<fs.length):Go lo S0 (S.set x.f (.lst (x.fs.dropLast.map D.ref))) {t with hs:=t.hs.set h {x with fs:=x.fs.dropLast}} {s with af:=s.af.set h (vs,fs.dropLast)}:=by
 have u:=(gQs.mp (g.hf hx hs)).1
 have l:=g.lf hx hs
 have b:(zZ {t with hs:=t.hs.set h {x with fs:=x.fs.dropLast}}).Sublist (zZ t):=(QjQ _).append ((QjQ _).append ((QjQ _).append (pM hx ((QjQ _).append (List.dropLast_sublist _)))))
 have o:∀p∈(x.fs.dropLast.zip fs.dropLast).map (λp=>((p.1,qF p.2):Cell)),p∈(x.fs.zip fs).map λp=>(p.1,qF p.2):=λp c=>by
  obtain⟨q,v,rfl⟩:=Qkq.mp c
  obtain⟨j,e,d⟩:=jr v
  refine Qkq.mpr ⟨q,cI (i:=j) ?_ ?_,rfl⟩
  ·rw[List.getElem?_dropLast] at e
   split at e
   ·exact e
   ·cases e
  ·rw[List.getElem?_dropLast] at d
   split at d
   ·exact d
   ·cases d
 refine⟨g.n.hand (x':={x with fs:=x.fs.dropLast}) (r':=(vs,fs.dropLast)) hx hs rfl (mQa.mpr (.inl (by simp))) (λp c m=>.inl ?_) u (by show x.fs.dropLast.length=fs.dropLast.length;rw[List.length_dropLast,List.length_dropLast,l]) (b.nodup g.n.nd) (λa r=>g.n.lo a (b.mem r)),g.k.put (g.n.lo _ (DW hx (by simp[AV]))),g.l⟩
 rcases mQa.mp c with z|z
 ·refine mQa.mpr (.inl ?_)
  simp only[Qsq,QXq,or_false] at z⊢
  rcases z with z|z|z
  ·exact .inl z
  ·exact .inr (.inl z)
  ·rw[z] at m;exact absurd rfl m
 ·exact mQa.mpr (.inr (o p z))
def Go.push(f':cC):Go lo S0 ((S++ [qF f']).set x.f (.lst ((x.fs++ [S.length]).map D.ref))) {t with hs:=t.hs.set h {x with fs:=x.fs++ [S.length]}} {s with af:=s.af.set h (vs,fs++ [f'])}:=by
 have c:=g.app (G:= [qF f'])
 have q:=(gQs.mp (c.hf hx hs)).1
 have l:=g.lf hx hs
 have j:(zZ {t with hs:=t.hs.set h {x with fs:=x.fs++ [S.length]}}).Perm (S.length::zZ t):=by
  unfold zZ
  refine((List.Perm.append_left _ (List.Perm.append_left _ (List.Perm.append_left _ (nY (n:=S.length) hx ?_)))).trans ?_)
  ·show([x.a,x.v,x.f]++(x.fs++ [S.length])).Perm (S.length::([x.a,x.v,x.f]++x.fs))
   rw[←Qvq]
   simpa using List.perm_middle (l₁:= [x.a,x.v,x.f]++x.fs) (a:=S.length) (l₂:= [])
  ·refine(List.Perm.append_left _ ((List.Perm.append_left _ List.perm_middle).trans List.perm_middle)).trans List.perm_middle
 have m:S.length∉zZ t:=λz=>by
  have:∀a∈zZ t,a<S.length:=λa b=>g.all_lt a b
  exact absurd (this _ z) (Nat.lt_irrefl _)
 have o:(({x with fs:=x.fs++ [S.length]}:Cc).fs.zip (fs++ [f'])).map (λp=>((p.1,qF p.2):Cell))=(x.fs.zip fs).map (λp=>(p.1,qF p.2))++ [(S.length,qF f')]:=by
  show((x.fs++ [S.length]).zip (fs++ [f'])).map _=_
  rw[List.zip_append l,Qzq]
  rfl
 refine⟨c.n.hand (x':={x with fs:=x.fs++ [S.length]}) (r':=(vs,fs++ [f'])) hx hs rfl (mQa.mpr (.inl (by simp))) (λp d e=> ?_) q (by simp[l]) (j.nodup_iff.mpr (List.nodup_cons.mpr ⟨m,g.n.nd⟩)) (λa b=> ?_),c.k.put (g.n.lo _ (DW hx (by simp[AV]))),g.l⟩
 ·unfold wy at d
  rw[o] at d
  rcases mQa.mp d with z|z
  ·refine .inl (mQa.mpr (.inl ?_))
   simp only[Qsq,QXq,or_false] at z⊢
   rcases z with z|z|z
   ·exact .inl z
   ·exact .inr (.inl z)
   ·rw[z] at e;exact absurd rfl e
  ·rcases mQa.mp z with z|z
   ·exact .inl (mQa.mpr (.inr z))
   ·rw[Qfq.mp z]
    exact .inr aM
 ·rcases Qsq.mp (j.mem_iff.mp b) with rfl|b
  ·have:=g.k.len
   have:=g.l
   omega
  ·exact g.n.lo a b
end
end
section
variable{lo:Nat}{S0 S:aD}{t:zS}{s:bO}{h i:Nat}{vs:List Int}{fs:List cC}{f:cC}{w:dH}{n:Nat}{sc:Sc}{Q:Res->aD->Prop}
def v5{a:List Int}{j:Nat}{v:Int}:(a.map D.int).set j (.int v)=(a.set j v).map D.int:=by rw[List.map_set]
def IC{y:Str}{v:Int}(g:Go lo S0 S t s)(o:eQ w)(x:dg w n s)(hs:s.af[h]?=some (vs,fs))(I:fs.getLast? =some f)(M:Bv w h f=some sc)(F:y∈sc.ps)(q:∀Z,Go lo S0 Z t (lK w s h y v)->Q (.d .non) Z):Fn j6 [w.d,.ref t.k,.int h,.str y,.int v] S Q:=by
 obtain⟨U,m⟩:=g.hx hs
 obtain⟨a,ha,G⟩:=g.last m hs I
 obtain⟨p,pr,H,Y⟩:=x.whand hs
 have R:=o.hd _ (mQg H)
 have fi:=Y.fr f (QcQ I)
 have b3:=o.l3
 have b4:p.length<=6:=R.l1
 have ls:=x.ls
 have lv:=Y.lv
 refine Cv ?_
 unfold rR
 refine aK (di (pU g m hs ha rfl rfl ?_))
 refine bU (cN (bc (gW G rfl (v:=f.room) rfl (cO (gJ ?_)))))
 rcases fw M with⟨c,a1,a2,C,rfl⟩|⟨c,r,hr,rfl⟩
 ·rw[H] at C
  cases C
  refine aL (λz=>by have:=QZq z;omega) (λ_=> ?_)
  have L:lK w s h y v=lF w s h p vs fs y v:=by unfold lK;rw[eG hs I,Qhq c,yD H,gD hs]
  rw[L] at q
  unfold lF at q
  have X:∀{u:cy} {Q:D->aD->Prop},u[0]?=some (some w.d)->u[2]?=some (some (.int h))->Q (.tup (p.map lC)) S->E (aR fR (aR fR (aR fR (ar 0) (cF (.int 3))) (ar 2)) (cF (.int 0))) u S Q:=λK h2 q=>by
   refine bc (bc (bc (ax K (cO (aA (d:=.tup (w.af.map eK)) rfl (ax h2 (aA (d:=eK (p,pr)) (bq (by rw[gQm,H];rfl)) (cO (aA (d:=.tup (p.map lC)) rfl q)))))))))
  refine bU (cN (yk (ax rfl (qP (jN (enc:=lC) (nm:=(·.1)) (xs:=p) (tg:=.tu) xq (by omega) (bW (X rfl rfl (cu ⟨rfl,rfl⟩))) trivial ?_)))))
  refine⟨_,_,rfl,gE _,?_⟩
  rw[yI]
  refine aL (λz=> ?_) (λz=> ?_)
  ·have z:y∈p.map (·.1):=QZq z
   have A:=(rY z).1
   rw[lQm] at A
   rw[Quq (R.dj y z)] at q
   refine u3 (ax rfl (vp (j:=gQ (p.map (·.1)) y) (EX g m hs rfl rfl ⟨rfl,rfl⟩) ?_ (g.hv m hs) (by rw[lQm];omega) ?_))
   ·refine cM (aB (X rfl rfl (aB (ax rfl (bo ?_)))))
    exact qi xq (by omega) z ⟨rfl,rfl⟩
   ·rw[v5]
    exact q _ (g.hvals m hs _)
  ·have z:y∉p.map (·.1):=QaQ z
   have J:y∈w.ak.map (·.1):=(mQa.mp F).resolve_left z
   have A:=(rY J).1
   rw[lQm] at A
   rw[Qhq J] at q
   refine u3 (ax rfl (vp (j:=gQ (w.ak.map (·.1)) y) (bc (ax rfl (cO (bR g.n.top (d:=.ref t.s) rfl ⟨rfl,rfl⟩)))) ?_ g.n.ts (by rw[lQm];omega) ?_))
   ·refine cM (aB (bc (ax rfl (cO (aA (d:=.tup (w.ak.map lC)) rfl (aB (ax rfl (bo ?_))))))))
    exact qi xq (by omega) J ⟨rfl,rfl⟩
   ·rw[v5]
    exact q _ ⟨g.n.share,g.k.put (g.n.lo _ (by simp[zZ])),g.l⟩
 ·obtain⟨rs,b,ri⟩:=x.wroom hr
  have N:=o.rm r (mQg hr)
  have B:=gC fi c
  obtain⟨rx,e⟩:=g.rx b
  have b5:=N.l1
  have a0:=ri.lv
  refine aL (λ_=> ?_) (λz=>by have:=QaQ z;omega)
  have L:lK w s h y v=fF s f.room.toNat {rs with vals:=eB (r.ao.map (·.1)) rs.vals y v}:=by unfold lK;rw[eG hs I,Quq c,se hr,fG b]
  rw[L] at q
  generalize f.room.toNat=i at hr b e B q
  have W:∀{u:cy},u[5]?=some (some (.ref a))->E (aR fR (ar 5) (cF (.int 0))) u S λd P=>d=.int i/\P=S:=λK=>gW G K (v:=f.room) rfl ⟨by rw[B],rfl⟩
  have F:y∈r.ao.map (·.1):=F
  have A:=(rY F).1
  rw[lQm] at A
  refine u3 (ax rfl (vp (j:=gQ (r.ao.map (·.1)) y) (bc (oz g e rfl (W rfl) (cO (bR (g.ca e b) (d:=.ref rx.v) rfl ⟨rfl,rfl⟩)))) ?_ (g.cv e b) (by rw[lQm];omega) ?_))
  ·refine cM (aB (bc (bc (bc (ax rfl (cO (aA (d:=.tup (w.aj.map Rm.d)) rfl ((W rfl).mono λd P U=> ?_))))))))
   obtain⟨rfl,rfl⟩:=U
   refine aA (d:=r.d) (bq (by rw[gQm,hr];rfl)) (cO (aA (d:=.tup (r.ao.map lC)) rfl (aB (ax rfl (bo ?_)))))
   exact qi xq (by omega) F ⟨rfl,rfl⟩
  ·rw[v5]
   exact q _ (g.vals e b _)
def sA{a:Nat}{pr:List Rw}(g:S[a]?=some (qF f))(m:progOf w h f=some pr)(q:Q (.d (.tup (pr.map Rw.d))) S):Fn fA [w.d,.int h,.ref a] S Q:=by
 refine cq ?_
 unfold jB
 refine aK (bU (cN (bc (gW g rfl (v:=f.room) rfl (cO (gJ ?_))))))
 have b:Op (settle S (.tup (pr.map Rw.d)) S) λp=>Q p.1 p.2:=dm (λk z=>(nomatch z)) (vD pr) q
 rcases iX m with⟨c,l,e⟩|⟨i,j,r,u,e,x,y,o⟩
 ·rw[c]
  apply zu (aL (λ_=> ?_) (λz=>by cases z))
  apply aA (d:=.tup (w.af.map eK)) rfl ?_
  refine aA (d:=eK (l,pr)) (bq (by rw[gQm,e];rfl)) ?_
  symm
  refine aA (d:=.tup (pr.map Rw.d)) rfl ?_
  exact b
 ·refine aL (λz=>by have:=QZq z;omega) (λ_=>cc ?_)
  refine eM (bc (bc (bc (bc (bc (ax rfl (cO (aA (d:=.tup (w.aj.map Rm.d)) rfl (gW g rfl (v:=f.room) rfl ?_)))))))))
  rw[e]
  refine aA (d:=r.d) (bq (by rw[gQm,y];rfl)) (cO (aA (d:=.tup (r.ae.map gU)) rfl (gW g rfl (v:=f.deed) rfl ?_)))
  rw[x]
  refine aA (d:=gU (u,pr)) (bq (by rw[gQm,o];rfl)) (cO (aA (d:=.tup (pr.map Rw.d)) rfl ?_))
  exact b
section
variable{x:Gh}{p:Int×List Int}(g:Go lo S0 S t s)(hx:t.ps[i]?=some x)(hp:s.ai[i]?=some p)
include g hx hp
def Go.pa:S[x.a]?=some (.lst [.int p.1,.ref x.r]):=g.n.ho (x.a,_) (vq (cI hx hp) (QBq ..))
def Go.pr:S[x.r]?=some (cP p.2):=g.n.ho (x.r,cP p.2) (vq (cI hx hp) (Qpq _ (QBq ..)))
end
end
structure Rn(rs:dQ):Prop where
 w: -1<=rs.within
 r:∀x∈rs.row,0<=x
 l:∀x∈rs.ag,0<=x
 b:∀l∈rs.aa,∀p∈l,0<=p.2
def Nn(s:bO):Prop:=∀r∈s.aj,Rn r
section
variable{s:bO}{h i:Nat}{r:dQ}{w:dH}
def Nn.at(x:Nn s):Rn (Cd s i):=by
 unfold Cd
 cases e:s.aj[i]? with
 |some r=>exact x r (mQg e)
 |none=>exact⟨by decide,λx a=>(nomatch a),λx a=>(nomatch a),λx a=>(nomatch a)⟩
def Nn.set(x:Nn s)(y:Rn r):Nn (fF s i r):=λq a=>by
 rcases QTq a with a|rfl
 ·exact x q a
 ·exact y
def Rn.come(x:Rn r):Rn (f_ r h):=by
 unfold f_
 split
 ·exact⟨by show(-1:Int)<=h;omega,x.r,x.l,x.b⟩
 ·exact⟨x.w,λy a=>by
   rcases mQa.mp a with a|a
   ·exact x.r y a
   ·rw[Qfq.mp a];omega,x.l,x.b⟩
def Rn.leave(x:Rn r):Rn (eX r):=by
 obtain⟨f,c,d,g,j⟩:=r
 cases g with
 | cons a l=>
   have:=x.l a (QBq ..)
   exact⟨by show(-1:Int)<=a;omega,x.r,λy e=>x.l y (Qpq _ e),x.b⟩
 | nil=>
   cases d with
   | cons a l=>
     have:=x.r a (QBq ..)
     exact⟨by show(-1:Int)<=a;omega,λy e=>x.r y (Qpq _ e),x.l,x.b⟩
   |nil=>exact⟨by show(-1:Int)<= -1;omega,x.r,x.l,x.b⟩
def Rn.line{b:Nat}{l:List (Int×Int)}(x:Rn r)(c:∀p∈l,0<=p.2):Rn {r with aa:=r.aa.set b l}:=⟨x.w,x.r,x.l,λk a=>by
 rcases QTq a with a|rfl
 ·exact x.b k a
 ·exact c⟩
def Rn.wait{rm:Rm}{b:Str}{v:Int}(x:Rn r):Rn (HQ rm r b v h):=by
 unfold HQ
 refine(x.line λp a=> ?_).leave
 have c:∀p∈(r.aa[gQ (rm.aa.map (·.1)) b]?).getD [],0<=p.2:=λp a=>by
  cases e:r.aa[gQ (rm.aa.map (·.1)) b]? with
  |none=>rw[e] at a;cases a
  |some l=>rw[e] at a;exact x.b l (mQg e) p a
 unfold NO at a
 rcases mQa.mp a with a|a
 ·rcases mQa.mp a with a|a
  ·exact c p (List.mem_of_mem_take a)
  ·rw[Qfq.mp a];show(0:Int)<=h;omega
 ·exact c p (List.mem_of_mem_drop a)
def Rn.call{d:Bool}{b:Nat}(x:Rn r):Rn (HB d r b h):=by
 unfold HB
 split
 ·rename_i p l e
  have c:=x.b _ (mQg e)
  have y:=x.line (b:=b) (l:=l) λq f=>c q (Qpq _ f)
  split
  ·exact y
  ·have:=c p (QBq ..)
   exact⟨by show(-1:Int)<=p.2;omega,y.r,λz a=>by
    rcases mQa.mp a with a|a
    ·exact x.l z a
    ·rw[Qfq.mp a];omega,y.b⟩
 ·exact x
def Nn.put{y:Str}{v:Int}(x:Nn s):Nn (lK w s h y v):=by
 unfold lK
 split
 ·unfold lF
  split <;>exact x
 ·have:=x.at (i:=(jD s h).room.toNat)
  exact x.set ⟨this.w,this.r,this.l,this.b⟩
def Nn.does(x:Nn s)(r:Rw):Nn (uv w s h r):=by
 cases r with
 |put y t=>exact x.put
 | unl t n=>
   simp only[uv]
   split <;>exact x
 |do_ g c d t=>exact Nn.set (s:={s with af:=s.af.set h _}) x x.at.come
 |wait b t=>exact x.set x.at.wait
 |call b=>exact x.set x.at.call
 |all b=>exact x.set (x.at.line λp a=>by cases a)
 |_=>exact x
def Nn.step(x:Nn s):Nn (eD w s h).1:=by
 have a:Nn (lB s h):=Nn.set (s:={s with af:=s.af.set h _}) x x.at.leave
 unfold eD
 split
 ·exact x.set x.at.come
 ·split
  ·exact x
  ·split
   ·show Nn (p0 w s h)
    unfold p0
    split
    ·exact a.put
    ·exact a
   ·split
    ·exact x
    ·exact Nn.does (s:=ib s h) x _
end
end W28
namespace DL
open PySem PySem.Spec L2
end DL
namespace W28
open PySem PySem.Spec L2 DL
section
variable{lo:Nat}{S0 S:aD}{t:zS}{s:bO}{h i:Nat}{vs:List Int}{fs:List cC}{f:cC}{w:dH}{n:Nat}{sc:Sc}{Q:Res->aD->Prop}
def JU{a:cy}{r:Rm}{k:Nat}{e:bD}{R:D->aD->Prop}(c:w.aj[i]?=some r)(g:a[0]?=some (some w.d))(he:E e a S λd b=>d=.int i/\b=S)(q:R r.d S):E (aR fR (aR fR (ar 0) (cF (.int 0))) e) a S R:=by
 refine bc (bc (ax g (cO (aA (d:=.tup (w.aj.map Rm.d)) rfl (he.mono λd b j=> ?_)))))
 obtain⟨rfl,rfl⟩:=j
 exact aA (d:=r.d) (bq (by rw[gQm,c];rfl)) q
end
section
variable{lo:Nat}{S0 S:aD}{t:zS}{s:bO}{h i:Nat}{vs:List Int}{fs:List cC}{f:cC}{w:dH}{n:Nat}{sc:Sc}{Q:Res->aD->Prop}
theorem pZ{α b:Type}{f:α->List b}:∀{l:List α} {a:α},a∈l->(f a).Sublist (l.flatMap f)
 | x::l,a,h=>by
   rw[QSq]
   rcases Qsq.mp h with rfl|h
   · exact List.sublist_append_left ..
   · exact(pZ h).trans (List.sublist_append_right ..)
def Go.nf{x:Cc}(g:Go lo S0 S t s)(c:t.hs[h]?=some x):x.f∉x.fs:=λz=>by
 have a:(AV x).Sublist (zZ t):=((pZ (f:=AV) (mQg c)).trans (List.sublist_append_right ..)).trans ((List.sublist_append_right ..).trans (List.sublist_append_right ..))
 have b:=a.nodup g.n.nd
 unfold AV at b
 exact(List.nodup_append.mp b).2.2 x.f (by simp) x.f z rfl
def LK{rs:dQ}{j:List cC}{b:cC}{pr:List Rw}{B:Option Str}{P M:Str}{tr:Tr}(g:Go lo S0 S t s)(o:eQ w)(hn:n<=100)(hs:s.af[h]?=some (vs,j++ [b,f]))(J:f.room=i)(r:s.aj[i]?=some rs)(b1:rs.row.length<900)(b2:rs.ag.length<900)
  (x2:dg w n (lB s h)) (K:progOf w h b=some pr) (h1:1<=b.row) (e:pr[(b.row-1).toNat]?=some (.do_ B P M tr)) (q:∀N t',t'.k=t.k->Go lo S0 N t' (p0 w s h)->Q (.d .non) N):Fn nB [w.d,.ref t.k,.int h] S Q:=by
 obtain⟨x,u⟩:=g.hx hs
 have hf:(j++ [b,f]).getLast? =some f:=by simp
 obtain⟨a,ha,X⟩:=g.last u hs hf
 obtain⟨rx,A⟩:=g.rx r
 have ef:x.fs=x.fs.dropLast++ [a]:=fD ha
 have cf:=g.hf u hs
 have ti:f.room.toNat=i:=by omega
 have e1:=gD hs
 have Y:=eG hs hf
 have H:=g.pop u hs (by simp)
 have ed:(j++ [b,f]).dropLast=j++ [b]:=by rw[show j++ [b,f]=(j++ [b])++ [f] by simp,List.dropLast_concat]
 rw[ed] at H
 have na:a≠x.f:=λz=>g.nf u (by rw[←z];exact QcQ ha)
 refine Cv ?_
 unfold rq
 refine aK (di (uR g u hs rfl rfl ?_))
 refine aK (u3 (fZ (ax rfl ⟨_,_,rfl,cf,bo ⟨_,cf,?_⟩⟩)))
 rw[ef,Qzq]
 refine I_ ?_
 refine C_ (ds:= [.int f.room,.int f.deed,.int f.row,.int f.given,.int f.told]) (by rw[QKq (Ne.symm na)];exact X) rfl (az (aX (az (aX (az (aX (az (aX (az (aX (bJ ?_)))))))))))
 rw[J]
 have F:(t.hs.set h {x with fs:=x.fs.dropLast})[h]?=some {x with fs:=x.fs.dropLast}:=Qyq (gQs.mp u).1
 show T _ _ (S.set x.f (.lst (x.fs.dropLast.map D.ref))) _
 generalize S.set x.f (.lst (x.fs.dropLast.map D.ref))=S1 at H⊢
 refine aK (fm (cM (aB (oz H A rfl (ax rfl ⟨rfl,rfl⟩) (bo ?_)))))
 refine Bd H A r b1 b2 λZ C=> ?_
 have eo:lB s h=fF {s with af:=s.af.set h (vs,j++ [b])} i (eX rs):=by
  unfold lB
  rw[Y,e1,ti,fG r]
  show fF {s with af:=s.af.set h (vs,(j++ [b,f]).dropLast)} i (eX rs)=_
  rw[ed]
 rw[←eo] at C
 have l:(lB s h).af[h]?=some (vs,j++ [b]):=by rw[eo];exact Qyq (gQs.mp hs).1
 have p:(j++ [b]).getLast? =some b:=by simp
 obtain⟨a2,W,m⟩:=C.last F l p
 have U:=C.hf F l
 have le:∀{Γ:cy} {R:D->aD->Prop},Γ[3]?=some (some (.ref x.f))->R (.ref a2) Z->E (aR fR (ar 3) (hU (cF (.int 1)))) Γ Z R:=λh3 q=>bc (ax h3 (jH (cO ⟨1,rfl,bR U (xk W) q⟩)))
 refine aK (di (bc (cM (aB (ax rfl (aB (ax rfl (aB (le rfl (bo ?_))))))))))
 refine sA m K ?_
 refine bc (bc (le rfl (cO (bR m (d:=.int b.row) rfl (cO (gJ ?_))))))
 refine aA (d:=(Rw.do_ B P M tr).d) (iC (by omega) (by rw[gQm,e];rfl)) ?_
 refine bU (cN (bc (bc (ax rfl (cO (aA (d:=Gz B) rfl (cO (ES ?_))))))))
 have eb:G2 w (lB s h) h=some (.do_ B P M tr):=by
  unfold G2
  rw[eG l p,K]
  exact e
 cases B with
 | none=>
   refine zu (aL (λc=>by cases c) (λ_=>cc (q _ {t with hs:=t.hs.set h {x with fs:=x.fs.dropLast}} rfl ?_)))
   have I:p0 w s h=lB s h:=by unfold p0;rw[eb]
   rw[I]
   exact C
 | some y=>
   refine zu (aL (λ_=> ?_) (λc=>by cases c))
   have I:p0 w s h=lK w (lB s h) h y f.told:=by unfold p0;rw[eb,Y]
   rw[I] at q
   obtain⟨a0,G,v⟩:=Ad o K
   have L:=v _ (mQg e)
   refine fm (cM (aB (ax rfl (aB (ax rfl (aB (ax rfl (aB (bc (ax rfl (cO (aA (d:=.str y) rfl (aB (ax rfl (bo ?_)))))))))))))))
   exact IC (t:={t with hs:=t.hs.set h {x with fs:=x.fs.dropLast}}) C o x2 l p G (L.1 y rfl) λN g'=>q _ {t with hs:=t.hs.set h {x with fs:=x.fs.dropLast}} rfl g'
def FB{tr:Tr}(hs:s.af[h]?=some (vs,fs))(a:fs.getLast? =some f):dE w (ib s h) h tr=dE w s h tr:=by
 have c:=(gQs.mp hs).1
 have b:(ib s h).af[h]?=some (vs,fs.dropLast++ [{f with row:=f.row+1}]):=by unfold ib;rw[eG hs a,gM hs];exact Qyq c
 unfold dE
 rw[eG hs a,eG b (f:={f with row:=f.row+1}) (by simp),gD b,gD hs]
 rfl
end
section
variable{lo:Nat}{S0 S:aD}{t:zS}{s:bO}{h i:Nat}{vs:List Int}{fs:List cC}{f:cC}{w:dH}{n:Nat}{sc:Sc}{Q:Res->aD->Prop}
def MD:∀a:Rm,∃r,Rm.d a=.tup (.str a.name::r):=λ_=>⟨_,rfl⟩
def MU:∀a:Str×List Rw,∃r,gU a=.tup (.str a.1::r):=λ_=>⟨_,rfl⟩
def pA{c:cy}{a b:Str}{l:List D}{A B:cA}{R:Out->Prop}(h:c[3]?=some (some (.tup (.str a::l))))(n:a≠b)(q:T B c S R):T (cY (aH (aR (dk false) (aR fR (ar 3) (cF (.int 0))) (cF (.str b)))) A B) c S R:=bU (lM h (by rw[Qdq n];exact q))
def xv{b:cy}{a:Str}{l:List D}{A B:cA}{R:Out->Prop}(h:b[3]?=some (some (.tup (.str a::l))))(q:T A b S R):T (cY (aH (aR (dk false) (aR fR (ar 3) (cF (.int 0))) (cF (.str a)))) A B) b S R:=bU (lM h (by rw[Qeq rfl];exact q))
def PF{c:cy}{a:Str}{l:List D}{A B:cA}{R:Out->Prop}{b:Bool}(h:c[3]?=some (some (.tup (.str a::l))))(e:decide (a∈(["wait","call","all"]:List Str))=b)(q:if b=true then T A c S R else T B c S R):T (cY (aH (B_ false (aR fR (ar 3) (cF (.int 0))) (aQ (a_ (aq (cF (.str "wait")) (aq (cF (.str "call")) (aq (cF (.str "all")) av))))))) A B) c S R:=by
 refine bU (cN (yk (bc (ax h (cO (aA (d:=.str a) Ct (bW (vi (aB (cO (aB (cO (aB (cO (bo ⟨by show 3<=_;decide,cu ⟨_,_,rfl,gE ["wait","call","all"],?_⟩⟩)))))))))))))))
 rw[yI]
 show if decide _=true then _ else _
 rw[e]
 exact q
def JY{r:Rw}{pr:List Rw}(g:Go lo S0 S t s)(nn:Nn s)(o:eQ w)(x:dg w n s)(hn:n<=100)(hs:s.af[h]?=some (vs,fs))(U:fs.getLast? =some f)(hp:progOf w h f=some pr)(h1:1<=f.row)(X:pr[(f.row-1).toNat]?=some r)
  (q:∀S' t',t'.k=t.k->Go lo S0 S' t' (uv w s h r)->Q (.d (NA h (CS w s h r))) S'):Fn j8 [w.d,.ref t.k,.int h,r.d] S Q:=by
 obtain⟨sc,I,a4⟩:=Ad o hp
 have e:=a4 r (mQg X)
 obtain⟨hd,G⟩:=g.hx hs
 obtain⟨a,ha,M⟩:=g.last G hs U
 obtain⟨ts,P,hw,hi⟩:=x.whand hs
 have fi:=hi.fr f (QcQ U)
 have e1:=gD hs
 have e2:=eG hs U
 have b1:=o.l1
 have lr:=x.lr
 have lf:=hi.lf
 obtain⟨rk,b0⟩:=r.d_kind
 have u:sc.own=false->∃(i:Nat) (r:Rm) (L:dQ),f.room=i/\w.aj[i]?=some r/\s.aj[i]?=some L/\uT (aS w.aj) r/\sc.bs=r.aa.map (·.1):=λho=>by
  rcases fw I with⟨c,a0,P,a2,rfl⟩|⟨c,r,hr,rfl⟩
  ·cases ho
  ·obtain⟨L,p,ri⟩:=x.wroom hr
   exact⟨_,r,L,gC fi c,hr,p,o.rm r (mQg hr),rfl⟩
 have F:sc.own=true->sc.ts=w.ai.map (·.1):=λho=>by
  rcases fw I with⟨c,a0,P,a2,rfl⟩|⟨c,r,hr,rfl⟩
  ·rfl
  ·cases ho
 have B:∀{Z:cy} {k:Int} {tr:Tr} {R:D->aD->Prop},Z[0]?=some (some w.d)->Z[1]?=some (some (.ref t.k))->Z[2]?=some (some (.int h))->Z[3]?=some (some r.d)->(∃l,r.d=.tup l/\kQ l k=some tr.d)->FV sc tr->R (.int (dE w s h tr)) S→
   E (aw cG (aq (ar 0) (aq (ar 1) (aq (ar 2) (aq (aR fR (ar 3) (cF (.int k))) av))))) Z S R:=λz0 z1 z2 z3 hk ht q=>by
  obtain⟨l,hl,hk⟩:=hk
  rw[hl] at z3
  exact cM (aB (ax z0 (aB (ax z1 (aB (ax z2 (aB (bc (ax z3 (cO (aA hk (bo (F1 g o x hs U I ht q)))))))))))))
 have J:∀f':cC,Go lo S0 (S.set a (qF f')) t (C8 s h f'):=λf'=>by rw[gM hs];exact g.frame G hs ha U f'
 refine Cv ?_
 unfold sj
 refine aK (di (pU g G hs ha rfl rfl ?_))
 cases r with
 | put y tr=>
   refine aK (xv (a:="put") rfl ?_)
   refine fm (cM (aB (ax rfl (aB (ax rfl (aB (ax rfl (aB (bc (ax rfl (cO (aA (d:=.str y) rfl (aB (B (tr:=tr) rfl rfl rfl rfl ⟨_,rfl,rfl⟩ e.2 (bo ?_)))))))))))))))
   apply IC g o x hs U I e.1 λS' g'=> ?_
   exact q _ t rfl g'
 | unl tr m=>
   refine aK (pA (a:="unless") rfl (by decide +kernel) ?_)
   refine xv (a:="unless") rfl ?_
   refine bU (cN (bc (B (tr:=tr) rfl rfl rfl rfl ⟨_,rfl,rfl⟩ e.1 (cO (dG ?_)))))
   have q:=q
   simp only[uv] at q
   refine aL (λc=> ?_) (λc=>cc ?_)
   · rw[Qhq (QZq c),e2] at q
     refine u3 (bc (ax rfl (cO (aA (d:=.int m) rfl ?_))))
     apply vp (j:=2) (ax rfl ⟨rfl,rfl⟩) (cO ⟨rfl,rfl⟩) M (by simp) ?_
     exact q _ t rfl (J {f with row:=m})
   · rw[Quq (QaQ c)] at q
     symm
     exact q _ t rfl g
 | go m=>
   refine aK (pA (a:="go") rfl (by decide +kernel) ?_)
   refine pA (a:="go") rfl (by decide +kernel) ?_
   refine xv (a:="go") rfl ?_
   have q:=q
   simp only[uv,e2] at q
   refine u3 (bc (ax rfl (cO (aA (d:=.int m) rfl ?_))))
   apply vp (j:=2) (ax rfl ⟨rfl,rfl⟩) (cO ⟨rfl,rfl⟩) M (by simp) ?_
   exact q _ t rfl (J {f with row:=m})
 | do_ gg Y dn tr=>
   have a5:sc.gs=aS w.aj:=by
     rcases fw I with⟨c,a0,P,a2,rfl⟩|⟨c,r,hr,rfl⟩ <;>rfl
   have a1:=e.2.1
   rw[a5] at a1
   obtain⟨a3,rm,A,a6⟩:=EF o a1
   obtain⟨L,p,ri⟩:=x.wroom A
   have H:=o.rm rm (mQg A)
   have b5:=H.l3
   have br:=ri.br
   obtain⟨rx,N⟩:=g.rx p
   refine aK (pA (a:="do") rfl (by decide +kernel) ?_)
   refine pA (a:="do") rfl (by decide +kernel) ?_
   refine pA (a:="do") rfl (by decide +kernel) ?_
   refine xv (a:="do") rfl ?_
   refine aK (di (B (tr:=tr) rfl rfl rfl rfl ⟨_,rfl,rfl⟩ e.2.2 ?_))
   refine aK (di (cM (aB (bc (ax rfl (cO (aA (d:=.tup (w.aj.map Rm.d)) rfl (aB (bc (ax rfl (cO (aA (d:=.str Y) rfl (bo ?_)))))))))))))
   refine qi MD (by omega) a3 ?_
   have q:=q
   have er:uv w s h (.do_ gg Y dn tr)=fF {s with af:=s.af.set h (vs,fs++ [⟨(gQ (w.aj.map (·.name)) Y:Nat),(gQ (rm.ae.map (·.1)) dn:Nat),0,dE w s h tr,0⟩])} (gQ (w.aj.map (·.name)) Y) (f_ L h):=by simp only[uv,e1,se A,fG p]
   rw[er] at q
   generalize gQ (w.aj.map (·.name)) Y=i at A p N q⊢
   generalize dE w s h tr=v at q⊢
   have cf:=g.hf G hs
   refine aK (fm (fZ (uR g G hs rfl rfl ⟨_,_,rfl,cf,?_⟩)))
   refine aB (dP (du (aB (ax rfl (aB (cM (aB (bc (JU (k:=0) A rfl (ax rfl ⟨rfl,rfl⟩) (cO (aA (d:=.tup (rm.ae.map gU)) rfl (aB (bc (ax rfl (cO (aA (d:=.str dn) rfl (bo ?_)))))))))))))))))
   refine qi MU (by omega) a6 ?_
   generalize gQ (rm.ae.map (·.1)) dn=dd at q⊢
   refine aB (cO (aB (ax rfl (aB (cO (bo ⟨by show 5<=_;decide,bo ⟨_,aN cf,?_⟩⟩))))))
   have lx:=g.lf G hs
   refine kq (by rw[lQm];omega) ?_
   have g1:=g.push G hs ⟨i,dd,0,v,0⟩
   rw[Qzq] at g1
   refine fm (cM (aB (oz g1 N rfl (ax rfl ⟨rfl,rfl⟩) (aB (ax rfl (bo ?_))))))
   apply Bc g1 N p (nn L (mQg p)).w (by omega) λS' g2=> ?_
   exact q _ {t with hs:=t.hs.set h {hd with fs:=hd.fs++ [S.length]}} rfl g2
 | tell tr=>
   refine aK (pA (a:="tell") rfl (by decide +kernel) ?_)
   refine pA (a:="tell") rfl (by decide +kernel) ?_
   refine pA (a:="tell") rfl (by decide +kernel) ?_
   refine pA (a:="tell") rfl (by decide +kernel) ?_
   refine xv (a:="tell") rfl ?_
   have q:=q
   simp only[uv,e2] at q
   refine u3 (B (tr:=tr) rfl rfl rfl rfl ⟨_,rfl,rfl⟩ e.2 ?_)
   apply vp (j:=4) (ax rfl ⟨rfl,rfl⟩) (cO ⟨rfl,rfl⟩) M (by simp) ?_
   exact q _ t rfl (J {f with told:=dE w s h tr})
 | wait y t=>
   obtain⟨i,r,L,W,A,p,H,K⟩:=u e.1
   have C:=e.2.1
   rw[K] at C
   exact(qR H C).elim
 | call y=>
   obtain⟨i,r,L,W,A,p,H,K⟩:=u e.1
   have C:=e.2
   rw[K] at C
   exact(qR H C).elim
 | all y=>
   obtain⟨i,r,L,W,A,p,H,K⟩:=u e.1
   have C:=e.2
   rw[K] at C
   exact(qR H C).elim
 | say tr=>
   refine aK (pA (a:="say") rfl (by decide +kernel) ?_)
   refine pA (a:="say") rfl (by decide +kernel) ?_
   refine pA (a:="say") rfl (by decide +kernel) ?_
   refine pA (a:="say") rfl (by decide +kernel) ?_
   refine pA (a:="say") rfl (by decide +kernel) ?_
   refine PF (a:="say") (b:=false) rfl (by decide +kernel) ?_
   rw[Quq (by decide)]
   refine xv (a:="say") rfl ?_
   refine eM (vi (aB (ax rfl (aB (B (tr:=tr) rfl rfl rfl rfl ⟨_,rfl,rfl⟩ e.2 (bo ⟨by show 2<=_;decide,?_⟩))))))
   exact q _ t rfl g
 | take y=>
   have C:=e.2
   rw[F e.1] at C
   exact(rP o C).elim
 | give y=>
   have C:=e.2
   rw[F e.1] at C
   exact(rP o C).elim
 | pass y z=>
   have C:=e.2.1
   rw[F e.1] at C
   exact(rP o C).elim
end
section
variable{lo:Nat}{S0 S:aD}{t:zS}{s:bO}{h i:Nat}{vs:List Int}{fs:List cC}{f:cC}{w:dH}{n:Nat}{sc:Sc}{Q:Res->aD->Prop}
def HY(g:Go lo S0 S t s)(nn:Nn s)(o:eQ w)(x:dg w n s)(hn:n<=100)(hm:h∈p5 w s)(q:∀u t',t'.k=t.k->Go lo S0 u t' (eD w s h).1->Q (.d (NA h (eD w s h).2)) u):Fn ku [w.d,.ref t.k,.int h] S Q:=by
 have W:h<s.af.length:=List.mem_range.mp (List.mem_filter.mp hm).1
 obtain⟨⟨vs,fs⟩,y⟩:∃p,s.af[h]?=some p:=⟨_,gQe W⟩
 obtain⟨ts,a6,hw,hi⟩:=x.whand y
 obtain⟨f,I,fi⟩:=hi.last
 obtain⟨pr,B,a4,b0⟩:=fi.pr
 obtain⟨hd,H⟩:=g.hx y
 obtain⟨a,ha,e⟩:=g.last H y I
 have e1:=gD y
 have C:=eG y I
 have nb:¬(f.room= -1/\f.row=pr.length):=by
  rintro⟨c1,c2⟩
  have:=(List.mem_filter.mp hm).2
  rw[QCq] at this
  have hb:iW w s h=true:=by
   unfold iW AF
   rw[y]
   show(match fs.getLast? with|some f=>_|none=>_)=_
   rw[I]
   simp only[B,Option.getD_some,c1,c2,decide_true,Bool.and_true]
  rw[hb] at this
  exact absurd this.2 (by decide)
 have x2:f.row<pr.length->dg w n (ib s h):=λc=>by
  unfold ib
  rw[C,gM y]
  exact x.goes y I B (by omega) (by omega)
 have gn:Go lo S0 (S.set a (qF {f with row:=f.row+1})) t (ib s h):=by
  unfold ib
  rw[C,gM y]
  exact g.frame H y ha I _
 have Ei:(ib s h).af[h]?=some (vs,fs.dropLast++ [{f with row:=f.row+1}]):=by unfold ib;rw[C,gM y];exact Qyq W
 refine Cv ?_
 unfold oW
 refine aK (di (pU g H y ha rfl rfl ?_))
 refine aK (di (cM (aB (ax rfl (aB (ax rfl (aB (ax rfl (bo ?_)))))))))
 refine sA e B ?_
 have row:∀r,f.row<pr.length->pr[f.row.toNat]?=some r->eD w s h=(uv w (ib s h) h r,CS w s h r)->T (aE (j9 (aR cx (aR fR (ar 3) (cF (.int 2))) (cF (.int 1))) (wx (ar 3) (cF (.int 2)))) (cp (aw j8 (aq (ar 0) (aq (ar 1) (aq (ar 2) (aq (aR fR (ar 4) (aR jv (aR fR (ar 3) (cF (.int 2))) (cF (.int 1)))) av))))))) [some w.d,some (.ref t.k),some (.int h),some (.ref a),some (.tup (pr.map Rw.d))] S (λo=>match o with
   |.nx a1 Y=>T (cp (cF .non)) a1 Y (λo=>match o with|.nx _ u=>Q (.d .non) u|.rt d u=>Q (.d d) u|.rl l u=>Q (.l l) u|_=>False)|o=>match o with|.nx _ u=>Q (.d .non) u|.rt d u=>Q (.d d) u|.rl l u=>Q (.l l) u|_=>False):=λr J b M=>by
  refine aK (u3 (bc (gW e rfl (v:=f.row) rfl (cO (KB ?_)))))
  refine vp (j:=2) (ax rfl ⟨rfl,rfl⟩) (cO ⟨rfl,rfl⟩) e (by simp) ?_
  have F:(S.set a (qF {f with row:=f.row+1}))[a]?=some (qF {f with row:=f.row+1}):=Qyq (gQs.mp e).1
  show T _ _ (S.set a (qF {f with row:=f.row+1})) _
  generalize S.set a (qF {f with row:=f.row+1})=Y at gn F⊢
  refine eM (cM (aB (ax rfl (aB (ax rfl (aB (ax rfl (aB (bc (ax rfl (bc (gW F rfl (v:=f.row+1) rfl (cO (gJ ?_))))))))))))))
  refine aA (d:=r.d) (iC (by omega) (by rw[show f.row+1-1=f.row by omega,gQm,b];rfl)) (bo ?_)
  refine JY (r:=r) (pr:=pr) (f:={f with row:=f.row+1}) gn (show Nn (ib s h) from nn) o (x2 J) hn Ei (by simp) B (by show 1<=f.row+1;omega) (by show pr[(f.row+1-1).toNat]?=_;rw[show f.row+1-1=f.row by omega];exact b) λu t' ht K=> ?_
  have es:CS w (ib s h) h r=CS w s h r:=by
   cases r with
   |say tr=>exact congrArg some (FB y I)
   |_=>rfl
  rw[es]
  rw[M] at q
  exact q u t' ht K
 by_cases c:f.room= -1
 ·
  have J:f.row<pr.length:=by
   have:f.row≠pr.length:=λz=>nb ⟨c,z⟩
   omega
  have b:pr[f.row.toNat]?=some (pr[f.row.toNat]'(by omega)):=gQe (by omega)
  generalize pr[f.row.toNat]'(by omega)=r at b
  refine aK (bU (om (cN (bc (gW e rfl (v:=f.room) rfl (cO (gJ ?_)))))))
  rw[c]
  refine zu (aL (λz=>by cases z) (λ_=> ?_))
  refine aL (λz=>by cases z) (λ_=> ?_)
  refine bU (cN (bc (gW e rfl (v:=f.row) rfl (Ao (bW (ax rfl (cu (dG ?_))))))))
  rw[lQm]
  refine aL (λz=>by have:=QZq z;omega) (λ_=> ?_)
  refine row r J b ?_
  unfold eD
  rw[C,Quq (λz=>z.1 c),B]
  simp only
  rw[Quq (by omega),b]
 ·rcases iX B with⟨c',_⟩|⟨i,j,rm,dn,h1,h2,h3,h4⟩
  ·exact absurd c' c
  obtain⟨U,m,ri⟩:=x.wroom h3
  have br:=ri.br
  have bl:=ri.bl
  have Z:f.room.toNat=i:=by omega
  obtain⟨rx,A⟩:=g.rx m
  have he:∀{Γ:cy},Γ[3]?=some (some (.ref a))->E (aR fR (ar 3) (cF (.int 0))) Γ S λd Y=>d=.int i/\Y=S:=λz=>gW e z (v:=f.room) rfl ⟨by rw[h1],rfl⟩
  refine aK (bU (om (cN (bc (gW e rfl (v:=f.room) rfl (cO (gJ ?_)))))))
  refine aL (λ_=> ?_) (λz=>by have:=QaQ z;omega)
  refine cN (bc (bc (oz g A rfl (he rfl) (cO (bR (g.ca A m) (d:=.int U.within) rfl (ax rfl (mQ ?_)))))))
  by_cases P:U.within=h
  ·rw[Qeq P]
   refine zu (aL (λz=>by cases z) (λ_=> ?_))
   refine bU (cN (bc (gW e rfl (v:=f.row) rfl (Ao (bW (ax rfl (cu (dG ?_))))))))
   rw[lQm]
   by_cases ce:f.row=pr.length
   ·rw[Qeq ce]
    refine zu (aL (λ_=> ?_) (λz=>by cases z))
    have L:=fD I
    have N:=hi.hd
    rw[L] at N
    obtain⟨gs,X,hg⟩:=N.two c
    have G:fs=gs++ [X,f]:=by rw[L,hg];simp
    have R:=hi
    rw[G] at R
    obtain⟨a0,a2⟩:=R.pop
    obtain⟨a3,gg,rn,a5,tr,p1,p2,p3⟩:=a2
    have eo:lB s h={s with aj:=s.aj.set i (eX U),af:=s.af.set h (vs,gs++ [X])}:=by
     unfold lB
     rw[C,e1,Z,fG m]
     simp only[fF]
     rw[G,show gs++ [X,f]=(gs++ [X])++ [f] by simp,List.dropLast_concat]
    have xo:dg w n (lB s h):=by rw[eo];exact(x.hand hw a0).room h3 ri.leave
    have M:eD w s h=(p0 w s h,none):=by
     unfold eD
     rw[C,Z,fG m,Quq (λz=>z.2 P),B]
     simp only
     rw[Qhq ce]
    rw[M] at q
    refine fm (cM (aB (ax rfl (aB (ax rfl (aB (ax rfl (bo ?_))))))))
    apply LK g o hn (by rw[y,G]) h1 m (by omega) (by omega) xo p1 p2 p3 λu t' ht K=> ?_
    exact q _ t' ht K
   ·rw[Qdq ce]
    refine zu (aL (λz=>by cases z) (λ_=> ?_))
    have b:pr[f.row.toNat]?=some (pr[f.row.toNat]'(by omega)):=gQe (by omega)
    generalize pr[f.row.toNat]'(by omega)=r' at b
    refine row r' (by omega) b ?_
    unfold eD
    rw[C,Z,fG m,Quq (λz=>z.2 P),B]
    simp only
    rw[Quq ce,b]
  ·rw[Qdq P]
   refine zu (aL (λ_=> ?_) (λz=>by cases z))
   have M:eD w s h=(fF s i (f_ U h),none):=by
    unfold eD
    rw[C,Z,fG m,Qhq ⟨c,P⟩]
   rw[M] at q
   refine fm (cM (aB (oz g A rfl (he rfl) (aB (ax rfl (bo ?_))))))
   apply Bc g A m (nn U (mQg m)).w (by omega) λu K=> ?_
   exact q _ t rfl K
end
end W28
namespace DL
open PySem PySem.Spec L2
def L0{b:cy}{S:aD}{f:fh}{Q:D->aD->Prop}(h:E f b S λp a=>p.2.isL=true/\∃bs,Ht p.1=some bs/\Q (.bl (bs.any id)) a):E (J3 f) b S Q:=by
 obtain⟨p,a,c,l,bs,d,q⟩:=h
 exact⟨_,a,by unfold J3;rw[c];simp only[Qbq];rw[Qhq l,d];rfl,q⟩
theorem Eh{α:Type}{f:α->Bool}:∀xs:List α,Ht (xs.map λa=>D.bl (f a))=some (xs.map f)
 | []=>rfl
 |a::xs=>by simp only[QDq,Ht];rw[Eh xs];rfl
end DL
namespace W28
open PySem PySem.Spec L2 DL
section
variable{lo:Nat}{S0 S:aD}{t:zS}{s:bO}{h i:Nat}{w:dH}{n:Nat}{Q:Res->aD->Prop}
def Go.ref_at{j:Nat}{d:D}(g:Go lo S0 S t s)(hd:(t.rs.map λx=>D.ref x.a)[j]?=some d):∃x r,t.rs[j]?=some x/\s.aj[j]?=some r/\d=.ref x.a:=by
 rw[gQm] at hd
 obtain⟨x,b,rfl⟩:=oQm.mp hd
 exact⟨x,_,b,gQe (by rw[←g.n.lr];exact(gQs.mp b).1),rfl⟩
def BQ(g:Go lo S0 S t s)(o:eQ w)(x:dg w n s)(hn:n<=100)(q:Q (.d (.bl (decide ((h:Int)∈held s)))) S):Fn fU [.ref t.k,.int h] S Q:=by
 have b2:=o.l2
 have lp:=x.lp
 have lr:=x.lr
 refine cq ?_
 unfold iJ
 have B:(h:Int)∈held s->Op (settle S (.bl true) S) λp=>Q p.1 p.2:=λz=>by
  rw[Qeq z] at q
  exact dm (λk z=>(nomatch z)) rfl q
 have G:∀{j:Nat} {r:dQ},s.aj[j]?=some r->(h:Int)∈hV r->(h:Int)∈held s:=λA z=>mQa.mpr (.inr (QOq.mpr ⟨_,mQg A,z⟩))
 refine aK (gV (kR (bW (bc (ax rfl (cO (bR g.n.top (d:=.ref t.r) rfl (a7 g.n.tr ?_))))))))
 refine⟨λj u F=>(∃a b c d e f,u= [some (.ref t.k),some (.int h),a,b,c,d,e,f])/\F=S/\∀k r,k<j->s.aj[k]?=some r->(h:Int)∉hV r,⟨⟨_,_,_,_,_,_,rfl⟩,rfl,λk r L=>by omega⟩,λ_ _ _ z=>by rw[z.2.1];exact g.n.tr,?_,?_⟩
 ·rintro j d u F M ⟨⟨a,b,c,d',e,f,rfl⟩,hSS,C⟩
  subst F
  obtain⟨y,r,P,A,rfl⟩:=g.ref_at M
  have Y:w.aj[j]?=some (w.aj[j]'(by have:=(gQs.mp A).1;omega)):=gQe _
  have Z:=x.rm j _ r Y A
  have b6:=(o.rm _ (mQg Y)).l2
  have k1:=Z.br
  have U:=Z.bl
  have k3:=Z.lb
  have lz:=g.lb P A
  refine C_ (g.ca P A) rfl (az (aX (az (aX (az (aX (az (aX (az (aX (bJ ?_)))))))))))
  have cr:=g.cr P A
  have cl:=g.cl P A
  have cb:=g.cb P A
  refine aK (bU (cN (yk (ax rfl (qP (xV (bW (ax rfl (a7 cr (bW (ax rfl (a7 cl ?_))))))))))))
  refine⟨⟨rfl,rfl,cr,by rw[lQm,lQm];exact QAq (show _<=200 by omega) (by decide)⟩,_,_,rfl,by rw[←Qzq];exact fH _,?_⟩
  rw[m8]
  refine aL (λz=> ?_) (λz=>cc ?_)
  ·symm
   exact B (G A (mQa.mpr (.inl (QZq z))))
  have z:(h:Int)∉r.row++r.ag:=QaQ z
  refine gV (kR (bW (ax rfl (a7 cb ?_))))
  refine⟨λm u F=>(∃f,u= [some (.ref t.k),some (.int h),some (.ref y.v),some (.int r.within),some (.ref y.r),some (.ref y.l),some (.ref y.b),f])/\F=S/\∀k l,k<m->r.aa[k]?=some l->(h:Int)∉l.map (·.2),⟨⟨_,rfl⟩,rfl,λk r L=>by omega⟩,λ_ _ _ z=>by rw[z.2.1];exact cb,?_,?_⟩
  ·rintro m d u F M ⟨⟨f,rfl⟩,hSS,hno2⟩
   subst F
   have M:(y.bs.map D.ref)[m]?=some d:=M
   rw[gQm] at M
   obtain⟨ba,X,rfl⟩:=oQm.mp M
   obtain⟨l,R⟩:∃l,r.aa[m]?=some l:=⟨_,gQe (by have:=(gQs.mp X).1;omega)⟩
   have W:=g.cbs P A X R
   have ll:=Z.bb l (mQg R)
   refine aX (bU (cN (yk (ax rfl (qP ?_)))))
   refine um (α:=Int×Int) (λu=>∃a b,u= [a,b]) pairD (λp=>.int p.2) (λ_=>true) ⟨none,none,rfl⟩ ?_
   refine kR (bW (ax rfl (a7 W ⟨l,rfl,W,by omega,λp N u J=> ?_,?_⟩)))
   ·obtain⟨a,b,rfl⟩:=J
    refine iq rfl (az (aX (az (aX (bJ ⟨rfl,⟨_,_,rfl⟩,lQ ⟨rfl,rfl,λ_=>ax rfl ⟨rfl,rfl⟩⟩⟩)))))
   have el:(l.filter λ_=>true).map (λp=>D.int p.2)=(l.map (·.2)).map D.int:=by rw[List.filter_eq_self.mpr (λ_ _=>rfl),QPq];rfl
   refine⟨_,_,rfl,by rw[el];exact fH _,?_⟩
   rw[m8]
   refine aL (λz=> ?_) (λz=>cc ?_)
   ·symm
    exact B (G A (mQa.mpr (.inr (QOq.mpr ⟨l,mQg R,QZq z⟩))))
   ·refine⟨⟨_,rfl⟩,rfl,λk l' L I=> ?_⟩
    by_cases e:k=m
    ·subst e
     rw[R] at I
     cases I
     exact QaQ z
    ·exact hno2 k l' (by omega) I
  ·rintro u F ⟨⟨f,rfl⟩,hSS,hno2⟩
   subst F
   refine⟨⟨_,_,_,_,_,_,rfl⟩,rfl,λk r' L K=> ?_⟩
   by_cases e:k=j
   ·subst e
    rw[A] at K
    cases K
    intro H
    rcases mQa.mp H with H|H
    ·exact z H
    ·obtain⟨l,R,H⟩:=QOq.mp H
     obtain⟨m,hm,e⟩:=QbQ R
     exact hno2 m l (by show m<(y.bs.map D.ref).length;rw[lQm];omega) (by rw[gQe hm,e]) H
   ·exact C k r' (by omega) K
 ·rintro u F ⟨⟨a,b,c,d',e,f,rfl⟩,hSS,C⟩
  subst F
  have C:∀r∈s.aj,(h:Int)∉hV r:=λr A=>by
   obtain⟨k,L,e⟩:=QbQ A
   exact C k r (by show k<(t.rs.map _).length;rw[lQm,g.n.lr];exact L) (by rw[gQe L,e])
  refine eM (L0 (qP ?_))
  have a1:=g.n.lp
  refine um (α:=Gh×(Int×List Int)) (λu=>∃a b,u= [a,b,some (.int h)]) (λp=>.ref p.1.a) (λp=>.bl (decide ((h:Int)∈p.2.2))) (λ_=>true) ⟨none,none,rfl⟩ ?_
  refine kR (bW (bc (ax rfl (cO (bR g.n.top (d:=.ref t.p) rfl (a7 g.n.tp ⟨t.ps.zip s.ai,?_,g.n.tp,by rw[List.length_zip];omega,λp N u J=> ?_,?_⟩))))))
  ·show t.ps.map (λx=>D.ref x.a)=(t.ps.zip s.ai).map ((λx:Gh=>D.ref x.a)∘Prod.fst)
   rw[←QPq,List.map_fst_zip (by omega)]
  ·obtain⟨a,b,rfl⟩:=J
   obtain⟨m,k1,U⟩:=jr N
   refine C_ (g.pa k1 U) rfl (az (aX (az (aX (bJ ⟨rfl,⟨_,_,rfl⟩,lQ ⟨rfl,rfl,λ_=> ?_⟩⟩)))))
   refine yk (ax rfl (bW (ax rfl (a7 (g.pr k1 U) ⟨_,_,rfl,fH _,?_⟩))))
   rw[m8]
   exact⟨rfl,rfl⟩
  ·refine⟨rfl,_,by rw[List.filter_eq_self.mpr (λ_ _=>rfl)];exact Eh _,?_⟩
   have e:((t.ps.zip s.ai).map λp=>decide ((h:Int)∈p.2.2)).any id=decide ((h:Int)∈held s):=by
    rw[Bool.eq_iff_iff,List.any_eq_true,decide_eq_true_iff]
    constructor
    ·rintro⟨b,hb,a0⟩
     obtain⟨p,N,rfl⟩:=Qkq.mp hb
     obtain⟨m,_,U⟩:=jr N
     exact mQa.mpr (.inl (QOq.mpr ⟨p.2,mQg U,QZq a0⟩))
    ·intro z
     rcases mQa.mp z with z|z
     ·obtain⟨p,N,z⟩:=QOq.mp z
      obtain⟨m,hm,e⟩:=QbQ N
      refine⟨true,Qkq.mpr ⟨(t.ps[m]'(by omega),p),cI (i:=m) (gQe _) (by rw[gQe hm,e]),Qeq z⟩,rfl⟩
     ·obtain⟨r,A,z⟩:=QOq.mp z
      exact absurd z (C r A)
   rw[e]
   exact dm (λk z=>(nomatch z)) rfl q
end
section
variable{lo:Nat}{S0 S:aD}{t:zS}{s:bO}{h i:Nat}{w:dH}{n:Nat}{Q:Res->aD->Prop}
def JV(g:Go lo S0 S t s)(o:eQ w)(x:dg w n s)(W:n<=100)(q:Q (.l ((p5 w s).map mC)) S):Fn m5 [w.d,.ref t.k] S Q:=by
 have b4:=o.l4
 have U:=x.lh
 refine cq ?_
 unfold qI
 refine aK (di (dP (du (bo ⟨by decide,?_⟩))))
 refine aK (gV (Iz (Ao (bW (bc (ax rfl (cO (aA (d:=.tup (w.af.map eK)) rfl (cu ?_)))))))))
 refine⟨(w.af.length:Nat),by rw[lQm],by omega,?_⟩
 refine⟨λj e I=>(∃a b c,e= [some w.d,some (.ref t.k),some (.ref S.length),a,b,c])/\I=S++ [.lst (((List.range j).filter λh:Nat=> !decide ((h:Int)∈held s)&& !iW w s h).map mC)],⟨⟨_,_,_,rfl⟩,rfl⟩,λ_ _ _ _=>trivial,?_,?_⟩
 ·rintro j d e I Y ⟨⟨a,b,c,rfl⟩,rfl⟩
  obtain⟨rfl,hj⟩:=vw Y
  obtain⟨⟨vs,P⟩,u⟩:∃p,s.af[j]?=some p:=⟨_,gQe (by omega)⟩
  obtain⟨X,B,M,hi⟩:=x.whand u
  obtain⟨f,N,fi⟩:=hi.last
  have C:=g.app (G:= [.lst (((List.range j).filter λh:Nat=> !decide ((h:Int)∈held s)&& !iW w s h).map mC)])
  obtain⟨a0,A⟩:=g.hx u
  obtain⟨fa,ha,m⟩:=C.last A u N
  have r:((List.range (j+1)).filter λh:Nat=> !decide ((h:Int)∈held s)&& !iW w s h)=((List.range j).filter λh:Nat=> !decide ((h:Int)∈held s)&& !iW w s h)++if (!decide ((j:Int)∈held s)&& !iW w s j)=true then [j] else []:=by
   rw[List.range_succ,List.filter_append]
   cases hc:(!decide ((j:Int)∈held s)&& !iW w s j) <;>simp[hc]
  have K:=List.length_filter_le (λh:Nat=> !decide ((h:Int)∈held s)&& !iW w s h) (List.range j)
  rw[QVq] at K
  have F:iW w s j=(decide (f.room<0)&&decide (f.row=(B.length:Int))):=by
   unfold iW AF
   rw[u]
   show(match P.getLast? with|some f=>_|none=>_)=_
   rw[N]
   show(decide (f.room= -1)&&decide (f.row=(((progOf w j f).getD []).length:Int)))=_
   by_cases c:f.room= -1
   ·have Z:progOf w j f=some B:=by unfold progOf;rw[Qhq c,M];rfl
    rw[Qeq c,Qeq (by omega:f.room<0),Z]
    rfl
   ·have:=gC fi c
    rw[Qdq c,Qdq (by omega:¬f.room<0)]
    rfl
  generalize hL:((List.range j).filter λh:Nat=> !decide ((h:Int)∈held s)&& !iW w s h)=L at C m K r⊢
  refine aX ?_
  refine aK (di (pU C A u ha rfl rfl ?_))
  refine aK (di ?_)
  have H:∀{R:D->aD->Prop},R (.bl (iW w s j)) (S++ [.lst (L.map mC)])->E (qZ (aR Ce (aR fR (ar 4) (cF (.int 0))) (cF (.int 0))) (aR (dk false) (aR fR (ar 4) (cF (.int 2))) (g_ (aQ (aR fR (aR fR (aR fR (ar 0) (cF (.int 3))) (ar 3)) (cF (.int 1))))))) [some w.d,some (.ref t.k),some (.ref S.length),some (.int j),some (.ref fa),c] (S++ [.lst (L.map mC)]) R:=λq=>by
   rw[F] at q
   refine lS (bc (gW m rfl (v:=f.room) rfl (cO (gJ ⟨_,rfl,?_⟩))))
   refine aL (λz=> ?_) (λz=> ?_)
   ·rw[z,Bool.true_and] at q
    refine bc (gW m rfl (v:=f.row) rfl (Ao (bW (bc (bc (bc (ax rfl (cO (aA (d:=.tup (w.af.map eK)) rfl (ax rfl (aA (d:=eK (X,B)) (bq (by rw[gQm,M];rfl)) (cO (aA (d:=.tup (B.map Rw.d)) rfl (cu (dG ?_)))))))))))))))
    rw[lQm]
    exact q
   ·rw[z,Bool.false_and] at q
    exact q
  refine H ?_
  refine bU (om (uV (Bb (ax rfl (rH ?_)))))
  have J:(S++ [O.lst (L.map mC)])[S.length]?=some (.lst (L.map mC)):=aM
  refine aL (λz=> ?_) (λz=> ?_)
  ·refine uV (Bb (cM (aB (ax rfl (aB (ax rfl (bo ?_)))))))
   refine BQ C o x W (rH ?_)
   have z:iW w s j=false:=by simpa using z
   rw[z] at r
   refine aL (λy=> ?_) (λy=>cc ?_)
   ·refine fm (fZ (ax rfl ⟨_,_,rfl,J,aB (ax rfl (bo ⟨_,J,kq (by rw[lQm];omega) ?_⟩))⟩))
    refine⟨⟨_,_,_,rfl⟩,?_⟩
    rw[r,y]
    simp[mC]
   ·refine⟨⟨_,_,_,rfl⟩,?_⟩
    rw[r,y]
    simp
  ·refine aL (λz=>by cases z) (λ_=>cc ?_)
   have z:iW w s j=true:=by simpa using z
   rw[z] at r
   refine⟨⟨_,_,_,rfl⟩,?_⟩
   rw[r]
   simp
 ·rintro e I ⟨⟨a,b,c,rfl⟩,rfl⟩
  rw[G8,U]
  symm
  exact Ii rK.refl.app (Qmq _) aM (a9 λ_ _=>rfl) q
def B3{α a:Type}{f:α->Nat}{xs:List α}{ys:List a}(h:xs.length=ys.length):xs.map (λx=>D.ref (f x))=(xs.zip ys).map λp=>.ref (f p.1):=by
 show _=(xs.zip ys).map ((λx=>D.ref (f x))∘Prod.fst)
 rw[←QPq,List.map_fst_zip (by omega)]
def El{α a b:Type}{f:a->b}{xs:List α}{ys:List a}(h:xs.length=ys.length):(xs.zip ys).map (λp=>f p.2)=ys.map f:=by
 show(xs.zip ys).map (f∘Prod.snd)=_
 rw[←QPq,List.map_snd_zip (by omega)]
def Hc{α e:Type}{j:cy}{k v:Nat}{xs:List α}{ys:List e}{f:α->Nat}{c:e->List D}{R:D->aD->Prop}(o:j[v]?=some (some (.ref k)))(g:S[k]?=some (.lst (xs.map λx=>.ref (f x))))(l:xs.length=ys.length)(u:xs.length<=900)(r:∀p∈xs.zip ys,S[f p.1]?=some (.lst (c p.2)))(q:R (.tup (ys.map λy=>.tup (c y))) S):
  E (tupQ (ic (bA [none] (fK (aQ (ar v))) (bH 0) bI (tupQ (cH (aQ (ar 0))))))) j S R:=by
 refine rQ (qP ?_)
 refine i6 (α:=α×e) (λb=>∃a,b= [a]) (λp=>.ref (f p.1)) (λp=>.tup (c p.2)) ⟨none,rfl⟩ ?_
 refine bW (ax o (a7 g ⟨xs.zip ys,B3 l,g,by rw[List.length_zip];omega,λp m b d=> ?_,?_⟩))
 ·obtain⟨a,rfl⟩:=d
  exact aX ⟨rfl,⟨_,rfl⟩,rQ (sy (bW (ax rfl (a7 (r p m) ⟨rfl,rfl,rfl⟩))))⟩
 ·show R (.tup ((xs.zip ys).map λp=>.tup (c p.2))) S
  rw[El (f:=λy=>D.tup (c y)) l]
  exact q
def oJ{a:cy}{k v:Nat}{ds:List D}{R:D->aD->Prop}(c:a[v]?=some (some (.ref k)))(b:S[k]?=some (.lst ds))(q:R (.tup ds) S):E (tupQ (cH (aQ (ar v)))) a S R:=rQ (sy (bW (ax c (a7 b ⟨rfl,q⟩))))
def FK(g:Go lo S0 S t s)(o:eQ w)(x:dg w n s)(hn:n<=100)(q:Q (.d s.d) S):Fn ip [.ref t.k] S Q:=by
 have b1:=o.l1
 have b2:=o.l2
 have b4:=o.l4
 have lr:=x.lr
 have lp:=x.lp
 have lh:=x.lh
 have W:=g.n.lr
 have R:=g.n.lp
 have X:=g.n.lh
 refine cq ?_
 unfold kg
 refine aK (di (dP (du (bo ⟨by decide,?_⟩))))
 have g1:=g.app (G:= [O.lst []])
 refine aK (gV (kR (bW (bc (ax rfl (cO (bR g1.n.top (d:=.ref t.r) rfl (a7 g1.n.tr ?_))))))))
 refine⟨λj u C=>(∃a b c d e,u= [some (.ref t.k),some (.ref S.length),a,b,c,d,e,none,none])/\C=S++ [.lst ((s.aj.take j).map dQ.d)],⟨⟨_,_,_,_,_,rfl⟩,rfl⟩,λ_ _ _ z=>by rw[z.2];exact(g.app).n.tr,?_,?_⟩
 ·rintro j d u C L ⟨⟨a,b,c,Z,e,rfl⟩,rfl⟩
  have I:=g.app (G:= [O.lst ((s.aj.take j).map dQ.d)])
  obtain⟨y,r,A,B,rfl⟩:=I.ref_at L
  have hj:=(gQs.mp B).1
  have U:w.aj[j]?=some (w.aj[j]'(by omega)):=gQe _
  have ri:=x.rm j _ r U B
  have b6:=(o.rm _ (mQg U)).l2
  have k3:=ri.lb
  have lz:=g.lb A B
  have N:(S++ [O.lst ((s.aj.take j).map dQ.d)])[S.length]?=some (.lst ((s.aj.take j).map dQ.d)):=aM
  refine C_ (I.ca A B) rfl (az (aX (az (aX (az (aX (az (aX (az (aX (bJ ?_)))))))))))
  refine fm (fZ (ax rfl ⟨_,_,rfl,N,?_⟩))
  refine aB (vi (aB (oJ rfl (I.cv A B) (aB (ax rfl (aB (oJ rfl (I.cr A B) (aB (oJ rfl (I.cl A B) (aB ?_))))))))))
  refine Hc (f:=λk:Nat=>k) (c:=λl:List (Int×Int)=>l.map pairD) (xs:=y.bs) (ys:=r.aa) rfl (I.cb A B) lz (by omega) (λp P=> ?_) ?_
  ·obtain⟨m,K,J⟩:=jr P
   exact I.cbs A B K J
  refine bo ⟨by show 5<=_;decide,bo ⟨_,N,kq (by rw[lQm,Qxq];omega) ?_⟩⟩
  refine⟨⟨_,_,_,_,_,rfl⟩,?_⟩
  rw[QYq,B]
  simp[dQ.d,eN,jS]
 rintro u C ⟨⟨a,b,c,Z,e,rfl⟩,v⟩
 have er:s.aj.take (t.rs.map λx=>D.ref x.a).length=s.aj:=by rw[lQm,W,QEq]
 have v:C=S++ [.lst (s.aj.map dQ.d)]:=by rw[v];show S++ [O.lst ((s.aj.take (t.rs.map λx=>D.ref x.a).length).map dQ.d)]=_;rw[er]
 subst v
 refine aK (di (dP (du (bo ⟨by decide,?_⟩))))
 have g3:=(g.app (G:= [O.lst (s.aj.map dQ.d)])).app (G:= [O.lst []])
 have e7:(S++ [O.lst (s.aj.map dQ.d)]).length=S.length+1:=by simp
 rw[e7]
 refine aK (gV (kR (bW (bc (ax rfl (cO (bR g3.n.top (d:=.ref t.h) rfl (a7 g3.n.th ?_))))))))
 refine⟨λj u C=>(∃a b c d e f,u= [some (.ref t.k),some (.ref S.length),a,b,c,d,e,some (.ref (S.length+1)),f])/\C=S++ [.lst (s.aj.map dQ.d)]++ [.lst ((s.af.take j).map sD)],⟨⟨_,_,_,_,_,_,rfl⟩,rfl⟩,λ_ _ _ z=>by rw[z.2];exact((g.app).app).n.th,?_,?_⟩
 ·rintro j d u C L ⟨⟨a,b,c,Z,e,f,rfl⟩,rfl⟩
  have M:=(g.app (G:= [O.lst (s.aj.map dQ.d)])).app (G:= [O.lst ((s.af.take j).map sD)])
  have L:(t.hs.map λx=>D.ref x.a)[j]?=some d:=L
  rw[gQm] at L
  obtain⟨y,A,rfl⟩:=oQm.mp L
  have hj:=(gQs.mp A).1
  obtain⟨⟨vs,fs⟩,F⟩:∃p,s.af[j]?=some p:=⟨_,gQe (by omega)⟩
  obtain⟨ts,pr,hw,hi⟩:=x.whand F
  have lf:=hi.lf
  have lx:=M.lf A F
  have N:(S++ [O.lst (s.aj.map dQ.d)]++ [O.lst ((s.af.take j).map sD)])[S.length+1]?=some (.lst ((s.af.take j).map sD)):=by
   have:=aM (S:=S++ [O.lst (s.aj.map dQ.d)]) (o:=O.lst ((s.af.take j).map sD))
   simpa using this
  refine C_ (M.ha A F) rfl (az (aX (az (aX (bJ ?_)))))
  refine fm (fZ (ax rfl ⟨_,_,rfl,N,?_⟩))
  refine aB (vi (aB (oJ rfl (M.hv A F) (aB ?_))))
  refine Hc (f:=λk:Nat=>k) (c:=λf:cC=> [.int f.room,.int f.deed,.int f.row,.int f.given,.int f.told]) (xs:=y.fs) (ys:=fs) rfl (M.hf A F) lx (by omega) (λp P=> ?_) ?_
  ·obtain⟨m,K,J⟩:=jr P
   exact M.hfs A F K J
  refine bo ⟨by show 2<=_;decide,bo ⟨_,N,kq (by rw[lQm,Qxq];omega) ?_⟩⟩
  refine⟨⟨_,_,_,_,_,_,rfl⟩,?_⟩
  rw[QYq,F]
  simp[sD,eN]
  exact λ_ _=>rfl
 rintro u C ⟨⟨a,b,c,Z,e,f,rfl⟩,v⟩
 have eh:s.af.take (t.hs.map λx=>D.ref x.a).length=s.af:=by rw[lQm,X,QEq]
 have v:C=S++ [.lst (s.aj.map dQ.d)]++ [.lst (s.af.map sD)]:=by rw[v];show S++ [O.lst (s.aj.map dQ.d)]++ [O.lst ((s.af.take (t.hs.map λx=>D.ref x.a).length).map sD)]=_;rw[eh]
 subst v
 have H:=(g.app (G:= [O.lst (s.aj.map dQ.d)])).app (G:= [O.lst (s.af.map sD)])
 have gr:(S++ [O.lst (s.aj.map dQ.d)]++ [O.lst (s.af.map sD)])[S.length]?=some (.lst (s.aj.map dQ.d)):=aN aM
 have gh:(S++ [O.lst (s.aj.map dQ.d)]++ [O.lst (s.af.map sD)])[S.length+1]?=some (.lst (s.af.map sD)):=by
  have:=aM (S:=S++ [O.lst (s.aj.map dQ.d)]) (o:=O.lst (s.af.map sD))
  simpa using this
 refine eM (vi (aB (oJ rfl gr (aB (rQ (qP ?_))))))
 refine i6 (α:=Gh×(Int×List Int)) (λu=>∃a b,u= [a,b]) (λp=>.ref p.1.a) (λp=>G6 p.2) ⟨none,none,rfl⟩ ?_
 refine bW (bc (ax rfl (cO (bR H.n.top (d:=.ref t.p) rfl (a7 H.n.tp ⟨t.ps.zip s.ai,B3 R,H.n.tp,by rw[List.length_zip];omega,λp P u Y=> ?_,?_⟩)))))
 ·obtain⟨a,b,rfl⟩:=Y
  obtain⟨m,K,J⟩:=jr P
  refine C_ (H.pa K J) rfl (az (aX (az (aX (bJ ⟨rfl,⟨_,_,rfl⟩,?_⟩)))))
  exact vi (aB (ax rfl (aB (oJ rfl (H.pr K J) (bo ⟨by show 2<=_;decide,rfl,rfl⟩)))))
 show E _ _ _ _
 rw[El (f:=λp:Int×List Int=>G6 p) R]
 refine aB (rQ (sy (bW (bc (ax rfl (cO (bR H.n.top (d:=.ref t.s) rfl (a7 H.n.ts ⟨rfl,?_⟩))))))))
 refine aB (oJ rfl gh (bo ⟨by show 4<=_;decide,?_⟩))
 exact uD (d:=s.d) rK.refl.app.app (bE _) (bO.low _) q
end
structure Bl(lo:Nat)(S:aD)(N:List Nat)(L:List Cell):Prop where
 ho:wN S L
 nd:N.Nodup
 bd:∀a∈N,lo<=a/\a<S.length
def FR{l m:List Nat}{b:Nat}(c:l.Nodup)(d:m.Nodup)(u:∀a∈l,a<b)(v:∀a∈m,b<=a):(l++m).Nodup:=List.nodup_append.mpr ⟨c,d,λx f y g e=>by have:=u x f;have:=v y g;omega⟩
def Bl.nil{lo:Nat}{S:aD}:Bl lo S [] []:=⟨λp b=>(nomatch b),.nil,λa c=>(nomatch c)⟩
def Bl.add{lo:Nat}{S G:aD}{N M:List Nat}{L K:List Cell}(x:Bl lo S N L)(f:lo<=S.length)(e:wN (S++G) K)(nd:M.Nodup)(c:∀a∈M,S.length<=a/\a<(S++G).length):Bl lo (S++G) (N++M) (L++K):=by
 refine⟨λp d=> ?_,FR x.nd nd (λa b=>(x.bd a b).2) λa b=>(c a b).1,λa b=> ?_⟩
 ·rcases mQa.mp d with h|h
  ·exact aN (x.ho p h)
  ·exact e p h
 ·rcases mQa.mp b with h|h
  ·have:=x.bd a h
   rw[lQa]
   omega
  ·have:=c a h
   omega
def Bl.put{lo a:Nat}{S:aD}{N:List Nat}{L:List Cell}{o:O}(x:Bl lo S N L)(f:a<lo)(d:∀p∈L,p.1∈N):Bl lo (S.set a o) N L:=⟨λp c=>by
 have:=x.bd p.1 (d p c)
 rw[QKq (by omega)]
 exact x.ho p c,x.nd,λb e=>by simpa using x.bd b e⟩
def LX{p:Fp×dQ}{c:Cell}(h:c∈AQ p.1 p.2):c.1∈CA p.1:=(Dg p).mem (Qkq.mpr ⟨c,h,rfl⟩)
def Ej{α a:Type}{f:α×a->List Cell}{g:α->List Nat}(h:∀p,((f p).map (·.1)).Sublist (g p.1)){xs:List α}{ys:List a}:∀c∈(xs.zip ys).flatMap f,c.1∈xs.flatMap g:=λc b=>(me h xs ys).mem (Qkq.mpr ⟨c,b,rfl⟩)
def lT{α a:Type}{xs:List α}{ys:List a}{x:α}{y:a}(h:xs.length=ys.length):(xs++ [x]).zip (ys++ [y])=xs.zip ys++ [(x,y)]:=by rw[List.zip_append h];rfl
section
variable{S:aD}
def DG{i:cy}{v:Nat}{ts:List (Str×Nat)}{R:List D->aD->Prop}{f:fh}(j:E f i S λp h=>p=(ts.map lC,.tu)/\h=S)(k:ts.length<=900)(q:R ((bL ts).map D.int) S):E (bA [none,none] (fK f) (lA (nG 2 (aJ (bH 0) (aJ (bH 1) dB)))) bI (ar 1)) i S R:=by
 refine i6 (α:=Str×Nat) (λc=>∃a b,c= [a,b]) lC (λp=>.int (p.2:Int)) ⟨none,none,rfl⟩ (j.mono λp h g=> ?_)
 obtain⟨rfl,rfl⟩:=g
 refine⟨ts,rfl,trivial,by omega,λp g c d=> ?_,?_⟩
 ·obtain⟨a,b,rfl⟩:=d
  exact iq rfl (az (aX (az (aX (bJ ⟨rfl,⟨_,_,rfl⟩,ax rfl ⟨rfl,rfl⟩⟩)))))
 ·have e:ts.map (λp=>D.int (p.2:Int))=(bL ts).map D.int:=by unfold bL;rw[QPq];rfl
  rw[e]
  exact q
def LA{g:cy}{v:Nat}{bs:List (Str×Str)}{R:List D->aD->Prop}(k:g[v]?=some (some (.tup (bs.map EW))))(l:bs.length<=900)(q:R ((List.range bs.length).map λi=>.ref (S.length+i)) (S++List.replicate bs.length (.lst []))):E (bA [none] (fK (aQ (ar v))) (bH 0) bI (bM (bu av))) g S R:=by
 refine jt (kR (bW (ax k (cu ?_))))
 refine⟨λn c f b=>(∃a,c= [a])/\f=S++List.replicate n (.lst [])/\b=(List.range n).map λi=>.ref (S.length+i),⟨⟨_,rfl⟩,by simp,rfl⟩,λ_ _ _ _ _=>trivial,?_,?_⟩
 ·rintro n d c f b j ⟨⟨a,rfl⟩,rfl,rfl⟩
  have h:=(gQs.mp j).1
  have h:n<bs.length:=by simpa using h
  refine aX (lQ ?_)
  rw[Qhq rfl]
  refine dP (du (bo ⟨by decide,?_⟩))
  refine⟨bF (by rw[lQm,QVq];omega),⟨_,rfl⟩,?_,?_⟩
  ·rw[Qvq,List.replicate_succ']
  ·rw[List.range_succ,Qzq]
   simp
 ·rintro c f b ⟨⟨a,rfl⟩,rfl,rfl⟩
  have e:(bs.map EW).length=bs.length:=by simp
  show R ((List.range (bs.map EW).length).map _) (S++List.replicate (bs.map EW).length _)
  rw[e]
  exact q
end
section
variable{S:aD}{w:dH}{Q:Res->aD->Prop}
def i3(m:Nat)(r:Rm):Fp:=⟨m+3+r.aa.length+1,m,m+1,m+2,m+3+r.aa.length,(List.range r.aa.length).map (m+3+·)⟩
def mS(m:Nat)(r:Rm):aD:= [cP (bL r.ao),.lst [],.lst []]++List.replicate r.aa.length (.lst [])++ [.lst ((List.range r.aa.length).map λi=>.ref (m+3+i))]++ [.lst [.ref m,.int (-1),.ref (m+1),.ref (m+2),.ref (m+3+r.aa.length)]]
def GW{m:Nat}{r:Rm}:(mS m r).length=3+r.aa.length+2:=by simp[mS];omega
def m6{r:Rm}{i:Nat}{o:O}(h:(mS S.length r)[i]?=some o):(S++mS S.length r)[S.length+i]?=some o:=by
 rw[QQq (by omega),show S.length+i-S.length=i by omega]
 exact h
def Hh(r:Rm):wN (S++mS S.length r) (AQ (i3 S.length r) (cn r)):=λp g=>by
 have n:∀j,j<r.aa.length->(mS S.length r)[3+j]?=some (.lst []):=λj d=>by
  unfold mS
  rw[Qvq,Qvq,QQq (by simp),QHq (by simp;omega)]
  simp[d]
 have e:(mS S.length r)[3+r.aa.length]?=some (.lst ((List.range r.aa.length).map λi=>.ref (S.length+3+i))):=by
  unfold mS
  rw[Qvq,QQq (by simp;omega),show 3+r.aa.length-([cP (bL r.ao),O.lst [],O.lst []]++List.replicate r.aa.length (O.lst [])).length=0 by simp;omega]
  rfl
 have k:(mS S.length r)[3+r.aa.length+1]?=some (.lst [.ref S.length,.int (-1),.ref (S.length+1),.ref (S.length+2),.ref (S.length+3+r.aa.length)]):=by
  unfold mS
  rw[QQq (by simp;omega),show 3+r.aa.length+1-([cP (bL r.ao),O.lst [],O.lst []]++List.replicate r.aa.length (O.lst [])++ [O.lst ((List.range r.aa.length).map λi=>D.ref (S.length+3+i))]).length=0 by simp;omega]
  rfl
 rcases mQa.mp g with h|h
 ·simp only[Qsq,QXq,or_false] at h
  rcases h with rfl|rfl|rfl|rfl|rfl
  ·have:=m6 (S:=S) k
   rw[show S.length+(3+r.aa.length+1)=S.length+3+r.aa.length+1 by omega] at this
   exact this
  ·exact m6 (S:=S) (i:=0) rfl
  ·exact m6 (S:=S) (i:=1) rfl
  ·exact m6 (S:=S) (i:=2) rfl
  ·have:=m6 (S:=S) e
   rw[show S.length+(3+r.aa.length)=S.length+3+r.aa.length by omega] at this
   show _=some (O.lst (((List.range r.aa.length).map (S.length+3+·)).map D.ref))
   rw[QPq]
   exact this
 ·obtain⟨q,m,rfl⟩:=Qkq.mp h
  obtain⟨j,a,c⟩:=jr m
  have a:((List.range r.aa.length).map (S.length+3+·))[j]?=some q.1:=a
  have c:(r.aa.map λ_=>([]:List (Int×Int)))[j]?=some q.2:=c
  rw[gQm] at a c
  obtain⟨o,a,l⟩:=oQm.mp a
  obtain⟨b,c,f⟩:=oQm.mp c
  have d:=(gQs.mp c).1
  rw[List.getElem?_range d] at a
  cases a
  have:=m6 (S:=S) (n j d)
  rw[show S.length+(3+j)=S.length+3+j by omega] at this
  show(S++mS S.length r)[q.1]?=some (DP q.2)
  rw[←l,←f]
  exact this
def Ih(m:Nat)(r:Rm):(CA (i3 m r)).Nodup/\∀a∈CA (i3 m r),m<=a/\a<m+(3+r.aa.length+2):=by
 have i:((List.range r.aa.length).map (m+3+·)).Nodup:=List.Pairwise.map (R:=(·≠·)) (S:=(·≠·)) _ (λa b n e=>n (by omega)) List.nodup_range
 have d:∀a∈(List.range r.aa.length).map (m+3+·),m+3<=a/\a<m+3+r.aa.length:=λa c=>by
  obtain⟨j,f,rfl⟩:=Qkq.mp c
  have:=List.mem_range.mp f
  omega
 constructor
 ·unfold CA
  rw[List.nodup_append]
  refine⟨?_,i,λx g y k e=> ?_⟩
  ·simp only[i3,List.nodup_cons,Qsq,QXq,or_false,not_or,not_false_eq_true,List.nodup_nil,and_true]
   omega
  ·have:=d y k
   simp only[i3,Qsq,QXq,or_false] at g
   omega
 ·intro a c
  rcases mQa.mp c with h|h
  ·simp only[i3,Qsq,QXq,or_false] at h
   omega
  ·have:=d a h
   omega
def iG(m:Nat):Cc:=⟨m+3,m,m+2,[m+1]⟩
def BW(m:Nat)(h:List (Str×Nat)×List Rw):aD:= [cP (bL h.1),qF xf,.lst [.ref (m+1)],.lst [.ref m,.ref (m+2)]]
def Fm(h:List (Str×Nat)×List Rw):wN (S++BW S.length h) (wy (iG S.length) (bL h.1,[xf])):=λp b=>by
 have a:∀{i:Nat} {o:O},(BW S.length h)[i]?=some o->(S++BW S.length h)[S.length+i]?=some o:=λ{i o} z=>by
  rw[QQq (by omega),show S.length+i-S.length=i by omega]
  exact z
 simp only[wy,iG,List.zip_cons_cons,List.zip_nil_right,QDq,List.map_nil,List.cons_append,List.nil_append,Qsq,QXq,or_false] at b
 rcases b with rfl|rfl|rfl|rfl
 ·exact a (i:=3) rfl
 ·exact a (i:=0) rfl
 ·exact a (i:=2) rfl
 ·exact a (i:=1) rfl
def DR(m:Nat):(AV (iG m)).Nodup/\∀a∈AV (iG m),m<=a/\a<m+4:=by
 constructor
 ·simp only[AV,iG,List.cons_append,List.nil_append,List.nodup_cons,Qsq,QXq,or_false,not_or,not_false_eq_true,List.nodup_nil,and_true]
  omega
 ·intro a b
  simp only[AV,iG,List.cons_append,List.nil_append,Qsq,QXq,or_false] at b
  omega
def Eo{T X:aD}{o a:O}:(T++o::X).set T.length a=T++a::X:=by
 rw[List.set_append_right _ _ (Qmq _)]
 simp
end
section
variable{S:aD}{w:dH}{Q:Res->aD->Prop}
def lH(h:List (Str×Nat)×List Rw):List Int×List cC:=(bL h.1,[xf])
def lV(p:Str×Nat):Int×List Int:=((p.2:Int),[])
def yL{T X:aD}{o:O}:(T++o::X)[T.length]?=some o:=by rw[QQq (Qmq _)];simp
def Ic(o:eQ w)(q:∀(L:aD) (t:zS),t.k=L.length->Go S.length S (L++ [.lst [.ref t.r,.ref t.p,.ref t.s,.ref t.h]]) t (da w)->Q (.l [.ref t.r,.ref t.p,.ref t.s,.ref t.h]) L):Fn jf [w.d] S Q:=by
 have b1:=o.l1
 have b2:=o.l2
 have b3:=o.l3
 have b4:=o.l4
 refine Cv ?_
 unfold mX
 refine aK (di (dP (du (bo ⟨by decide,?_⟩))))
 refine aK (gV (kR (bW (bc (ax rfl (cO (aA (d:=.tup (w.aj.map Rm.d)) rfl (cu ?_))))))))
 refine⟨λj A L=>(∃a b c d e,A= [some w.d,some (.ref S.length),a,b,c,d,e,none,none])/\∃(g:List Fp) (X:aD),L=S++.lst (g.map λx=>.ref x.a)::X/\g.length=j/\Bl (S.length+1) L (g.flatMap CA) ((g.zip ((w.aj.take j).map cn)).flatMap λp=>AQ p.1 p.2)/\∀p∈g.zip ((w.aj.take j).map cn),p.1.bs.length=p.2.aa.length,⟨⟨_,_,_,_,_,rfl⟩,[],[],rfl,rfl,by simpa using Bl.nil,λp I=>by simp at I⟩,λ_ _ _ _=>trivial,?_,?_⟩
 ·rintro j d A L P ⟨⟨a,b,c,d',e,rfl⟩,g,X,rfl,U,bl,lb⟩
  have P:(w.aj.map Rm.d)[j]?=some d:=P
  rw[gQm] at P
  obtain⟨r,hr,rfl⟩:=oQm.mp P
  have hj:=(gQs.mp hr).1
  have a2:=o.rm r (mQg hr)
  have k1:=a2.l1
  have k2:=a2.l2
  have gA:(S++O.lst (g.map λx=>D.ref x.a)::X)[S.length]?=some (.lst (g.map λx=>.ref x.a)):=yL
  have a0:(S++O.lst (g.map λx=>D.ref x.a)::X).length=S.length+1+X.length:=by simp;omega
  have hG:=GW (m:=(S++O.lst (g.map λx=>D.ref x.a)::X).length) (r:=r)
  have N:=bl.add (G:=mS (S++O.lst (g.map λx=>D.ref x.a)::X).length r) (by omega) (Hh r) (Ih _ r).1 (λa ha=>by
   have:=(Ih (S++O.lst (g.map λx=>D.ref x.a)::X).length r).2 a ha
   rw[lQa (bs:=mS _ r),hG]
   omega)
  refine iq rfl (az (aX (az (aX (az (aX (az (aX (az (aX (bJ ?_)))))))))))
  refine fm (fZ (ax rfl ⟨_,_,rfl,gA,?_⟩))
  generalize hT:S++O.lst (g.map λx=>D.ref x.a)::X=T at gA a0 hG bl N⊢
  refine aB (dP (du (aB (dP (DG (v:=0) (ts:=r.ao) (bW (ax rfl (cu ⟨rfl,rfl⟩))) (by omega) ?_)))))
  refine aB (jH (cO ⟨1,rfl,aB (dP (du (bo ⟨by decide,aB (dP (du (bo ⟨by decide,aB (dP (LA (bs:=r.aa) rfl (by omega) ?_))⟩)))⟩)))⟩))
  refine bo ⟨by show 5<=_;decide,bo ?_⟩
  have eS:T++ [O.lst ((bL r.ao).map D.int)]++ [O.lst []]++ [O.lst []]++List.replicate r.aa.length (O.lst [])++ [O.lst ((List.range r.aa.length).map λi=>D.ref ((T++ [O.lst ((bL r.ao).map D.int)]++ [O.lst []]++ [O.lst []]).length+i))]++ [O.lst [.ref T.length,.int (-1),.ref (T++ [O.lst ((bL r.ao).map D.int)]).length,.ref (T++ [O.lst ((bL r.ao).map D.int)]++ [O.lst []]).length,.ref (T++ [O.lst ((bL r.ao).map D.int)]++ [O.lst []]++ [O.lst []]++List.replicate r.aa.length (O.lst [])).length]]=T++mS T.length r:=by
   unfold mS
   simp[cP]
   omega
  have eL:(T++ [O.lst ((bL r.ao).map D.int)]++ [O.lst []]++ [O.lst []]++List.replicate r.aa.length (O.lst [])++ [O.lst ((List.range r.aa.length).map λi=>D.ref ((T++ [O.lst ((bL r.ao).map D.int)]++ [O.lst []]++ [O.lst []]).length+i))]).length=(i3 T.length r).a:=by
   simp[i3]
   omega
  rw[eS,eL]
  refine⟨_,aN gA,kq (by rw[lQm];omega) ?_⟩
  refine⟨⟨_,_,_,_,_,rfl⟩,g++ [i3 T.length r],X++mS T.length r,?_,by simp[U],?_,?_⟩
  ·rw[←hT,Qzq,Qvq,List.cons_append,Eo]
   rfl
  ·have:=N.put (a:=S.length) (o:=.lst (g.map (λx=>D.ref x.a)++ [.ref (i3 T.length r).a])) (by omega) (λp I=>by
    rcases mQa.mp I with h|h
    ·exact mQa.mpr (.inl (Ej Dg p h))
    ·exact mQa.mpr (.inr (LX (p:=(i3 T.length r,cn r)) h)))
   rw[QYq,hr,Qzq]
   show Bl _ _ ((g++ [i3 T.length r]).flatMap CA) (((g++ [i3 T.length r]).zip ((w.aj.take j).map cn++ [cn r])).flatMap _)
   rw[lT (by rw[lQm,Qxq];omega),List.flatMap_append,List.flatMap_append]
   simpa using this
  ·rw[QYq,hr,Qzq]
   show∀p∈(g++ [i3 T.length r]).zip ((w.aj.take j).map cn++ [cn r]),_
   rw[lT (by rw[lQm,Qxq];omega)]
   intro p I
   rcases mQa.mp I with h|h
   ·exact lb p h
   ·rw[Qfq.mp h]
    simp[i3,cn]
 rintro A B ⟨⟨a,b,c,d',e,rfl⟩,g,X,hS2,U,H,lb⟩
 have U:g.length=(w.aj.map Rm.d).length:=U
 rw[lQm] at U
 have a5:w.aj.take (w.aj.map Rm.d).length=w.aj:=by rw[lQm,QEq]
 have H:Bl (S.length+1) B (g.flatMap CA) ((g.zip ((w.aj.take (w.aj.map Rm.d).length).map cn)).flatMap λp=>AQ p.1 p.2):=H
 have lb:∀p∈g.zip ((w.aj.take (w.aj.map Rm.d).length).map cn),p.1.bs.length=p.2.aa.length:=lb
 rw[a5] at H lb
 have gA:B[S.length]?=some (.lst (g.map λx=>.ref x.a)):=by rw[hS2];exact yL
 have b5:S.length+1<=B.length:=by rw[hS2];simp
 refine aK (di (dP (du (bo ⟨by decide,?_⟩))))
 refine aK (gV (kR (bW (bc (ax rfl (cO (aA (d:=.tup (w.af.map eK)) rfl (cu ?_))))))))
 refine⟨λj A L=>(∃a b c d e f,A= [some w.d,some (.ref S.length),a,b,c,d,e,some (.ref B.length),f])/\∃(n:List Cc) (X:aD),L=B++.lst (n.map λx=>.ref x.a)::X/\n.length=j/\Bl (B.length+1) L (n.flatMap AV) ((n.zip ((w.af.take j).map lH)).flatMap λp=>wy p.1 p.2)/\∀p∈n.zip ((w.af.take j).map lH),p.1.fs.length=p.2.2.length,⟨⟨_,_,_,_,_,_,rfl⟩,[],[],rfl,rfl,by simpa using Bl.nil,λp I=>by simp at I⟩,λ_ _ _ _=>trivial,?_,?_⟩
 ·rintro j d A L P ⟨⟨a,b,c,d',e,f,rfl⟩,n,Y,rfl,Z,bl,lf⟩
  have P:(w.af.map eK)[j]?=some d:=P
  rw[gQm] at P
  obtain⟨r,hr,rfl⟩:=oQm.mp P
  have hj:=(gQs.mp hr).1
  have k1:=(o.hd r (mQg hr)).l1
  have gH:(B++O.lst (n.map λx=>D.ref x.a)::Y)[B.length]?=some (.lst (n.map λx=>.ref x.a)):=yL
  have a0:(B++O.lst (n.map λx=>D.ref x.a)::Y).length=B.length+1+Y.length:=by simp;omega
  have N:=bl.add (G:=BW (B++O.lst (n.map λx=>D.ref x.a)::Y).length r) (by omega) (K:=wy (iG (B++O.lst (n.map λx=>D.ref x.a)::Y).length) (lH r)) (Fm r) (DR _).1 (λa ha=>by
   have:=(DR (B++O.lst (n.map λx=>D.ref x.a)::Y).length).2 a ha
   rw[lQa (bs:=BW _ r)]
   show _/\_<_+4
   omega)
  refine iq rfl (az (aX (az (aX (bJ ?_)))))
  refine fm (fZ (ax rfl ⟨_,_,rfl,gH,?_⟩))
  generalize hT:B++O.lst (n.map λx=>D.ref x.a)::Y=T at gH a0 bl N⊢
  refine aB (dP (du (aB (dP (DG (v:=0) (ts:=r.1) (bW (ax rfl (cu ⟨rfl,rfl⟩))) (by omega) ?_)))))
  refine aB (dP (du (aB (dP (du (aB (jH (cO ⟨1,rfl,aB (jH (cO ⟨1,rfl,aB (cO (aB (cO (aB (cO (bo ⟨by show 5<=_;decide,bo ⟨by show 1<=_;decide,bo ⟨by show 2<=_;decide,bo ?_⟩⟩⟩))))))⟩))⟩))))))))
  have eS:T++ [O.lst ((bL r.1).map D.int)]++ [O.lst [.int (-1),.int (-1),.int 0,.int 0,.int 0]]++ [O.lst [.ref (T++ [O.lst ((bL r.1).map D.int)]).length]]++ [O.lst [.ref T.length,.ref (T++ [O.lst ((bL r.1).map D.int)]++ [O.lst [.int (-1),.int (-1),.int 0,.int 0,.int 0]]).length]]=T++BW T.length r:=by
   simp[BW,cP,qF,xf]
  have eL:(T++ [O.lst ((bL r.1).map D.int)]++ [O.lst [.int (-1),.int (-1),.int 0,.int 0,.int 0]]++ [O.lst [.ref (T++ [O.lst ((bL r.1).map D.int)]).length]]).length=(iG T.length).a:=by
   simp[iG]
  rw[eS,eL]
  refine⟨_,aN gH,kq (by rw[lQm];omega) ?_⟩
  refine⟨⟨_,_,_,_,_,_,rfl⟩,n++ [iG T.length],Y++BW T.length r,?_,by simp[Z],?_,?_⟩
  ·rw[←hT,Qzq,Qvq,List.cons_append,Eo]
   rfl
  ·have:=N.put (a:=B.length) (o:=.lst (n.map (λx=>D.ref x.a)++ [.ref (iG T.length).a])) (by omega) (λp I=>by
    rcases mQa.mp I with h|h
    ·exact mQa.mpr (.inl (Ej Cj p h))
    ·exact mQa.mpr (.inr ((Cj (iG T.length,lH r)).mem (Qkq.mpr ⟨p,h,rfl⟩))))
   rw[QYq,hr,Qzq]
   show Bl _ _ ((n++ [iG T.length]).flatMap AV) (((n++ [iG T.length]).zip ((w.af.take j).map lH++ [lH r])).flatMap _)
   rw[lT (by rw[lQm,Qxq];omega),List.flatMap_append,List.flatMap_append]
   simpa using this
  ·rw[QYq,hr,Qzq]
   show∀p∈(n++ [iG T.length]).zip ((w.af.take j).map lH++ [lH r]),_
   rw[lT (by rw[lQm,Qxq];omega)]
   intro p I
   rcases mQa.mp I with h|h
   ·exact lf p h
   ·rw[Qfq.mp h]
    rfl
 rintro A S4 ⟨⟨a,b,c,d',e,f,rfl⟩,n,Y,hS4,Z,F,lf⟩
 have Z:n.length=(w.af.map eK).length:=Z
 rw[lQm] at Z
 have a4:w.af.take (w.af.map eK).length=w.af:=by rw[lQm,QEq]
 have F:Bl (B.length+1) S4 (n.flatMap AV) ((n.zip ((w.af.take (w.af.map eK).length).map lH)).flatMap λp=>wy p.1 p.2):=F
 have lf:∀p∈n.zip ((w.af.take (w.af.map eK).length).map lH),p.1.fs.length=p.2.2.length:=lf
 rw[a4] at F lf
 have gH:S4[B.length]?=some (.lst (n.map λx=>.ref x.a)):=by rw[hS4];exact yL
 have b0:B.length+1<=S4.length:=by rw[hS4];simp
 refine Lg (du (aB (ax rfl (aB (dP (jt (kR (bW (bc (ax rfl (cO (aA (d:=.tup (w.ai.map lC)) rfl (cu ?_)))))))))))))
 refine⟨λj A L a1=>(∃a b,A= [a,b])/\∃(u:List Gh) (G:aD),L=S4++G/\u.length=j/\a1=u.map (λx=>.ref x.a)/\Bl S4.length L (u.flatMap JO) ((u.zip ((w.ai.take j).map lV)).flatMap λp=>KL p.1 p.2),⟨⟨_,_,rfl⟩,[],[],by simp,rfl,rfl,by simpa using Bl.nil⟩,λ_ _ _ _ _=>trivial,?_,?_⟩
 ·rintro j d A L a1 P ⟨⟨a,b,rfl⟩,u,G,rfl,R,rfl,bl⟩
  have P:(w.ai.map lC)[j]?=some d:=P
  rw[gQm] at P
  obtain⟨p,I,rfl⟩:=oQm.mp P
  have hj:=(gQs.mp I).1
  generalize hT:S4++G=T at bl⊢
  have a6:S4.length<=T.length:=by rw[←hT];simp
  have N:=bl.add (G:= [O.lst [],O.lst [.int (p.2:Int),.ref T.length]]) (M:=JO ⟨T.length+1,T.length⟩) (K:=KL ⟨T.length+1,T.length⟩ (lV p)) a6 (λc hc=>by
   simp only[KL,lV,Qsq,QXq,or_false] at hc
   rcases hc with rfl|rfl
   ·show(T++ [O.lst [],O.lst [.int (p.2:Int),.ref T.length]])[T.length+1]?=_
    rw[QQq (by omega),show T.length+1-T.length=1 by omega]
    rfl
   ·show(T++ [O.lst [],O.lst [.int (p.2:Int),.ref T.length]])[T.length]?=_
    rw[QQq (by omega),show T.length-T.length=0 by omega]
    rfl) (by simp[JO]) (λa ha=>by
   simp only[JO,Qsq,QXq,or_false] at ha
   rw[lQa]
   show _/\_<_+2
   omega)
  refine iq rfl (az (aX (az (aX (bJ (lQ ?_))))))
  rw[Qhq rfl]
  refine dP (du (aB (ax rfl (aB (dP (du (bo ⟨by decide,bo ⟨by show 2<=_;decide,?_⟩⟩)))))))
  refine⟨bF (by rw[lQm];omega),⟨_,_,rfl⟩,u++ [⟨T.length+1,T.length⟩],G++ [O.lst [],O.lst [.int (p.2:Int),.ref T.length]],?_,by simp[R],?_,?_⟩
  ·rw[←Qvq,hT]
   simp
  ·simp
  ·rw[QYq,I,Qzq]
   show Bl _ _ ((u++ [(⟨T.length+1,T.length⟩:Gh)]).flatMap JO) (((u++ [(⟨T.length+1,T.length⟩:Gh)]).zip ((w.ai.take j).map lV++ [lV p])).flatMap _)
   rw[lT (by rw[lQm,Qxq];omega),List.flatMap_append,List.flatMap_append]
   simpa using N
 rintro A J a1 ⟨⟨a',b',rfl⟩,u,G,hS5,R,rfl,C⟩
 have R:u.length=(w.ai.map lC).length:=R
 rw[lQm] at R
 have a3:w.ai.take (w.ai.map lC).length=w.ai:=by rw[lQm,QEq]
 have C:Bl S4.length J (u.flatMap JO) ((u.zip ((w.ai.take (w.ai.map lC).length).map lV)).flatMap λp=>KL p.1 p.2):=C
 rw[a3] at C
 have b6:S4.length<=J.length:=by rw[hS5];simp
 refine aB (dP (DG (v:=0) (ts:=w.ak) (bW (bc (ax rfl (cO (aA (d:=.tup (w.ak.map lC)) rfl (cu ⟨rfl,rfl⟩)))))) (by omega) ?_))
 refine aB (ax rfl (bo ⟨by show 4<=_;decide,?_⟩))
 have e6:(J++ [O.lst (u.map λx=>D.ref x.a)]).length=J.length+1:=by simp
 rw[e6]
 refine q _ ⟨J.length+2,S.length,J.length,J.length+1,B.length,g,u,n⟩ (by simp) ?_
 generalize hW:J++ [O.lst (u.map λx=>D.ref x.a)]++ [O.lst ((bL w.ak).map D.int)]++ [O.lst [.ref S.length,.ref J.length,.ref (J.length+1),.ref B.length]]=W
 have w5:∀{j:Nat} {o:O},J[j]?=some o->W[j]?=some o:=λz=>by rw[←hW];exact aN (aN (aN z))
 have w4:∀{j:Nat} {o:O},S4[j]?=some o->W[j]?=some o:=λz=>w5 (by rw[hS5];exact aN z)
 have w2:∀{j:Nat} {o:O},B[j]?=some o->W[j]?=some o:=λz=>w4 (by rw[hS4];exact aN z)
 have w0:∀{j:Nat} {o:O},S[j]?=some o->W[j]?=some o:=λz=>w2 (by rw[hS2];exact aN z)
 have wl:W.length=J.length+3:=by rw[←hW];simp
 have er:(da w).aj=w.aj.map cn:=rfl
 have ep:(da w).ai=w.ai.map lV:=rfl
 have eh:(da w).af=w.af.map lH:=rfl
 refine⟨⟨λp I=> ?_,?_,?_,by rw[er,lQm];exact U,by rw[ep,lQm];exact R,by rw[eh,lQm];exact Z,lb,lf⟩,⟨by omega,λj hj=> ?_⟩,Qmq _⟩
 ·rcases pT I with h|⟨c,hc,h⟩|⟨c,hc,h⟩|⟨c,hc,h⟩
  ·simp only[Qsq,QXq,or_false] at h
   rcases h with rfl|rfl|rfl|rfl|rfl
   ·rw[←hW]
    have:=aM (S:=J++ [O.lst (u.map λx=>D.ref x.a)]++ [O.lst ((bL w.ak).map D.int)]) (o:=O.lst [.ref S.length,.ref J.length,.ref (J.length+1),.ref B.length])
    simpa using this
   ·exact w2 gA
   ·rw[←hW]
    exact aN (aN aM)
   ·rw[←hW]
    have:=aM (S:=J++ [O.lst (u.map λx=>D.ref x.a)]) (o:=O.lst ((bL w.ak).map D.int))
    rw[e6] at this
    exact aN this
   ·exact w4 gH
  ·exact w2 (H.ho p (QOq.mpr ⟨c,hc,h⟩))
  ·exact w5 (C.ho p (QOq.mpr ⟨c,hc,h⟩))
  ·exact w4 (F.ho p (QOq.mpr ⟨c,hc,h⟩))
 ·unfold zZ
  rw[List.nodup_append,List.nodup_append,List.nodup_append]
  refine⟨?_,⟨H.nd,⟨C.nd,F.nd,λx hx y hy e=> ?_⟩,λx hx y hy e=> ?_⟩,λx hx y hy e=> ?_⟩
  ·simp only[List.nodup_cons,Qsq,QXq,or_false,not_or,not_false_eq_true,List.nodup_nil,and_true]
   omega
  ·have:=C.bd x hx
   have:=F.bd y hy
   omega
  ·have:=H.bd x hx
   rcases mQa.mp hy with h|h
   ·have:=C.bd y h
    omega
   ·have:=F.bd y h
    omega
  ·simp only[Qsq,QXq,or_false] at hx
   rcases mQa.mp hy with h|h
   ·have:=H.bd y h
    omega
   ·rcases mQa.mp h with h|h
    ·have:=C.bd y h
     omega
    ·have:=F.bd y h
     omega
 ·intro a ha
  rcases mQa.mp ha with h|h
  ·simp only[Qsq,QXq,or_false] at h
   omega
  ·rcases mQa.mp h with h|h
   ·have:=H.bd a h
    omega
   ·rcases mQa.mp h with h|h
    ·have:=C.bd a h
     omega
    ·have:=F.bd a h
     omega
 ·exact(w0 (gQe hj)).trans (gQe hj).symm
end
section
variable{S S0:aD}{Q:Res->aD->Prop}
def Pl:Nat->D->Prop
 |0,_=>False
 |_+1,.int _=>True
 |_+1,.str _=>True
 |_+1,.non=>True
 |n+1,.tup ds=>ds.length<=1000/\∀d∈ds,Pl n d
 |_+1,_=>False
theorem BS:∀ds:List D,BA ds ds=ds.map λd=>D.tup [d,d]
 | []=>rfl
 | d::ds=>by
   have:=BS ds
   simp only[BA,List.zipWith_cons_cons,QDq] at this⊢
   rw[this]
theorem Ef:∀(n:Nat) (d:D) {S:aD} {Q:Res->aD->Prop},Pl n d->Q (.d (.bl true)) S->Fn (gq n) [d,d] S Q
 |0,_,_,_,h,_=>h.elim
 | n+1,.int i,S,Q,_,q=>by
   refine cq ?_
   unfold gf
   refine aK (bU (bX (d:=.int i) (ax rfl ⟨rfl,rfl⟩) rfl ?_))
   refine aL (λc=>by cases c) (λ_=>cc ?_)
   refine aK (bU (D3 (bX (d:=.int i) (ax rfl ⟨rfl,rfl⟩) rfl ?_)))
   apply aL (λc=>by cases c) (λ_=> ?_)
   refine ES ?_
   refine aL (λc=>by cases c) (λ_=>cc ?_)
   refine eM (lS (uU (ax rfl ⟨_,rfl,true,rfl,?_⟩)))
   rw[Qhq rfl]
   refine lS (L5 (uU (ax rfl ⟨_,rfl,false,rfl,true,rfl,?_⟩)))
   rw[Qhq rfl]
   symm
   refine dG ?_
   rw[Qeq rfl]
   exact dm (λk z=>(nomatch z)) rfl q
 | n+1,.str i,S,Q,_,q=>by
   refine cq ?_
   unfold gf
   refine aK (bU (bX (d:=.str i) (ax rfl ⟨rfl,rfl⟩) rfl ?_))
   refine aL (λc=>by cases c) (λ_=>cc ?_)
   refine aK (bU (D3 (bX (d:=.str i) (ax rfl ⟨rfl,rfl⟩) rfl ?_)))
   refine aL (λ_=> ?_) (λc=>by cases c)
   refine aL (λ_=> ?_) (λc=>by cases c)
   refine eM (lS (bc (uU (ax rfl ⟨_,rfl,uU (ax rfl ⟨_,rfl,.bl true,rfl,true,rfl,?_⟩)⟩))))
   rw[Qhq rfl]
   symm
   refine jc ?_
   rw[Qeq rfl]
   exact dm (λk z=>(nomatch z)) rfl q
 | n+1,.non,S,Q,_,q=>by
   refine cq ?_
   unfold gf
   refine aK (bU (bX (d:=.non) (ax rfl ⟨rfl,rfl⟩) rfl ?_))
   refine aL (λc=>by cases c) (λ_=>cc ?_)
   refine aK (bU (D3 (bX (d:=.non) (ax rfl ⟨rfl,rfl⟩) rfl ?_)))
   apply aL (λc=>by cases c) (λ_=> ?_)
   refine ES ?_
   refine aL (λ_=> ?_) (λc=>by cases c)
   refine eM (lS (bc (uU (ax rfl ⟨_,rfl,uU (ax rfl ⟨_,rfl,.bl true,rfl,true,rfl,?_⟩)⟩))))
   rw[Qhq rfl]
   symm
   refine⟨.bl true,rfl,?_⟩
   exact dm (λk z=>(nomatch z)) rfl q
 | n+1,.tup ds,S,Q,h,q=>by
   refine cq ?_
   unfold gf
   refine aK (bU (bX (d:=.tup ds) (ax rfl ⟨rfl,rfl⟩) rfl ?_))
   refine aL (λ_=> ?_) (λc=>by cases c)
   refine aK (bU (D3 (uV (bX (d:=.tup ds) (ax rfl ⟨rfl,rfl⟩) rfl ?_))))
   apply aL (λc=>by cases c) (λ_=> ?_)
   refine mQ ?_
   rw[Qeq rfl]
   refine aL (λc=>by cases c) (λ_=>cc ?_)
   refine eM (Nu (qP ?_))
   apply um (α:=D) (λe=>∃a b,e= [a,b]) (λd=>D.tup [d,d]) (λ_=>.bl true) (λ_=>true) ⟨none,none,rfl⟩ (Hm ?_)
   refine⟨⟨trivial,Qmq _⟩,ds,BS ds,⟨trivial,trivial⟩,h.1,λd g e f=> ?_,?_⟩
   · obtain⟨a,b,rfl⟩:=f
     refine iq rfl (az (aX (az (aX (bJ ?_)))))
     apply⟨rfl,⟨_,_,rfl⟩,lQ ⟨rfl,rfl,λ_=> ?_⟩⟩
     exact Ef n d (h.2 d g) ⟨rfl,rfl⟩
   · refine⟨rfl,List.replicate ds.length true,?_,?_⟩
     · rw[←BE]
       congr 1
       rw[List.filter_eq_self.mpr (λ_ _=>rfl),List.map_const']
     · have:(List.replicate ds.length true).all id=true:=by simp
       rw[this]
       exact dm (λk z=>(nomatch z)) rfl q
end
section
variable{S S0:aD}{Q:Res->aD->Prop}
def m3{n:Nat}{l:List Int}(h:l.length<=1000):Pl (n+2) (eN l):=⟨by simpa using h,λd b=>by
 obtain⟨a,_,rfl⟩:=Qkq.mp b
 exact trivial⟩
def qY{α:Type}{n:Nat}{f:α->D}{l:List α}(h:l.length<=1000)(b:∀a∈l,Pl n (f a)):Pl (n+1) (.tup (l.map f)):=⟨by simpa using h,λd e=>by
 obtain⟨a,c,rfl⟩:=Qkq.mp e
 exact b a c⟩
def HW{w:dH}{n:Nat}{s:bO}(o:eQ w)(x:dg w n s)(B:n<=100):Pl 9 s.d:=by
 have K:=o.l1
 have F:=o.l2
 have L:=o.l3
 have J:=o.l4
 have I:=x.lr
 have R:=x.lp
 have H:=x.ls
 have A:=x.lh
 refine⟨by show 4<=1000;decide,λd a=> ?_⟩
 simp only[Qsq,QXq,or_false] at a
 rcases a with rfl|rfl|rfl|rfl
 ·refine qY (n:=7) (by omega) λr k=> ?_
  obtain⟨i,m,e⟩:=QbQ k
  have j:s.aj[i]?=some r:=by rw[gQe m,e]
  have h:w.aj[i]?=some (w.aj[i]'(by omega)):=gQe (by omega)
  have b:=x.rm i _ r h j
  have c:=o.rm _ (mQg h)
  have q:=c.l1
  have u:=c.l2
  have v:=b.lv
  have P:=b.lb
  have N:=b.br
  have G:=b.bl
  refine⟨by show 5<=1000;decide,λd a=> ?_⟩
  simp only[Qsq,QXq,or_false] at a
  rcases a with rfl|rfl|rfl|rfl|rfl
  ·exact m3 (by omega)
  ·exact trivial
  ·exact m3 (by omega)
  ·exact m3 (by omega)
  ·refine qY (n:=5) (by omega) λl y=> ?_
   have:=b.bb l y
   refine qY (n:=4) (by omega) λp g=> ?_
   refine⟨by show 2<=1000;decide,λd a=> ?_⟩
   simp only[Qsq,QXq,or_false] at a
   rcases a with rfl|rfl <;>exact trivial
 ·refine qY (n:=7) (by omega) λp g=> ?_
  have:=x.ps p g
  refine⟨by show 2<=1000;decide,λd a=> ?_⟩
  simp only[Qsq,QXq,or_false] at a
  rcases a with rfl|rfl
  ·exact trivial
  ·exact m3 (by omega)
 ·exact m3 (by omega)
 ·refine qY (n:=7) (by omega) λp g=> ?_
  obtain⟨i,m,e⟩:=QbQ g
  have j:s.af[i]?=some (p.1,p.2):=by rw[gQe m,e]
  obtain⟨C,z,h,t⟩:=x.whand j
  have q:=(o.hd _ (mQg h)).l1
  have u:=t.lv
  have v:=t.lf
  refine⟨by show 2<=1000;decide,λd a=> ?_⟩
  simp only[Qsq,QXq,or_false] at a
  rcases a with rfl|rfl
  ·exact m3 (by dsimp only at q;omega)
  ·refine qY (n:=5) (by omega) λf M=> ?_
   refine⟨by show 5<=1000;decide,λd a=> ?_⟩
   simp only[Qsq,QXq,or_false] at a
   rcases a with rfl|rfl|rfl|rfl|rfl <;>exact trivial
def Oa{w:dH}{n h:Nat}{s:bO}{e:Option Int}(o:eQ w)(x:dg w n s)(b:n<=100):Pl 10 (J2 s h e):=by
 refine⟨by show 2<=1000;decide,λd a=> ?_⟩
 simp only[Qsq,QXq,or_false] at a
 rcases a with rfl|rfl
 ·exact HW o x b
 ·cases e with
  |none=>exact trivial
  | some v=>
    refine⟨by show 2<=1000;decide,λd a=> ?_⟩
    simp only[Qsq,QXq,or_false] at a
    rcases a with rfl|rfl <;>exact trivial
def HZ{w:dH}:Nn (da w):=λr c=>by
 obtain⟨q,_,rfl⟩:=Qkq.mp c
 exact⟨by show -1<=(-1:Int);decide,λ_ h=>(nomatch h),λ_ h=>(nomatch h),λl d p a=>by
  obtain⟨b,_,rfl⟩:=Qkq.mp d
  exact(nomatch a)⟩
def Go.re{lo k:Nat}{S0 S a:aD}{t:zS}{s:bO}(g:Go lo S0 S t s)(c:k<lo)(x:Ex k S a):Go lo a a t s:=
 ⟨⟨λp b=>x.keep p.1 p.2 (by have:=g.n.lo p.1 ((zF t s).mem (Qkq.mpr ⟨p,b,rfl⟩));omega) (g.n.ho p b),g.n.nd,g.n.lo,g.n.lr,g.n.lp,g.n.lh,g.n.lb,g.n.lf⟩,Bg.refl,by have:=g.k.len;have:=g.l;have:=x.len;omega⟩
def Ex.kept{k:Nat}{S d S2:aD}(x:Ex k S d)(e:k<S.length)(y:Bg S.length d S2):Ex k S S2:=by
 obtain⟨a,b,c,h⟩:=x.pot
 exact⟨QAq x.len y.len,λj o n h=>by rw[y.eq j (gQs.mp h).1];exact x.keep j o n h,a,b,c,by rw[y.eq k e];exact h⟩
def Ip{w:dH}{k m:Nat}(o:eQ w)(x:Ex k S0 S)(hm:m<=60)(q:∀i,Ex k S0 i->Q (.d (.bl true)) i):Fn kY [.ref k,w.d,.int m] S Q:=by
 have y:Ex k S S:=by obtain⟨a,b,c,B⟩:=x.pot;exact Ex.refl B
 have I:=x.lt
 refine cq ?_
 unfold ou
 refine aK (di (dP (DX (aB (ax rfl (bo (Ic o λS1 t ht g=> ?_)))))))
 refine PC ?_
 rw[←ht]
 have r:=y.kept I g.k
 symm
 apply HC o ?_
 apply jH ?_
 refine⟨1,rfl,?_⟩
 refine aK (gV (Iz (ax rfl ⟨m,rfl,by omega,?_⟩)))
 refine⟨λj A i=>∃(s:bO) (e:Int) (M N P K:Option D) (F:zS) (S0:aD),A= [some (.ref k),some w.d,some (.int m),some (.ref t.k),some s.d,some (.int e),M,N,P,K]/\F.k=t.k/\Go S.length S0 i F s/\Nn s/\dg w (1+j) s/\Ex k S i,⟨da w,-1,_,_,_,_,t,S,rfl,rfl,g,HZ,FW o,r⟩,λ_ _ _ _=>trivial,?_,?_⟩
 ·rintro j d A i Z ⟨s,e,M,N,P,K,F,C,rfl,htk,g,nn,hinv,r⟩
  obtain⟨rfl,hj⟩:=vw (j:=m) Z
  refine aX ?_
  have U:=hinv.mays o (by omega)
  have a0:k<i.length:=r.lt
  refine aK (di (dP (DX (aB (ax rfl (aB (ax rfl (bo ?_))))))))
  rw[←htk]
  apply JV g o hinv (by omega) ?_
  apply a7 aM ?_
  apply⟨⟨rfl,aM⟩,?_⟩
  by_cases u:p5 w s= []
  ·rw[u]
   refine aL (λc=>by cases c) (λ_=>cc ?_)
   exact⟨s,e,_,_,_,_,F,C,rfl,rfl,g.app,nn,hinv.mono (by omega),r.app⟩
  ·have H:0<(p5 w s).length:=List.length_pos_iff.mpr u
   have W:(!((p5 w s).map mC).isEmpty)=true:=by
    cases hc:p5 w s with
    |nil=>exact absurd hc u
    |cons a l=>rfl
   rw[W,Qhq rfl]
   have a1:(p5 w s).length<=4:=by
    have h1:=List.length_filter_le (λh:Nat=> !decide ((h:Int)∈held s)&& !iW w s h) (List.range s.af.length)
    have h2:=hinv.lh
    have h3:=o.l4
    rw[QVq] at h1
    unfold p5
    omega
   symm
   refine Jt (S0:=S) r.app (by omega) aM H (by omega) λh S3 B e1 Y _=> ?_
   have g3:=(g.app (G:= [O.lst ((p5 w s).map mC)])).re I Y
   have L:h<s.af.length:=List.mem_range.mp (List.mem_filter.mp B).1
   obtain⟨⟨vs,fs⟩,X⟩:∃p,s.af[h]?=some p:=⟨_,gQe L⟩
   obtain⟨ts,pr,hw,hi⟩:=hinv.whand X
   obtain⟨f,hf,fi⟩:=hi.last
   obtain⟨R,n⟩:=Jc o hinv (by omega) B X hf
   refine aK (di (cM (aB (ax rfl (aB (ax rfl (aB (ax rfl (bo ?_)))))))))
   apply HY g3 nn o hinv (by omega) B λS4 t4 v J=> ?_
   refine CN U B R ?_
   refine aK (bU (uV (Bb (cM (aB (ax rfl (aB (vi (aB (cM (aB (ax rfl (bo ?_)))))))))))))
   rw[←v]
   apply FK J o n (by omega) ?_
   refine⟨by show 2<=_;decide,?_⟩
   symm
   refine Ef 10 (J2 (eD w s h).1 h (eD w s h).2) (Oa o n (by omega)) ?_
   refine rH ?_
   apply aL (λc=>by cases c) (λ_=>cc ?_)
   refine aA (d:=(eD w s h).1.d) rfl ?_
   rw[v]
   exact⟨_,_,_,_,_,_,t4,S3,rfl,v,J,nn.step,n.mono (by omega),e1.kept I J.k⟩
 ·rintro A i ⟨s,e,M,N,P,K,F,C,rfl,htk,g,nn,hinv,r⟩
  symm
  refine lU r I (λk z=>(nomatch z)) rfl λa b c=>q _ x.set
end
def Hq:∀ns:List Int,ns.length<=63->∃b,Jg [.ref 0] [.frz (ns.map D.int)]=some (.d (.bl true),b):=by
 intro ns G
 suffices h:Fn Jg [.ref 0] [.frz (ns.map D.int)] λr _=>r=.d (.bl true) by
  obtain⟨r,b,e,rfl⟩:=h
  exact⟨b,e⟩
 refine cq ?_
 unfold Lb
 refine aK (gV ?_)
 apply Iz ?_
 apply HD rfl ?_
 apply Gv ?_
 refine Hl ?_
 obtain⟨m,R,M⟩:∃m:Nat,(if (if (4:Int)<((ns.map D.int).length:Nat) then(4:Int) else((ns.map D.int).length:Nat))>(1:Int) then(if (4:Int)<((ns.map D.int).length:Nat) then(4:Int) else((ns.map D.int).length:Nat)) else 1)=(m:Int)/\m<=4:=by
  refine⟨(if (if (4:Int)<((ns.map D.int).length:Nat) then(4:Int) else((ns.map D.int).length:Nat))>(1:Int) then(if (4:Int)<((ns.map D.int).length:Nat) then(4:Int) else((ns.map D.int).length:Nat)) else 1).toNat,?_,?_⟩ <;>(repeat' split) <;>omega
 refine⟨m,congrArg D.int R,by omega,?_⟩
 refine⟨λn f b=>(∃p u q,f= [some (.ref 0),p,u,q])/\b[0]?=some (.frz (ns.map D.int)),⟨⟨_,_,_,rfl⟩,rfl⟩,λ_ _ _ _=>trivial,?_,?_⟩
 ·rintro n d f S H ⟨⟨p,u,q,rfl⟩,hS⟩
  obtain⟨rfl,_⟩:=vw H
  apply aX ?_
  refine LZ hS λj i=> ?_
  have g:Ex S.length (S++ [rD j i 0]) (S++ [rD j i 0]):=Ex.refl aM
  have v:(S++ [rD j i 0])[0]?=some (.frz (ns.map D.int)):=aN hS
  have L:0≠S.length:=by
   have:=(gQs.mp hS).1
   omega
  refine aK (di (cM (aB (ax rfl (aB (bc (cO (cM (aB (ax rfl (aB (cO (bo (bN g (by decide) (by decide) λB S2 N C _ _=> ?_))))))))))))))
  refine⟨_,rfl,?_⟩
  refine aB (dP (du (aB (cO (aB (cO (bo ⟨by show 2<=_;decide,aB (cO (bo ?_))⟩)))))))
  have U:Ex S.length (S++ [rD j i 0]) (S2++ [O.lst ((["at once","when free"]:List Str).map D.str)]):=C.app
  have K:=C.lt
  rw[show(1:Int)+(B:Int)=((1+B:Nat):Int) by omega]
  refine Gx (ms:= ["at once","when free"]) (bm:=0) U (by omega) aM (λs F=>by simpa using F) (by decide) (by decide) (by decide) (by omega) λrs X W x t I _ _=> ?_
  refine bU (uV (Bb (cM (aB (ax rfl (aB (cM (aB (ax rfl (aB (ax rfl (aB (bc (cO (cM (aB (ax rfl (aB (cO (bo (bN I (by decide) (by decide) λA Z J P _ _=> ?_)))))))))))))))))))))
  refine⟨_,rfl,?_⟩
  refine aB (cO (bo ?_))
  rw[show(1:Int)+(A:Int)=((1+A:Nat):Int) by omega]
  refine Hg (pm:=0) P (by omega) (by omega) (by decide) W x t λw S5 ok x6 _ _=> ?_
  refine aB (cO (bo ?_))
  refine Ip (m:=40) ok x6 (by decide) λY Q=> ?_
  refine rH ?_
  refine aL (λc=>by cases c) (λ_=>cc ?_)
  exact⟨⟨_,_,_,rfl⟩,Q.keep 0 _ L v⟩
 ·rintro f b ⟨⟨p,u,q,rfl⟩,hS⟩
  symm
  have x:=(gQs.mp hS).1
  refine iE (S2:= [.frz (ns.map D.int)]) ⟨by show 1<=b.length;omega,λk o y e=> ?_⟩ ?_ (λk z=>(nomatch z)) rfl rfl
  ·have y:k<1:=y
   have:k=0:=by omega
   subst this
   rw[hS] at e
   exact .inl e
  ·cases b with
   |nil=>simp at x
   | cons a l=>
     simp at hS
     subst hS
     rfl
end W28
open PySem PySem.W PyProof.Rows L2 DL
theorem PySem.Challenge.cw_calledroom_k22_deeds_begun_and_ended_holds : PySem.Challenge.rw_calledroom_k22_deeds_begun_and_ended.Holds := by
  w_on; o_law; k_head; (case hw => w_witness2)
  k_fill
  refine DL.N2 (l := PySem.Challenge.rw_calledroom_k22_deeds_begun_and_ended) (k := 15) rfl rfl ⟨rfl, by decide, by decide⟩ (λw h Y => PySem.W.kIn_of Y) (λw => ?nl) ?F
  case nl => rfl
  case F =>
    intro w mg fa h KX G hmg
    refine' W28.all_mk KX G hmg ?_ ?_ ?_ ?_ ?_ ?_ ?_ ?_ ?_ ?_ ?_ ?_ ?_ ?_ ?_ ?_ ?_ ?_ ?_ ?_ ?_ ?_ ?_ ?_ ?_ ?_ ?_ ?_ ?_ ?_ ?_ ?_ ?_ ?_ ?_ ?_ ?_ ?_ ?_ ?_ ?_ ?_ ?_ ?_ ?_ ?_ ?_ ?_ ?_ ?_ ?_ ?_ ?_ ?_ ?_ ?_ ?_ ?_ ?_ ?_ ?_ ?_ ?_ ?_ ?_ ?_ ?_ ?_ ?_ ?_ ?_ ?_ ?_ ?_ ?_ ?_ ?_ ?_ ?_ ?_ ?_ ?_ ?_ ?_ ?_ ?_ ?_ ?_ ?_ ?_ ?_ ?_ ?_ ?_ ?_ ?_ ?_ ?_ ?_ ?_ ?_ ?_ ?_ W28.Hq
    any_goals first | exact DL.aV.of (by k_is) (by k_is) (by k_is) (by k_is) | k_is
