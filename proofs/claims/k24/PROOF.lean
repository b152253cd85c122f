import PyProof.Rows.All
import Wide.FinOn
import KE.KEqDict
import KE.KSortTup
import KE.KUnpack
import KE.KDictOf
import KE.KFromBytes
import KE.KIsAll
import PySem.Challenge.RW_calledroom_k24_called_when_free
set_option Elab.async false
set_option linter.all false
set_option maxRecDepth 100000
set_option maxHeartbeats 8000000
namespace PySem.W.Fast
def tw12529482827826222284:True:=⟨⟩
def tw8036573631615306898:True:=⟨⟩
def tw3231451856724577047:True:=⟨⟩
def tw900582883503907709:True:=⟨⟩
def tw12770879850793595372:True:=⟨⟩
def tw8606537185859319747:True:=⟨⟩
def tw6924498591331658851:True:=⟨⟩
def tw7313253912538526402:True:=⟨⟩
def tw7311094650315717246:True:=⟨⟩
def tw13743651287208898499:True:=⟨⟩
def tw12142129686109258568:True:=⟨⟩
def tw258090260858938184:True:=⟨⟩
def tw14896028425743594590:True:=⟨⟩
def tw9282135681763866085:True:=⟨⟩
def tw14357984016821756741:True:=⟨⟩
def tw2836964847396205115:True:=⟨⟩
def tw15799214707467488215:True:=⟨⟩
def tw3197514800620429351:True:=⟨⟩
def tw4483457240670850744:True:=⟨⟩
def tw13062953619682449075:True:=⟨⟩
def tw6298016239238800486:True:=⟨⟩
def tw14203624119228946115:True:=⟨⟩
def tw1013397730497922507:True:=⟨⟩
def tw2843373303708816508:True:=⟨⟩
def tw5094241813384025761:True:=⟨⟩
def tw17007702757163161714:True:=⟨⟩
def tw2076203914857554745:True:=⟨⟩
def tw8509514547954966466:True:=⟨⟩
def tw4005980306099500700:True:=⟨⟩
def tw4136910920572433971:True:=⟨⟩
def tw8114250103312440002:True:=⟨⟩
def tw14751422489229310430:True:=⟨⟩
def tw3409487105235533036:True:=⟨⟩
def tw18407381745764481700:True:=⟨⟩
def tw2190313859774487276:True:=⟨⟩
def tw14083742317436149727:True:=⟨⟩
def tw15055099570201271915:True:=⟨⟩
def tw12327876463815624667:True:=⟨⟩
def tw1048925847115366897:True:=⟨⟩
def tw1729108039853744489:True:=⟨⟩
def tw15635059248842746930:True:=⟨⟩
def tw12141918414360173215:True:=⟨⟩
def tw5692246333471770910:True:=⟨⟩
def tw5991036482332252146:True:=⟨⟩
def tw1622596206470516278:True:=⟨⟩
def tw5834192259202103805:True:=⟨⟩
def tw17803350320467318621:True:=⟨⟩
def tw14314595473356336938:True:=⟨⟩
def tw10319935422975438002:True:=⟨⟩
def tw3131593058546200178:True:=⟨⟩
def tw4155575469817719760:True:=⟨⟩
def tw15910426777180209511:True:=⟨⟩
def tw11113898173717623462:True:=⟨⟩
def tw8513209876136869583:True:=⟨⟩
def tw17937577418680838589:True:=⟨⟩
def tw5744530269387673038:True:=⟨⟩
def tw3456108912404995023:True:=⟨⟩
def tw12943281184706737162:True:=⟨⟩
def tw5283647532854758793:True:=⟨⟩
def tw3824433759358452926:True:=⟨⟩
def tw5162148083812755745:True:=⟨⟩
def tw7144525529472186844:True:=⟨⟩
def tw6588962174650058768:True:=⟨⟩
def tw9558732312759561626:True:=⟨⟩
def tw11723668994941483869:True:=⟨⟩
def tw1396157936285538335:True:=⟨⟩
def tw13096490720676231333:True:=⟨⟩
def tw4422425346073905094:True:=⟨⟩
def tw2555537123785765122:True:=⟨⟩
def tw6691107427969283431:True:=⟨⟩
def tw6774542890548952487:True:=⟨⟩
def tw4612521991839598359:True:=⟨⟩
def tw16641349810596102495:True:=⟨⟩
def tw8515335620146773490:True:=⟨⟩
def tw12661874247762840456:True:=⟨⟩
def tw8399659077869357688:True:=⟨⟩
def tw18046706205576110173:True:=⟨⟩
def tw5817660360537240676:True:=⟨⟩
def tw3333326124094988121:True:=⟨⟩
def tw6936721303945031795:True:=⟨⟩
def tw8138492630479143103:True:=⟨⟩
def tw616896314216764027:True:=⟨⟩
def tw8207746810923794948:True:=⟨⟩
def tw7701886690800122781:True:=⟨⟩
def tw9303781292973647752:True:=⟨⟩
def tw15059704692440428201:True:=⟨⟩
def tw6484058318960689887:True:=⟨⟩
def tw13597934418351516323:True:=⟨⟩
def tw11572556775059937180:True:=⟨⟩
def tw5944621203150858384:True:=⟨⟩
def tw15653399232120423495:True:=⟨⟩
def tw3894459720428646241:True:=⟨⟩
def tw3491469168749892745:True:=⟨⟩
def tw3916452338159335870:True:=⟨⟩
def tw15865368527845334564:True:=⟨⟩
def tw3566574538421654405:True:=⟨⟩
def tw3899512218871731778:True:=⟨⟩
def tw2995632880756580671:True:=⟨⟩
def tw10669188188789931786:True:=⟨⟩
def tw10042787794196547346:True:=⟨⟩
def tw16000227776035131617:True:=⟨⟩
def tw6038858373460698118:True:=⟨⟩
def tw13752196253812189463:True:=⟨⟩
def tw10474708235986122639:True:=⟨⟩
def tw7953158190936557025:True:=⟨⟩
def tw16567211167599650006:True:=⟨⟩
def tw6158639617637859002:True:=⟨⟩
def tw8844746650999907446:True:=⟨⟩
def tw1961046074611911139:True:=⟨⟩
def tw18002565096541538570:True:=⟨⟩
def tw4720807762539013857:True:=⟨⟩
def tw11784508966122822049:True:=⟨⟩
def tw7341498510801197447:True:=⟨⟩
def tw11829506175016245316:True:=⟨⟩
def tw18306055668508843089:True:=⟨⟩
def tw6156749380942082616:True:=⟨⟩
def tw14584053703114144635:True:=⟨⟩
def tw11801228767438289785:True:=⟨⟩
def tw4338715805722190022:True:=⟨⟩
def tw4338894094559527355:True:=⟨⟩
def tw85587705574399648:True:=⟨⟩
def tw3514953918945592583:True:=⟨⟩
def tw3538417140325042087:True:=⟨⟩
def tw13823194289702909980:True:=⟨⟩
def tw5699603818278332929:True:=⟨⟩
def tw5212927301901085528:True:=⟨⟩
def tw9424408138633113812:True:=⟨⟩
def tw16021111599226980884:True:=⟨⟩
def tw7104851513580665006:True:=⟨⟩
def tw10524593010151867620:True:=⟨⟩
def tw10941778640003441981:True:=⟨⟩
def tw3726618832424490011:True:=⟨⟩
def tw12003709763444234528:True:=⟨⟩
def tw3754039818003018486:True:=⟨⟩
def tw13200997788530459068:True:=⟨⟩
def tw10355292955032159116:True:=⟨⟩
def tw14822259003086350978:True:=⟨⟩
def tw11954023931670509132:True:=⟨⟩
def tw15418390131159070370:True:=⟨⟩
def tw15079403825646734206:True:=⟨⟩
def tw3467900497145507504:True:=⟨⟩
def tw3410115931669319862:True:=⟨⟩
def tw102752663077314655:True:=⟨⟩
def tw9657068742520365488:True:=⟨⟩
def tw3964037828528493081:True:=⟨⟩
def tw11917894306331080112:True:=⟨⟩
def tw2266005951677155095:True:=⟨⟩
def tw10498054010893145780:True:=⟨⟩
def tw8832470730684327329:True:=⟨⟩
def tw18281487444049106349:True:=⟨⟩
def tw16379693742330377507:True:=⟨⟩
def tw18330543004590288239:True:=⟨⟩
def tw8836854028146478853:True:=⟨⟩
def tw14052420419101775378:True:=⟨⟩
def tw2495426037450970958:True:=⟨⟩
def tw10268664328391835593:True:=⟨⟩
def tw8645732331587058706:True:=⟨⟩
def tw12336443371151619247:True:=⟨⟩
def tw1533108104244188800:True:=⟨⟩
def tw10770248913414950494:True:=⟨⟩
def tw8183380638996439733:True:=⟨⟩
def tw16892529568355160066:True:=⟨⟩
def tw17080668100191432844:True:=⟨⟩
def tw8302098686169245775:True:=⟨⟩
def tw7178439269265515823:True:=⟨⟩
def tw13591858999330594736:True:=⟨⟩
def tw6018070576312207717:True:=⟨⟩
def tw13195974378094929018:True:=⟨⟩
def tw6933573246735007318:True:=⟨⟩
def tw4720979077843342972:True:=⟨⟩
def tw867857227157905072:True:=⟨⟩
def tw12018383445665099129:True:=⟨⟩
def tw16318791612817315541:True:=⟨⟩
def tw9107670777491865980:True:=⟨⟩
def tw15399590955891676394:True:=⟨⟩
def tw4867368316183830224:True:=⟨⟩
def tw3424327016784183205:True:=⟨⟩
def tw11182440229181633153:True:=⟨⟩
def tw5368264441949973201:True:=⟨⟩
def tw6464323199535010522:True:=⟨⟩
def tw18374591217426713397:True:=⟨⟩
def tw9518598709276918405:True:=⟨⟩
def tw1118817568223048509:True:=⟨⟩
def tw6364805605163026051:True:=⟨⟩
def tw13622639334479446752:True:=⟨⟩
def tw8404241827575286500:True:=⟨⟩
def tw7255859927239667274:True:=⟨⟩
def tw3469697516475164593:True:=⟨⟩
def tw15445216557182291313:True:=⟨⟩
def tw1077663884360773360:True:=⟨⟩
def tw6033974599744271234:True:=⟨⟩
def tw8976558532026365476:True:=⟨⟩
def tw14321083116463246677:True:=⟨⟩
def tw9580208963146579239:True:=⟨⟩
def tw9745584805660333239:True:=⟨⟩
def tw1808803525575707486:True:=⟨⟩
def tw15186756915200062396:True:=⟨⟩
def tw9086829016695167679:True:=⟨⟩
def tw11316680498481617254:True:=⟨⟩
def tw575309516759657556:True:=⟨⟩
def tw2550331856414470926:True:=⟨⟩
def tw16112317801611663601:True:=⟨⟩
def tw9507124553833149947:True:=⟨⟩
def tw13970311772473553220:True:=⟨⟩
def tw3188128040476285429:True:=⟨⟩
def tw3688854891952313031:True:=⟨⟩
def tw534043998608688948:True:=⟨⟩
def tw5721687840075014381:True:=⟨⟩
def tw9766074969207136662:True:=⟨⟩
def tw15903646687701410028:True:=⟨⟩
def tw12434164541725532023:True:=⟨⟩
def tw8151816712195689745:True:=⟨⟩
def tw15733238145930073948:True:=⟨⟩
def tw11067555966089766817:True:=⟨⟩
def tw596816791349763860:True:=⟨⟩
def tw6821248703958381435:True:=⟨⟩
def tw16809319565226852193:True:=⟨⟩
def tw2086906867757362558:True:=⟨⟩
def tw17193440607770000792:True:=⟨⟩
def tw13785818523133244103:True:=⟨⟩
def tw11730914333004565368:True:=⟨⟩
def tw12723658438851592748:True:=⟨⟩
def tw6112828639480133985:True:=⟨⟩
def tw8631536700258808197:True:=⟨⟩
def tw10981450932850118728:True:=⟨⟩
def tw3533689402187521195:True:=⟨⟩
def tw2977350795771578366:True:=⟨⟩
def tw5667295574328415763:True:=⟨⟩
def tw12015255763853723293:True:=⟨⟩
def tw11409360449040280192:True:=⟨⟩
def tw1583743142583059914:True:=⟨⟩
def tw5214893407508028222:True:=⟨⟩
def tw7105228844507136556:True:=⟨⟩
def tw6177315008754652950:True:=⟨⟩
def tw13549075670205780070:True:=⟨⟩
def tw10125911036454500678:True:=⟨⟩
def tw15119827824533392559:True:=⟨⟩
def tw15091166801650418217:True:=⟨⟩
def tw17598838926101290245:True:=⟨⟩
def tw10752919419619746763:True:=⟨⟩
def tw14583985922491810184:True:=⟨⟩
def tw6727076074920210385:True:=⟨⟩
def tw9442602095796966050:True:=⟨⟩
def tw4260063433057215187:True:=⟨⟩
def tw2629752737917190658:True:=⟨⟩
def tw17985937914841262587:True:=⟨⟩
def tw12079261570008597895:True:=⟨⟩
def tw581774977695911259:True:=⟨⟩
def tw6073059310940501031:True:=⟨⟩
def tw13117095481529952713:True:=⟨⟩
def tw2634920212448589863:True:=⟨⟩
def tw8335991747321424637:True:=⟨⟩
def tw11619693285520526013:True:=⟨⟩
def tw15159165410272126159:True:=⟨⟩
def tw10339537197946771452:True:=⟨⟩
def tw6452400383773560024:True:=⟨⟩
def tw11856714749583482025:True:=⟨⟩
def tw14626772141403424457:True:=⟨⟩
def tw7377347387112264469:True:=⟨⟩
def tw7378484152559615557:True:=⟨⟩
def tw10509167225107387544:True:=⟨⟩
def tw9560641026069975033:True:=⟨⟩
def tw14609776837721044781:True:=⟨⟩
def tw1870812395048396324:True:=⟨⟩
def tw5518500122954242326:True:=⟨⟩
def tw11344098982862502348:True:=⟨⟩
def tw14683851476613218516:True:=⟨⟩
def tw4178249218250639347:True:=⟨⟩
def tw3144907487009880190:True:=⟨⟩
def tw9352731116330912828:True:=⟨⟩
def tw1121616498720442713:True:=⟨⟩
def tw2314378067881340781:True:=⟨⟩
def tw5798788107450942649:True:=⟨⟩
def tw10864191819020468359:True:=⟨⟩
def tw9083343386119662474:True:=⟨⟩
def tw14025351986529076079:True:=⟨⟩
def tw15841889984566189118:True:=⟨⟩
def tw480731875851409567:True:=⟨⟩
def tw14128603478259503878:True:=⟨⟩
def tw4186839368630756270:True:=⟨⟩
def tw4624109563749961615:True:=⟨⟩
def tw9680520336095485323:True:=⟨⟩
def tw10896359123794899335:True:=⟨⟩
def tw3633359888654500024:True:=⟨⟩
def tw4713238971727617202:True:=⟨⟩
def tw2081179671065033654:True:=⟨⟩
def tw7769561747944763649:True:=⟨⟩
def tw14512114473273125701:True:=⟨⟩
def tw13502564773456205516:True:=⟨⟩
def tw6381971201514359992:True:=⟨⟩
def tw16456423688357466683:True:=⟨⟩
def tw108350479480215982:True:=⟨⟩
def tw17225703270769994618:True:=⟨⟩
def tw15780239629817703121:True:=⟨⟩
def tw7895026730667708620:True:=⟨⟩
def tw4446680970357529941:True:=⟨⟩
def tw307513815246151808:True:=⟨⟩
def tw4539004023159592450:True:=⟨⟩
def tw11496984798797274990:True:=⟨⟩
def tw11967830079943226855:True:=⟨⟩
def tw2926283333625460903:True:=⟨⟩
def tw3870320159514992552:True:=⟨⟩
def tw9963478882298785718:True:=⟨⟩
def tw17539480693029586763:True:=⟨⟩
def tw7886011138049771304:True:=⟨⟩
def tw12436195851624198990:True:=⟨⟩
def tw5268550536793736483:True:=⟨⟩
def tw12069696196322993512:True:=⟨⟩
def tw14028430218784725333:True:=⟨⟩
def tw15473790890564479348:True:=⟨⟩
def tw17653964637991168752:True:=⟨⟩
def tw9452505030816984093:True:=⟨⟩
def tw6744270967235567534:True:=⟨⟩
def tw3121565556117842317:True:=⟨⟩
def tw216741597126158349:True:=⟨⟩
def tw5324863800106271685:True:=⟨⟩
def tw9264920503792539589:True:=⟨⟩
def tw4948981479777388341:True:=⟨⟩
def tw10415970989797427460:True:=⟨⟩
def tw15759248146686226076:True:=⟨⟩
def tw6309816978925712033:True:=⟨⟩
def tw12391271605381405530:True:=⟨⟩
def tw3061179292301903260:True:=⟨⟩
def tw17972000681251810911:True:=⟨⟩
def tw1095070147734637050:True:=⟨⟩
def tw5453220038598779924:True:=⟨⟩
def tw13015761945172320594:True:=⟨⟩
end PySem.W.Fast
set_option bootstrap.genMatcherCode false
set_option compiler.extract_closed false
noncomputable section
local macro_rules|`(tactic|omega)=>`(tactic|lia)
abbrev gQm:=@List.getElem?_map
abbrev lQm:=@List.length_map
abbrev mQg:=@List.mem_of_getElem?
abbrev oQm:=@Option.map_eq_some_iff
abbrev gQe:=@List.getElem?_eq_getElem
abbrev gQs:=@List.getElem?_eq_some_iff
abbrev lQa:=@List.length_append
abbrev nQl:=@Nat.le_of_lt
abbrev mQa:=@List.mem_append
abbrev Qaq:=@PySem.wpAny_bind
abbrev Qbq:=@Option.bind_some
abbrev Qcq:=@PySem.Heap.get?_push_of_some
abbrev Qdq:=@decide_eq_false
abbrev Qeq:=@decide_eq_true
abbrev Qfq:=@List.mem_singleton
abbrev Qgq:=@PySem.wpAny_pure
abbrev Qhq:=@if_pos
abbrev Qiq:=@PySem.Heap.lt_size
abbrev Qjq:=@List.size_toArray
abbrev Qkq:=@List.mem_map
abbrev Qlq:=@List.getD_eq_getElem?_getD
abbrev Qmq:=@Nat.le_refl
abbrev Qnq:=@List.length_cons
abbrev Qoq:=@List.mem_append_right
abbrev Qpq:=@List.mem_cons_of_mem
abbrev Qqq:=@Nat.lt_of_lt_of_le
abbrev Qrq:=@PySem.Heap.get?_push_size
abbrev Qsq:=@List.mem_cons
abbrev Qtq:=@Bool.false_ne_true
abbrev Quq:=@if_neg
abbrev Qvq:=@List.append_assoc
abbrev Qwq:=@Nat.ne_of_lt
abbrev Qxq:=@List.length_take
abbrev Qyq:=@List.getElem?_set_self
abbrev Qzq:=@List.map_append
abbrev QAq:=@Nat.le_trans
abbrev QBq:=@List.mem_cons_self
abbrev QCq:=@Bool.and_eq_true
abbrev QDq:=@List.map_cons
abbrev QEq:=@List.take_length
abbrev QFq:=@PySem.W.mg_none_of
abbrev QGq:=@List.length_nil
abbrev QHq:=@List.getElem?_append_left
abbrev QIq:=@List.length_replicate
abbrev QJq:=@List.Perm.append_right
abbrev QKq:=@List.getElem?_set_ne
abbrev QLq:=@PySem.wpAny_holding
abbrev QMq:=@PySem.wpAny_field
abbrev QNq:=@List.replicate_succ
abbrev QOq:=@List.mem_flatMap
abbrev QPq:=@List.map_map
abbrev QQq:=@List.getElem?_append_right
abbrev QRq:=@PySem.wpAny_mono
abbrev QSq:=@List.flatMap_cons
abbrev QTq:=@List.mem_or_eq_of_mem_set
abbrev QUq:=@List.all_eq_true
abbrev QVq:=@List.length_range
abbrev QWq:=@List.drop_eq_getElem_cons
abbrev QXq:=@List.not_mem_nil
abbrev QYq:=@List.take_add_one
abbrev QZq:=@of_decide_eq_true
abbrev QaQ:=@of_decide_eq_false
abbrev QbQ:=@List.getElem_of_mem
abbrev QcQ:=@List.mem_of_getLast?
abbrev QdQ:=@Option.some.inj
abbrev QeQ:=@List.of_mem_zip
abbrev QfQ:=@List.getLast?_map
abbrev QgQ:=@PySem.wpAny_ite_false
abbrev QhQ:=@PySem.wpAny_newObj_type
abbrev QiQ:=@PySem.wpAny_callSpecial?_slot
abbrev QjQ:=@List.Sublist.refl
abbrev QkQ:=@List.eq_of_mem_replicate
abbrev QlQ:=@List.map_replicate
namespace L2
open PySem PySem.Spec PyProof.Rows
abbrev Key:=Sum Int Str
def sX:Key->Value->Bool
 |.inl k,v=>Value.isInt k v
 |.inr x,v=>Value.isStrOf x v
def Pt(w:World):Key->Int
 |.inl k=>hashInt k
 |.inr x=>hashStr w x
def dB:∀{k:Key} {v:Value},sX k v=true->(∃i t,k=Sum.inl i/\v=Value.int i t)\/(∃x t,k=Sum.inr x/\v=Value.str x t)
 | .inl i,v,h=>by
   obtain⟨t,e⟩:=Value.isInt_shape (k:=i) (v:=v) h
   exact .inl ⟨i,t,rfl,e⟩
 | .inr x,v,h=>by
   obtain⟨t,e⟩:=Value.isStrOf_shape (x:=x) (v:=v) h
   exact .inr ⟨x,t,rfl,e⟩
def FK(i:Int)(t:Tok):sX (.inl i) (.int i t)=true:=by simp[sX,Value.isInt]
def sy(x:Str)(t:Tok):sX (.inr x) (.str x t)=true:=by simp[sX,Value.isStrOf]
def Lc(a b:Int):decide ((Sum.inl a:Key)=Sum.inl b)=(a==b):=by
 by_cases e:a=b
 ·subst e;simp
 ·have h:¬(Sum.inl a:Key)=Sum.inl b:=λq=>e (Sum.inl.inj q)
  rw[Qdq h]
  exact(beq_eq_false_iff_ne.mpr e).symm
def Mg(a b:Str):decide ((Sum.inr a:Key)=Sum.inr b)=decide (a=b):=by
 by_cases e:a=b
 ·subst e;simp
 ·have h:¬(Sum.inr a:Key)=Sum.inr b:=λq=>e (Sum.inr.inj q)
  rw[Qdq h,Qdq e]
def L4(a:Int)(b:Str):decide ((Sum.inl a:Key)=Sum.inr b)=false:=Qdq (λq=>nomatch q)
def Lp(a:Str)(b:Int):decide ((Sum.inr a:Key)=Sum.inl b)=false:=Qdq (λq=>nomatch q)
def cc(prog:Program)(w:World):PySem.KeyKind prog w Key where
 is:=sX
 hash:=Pt w
 inj:=λv a b l f=>by
  rcases dB l with⟨i,t,rfl,rfl⟩|⟨x,t,rfl,rfl⟩
  ·rcases dB f with⟨j,u,rfl,e⟩|⟨y,u,rfl,e⟩
   ·injection e with c _;rw[c]
   ·exact nomatch e
  ·rcases dB f with⟨j,u,rfl,e⟩|⟨y,u,rfl,e⟩
   ·exact nomatch e
   ·injection e with c _;rw[c]
 byValue:=λk v h=>by
  rcases dB h with⟨i,t,rfl,rfl⟩|⟨x,t,rfl,rfl⟩ <;>rfl
 pyHash:=λd h=>by
  rcases dB d with⟨i,t,rfl,rfl⟩|⟨x,t,rfl,rfl⟩
  ·exact wpAny_pyHash_int h
  ·exact wpAny_pyHash_str h
 eqBool:=λg d h=>by
  rcases dB g with⟨i,t,rfl,rfl⟩|⟨x,t,rfl,rfl⟩
  ·rcases dB d with⟨j,u,rfl,rfl⟩|⟨y,u,rfl,rfl⟩
   ·rw[Lc] at h;exact wpAny_eqBool_int h
   ·rw[L4] at h;exact SeqAt.EqAt.int_str i t y u _ _ _ _ h
  ·rcases dB d with⟨j,u,rfl,rfl⟩|⟨y,u,rfl,rfl⟩
   ·rw[Lp] at h;exact SeqAt.EqAt.str_int x t j u _ _ _ _ h
   ·rw[Mg] at h;exact wpAny_eqBool_str h
 «strs»:=λk x t v h=>by
  rcases dB h with⟨i,u,rfl,e⟩|⟨y,u,rfl,e⟩
  ·exact nomatch e
  ·injection e with c _
   subst c
   cases v <;>rfl
def A6(prog:Program)(w:World)(i:Int)(t:Tok):(cc prog w).is (.inl i) (.int i t)=true:=FK i t
def AV(prog:Program)(w:World)(x:Str)(t:Tok):(cc prog w).is (.inr x) (.str x t)=true:=sy x t
inductive V where
 |non|bl (b:Bool)|int (i:Int)|str (x:Str)|byt (b:Array UInt8)|flt (b:UInt64)|ref (a:Addr)|ty (n:String)
 deriving DecidableEq
def RelV:V->Value->Prop
 |.non,u=>u=Value.none
 |.bl b,u=>u=Value.bool b
 |.int i,u=>∃t,u=Value.int i t
 |.str x,u=>∃t,u=Value.str x t
 |.byt b,u=>∃t,u=Value.bytes b t
 |.flt b,u=>∃t,u=Value.float b t
 |.ref a,u=>u=Value.ref a
 |.ty n,u=>u=Value.type n
abbrev bI:List V->List Value->Prop:=Paired RelV
def bI.length(r:bI xs a):xs.length=a.length:=Paired.length r
theorem bI.get:∀{xs:List V} {a:List Value} {i:Nat} {x:V},bI xs a->xs[i]?=some x->∃u,a[i]?=some u/\RelV x u
 |_,_,_,_,.nil,e=>by simp at e
 |_,_,0,_,.cons r _,e=>by simp at e;subst e;exact⟨_,rfl,r⟩
 | _,_,i+1,x,.cons _ t,e=>by
   obtain⟨u,b,c⟩:=bI.get (i:=i) (x:=x) t (by simpa using e)
   exact⟨u,by simpa using b,c⟩
theorem bI.set(r:RelV x u):∀{xs:List V} {a:List Value} (i:Nat),bI xs a->bI (xs.set i x) (a.set i u)
 |_,_,_,.nil=>.nil
 |_,_,0,.cons _ t=>.cons r t
 |_,_,i+1,.cons q t=>.cons q (bI.set r i t)
theorem bI.append:∀{xs ys:List V} {a ws:List Value},bI xs a->bI ys ws->bI (xs++ys) (a++ws)
 |_,_,_,_,.nil,s=>s
 |_,_,_,_,.cons r t,s=>.cons r (bI.append t s)
theorem bI.take:∀{xs:List V} {a:List Value} (n:Nat),bI xs a->bI (xs.take n) (a.take n)
 |_,_,0,_=>.nil
 |_,_,_+1,.nil=>.nil
 |_,_,n+1,.cons r t=>.cons r (bI.take n t)
theorem bI.drop:∀{xs:List V} {a:List Value} (n:Nat),bI xs a->bI (xs.drop n) (a.drop n)
 |_,_,0,r=>r
 |_,_,_+1,.nil=>.nil
 |_,_,n+1,.cons _ t=>bI.drop n t
def vJ:Option V->Option Value->Prop
 |some v,some u=>RelV v u
 |none,none=>True
 |_,_=>False
def KV:List (κ×V)->List (κ×Value)->Prop:=Paired λ(p:κ×V) (q:κ×Value)=>p.1=q.1/\RelV p.2 q.2
def kV:Key->V
 |.inl i=>.int i
 |.inr x=>.str x
inductive HO where
 |lst (xs:List V)
 |tup (xs:List V)
 |dK (kvs:List (Key×V))|dT (kvs:List (List Key×V))
 |set (S:Int->Bool) (n:Nat)
 |ins (C dx:Addr) (fs:List (Str×V))
 |own (x:Addr)
 |xd (fs:List (Str×V))
 |met (f x:Addr)
 |rng (lo hi:Int)
 |frz (o:Obj) (u:HO)
 |tbl (ps:Array Value)
 |ext (φ:Heap->Prop)
abbrev Hp:=Addr->Option HO
def upd(H:Hp)(a:Addr)(o:HO):Hp:=λb=>if b=a then some o else H b
def cp:upd H a o a=some o:=by unfold upd;rw[Qhq rfl]
def bx(h:b≠a):upd H a o b=H b:=by unfold upd;rw[Quq h]
def GS{H:Hp}(h:H a=some o)(h':H b=some u)(d:o≠u):a≠b:=by
 intro e;subst e;rw[h] at h';exact d (QdQ h')
def fP{H:Hp}(h:H a=some o)(h':H b=none):a≠b:=by
 intro e;subst e;rw[h] at h';cases h'
def Cs(h:Heap)(a:Addr)(items:Array Value):Prop:=∃o,h.get? a=some o/\o.cls=.type "tuple" /\o.dict=none/\∃n,o.data=.seq items n
def Cs.it(x:Cs h a items):IsTup h a items:=by
 obtain⟨o,e,c,_,d⟩:=x
 exact⟨o,e,c,d⟩
def Cs.new(h:Heap)(items:Array Value):Cs (h.push {cls:=.type "tuple",data:=.seq items}) h.objs.size items:=⟨_,Qrq _ rfl,rfl,rfl,_,rfl⟩
section
variable(P:Program)(w:World)
def dr(H:Hp)(h:Heap)(a:Addr):HO->Prop
 |.lst d=>d.length<=sizeLine/\∃(c:List Value) (n:Nat),bI d c/\h.get? a=some {cls:=.type "list",data:=.seq c.toArray n}
 |.tup d=>d.length<=sizeLine/\∃c:List Value,bI d c/\Cs h a c.toArray
 |.dK b=>b.length<=sizeLine/\(a==sysModules)=false/\∃m,KV b m/\h.DictOf (cc P w) a m
 |.dT b=>b.length<=sizeLine/\(a==sysModules)=false/\∃d:List (List Key×Addr×Value),
   Paired (λ(p:List Key×V) (q:List Key×Addr×Value)=>p.1=q.1/\H q.2.1=some (.tup (p.1.map kV))/\RelV p.2 q.2.2) b d∧
   ∃o k z,h.get? a=some o/\o.ExactDict/\o.data=.dict k z/\k.toList=d.map (entryOfKey<|tupleKind<|cc P w)/\(d.map (·.1)).Nodup
 |.set S n=>h.SetOf (intKind P w) a S n
 |.ins C i g=>H i=some (.own a)/\g.length<=1000/\i≠a/\h.get? a=some (PySem.W.instObj C i)∧
   ∃e,h.Ns1 i e/\(∀f,vJ (g.lookup f)<|e f)/\PySem.Within e (g.map (·.1))
 |.own _=>∃o,h.get? a=some o
 |.xd g=>∃e,h.Ns1 a e/\∀f,vJ (g.lookup f) (e f)
 |.rng A y=>∃t u v,h.get? a=some {cls:=.type "range",data:=.fields #[.int A t,.int y u,.int 1 v]}
 |.frz o u=>h.get? a=some o/\dr H h a u
 |.tbl s=>h.get? a=some {cls:=.none,data:=.fields s}
 |.met f x=>h.get? a=some (PySem.W.methodObj (.ref f)<|.ref x)
 |.ext j=>j h/\(∃o,h.get? a=some o)/\∀l r:Heap,j l->(∀o,l.get? a=some o->r.get? a=some o)->j r
def p0(H:Hp)(h:Heap):Prop:=∀a o,H a=some o->dr P w H h a o
end
section
variable{P:Program}{w:World}{H H':Hp}{h h':Heap}{a:Addr}{o:HO}
theorem dr.lt(x:dr P w H h a o):a<h.objs.size:=by
 cases o with
 |lst c=>obtain⟨_,_,_,_,e⟩:=x;exact Qiq e
 |tup c=>obtain⟨_,_,_,p⟩:=x;exact p.it.lt
 |dK b=>obtain⟨_,_,_,_,o,_,_,e,_⟩:=x;exact Qiq e
 |dT b=>obtain⟨_,_,_,_,o,_,_,e,_⟩:=x;exact Qiq e
 |set S n=>obtain⟨o,_,_,_,e,_⟩:=x;exact Qiq e
 |ins C i d=>obtain⟨_,_,_,e,_⟩:=x;exact Qiq e
 |own y=>obtain⟨_,e⟩:=x;exact Qiq e
 |xd d=>obtain⟨_,⟨_,_,_,e,_⟩,_⟩:=x;exact Qiq e
 |rng m j=>obtain⟨_,_,_,e⟩:=x;exact Qiq e
 |frz k u=>obtain⟨e,_⟩:=x;exact Qiq e
 |tbl g=>exact Qiq (show h.get? a=some _ from x)
 |met f y=>exact Qiq (show h.get? a=some _ from x)
 |ext l=>obtain⟨_,⟨_,e⟩,_⟩:=x;exact Qiq e
theorem Paired.mapP{F G:α->c->Prop}:∀{l₁:List α} {l₂:List c},Paired F l₁ l₂->(∀a b,F a b->G a b)->Paired G l₁ l₂
 |_,_,.nil,_=>.nil
 |_,_,.cons r t,f=>.cons (f _ _ r) (Paired.mapP t f)
def dr.stay(x:dr P w H h a o)(k:∀b u,(b=a\/H b=some (.own a))->h.get? b=some u->h'.get? b=some u)
  (K:∀b,H b=some (.own a)->H' b=some (.own a)) (ht:∀b xs,H b=some (.tup xs)->H' b=some (.tup xs)):dr P w H' h' a o:=by
 induction o with
 |lst xs=>obtain⟨z,l,n,r,e⟩:=x;exact⟨z,l,n,r,k _ _ (.inl rfl) e⟩
 |tup xs=>obtain⟨z,l,r,g,e,c⟩:=x;exact⟨z,l,r,g,k _ _ (.inl rfl) e,c⟩
 |dK m=>obtain⟨z,y,I,r,g,i,j,e,c⟩:=x;exact⟨z,y,I,r,g,i,j,k _ _ (.inl rfl) e,c⟩
 | dT m=>
   obtain⟨z,y,xs,r,g,i,j,e,c⟩:=x
   exact⟨z,y,xs,Paired.mapP r λp q z=>⟨z.1,ht _ _ z.2.1,z.2.2⟩,g,i,j,k _ _ (.inl rfl) e,c⟩
 |set S n=>obtain⟨g,i,j,t,e,c⟩:=x;exact⟨g,i,j,t,k _ _ (.inl rfl) e,c⟩
 | ins C N M=>
   obtain⟨d,z,L,e,A,⟨s,i,j,J,c⟩,r⟩:=x
   exact⟨K _ d,z,L,k _ _ (.inl rfl) e,A,⟨s,i,j,k _ _ (.inr d) J,c⟩,r⟩
 |own y=>obtain⟨g,e⟩:=x;exact⟨g,k _ _ (.inl rfl) e⟩
 |xd M=>obtain⟨A,⟨s,i,j,e,c⟩,r⟩:=x;exact⟨A,⟨s,i,j,k _ _ (.inl rfl) e,c⟩,r⟩
 |rng U Q=>obtain⟨t,u,v,e⟩:=x;exact⟨t,u,v,k _ _ (.inl rfl) e⟩
 |frz g u G=>obtain⟨e,q⟩:=x;exact⟨k _ _ (.inl rfl) e,G q⟩
 | tbl B=>
   have e:h.get? a=some {cls:=.none,data:=.fields B}:=x
   show h'.get? a=some {cls:=.none,data:=.fields B}
   exact k a _ (.inl rfl) e
 | met f y=>
   have e:h.get? a=some (PySem.W.methodObj (.ref f)<|.ref y):=x
   show h'.get? a=some (PySem.W.methodObj (.ref f)<|.ref y)
   exact k a _ (.inl rfl) e
 |ext R=>obtain⟨p,⟨o,e⟩,F⟩:=x;exact⟨F _ _ p λo q=>k _ _ (.inl rfl) q,⟨o,k _ _ (.inl rfl) e⟩,F⟩
def p0.lt(x:p0 P w H h)(e:H a=some o):a<h.objs.size:=(x a o e).lt
def p0.fresh(x:p0 P w H h)(e:h.objs.size<=a):H a=none:=by
 cases q:H a with
 |none=>rfl
 |some u=>exact absurd (Qqq (x.lt q) e) (Nat.lt_irrefl _)
def p0.kept(x:p0 P w H h)(k:∀b u,h.get? b=some u->h'.get? b=some u):p0 P w H h':=λa o e=>
 (x a o e).stay (λb u _ q=>k b u q) (λ_ q=>q) λ_ _ q=>q
def p0.laid(x:p0 P w H h)(k:∀b u,h.get? b=some u->h'.get? b=some u)(g:h.objs.size<=a)(new:dr P w (upd H a o) h' a o):p0 P w (upd H a o) h':=λb u e=>by
 have d:=x.fresh g
 by_cases f:b=a
 ·subst f;rw[cp] at e;cases e;exact new
 ·rw[bx f] at e
  exact(x b u e).stay (λc v _ q=>k c v q) (λc q=>by rw[bx (fP q d)];exact q) λc i q=>by rw[bx (fP q d)];exact q
end
def Rd(H:Hp)(a:Addr)(u:HO):Prop:=H a=some u\/∃o,H a=some (.frz o u)
def Rd.ok(r:Rd H a u)(x:p0 P w H h):dr P w H h a u:=by
 rcases r with r|⟨o,r⟩
 ·exact x a u r
 ·obtain⟨_,q⟩:=x a _ r
  exact q
def Oj:Option HO->Prop
 |some (.lst _)=>True
 |some (.dK _)=>True
 |some (.dT _)=>True
 |some (.set _ _)=>True
 |some (.ins _ _ _)=>True
 |some (.ext _)=>True
 |_=>False
section
variable{P:Program}{w:World}{H:Hp}{h h':Heap}{x e:Addr}{o':HO}
def p0.write(ok:p0 P w H h)(l:Oj (H x))(he:e=x\/H e=some (.own x))(k:∀b u,b≠e->h.get? b=some u->h'.get? b=some u)(m:∃u,h'.get? e=some u)
  (new:dr P w (upd H x o') h' x o'):p0 P w (upd H x o') h':=λb u q=>by
 have d:∀c y,H c=some (.own y)->c≠x:=λc y r z=>by subst z;rw[r] at l;exact l
 have f:∀c g,H c=some (.tup g)->c≠x:=λc g r z=>by subst z;rw[r] at l;exact l
 by_cases j:b=x
 ·subst j;rw[cp] at q;cases q;exact new
 ·rw[bx j] at q
  by_cases a:b=e
  ·have n:H b=some (.own x):=by
    rcases he with z|z
    ·exact absurd (a.trans z) j
    ·rw[a];exact z
   rw[q] at n;cases n
   obtain⟨v,o⟩:=m
   exact⟨v,by rw[a];exact o⟩
  ·refine(ok b u q).stay (λc v i r=>k c v ?_ r) (λc r=>by rw[bx (d c b r)];exact r) λc g r=>by rw[bx (f c g r)];exact r
   rcases i with rfl|i
   ·exact a
   ·rintro rfl
    rcases he with z|z
    ·exact d c b i z
    ·rw[i] at z;cases z;exact j rfl
end
structure Un(fs ex:List Addr)(H H':Hp)(h h':Heap):Prop where
 keep:∀b o,h.get? b=some o->H b=none->b∉fs->b∉ex->h'.get? b=some o
 slot:∀b o,h.get? b=some o->H b=none->b∈fs->b∉ex->∃sl,h'.get? b=some {o with slots:=sl}
 free:∀b o,h.get? b=some o->H b=none->b∉ex->H' b=none
 there:∀b o,h.get? b=some o->b∉ex->∃o',h'.get? b=some o'
 tups:∀b xs,H b=some (.tup xs)->H' b=some (.tup xs)
 frzs:∀b o u,H b=some (.frz o u)->H' b=some (.frz o u)
 tbls:∀b ps,H b=some (.tbl ps)->∃more,H' b=some (.tbl (ps++more))
section
variable{fs fs' ex ex':List Addr}{H H1 H2:Hp}{h h1 h2 h':Heap}{a x e:Addr}{o:HO}
def Un.any(u:Un fs ex H H1 h h1){b:Addr}{c:Obj}(q:h.get? b=some c)(n:H b=none)(d:b∉ex):∃g,h1.get? b=some {c with slots:=g}:=by
 by_cases f:b∈fs
 ·exact u.slot b c q n f d
 ·exact⟨c.slots,u.keep b c q n f d⟩
def Un.kept(k:∀b u,h.get? b=some u->h'.get? b=some u):Un fs ex H H h h':=
 ⟨λb c q _ _ _=>k b c q,λb c q _ _ _=>⟨c.slots,k b c q⟩,λ_ _ _ n _=>n,λb c q _=>⟨c,k b c q⟩,λ_ _ q=>q,λ_ _ _ q=>q,λ_ d q=>⟨#[],by rw[q];simp⟩⟩
def Un.refl:Un fs ex H H h h:=Un.kept λ_ _ q=>q
def Un.laid(k:∀b u,h.get? b=some u->h'.get? b=some u)(f:h.objs.size<=a)(c:H a=none):Un fs ex H (upd H a o) h h' where
 keep:=λb u q _ _ _=>k b u q
 slot:=λb u q _ _ _=>⟨u.slots,k b u q⟩
 free:=λb u q n _=>by rw[bx (Qwq<|Qqq (Qiq q) f)];exact n
 there:=λb u q _=>⟨u,k b u q⟩
 tups:=λb d q=>by rw[bx (fP q c)];exact q
 frzs:=λb u d q=>by rw[bx (fP q c)];exact q
 tbls:=λb g q=>⟨#[],by rw[bx (fP q c),q];simp⟩
def Un.write(d:Oj (H x))(he:e=x\/H e=some (.own x))(k:∀b u,b≠e->h.get? b=some u->h'.get? b=some u)(g:∃u,h'.get? e=some u):Un fs ex H (upd H x o) h h':=by
 have i:∀b,H b=none->b≠x:=λb n z=>by subst z;rw[n] at d;exact d
 have j:∀b,H b=none->b≠e:=λb n z=>by
  subst z
  rcases he with r|r
  ·exact i b n r
  ·rw[n] at r;cases r
 have f:∀b u,H b=some u->¬Oj (some u)->b≠x:=λb u q l z=>by subst z;rw[q] at d;exact l d
 refine⟨λb u q n _ _=>k b u (j b n) q,λb u q n _ _=>⟨u.slots,k b u (j b n) q⟩,λb u q n _=>by rw[bx (i b n)];exact n,λb u q _=> ?_,
  λb m q=>by rw[bx (f b _ q λz=>z)];exact q,λb u m q=>by rw[bx (f b _ q λz=>z)];exact q,λb p q=>⟨#[],by rw[bx (f b _ q λz=>z),q];simp⟩⟩
 by_cases c:b=e
 ·subst c;exact g
 ·exact⟨u,k b u c q⟩
end
def OQ(h:Heap)(H:Hp):List Addr:=(List.range h.objs.size).filter λa=>(H a).isSome
def y8(h:Heap)(H:Hp):Heap:=PySem.W.hideAll h (OQ h H)
def Fo(h:Heap)(H:Hp):(y8 h H).objs.size=h.objs.size:=PySem.W.hideAll_size _ _
def GQ{h:Heap}{H:Hp}(e:h.get? b=some o)(n:H b=none):(y8 h H).get? b=some o:=
 PySem.W.hideAll_get _ e λa=>by
  have q:(H b).isSome=true:=(List.mem_filter.mp a).2
  rw[n] at q;simp at q
def Jx(e:(y8 h H).get? b=some o):h.get? b=some o/\H b=none:=by
 have a:h.get? b=some o:=PySem.W.of_hideAll (OQ h H) e
 refine⟨a,?_⟩
 cases q:H b with
 |none=>rfl
 | some x=>
   have c:b∈OQ h H:=List.mem_filter.mpr ⟨List.mem_range.mpr<|Qiq a,by simp[q]⟩
   have z:(y8 h H).get? b=none:=PySem.W.hideAll_none (OQ h H) c
   rw[z] at e;cases e
structure Mod(K:PySem.W.Frag)(mg:Str->Option Value)(base:Heap):Prop where
 kin:K.In base
 glob:base.Ns mainGlobals mg
 blt:∃mb,base.Ns builtinsNs mb/\∀x:Str,x≠"__name__" ->mb x=bootBuiltins x
 nolimit:base.NoLimit
structure Cx where
 prog:Program
 w:World
 K:PySem.W.Frag
 mg:Str->Option Value
 base:Heap
 A:Around
 N:List Str
 s₀:Shared
 H₀:Hp
 env:Env
 outer:List Env
 stack:List Env
 ex:List Addr
 fn:Str->Bool
 calm:Bool
 pn:List (Addr×Obj)
 xe:Value->Shared->Prop
def Hd(l:List Env):List Addr:=l.filterMap (·.frame)
abbrev Cx.fs(X:Cx):List Addr:=Hd X.outer
def KF(sc:Scope)(x:Str):Prop:=sc.names.lookup x=some .local\/sc.names.lookup x=some .cell\/sc.names.lookup x=some .free
def Loc(sc:Scope)(x:Str):Prop:=sc.names.lookup x=some .local\/sc.names.lookup x=some .cell
def Look(env:Env)(h:Heap)(m:Str->Option Value)(x:Str)(u:Value):Prop:=
 (env.kindOf x=some .local/\m x=some u)\/((env.kindOf x=some .cell\/env.kindOf x=some .free)/\∃c,env.cells.lookup x=some c/\h.IsCell c (some u))
structure Cx.Ok(X:Cx):Prop where
 mod:Mod X.K X.mg X.base
 kind:X.env.scope.kind=.function
 glob:X.env.globals=mainGlobals
 blt:X.env.builtins=builtinsNs
 above:X.s₀.heap.objs.size<=X.env.locals
 inj:∀x y c,X.env.cells.lookup x=some c->X.env.cells.lookup y=some c->x=y
 has:∀x,(X.env.kindOf x=some .cell\/X.env.kindOf x=some .free)->∃c,X.env.cells.lookup x=some c
 cab:∀x c,X.fn x=true->X.env.cells.lookup x=some c->X.s₀.heap.objs.size<=c
 hd:X.calm=true->X.A.handled=none
 frames:X.A.frames=some X.stack
 stk:X.stack=X.outer\/(X.stack=X.env::X.outer/\X.env.frame=some X.env.locals)
 exf:∀b∈X.ex,b≠X.env.locals/\∀x c,X.env.cells.lookup x=some c->c≠b
 bs:∀b o,X.base.get? b=some o->X.s₀.heap.get? b=some o/\X.H₀ b=none
 bsz:X.base.objs.size<=X.s₀.heap.objs.size
 noex:∀b o,X.base.get? b=some o->b∉X.ex
 exfs:∀b∈X.ex,b∉X.fs
 funs:X.s₀.heap.FunFrames X.base X.outer
 frf:∀b∈X.fs,X.H₀ b=none
structure Inv(X:Cx)(pins:List (Addr×Obj))(σ:List (Option V))(H:Hp)(s:Shared):Prop where
 ok:X.Ok
 os:s.os=X.s₀.os
 bare:AllBare s.gens
 base:Un X.fs X.ex X.H₀ H X.s₀.heap s.heap
 loc:∃m,s.heap.Ns X.env.locals m/\∀(i:Nat) (x:Str) (v:V),X.N[i]?=some x->σ[i]?=some (some v)->KF X.env.scope x->∃u,RelV v u/\Look X.env s.heap m x u
 cell:∀x c,X.env.cells.lookup x=some c->∃v,s.heap.IsCell c v
 free:H X.env.locals=none
 freeC:∀x c,X.env.cells.lookup x=some c->H c=none
 pin:∀p∈X.pn++pins,s.heap.get? p.1=some p.2/\H p.1=none/\p.1≠X.env.locals/\p.1∉X.fs/\∀v,p.2.data≠.cell v
 hok:p0 X.prog X.w H s.heap
 len:σ.length=X.N.length
section
variable{X:Cx}{pins:List (Addr×Obj)}{σ:List (Option V)}{H H':Hp}{s:Shared}{h':Heap}
def Cx.Ok.nofr(ok:X.Ok)(e:X.base.get? b=some o):b∉X.fs:=λa=>by
 have:=(ok.funs.mem a).1
 rw[e] at this;cases this
def Inv.bs(I:Inv X pins σ H s):∀b o,X.base.get? b=some o->s.heap.get? b=some o/\H b=none:=λb o e=>
 ⟨I.base.keep b o (I.ok.bs b o e).1 (I.ok.bs b o e).2 (I.ok.nofr e)<|I.ok.noex b o e,I.base.free b o (I.ok.bs b o e).1 (I.ok.bs b o e).2<|I.ok.noex b o e⟩
def Inv.bk(I:Inv X pins σ H s):∀b o,X.base.get? b=some o->s.heap.get? b=some o:=λb o e=>(I.bs b o e).1
def Inv.mod(I:Inv X pins σ H s):Mod X.K X.mg X.base:=I.ok.mod
def Inv.kIn(I:Inv X pins σ H s):X.K.In s.heap:=I.ok.mod.kin.keeps I.bk
def Inv.lt(I:Inv X pins σ H s):X.env.locals<s.heap.objs.size:=let ⟨_,hn,_⟩:=I.loc;hn.lt
def Inv.sz(I:Inv X pins σ H s):X.s₀.heap.objs.size<=s.heap.objs.size:=QAq I.ok.above (nQl I.lt)
def Inv.nofs(I:Inv X pins σ H s)(h:s.heap.objs.size<=a):a∉X.fs:=λb=>by
 obtain⟨_,o,c,_⟩:=I.ok.funs.mem b
 exact absurd (Qqq (Qiq c)<|QAq I.sz h)<|Nat.lt_irrefl _
def Inv.cne(I:Inv X pins σ H s):∀x c,X.env.cells.lookup x=some c->c≠X.env.locals:=λx c e z=>by
 obtain⟨v,o,d,f⟩:=I.cell x c e
 obtain⟨m,⟨h,g,i,b,a,_⟩,_⟩:=I.loc
 rw[z,b] at d;cases d;rw[a] at f;cases f
theorem Inv.funs(I:Inv X pins σ H s):s.heap.FunFrames X.base X.outer:=by
 have d:∀(l:List Env),(∀b∈Hd l,b∈X.fs)->X.s₀.heap.FunFrames X.base l->s.heap.FunFrames X.base l:=by
  intro l
  induction l with
  |nil=>intro _ _;trivial
  | cons p r h=>
    intro g j
    obtain⟨k,⟨L,o,c,m,n,q⟩,i⟩:=j
    have a:L∈X.fs:=g L (by unfold Hd;rw[List.filterMap_cons,c];exact QBq)
    obtain⟨t,e⟩:=I.base.slot L o n (I.ok.frf L a) a λz=>I.ok.exfs L z a
    exact⟨k,⟨L,_,c,m,e,q⟩,h (λb f=>g b (by unfold Hd;rw[List.filterMap_cons,c];exact Qpq _ f)) i⟩
 exact d X.outer (λ_ f=>f) I.ok.funs
def Inv.stack(I:Inv X pins σ H s):s.heap.FunFrames X.base X.stack:=by
 rcases I.ok.stk with e|⟨e,a⟩
 ·rw[e];exact I.funs
 ·rw[e]
  obtain⟨m,b,_⟩:=I.loc
  refine .cons (by rw[I.ok.kind];decide) a b ?_ I.funs
  exact Heap.get?_none_of_le<|QAq I.ok.bsz I.ok.above
def Inv.stkSub(I:Inv X pins σ H s):∀b∈Hd X.stack,b∈X.env.locals::X.fs:=λb a=>by
 rcases I.ok.stk with e|⟨e,c⟩
 ·rw[e] at a;exact Qpq _ a
 ·rw[e] at a
  unfold Hd at a
  rw[List.filterMap_cons,c] at a
  exact a
def Inv.stkFree(I:Inv X pins σ H s):∀b∈Hd X.stack,H b=none:=λb a=>by
 rcases Qsq.mp (I.stkSub b a) with e|a
 ·rw[e];exact I.free
 ·obtain⟨_,o,c,_⟩:=I.ok.funs.mem a
  exact I.base.free b o c (I.ok.frf b a) λz=>I.ok.exfs b z a
def Inv.step{g':Array GenState}{t':Nat}{d':Drawn}{ch:List Addr}(I:Inv X pins σ H s)
  (h:∀b∈ch,(b∈X.ex\/X.s₀.heap.objs.size<=b)/\b≠X.env.locals/\(∀x c,X.env.cells.lookup x=some c->c≠b)/\∀p∈X.pn++pins,p.1≠b)
  (keep:∀b o,b≠X.env.locals->b∉X.fs->b∉ch->s.heap.get? b=some o->H b=none->h'.get? b=some o)
  (slot:∀b o,b≠X.env.locals->b∈X.fs->b∉ch->s.heap.get? b=some o->H b=none->∃J,h'.get? b=some {o with slots:=J}) (free:∀b o,b∉ch->s.heap.get? b=some o->H b=none->H' b=none)
  (there:∀b o,b∉ch->s.heap.get? b=some o->∃B,h'.get? b=some B)
  (tups:∀b xs,H b=some (.tup xs)->H' b=some (.tup xs)) (frzs:∀b o u,H b=some (.frz o u)->H' b=some (.frz o u)) (tbls:∀b ps,H b=some (.tbl ps)->∃more,H' b=some (.tbl (ps++more)))
  (ns:∀m,s.heap.Ns X.env.locals m->h'.Ns X.env.locals m) (G:p0 X.prog X.w H' h') (U:AllBare g'):
  Inv X pins σ H' {s with heap:=h',gens:=g',drawn:=d',toks:=t'}:=by
 have F:∀b o,X.s₀.heap.get? b=some o->b≠X.env.locals:=λb o e=>Qwq (Qqq (Qiq e) I.ok.above)
 have j:∀b o,X.s₀.heap.get? b=some o->b∉X.ex->b∉ch:=λb o e a y=>by
  rcases(h b y).1 with z|z
  ·exact a z
  ·exact absurd (Qqq (Qiq e) z)<|Nat.lt_irrefl _
 have f:∀x c,X.env.cells.lookup x=some c->∀v,s.heap.IsCell c v->h'.IsCell c v:=λx c e v qq=>by
  obtain⟨o,A,K⟩:=qq
  have g:c∉ch:=λz=>(h c z).2.2.1 x c e rfl
  by_cases N:c∈X.fs
  ·obtain⟨J,q⟩:=slot c o (I.cne x c e) N g A (I.freeC x c e)
   exact⟨_,q,K⟩
  ·exact⟨o,keep c o (I.cne x c e) N g A<|I.freeC x c e,K⟩
 refine⟨I.ok,I.os,U,⟨λb o e n y a=> ?_,λb o e n y a=> ?_,λb o e n a=> ?_,λb o e a=> ?_,λb xs e=>tups b xs<|I.base.tups b xs e,λb o xs e=>frzs b o xs<|I.base.frzs b o xs e,λb ps e=> ?_⟩,?_,λx c e=> ?_,?_,λx c e=> ?_,λp Q=> ?_,G,I.len⟩
 ·exact keep b o (F b o e) y (j b o e a) (I.base.keep b o e n y a)<|I.base.free b o e n a
 ·obtain⟨J,t⟩:=I.base.slot b o e n y a
  obtain⟨L,C⟩:=slot b _ (F b o e) y (j b o e a) t (I.base.free b o e n a)
  exact⟨L,C⟩
 ·obtain⟨B,t⟩:=I.base.there b o e a
  exact free b B (j b o e a) t<|I.base.free b o e n a
 ·obtain⟨B,t⟩:=I.base.there b o e a
  exact there b B (j b o e a) t
 ·obtain⟨R,t⟩:=I.base.tbls b ps e
  obtain⟨Z,C⟩:=tbls b _ t
  exact⟨R++Z,by rw[C,Array.append_assoc]⟩
 ·obtain⟨m,W,S⟩:=I.loc
  refine⟨m,ns m W,λi x v t C Y=> ?_⟩
  obtain⟨u,r,l⟩:=S i x v t C Y
  refine⟨u,r,?_⟩
  rcases l with l|⟨k,c,e,z⟩
  ·exact .inl l
  ·exact .inr ⟨k,c,e,f x c e _ z⟩
 ·obtain⟨v,z⟩:=I.cell x c e
  exact⟨v,f x c e v z⟩
 ·obtain⟨m,⟨o,_,_,A,_⟩,_⟩:=I.loc
  exact free _ o (λz=>(h _ z).2.1 rfl) A I.free
 ·obtain⟨v,o,A,K⟩:=I.cell x c e
  exact free c o (λz=>(h c z).2.2.1 x c e rfl) A<|I.freeC x c e
 ·obtain⟨e,n,M,P,d⟩:=I.pin p Q
  have g:p.1∉ch:=λz=>(h p.1 z).2.2.2 p Q rfl
  exact⟨keep p.1 p.2 M P g e n,free p.1 p.2 g e n,M,P,d⟩
def Inv.un(I:Inv X pins σ H s)(u:Un X.fs [] H H' s.heap h')(d:p0 X.prog X.w H' h'):Inv X pins σ H' {s with heap:=h',toks:=t'}:=by
 obtain⟨m,⟨o,l,t,h,r⟩,_⟩:=id I.loc
 obtain⟨q,j⟩:=u.any h I.free (by simp)
 exact I.step (g':=s.gens) (d':=s.drawn) (ch:= []) (λ_ z=>nomatch z) (λb o _ f _ e n=>u.keep b o e n f (by simp)) (λb o _ f _ e n=>u.slot b o e n f (by simp)) (λb o _ e n=>u.free b o e n (by simp)) (λb o _ e=>u.there b o e (by simp)) u.tups u.frzs u.tbls (λv i=>by
  obtain⟨p,c,g,a,k⟩:=i
  rw[h] at a;cases a
  exact⟨_,c,g,j,k⟩) d I.bare
def Inv.call(I:Inv X pins σ H s)(u:Un (Hd X.stack) ch H H' s.heap h')(h:p0 X.prog X.w H' h')(q:AllBare g')
  (f:∀b∈ch,(b∈X.ex\/X.s₀.heap.objs.size<=b)/\b≠X.env.locals/\(∀x c,X.env.cells.lookup x=some c->c≠b)/\∀p∈X.pn++pins,p.1≠b):
  Inv X pins σ H' {s with heap:=h',gens:=g',drawn:=d',toks:=t'}:=by
 obtain⟨m,⟨o,y,C,k,r⟩,_⟩:=id I.loc
 obtain⟨B,i⟩:=u.any k I.free λz=>(f _ z).2.1 rfl
 exact I.step (ch:=ch) f (λb o i v a e n=>u.keep b o e n (λz=>(Qsq.mp (I.stkSub b z)).elim i v) a) (λb o _ _ a e n=>u.any e n a) (λb o a e n=>u.free b o e n a) (λb o a e=>u.there b o e a) u.tups u.frzs u.tbls (λF l=>by
  obtain⟨A,g,j,d,t⟩:=l
  rw[k] at d;cases d
  exact⟨_,g,j,i,t⟩) h q
def Inv.turned(I:Inv X pins σ H s)(k:∀b o,b≠it->s.heap.get? b=some o->h'.get? b=some o)(l:H it=none)(f:it≠X.env.locals)
  (j:it∈X.ex\/X.s₀.heap.objs.size<=it) (A:∀x c,X.env.cells.lookup x=some c->c≠it) (h:∀p∈X.pn++pins,p.1≠it):Inv X pins σ H {s with heap:=h',toks:=t'}:=by
 have d:∀b u,H b=some u->b≠it:=λb u e z=>by rw[z,l] at e;cases e
 refine I.step (g':=s.gens) (d':=s.drawn) (ch:= [it]) (λb y=> ?_) (λb o _ _ a e _=>k b o (λz=>a (by simp[z])) e) (λb o _ _ a e _=>⟨o.slots,k b o (λz=>a (by simp[z])) e⟩) (λ_ _ _ _ n=>n)
  (λb o a e=>⟨o,k b o (λz=>a (by simp[z])) e⟩) (λ_ _ e=>e) (λ_ _ _ e=>e) (λb B e=>⟨#[],by rw[e];simp⟩) (λm i=> ?_) (λb u e=> ?_) I.bare
 ·have e:b=it:=by simpa using y
  subst e
  exact⟨j,f,A,h⟩
 ·obtain⟨o,g,t,w,r⟩:=i
  exact⟨o,g,t,k _ o (Ne.symm f) w,r⟩
 ·refine(I.hok b u e).stay (λc v a q=>k c v ?_ q) (λ_ q=>q) λ_ _ q=>q
  rcases a with z|z
  ·rw[z];exact d b u e
  ·exact d c _ z
def Inv.tok(I:Inv X pins σ H s)(t:Nat):Inv X pins σ H {s with toks:=t}:=I.un (h':=s.heap) (t':=t) Un.refl I.hok
def Inv.kept(I:Inv X pins σ H s)(k:∀b u,s.heap.get? b=some u->h'.get? b=some u):Inv X pins σ H {s with heap:=h',toks:=t'}:=I.un (Un.kept k) (I.hok.kept k)
def Inv.laid(I:Inv X pins σ H s)(k:∀b u,s.heap.get? b=some u->h'.get? b=some u)(c:s.heap.objs.size<=a)(new:dr X.prog X.w (upd H a o) h' a o):
  Inv X pins σ (upd H a o) {s with heap:=h',toks:=t'}:=I.un (Un.laid k c<|I.hok.fresh c) (I.hok.laid k c new)
def Inv.write(I:Inv X pins σ H s)(c:Oj (H x))(he:e=x\/H e=some (.own x))(k:∀b u,b≠e->s.heap.get? b=some u->h'.get? b=some u)(a:∃u,h'.get? e=some u)
  (new:dr X.prog X.w (upd H x o) h' x o):Inv X pins σ (upd H x o) {s with heap:=h',toks:=t'}:=I.un (Un.write c he k a) (I.hok.write c he k a new)
def Inv.pins_of(I:Inv X pins σ H s)(h:∀p∈a,s.heap.get? p.1=some p.2/\H p.1=none/\p.1≠X.env.locals/\p.1∉X.fs/\∀v,p.2.data≠.cell v):Inv X a σ H s:=
 ⟨I.ok,I.os,I.bare,I.base,I.loc,I.cell,I.free,I.freeC,λp b=>(mQa.mp b).elim (λz=>I.pin p<|List.mem_append_left _ z) (h p),I.hok,I.len⟩
def Ay{N:List Str}(e:N.Nodup){i j:Nat}{x:Str}(a:N[i]?=some x)(b:N[j]?=some x):i=j:=by
 obtain⟨f,d⟩:=gQs.mp a
 obtain⟨g,c⟩:=gQs.mp b
 exact(List.getElem_inj e).mp (d.trans c.symm)
def F7{E:Value->Shared->Prop}{Q:Unit->Shared->Prop}(I:Inv X pins σ H s)(hN:X.N.Nodup)(hi:X.N[i]?=some x)(B:Loc X.env.scope x)(r:RelV v u)
  (h:∀s',Inv X pins (σ.set i<|some v) H s'->(∃a,Heap.SameBut a s.heap s'.heap/\(a=X.env.locals\/X.env.cells.lookup x=some a))->Q () s') (hf:X.fn x=true\/X.env.scope.names.lookup x=some .local:=by first|exact .inl rfl|exact .inr rfl|assumption):wpAny M A (storeName X.env x u) Q E s:=by
 obtain⟨m,hn,hl⟩:=id I.loc
 have Y:(X.env.scope.kind==.class||(X.env.scope.kind==.module&&X.env.locals !=X.env.globals))=false:=by rw[I.ok.kind];rfl
 have G:i<σ.length:=by rw[I.len];exact(gQs.mp hi).1
 have L:=I.cne
 have g:∀{a:Addr} {h':Heap},(∃o,s.heap.get? a=some o/\H a=none)->Heap.SameBut a s.heap h'->p0 X.prog X.w H h':=λ{a h'} ha f b ob e=>by
  obtain⟨_,_,C⟩:=ha
  refine(I.hok b ob e).stay (λc w' t q=>(f.2 c ?_).trans q) (λ_ q=>q) λ_ _ q=>q
  rintro rfl
  rcases t with rfl|t
  ·rw[C] at e;cases e
  ·rw[C] at t;cases t
 rcases B with J|J
 ·refine wpAny_storeName_local J hn (λh' a1 f=> ?_) Y
  obtain⟨oL,_,_,a0,_⟩:=id hn
  refine h _ ⟨I.ok,I.os,I.bare,⟨λb o e n R B=> ?_,λb o e n R B=> ?_,I.base.free,λb o e B=> ?_,I.base.tups,I.base.frzs,I.base.tbls⟩,⟨_,a1,λj y v' l F e3=> ?_⟩,λy c e=> ?_,I.free,I.freeC,λp hp=> ?_,g ⟨oL,a0,I.free⟩ f,by simpa using I.len⟩ ⟨_,f,.inl rfl⟩
  ·exact(f.2 b<|Qwq<|Qqq (Qiq e) I.ok.above).trans (I.base.keep b o e n R B)
  ·obtain⟨sl,l⟩:=I.base.slot b o e n R B
   exact⟨sl,(f.2 b<|Qwq<|Qqq (Qiq e) I.ok.above).trans l⟩
  ·obtain⟨o',l⟩:=I.base.there b o e B
   exact⟨o',(f.2 b<|Qwq<|Qqq (Qiq e) I.ok.above).trans l⟩
  ·by_cases K:j=i
   ·subst K
    rw[hi] at l;cases l
    rw[Qyq G] at F
    cases F
    exact⟨u,r,.inl ⟨J,by simp⟩⟩
   ·rw[QKq (Ne.symm K)] at F
    obtain⟨u',r',q⟩:=hl j y v' l F e3
    refine⟨u',r',?_⟩
    rcases q with⟨k,e⟩|⟨k,c,e,z⟩
    ·refine .inl ⟨k,?_⟩
     have:y≠x:=λe=>K (Ay hN l (e▸hi))
     simp[this,e]
    ·exact .inr ⟨k,c,e,z.sameBut f<|L y c e⟩
  ·obtain⟨w',z⟩:=I.cell y c e
   exact⟨w',z.sameBut f<|L y c e⟩
  ·obtain⟨e,n,ne,nf,d⟩:=I.pin p hp
   exact⟨(f.2 p.1 ne).trans e,n,ne,nf,d⟩
 ·have P:X.fn x=true:=by
   rcases hf with z|z
   ·exact z
   ·rw[z] at J;cases J
  obtain⟨c,t⟩:=I.ok.has x (.inl J)
  obtain⟨w',z⟩:=I.cell x c t
  refine wpAny_storeName_cell I.ok.kind J t z (λh' S f=> ?_)
  obtain⟨oc,Z,U⟩:=id z
  refine h {s with heap:=h'} ⟨I.ok,I.os,I.bare,⟨λb o e n R B=> ?_,λb o e n R B=> ?_,I.base.free,λb o e B=> ?_,I.base.tups,I.base.frzs,I.base.tbls⟩,⟨m,hn.sameBut f<|Ne.symm<|L x c t,λj y v' l F e3=> ?_⟩,λy c' e=> ?_,I.free,I.freeC,λp hp=> ?_,g ⟨oc,Z,I.freeC x c t⟩ f,by simpa using I.len⟩ ⟨c,f,.inr t⟩
  ·exact(f.2 b<|Qwq<|Qqq (Qiq e)<|I.ok.cab x c P t).trans (I.base.keep b o e n R B)
  ·obtain⟨sl,l⟩:=I.base.slot b o e n R B
   exact⟨sl,(f.2 b<|Qwq<|Qqq (Qiq e)<|I.ok.cab x c P t).trans l⟩
  ·obtain⟨o',l⟩:=I.base.there b o e B
   exact⟨o',(f.2 b<|Qwq<|Qqq (Qiq e)<|I.ok.cab x c P t).trans l⟩
  ·by_cases K:j=i
   ·subst K
    rw[hi] at l;cases l
    rw[Qyq G] at F
    cases F
    exact⟨u,r,.inr ⟨.inl J,c,t,S⟩⟩
   ·rw[QKq (Ne.symm K)] at F
    obtain⟨u',r',q⟩:=hl j y v' l F e3
    refine⟨u',r',?_⟩
    rcases q with q|⟨k,c',e,z'⟩
    ·exact .inl q
    ·refine .inr ⟨k,c',e,z'.sameBut f ?_⟩
     rintro rfl
     exact K<|Ay hN l (I.ok.inj _ _ _ e t▸hi)
  ·by_cases W:c'=c
   ·subst W;exact⟨_,S⟩
   ·obtain⟨w2,z2⟩:=I.cell y c' e
    exact⟨w2,z2.sameBut f W⟩
  ·obtain⟨e,n,ne,nf,d⟩:=I.pin p hp
   refine⟨(f.2 p.1 ?_).trans e,n,ne,nf,d⟩
   intro q
   rw[q,Z] at e
   have q':oc=p.2:=QdQ e
   exact d w' (by rw[←q'];exact U)
def qO{E:Value->Shared->Prop}{Q:Unit->Shared->Prop}(I:Inv X pins σ H s)(e:X.N.Nodup)(hi:X.N[i]?=some x)(b:Loc X.env.scope x)(r:RelV v u)
  (h:∀a,Inv X pins (σ.set i<|some v) H a->Q () a) (d:X.fn x=true\/X.env.scope.names.lookup x=some .local:=by first|exact .inl rfl|exact .inr rfl|assumption):wpAny M A (storeName X.env x u) Q E s:=
 F7 I e hi b r (λa c _=>h a c) d
def Inv.call'{a:Shared}(I:Inv X pins σ H s)(i:a.os=s.os)(u:Un (Hd X.stack) ch H H' s.heap a.heap)(f:p0 X.prog X.w H' a.heap)(g:AllBare a.gens)
  (d:∀b∈ch,(b∈X.ex\/X.s₀.heap.objs.size<=b)/\b≠X.env.locals/\(∀x c,X.env.cells.lookup x=some c->c≠b)/\∀p∈X.pn++pins,p.1≠b):Inv X pins σ H' a:=by
 obtain⟨h',g',d',t',h⟩:=a
 have e:h=s.os:=i
 subst e
 exact I.call (g':=g') (t':=t') (d':=d') u f g d
end
abbrev XK:=Value->Option Addr->Hp->Prop
abbrev St:=List (Option V)
abbrev VK:=V->Hp->Prop
abbrev TE:=St->Hp->VK->Prop
abbrev TT:=St->Hp->(Bool->Hp->Prop)->Prop
abbrev TA:=St->Hp->(List V->Hp->Prop)->Prop
structure Ends where
 nx:St->Hp->Prop
 rt:VK
 bk:St->Hp->Prop:=λ_ _=>False
 ct:St->Hp->Prop:=λ_ _=>False
abbrev TS:=Ends->St->Hp->Prop
def EP(X:Cx)(a:List (Addr×Obj))(c:St)(Q:VK)(u:Value)(d:Shared):Prop:=∃v b,Inv X a c b d/\RelV v u/\Q v b
def TP(X:Cx)(a:List (Addr×Obj))(d:St)(Q:Bool->Hp->Prop)(b:Bool)(e:Shared):Prop:=∃c,Inv X a d c e/\Q b c
def AP(X:Cx)(a:List (Addr×Obj))(d:St)(Q:List V->Hp->Prop)(e:List Value)(f:Shared):Prop:=∃b c,Inv X a d c f/\bI b e/\Q b c
def SP(X:Cx)(b:List (Addr×Obj))(D:Ends)(f:Flow)(d:Shared):Prop:=
 match f with
 |.next=>∃a c,Inv X b a c d/\D.nx a c
 |.brk=>∃a c,Inv X b a c d/\D.bk a c
 |.cont=>∃a c,Inv X b a c d/\D.ct a c
 |.ret u=>∃v a c,Inv X b a c d/\RelV v u/\D.rt v c
def PE(X:Cx)(e:Expr)(t:TE):Prop:=
 ∀(a:List (Addr×Obj)) (s:Shared) (b:St) (H:Hp) (Q:VK),Inv X a b H s->t b H Q->wpAny (model X.prog X.w) X.A (eval e X.env) (EP X a b Q) X.xe s
def PT(X:Cx)(e:Expr)(t:TT):Prop:=
 ∀(a:List (Addr×Obj)) (s:Shared) (b:St) (H:Hp) (Q:Bool->Hp->Prop),Inv X a b H s->t b H Q->wpAny (model X.prog X.w) X.A (isTrue e X.env<|eval e X.env) (TP X a b Q) X.xe s
def PW(X:Cx)(e:Expr)(t:TT):Prop:=
 ∀(b:Sem Value) (a:List (Addr×Obj)) (s:Shared) (c:St) (H:Hp) (Q:Bool->Hp->Prop),Inv X a c H s->t c H Q->wpAny (model X.prog X.w) X.A (isTrue e X.env b) (TP X a c Q) X.xe s
def PW.pt(h:PW X e t):PT X e t:=h _
def PA(X:Cx)(d:List Expr)(t:TA):Prop:=
 ∀(c:Pos) (a:List (Addr×Obj)) (s:Shared) (b:St) (H:Hp) (Q:List V->Hp->Prop),Inv X a b H s->t b H Q->wpAny (model X.prog X.w) X.A (spliced<|backTo c<|starEach d X.env) (AP X a b Q) X.xe s
def PS(X:Cx)(st:Stmt)(t:TS):Prop:=
 ∀(a:List (Addr×Obj)) (s:Shared) (b:St) (H:Hp) (D:Ends),Inv X a b H s->t D b H->wpAny (model X.prog X.w) X.A (exec st X.env) (SP X a D) X.xe s
def uA(X:Cx)(st:List Stmt)(t:TS):Prop:=
 ∀(a:List (Addr×Obj)) (s:Shared) (b:St) (H:Hp) (D:Ends),Inv X a b H s->t D b H->wpAny (model X.prog X.w) X.A (execs st X.env) (SP X a D) X.xe s
def c_{Q b:α->Shared->Prop}{E:Value->Shared->Prop}(h:wpAny M A t Q E s)(c:∀a s,Q a s->b a s):wpAny M A t b E s:=QRq h c λ_ _ x=>x
section
variable{X:Cx}
def K9(i:Nat):TE:=λa H Q=>∃v,a[i]?=some (some v)/\Q v H
def tC(v:V):TE:=λ_ H Q=>Q v H
def GH(t:X.N[i]?=some x)(q:KF X.env.scope x)(hd:(x==("__debug__":Str))=false:=by decide)(g:(x==("__classdict__":Str))=false:=by decide):PE X (.Name x pos) (K9 i):=by
 intro f s p H Q I h
 obtain⟨v,e,h⟩:=h
 obtain⟨m,o,n⟩:=I.loc
 obtain⟨u,r,l⟩:=n i x v t e q
 have d:EP X f p Q u s:=⟨v,H,I,r,h⟩
 rcases l with⟨b,k⟩|⟨b,c,j,a⟩
 ·exact wpAny_Name (wpAny_loadName_local I.ok.kind b o k d) hd
 ·rcases b with b|b
  ·exact wpAny_Name (wpAny_loadName_cell I.ok.kind b j a d) hd
  ·exact wpAny_Name (wpAny_loadName_free I.ok.kind b j a d g) hd
def Mw{i j pos}:PE X (.Constant (.int i) j pos) (tC<|.int i):=λ_ _ _ H _ I h=>wpAny_Constant_int ⟨.int i,H,I.tok _,⟨_,rfl⟩,h⟩
def Ot{b j pos}:PE X (.Constant (.bool b) j pos) (tC<|.bl b):=λ_ _ _ H _ I h=>Constant_bool ⟨.bl b,H,I,rfl,h⟩
def Mr{j pos}:PE X (.Constant .none j pos) (tC .non):=λ_ _ _ H _ I h=>Constant_none ⟨.non,H,I,rfl,h⟩
def La{x j pos}:PE X (.Constant (.str x) j pos) (tC<|.str x):=λ_ _ _ H _ I h=>Calls.Constant_str ⟨.str x,H,I.tok _,⟨_,rfl⟩,h⟩
def Gl(X:Cx)(x:Str):Prop:=X.env.kindOf x=some .globalImplicit
def zY{E:Value->Shared->Prop}{Q:Value->Shared->Prop}(I:Inv X a b H s)(d:Gl X x)(c:X.mg x=some u)(h:Q u s)
  (hd:(x==("__debug__":Str))=false:=by decide):wpAny (model X.prog X.w) X.A (eval (.Name x pos) X.env) Q E s:=
 Calls.Name_function_global I.ok.kind d (Calls.loadGlobal_global (by rw[I.ok.glob];exact I.mod.glob.keeps I.bk) c h) hd
def pw{E:Value->Shared->Prop}{Q:Value->Shared->Prop}(I:Inv X a f H s)(d:Gl X x)(b:X.mg x=none)(g:bootBuiltins x=some u)(h:Q u s)
  (e:x≠"__name__":=by decide) (hd:(x==("__debug__":Str))=false:=by decide):wpAny (model X.prog X.w) X.A (eval (.Name x pos) X.env) Q E s:=by
 obtain⟨j,c,i⟩:=I.mod.blt
 exact Calls.Name_function_global I.ok.kind d (Calls.loadGlobal_builtin (by rw[I.ok.glob];exact I.mod.glob.keeps I.bk) b (by rw[I.ok.blt];exact c.keeps I.bk) ((i x e).trans g) h) hd
def Ao(b:Gl X x)(a:X.mg x=some u)(r:RelV v u)(hd:(x==("__debug__":Str))=false:=by decide):PE X (.Name x pos) (tC v):=
 λ_ _ _ H _ I h=>zY I b a ⟨v,H,I,r,h⟩ hd
def Kf(c:Gl X x)(b:X.mg x=none)(d:bootBuiltins x=some u)(r:RelV v u)(a:x≠"__name__":=by decide)(hd:(x==("__debug__":Str))=false:=by decide):PE X (.Name x pos) (tC v):=
 λ_ _ _ H _ I h=>pw I c b d ⟨v,H,I,r,h⟩ a hd
variable{a b:Expr}{ta tb:TE}{pos:Pos}
variable{tA tB':TT}{rest:List Expr}
def P0(t u:TT):TT:=λd H Q=>t d H λc H1=>if c=true then u d H1 Q else Q false H1
def Q6(t u:TT):TT:=λd H Q=>t d H λc H1=>if c=true then Q true H1 else u d H1 Q
def PN(t:TT):TT:=λd H Q=>t d H λc H1=>Q (!c) H1
def JX(g:PT X a tA):PW X (.BoolOp .And [a] pos) tA:=by
 intro i d s f H Q I h
 refine isTrue_and (c_ (g d s f H Q I h) λc j e=> ?_)
 cases c with
 |true=>exact isTrue_and_nil e
 |false=>exact e
def Mt(g:PT X a tA):PW X (.BoolOp .Or [a] pos) tA:=by
 intro i d s f H Q I h
 refine isTrue_or (c_ (g d s f H Q I h) λc j e=> ?_)
 cases c with
 |false=>exact isTrue_or_nil e
 |true=>exact e
def Lq(k:PT X a tA)(l:PW X (.BoolOp .And (b::rest) pos) tB'):PW X (.BoolOp .And (a::b::rest) pos) (P0 tA tB'):=by
 intro j d s e H Q I h
 refine isTrue_and (c_ (k d s e H _ I h) λc m i=> ?_)
 obtain⟨H1,g,f⟩:=i
 cases c with
 |true=>exact l j d m e H1 Q g f
 |false=>exact⟨H1,g,f⟩
def Ny(k:PT X a tA)(l:PW X (.BoolOp .Or (b::rest) pos) tB'):PW X (.BoolOp .Or (a::b::rest) pos) (Q6 tA tB'):=by
 intro j d s e H Q I h
 refine isTrue_or (c_ (k d s e H _ I h) λc m i=> ?_)
 obtain⟨H1,g,f⟩:=i
 cases c with
 |true=>exact⟨H1,g,f⟩
 |false=>exact l j d m e H1 Q g f
def LW(f:PT X a tA):PT X (.UnaryOp .Not a pos) (PN tA):=by
 intro d s e H Q I h
 exact isTrue_not<|f d s e H (λc H1=>Q (!c) H1) I h
def MT(ta tb:TE):TE:=λd H Q=>ta d H λx H1=>∃c,x=.bl c/\if c=true then tb d H1 Q else Q (.bl false) H1
def Oc(ta:TE):TE:=λd H Q=>ta d H λx H1=>∃c,x=.bl c/\Q (.bl (!c)) H1
def L0{op}{t:TE}(h:PE X a t):PE X (.BoolOp op [a] pos) t:=λc s d H Q I e=>BoolOp_one (h c s d H Q I e)
def K7(m:PE X a ta)(k:PE X (.BoolOp .And (b::rest) pos) tb):PE X (.BoolOp .And (a::b::rest) pos) (MT ta tb):=by
 intro d s g H Q I h
 refine BoolOp_and (c_ (m d s g H _ I h) λv i l=> ?_)
 obtain⟨x,H1,f,j,e⟩:=l
 obtain⟨c,rfl,e⟩:=e
 cases j
 refine wpAny_truthy_bool ?_
 cases c with
 |true=>exact k d i g H1 Q f e
 |false=>exact⟨.bl false,H1,f,rfl,e⟩
def Mp(j:PE X a ta):PE X (.UnaryOp .Not a pos) (Oc ta):=by
 intro d s f H Q I h
 refine UnaryOp_ (c_ (j d s f H _ I h) λv l i=> ?_)
 obtain⟨x,H1,k,g,e⟩:=i
 obtain⟨c,rfl,e⟩:=e
 cases g
 exact not_of<|wpAny_truthy_bool ⟨.bl (!c),H1,k,rfl,e⟩
def Q0(t:TT)(ta tb:TE):TE:=λd H Q=>t d H λc H1=>if c=true then ta d H1 Q else tb d H1 Q
def Ie(l:PT X c tA)(m:PE X a ta)(n:PE X b tb):PE X (.IfExp c a b pos) (Q0 tA ta tb):=by
 intro e s f H Q I h
 refine wpAny_IfExp (c_ (l e s f H _ I h) λd j k=> ?_)
 obtain⟨H1,i,g⟩:=k
 cases d with
 |true=>exact m e j f H1 Q i g
 |false=>exact n e j f H1 Q i g
end
def je(K:PySem.W.Frag)(H:Hp)(a:Addr)(xs:List V):Prop:=
 Rd H a (.lst xs)∨
  ∃(o:Obj) (b:Array Value) (n:Nat),K.lookup a=some o/\o.cls=.type "list" /\o.dict=none/\o.data=.seq b n/\b.size<=sizeLine/\bI xs b.toList
def jo(K:PySem.W.Frag)(H:Hp)(a:Addr)(xs:List V):Prop:=
 Rd H a (.tup xs)∨
  ∃(o:Obj) (b:Array Value) (n:Nat),K.lookup a=some o/\o.cls=.type "tuple" /\o.data=.seq b n/\b.size<=sizeLine/\bI xs b.toList
def PB:Value->Option V
 |.none=>some .non
 |.bool b=>some (.bl b)
 |.int i _=>some (.int i)
 |.str x _=>some (.str x)
 |.bytes b _=>some (.byt b)
 |.float b _=>some (.flt b)
 |.ref a=>some (.ref a)
 |.type n=>some (.ty n)
 |_=>none
def RelV.abs(r:RelV x u):PB u=some x:=by
 cases x with
 |non=>cases r;rfl
 |bl _=>cases r;rfl
 |int _=>obtain⟨t,rfl⟩:=r;rfl
 |str _=>obtain⟨t,rfl⟩:=r;rfl
 |byt _=>obtain⟨t,rfl⟩:=r;rfl
 |flt _=>obtain⟨t,rfl⟩:=r;rfl
 |ref _=>cases r;rfl
 |ty _=>cases r;rfl
def RelV.inj(r:RelV x u)(q:RelV y u):x=y:=QdQ (r.abs.symm.trans q.abs)
theorem bI.inj:∀{xs ys:List V} {a:List Value},bI xs a->bI ys a->xs=ys
 |_,_,_,.nil,.nil=>rfl
 |_,_,_,.cons r t,.cons r' t'=>by rw[r.inj r',bI.inj t t']
section
variable{X:Cx}{pins:List (Addr×Obj)}{σ:St}{H:Hp}{s:Shared}{a:Addr}{xs ys:List V}
def je.of{K:PySem.W.Frag}(h:H a=some (.lst xs)):je K H a xs:=.inl (.inl h)
def jo.of{K:PySem.W.Frag}(h:H a=some (.tup xs)):jo K H a xs:=.inl (.inl h)
def Inv.list(I:Inv X pins σ H s)(h:je X.K H a xs):∃b:List Value,bI xs b/\PlainL s.heap a b.toArray/\xs.length<=sizeLine:=by
 rcases h with h|⟨o,b,n,d,c,f,g,i,r⟩
 ·obtain⟨z,b,n,r,e⟩:=h.ok I.hok
  exact⟨b,r,⟨_,n,e,rfl,rfl,rfl⟩,z⟩
 ·refine⟨b.toList,r,⟨o,n,I.kIn a o d,c,f,by simpa using g⟩,?_⟩
  have e:=r.length
  simp only[Array.length_toList] at e
  omega
def Inv.tuple(I:Inv X pins σ H s)(h:jo X.K H a xs):∃b:List Value,bI xs b/\IsTup s.heap a b.toArray/\xs.length<=sizeLine:=by
 rcases h with h|⟨o,b,n,d,c,f,g,r⟩
 ·obtain⟨z,b,r,p⟩:=h.ok I.hok
  exact⟨b,r,p.it,z⟩
 ·refine⟨b.toList,r,⟨o,I.kIn a o d,c,n,by simpa using f⟩,?_⟩
  have e:=r.length
  simp only[Array.length_toList] at e
  omega
def Inv.list_inj(I:Inv X pins σ H s)(h:je X.K H a xs)(h':je X.K H a ys):xs=ys:=by
 obtain⟨c,r,⟨o,n,e,_,_,d⟩,_⟩:=I.list h
 obtain⟨b,i,⟨l,k,f,_,_,g⟩,_⟩:=I.list h'
 rw[e] at f;cases f
 rw[d] at g
 injection g with j _
 have:c=b:=by simpa using congrArg Array.toList j
 subst this
 exact r.inj i
def Inv.tuple_inj(I:Inv X pins σ H s)(h:jo X.K H a xs)(h':jo X.K H a ys):xs=ys:=by
 obtain⟨c,r,⟨o,e,_,n,d⟩,_⟩:=I.tuple h
 obtain⟨b,i,⟨l,f,_,k,g⟩,_⟩:=I.tuple h'
 rw[e] at f;cases f
 rw[d] at g
 injection g with j _
 have:c=b:=by simpa using congrArg Array.toList j
 subst this
 exact r.inj i
end
abbrev Cx.wish(X:Cx)(E:Value->Shared->Prop):Cx:={X with xe:=E}
abbrev Cx.nox(X:Cx):Cx:=X.wish λ_ _=>False
def Cx.Ok.wish{X:Cx}(ok:X.Ok)(E:Value->Shared->Prop):(X.wish E).Ok:=
 ⟨ok.mod,ok.kind,ok.glob,ok.blt,ok.above,ok.inj,ok.has,ok.cab,ok.hd,ok.frames,ok.stk,ok.exf,ok.bs,ok.bsz,ok.noex,ok.exfs,ok.funs,ok.frf⟩
def Cx.Ok.unwish{X:Cx}{E:Value->Shared->Prop}(ok:(X.wish E).Ok):X.Ok:=
 ⟨ok.mod,ok.kind,ok.glob,ok.blt,ok.above,ok.inj,ok.has,ok.cab,ok.hd,ok.frames,ok.stk,ok.exf,ok.bs,ok.bsz,ok.noex,ok.exfs,ok.funs,ok.frf⟩
section
variable{X:Cx}{pins:List (Addr×Obj)}{σ:St}{H:Hp}{s:Shared}{E:Value->Shared->Prop}
def Inv.wish(I:Inv X pins σ H s)(E:Value->Shared->Prop):Inv (X.wish E) pins σ H s:=⟨I.ok.wish E,I.os,I.bare,I.base,I.loc,I.cell,I.free,I.freeC,I.pin,I.hok,I.len⟩
def Inv.unwish(I:Inv (X.wish E) pins σ H s):Inv X pins σ H s:=⟨I.ok.unwish,I.os,I.bare,I.base,I.loc,I.cell,I.free,I.freeC,I.pin,I.hok,I.len⟩
theorem SP.unwish{D:Ends}(h:SP (X.wish E) pins D f c):SP X pins D f c:=by
 cases f with
 |next=>obtain⟨a,b,I,q⟩:=h;exact⟨a,b,I.unwish,q⟩
 |brk=>obtain⟨a,b,I,q⟩:=h;exact⟨a,b,I.unwish,q⟩
 |cont=>obtain⟨a,b,I,q⟩:=h;exact⟨a,b,I.unwish,q⟩
 |ret u=>obtain⟨v,a,b,I,r,q⟩:=h;exact⟨v,a,b,I.unwish,r,q⟩
def uA.nox{st:List Stmt}{t:TS}(h:uA X.nox st t):uA X st t:=λpins s σ H D I a=>
 QRq (h pins s σ H D (I.wish _) a) (λ_ _ q=>q.unwish) λ_ _ z=>False.elim z
end
section
variable{X:Cx}{st:Stmt}{rest:List Stmt}{t u:TS}{e:Expr}{te:TE}{pos:Pos}
def M0:TS:=λD a H=>D.nx a H
def PJ(t u:TS):TS:=λD a H=>t {D with nx:=u D} a H
def JM:uA X [] M0:=λ_ _ a H _ I h=>wpAny_execs_nil ⟨a,H,I,h⟩
def HE(d:PS X st t)(g:uA X rest u):uA X (st::rest) (PJ t u):=by
 intro a s c H D I h
 refine wpAny_execs_cons (c_ (d a s c H {D with nx:=u D} I h) λf k q=> ?_)
 cases f with
 | next=>
   obtain⟨b,i,j,q⟩:=q
   exact g a k b i D j q
 |ret v=>exact q
 |brk=>exact q
 |cont=>exact q
def Kn(c:PS X st t):uA X [st] t:=by
 intro a s b H D I h
 refine wpAny_execs_cons (c_ (c a s b H D I h) λf d q=> ?_)
 cases f with
 |next=>exact wpAny_execs_nil q
 |ret v=>exact q
 |brk=>exact q
 |cont=>exact q
def Inv.quiet(I:Inv X a b H s):interactive X.env=false:=by simp[interactive,I.ok.kind]
def NY(te:TE):TS:=λD a H=>te a H λ_ H1=>D.nx a H1
def Ka(he:PE X e te)(hs:swapsWith e none pos.line X.env=pure false:=by rfl):PS X (.Expr e pos) (NY te):=by
 intro a s b H D I h
 exact wpAny_Expr_any (c_ (he a s b H _ I h) λv g ⟨x,H1,d,f,c⟩=>⟨b,H1,d,c⟩) I.quiet hs
def PF(te:TE):TS:=λD a H=>te a H D.rt
def I_(he:PE X e te):PS X (.Return (some e) pos) (PF te):=by
 intro a s b H D I h
 exact wpAny_Return_some (c_ (he a s b H _ I h) λv g ⟨x,H1,f,c,d⟩=>⟨x,b,H1,f,c,d⟩)
def Pd(c:TT)(t u:TS):TS:=λD a H=>c a H λb H1=>if b=true then t D a H1 else u D a H1
def MW(m:PT X c i)(p:uA X a t)(n:uA X b u):PS X (.If c a b pos) (Pd i t u):=by
 intro f s g H D I h
 refine wpAny_If (c_ (m f s g H _ I h) λd j o=> ?_)
 obtain⟨H1,k,l⟩:=o
 cases d with
 |true=>exact p f j g H1 D k l
 |false=>exact n f j g H1 D k l
def LI:TS:=λ_ _ _=>False
def Hy:PS X st LI:=λ_ _ _ _ _ _ h=>h.elim
end
abbrev TG:=V->St->Hp->(St->Hp->Prop)->Prop
abbrev Hg:=List V->St->Hp->(St->Hp->Prop)->Prop
def PG(X:Cx)(a:Expr)(t:TG):Prop:=
 ∀ (b:List (Addr×Obj)) (s:Shared) (d:St) (H:Hp) (v:V) (u:Value) (Q:St->Hp->Prop),Inv X b d H s->RelV v u->t v d H Q→
   wpAny (model X.prog X.w) X.A (assign a X.env u) (λ_ f=>∃c e,Inv X b c e f/\Q c e) X.xe s
def GA(X:Cx)(ts:List Expr)(t:Hg):Prop:=
 ∀ (a:List (Addr×Obj)) (s:Shared) (c:St) (H:Hp) (d:List V) (e:List Value) (Q:St->Hp->Prop),Inv X a c H s->bI d e->t d c H Q→
   wpAny (model X.prog X.w) X.A (assignInOrder ((assignEach ts X.env).map (·.2)) e) (λ_ g=>∃b f,Inv X a b f g/\Q b f) X.xe s
abbrev GG:=V->V->V->Hp->(Hp->Prop)->Prop
def K8(X:Cx)(t:GG):Prop:=
 ∀ (a:List (Addr×Obj)) (s:Shared) (b:St) (H:Hp) (o i v:V) (d c u:Value) (Q:Hp->Prop),Inv X a b H s->RelV o d->RelV i c->RelV v u->t o i v H Q→
   wpAny (model X.prog X.w) X.A (setItem d c u) (λ_ f=>∃e,Inv X a b e f/\Q e) X.xe s
abbrev OB:=V->V->Hp->VK->Prop
def QC(X:Cx)(c:Operator)(t:OB):Prop:=
 ∀ (a:List (Addr×Obj)) (s:Shared) (b:St) (H:Hp) (x y:V) (v u:Value) (Q:VK),Inv X a b H s->RelV x v->RelV y u->t x y H Q→
   wpAny (model X.prog X.w) X.A (inplaceOp c v u) (EP X a b Q) X.xe s
section
variable{X:Cx}{pos:Pos}
def qp(i:Nat):TG:=λv a H Q=>Q (a.set i<|some v) H
def zh(e:X.N.Nodup)(hi:X.N[i]?=some x)(b:Loc X.env.scope x)(d:X.fn x=true\/X.env.scope.names.lookup x=some .local:=by first|exact .inl rfl|exact .inr rfl|assumption):PG X (.Name x pos) (qp i):=by
 intro a s f H v u Q I r h
 exact wpAny_assign_Name<|qO I e hi b r (λg c=>⟨_,H,c,h⟩) d
def Pa:Hg:=λa b H Q=>a= []/\Q b H
def Oi(t:TG)(u:Hg):Hg:=λb c H Q=>∃v r,b=v::r/\t v c H λa d=>u r a d Q
def Jo:GA X [] Pa:=by
 intro a s b H c d Q I r h
 obtain⟨e,h⟩:=h
 subst e
 cases r
 exact assignInOrder_nil ⟨b,H,I,h⟩
def HP(d:PG X e t)(n:GA X b u)
  (hs:(assignEach (e::b) X.env).map (·.2)=assign e X.env::(assignEach b X.env).map (·.2):=by rfl):GA X (e::b) (Oi t u):=by
 intro a s j H o q Q I r h
 obtain⟨v,p,l,h⟩:=h
 subst l
 cases r with
 | cons r f=>
   rw[hs]
   refine assignInOrder_cons (c_ (d a s j H _ _ _ I r h) λ_ g m=> ?_)
   obtain⟨c,H1,i,k⟩:=m
   exact n a g c H1 _ _ Q i f k
def Po(K:PySem.W.Frag)(n:Nat)(t:Hg):TG:=λv c H Q=>∃a b,v=.ref a/\jo K H a b/\b.length=n/\t b c H Q
def L6(y:X.calm=true)(h:GA X d t)
  (q:(assignEach d X.env).length=n:=by rfl) (f:(assignEach d X.env).findIdx? (·.1)=none:=by rfl):PG X (.Tuple d k pos) (Po X.K n t):=by
 intro c s i H v u Q I r g
 obtain⟨a,m,z,x,p,g⟩:=g
 subst z
 cases r
 obtain⟨C,j,B,F⟩:=I.tuple x
 refine assign_Tuple_tuple (I.ok.hd y) B (by simp[q,←p,j.length]) f λl A=> ?_
 have w:Inv X c i H {s with heap:=l}:=I.kept (t':=s.toks) λb o e=>A b o (Qwq<|Qiq e) e
 exact h c _ i H m _ Q w (by simpa using j) g
def MV(c b:TE)(t:GG):TG:=λv a H Q=>c a H λo H1=>b a H1 λi H2=>t o i v H2 λH3=>Q a H3
def LR(p:PE X o g)(hi:PE X i f)(hs:K8 X t)
  (B:∀v,assign (.Subscript o i pos) X.env v=(do
   let b←holding [v] (eval o X.env)
   let c←holding [v,b] (eval i X.env)
   standAt pos
   holding [v,b,c] (setItem b c v)
   release [v,b,c] []):=by intro _;rfl):PG X (.Subscript o i pos) (MV g f t):=by
 intro a s e H v u Q I r h
 rw[B]
 refine Qaq<|QLq (c_ (p a s e H _ I h) λb m d=> ?_)
 obtain⟨x,H1,n,q,z⟩:=d
 refine Qaq<|QLq (c_ (hi a m e H1 _ n z) λc l d=> ?_)
 obtain⟨y,H2,j,k,w⟩:=d
 refine Qaq<|wpAny_standAt<|Qaq<|QLq (c_ (hs a l e H2 x y v b c u _ j q k r w) λ_ F d=> ?_)
 obtain⟨H3,A,C⟩:=d
 exact wpAny_release ⟨e,H3,A,C⟩
def Gs(b:TE)(g:TG):TS:=λD a H=>b a H λx H1=>g x a H1 D.nx
def L3(he:PE X e b)(i:PG X tg g)(hs:swapsWithSole [tg] e pos.line X.env=pure false:=by rfl)(k:swappedStores [tg] e X.env=pure none:=by rfl)
  (d:(assignEach [tg] X.env).map (·.2)= [assign tg X.env]:=by rfl):PS X (.Assign [tg] e pos) (Gs b g):=by
 intro a s c H D I h
 refine wpAny_Assign_stores (c_ (he a s c H _ I h) λv f ⟨x,H1,j,l,m⟩=> ?_) hs k
 rw[d]
 exact c_ (i a f c H1 x v _ j l m) λ_ n q=>q
def LL(m:X.N.Nodup)(hi:X.N[i]?=some x)(n:Loc X.env.scope x)(he:PE X e c)(hs:swapsWith e (some<|.Name x a) pos.line X.env=pure false:=by rfl)(f:X.fn x=true\/X.env.scope.names.lookup x=some .local:=by first|exact .inl rfl|exact .inr rfl|assumption):
  PS X (.Assign [.Name x a] e pos) (Gs c<|qp i):=by
 intro b s j H D I h
 refine wpAny_Assign_Name (c_ (he b s j H _ I h) λv p ⟨y,H1,g,k,l⟩=> ?_) hs
 exact qO g m hi n k (λo d=>⟨_,H1,d,l⟩) f
def NT(i j:Nat)(c:TA):TS:=λD a H=>c a H λb H1=>∃v w,b= [v,w]/\D.nx ((a.set i<|some v).set j (some w)) H1
def LZ{i j:Nat}{x y:Str}{a b:Expr}{G:TA}{n t k:Pos}{kt k2 pt2}(S:X.calm=true)(B:X.N.Nodup)(hi:X.N[i]?=some x)(K:X.N[j]?=some y)(m:i≠j)
  (C:X.env.scope.names.lookup x=some .local) (F:X.env.scope.names.lookup y=some .local) (ha:PA X [a,b] G)
  (Q:swappedStores [.Tuple [.Name x n,.Name y t] kt k] (.Tuple [a,b] k2 pt2) X.env=pure (some [x,y]))
  (hs:swapsWithSole [.Tuple [.Name x n,.Name y t] kt k] (.Tuple [a,b] k2 pt2) pos.line X.env=pure false:=by rfl):
  PS X (.Assign [.Tuple [.Name x n,.Name y t] kt k] (.Tuple [a,b] k2 pt2) pos) (NT i j G):=by
 intro c s z H D I h
 rw[exec_Assign_arm]
 refine Qaq<|wpAny_standAt ?_
 rw[hs]
 refine Qaq<|Qgq ?_
 rw[Quq (by decide)]
 refine Qaq<|Tuple_ (c_ (ha _ c s z H _ I h) λM f Z=> ?_)
 obtain⟨vs,H1,P,R,r⟩:=Z
 obtain⟨v,w,W,r⟩:=r
 subst W
 obtain⟨d,g,rfl,rv,rw'⟩:∃d g,M= [d,g]/\RelV v d/\RelV w g:=by
  cases R with
  | cons p q=>
    cases q with
    | cons Y L=>
      cases L
      exact⟨_,_,rfl,p,Y⟩
 refine QhQ ?_ (by show 2<=_;decide)
 have J:Inv X c z H1 {f with heap:=f.heap.push {cls:=.type "tuple",data:=.seq [d,g].toArray}}:=P.kept (t':=f.toks) λb o e=>Qcq _ e
 rw[Q]
 refine Qaq<|Qgq ?_
 show wpAny (model X.prog X.w) X.A (do rule "assign.swapped-stores";let items←unpackItems (.ref f.heap.objs.size) 2 none;assignInOrder [λv=>bindName X.env y v,λv=>bindName X.env x v] items.reverse;pure Flow.next) _ _ _
 refine Qaq<|wpAny_rule<|Qaq (unpackItems_tuple (items:= #[d,g]) (I.ok.hd S) (IsTup.new f.heap _) λh' l=> ?_)
 have U:=J.kept (h':=h') (t':=f.toks) λb o e=>l b o (Qwq<|Qiq e) e
 show wpAny _ _ (assignInOrder [λv=>bindName X.env y v,λv=>bindName X.env x v] [g,d] >>= λ_=>pure Flow.next) _ _ _
 refine Qaq<|assignInOrder_cons<|wpAny_bindName<|qO U B K (.inl F) rw' (λs2 I4=> ?_)<|.inr F
 refine assignInOrder_cons<|wpAny_bindName<|qO I4 B hi (.inl C) rv (λs3 u=>assignInOrder_nil<|Qgq ?_)<|.inr C
 rw[List.set_comm _ _ (Ne.symm m)] at u
 exact⟨_,H1,u,r⟩
def M7(g f e:TE)(b:V->V->Hp->VK->Prop)(d:OB)(a:GG):TS:=λD c H=>g c H λo H1=>f c H1 λi H2=>b o i H2 λx H3=>e c H3 λy H4=>d x y H4 λz H5=>a o i z H5 λh=>D.nx c h
def MQ(X:Cx)(t:V->V->Hp->VK->Prop):Prop:=
 ∀ (a:List (Addr×Obj)) (s:Shared) (b:St) (H:Hp) (o i:V) (d c:Value) (Q:VK),Inv X a b H s->RelV o d->RelV i c->t o i H Q→
   wpAny (model X.prog X.w) X.A (getItem d c) (EP X a b Q) X.xe s
def Jj(N:PE X o u)(hi:PE X i t)(K:MQ X c)(he:PE X e q)(Z:QC X x l)(hs:K8 X b)
  (ha:∀d g new,augStore i d g new=(do holding [new,d,g] (setItem d g new);release [new,d,g] [];pure .next):=by intros;rfl):PS X (.AugAssign (.Subscript o i k) x e pos) (M7 u t q c l b):=by
 intro a s f H D I h
 refine wpAny_AugAssign_SubscriptAny (c_ (N a s f H _ I h) λd G ⟨r,H1,M,w,U⟩=> ?_) ha
 refine c_ (hi a G f H1 _ M U) λg z j=> ?_
 obtain⟨p,H2,y,n,R⟩:=j
 refine c_ (K a z f H2 r p d g _ y w n R) λm S j=> ?_
 obtain⟨B,H3,I3,r3,q3⟩:=j
 refine c_ (he a S f H3 _ I3 q3) λv s4 j=> ?_
 obtain⟨x4,H4,I4,P,q4⟩:=j
 refine c_ (Z a s4 f H4 B x4 m v _ I4 r3 P q4) λnew L j=> ?_
 obtain⟨Q,H5,J,C,W⟩:=j
 exact c_ (hs a L f H5 r p Q d g new _ J w n C W) λ_ s6 ⟨Y,F,A⟩=>⟨f,Y,F,A⟩
def Q2(f:Int->Int->Int):OB:=λx y H Q=>∃i j,x=.int i/\y=.int j/\Q (.int (f i j)) H
def K5:QC X .Add (Q2 λi j=>i+j):=by
 intro a s g H x y v u Q I d b h
 obtain⟨i,j,e,c,q⟩:=h
 subst e;subst c
 obtain⟨t,rfl⟩:=d
 obtain⟨f,rfl⟩:=b
 exact iadd_int ⟨.int _,H,I.tok _,⟨_,rfl⟩,q⟩
end
section
variable{X:Cx}{pos:Pos}
def L5(c:TT)(g:TS):TS:=λD a H=>∃W:Nat->St->Hp->Prop,(∃m,W m a H)/\∀m a H,W m a H→
 c a H λb H1=>if b=true then∃N:St->Hp->Prop,(∀d f,N d f->∃e,e<m/\W e d f)/\g {D with nx:=N,ct:=N,bk:=D.nx} a H1 else D.nx a H1
def H_(z:PassesOwn (model X.prog X.w) X.A X.env X.xe)(M:PT X c u)(Q:uA X g x):PS X (.While c g [] pos) (L5 u x):=by
 intro a s L H D I h
 obtain⟨W,⟨F,P⟩,i⟩:=h
 refine wpAny_While<|codeAny_whileLoop (λn S=>∃j y,Inv X a j y S/\W n j y) ?_ F ⟨L,H,I,P⟩
 rintro n J ⟨e,H1,K,G⟩
 refine wpAny_passesOwn z (c_ (M a J e H1 _ K<|i n e H1 G) λb C R=> ?_)
 obtain⟨H2,t,k⟩:=R
 cases b with
 | true=>
   obtain⟨N,B,k⟩:=k
   rw[Qhq rfl]
   refine wpAny_passesOwn z (c_ (Q a C e H2 _ t k) λf U l=> ?_)
   cases f with
   | next=>
     obtain⟨d,H3,q,r⟩:=l
     obtain⟨o,m,p⟩:=B d H3 r
     exact⟨o,m,d,H3,q,p⟩
   | cont=>
     obtain⟨d,H3,q,r⟩:=l
     obtain⟨o,m,p⟩:=B d H3 r
     exact⟨o,m,d,H3,q,p⟩
   |brk=>exact l
   |ret v=>exact l
 | false=>
   rw[Quq Qtq]
   exact wpAny_execs_nil ⟨e,H2,t,k⟩
end
structure It where
 go:Nat->Hp->Prop
 yld:Nat->Hp->V->Hp->Prop
 stop:Nat->Hp->Prop
def sj(X:Cx)(a:List (Addr×Obj))(H:Hp)(b:Addr):Prop:=
 H b=none/\b≠X.env.locals/\b∉X.fs/\(b∈X.ex\/X.s₀.heap.objs.size<=b)/\(∀x c,X.env.cells.lookup x=some c->c≠b)/\∀p∈X.pn++a,p.1≠b
def Inv.fpOk{H f:Hp}(I:Inv X a g H s)(d:s.heap.objs.size<=b)(h:f b=none):sj X a f b:=by
 refine⟨h,Nat.ne_of_gt<|Qqq I.lt d,I.nofs d,.inr (QAq I.sz d),λx c e z=> ?_,λp i z=> ?_⟩
 ·obtain⟨v,q⟩:=I.cell x c e
  exact absurd (Qqq q.lt (by rw[z];exact d))<|Nat.lt_irrefl _
 ·exact absurd (Qqq (Qiq (I.pin p i).1) (by rw[z];exact d))<|Nat.lt_irrefl _
structure Turn(P:Program)(w:World)(K:PySem.W.Frag)(tg:Expr)(J:It)(fp:List Addr)(it:Addr)(tn:Nat->Heap->Prop):Prop where
 mem:it∈fp
 obj:∀i h,tn i h->∀b∈fp,∃o,h.get? b=some o/\∀v,o.data≠.cell v
 keep:∀i h h',tn i h->(∀b∈fp,∀o,h.get? b=some o->h'.get? b=some o)->tn i h'
 item:∀(X:Cx),X.prog=P->X.w=w->X.K=K->X.calm=true->∀(i:Nat) (pins:List (Addr×Obj)) (s:Shared) (σ:St) (H:Hp) (E:Value->Shared->Prop),Inv X pins σ H s->(∀b∈fp,sj X pins H b)->tn i s.heap->J.go i H→
  wpAny (model P w) X.A (pyNext (.ref it)) (λr s1=>∃u,r=some u∧
   wpAny (model P w) X.A (letOwnedTupleGo tg (.ref it) u) (λ_ s2=>∃x H',Inv X pins σ H' s2/\RelV x u/\J.yld i H x H'/\tn (i+1) s2.heap/\∀b∈fp,H' b=none) E s1) E s
 done:∀(X:Cx),X.prog=P->X.w=w->X.K=K->X.calm=true->∀(i:Nat) (pins:List (Addr×Obj)) (s:Shared) (σ:St) (H:Hp) (E:Value->Shared->Prop),Inv X pins σ H s->(∀b∈fp,sj X pins H b)->tn i s.heap->J.stop i H→
  wpAny (model P w) X.A (pyNext<|.ref it) (λr s1=>r=none/\Inv X pins σ H s1) E s
 self:∀(A:Around) (i:Nat) (s:Shared) (Q:Value->Shared->Prop) (E:Value->Shared->Prop),tn i s.heap->Q (.ref it) s->wpAny (model P w) A (pyIter<|.ref it) Q E s
abbrev TI:=St->Hp->(It->Hp->Prop)->Prop
def QN(X:Cx)(a:List (Addr×Obj))(i:St)(tg:Expr)(R:It->Hp->Prop)(c:Value)(f:Shared):Prop:=
 ∃(h:Addr) (g:List Addr) (e:Nat->Heap->Prop) (J:It) (d:Hp),c=.ref h/\Inv X a i d f/\Turn X.prog X.w X.K tg J g h e/\e 0 f.heap/\(∀b∈g,sj X a d b)/\R J d
def PI(X:Cx)(tg b:Expr)(d:TI):Prop:=
 ∀ (a:List (Addr×Obj)) (s:Shared) (c:St) (H:Hp) (R:It->Hp->Prop),Inv X a c H s->d c H R→
   wpAny (model X.prog X.w) X.A (eval b X.env) (λv e=>wpAny (model X.prog X.w) X.A (pyIter v) (QN X a c tg R) X.xe e) X.xe s
def Hm{E:Value->Shared->Prop}{s:Shared}{Q:Unit->Shared->Prop}(d:s.heap.get? it=some o)(c:o.cls=.type n)(hd:o.data=.fields vs)
    (b: ["enumerate","zip","dict_itemiterator","dict_reverseitemiterator","odict_iterator","itertools.zip_longest","itertools.pairwise"].contains n=false) (a:Q () s):wpAny M A (letOwnedTupleGo tg (.ref it) u) Q E s:=by
  unfold letOwnedTupleGo
  cases tg <;>first
    |exact Qgq a
    |(cases u <;>first
        |exact Qgq a
        |(refine Qaq (wpAny_load d ?_)
          rw[c,hd]
          show wpAny M A (if (["enumerate","zip","dict_itemiterator","dict_reverseitemiterator","odict_iterator","itertools.zip_longest","itertools.pairwise"].contains n&&vs[0]? ==some (rawInt _))=true then _ else _) Q E s
          rw[Quq (by intro h;rw[b,Bool.false_and] at h;cases h)]
          exact Qgq a))
def QD(K:PySem.W.Frag)(a:Addr):It:=
 ⟨λi H=>∃b x,je K H a b/\b[i]?=some x,λi H x c=>c=H/\∀b,je K H a b->b[i]?=some x,λi H=>∃b,je K H a b/\b.length<=i⟩
def QO(K:PySem.W.Frag)(a:Addr):It:=
 ⟨λi H=>∃b x,jo K H a b/\b[i]?=some x,λi H x c=>c=H/\∀b,jo K H a b->b[i]?=some x,λi H=>∃b,jo K H a b/\b.length<=i⟩
def OF(lo:Int)(n:Nat):It:=⟨λi _=>i<n,λi H x a=>a=H/\x=.int (lo+i),λi _=>n<=i⟩
def Fw{P:Program}{w:World}{K:PySem.W.Frag}{tg:Expr}(a it:Addr):Turn P w K tg (QD K a) [it] it (λi h=>h.IsListIter it a i) where
 mem:=by simp
 obj:=λi h f b j=>by
  have e:b=it:=by simpa using j
  subst e
  obtain⟨o,e,c,d⟩:=f
  exact⟨o,e,λv z=>by rw[d] at z;cases z⟩
 keep:=λi h m f k=>f.at λo e=>k it (by simp) o e
 item:=by
  intro X J B G R i g s Q H E I n f A
  subst J B G
  obtain⟨S,x,q,L⟩:=A
  obtain⟨M,F,p,hz⟩:=I.list q
  obtain⟨u,Z,Y⟩:=F.get L
  obtain⟨C,N,U,r,t,y⟩:=n it (by simp)
  refine wpAny_pyNext_list_item f p.isList (x:=u) (by simpa using Z) λm l sb=> ?_
  have I1:Inv X g Q H {s with heap:=m}:=I.turned (t':=s.toks) (λb o j e=>(sb.2 b j).trans e) C N r t y
  obtain⟨o,e,c,d⟩:=id l
  exact⟨u,rfl,Hm (s:={s with heap:=m}) e c d (by decide) ⟨x,H,I1,Y,⟨rfl,λys hy=>by rw[I.list_inj hy q];exact L⟩,l,λb j=>(n b j).1⟩⟩
 done:=by
  intro X J B G R i g s Q H E I n f A
  subst J B G
  obtain⟨S,q,L⟩:=A
  obtain⟨M,F,p,hz⟩:=I.list q
  obtain⟨C,N,U,r,t,y⟩:=n it (by simp)
  have hl:=F.length
  exact wpAny_pyNext_list_end (I.ok.hd R) f p.isList (by simp;omega) λm eb=>⟨rfl,I.turned (t':=s.toks) (λb o j e=>eb b o j e) C N r t y⟩
 self:=λ_ _ _ _ _ f h=>wpAny_pyIter_listiter f h
def CS{P:Program}{w:World}{K:PySem.W.Frag}{tg:Expr}(a it:Addr):Turn P w K tg (QO K a) [it] it (λi h=>h.IsTupleIter it a i) where
 mem:=by simp
 obj:=λi h f b j=>by
  have e:b=it:=by simpa using j
  subst e
  obtain⟨o,e,c,d⟩:=f
  exact⟨o,e,λv z=>by rw[d] at z;cases z⟩
 keep:=λi h n f k=>f.at λo e=>k it (by simp) o e
 item:=by
  intro X L C J R i g s Q H E I q f B
  subst L C J
  obtain⟨S,x,r,M⟩:=B
  obtain⟨l,G,p,hz⟩:=I.tuple r
  obtain⟨u,Z,Y⟩:=G.get M
  obtain⟨F,N,U,t,y,A⟩:=q it (by simp)
  refine wpAny_pyNext_tuple_item f (show s.heap.IsTuple a l.toArray from p) (x:=u) (by simpa using Z) λn m sb=> ?_
  have I1:Inv X g Q H {s with heap:=n}:=I.turned (t':=s.toks) (λb o j e=>(sb.2 b j).trans e) F N t y A
  obtain⟨o,e,c,d⟩:=id m
  exact⟨u,rfl,Hm (s:={s with heap:=n}) e c d (by decide) ⟨x,H,I1,Y,⟨rfl,λys hy=>by rw[I.tuple_inj hy r];exact M⟩,m,λb j=>(q b j).1⟩⟩
 done:=by
  intro X L C J R i g s Q H E I q f B
  subst L C J
  obtain⟨S,r,M⟩:=B
  obtain⟨l,G,p,hz⟩:=I.tuple r
  obtain⟨F,N,U,t,y,A⟩:=q it (by simp)
  have hl:=G.length
  exact wpAny_pyNext_tuple_end (I.ok.hd R) f (show s.heap.IsTuple a l.toArray from p) (by simp;omega) λn eb=>⟨rfl,I.turned (t':=s.toks) (λb o j e=>eb b o j e) F N t y A⟩
 self:=λ_ _ _ _ _ f h=>wpAny_pyIter_tupleiter f h
def DQ{P:Program}{w:World}{K:PySem.W.Frag}{tg:Expr}(it:Addr)(lo:Int)(n:Nat):Turn P w K tg (OF lo n) [it] it (λi h=>IsRangeIter h it (lo+(i:Nat)*1) ((n:Int)-(i:Nat)) 1) where
 mem:=by simp
 obj:=λi h a b d=>by
  have e:b=it:=by simpa using d
  subst e
  exact⟨_,a,λv z=>by
   have Q:Data.fields _=Data.cell v:=z
   cases Q⟩
 keep:=λi h g a k=>k it (by simp) _ a
 item:=by
  intro X A r y x i c s F H E I j a q
  subst A r y
  obtain⟨u,B,G,l,m,p⟩:=j it (by simp)
  have W:=Walks.range (prog:=X.prog) (w:=X.w) (I.ok.hd x) it lo 1 n
  refine W.item i s _ _ q a λv g C L f N=> ?_
  obtain⟨t,rfl⟩:=L
  have J:Inv X c F H {s with heap:=g,toks:=C}:=I.turned (λb o d e=>N b o (by simpa using d) e) u B l m p
  refine⟨_,rfl,Hm (s:={s with heap:=g,toks:=C}) (n:="range_iterator") f rfl rfl (by decide) ⟨.int (lo+i),H,J,⟨t,?_⟩,⟨rfl,rfl⟩,f,λb d=>(j b d).1⟩⟩
  rw[Int.mul_one]
 done:=by
  intro X A r y x i c s F H E I j a q
  subst A r y
  obtain⟨u,B,G,l,m,p⟩:=j it (by simp)
  exact wpAny_pyNext_range_end (I.ok.hd x) a (by have:n<=i:=q;omega) λg M=>⟨rfl,I.turned (t':=s.toks) (λb o d e=>M b o d e) u B l m p⟩
 self:=λ_ _ _ _ _ a h=>wpAny_pyIter_rangeiter a h
section
variable{X:Cx}{tg:Expr}
def Iu{a:List (Addr×Obj)}{f:St}{H:Hp}{s:Shared}{R:It->Hp->Prop}{E:Value->Shared->Prop}{lo hi:Int}{t u v:Tok}{c:Nat}(I:Inv X a f H s)(h: -(2^62)<=lo)(m:lo<2^62)(g: -(2^62)<=hi)(i:hi<2^62)
  (q:R (OF lo (hi-lo).toNat) H):wpAny (model X.prog X.w) X.A (pyIter<|.ref s.heap.objs.size) (QN X a f tg R) E {s with heap:=s.heap.push {cls:=.type "range",data:=.fields #[.int lo t,.int hi u,.int 1 v]},toks:=c}:=by
 refine wpAny_pyIter_range (IsRange.new ..) (small_one h m g i) ?_
 have d:Inv X a f H {s with heap:=s.heap.push {cls:=.type "range",data:=.fields #[.int lo t,.int hi u,.int 1 v]},toks:=c}:=I.kept λb o e=>Qcq _ e
 refine⟨(s.heap.push {cls:=.type "range",data:=.fields #[.int lo t,.int hi u,.int 1 v]}).objs.size,[(s.heap.push {cls:=.type "range",data:=.fields #[.int lo t,.int hi u,.int 1 v]}).objs.size],_,_,H,rfl,
  d.kept (t':=c) λb o e=>Qcq _ e,DQ _ lo (hi-lo).toNat,?_,λb k=> ?_,q⟩
 ·have l:lo+((0:Nat):Int)*1=lo:=by simp
  have j:(((hi-lo).toNat:Nat):Int)-((0:Nat):Int)=Builtin.Range.rangeSize lo hi 1:=by rw[rangeSize_one];split <;>omega
  show IsRangeIter _ _ (lo+((0:Nat):Int)*1) ((((hi-lo).toNat:Nat):Int)-((0:Nat):Int)) 1
  rw[l,j]
  exact Qrq _ rfl
 ·have e:b=(s.heap.push {cls:=.type "range",data:=.fields #[.int lo t,.int hi u,.int 1 v]}).objs.size:=by simpa using k
  subst e
  exact d.fpOk (Qmq _)<|d.hok.fresh<|Qmq _
def NF(c:TA):TI:=λa H R=>c a H λb H1=>∃j:Int,b= [.int j]/\ -(2^62)<=j/\j<2^62/\R (OF 0 j.toNat) H1
def F6{a:Expr}{d:TA}{p pos:Pos}(i:Gl X "range")(f:X.mg "range"=none)(o:PA X [a] d)(hs:starEach [a] X.env= [(false,eval a X.env)]:=by rfl):PI X tg (.Call (.Name "range" p) [a] [] pos) (NF d):=by
 intro b s l H R I h
 refine Call_<|pw I i f boot_range<|PyProof.Rows.callWith_type1 (c_ (o pos b s l H _ I h) λw u ⟨v,H1,k,m,c⟩=> ?_) hs rfl
 obtain⟨j,e,c,n,q⟩:=c
 subst e
 cases m with
 | cons r g=>
   cases g
   obtain⟨t,rfl⟩:=r
   exact call_range_1<|Iu k (by omega) (by omega) c n (by simpa using q)
def Pq(f:TI)(g:TG)(h:TS):TS:=λD a H=>f a H λJ H1=>∃W:Nat->Nat->St->Hp->Prop,(∃m,W 0 m a H1)/\∀i m a H,W i m a H→
 (J.stop i H/\D.nx a H)\/(J.go i H/\∃N:St->Hp->Prop,(∀b c,N b c->∃e,e<m/\W (i+1) e b c)/\∀x c,J.yld i H x c->g x a c λd H2=>h {D with nx:=N,ct:=N,bk:=D.nx} d H2)
def oS(fp:List Addr)(h:Heap):List (Addr×Obj):=fp.filterMap λb=>(h.get? b).map λo=>(b,o)
def dI{h:Heap}(a:b∈fp)(e:h.get? b=some o):(b,o)∈oS fp h:=List.mem_filterMap.mpr ⟨b,a,by rw[e];rfl⟩
def Gk(c:p∈oS fp h):p.1∈fp/\h.get? p.1=some p.2:=by
 obtain⟨b,d,e⟩:=List.mem_filterMap.mp c
 cases q:h.get? b with
 |none=>rw[q] at e;cases e
 | some o=>
   rw[q] at e
   have a:(b,o)=p:=QdQ e
   subst a
   exact⟨d,q⟩
def Inv.pinned(I:Inv X a c H s)(i:∀b∈fp,sj X a H b)(j:∀b∈fp,∃o,s.heap.get? b=some o/\∀v,o.data≠.cell v):Inv X (a++oS fp s.heap) c H s:=
 I.pins_of λp l=>(mQa.mp l).elim (λz=>I.pin p<|Qoq _ z) λz=>by
  obtain⟨f,e⟩:=Gk z
  obtain⟨k,m,h,_⟩:=i p.1 f
  obtain⟨o,g,d⟩:=j p.1 f
  rw[e] at g;cases g
  exact⟨e,k,m,h,d⟩
def Inv.unpinned(I:Inv X (a++d) b H s):Inv X a b H s:=I.pins_of λp c=>I.pin p (Qoq _<|List.mem_append_left _ c)
def Lf(P:PassesOwn (model X.prog X.w) X.A X.env X.xe)(hc:X.calm=true)(hi:PI X tg q wi)(hg:PG X tg g)(p:uA X B tb)
  (hs:∀x,foldedSetIterable q X.env x=pure x:=by intro _;rfl):PS X (.For tg q B [] pos) (Pq wi g tb):=by
 intro c s σ H D I h
 refine wpAny_For (c_ (hi c s σ H _ I h) λv s1 h1=>c_ h1 λa2 s2 h2=> ?_) hs
 obtain⟨it,M,tn,J,H2,e,I2,T,a0,f2,W,⟨m0,w0⟩,Q⟩:=h2
 subst e
 have t:∀{z:Hp},(∀b∈M,z b=none)->∀b∈M,sj X c z b:=λhn b p=>⟨hn b p,(f2 b p).2⟩
 refine codeAny_forLoop_any (λn s'=>∃i j z,Inv X c j z s'/\tn i s'.heap/\(∀b∈M,z b=none)/\W i n j z) ?_ m0 ⟨0,σ,H2,I2,a0,λb p=>(f2 b p).1,w0⟩
 rintro n s3 ⟨i,y,H3,I3,L,K,w3⟩
 rcases Q i n y H3 w3 with⟨stop,qn⟩|⟨go,N,hN,R⟩
 ·refine wpAny_passesOwn P (c_ (T.done X rfl rfl rfl hc i c s3 y H3 X.xe I3 (t K) L stop) λr s4 F=> ?_)
  obtain⟨hr,I4⟩:=F
  subst hr
  exact wpAny_execs_nil ⟨y,H3,I4,qn⟩
 ·refine wpAny_passesOwn P (c_ (T.item X rfl rfl rfl hc i c s3 y H3 X.xe I3 (t K) L go) λr s4 F=> ?_)
  obtain⟨u,hr,h4⟩:=F
  subst hr
  refine wpAny_passesOwn P (c_ h4 λ_ s5 F=> ?_)
  obtain⟨x,H5,I5,r5,y5,G,U⟩:=F
  have a1:=I5.pinned (t U) (T.obj _ _ G)
  refine wpAny_passesOwn P (c_ (hg _ s5 y H5 x u _ a1 r5<|R x H5 y5) λ_ s6 F=> ?_)
  obtain⟨Y,H6,I6,q6⟩:=F
  refine wpAny_passesOwn P (c_ (p _ s6 Y H6 _ I6 q6) λf Z C=> ?_)
  have again:∀{a:St} {l:Hp},Inv X (c++oS M s5.heap) a l Z->N a l->∃m,m<n/\∃i j z,Inv X c j z Z/\tn i Z.heap/\(∀b∈M,z b=none)/\W i m j z:=λ{a l} k S=>by
   obtain⟨m',hm,w7⟩:=hN a l S
   refine⟨m',hm,i+1,a,l,k.unpinned,T.keep _ _ _ G λb p o e=>(k.pin (b,o)<|Qoq _<|Qoq _<|dI p e).1,λb p=> ?_,w7⟩
   obtain⟨o,e,d⟩:=T.obj _ _ G b p
   exact(k.pin (b,o)<|Qoq _<|Qoq _<|dI p e).2.1
  cases f with
  |next=>obtain⟨a,l,k,S⟩:=C;exact again k S
  |cont=>obtain⟨a,l,k,S⟩:=C;exact again k S
  |brk=>obtain⟨a,l,k,C⟩:=C;exact⟨a,l,k.unpinned,C⟩
  |ret v=>obtain⟨x7,a,l,k,r7,C⟩:=C;exact⟨x7,a,l,k.unpinned,r7,C⟩
end
abbrev R2:=V->V->Hp->VK->Prop
def lR(X:Cx)(f:Value->Value->Sem Value)(r:R2):Prop:=
 ∀ (a:List (Addr×Obj)) (s:Shared) (b:St) (H:Hp) (x y:V) (v u:Value) (Q:VK),Inv X a b H s->RelV x v->RelV y u->r x y H Q→
   wpAny (model X.prog X.w) X.A (f v u) (EP X a b Q) X.xe s
def P1(X:Cx)(f:Value->Sem Value)(r:V->Hp->VK->Prop):Prop:=
 ∀ (a:List (Addr×Obj)) (s:Shared) (b:St) (H:Hp) (x:V) (v:Value) (Q:VK),Inv X a b H s->RelV x v->r x H Q→
   wpAny (model X.prog X.w) X.A (f v) (EP X a b Q) X.xe s
def kd(X:Cx)(f:Value)(r:List V->Hp->VK->Prop):Prop:=
 ∀ (a:List (Addr×Obj)) (s:Shared) (b:St) (H:Hp) (c:List V) (d:List Value) (Q:VK),Inv X a b H s->bI c d->r c H Q→
   wpAny (model X.prog X.w) X.A (call f d) (EP X a b Q) X.xe s
def PC(X:Cx)(r:V->Hp->(Bool->Hp->Prop)->Prop):Prop:=
 ∀ (a:List (Addr×Obj)) (s:Shared) (b:St) (H:Hp) (x:V) (v:Value) (Q:Bool->Hp->Prop),Inv X a b H s->RelV x v->r x H Q→
   wpAny (model X.prog X.w) X.A (truthy v) (TP X a b Q) X.xe s
def JP(r:R2)(b c:TE):TE:=λa H Q=>b a H λx H1=>c a H1 λy H2=>r x y H2 Q
def Q1(r:V->Hp->VK->Prop)(b:TE):TE:=λa H Q=>b a H λx H1=>r x H1 Q
def rI(C:Int->Int->Prop)(g:Int->Int->V):R2:=λx y H Q=>∃i j,x=.int i/\y=.int j/\C i j/\Q (g i j) H
def Fi(g:Int->Int->V):R2:=λx y H Q=>∃i j,x=.int i/\y=.int j/\Q (g i j) H
def rU(g:Int->V):V->Hp->VK->Prop:=λx H Q=>∃i,x=.int i/\Q (g i) H
section
variable{X:Cx}{a b c:Expr}{ta tb tc:TE}{pos:Pos}
def Ls(B:PE X a ta)(z:PE X b tb){R:V->V->Hp->Prop}(I:Inv X d e H s)
  (h:ta e H λx H1=>tb e H1 λy H2=>R x y H2)  {f:Value->Value->Sem Value}
  (o:∀v u j x y H2,Inv X d e H2 j->RelV x v->RelV y u->R x y H2->wpAny (model X.prog X.w) X.A (f v u) Q X.xe j):
  wpAny (model X.prog X.w) X.A (eval a X.env) (λv i=>wpAny (model X.prog X.w) X.A (eval b X.env) (λu g=>wpAny (model X.prog X.w) X.A (f v u) Q X.xe g) X.xe i) X.xe s:=by
 refine c_ (B d s e H _ I h) λv n k=> ?_
 obtain⟨x,H1,p,q,t⟩:=k
 refine c_ (z d n e H1 _ p t) λu j k=> ?_
 obtain⟨y,H2,l,m,r⟩:=k
 exact o v u j x y H2 l q m r
def t6{e:Operator}{r:R2}(j:lR X (binaryOp e) r)(n:PE X a ta)(m:PE X b tb):PE X (.BinOp a e b pos) (JP r ta tb):=by
 intro d s k H Q I h
 exact wpAny_BinOp (Ls n m I h λv u g x y H2 f i l q=>j d g k H2 x y v u Q f i l q)
def Nf{f:UnaryOp}{r:V->Hp->VK->Prop}(l:P1 X (unaryOp f) r)(j:PE X a ta):PE X (.UnaryOp f a pos) (Q1 r ta):=by
 intro d s e H Q I h
 exact UnaryOp_ (c_ (j d s e H _ I h) λv m ⟨x,H1,k,g,i⟩=>l d m e H1 x v Q k g i)
def OA{f:Value->Value->Sem Value}{C:Int->Int->Prop}{g:Int->Int->Int}
  (d:∀(i j:Int) (t u:Tok) (s:Shared) (Q:Value->Shared->Prop) (E:Value->Shared->Prop),C i j->Q (.int (g i j) s.toks) {s with toks:=s.toks+1}->wpAny (model X.prog X.w) X.A (f (.int i t)<|.int j u) Q E s):
  lR X f (rI C λi j=>.int (g i j)):=by
 intro e s n H x y v u Q I k m h
 obtain⟨i,j,rfl,rfl,hc,q⟩:=h
 obtain⟨t,rfl⟩:=k
 obtain⟨l,rfl⟩:=m
 exact d i j t l s _ _ hc ⟨.int (g i j),H,I.tok _,⟨_,rfl⟩,q⟩
def Nz{f:Value->Value->Sem Value}{g:Int->Int->Int}
  (d:∀(i j:Int) (t u:Tok) (s:Shared) (Q:Value->Shared->Prop) (E:Value->Shared->Prop),Q (.int (g i j) s.toks) {s with toks:=s.toks+1}->wpAny (model X.prog X.w) X.A (f (.int i t)<|.int j u) Q E s):
  lR X f (Fi λi j=>.int (g i j)):=by
 intro e s n H x y v u Q I k m h
 obtain⟨i,j,rfl,rfl,q⟩:=h
 obtain⟨t,rfl⟩:=k
 obtain⟨l,rfl⟩:=m
 exact d i j t l s _ _ ⟨.int (g i j),H,I.tok _,⟨_,rfl⟩,q⟩
def JR{f:Value->Value->Sem Value}{g:Int->Int->Bool}
  (d:∀(i j:Int) (t u:Tok) (s:Shared) (Q:Value->Shared->Prop) (E:Value->Shared->Prop),Q (.bool (g i j)) s->wpAny (model X.prog X.w) X.A (f (.int i t)<|.int j u) Q E s):
  lR X f (Fi λi j=>.bl (g i j)):=by
 intro e s n H x y v u Q I k m h
 obtain⟨i,j,rfl,rfl,q⟩:=h
 obtain⟨t,rfl⟩:=k
 obtain⟨l,rfl⟩:=m
 exact d i j t l s _ _ ⟨.bl (g i j),H,I,rfl,q⟩
def G5(i j:Int):Prop:=0<j/\j<1073741824
def IA(i j:Int):Prop:=0<=j/\j<=1000000/\i.natAbs<2^64
def I0(i j:Int):Prop:=(-(2^64)<i/\i<2^64)\/(-(2^64)<j/\j<2^64)
def I0.ok(h:I0 i j):IntMulOk i j:=by
 rcases h with⟨d,e⟩|⟨d,e⟩
 ·exact .of_left (intBits_le_64 d e)
 ·exact .of_right (intBits_le_64 d e)
def LU:lR X (binaryOp .Add) (Fi λi j=>.int (i+j)):=Nz λ_ _ _ _ _ _ _ q=>add_int q
def Mc:lR X (binaryOp .Sub) (Fi λi j=>.int (i-j)):=Nz λ_ _ _ _ _ _ _ q=>sub_int q
def Ky:lR X (binaryOp .FloorDiv) (rI G5 λi j=>.int (i/j)):=OA λi j _ _ _ _ _ d q=>by
 have e:(0:Int)<j:=d.1
 have f:j<1073741824:=d.2
 exact floordiv_int (by omega) (by rw[Int.fdiv_eq_ediv_of_nonneg i (by omega)];exact q)<|.inl (PyProof.noPylong_small (by omega))
def Mq:lR X (binaryOp .Mod) (rI (λ_ j=>0<j) λi j=>.int (i%j)):=OA λi j _ _ _ _ _ d q=>by
 have e:(0:Int)<j:=d
 exact mod_int' (by omega) (by rw[Int.fmod_eq_emod_of_nonneg i (by omega)];exact q)
def Mk:lR X (binaryOp .Pow) (rI IA λi j=>.int (i^j.toNat)):=OA λ_ _ _ _ _ _ _ d q=>pow_int_small d.1 d.2.1 d.2.2 q
def QZ{g:Int->Int}
  (d:∀(i:Int) (t:Tok) (s:Shared) (Q:Value->Shared->Prop) (E:Value->Shared->Prop),Q (.int (g i) s.toks) {s with toks:=s.toks+1}->wpAny (model X.prog X.w) X.A (f<|.int i t) Q E s):
  P1 X f (rU λi=>.int (g i)):=by
 intro e s k H x v Q I j h
 obtain⟨i,rfl,q⟩:=h
 obtain⟨t,rfl⟩:=j
 exact d i t s _ _ ⟨.int (g i),H,I.tok _,⟨_,rfl⟩,q⟩
def LK:P1 X (unaryOp .USub) (rU λi=>.int (-i)):=QZ λ_ _ _ _ _ q=>neg_int q
end
def C6:V->V->Bool
 |.non,.non=>true|.non,.int _=>true|.int _,.non=>true|.non,.bl _=>true|.bl _,.non=>true|.non,.str _=>true|.str _,.non=>true
 |.int _,.int _=>true|.bl _,.bl _=>true|.str _,.str _=>true|.byt _,.byt _=>true
 |.int _,.str _=>true|.str _,.int _=>true|.bl _,.str _=>true|.str _,.bl _=>true
 |_,_=>false
def Qn:R2:=λx y H Q=>C6 x y=true/\Q (.bl (decide (x=y))) H
def Qm:R2:=λx y H Q=>C6 x y=true/\Q (.bl (!decide (x=y))) H
def Fb:decide (V.int i=V.int j)=(i==j):=by
 rw[Bool.eq_iff_iff]
 simp
def GK:decide (V.bl i=V.bl j)=(i==j):=by
 rw[Bool.eq_iff_iff]
 simp
def E4:decide (V.str i=V.str j)=(i==j):=by
 rw[Bool.eq_iff_iff]
 simp
def EO:decide (V.byt i=V.byt j)=(i.toList==j.toList):=by
 rw[Bool.eq_iff_iff]
 cases i
 cases j
 simp
section
variable{X:Cx}{a b c:Expr}{ta tb tc:TE}{pos:Pos}
def cj{Q:VK}(I:Inv X d f H s)(q:Q (.bl k) H)(e:k=g):EP X d f Q (.bool g) s:=by
 subst e
 exact⟨.bl k,H,I,rfl,q⟩
def Om:lR X (compareOp .Eq) Qn:=by
 intro k s l H x y v u Q I g d h
 obtain⟨f,q⟩:=h
 cases x with
 | non=>
   cases g
   cases y with
   |non=>cases d;exact PySem.EqNone.eq_none_none (cj I q (by simp))
   |bl j=>cases d;exact PySem.EqNone.eq_none_bool (cj I q (by simp))
   |int j=>obtain⟨e,rfl⟩:=d;exact PySem.EqNone.eq_none_int (cj I q (by simp))
   |str j=>obtain⟨e,rfl⟩:=d;exact PySem.EqNone.eq_none_str (cj I q (by simp))
   |_=>exact absurd (show false=true from f) Qtq
 | bl i=>
   cases g
   cases y with
   |non=>cases d;exact PySem.EqNone.eq_bool_none (cj I q (by simp))
   |bl j=>cases d;exact eq_bool (cj I q GK)
   |str j=>obtain⟨e,rfl⟩:=d;exact PySem.EqMixed.eq_bool_str (cj I q (by simp))
   |_=>exact absurd (show false=true from f) Qtq
 | int i=>
   obtain⟨t,rfl⟩:=g
   cases y with
   |non=>cases d;exact PySem.EqNone.eq_int_none (cj I q (by simp))
   |int j=>obtain⟨e,rfl⟩:=d;exact eq_int (cj I q Fb)
   |str j=>obtain⟨e,rfl⟩:=d;exact PySem.EqMixed.eq_int_str (cj I q (by simp))
   |_=>exact absurd (show false=true from f) Qtq
 | str i=>
   obtain⟨t,rfl⟩:=g
   cases y with
   |non=>cases d;exact PySem.EqNone.eq_str_none (cj I q (by simp))
   |bl j=>cases d;exact PySem.EqMixed.eq_str_bool (cj I q (by simp))
   |int j=>obtain⟨e,rfl⟩:=d;exact PySem.EqMixed.eq_str_int (cj I q (by simp))
   |str j=>obtain⟨e,rfl⟩:=d;exact eq_str (cj I q E4)
   |_=>exact absurd (show false=true from f) Qtq
 | byt i=>
   obtain⟨t,rfl⟩:=g
   cases y with
   |byt j=>obtain⟨e,rfl⟩:=d;exact PySem.W.eq_bytes (cj I q EO)
   |_=>exact absurd (show false=true from f) Qtq
 |_=>cases y <;>exact absurd (show false=true from f) Qtq
def QR:lR X (compareOp .NotEq) Qm:=by
 intro k s l H x y v u Q I g d h
 obtain⟨f,q⟩:=h
 cases x with
 | non=>
   cases g
   cases y with
   |non=>cases d;exact PySem.EqNone.ne_none_none (cj I q (by simp))
   |bl j=>cases d;exact PySem.EqNone.ne_none_bool (cj I q (by simp))
   |int j=>obtain⟨e,rfl⟩:=d;exact PySem.EqNone.ne_none_int (cj I q (by simp))
   |str j=>obtain⟨e,rfl⟩:=d;exact PySem.EqNone.ne_none_str (cj I q (by simp))
   |_=>exact absurd (show false=true from f) Qtq
 | bl i=>
   cases g
   cases y with
   |non=>cases d;exact PySem.EqNone.ne_bool_none (cj I q (by simp))
   |bl j=>cases d;exact ne_bool (cj I q<|congrArg not GK)
   |str j=>obtain⟨e,rfl⟩:=d;exact PySem.EqMixed.ne_bool_str (cj I q (by simp))
   |_=>exact absurd (show false=true from f) Qtq
 | int i=>
   obtain⟨t,rfl⟩:=g
   cases y with
   |non=>cases d;exact PySem.EqNone.ne_int_none (cj I q (by simp))
   |int j=>obtain⟨e,rfl⟩:=d;exact ne_int (cj I q<|congrArg not Fb)
   |str j=>obtain⟨e,rfl⟩:=d;exact PySem.EqMixed.ne_int_str (cj I q (by simp))
   |_=>exact absurd (show false=true from f) Qtq
 | str i=>
   obtain⟨t,rfl⟩:=g
   cases y with
   |non=>cases d;exact PySem.EqNone.ne_str_none (cj I q (by simp))
   |bl j=>cases d;exact PySem.EqMixed.ne_str_bool (cj I q (by simp))
   |int j=>obtain⟨e,rfl⟩:=d;exact PySem.EqMixed.ne_str_int (cj I q (by simp))
   |str j=>obtain⟨e,rfl⟩:=d;exact ne_str (cj I q<|congrArg not E4)
   |_=>exact absurd (show false=true from f) Qtq
 | byt i=>
   obtain⟨t,rfl⟩:=g
   cases y with
   |byt j=>obtain⟨e,rfl⟩:=d;exact PySem.W.ne_bytes (cj I q<|congrArg not EO)
   |_=>exact absurd (show false=true from f) Qtq
 |_=>cases y <;>exact absurd (show false=true from f) Qtq
def Qw:lR X (compareOp .Lt) (Fi λi j=>.bl (decide (i<j))):=JR λ_ _ _ _ _ _ _ q=>lt_int q
def QM:lR X (compareOp .LtE) (Fi λi j=>.bl (decide (i<=j))):=JR λ_ _ _ _ _ _ _ q=>le_int q
def QK:lR X (compareOp .Gt) (Fi λi j=>.bl (decide (j<i))):=JR λ_ _ _ _ _ _ _ q=>gt_int q
def Qj:lR X (compareOp .GtE) (Fi λi j=>.bl (decide (j<=i))):=JR λ_ _ _ _ _ _ _ q=>ge_int q
def Pc:lR X (compareOp .Is) (λx y H Q=>y=.non/\Q (.bl (decide (x=.non))) H):=by
 intro d s g H x y v u Q I e f h
 obtain⟨rfl,q⟩:=h
 cases f
 refine is_none_gen<|cj I q ?_
 cases x <;>first
  |(cases e;rfl)
  |(obtain⟨t,rfl⟩:=e;rfl)
def OL:lR X (compareOp .IsNot) (λx y H Q=>y=.non/\Q (.bl (!decide (x=.non))) H):=by
 intro d s g H x y v u Q I e f h
 obtain⟨rfl,q⟩:=h
 cases f
 refine isnot_none_gen<|cj I q ?_
 cases x <;>first
  |(cases e;rfl)
  |(obtain⟨t,rfl⟩:=e;rfl)
def lR.or(h:lR X f r)(h':lR X f r'):lR X f (λx y H Q=>r x y H Q\/r' x y H Q):=by
 intro d s e H x y v u Q I i g q
 rcases q with q|q
 ·exact h d s e H x y v u Q I i g q
 ·exact h' d s e H x y v u Q I i g q
def Hi(b:Expr){d:CmpOp}(h:d≠.In:=by decide)(f:d≠.NotIn:=by decide):behindInMarks d b=false:=by
 have g:(d==CmpOp.In)=false:=by cases d <;>first|rfl|exact absurd rfl h
 have e:(d==CmpOp.NotIn)=false:=by cases d <;>first|rfl|exact absurd rfl f
 cases b <;>simp[behindInMarks,g,e]
def EE{e:CmpOp}{r:R2}(k:lR X (compareOp e) r)(o:PE X a ta)(n:PE X b tb)(g:behindInMarks e b=false):PE X (.Compare a [e] [b] pos) (JP r ta tb):=by
 intro d s l H Q I h
 exact wpAny_Compare1 (Ls o n I h λv u i x y H2 f j m q=>k d i l H2 x y v u Q f j m q) g
def HY(t:TE):TT:=λd H Q=>t d H λx e=>∃k,x=.bl k/\Q k e
def uS(p:lR X (compareOp g) r)(C:PE X a ta)(A:PE X b tb)(l:behindInMarks g b=false):PT X (.Compare a [g] [b] pos) (HY<|JP r ta tb):=by
 intro d s f H Q I h
 refine wpAny_isTrue_Compare1 (c_ (C d s f H _ I h) λv n ⟨x,H1,o,q,w⟩=>c_ (A d n f H1 _ o w) λu m ⟨y,H2,i,j,t⟩=>
  c_ (p d m f H2 x y v u _ i q j t) λc J ⟨z,H3,B,F,k,e,G⟩=> ?_) l
 subst e
 cases F
 exact wpAny_truthy_bool ⟨H3,B,G⟩
def LY(K:PySem.W.Frag)(x:V)(H:Hp)(k:Bool):Prop:=
 match x with
 |.non=>k=false
 |.bl b=>k=b
 |.int i=>k=(i !=0)
 |.str y=>y.length<=sizeLine/\k=((y.length:Int) !=0)
 |.byt y=>y.size<=sizeLine/\k=((y.size:Int) !=0)
 |.ref p=>(∃d,je K H p d/\k= !d.isEmpty)\/(∃d,jo K H p d/\k= !d.isEmpty)\/∃e,H p=some (.dK e)/\k= !e.isEmpty
 |_=>False
def DU{κ:Type}{d:List (κ×V)}{vs:List (κ×Value)}(r:KV d vs):(!vs.isEmpty)= !d.isEmpty:=by
 cases r <;>rfl
def vE{xs:List V}{d:List Value}(r:bI xs d):(!d.toArray.isEmpty)= !xs.isEmpty:=by
 cases r <;>simp
def mw:(sizeLine:Nat)<2^63:=by rw[sizeLine_eq];decide
def Lw:PC X (λx H Q=>∃k,LY X.K x H k/\Q k H):=by
 intro A s L H x v Q I l h
 obtain⟨k,e,q⟩:=h
 have G:=mw
 have J:sizeLine=16777216:=sizeLine_eq
 cases x with
 | non=>
   cases l
   have d:k=false:=e
   subst d
   exact truthy_none ⟨H,I,q⟩
 | bl b=>
   cases l
   have d:k=b:=e
   subst d
   exact wpAny_truthy_bool ⟨H,I,q⟩
 | int i=>
   obtain⟨t,rfl⟩:=l
   have d:k=(i !=0):=e
   subst d
   exact PySem.P.truthy_int ⟨H,I,q⟩
 | str y=>
   obtain⟨t,rfl⟩:=l
   obtain⟨F,d⟩:y.length<=sizeLine/\k=((y.length:Int) !=0):=e
   subst d
   exact PySem.P.truthy_str (by omega) ⟨H,I.tok _,q⟩
 | byt y=>
   obtain⟨t,rfl⟩:=l
   obtain⟨F,d⟩:y.size<=sizeLine/\k=((y.size:Int) !=0):=e
   subst d
   exact PySem.W.truthy_bytes (by omega) ⟨H,I.tok _,q⟩
 | ref p=>
   cases l
   have d:(∃j,je X.K H p j/\k= !j.isEmpty)\/(∃j,jo X.K H p j/\k= !j.isEmpty)\/∃f,H p=some (.dK f)/\k= !f.isEmpty:=e
   rcases d with⟨j,n,d⟩|⟨j,n,d⟩|⟨f,n,d⟩
   · subst d
     obtain⟨z,r,u,B⟩:=I.list n
     have g:=r.length
     exact wpAny_truthy_list u.isList (by simp only[Qjq];omega) ⟨H,I.tok _,by rw[vE r];exact q⟩
   · subst d
     obtain⟨z,r,u,B⟩:=I.tuple n
     have g:=r.length
     exact truthy_tuple u (by simp only[Qjq];omega) ⟨H,I.tok _,by rw[vE r];exact q⟩
   · subst d
     obtain⟨B,C,o,r,m⟩:f.length<=sizeLine/\(p==sysModules)=false/\∃o,KV f o/\s.heap.DictOf (cc X.prog X.w) p o:=I.hok p _ n
     have g:f.length=o.length:=Paired.length r
     exact wpAny_truthy_dict C m (by omega) ⟨H,I.tok _,by rw[DU r];exact q⟩
 |_=>exact(show False from e).elim
def GW(n:PE X a ta)(he:∀d,isTrue a X.env d=(do let v←d;standAt a.pos;holding [v] (truthy v))):
  PT X a (λf H Q=>ta f H λx g=>∃k,LY X.K x g k/\Q k g):=by
 intro e s f H Q I h
 exact isTrue_plain (c_ (n e s f H _ I h) λv i ⟨x,H1,j,l,m⟩=>Lw e i f H1 x v Q j l m)<|he _
def CH:lR X (binaryOp .Add) (λx y H Q=>∃i j,x=.str i/\y=.str j/\i.length+j.length<=sizeLine/\Q (.str (i++j)) H):=by
 intro d s k H x y v u Q I g e h
 obtain⟨i,j,rfl,rfl,hz,q⟩:=h
 obtain⟨t,rfl⟩:=g
 obtain⟨f,rfl⟩:=e
 exact add_str (λf l=>⟨.str (i++j),H,I.tok _,⟨_,rfl⟩,q⟩) hz
def vals1(r:bI [x] d):∃u,d= [u]/\RelV x u:=by
 cases r with
 |cons e f=>cases f;exact⟨_,rfl,e⟩
def vals2(r:bI [x,y] d):∃u e,d= [u,e]/\RelV x u/\RelV y e:=by
 cases r with
 | cons f g=>
   cases g with
   |cons h i=>cases i;exact⟨_,_,rfl,f,h⟩
def Nk:kd X (.builtin "abs") (λxs H Q=>∃i,xs= [.int i]/\Q (.int (if i<0 then -i else i)) H):=by
 intro d s e H xs f Q I r h
 obtain⟨i,rfl,q⟩:=h
 obtain⟨u,rfl,t,rfl⟩:=vals1 r
 exact call_abs_int λu g=>⟨.int (if i<0 then -i else i),H,I.tok _,⟨_,rfl⟩,q⟩
def MH(f:X.calm=true):kd X (.builtin "max") (λxs H Q=>∃i j,xs= [.int i,.int j]/\Q (.int (if j>i then j else i)) H):=by
 intro e s n H xs m Q I r h
 obtain⟨i,j,rfl,q⟩:=h
 obtain⟨u,o,rfl,⟨t,rfl⟩,⟨t',rfl⟩⟩:=vals2 r
 refine max_two_ints (I.ok.hd f) λg l k=>⟨_,H,I.kept k,?_,q⟩
 by_cases d:j>i
 ·rw[Qhq d,Qhq d];exact⟨_,rfl⟩
 ·rw[Quq d,Quq d];exact⟨_,rfl⟩
def MM(f:X.calm=true):kd X (.builtin "min") (λxs H Q=>∃i j,xs= [.int i,.int j]/\Q (.int (if j<i then j else i)) H):=by
 intro e s n H xs m Q I r h
 obtain⟨i,j,rfl,q⟩:=h
 obtain⟨u,o,rfl,⟨t,rfl⟩,⟨t',rfl⟩⟩:=vals2 r
 refine min_two_ints (I.ok.hd f) λg l k=>⟨_,H,I.kept k,?_,q⟩
 by_cases d:j<i
 ·rw[Qhq d,Qhq d];exact⟨_,rfl⟩
 ·rw[Quq d,Quq d];exact⟨_,rfl⟩
def MG:kd X (.type "int") (λxs H Q=>(∃i,xs= [.int i]/\Q (.int i) H)\/∃k,xs= [.bl k]/\Q (.int (if k then 1 else 0)) H):=by
 intro d s e H xs f Q I r h
 rcases h with⟨i,rfl,q⟩|⟨k,rfl,q⟩
 ·obtain⟨u,rfl,t,rfl⟩:=vals1 r
  exact call_int_int ⟨.int i,H,I,⟨_,rfl⟩,q⟩
 ·obtain⟨u,rfl,r1⟩:=vals1 r
  cases r1
  exact call_int_bool ⟨.int (if k then 1 else 0),H,I.tok _,⟨_,rfl⟩,q⟩
end
structure L9(h:Heap)(x dx C:Addr)(mA:Str->Option Value):Prop where
 obj:h.get? x=some (PySem.W.instObj C dx)
 ns:h.Ns1 dx mA
 ne:dx≠x
def FH{h:Heap}(n:h.Ns1 d g):∃f,h.get? d=some f/\∀name,PySem.W.lookIn name f=some (g name):=by
 obtain⟨o,c,r,k,m,j,_,i⟩:=n
 refine⟨o,k,λname=> ?_⟩
 have e:=i name
 unfold nsFind findBy at e
 rw[←Array.find?_toList] at e
 unfold PySem.W.lookIn
 rw[m]
 dsimp only
 split
 ·rename_i y q
  rw[q] at e
  exact congrArg some e
 ·rename_i q
  rw[q] at e
  have a:c.toList.any (·.refKey)=false:=by
   rw[List.any_eq_false]
   intro y p
   obtain⟨z,t,b⟩:=j y (Array.mem_toList_iff.mp p)
   simp[DictEntry.refKey,b]
  have l:¬c.toList.any (·.refKey)=true:=by rw[a];exact Qtq
  rw[Quq l]
  exact congrArg some e
def L9.look(I:L9 h x b C c):∃a,PySem.W.InstAt h x (PySem.W.instObj C b) C (some a)/\∀name,PySem.W.lookIn name a=some (c name):=
 let ⟨a,ho,hl⟩:=FH I.ns
 ⟨a,⟨I.obj,rfl,rfl,ho⟩,hl⟩
def vJ.some_of(r:vJ (some v) o):∃u,o=some u/\RelV v u:=by
 cases o with
 |none=>exact(show False from r).elim
 |some u=>exact⟨u,rfl,r⟩
section
variable{P:Program}{w:World}{H H':Hp}{h h':Heap}{a C dx:Addr}{fs fs':List (Str×V)}
def Kl(c:p0 P w H h)(e:H a=some (.ins C dx fs)):∃b,L9 h a dx C b/\(∀f,vJ (fs.lookup f)<|b f)/\PySem.Within b (fs.map (·.1))/\fs.length<=1000/\H dx=some (.own a):=by
 obtain⟨d,z,i,g,b,n,r,q⟩:=(show dr P w H h a (.ins C dx fs) from c a _ e)
 exact⟨b,⟨g,n,i⟩,r,q,z,d⟩
end
structure Pw(K:PySem.W.Frag)(C:Addr):Prop where
 pg:PySem.W.plainGet K C Str.empty=true
 hd:PySem.W.hasDictIn K C=true
 po:PySem.W.plainOver K C=true
 sa:PySem.W.findIn K (.ref C) "__setattr__"=some (some<|.builtin "object.__setattr__")
def Pw.get{K:PySem.W.Frag}{C:Addr}(c:Pw K C)(f:Str):PySem.W.plainGet K C f=true:=c.pg
section
variable{X:Cx}{pins:List (Addr×Obj)}{σ:St}{H:Hp}{s:Shared}{A:Around}{E:Value->Shared->Prop}{Q:Value->Shared->Prop}{c:Value}{b:Bool}
inductive sh(K:PySem.W.Frag)(H:Hp):V->Value->Prop where
 |non:sh K H .non (.type "NoneType")
 |bl (x:Bool):sh K H (.bl x) (.type "bool")
 |int (i:Int):sh K H (.int i) (.type "int")
 |str (x:Str):sh K H (.str x) (.type "str")
 |flt (x:UInt64):sh K H (.flt x) (.type "float")
 |lst {a:Addr} {xs:List V} (e:H a=some (.lst xs)):sh K H (.ref a) (.type "list")
 |frz {a:Addr} {o:Obj} {xs:List V} (e:H a=some (.frz o (.lst xs))):sh K H (.ref a) (.type "list")
 |tup {a:Addr} {xs:List V} (e:H a=some (.tup xs)):sh K H (.ref a) (.type "tuple")
 |dK {a:Addr} {kvs:List (Key×V)} (e:H a=some (.dK kvs)):sh K H (.ref a) (.type "dict")
 |dT {a:Addr} {kvs:List (List Key×V)} (e:H a=some (.dT kvs)):sh K H (.ref a) (.type "dict")
 |ins {a C dx:Addr} {fs:List (Str×V)} (e:H a=some (.ins C dx fs)) (cl:Pw K C) (ha:PySem.W.findIn K (.ref C) "__class__"=some (some<|.builtin "object.__class__"))
   (hn:PySem.W.specialIn K (.builtin "object.__class__") "__get__"=some (some<|.builtin "getset_descriptor.__get__")) (htk:PySem.W.takesIn K (.builtin "object.__class__")=some true)
   (hm:PySem.W.mroIn K C (.type "object")=some true):sh K H (.ref a) (.ref C)
def F2(I:Inv X pins σ H s)(d:RelV x u)(r:sh X.K H x t)(e:PySem.W.kitOne X.K t c=some b)(h:∀l,Q (.bool b) {s with toks:=l}):
  wpAny (model X.prog X.w) A (call (.builtin "isinstance") [u,c]) Q E s:=by
 cases r with
 |non=>cases (show u=Value.none from d);exact PySem.W.kia_one PySem.W.kitx_none I.kIn True.intro e (λz=>nomatch z) h
 |bl y=>cases (show u=Value.bool y from d);exact PySem.W.kia_one PySem.W.kitx_bool I.kIn True.intro e (λz=>nomatch z) h
 |int i=>obtain⟨t,q⟩:=(show∃t,u=Value.int i t from d);cases q;exact PySem.W.kia_one PySem.W.kitx_int I.kIn True.intro e (λz=>nomatch z) h
 |str y=>obtain⟨t,q⟩:=(show∃t,u=Value.str y t from d);cases q;exact PySem.W.kia_one PySem.W.kitx_str I.kIn True.intro e (λz=>nomatch z) h
 |flt y=>obtain⟨t,q⟩:=(show∃t,u=Value.float y t from d);cases q;exact PySem.W.kia_one PySem.W.kitx_float I.kIn True.intro e (λz=>nomatch z) h
 | @lst a g ea=>
   cases (show u=Value.ref a from d)
   obtain⟨_,_,n,_,f⟩:=(show dr X.prog X.w H s.heap a (.lst g) from I.hok a _ ea)
   exact PySem.W.kia_one PySem.W.kitx_list I.kIn ⟨_,f,rfl⟩ e (λz=>nomatch z) h
 | @frz a ob g ea=>
   cases (show u=Value.ref a from d)
   obtain⟨_,_,_,n,_,f⟩:=(show dr X.prog X.w H s.heap a (.frz ob (.lst g)) from I.hok a _ ea)
   exact PySem.W.kia_one PySem.W.kitx_list I.kIn ⟨_,f,rfl⟩ e (λz=>nomatch z) h
 | @tup a g ea=>
   cases (show u=Value.ref a from d)
   obtain⟨_,_,_,p⟩:=(show dr X.prog X.w H s.heap a (.tup g) from I.hok a _ ea)
   obtain⟨o,f,j,_⟩:=p
   exact PySem.W.kia_one PySem.W.kitx_tuple I.kIn ⟨o,f,j⟩ e (λz=>nomatch z) h
 | @dK a kvs ea=>
   cases (show u=Value.ref a from d)
   obtain⟨_,_,v,_,p⟩:=(show dr X.prog X.w H s.heap a (.dK kvs) from I.hok a _ ea)
   obtain⟨o,k,m,f,j,_⟩:=p
   exact PySem.W.kia_one PySem.W.kitx_dict I.kIn ⟨o,f,j.1⟩ e (λz=>nomatch z) h
 | @dT a kvs ea=>
   cases (show u=Value.ref a from d)
   obtain⟨_,_,g,_,o,k,m,f,j,_⟩:=(show dr X.prog X.w H s.heap a (.dT kvs) from I.hok a _ ea)
   exact PySem.W.kia_one PySem.W.kitx_dict I.kIn ⟨o,f,j.1⟩ e (λz=>nomatch z) h
 | @ins a C dx fs ea cl ha hn htk hm=>
   cases (show u=Value.ref a from d)
   obtain⟨F,O,_⟩:=Kl I.hok ea
   obtain⟨B,J,_⟩:=O.look
   exact PySem.W.kia_one (PySem.W.kitx_own (cl.get _) cl.hd ha hn htk hm) I.kIn J e (λz=>nomatch z) h
end
structure fZ(k:Nat)(A:Around):Prop where
 hd:A.handled=none
 dp:A.depth+3*k+5<recursionLimit
 un:A.units+16*k+200<cLine
def fZ.mono(r:fZ k A)(h:j<=k):fZ j A:=⟨r.hd,by have:=r.dp;omega,by have:=r.un;omega⟩
def fZ.deeper(r:fZ (k+1) A)(env:Env):fZ k (A.deeper env):=
 ⟨r.hd,by have:=r.dp;show A.depth+1+3*k+5<_;omega,by have:=r.un;show A.units+3+16*k+200<_;omega⟩
def fZ.depth(r:fZ k A):A.depth<recursionLimit:=by have:=r.dp;omega
def fZ.units(r:fZ k A):A.units+64<cLine:=by have:=r.un;omega
def fZ.units0(r:fZ k A):A.units<cLine:=by have:=r.un;omega
def Mf:TA:=λ_ H Q=>Q [] H
def HA(c:TE)(tr:TA):TA:=λa H Q=>c a H λx H1=>tr a H1 λb H2=>Q (x::b) H2
section
variable{X:Cx}{e:Expr}{es:List Expr}{te:TE}{t:TA}{pos:Pos}
def iu:PA X [] Mf:=λ_ _ _ _ H Q I h=>Calls.spliced_nil ⟨[],H,I,.nil,h⟩
def eF(o:PE X e te)(i:PA X es t)(hs:starEach (e::es) X.env=(false,eval e X.env)::starEach es X.env:=by rfl):PA X (e::es) (HA te t):=by
 intro pos a s b H Q I h
 rw[hs]
 show wpAny _ _ (spliced ((false,eval e X.env)::backTo pos (starEach es X.env))) _ _ s
 refine Calls.spliced_cons (c_ (o a s b H _ I h) λu g n=> ?_)
 obtain⟨x,H1,j,k,m⟩:=n
 exact c_ (i pos a g b H1 _ j m) λq p ⟨f,H2,c,d,l⟩=>⟨x::f,H2,c,.cons k d,l⟩
def PR(t:TA):TE:=λb H Q=>t b H λa H1=>a.length<=sizeLine/\∀p,H1 p=none->Q (.ref p) (upd H1 p<|.tup a)
def PX(t:TA):TE:=λb H Q=>t b H λa H1=>a.length<=sizeLine/\∀p,H1 p=none->Q (.ref p) (upd H1 p<|.lst a)
def Le{x1}(h:PA X es t):PE X (.Tuple es x1 pos) (PR t):=by
 intro a s j H Q I k
 refine wpAny_Tuple_spliced (c_ (h pos a s j H _ I k) λg c ⟨f,H1,d,r,z,q⟩=>⟨by rw[←r.length];exact z,?_⟩)
 have i:H1 c.heap.objs.size=none:=d.hok.fresh (Qmq _)
 refine⟨.ref c.heap.objs.size,upd H1 c.heap.objs.size<|.tup f,d.laid (t':=c.toks) (λb u e=>Qcq _ e) (Qmq _) ?_,rfl,q _ i⟩
 exact⟨z,g,r,⟨_,Qrq _ rfl,rfl,rfl,_,rfl⟩⟩
def Mi(h:PA X es t):PE X (.List es pos) (PX t):=by
 intro a s j H Q I k
 refine wpAny_List_spliced (c_ (h pos a s j H _ I k) λg c ⟨f,H1,d,r,z,q⟩=>⟨by rw[←r.length];exact z,?_⟩)
 have i:H1 c.heap.objs.size=none:=d.hok.fresh (Qmq _)
 refine⟨.ref c.heap.objs.size,upd H1 c.heap.objs.size<|.lst f,d.laid (t':=c.toks) (λb u e=>Qcq _ e) (Qmq _) ?_,rfl,q _ i⟩
 exact⟨z,g,0,r,Qrq _ rfl⟩
end
abbrev Sp:=List V->Hp->VK->XK->Prop
abbrev GC:=List Env->Hp->Shared->XK->Value->Shared->Prop
structure JQ(P:Program)(w:World)(K:PySem.W.Frag)(mg:Str->Option Value)(base:Heap)(A:Around)(outer:List Env)(s:Shared)(H:Hp):Prop where
 frames:A.frames=some outer
 mod:Mod K mg base
 bs:∀b o,base.get? b=some o->s.heap.get? b=some o/\H b=none
 bsz:base.objs.size<=s.heap.objs.size
 funs:s.heap.FunFrames base outer
 frf:∀b∈Hd outer,H b=none
 hok:p0 P w H s.heap
 bare:AllBare s.gens
def CE(outer:List Env)(P:Program)(w:World)(H:Hp)(s:Shared)(Q:VK)(u:Value)(a:Shared):Prop:=
 ∃v b,a.os=s.os/\AllBare a.gens/\Un (Hd outer) [] H b s.heap a.heap/\p0 P w b a.heap/\RelV v u/\Q v b
def CR(CX:GC)(outer:List Env)(P:Program)(w:World)(H:Hp)(s:Shared)(Q:VK)(E:XK)(r:Result)(a:Shared):Prop:=
 match r with
 |.ok (.ret u)=>CE outer P w H s Q u a
 |.ok _=>False
 |.error e=>CX outer H s E e a
structure bh(P:Program)(w:World)(K:PySem.W.Frag)(mg:Str->Option Value)(base:Heap)(CX:GC)(k:Nat)(f:Addr)(fd:FuncData)(ps:List Str)(sp:Sp):Prop where
 len:∀vs H Q E,sp vs H Q E->vs.length=ps.length
 run:∀(A:Around) (outer:List Env) (s:Shared) (H:Hp) (args:Args) (us:List Value) (vs:List V) (Q:VK) (E:XK),fZ k A->JQ P w K mg base A outer s H->BindsTo s fd args (ps.zip us)->bI vs us->sp vs H Q E→
  codeAny (model P w) A (.call (.ref f) args) (CR CX outer P w H s Q E) s
def bh.mono{P:Program}{w:World}{K:PySem.W.Frag}{mg:Str->Option Value}{base:Heap}{CX:GC}{j k:Nat}{f:Addr}{c:FuncData}{ps:List Str}{sp:Sp}(F:bh P w K mg base CX j f c ps sp)(h:j<=k):
  bh P w K mg base CX k f c ps sp:=⟨F.len,λA a s H b g d Q E e=>F.run A a s H b g d Q E<|e.mono h⟩
def bh.imp{P:Program}{w:World}{K:PySem.W.Frag}{mg:Str->Option Value}{base:Heap}{CX:GC}{k:Nat}{f:Addr}{d:FuncData}{ps:List Str}{sp b:Sp}(F:bh P w K mg base CX k f d ps sp)
  (h:∀vs H Q E,b vs H Q E->sp vs H Q E):bh P w K mg base CX k f d ps b:=
 ⟨λvs H Q E q=>F.len vs H Q E<|h _ _ _ _ q,λA a s H c g vs Q E e l m j i=>F.run A a s H c g vs Q E e l m j<|h _ _ _ _ i⟩
section
variable{X:Cx}{pins:List (Addr×Obj)}{σ:St}{H:Hp}{s s':Shared}
def Inv.env0(I:Inv X pins σ H s):JQ X.prog X.w X.K X.mg X.base X.A X.stack s H:=
 ⟨I.ok.frames,I.ok.mod,I.bs,QAq I.ok.bsz I.sz,I.stack,I.stkFree,I.hok,I.bare⟩
def Inv.after(I:Inv X pins σ H s)(h:CE X.stack X.prog X.w H s Q u s'):EP X pins σ Q u s':=by
 obtain⟨v,i,f,a,j,c,r,q⟩:=h
 obtain⟨k,g,d,t,e⟩:=s'
 obtain rfl:e=s.os:=f
 exact⟨v,i,I.call (h':=k) (g':=g) (d':=d) (t':=t) (ch:= []) j c a (λb z=>absurd z (by simp)),r,q⟩
end
def Hf(sp:Sp)(a:List V)(E:XK)(t:TA):TE:=λb H Q=>t b H λc H1=>sp (c++a) H1 Q E
def Binds(K:PySem.W.Frag)(b:FuncData)(ps:List Str)(ds:List Value):Prop:=
 ∀(s:Shared) (a:List Value),K.In s.heap->(a++ds).length=ps.length->BindsTo s b ⟨a,[]⟩ (ps.zip (a++ds))
def Binds.all{K:PySem.W.Frag}{c:FuncData}{ps:List Str}(h:∀a:List Value,a.length=ps.length->bindArgs c ⟨a,[]⟩=pure (ps.zip a)):Binds K c ps []:=λs a _ b=>by
 rw[List.append_nil] at b⊢
 exact .of_eq (h a b)
def DE(CX:GC)(X:Cx)(E:XK):Prop:=∀(a:List (Addr×Obj)) (c:St) (H:Hp) (s:Shared) (e:Value) (b:Shared),Inv X a c H s->CX X.stack H s E e b->X.xe e b
section
variable{X:Cx}{CX:GC}{k:Nat}{f C:Addr}{fd:FuncData}{ps:List Str}{sp:Sp}{dvs:List V}{ds:List Value}{E:XK}{x m:Str}{p pos apos:Pos}{e o:Expr}{es:List Expr}{ta:TE}{t:TA}
def GJ(F:bh X.prog X.w X.K X.mg X.base CX k f fd ps sp)(i:fZ k X.A)(l:Binds X.K fd ps ds)(hd:bI dvs ds)(q:DE CX X E)
  (I:Inv X a d H s) (r:bI vs b) (h:sp (vs++dvs) H Q E):wpAny (model X.prog X.w) X.A (call (.ref f) b) (EP X a d Q) X.xe s:=by
 have g:bI (vs++dvs) (b++ds):=r.append hd
 have j:(b++ds).length=ps.length:=by rw[←g.length];exact F.len _ _ _ _ h
 refine wpAny_call (codeAny_mono (F.run X.A X.stack s H ⟨b,[]⟩ (b++ds) (vs++dvs) Q E i I.env0 (l s b I.kIn j) g h) λr v c=> ?_)
 cases r with
 |error e=>exact q a d H s e v I c
 | ok n=>
   cases n with
   |ret u=>exact I.after c
   |next=>exact False.elim c
   |brk=>exact False.elim c
   |cont=>exact False.elim c
def E_(F:bh X.prog X.w X.K X.mg X.base CX k f fd ps sp)(g:fZ k X.A)(i:Gl X x)(d:X.mg x=some (.ref f))(j:PySem.W.keepIn X.K (.ref f)=true)(n:Binds X.K fd ps ds)(hd:bI dvs ds)(u:DE CX X E)
  (v:PA X (e::es) t) (b:(x==("__debug__":Str))=false:=by decide) (he:starEach (e::es) X.env=(false,eval e X.env)::starEach es X.env:=by rfl) (hpl:(backTo pos<|starEach es X.env).any (·.1)=false:=by rfl):
  PE X (.Call (.Name x p) (e::es) [] pos) (Hf sp dvs E t):=by
 intro a s l H Q I h
 refine wpAny_Call_Name_kw<|zY I i d ?_ b
 refine PySem.W.callWith_K (h₀:=X.base) I.ok.mod.kin j (c_ (v pos a s l H _ I h) λB y ⟨z,H1,c,r,q⟩=>⟨c.kIn,?_⟩) he hpl
 exact GJ F g n hd u c r q
end
structure aF(N P:List Str)(sc:Scope):Prop where
 kind:sc.kind=.function
 co:sc.isCoroutine=false
 gen:sc.isGenerator=false
 nd:N.Nodup
 pre:N.take P.length=P
 par:∀x∈P,sc.names.lookup x=some .local\/sc.names.lookup x=some .cell
 nofree:∀y∈sc.names,y.2≠.free
theorem yl:∀{a:List (Str×Value)} {m:Str->Option Value},(∀v,(x,v)∉a)->bindL b a m x=m x
 | [],_,_=>rfl
 | (n,v)::r,m,h=>by
   unfold bindL
   rw[yl λw c=>h w (Qpq _ c)]
   split
   · have:x≠n:=by rintro rfl;exact h v QBq
     simp[this]
   · rfl
theorem yo:∀{a:List (Str×Value)} {m:Str->Option Value},(∀v,(x,v)∉a)->bindC b a m x=m x
 | [],_,_=>rfl
 | (n,v)::r,m,h=>by
   unfold bindC
   rw[yo λw c=>h w (Qpq _ c)]
   split
   · rfl
   · have:x≠n:=by rintro rfl;exact h v QBq
     simp[this]
theorem ya{a:Str->Option NameKind}:∀{P:List Str} {vs:List Value} {i:Nat} {m:Str->Option Value},P.Nodup->P[i]?=some x->vs[i]?=some v->a x=some .local→
  bindL a (P.zip vs) m x=some v
 | [],_,_,_,_,h,_,_=>by simp at h
 |_::_,[],_,_,_,_,h,_=>by simp at h
 | p::P,w::vs,0,m,nd,h1,h2,hk=>by
   simp at h1 h2;subst h1;subst h2
   show bindL a ((p,w)::P.zip vs) m p=_
   unfold bindL
   rw[yl λv b=>(List.nodup_cons.mp nd).1 (QeQ b).1,Qhq hk]
   simp
 | p::P,w::vs,i+1,m,nd,h1,h2,hk=>by
   show bindL a ((p,w)::P.zip vs) m x=_
   unfold bindL
   exact ya (i:=i) (List.nodup_cons.mp nd).2 (by simpa using h1) (by simpa using h2) hk
theorem xF{a:Str->Option NameKind}:∀{P:List Str} {vs:List Value} {i:Nat} {m:Str->Option Value},P.Nodup->P[i]?=some x->vs[i]?=some v->a x≠some .local→
  bindC a (P.zip vs) m x=some v
 | [],_,_,_,_,h,_,_=>by simp at h
 |_::_,[],_,_,_,_,h,_=>by simp at h
 | p::P,w::vs,0,m,nd,h1,h2,hk=>by
   simp at h1 h2;subst h1;subst h2
   show bindC a ((p,w)::P.zip vs) m p=_
   unfold bindC
   rw[yo λv b=>(List.nodup_cons.mp nd).1 (QeQ b).1,Quq hk]
   simp
 | p::P,w::vs,i+1,m,nd,h1,h2,hk=>by
   show bindC a ((p,w)::P.zip vs) m x=_
   unfold bindC
   exact xF (i:=i) (List.nodup_cons.mp nd).2 (by simpa using h1) (by simpa using h2) hk
def start(N:List Str)(vs:List V):St:=vs.map some++List.replicate (N.length-vs.length) none
def Bp(CX:GC)(P:Program)(w:World)(K:PySem.W.Frag)(mg:Str->Option Value)(base:Heap)(N:List Str)(b:Str)(a:Scope)(f:Addr)(d:Value)(A:Around)(outer:List Env)(s:Shared)(H:Hp)(E:XK):Cx where
 prog:=P
 w:=w
 K:=K
 mg:=mg
 base:=base
 A:=A.deeper (envOfC b a s.heap.objs.size f d)
 N:=N
 s₀:=s
 H₀:=H
 env:=envOfC b a s.heap.objs.size f d
 outer:=outer
 stack:=envOfC b a s.heap.objs.size f d::outer
 ex:= []
 calm:=true
 fn:=λ_=>true
 pn:= []
 xe:=λe h=>wpAny (model P w) (A.deeper<|envOfC b a s.heap.objs.size f d) (leaving (envOfC b a s.heap.objs.size f d) e) (λ_ c=>CX outer H s E e c) (λg c=>CX outer H s E g c) h
def BL{sc:Scope}(h:sc.names.lookup x=some .cell):∃c,(cellsFrom n sc.names []).lookup x=some c:=by
 have q:=PySem.W.cellsFrom_some sc.names n [] (.inl h)
 exact Option.isSome_iff_exists.mp q
def FN{CX:GC}{P:Program}{w:World}{K:PySem.W.Frag}{mg:Str->Option Value}{base:Heap}{N ps:List Str}{g:Str}{d:Scope}{f:Addr}{G:Value}{A:Around}{outer:List Env}{s J:Shared}{H:Hp}{E:XK}{I:List Value}{vs:List V}
  (S:aF N ps d) (hd:A.handled=none) (l:JQ P w K mg base A outer s H) (Y:vs.length=ps.length) (r:bI vs I)
  (x:InCallC s s.heap.objs.size (bindL (envOfC g d s.heap.objs.size f G).kindOf (ps.zip I) λ_=>none) (cellsFrom (s.heap.objs.size+1) d.names []) (bindC (envOfC g d s.heap.objs.size f G).kindOf (ps.zip I) λ_=>none) J):
  Inv (Bp CX P w K mg base N g d f G A outer s H E) [] (start N vs) H J:=by
 have M:ps.length<=N.length:=by have:=congrArg List.length S.pre;rw[Qxq] at this;omega
 obtain⟨C,X,rfl,hk⟩:=x.done
 have m:∀b:Addr,b∉(Bp CX P w K mg base N g d f G A outer s H E).ex:=λb z=>absurd (show b∈([]:List Addr) from z) (by simp)
 refine⟨⟨l.mod,S.kind,rfl,rfl,Qmq _,λy z c C j=> ?_,λy o=> ?_,λy c _ h=> ?_,λ_=>hd,Around.frames_deeper l.frames,.inr ⟨rfl,rfl⟩,λb z=>absurd z (m b),l.bs,l.bsz,λb _ _=>m b,λb z=>absurd z (m b),l.funs,l.frf⟩,
  rfl,l.bare,Un.kept hk,⟨_,x.toInCall.ns,λi y v C j U=> ?_⟩,λy c h=>⟨_,x.cell y c h⟩,l.hok.fresh (Qmq _),λy c h=> ?_,λp t=>absurd (show p∈([]:List (Addr×Obj)) from t) (by simp),l.hok.kept hk,?_⟩
 ·exact name_of_addr x.apart (PySem.mem_of_lookup C)<|PySem.mem_of_lookup j
 ·have o:d.names.lookup y=some .cell\/d.names.lookup y=some .free:=o
  rcases o with o|o
  ·exact BL o
  ·exact absurd rfl<|S.nofree _<|PySem.mem_of_lookup o
 ·exact nQl<|x.above y c<|PySem.mem_of_lookup h
 ·have F:i<vs.length:=by
   unfold start at j
   by_cases F:i<vs.length
   ·exact F
   ·rw[QQq (by simpa using F)] at j
    rw[List.getElem?_replicate] at j
    split at j <;>cases j
  have R:vs[i]?=some v:=by
   unfold start at j
   rw[QHq (by simpa using F),gQm] at j
   cases e:vs[i]? with
   |none=>rw[e] at j;cases j
   |some a=>rw[e] at j;cases j;rfl
  obtain⟨u,L,Q⟩:=r.get R
  have t:ps[i]?=some y:=by
   rw[←S.pre,List.getElem?_take_of_lt (by omega)];exact C
  have B:ps.Nodup:=by rw[←S.pre];exact S.nd.sublist (List.take_sublist _ _)
  refine⟨u,Q,?_⟩
  rcases S.par y (mQg t) with k|k
  ·exact .inl ⟨k,ya B t L k⟩
  ·obtain⟨c,e⟩:=BL (n:=s.heap.objs.size+1) k
   refine .inr ⟨.inl k,c,e,?_⟩
   have q:=x.cell y c e
   rw[xF B t L (by show d.names.lookup y≠_;rw[k];decide)] at q
   exact q
 ·exact l.hok.fresh<|nQl<|x.above y c<|PySem.mem_of_lookup h
 ·unfold start
  show _=N.length
  rw[lQa,lQm,QIq]
  omega
def Nv{K:PySem.W.Frag}{dV kV F pm d ct oc:Value}
    {sp:Sp} (lk:K.lookup f=some ⟨oc,od,.func (PySem.W.fnOf name c g h a dV kV F pm an d ct),G⟩) (U:PySem.W.codeIn K d c=true) (S:aF N ps a)
  (len:∀vs H Q E,sp vs H Q E->vs.length=ps.length)
  (m:∀(A:Around) (outer:List Env) (s:Shared) (H:Hp) (vs:List V) (Q:VK) (E:XK),fZ k (A.deeper (envOfC c a s.heap.objs.size f d))->sp vs H Q E→
   ∃t,uA (Bp CX P w K mg base N c a f d A outer s H E) h t/\t {nx:=λ_ j=>Q .non j,rt:=Q} (start N vs) H):
  bh P w K mg base CX (k+1) f (PySem.W.fnOf name c g h a dV kV F pm an d ct) ps sp:=by
 refine⟨len,λA outer s H a0 us vs Q E L z hb r C=> ?_⟩
 have hl:=len _ _ _ _ C
 have Y:K.In s.heap:=z.mod.kin.keeps λb o e=>(z.bs b o e).1
 have X:s.heap.NoLimit:=z.mod.nolimit.keeps λb o e=>(z.bs b o e).1
 have l:∀y∈ps.zip us,a.names.lookup y.1=some .local\/(a.names.lookup y.1=some .cell/\((cellsFrom (s.heap.objs.size+1) a.names []).lookup y.1).isSome=true):=λ⟨n,v⟩ hy=>by
  rcases S.par n (QeQ hy).1 with q|q
  ·exact .inl q
  ·exact .inr ⟨q,PySem.W.cellsFrom_some _ _ _<|.inl q⟩
 refine codeAny_call_function L.depth (Y _ _ lk) rfl S.co S.gen rfl (PySem.W.codeRec_of Y U)<|hb _ _ _ _ ?_
 refine wpAny_newFunctionEnv_cells S.kind l λa1 he Z x=> ?_
 subst he
 refine⟨X.keeps x.toInCall.keep,codeAny_func ?_⟩
 obtain⟨t,ht,hq⟩:=m A outer s H vs Q E (L.deeper _) C
 have I:Inv (Bp CX P w K mg base N c a f d A outer s H E) [] (start N vs) H Z:=FN S L.hd z hl r x
 refine QRq (ht [] Z (start N vs) H _ I hq) (λfl R p=> ?_) λe R p=>p
 have B:∀{i:St} {j:Hp} {v:V} {u:Value},Inv (Bp CX P w K mg base N c a f d A outer s H E) [] i j R->RelV v u->Q v j->CE outer P w H s Q u R:=
  λ{i j v u} J M q=>⟨v,j,J.os,J.bare,J.base,J.hok,M,q⟩
 cases fl with
 | ret u=>
   obtain⟨v,i,j,J,M,q⟩:=p
   exact B J M q
 | next=>
   obtain⟨i,j,J,q⟩:=p
   exact B (v:=V.non) (u:=Value.none) J rfl q
 | brk=>
   obtain⟨_,_,_,q⟩:=p
   exact False.elim q
 | cont=>
   obtain⟨_,_,_,q⟩:=p
   exact False.elim q
section
variable{X:Cx}{x:Str}{p pos:Pos}{e:Expr}{es:List Expr}{t:TA}{id T:String}{r:List V->Hp->VK->Prop}
def OS(r:List V->Hp->VK->Prop)(t:TA):TE:=λa H Q=>t a H λb H1=>r b H1 Q
def jW(o:kd X (.builtin id) r)(i:Gl X x)(d:X.mg x=none)(q:bootBuiltins x=some (.builtin id))(u:PA X (e::es) t)(k:x≠"__name__":=by decide)(b:(x==("__debug__":Str))=false:=by decide)
  (he:starEach (e::es) X.env=(false,eval e X.env)::starEach es X.env:=by rfl) (hpl:(backTo pos<|starEach es X.env).any (·.1)=false:=by rfl):PE X (.Call (.Name x p) (e::es) [] pos) (OS r t):=by
 intro a s c H Q I h
 refine wpAny_Call_Name_kw<|pw I i d q ?_ k b
 exact PyProof.Rows.callWith_builtin1 (c_ (u pos a s c H _ I h) λj f ⟨g,H1,l,m,n⟩=>o a f c H1 g j Q l m n) he hpl
def Ft(o:kd X (.type T) r)(i:Gl X x)(d:X.mg x=none)(q:bootBuiltins x=some (.type T))(u:PA X (e::es) t)(k:x≠"__name__":=by decide)(b:(x==("__debug__":Str))=false:=by decide)
  (he:starEach (e::es) X.env=(false,eval e X.env)::starEach es X.env:=by rfl) (hpl:(backTo pos<|starEach es X.env).any (·.1)=false:=by rfl):PE X (.Call (.Name x p) (e::es) [] pos) (OS r t):=by
 intro a s c H Q I h
 refine wpAny_Call_Name_kw<|pw I i d q ?_ k b
 exact PyProof.Rows.callWith_type1 (c_ (u pos a s c H _ I h) λj f ⟨g,H1,l,m,n⟩=>o a f c H1 g j Q l m n) he hpl
end
section
variable{κ:Type}[DecidableEq κ]
def rT(a:List (κ×V))(k:κ):Option V:=(a.find? λb=>decide (b.1=k)).map (·.2)
def putK(a:List (κ×V))(k:κ)(v:V):List (κ×V):=
 if (a.any λb=>decide (b.1=k))=true then a.map (λb=>if b.1=k then(b.1,v) else b) else a++ [(k,v)]
def vQ{p:κ×V}(e:p.1=k):rT (p::r) k=some p.2:=by simp[rT,List.find?_cons,e]
def wx{p:κ×V}(e:¬p.1=k):rT (p::r) k=rT r k:=by simp[rT,List.find?_cons,e]
theorem A_(k:κ):∀a:List (κ×V),(a.any λkv=>decide (kv.1=k))=(rT a k).isSome
 | []=>rfl
 | p::r=>by
   rw[List.any_cons]
   by_cases e:p.1=k
   · simp only[vQ e,Qeq e,Bool.true_or,Option.isSome_some]
   · rw[wx e,Qdq e,Bool.false_or];exact A_ k r
def jt(a:List (κ×V))(k:κ)(v:V):(putK a k v).length<=a.length+1:=by
 unfold putK
 split
 ·rw[lQm];omega
 ·rw[lQa,Qnq,QGq];omega
def vJ.isSome_eq(r:vJ o u):o.isSome=u.isSome:=by
 cases o with
 | none=>cases u with
   |none=>rfl
   |some _=>exact(show False from r).elim
 | some _=>cases u with
   |none=>exact(show False from r).elim
   |some _=>rfl
def KV.val(r:KV a vs)(k:κ):vJ (rT a k) (valueAt vs k):=by
 unfold KV at r
 induction r with
 |nil=>exact True.intro
 | @cons p q ps qs h t ih=>
   obtain⟨d,f⟩:=h
   by_cases e:p.1=k
   · have c:q.1=k:=d.symm.trans e
     have b:valueAt (q::qs) k=some q.2:=by simp[valueAt,List.find?_cons,c]
     rw[vQ e,b];exact f
   · have c:¬q.1=k:=λz=>e (d.trans z)
     have b:valueAt (q::qs) k=valueAt qs k:=by simp[valueAt,List.find?_cons,c]
     rw[wx e,b];exact ih
theorem KV.any(r:KV a vs)(k:κ):(a.any λkv=>decide (kv.1=k))=vs.any λkv=>decide (kv.1=k):=by
 unfold KV at r
 induction r with
 |nil=>rfl
 |cons h t b=>rw[List.any_cons,List.any_cons,b,h.1]
def KV.repl(r:KV a vs)(k:κ)(c:RelV y u):
  KV (a.map λkv=>if kv.1=k then(kv.1,y) else kv) (vs.map λkv=>if kv.1=k then(kv.1,u) else kv):=by
 unfold KV at r⊢
 induction r with
 |nil=>exact .nil
 | @cons p q ps qs h t ih=>
   rw[QDq,QDq]
   refine .cons ?_ ih
   obtain⟨b,d⟩:=h
   by_cases e:p.1=k
   · rw[Qhq e,Qhq (b.symm.trans e)];exact⟨b,c⟩
   · rw[Quq e,Quq (λz=>e<|b.trans z)];exact⟨b,d⟩
def KV.put(r:KV a vs)(k:κ)(b:RelV y u):KV (putK a k y) (stored vs k u):=by
 unfold putK stored
 rw[r.any k]
 by_cases e:(vs.any λc=>decide (c.1=k))=true
 ·rw[Qhq e,Qhq e];exact r.repl k b
 ·rw[Quq e,Quq e];exact Paired.snoc r ⟨rfl,b⟩
def KV.length(r:KV a vs):a.length=vs.length:=Paired.length r
end
def BK(r:RelV (kV k) u):(cc P w).is k u=true:=by
 cases k with
 |inl i=>obtain⟨t,e⟩:=(show∃t,u=Value.int i t from r);subst e;exact A6 P w i t
 |inr x=>obtain⟨t,e⟩:=(show∃t,u=Value.str x t from r);subst e;exact AV P w x t
theorem yn:∀{a:List Key} {b:List Value},bI (a.map kV) b->ItemsAre (cc P w) a b
 | [],_,r=>by rw[List.map_nil] at r;cases r;exact .nil
 | k::a,_,r=>by
   rw[QDq] at r
   cases r with
   |cons h t=>exact .cons (BK h) (yn t)
abbrev KT(H:Hp):List (List Key×V)->List (List Key×Addr×Value)->Prop:=Paired λp q=>p.1=q.1/\H q.2.1=some (.tup (p.1.map kV))/\RelV p.2 q.2.2
def KT.val(r:KT H a xs)(k:List Key):vJ (rT a k) ((atKey xs k).map (·.2)):=by
 induction r with
 |nil=>exact True.intro
 | @cons p q ps qs h t ih=>
   obtain⟨d,_,f⟩:=h
   by_cases e:p.1=k
   · have c:q.1=k:=d.symm.trans e
     have b:atKey (q::qs) k=some q.2:=by simp[atKey,List.find?_cons,c]
     rw[vQ e,b];exact f
   · have c:¬q.1=k:=λz=>e (d.trans z)
     have b:atKey (q::qs) k=atKey qs k:=by simp[atKey,List.find?_cons,c]
     rw[wx e,b];exact ih
def KT.repl(r:KT H a xs)(k:List Key)(d:RelV y u):
  KT H (a.map λkv=>if kv.1=k then(kv.1,y) else kv) (xs.map<|putAt k u):=by
 induction r with
 |nil=>exact .nil
 | @cons p q ps qs h t ih=>
   rw[QDq,QDq]
   refine .cons ?_ ih
   obtain⟨b,c,f⟩:=h
   unfold putAt
   by_cases e:p.1=k
   · rw[Qhq e,Qhq (b.symm.trans e)];exact⟨b,c,d⟩
   · rw[Quq e,Quq (λz=>e<|b.trans z)];exact⟨b,c,f⟩
def KT.put(r:KT H a xs)(k:List Key)(d:H b=some (.tup (k.map kV)))(c:RelV y u):
  KT H (putK a k y) (storedH xs k b u):=by
 have e:(a.any λf=>decide (f.1=k))=(atKey xs k).isSome:=by
  rw[A_,(r.val k).isSome_eq,Option.isSome_map]
 unfold putK storedH
 rw[e]
 by_cases q:(atKey xs k).isSome=true
 ·rw[Qhq q,Qhq q];exact r.repl k c
 ·rw[Quq q,Quq q];exact Paired.snoc r ⟨rfl,d,c⟩
def KT.keeps{H c:Hp}(r:KT H a xs)(ht:∀b ys,H b=some (.tup ys)->c b=some (.tup ys)):KT c a xs:=
 Paired.mapP r λ_ _ z=>⟨z.1,ht _ _ z.2.1,z.2.2⟩
section
variable{P:Program}{w:World}{H:Hp}{h:Heap}{a:Addr}
def KN(ok:p0 P w H h)(e:Rd H a u):dr P w H h a u:=e.ok ok
def IG(ok:p0 P w H h)(e:Rd H a (.dK b)):b.length<=sizeLine/\(a==sysModules)=false/\∃vs,KV b vs/\h.DictOf (cc P w) a vs:=
 show dr P w H h a (.dK b) from KN ok e
def Eh(ok:p0 P w H h)(e:H a=some (.dK b)):b.length<=sizeLine/\(a==sysModules)=false/\∃vs,KV b vs/\h.DictOf (cc P w) a vs:=IG ok (.inl e)
def CV{b:List Key}(ok:p0 P w H h)(e:H a=some (.tup (b.map kV))):(tupleKind<|cc P w).is h b a:=by
 obtain⟨_,c,r,o,f,g,_,n,d⟩:=(show dr P w H h a (.tup (b.map kV)) from ok a _ e)
 exact⟨o,c.toArray,n,f,g,d,by simpa using yn r⟩
def Hu(ok:p0 P w H h)(e:Rd H a (.dT b)):b.length<=sizeLine/\(a==sysModules)=false∧
  ∃xs,KT H b xs/\h.DictOfH (tupleKind<|cc P w) a xs:=by
 obtain⟨z,y,xs,r,o,f,k,i,n,g,j,s⟩:=(show dr P w H h a (.dT b) from KN ok e)
 refine⟨z,y,xs,r,o,f,k,i,n,g,j,λx c=> ?_,s⟩
 have d:∀{l:List (List Key×V)} {m:List (List Key×Addr×Value)},KT H l m->∀x∈m,(tupleKind<|cc P w).is h x.1 x.2.1:=by
  intro l m q
  induction q with
  |nil=>intro x c;exact nomatch c
  | @cons p q ps qs hq t ih=>
    intro x c
    rcases Qsq.mp c with e|c
    · subst e
      exact CV ok (by rw[←hq.1];exact hq.2.1)
    · exact ih x c
 exact d r x c
def N1(ok:p0 P w H h)(e:H a=some (.dT b)):b.length<=sizeLine/\(a==sysModules)=false∧
  ∃xs,KT H b xs/\h.DictOfH (tupleKind<|cc P w) a xs:=Hu ok (.inl e)
end
def Gb(H:Hp)(a:Addr)(y:V)(r:Option V):Prop:=
 (∃c k,Rd H a (.dK c)/\y=kV k/\r=rT c k)\/∃c k b,Rd H a (.dT c)/\y=.ref b/\H b=some (.tup (k.map kV))/\r=rT c k
def Hb(H:Hp)(a:Addr)(y v:V)(d:Hp):Prop:=
 (∃c k,H a=some (.dK c)/\y=kV k/\c.length<sizeLine/\d=upd H a (.dK (putK c k v)))∨
 ∃c k b,H a=some (.dT c)/\y=.ref b/\H b=some (.tup (k.map kV))/\c.length<sizeLine/\d=upd H a (.dT (putK c k v))
def Gb.k{H:Hp}{a:Addr}{b:List (Key×V)}{k:Key}(e:H a=some (.dK b)):Gb H a (kV k) (rT b k):=.inl ⟨b,k,.inl e,rfl,rfl⟩
def Hb.k{H:Hp}{a:Addr}{b:List (Key×V)}{k:Key}{v:V}(e:H a=some (.dK b))(c:b.length<sizeLine):Hb H a (kV k) v (upd H a<|.dK (putK b k v)):=.inl ⟨b,k,e,rfl,c,rfl⟩
section
variable{X:Cx}{pins:List (Addr×Obj)}{σ:St}{H:Hp}{s:Shared}{a:Addr}{y v:V}{u r:Value}{o:Option V}{A:Around}{E:Value->Shared->Prop}
def Inv.big(I:Inv X pins σ H s):sysModules<s.heap.objs.size:=by
 have h:mainGlobals<s.heap.objs.size:=(I.mod.glob.keeps I.bk).lt
 exact Nat.lt_trans (by decide) h
def F8{Q:Value->Shared->Prop}(F:A.units+1<cLine)(I:Inv X pins σ H s)(g:Gb H a y (some v))(t:RelV y u)(h:∀f x,Inv X pins σ H x->RelV v f->Q f x):
  wpAny (model X.prog X.w) A (getItem (.ref a) u) Q E s:=by
 rcases g with⟨m,k,e,q,l⟩|⟨m,k,b,e,q,J,l⟩
 ·subst q
  obtain⟨z,K,C,d,i⟩:=IG I.hok e
  obtain⟨f,j,c⟩:=vJ.some_of (v:=v) (o:=valueAt C k) (by rw[l];exact d.val k)
  exact wpAny_getItem_of (BK t) i.mapOf j<|h f _ (I.tok _) c
 ·subst q
  cases (show u=Value.ref b from t)
  obtain⟨z,K,B,d,i⟩:=Hu I.hok e
  obtain⟨f,j,c⟩:=vJ.some_of (v:=v) (o:=(atKey B k).map (·.2)) (by rw[l];exact d.val k)
  obtain⟨p,G,n⟩:=oQm.mp j
  refine wpAny_getItem_heap (tupleKind_room_in1 F) (CV I.hok J) i G ?_
  rw[n]
  exact h f _ (I.tok _) c
def uH(I:Inv X pins σ H s)(f:Oj (H a))(hs:Heap.SameBut a s.heap h')(he:∃q,h'.get? a=some q)(new:dr X.prog X.w (upd H a c) h' a c):
  Inv X pins σ (upd H a c) {s with heap:=h',toks:=t'}:=
 I.write (x:=a) (e:=a) f (.inl rfl) (λb q d z=>(hs.2 b d).trans z) he new
def vZ{h':Heap}{b:List (Key×V)}(z:b.length<=sizeLine)(hd:(a==sysModules)=false)(c:KV b vs)(d:h'.DictOf (cc P w) a vs):
  dr P w e h' a (.dK b):=⟨z,hd,vs,c,d⟩
def FW{J:Hp}{Q:Unit->Shared->Prop}(W:A.units+1<cLine)(I:Inv X pins σ H s)(g:Hb H a y v J)(K:RelV y u)(L:RelV v r)(h:∀N,Inv X pins σ J N->Q () N):
  wpAny (model X.prog X.w) A (setItem (.ref a) u r) Q E s:=by
 rcases g with⟨f,k,e,B,l,n⟩|⟨f,k,b,e,B,M,l,n⟩
 ·subst B n
  obtain⟨z,C,U,d,p⟩:=Eh I.hok e
  have x:U.length<=sizeLine:=by rw[←d.length];exact z
  have m:(putK f k v).length<=sizeLine:=by have:=jt f k v;omega
  refine wpAny_setItem_pairs (hsz:=x) (BK K) p λF i t=>h _ ?_
  have he:∃q,F.get? a=some q:=let ⟨q,_,_,j,_⟩:=i;⟨q,j⟩
  exact uH I (by rw[e];exact True.intro) t he<|vZ m C (d.put k L) i
 ·subst B n
  cases (show u=Value.ref b from K)
  obtain⟨z,C,R,d,p⟩:=N1 I.hok e
  have x:R.length<=sizeLine:=by rw[←Paired.length d];exact z
  have m:(putK f k v).length<=sizeLine:=by have:=jt f k v;omega
  refine wpAny_setItem_heap (hsz:=x) (tupleKind_room_in1 W) (CV I.hok M) p λF i t=>h _ ?_
  obtain⟨q,P,Z,j,h2,S,Y,_,h5⟩:=i
  refine uH I (by rw[e];exact True.intro) t ⟨q,j⟩ ⟨m,C,_,(d.put k M L).keeps λc ys G=> ?_,q,P,Z,j,h2,S,Y,h5⟩
  rw[bx (GS G e (λz=>nomatch z))]
  exact G
end
def Kx(i:Expr):Prop:=∀a b,subscripted i false a b=operate [a,b] (getItem a b)
def Ff{E:Value->Shared->Prop}{T id:String}
  (m:typeLookup (.type T) "__getitem__"=pure (some<|.builtin id)) (hs:Kx a)
  (h:wpAny (model prog w) A (eval b env) (λo e=>wpAny (model prog w) A (eval a env) (λi c=>c.TypeIs o T/\wpAny (model prog w) A (getItem o i) Q E c) E e) E s):
  wpAny (model prog w) A (eval (.Subscript b a pos) env) Q E s:=by
 refine Subscript_ (QRq h (λo e k=>QRq k (λi c d=> ?_) λ_ _ x=>x) λ_ _ x=>x)
 obtain⟨l,d⟩:=d
 unfold subscriptTail
 refine Qaq ?_
 rw[getitemInPython_of_ne l.not_modules]
 refine Qaq<|wpAny_specialOf l m ?_
 have g:wpAny (model prog w) A (subscripted a false o i) (λr f=>wpAny (model prog w) A (letTemporaryGo b o r >>= λ_=>pure r) Q E f) E c:=by
  rw[hs o i]
  exact wpAny_operating (QRq d (λr f j=>Qaq<|wpAny_letTemporaryGo<|Qgq j) λ_ _ x=>x)
 first
  |exact Qgq (Qaq g)
  |exact Qaq (Qgq<|Qaq g)
  |exact Qaq g
def Bo(I:Inv X c h H s)(g:Gb H a y o):s.TypeIs (.ref a) "dict":=by
 rcases g with⟨d,k,e,_,_⟩|⟨d,k,b,e,_,_,_⟩
 ·obtain⟨_,_,i,_,f⟩:=IG I.hok e
  exact f.typeIs
 ·obtain⟨_,_,j,_,f⟩:=Hu I.hok e
  exact f.typeIs
def NS(c d:TE):TE:=λb H Q=>c b H λx H1=>d b H1 λy H2=>∃a v,x=.ref a/\Gb H2 a y (some v)/\Q v H2
def NI(c e d:TE):TS:=λD b H=>d b H λv H1=>c b H1 λx H2=>e b H2 λy H3=>∃a H4,x=.ref a/\Hb H3 a y v H4/\D.nx b H4
section
variable{X:Cx}{o i e value:Expr}{pos pos' tpos:Pos}{td ty tv:TE}
def Ju(l:X.A.units+1<cLine)(n:PE X o td)(hi:PE X i ty)(hs:Kx i):PE X (.Subscript o i pos) (NS td ty):=by
 intro b s f H Q I h
 refine Ff PySem.F.slot_dict_getitem.lookup hs (c_ (n b s f H _ I h) λu k ⟨x,H1,m,j,t⟩=>c_ (hi b k f H1 _ m t) λG B z=> ?_)
 obtain⟨y,H2,d,r,a,v,p,g,q⟩:=z
 subst p
 obtain rfl:u=Value.ref a:=j
 exact⟨Bo d g,F8 l d g r λJ C w c=>⟨v,H2,w,c,q⟩⟩
def J6(l:X.A.units+1<cLine)(n:PE X o td)(hi:PE X i ty)(B:PE X value tv)(hs:swapsWith value (some<|.Subscript o i pos') pos.line X.env=pure false):
  PS X (.Assign [.Subscript o i pos'] value pos) (NI td ty tv):=by
 intro b s c H D I h
 refine wpAny_Assign_Subscript (c_ (B b s c H _ I h) λr k ⟨v,H1,m,z,w⟩=>c_ (n b k c H1 _ m w) λu f ⟨x,H2,d,j,p⟩=>c_ (hi b f c H2 _ d p) λK J ⟨y,H3,C,t,a,H4,q,g,G⟩=> ?_) hs
 subst q
 obtain rfl:u=Value.ref a:=j
 exact FW l C g t z λL F=>⟨c,H4,F,G⟩
end
def HN(h:Heap)(a:sysModules<h.objs.size):dr P w H (h.push {cls:=.type "dict",data:=.dict #[]}) h.objs.size (.dK []):=
 ⟨Nat.zero_le _,beq_eq_false_iff_ne.mpr<|Ne.symm<|Qwq a,[],.nil,Heap.DictOf.new h⟩
def Mn:TE:=λ_ H Q=>∀p,H p=none->Q (.ref p) (upd H p<|.dK [])
section
variable{X:Cx}{pos:Pos}
def IS:PE X (.Dict [] [] pos) Mn:=λb s c H Q I h=>
 wpAny_Dict_empty ⟨.ref s.heap.objs.size,_,I.laid (a:=s.heap.objs.size) (o:=.dK []) (t':=s.toks) (λ_ _ q=>Qcq _ q) (Qmq _)<|HN s.heap I.big,rfl,h _<|I.hok.fresh<|Qmq _⟩
end
def kH(a more:List (Key×V)):List (Key×V):=more.foldl (λb c=>putK b c.1 c.2) a
def KV.merge:∀{more:List (Key×V)} {rs:List (Key×Value)} {a:List (Key×V)} {vs:List (Key×Value)},KV more rs->KV a vs->KV (kH a more) (merged vs rs):=by
 intro more rs a vs r
 unfold KV at r
 induction r generalizing a vs with
 |nil=>intro q;exact q
 | @cons p q ps qs h t ih=>
   intro b
   have e:KV (putK a p.1 p.2) (stored vs q.1 q.2):=by
     have:=b.put p.1 h.2
     rw[←h.1];exact this
   exact ih e
theorem jG:∀(more a:List (Key×V)),(kH a more).length<=a.length+more.length
 | [],a=>by show a.length<=a.length+0;omega
 | p::r,a=>by
   have c:=jG r (putK a p.1 p.2)
   have b:=jt a p.1 p.2
   show(kH (putK a p.1 p.2) r).length<=_
   rw[Qnq];omega
end L2
namespace HT
open PySem PyProof.Rows
section
open PySem.SeqAt
open PySem.AutoSeq1 (wpAny_loadPart')
open PySem.MeetsSeq PySem.MeetsSeq2 PySem.MeetsSeq3
end
section
variable{prog:Program}{w:World}{A:Around}{E:Value->Shared->Prop}{s:Shared}
def Ks{vs ws:List Value}{Q:Value->Shared->Prop}(ht:IsTup s.heap t vs.toArray)(v:IsTup s.heap b ws.toArray)(q:vs≠[])
  (u:ws= []->Q (.ref t) s) (x:ws≠[]->Q (.ref s.heap.objs.size) {s with heap:=s.heap.push {cls:=.type "tuple",data:=.seq (vs++ws).toArray}})
  (hsz:vs.length+ws.length<=sizeLine):wpAny (model prog w) A (binaryOp .Add (.ref t)<|.ref b) Q E s:=by
 obtain⟨⟨cls,o,data,m⟩,h,p,n,r⟩:=id ht
 obtain⟨⟨l,g,j,d⟩,a,c,k,f⟩:=id v
 simp only at p r c f
 subst p r c f
 have e:vs.toArray++ws.toArray=(vs++ws).toArray:=by simp
 by_cases i:ws= []
 ·exact concat_meets ⟨_,h,rfl⟩ ⟨_,a,rfl⟩ noFill_tuple_add seq_tuple_add PySem.F.slot_tuple_add PySem.F.entry_tuple_add (PySem.F.args_tuple_add_2 _ _)
   (tuple_addW1 t b vs.toArray ws.toArray n k o g m d (by simpa using q) (by simp[i])) ⟨h,a,u i⟩
 ·refine concat_meets ⟨_,h,rfl⟩ ⟨_,a,rfl⟩ noFill_tuple_add seq_tuple_add PySem.F.slot_tuple_add PySem.F.entry_tuple_add (PySem.F.args_tuple_add_2 _ _)
   (tuple_addW2 t b vs.toArray ws.toArray n k o g m d (by simpa using q) (by simpa using i) (by rw[Qjq,Qjq];exact hsz)) ⟨h,a,?_⟩
  rw[e]
  exact x i
def fN(n d:Nat):Option Int->Nat
 |none=>d
 |some v=>if v<0 then(v+(n:Int)).toNat else min v.toNat n
def vH(n d:Nat):fN n d none=d:=rfl
def Eg(n d k:Nat):fN n d (some (k:Int))=min k n:=by
 show(if (k:Int)<0 then((k:Int)+(n:Int)).toNat else min (k:Int).toNat n)=min k n
 rw[Quq (by omega),Int.toNat_natCast]
def LX(n d:Nat)(hd:d<=n)(o:Option Int):fN n d o<=n:=by
 cases o with
 |none=>exact hd
 | some v=>
   show(if v<0 then(v+(n:Int)).toNat else min v.toNat n)<=n
   by_cases a:v<0
   · rw[Qhq a];omega
   · rw[Quq a];exact Nat.min_le_right _ _
def Fe(v:Int)(n d:Nat):(if v<0 then max (v+(n:Int)) 0 else min v (n:Int))=((fN n d (some v):Nat):Int):=by
 show(if v<0 then max (v+(n:Int)) 0 else min v (n:Int))=(((if v<0 then(v+(n:Int)).toNat else min v.toNat n):Nat):Int)
 by_cases a:v<0
 ·simp only[Qhq a];omega
 ·simp only[Quq a];omega
def DN(lo hi:Option Int)(n:Nat):Builtin.Slice.sliceAdjust lo hi 1 (n:Int)=(((fN n 0 lo:Nat):Int),((fN n n hi:Nat):Int)):=by
 have a:¬((1:Int)<0):=by omega
 unfold Builtin.Slice.sliceAdjust
 simp only[a,if_false]
 refine Prod.ext ?_ ?_
 ·cases lo with
  |none=>rfl
  |some v=>exact Fe v n 0
 ·cases hi with
  |none=>rfl
  |some v=>exact Fe v n n
def Ds(i j:Nat):Builtin.Slice.slicePlaces (i:Int) (j:Int) 1=j-i:=by
 unfold Builtin.Slice.slicePlaces
 have a:(1:Int)>0:=by omega
 simp only[a,if_true,Int.ediv_one]
 split <;>omega
def wJ{Q:Option Int->Shared->Prop}(p:IsPart v o)(h:Q o s):wpAny (model prog w) A (Builtin.Slice.slicePartIndex v) Q E s:=by
 cases p with
 |none=>exact slicePart_none h
 |int i t=>exact slicePart_int h
def kg{e:Addr}{d c:Value}{lo hi:Option Int}{n:Nat}{Q:Int×Int×Nat->Shared->Prop}(hs:s.heap.IsSliceOf e d c .none)(g:IsPart d lo)(f:IsPart c hi)
  (h:Q (((fN n 0 lo:Nat):Int),1,fN n n hi-fN n 0 lo) s):wpAny (model prog w) A (Builtin.Slice.sliceApplied (.ref e)<|pure (n:Int)) Q E s:=by
 obtain⟨j,a,i,b⟩:=id hs
 unfold Builtin.Slice.sliceApplied Builtin.Slice.sliceFields
 refine Qaq<|Qaq<|QMq a b (x:=d) rfl<|Qaq<|QMq a b (x:=c) rfl<|Qaq<|QMq a b (x:=.none) rfl<|Qgq ?_
 refine Qaq<|slicePart_none ?_
 show wpAny _ _ (if ((1:Int)==0)=true then _ else _) _ _ s
 rw[Quq (by decide)]
 refine Qaq<|wJ g<|Qaq<|wJ f<|Qaq<|Qgq ?_
 show wpAny _ _ (match Builtin.Slice.sliceAdjust lo hi 1 (n:Int) with|(lo,hi)=>pure (lo,(1:Int),Builtin.Slice.slicePlaces lo hi 1)) _ _ s
 rw[DN lo hi n]
 show wpAny _ _ (pure (((fN n 0 lo:Nat):Int),(1:Int),Builtin.Slice.slicePlaces ((fN n 0 lo:Nat):Int) ((fN n n hi:Nat):Int) 1)) _ _ s
 rw[Ds]
 exact Qgq h
def He(xs:Array Value)(i k:Nat):((List.range k).filterMap λ(m:Nat)=>xs[((i:Int)+(m:Int)*1).toNat]?).toArray=((xs.toList.drop i).take k).toArray:=by
 have e:(λ(m:Nat)=>xs[((i:Int)+(m:Int)*1).toNat]?)=λm=>xs[i+m]? :=by
  funext m
  have:((i:Int)+(m:Int)*1).toNat=i+m:=by omega
  rw[this]
 rw[e]
 have:=pick_run xs i k
 rw[List.filterMap_map] at this
 have a:((λx=>xs[x]?)∘λx=>i+x)=λm=>xs[i+m]? :=rfl
 rw[a] at this
 rw[this]
def qF{t d:Addr}{items:Array Value}{g i:Value}{lo hi:Option Int}{Q:Value->Shared->Prop}(ht:IsTup s.heap t items)(hs:s.heap.IsSliceOf d g i .none)(o:IsPart g lo)(n:IsPart i hi)
  (k:¬(fN items.size 0 lo=0/\fN items.size items.size hi=items.size))
  (h:Q (.ref s.heap.objs.size) {s with heap:=s.heap.push {cls:=.type "tuple",data:=.seq ((items.toList.drop<|fN items.size 0 lo).take (fN items.size items.size hi-fN items.size 0 lo)).toArray}})
  (hsz:items.size<=sizeLine):wpAny (model prog w) A (getItem (.ref t)<|.ref d) Q E s:=by
 have a:sizeOk (.seq ((items.toList.drop<|fN items.size 0 lo).take (fN items.size items.size hi-fN items.size 0 lo)).toArray):=by
  show((items.toList.drop<|fN items.size 0 lo).take (fN items.size items.size hi-fN items.size 0 lo)).toArray.size<=sizeLine
  rw[Qjq,Qxq,List.length_drop,Array.length_toList]
  omega
 have p:fN items.size items.size hi<=items.size:=LX _ _ (Qmq _) hi
 obtain⟨j,e,c,l⟩:=id hs
 have b:s.TypeIs (.ref d) "slice":=⟨j,e,c⟩
 unfold getItem
 try with_reducible refine QLq ?_
 first|refine Qaq (Qgq ?_)|skip
 refine Qaq<|wpAny_sequenceKey ht.typeIs (by decide) ?_
 refine Qaq (QiQ (name:=Str.ofString "__getitem__") ht.typeIs PyProof.Rows.slot_tuple_getitem
  (wpAny_call_entry PyProof.Rows.slot_tuple_getitem ht.typeIs entry_tuple_getitem ?_ (args_tuple_getitem _ _)))
 show wpAny _ _ (Builtin.Tuple.tupleItemsOf (.ref t) >>= _) _ _ s
 refine Qaq<|tupleItemsOf_ ht ?_
 refine Qaq<|wpAny_typeOf b ?_
 rw[Qhq (by decide)]
 refine Qaq<|kg hs o n ?_
 have f:¬((((fN items.size 0 lo:Nat):Int)==0&&(1:Int)==1&&(fN items.size items.size hi-fN items.size 0 lo)==items.size)=true):=by
  intro q
  rw[QCq,QCq] at q
  have u:((fN items.size 0 lo:Nat):Int)=0:=eq_of_beq q.1.1
  have r:fN items.size items.size hi-fN items.size 0 lo=items.size:=eq_of_beq q.2
  exact k ⟨by omega,by omega⟩
 show wpAny _ _ (if (((fN items.size 0 lo:Nat):Int)==0&&(1:Int)==1&&(fN items.size items.size hi-fN items.size 0 lo)==items.size)=true then _ else _) _ _ s
 rw[Quq f,He]
 first
  |exact Qaq (m:=Builtin.Tuple.tupleExact _) (QhQ (Qgq ⟨_,rfl,Qgq h⟩) a)
  |exact Qaq (m:=Builtin.Tuple.tupleExact _) (QhQ (Qaq<|Qgq<|Qgq ⟨_,rfl,Qgq h⟩) a)
  |exact Qaq (Qaq (m:=Builtin.Tuple.tupleExact _)<|QhQ (Qgq<|Qgq ⟨_,rfl,Qgq h⟩) a)
  |exact Qaq (Qaq (m:=Builtin.Tuple.tupleExact _)<|QhQ (Qgq ⟨_,rfl,Qgq h⟩) a)
end
end HT
namespace L2
open PySem PySem.Spec PyProof.Rows
abbrev TO:=St->Hp->(Option Int->Hp->Prop)->Prop
def PO(X:Cx)(e:Option Expr)(t:TO):Prop:=
 ∀ (a:List (Addr×Obj)) (s:Shared) (b:St) (H:Hp) (Q:Option Int->Hp->Prop),Inv X a b H s->t b H Q→
   wpAny (model X.prog X.w) X.A (evalPart e X.env) (λu d=>∃o c,Inv X a b c d/\IsPart u o/\Q o c) X.xe s
def Jk:TO:=λ_ H Q=>Q none H
def NA(t:TE):TO:=λa H Q=>t a H λx H1=>∃i,x=.int i/\Q (some i) H1
section
variable{X:Cx}{e:Expr}{te:TE}{lo hi:Option Expr}{tl th:TO}{pos p2:Pos}
def Kk:PO X none Jk:=by
 intro a s b H Q I h
 rw[evalPart_none]
 exact Qgq ⟨none,H,I,.none,h⟩
def Kz(h:PE X e te):PO X (some e) (NA te):=by
 intro a s b H Q I j
 rw[evalPart_some]
 refine c_ (h a s b H _ I j) λu k d=> ?_
 obtain⟨x,H1,g,c,f⟩:=d
 obtain⟨i,rfl,q⟩:=f
 obtain⟨t,rfl⟩:=c
 exact⟨some i,H1,g,.int i t,q⟩
def Pn(X:Cx)(r:V->Option Int->Option Int->Hp->VK->Prop):Prop:=
 ∀ (a:List (Addr×Obj)) (s:Shared) (b:St) (H:Hp) (x:V) (v f d:Value) (lo hi:Option Int) (c:Addr) (Q:VK),Inv X a b H s->RelV x v->s.heap.IsSliceOf c f d .none->IsPart f lo->IsPart d hi->r x lo hi H Q→
   ∃T id,typeLookup (.type T) "__getitem__"=pure (some<|.builtin id)/\s.TypeIs v T/\wpAny (model X.prog X.w) X.A (getItem v<|.ref c) (EP X a b Q) X.xe s
def Q4(r:V->Option Int->Option Int->Hp->VK->Prop)(te:TE)(tl th:TO):TE:=λa H Q=>te a H λx H1=>tl a H1 λl H2=>th a H2 λu H3=>r x l u H3 Q
def IH(n:Pn X r)(he:PE X e te)(p:PO X lo tl)(o:PO X hi th):PE X (.Subscript e (.Slice lo hi none p2) pos) (Q4 r te tl th):=by
 intro a s d H Q I h
 refine Subscript_ (c_ (he a s d H _ I h) λv m i=> ?_)
 obtain⟨x,H1,t,y,B⟩:=i
 refine wpAny_Slice (c_ (p a m d H1 _ t B) λf k ⟨l,H2,j,J,z⟩=>c_ (o a k d H2 _ j z) λg c i=> ?_)
 obtain⟨u,H3,C,G,K⟩:=i
 rw[evalPart_none]
 refine Qgq ?_
 have F:Inv X a d H3 {c with heap:=c.heap.push {cls:=.type "slice",data:=.fields #[f,g,.none]}}:=C.kept (t':=c.toks) λb L q=>Qcq _ q
 obtain⟨T,id,hT,ht,hg⟩:=n a {c with heap:=c.heap.push {cls:=.type "slice",data:=.fields #[f,g,.none]}} d H3 x v f g l u c.heap.objs.size Q F y (Heap.IsSliceOf.new ..) J G K
 show wpAny (model X.prog X.w) X.A (subscriptTail e (.Slice lo hi none p2) v<|.ref c.heap.objs.size) (EP X a d Q) X.xe {c with heap:=c.heap.push {cls:=.type "slice",data:=.fields #[f,g,.none]}}
 exact tail_any (ops:= [.ref c.heap.objs.size,v]) ht hT hg (by with_unfolding_all rfl)
def Dp(xs:List V)(lo hi:Option Int):List V:=(xs.drop<|HT.fN xs.length 0 lo).take (HT.fN xs.length xs.length hi-HT.fN xs.length 0 lo)
def B3(xs:List V)(lo hi:Option Int):(Dp xs lo hi).length<=xs.length:=by
 unfold Dp
 rw[Qxq,List.length_drop]
 omega
def P8(K:PySem.W.Frag):V->Option Int->Option Int->Hp->VK->Prop:=λx lo hi H Q=>∃a b,x=.ref a/\jo K H a b∧
 ¬(HT.fN b.length 0 lo=0/\HT.fN b.length b.length hi=b.length)/\∀p,H p=none->Q (.ref p) (upd H p<|.tup (Dp b lo hi))
def LM:Pn X (P8 X.K):=by
 intro g s w H x v p y lo hi u Q I k l n m h
 obtain⟨a,d,rfl,hx,hw,q⟩:=h
 cases k
 obtain⟨f,r,j,i⟩:=I.tuple hx
 have c:f.toArray.size=d.length:=by rw[Qjq];exact r.length.symm
 refine⟨"tuple",_,PyProof.Rows.slot_tuple_getitem.lookup,j.typeIs,?_⟩
 refine HT.qF j l n m (by rw[c];exact hw) ?_ (by rw[c];exact i)
 rw[c]
 refine⟨.ref s.heap.objs.size,_,I.laid (t':=s.toks) (o:=.tup (Dp d lo hi)) (λb t q=>Qcq _ q) (Qmq _) ?_,rfl,q _<|I.hok.fresh<|Qmq _⟩
 exact⟨QAq (B3 d lo hi) i,_,(r.drop<|HT.fN d.length 0 lo).take (HT.fN d.length d.length hi-HT.fN d.length 0 lo),Cs.new _ _⟩
def KP(K:PySem.W.Frag):R2:=λx y H Q=>∃a b d c,x=.ref a/\y=.ref b/\jo K H a d/\jo K H b c/\d≠[]/\d.length+c.length<=sizeLine∧
 (c= []->Q (.ref a) H)/\(c≠[]->∀p,H p=none->Q (.ref p) (upd H p<|.tup (d++c)))
def bI.nil_iff(r:bI xs a):a= []↔xs= []:=by
 cases r with
 |nil=>simp
 |cons _ _=>simp
def J0:lR X (binaryOp .Add) (KP X.K):=by
 intro f s r H x y v u Q I j l h
 obtain⟨a,b,i,m,rfl,rfl,ha,hb,hx,hz,q1,q2⟩:=h
 cases j
 cases l
 obtain⟨n,d,k,_⟩:=I.tuple ha
 obtain⟨g,c,p2,_⟩:=I.tuple hb
 refine HT.Ks k p2 (λz=>hx<|d.nil_iff.mp z) (λz=>⟨.ref a,H,I,rfl,q1<|c.nil_iff.mp z⟩) (λz=> ?_) (by rw[←d.length,←c.length];exact hz)
 refine⟨.ref s.heap.objs.size,_,I.laid (t':=s.toks) (o:=.tup (i++m)) (λb p q=>Qcq _ q) (Qmq _) ?_,rfl,q2 (λw=>z<|c.nil_iff.mpr w) _<|I.hok.fresh<|Qmq _⟩
 exact⟨by rw[lQa];exact hz,_,d.append c,Cs.new _ _⟩
end
def CD(n:Nat)(i:Int):Option Nat:=if 0<=i then(if i<n then some i.toNat else none) else if -(n:Int)<=i then some (i+n).toNat else none
def kj(xs:List α)(i:Int):Option α:=(CD xs.length i).bind λj=>xs[j]?
def zS(h:CD n i=some j):seqIndex? i n=some j/\j<n/\ -(n:Int)<=i/\i<n:=by
 unfold CD at h
 by_cases b:0<=i
 ·rw[Qhq b] at h
  by_cases a:i<n
  ·rw[Qhq a] at h
   have e:i.toNat=j:=QdQ h
   exact⟨by rw[seqIndex_of b a,e],by omega,by omega,a⟩
  ·rw[Quq a] at h;cases h
 ·rw[Quq b] at h
  by_cases a: -(n:Int)<=i
  ·rw[Qhq a] at h
   have e:(i+n).toNat=j:=QdQ h
   exact⟨by rw[seqIndex_neg (by omega) a,e],by omega,a,by omega⟩
  ·rw[Quq a] at h;cases h
def yJ(h:kj xs i=some v):∃j,seqIndex? i xs.length=some j/\xs[j]?=some v/\j<xs.length/\ -(xs.length:Int)<=i/\i<xs.length:=by
 unfold kj at h
 cases e:CD xs.length i with
 |none=>rw[e] at h;cases h
 | some j=>
   rw[e] at h
   obtain⟨c,d,a,b⟩:=zS e
   exact⟨j,c,h,d,a,b⟩
def E2(b:Expr):Prop:=∀o i,subscripted b false o i=operate [o,i] (getItem o i)
def Jr(X:Cx)(r:R2):Prop:=
 ∀ (c a:Expr) (b:List (Addr×Obj)) (s:Shared) (d:St) (H:Hp) (x y:V) (v u:Value) (Q:VK),Inv X b d H s->RelV x v->RelV y u->r x y H Q→
   subscripted a false v u=operate [v,u] (getItem v u)->wpAny (model X.prog X.w) X.A (subscriptTail c a v u) (EP X b d Q) X.xe s
def OO(X:Cx)(id:String)(r:V->List V->Hp->VK->Prop):Prop:=
 ∀ (a:List (Addr×Obj)) (s:Shared) (b:St) (H:Hp) (x:V) (c:List V) (v:Value) (d:List Value) (Q:VK),Inv X a b H s->RelV x v->bI c d->r x c H Q→
   wpAny (model X.prog X.w) X.A (call (.builtin id) (v::d)) (EP X a b Q) X.xe s
section
variable{X:Cx}{a b:Expr}{ta tb:TE}{pos:Pos}
def Jr.or(h:Jr X r)(h':Jr X r'):Jr X (λx y H Q=>r x y H Q\/r' x y H Q):=by
 intro c d e s i H x y v u Q I f j q g
 rcases q with q|q
 ·exact h c d e s i H x y v u Q I f j q g
 ·exact h' c d e s i H x y v u Q I f j q g
def M_(g:Jr X r)(l:PE X a ta)(k:PE X b tb)(hs:E2 b):PE X (.Subscript a b pos) (JP r ta tb):=by
 intro c s i H Q I h
 exact Subscript_ (Ls l k I h λv u e x y H2 d f j q=>g a b c e i H2 x y v u Q d f j q<|hs _ _)
def N4(K:PySem.W.Frag):R2:=λx y H Q=>∃p c i v,x=.ref p/\y=.int i/\je K H p c/\kj c i=some v/\Q v H
def M8(K:PySem.W.Frag):R2:=λx y H Q=>∃p c i v,x=.ref p/\y=.int i/\jo K H p c/\kj c i=some v/\Q v H
def Nl:R2:=λx y H Q=>∃z i c,x=.str z/\y=.int i/\z.length<=sizeLine/\kj z.cps.toList i=some c/\Q (.str ⟨#[c]⟩) H
def Ku:Jr X (N4 X.K):=by
 intro k m c s A H x y v u Q I F L h o
 obtain⟨p,R,i,z,rfl,rfl,hq,he,q⟩:=h
 cases F
 obtain⟨t,rfl⟩:=L
 obtain⟨n,r,l,W⟩:=I.list hq
 obtain⟨j,e,M,S,J,N⟩:=yJ he
 obtain⟨w,B,f⟩:=r.get M
 have G:=r.length
 have U:=mw
 have d:EP X c A Q w s:=⟨z,H,I,f,q⟩
 by_cases C:0<=i
 ·have g:i.toNat=j:=by
   rw[seqIndex_of C N] at e
   exact QdQ e
  exact item_listR l.isList C (by omega) (by rw[g];simpa using B) d o
 ·have g:(i+(n.toArray.size:Int)).toNat=j:=by
   rw[seqIndex_neg (by omega) J] at e
   rw[Qjq,←G]
   exact QdQ e
  exact subscriptTail_builtinR (x:=w) l.isList.typeIs slot_list_getitem.lookup
   (wpAny_getItem_list_neg (Q:=λr P=>r=w/\EP X c A Q r P) l.isList (by omega) (by rw[Qjq] <;>omega) (by omega) (by rw[g];simpa using B) ⟨rfl,d⟩) o
def Mz:Jr X (M8 X.K):=by
 intro f g c s k H x y v u Q I n B h A
 obtain⟨p,L,i,z,rfl,rfl,hq,he,q⟩:=h
 cases n
 obtain⟨t,rfl⟩:=B
 obtain⟨J,r,l,R⟩:=I.tuple hq
 obtain⟨j,m,F,M,N,S⟩:=yJ he
 obtain⟨w,C,d⟩:=r.get F
 have o:=r.length
 have P:=mw
 have e:EP X c k Q w s:=⟨z,H,I,d,q⟩
 exact subscriptTail_builtinR (x:=w) l.typeIs slot_tuple_getitem.lookup
  (getItem_tuple (j:=j) (Q:=λr G=>r=w/\EP X c k Q r G) l (by omega) (by omega) (by rw[Qjq,←o];exact m) (by simpa using C) ⟨rfl,e⟩) A
def Mm:Jr X Nl:=by
 intro d e g s G H x y v u Q I k p h o
 obtain⟨z,i,c,rfl,rfl,hz,he,q⟩:=h
 obtain⟨t,rfl⟩:=k
 obtain⟨C,rfl⟩:=p
 obtain⟨j,f,w,B,m,A⟩:=yJ he
 have l:z.cps.toList.length=z.length:=by simp[Str.length]
 rw[l] at f m A
 have F:=mw
 exact tail_any (typeIs_str s z t) slot_str_getitem.lookup (getItem_str (c:=c) (by
  have r:decide (i< -(2^63:Int))=false:=Qdq (by omega)
  have n:decide (i>=2^63)=false:=Qdq (by omega)
  rw[r,n,Bool.or_false]) (by rw[f];simpa using w) ⟨.str ⟨#[c]⟩,H,I.tok _,⟨_,rfl⟩,q⟩) o
def QG(K:PySem.W.Frag):R2:=λx y H Q=>N4 K x y H Q\/M8 K x y H Q\/Nl x y H Q
def Li:Jr X (QG X.K):=Ku.or (Mz.or Mm)
def D1(c:List Value)(n j:Nat)(u:Value):Obj.mapSeq (·.setIfInBounds j u) {cls:=.type "list",data:=.seq c.toArray n}={cls:=.type "list",data:=.seq (c.set j u).toArray n}:=by
 simp[Obj.mapSeq]
def Inv.lst(I:Inv X d f H s)(h:H p=some (.lst xs)):
  ∃(c:List Value) (n:Nat),bI xs c/\s.heap.get? p=some {cls:=.type "list",data:=.seq c.toArray n}/\xs.length<=sizeLine:=by
 obtain⟨z,c,n,r,e⟩:=I.hok p _ h
 exact⟨c,n,r,e,z⟩
def Inv.lstUpd{d its':List Value}(I:Inv X c j H s)(h:H p=some (.lst xs))
  (k:s.heap.get? p=some {cls:=.type "list",data:=.seq d.toArray n}) (i:f {cls:=.type "list",data:=.seq d.toArray n}={cls:=.type "list",data:=.seq its'.toArray g}) (r:bI ys its') (hz:ys.length<=sizeLine) (t:Nat):
  Inv X c j (upd H p<|.lst ys) {s with heap:=s.heap.update p f,toks:=t}:=by
 have e:(s.heap.update p f).get? p=some {cls:=.type "list",data:=.seq its'.toArray g}:=by
  rw[Heap.get?_update_self f k (by rw[i] <;>rfl),i]
 refine I.write (x:=p) (e:=p) (by rw[h];trivial) (.inl rfl) (λb u l q=>(Heap.get?_update_other _ _<|Ne.symm l).trans q) ⟨_,e⟩ ?_
 exact⟨hz,its',g,r,e⟩
def K1:V->V->V->Hp->(Hp->Prop)->Prop:=λo i v H Q=>∃p c k j,o=.ref p/\i=.int k/\H p=some (.lst c)/\CD c.length k=some j/\Q (upd H p<|.lst (c.set j v))
def set_list:K8 X K1:=by
 intro c s C H o i v J L u Q I G A F h
 obtain⟨p,z,k,j,rfl,rfl,hp,hj,q⟩:=h
 cases G
 obtain⟨t,rfl⟩:=A
 obtain⟨d,n,r,l,B⟩:=I.lst hp
 obtain⟨e,M,m,x⟩:=zS hj
 have f:=r.length
 have K:=mw
 have w:Inv X c C (upd H p<|.lst (z.set j v)) {s with heap:=s.heap.update p (Obj.mapSeq (·.setIfInBounds j u))}:=
  I.lstUpd hp l (D1 d n j u) (r.set F j) (by rw[List.length_set];exact B) s.toks
 by_cases y:0<=k
 ·have g:k.toNat=j:=by
   rw[seqIndex_of y x] at e
   exact QdQ e
  exact PySem.W.ki_setAt l y (by omega) (by rw[Qjq,←f];exact x) (by rw[g];exact⟨_,w,q⟩)
 ·have g:(k+(d.toArray.size:Int)).toNat=j:=by
   rw[seqIndex_neg (by omega) m] at e
   rw[Qjq,←f]
   exact QdQ e
  exact PySem.W.ki_setBack l (by omega) (by rw[Qjq,←f];exact m) (by omega) (by rw[g];exact⟨_,w,q⟩)
def iy:V->Bool
 |.non=>true
 |.bl _=>true
 |.int _=>true
 |.str _=>true
 |_=>false
def uM:V->V->Bool
 |.non,.non=>true
 |.bl a,.bl b=>a==b
 |.bl a,.int b=>(if a then 1 else 0)==b
 |.int a,.bl b=>a==(if b then 1 else 0)
 |.int a,.int b=>a==b
 |.str a,.str b=>a==b
 |_,_=>false
def Hj(e:RelV y u)(c:RelV x v)(g:iy y=true)(f:iy x=true):SeqAt.EqAt A s u v (uM y x):=by
 cases y with
 | non=>
   cases e
   cases x with
   |non=>cases c;exact SeqAt.EqAt.same _
   |bl b=>cases c;exact SeqAt.EqAt.none_bool b
   |int b=>obtain⟨t,rfl⟩:=c;exact SeqAt.EqAt.none_int b t
   |str b=>obtain⟨t,rfl⟩:=c;exact SeqAt.EqAt.none_str b t
   |_=>exact absurd (show false=true from f) Qtq
 | bl a=>
   cases e
   cases x with
   |non=>cases c;exact SeqAt.EqAt.bool_none a
   |bl b=>cases c;exact SeqAt.EqAt.bool_bool a b
   |int b=>obtain⟨t,rfl⟩:=c;exact SeqAt.EqAt.bool_int a b t
   |str b=>obtain⟨t,rfl⟩:=c;exact SeqAt.EqAt.bool_str a b t
   |_=>exact absurd (show false=true from f) Qtq
 | int a=>
   obtain⟨d,rfl⟩:=e
   cases x with
   |non=>cases c;exact SeqAt.EqAt.int_none a d
   |bl b=>cases c;exact SeqAt.EqAt.int_bool a d b
   |int b=>obtain⟨t,rfl⟩:=c;exact SeqAt.EqAt.int_int a d b t
   |str b=>obtain⟨t,rfl⟩:=c;exact SeqAt.EqAt.int_str a d b t
   |_=>exact absurd (show false=true from f) Qtq
 | str a=>
   obtain⟨d,rfl⟩:=e
   cases x with
   |non=>cases c;exact SeqAt.EqAt.str_none a d
   |bl b=>cases c;exact SeqAt.EqAt.str_bool a d b
   |int b=>obtain⟨t,rfl⟩:=c;exact SeqAt.EqAt.str_int a d b t
   |str b=>obtain⟨t,rfl⟩:=c;exact SeqAt.EqAt.str_str a d b t
   |_=>exact absurd (show false=true from f) Qtq
 |_=>exact absurd (show false=true from g) Qtq
def Cy(x:V)(u:Value):Bool:=match u with
 |.none=>uM .non x
 |.bool b=>uM (.bl b) x
 |.int i _=>uM (.int i) x
 |.str z _=>uM (.str z) x
 |_=>false
def yS(r:RelV y u)(f:iy y=true):Cy x u=uM y x:=by
 cases y with
 |non=>cases r;rfl
 |bl b=>cases r;rfl
 |int i=>obtain⟨t,rfl⟩:=r;rfl
 |str z=>obtain⟨t,rfl⟩:=r;rfl
 |_=>exact absurd (show false=true from f) Qtq
theorem qN:∀{xs:List V} {c:List Value},bI xs c->xs.all iy=true->c.any (Cy x)=xs.any λy=>uM y x
 |_,_,.nil,_=>rfl
 | y::xs,u::c,.cons r t,f=>by
   rw[List.all_cons,QCq] at f
   rw[List.any_cons,List.any_cons,yS r f.1,qN t f.2]
theorem kh(e:RelV x v)(g:iy x=true):∀{xs:List V} {d:List Value},bI xs d->xs.all iy=true->∀u∈d,SeqAt.EqAt A s u v (Cy x u)
 |_,_,.nil,_=>λu c=>by cases c
 | y::xs,u::d,.cons r t,f=>λh c=>by
   rw[List.all_cons,QCq] at f
   rcases Qsq.mp c with rfl|c
   · rw[yS r f.1];exact Hj r e f.1 g
   · exact kh e g t f.2 h c
def Hh(x:V)(xs:List V):Bool:=xs.any λy=>uM y x
def ON(K:PySem.W.Frag)(d:Bool):R2:=λx y H Q=>∃p c,y=.ref p/\(je K H p c\/jo K H p c)/\iy x=true/\c.all iy=true/\Q (.bl (if d then !Hh x c else Hh x c)) H
def yh:lR X (compareOp .In) (ON X.K false):=by
 intro i s m H x y v u Q I g k h
 obtain⟨p,l,rfl,d,fx,fs,q⟩:=h
 cases k
 rcases d with d|d
 ·obtain⟨c,r,f,j⟩:=I.list d
  refine SeqAt.in_listAt (Cy x) f.isList (λw e=>kh g fx r fs w (by simpa using e)) ⟨.bl _,H,I,rfl,?_⟩
  rw[show c.toArray.any (Cy x)=c.any (Cy x) by simp,qN r fs]
  exact q
 ·obtain⟨c,r,f,j⟩:=I.tuple d
  refine SeqAt.in_tupleAt (Cy x) f (λw e=>kh g fx r fs w (by simpa using e)) ⟨.bl _,H,I,rfl,?_⟩
  rw[show c.toArray.any (Cy x)=c.any (Cy x) by simp,qN r fs]
  exact q
def Am:lR X (compareOp .NotIn) (ON X.K true):=by
 intro i s m H x y v u Q I g k h
 obtain⟨p,l,rfl,d,fx,fs,q⟩:=h
 cases k
 rcases d with d|d
 ·obtain⟨c,r,f,j⟩:=I.list d
  refine SeqAt.notIn_listAt (Cy x) f.isList (λw e=>kh g fx r fs w (by simpa using e)) ⟨.bl _,H,I,rfl,?_⟩
  rw[show c.toArray.any (Cy x)=c.any (Cy x) by simp,qN r fs]
  exact q
 ·obtain⟨c,r,f,j⟩:=I.tuple d
  refine SeqAt.notIn_tupleAt (Cy x) f (λw e=>kh g fx r fs w (by simpa using e)) ⟨.bl _,H,I,rfl,?_⟩
  rw[show c.toArray.any (Cy x)=c.any (Cy x) by simp,qN r fs]
  exact q
def zQ:kd X (.builtin "len") (λxs H Q=>∃p ys,xs= [.ref p]/\(je X.K H p ys\/jo X.K H p ys)/\Q (.int ys.length) H):=by
 intro i s m H xs k Q I r h
 obtain⟨p,ys,rfl,d,q⟩:=h
 obtain⟨u,rfl,rx⟩:=vals1 r
 cases rx
 have l:=mw
 rcases d with d|d
 ·obtain⟨g,e,f,j⟩:=I.list d
  have c:=e.length
  exact Calls.call_len_list f.isList (by simp only[Qjq] <;>omega) ⟨.int ys.length,H,I.tok _,⟨s.toks+1,by rw[Qjq,c]⟩,q⟩
 ·obtain⟨g,e,f,j⟩:=I.tuple d
  have c:=e.length
  exact len_tuple f (by simp only[Qjq] <;>omega) ⟨.int ys.length,H,I.tok _,⟨s.toks+1,by rw[Qjq,c]⟩,q⟩
def wZ:kd X (.type "tuple") (λxs H Q=>∃p ys,xs= [.ref p]/\((je X.K H p ys/\∀l,H l=none->Q (.ref l) (upd H l<|.tup ys))\/(jo X.K H p ys/\Q (.ref p) H))):=by
 intro c s n H xs y Q I r h
 obtain⟨p,ys,rfl,h⟩:=h
 obtain⟨u,rfl,rx⟩:=vals1 r
 cases rx
 rcases h with⟨g,q⟩|⟨g,q⟩
 ·obtain⟨d,i,j,m⟩:=I.list g
  have t:=i.length
  refine call_tuple_list j.isList (λf x=> ?_) (by simp only[Qjq] <;>omega)
  have k:Inv X c n H {s with heap:=f}:=I.kept (t':=s.toks) x
  have v:Inv X c n (upd H f.objs.size<|.tup ys) {s with heap:=f.push {cls:=.type "tuple",data:=.seq d.toArray}}:=
   k.laid (t':=s.toks) (λb o e=>Qcq _ e) (Qmq _) (show dr X.prog X.w _ _ _ (.tup ys) from⟨m,d,i,Cs.new _ _⟩)
  exact⟨.ref f.objs.size,_,v,rfl,q _<|k.hok.fresh<|Qmq _⟩
 ·obtain⟨d,i,j,m⟩:=I.tuple g
  exact call_tuple_same j ⟨.ref p,H,I,rfl,q⟩
def O0(K:PySem.W.Frag)(T:String)(x:V)(H:Hp):Prop:=match x with
 |.str _=>T="str"
 |.int _=>T="int"
 |.ref p=>(T="list" /\∃d,je K H p d)\/(T="tuple" /\∃o,K.lookup p=some o/\o.cls=.type "tuple" /\o.dict=none)∨
   (T="dict" /\((∃c,H p=some (.dK c))\/∃c,H p=some (.dT c)))\/(T="set" /\∃S n,H p=some (.set S n))
 |_=>False
def Hs{T:String}(I:Inv X g u H s)(r:RelV x v)(h:O0 X.K T x H):
  s.TypeIs v T/\∀a,v=.ref a->∃m,s.heap.get? a=some m/\m.dict=none:=by
 cases x with
 | str z=>
   obtain⟨t,rfl⟩:=r
   cases (show T="str" from h)
   exact⟨typeIs_str s z t,λ_ e=>nomatch e⟩
 | int i=>
   obtain⟨t,rfl⟩:=r
   cases (show T="int" from h)
   exact⟨typeIs_int s i t,λ_ e=>nomatch e⟩
 | ref p=>
   cases r
   rcases h with⟨rfl,xs,hq⟩|⟨rfl,o,d,hc,l⟩|⟨rfl,d⟩|⟨rfl,S,n,d⟩
   · obtain⟨w,_,q,_⟩:=I.list hq
     refine⟨q.isList.typeIs,λa e=> ?_⟩
     cases e
     obtain⟨o,n,e,c,l,_⟩:=q
     exact⟨o,e,l⟩
   · refine⟨⟨o,I.kIn p o d,hc⟩,λa e=> ?_⟩
     cases e
     exact⟨o,I.kIn _ o d,l⟩
   · have z:∃o,s.heap.get? p=some o/\o.ExactDict:=by
       rcases d with⟨k,d⟩|⟨k,d⟩
       · obtain⟨_,_,_,_,o,_,_,e,f,_⟩:=I.hok p _ d
         exact⟨o,e,f⟩
       · obtain⟨_,_,_,_,o,_,_,e,f,_⟩:=I.hok p _ d
         exact⟨o,e,f⟩
     obtain⟨o,e,f⟩:=z
     refine⟨⟨o,e,f.1⟩,λa j=> ?_⟩
     cases j
     exact⟨o,e,f.2.1⟩
   · obtain⟨o,_,_,_,e,f,_⟩:=I.hok p _ d
     refine⟨⟨o,e,f.1⟩,λa j=> ?_⟩
     cases j
     exact⟨o,e,f.2.1⟩
 |_=>exact False.elim h
def NW(K:PySem.W.Frag)(T:String)(r:V->List V->Hp->VK->Prop)(d:TE):TE:=λc H Q=>d c H λx H1=>O0 K T x H1/\r x [] H1 Q
def OC(K:PySem.W.Frag)(T:String)(r:V->List V->Hp->VK->Prop)(e:TE)(t:TA):TE:=λc H Q=>e c H λx H1=>O0 K T x H1/\t c H1 λd H2=>r x d H2 Q
variable{o e:Expr}{es:List Expr}{to:TE}{t:TA}{name:Str}{apos cpos:Pos}{T id:String}{r:V->List V->Hp->VK->Prop}
def IK(l:PlainAttrs T)(slot:Slot T name id)(g:typeOf (.builtin id)=pure (.type "method_descriptor"))(m:OO X id r)(q:PE X o to)
  (f:attributeBase o name X.env (eval o X.env)=eval o X.env:=by rfl) (d:(apos.endLine==cpos.line)=true:=by rfl):PE X (.Call (.Attribute o name apos) [] [] cpos) (NW X.K T r to):=by
 intro c s j H Q I h
 refine wpAny_Call_method0_late f d (c_ (q c s j H _ I h) λv p w=> ?_)
 obtain⟨x,H1,i,k,z,u⟩:=w
 obtain⟨n,y⟩:=Hs i k z
 exact⟨T,id,l,slot,g,n,y,Calls.callWith_builtin rfl<|PySem.evalArgs_none<|m c p j H1 x [] v [] Q i k .nil u⟩
def vU(p:PlainAttrs T)(slot:Slot T name id)(k:typeOf (.builtin id)=pure (.type "method_descriptor"))(w:OO X id r)(F:PE X o to)(M:PA X (e::es) t)
  (g:attributeBase o name X.env (eval o X.env)=eval o X.env:=by rfl)
  (i:((backTo cpos (starEach (e::es) X.env)).all (λx=> !x.1)&&(backToKw cpos (keywordEach [] X.env)).all (λx=>x.1.isSome)
   &&decide ((e::es).length+([]:List Keyword).length+(if ([]:List Keyword).isEmpty then 0 else 1)<30))=true:=by rfl)
  (f:(apos.endLine==cpos.line)=true:=by rfl) (hs:starEach (e::es) X.env=(false,eval e X.env)::starEach es X.env:=by rfl) (d:(backTo cpos<|starEach es X.env).any (·.1)=false:=by rfl):
  PE X (.Call (.Attribute o name apos) (e::es) [] cpos) (OC X.K T r to t):=by
 intro c s j H Q I h
 refine wpAny_Call_method_late g i f rfl (c_ (F c s j H _ I h) λv A L=> ?_)
 obtain⟨x,H1,l,m,P,J⟩:=L
 obtain⟨z,N⟩:=Hs l m P
 refine⟨T,id,p,slot,k,z,N,?_⟩
 have n:=M cpos c A j H1 _ l J
 rw[hs] at n⊢
 refine Calls.callWith_builtin (by show(false||(backTo cpos<|starEach es X.env).any (·.1))=false;rw[d] <;>rfl)<|Calls.evalArgs_plain ?_
 exact c_ n λC y ⟨B,H2,q,u,G⟩=>w c y j H2 x B v C Q q m u G
end
def Ml(X:Cx)(id:String)(r:V->List V->Hp->VK->Prop):Prop:=
 ∀ (a:List (Addr×Obj)) (s:Shared) (b:St) (H:Hp) (x:V) (c:List V) (v:Value) (d:List Value) (Q:VK),Inv X a b H s->RelV x v->bI c d->r x c H Q→
   wpAny (model X.prog X.w) X.A (call (.builtin id) (v::d)) (EP X a b Q) X.xe s
def bI.one:∀{x:V} {a:List Value},bI [x] a->∃u,a= [u]/\RelV x u
 |_,_,.cons r .nil=>⟨_,rfl,r⟩
def bI.two:∀{x y:V} {a:List Value},bI [x,y] a->∃u v,a= [u,v]/\RelV x u/\RelV y v
 |_,_,_,.cons r (.cons q .nil)=>⟨_,_,rfl,r,q⟩
def bI.zero:∀{a:List Value},bI [] a->a= []
 |_,.nil=>rfl
theorem bI.dropLast(h:bI xs a):bI xs.dropLast a.dropLast:=by
 induction h with
 |nil=>exact .nil
 | cons r t b=>
   cases t with
   |nil=>exact .nil
   |cons q c=>exact .cons r b
theorem bI.eraseIdx:∀{xs:List V} {a:List Value} (i:Nat),bI xs a->bI (xs.eraseIdx i) (a.eraseIdx i)
 |_,_,_,.nil=>.nil
 |_,_,0,.cons _ t=>t
 |_,_,i+1,.cons r t=>.cons r (bI.eraseIdx i t)
theorem bI.rep(h:bI xs a):∀k:Nat,bI (List.replicate k xs).flatten (List.replicate k a).flatten
 |0=>.nil
 | k+1=>by
   rw[QNq,QNq,List.flatten_cons,List.flatten_cons]
   exact bI.append h<|bI.rep h k
def CP(l:List α):l.eraseIdx (l.length-1)=l.dropLast:=by
 induction l with
 |nil=>rfl
 | cons a r c=>
   cases r with
   |nil=>rfl
   | cons b r=>
     have e:(a::b::r).length-1=((b::r).length-1)+1:=by
       have d:(a::b::r).length=r.length+2:=rfl
       have f:(b::r).length=r.length+1:=rfl
       omega
     rw[e,List.eraseIdx_cons_succ,c]
     all_goals rfl
theorem xU:∀(l:List α) (i:Nat),(l.eraseIdx i).length<=l.length
 | [],_=>Qmq _
 |_::_,0=>Nat.le_succ _
 |_::r,i+1=>Nat.succ_le_succ (xU r i)
theorem foldl_rep(a:List Value):∀(k:Nat) (b:List Value),
  List.foldl (λc f=>c++f) b.toArray (List.replicate k a.toArray)=(b++(List.replicate k a).flatten).toArray
 |0,b=>by simp
 | k+1,b=>by
   have e:b.toArray++a.toArray=(b++a).toArray:=by simp
   have d:(b++a)++(List.replicate k a).flatten=b++(List.replicate (k+1) a).flatten:=by
     rw[QNq,List.flatten_cons,Qvq]
   rw[←d,←foldl_rep a k (b++a),←e,QNq,List.foldl_cons]
section
variable{X:Cx}{pins:List (Addr×Obj)}{σ:St}{H:Hp}{s:Shared}{l b:Addr}{xs ys zs:List V}
def Inv.lset{a its':List Value}{f:Array Value->Array Value}(I:Inv X pins σ H s)(d:H l=some (.lst xs))
  (e:s.heap.get? l=some {cls:=.type "list",data:=.seq a.toArray n}) (g:f a.toArray=its'.toArray) (h:bI ys its') (hz:ys.length<=sizeLine):
  Inv X pins σ (upd H l<|.lst ys) {s with heap:=s.heap.update l (Obj.mapSeq f),toks:=t'}:=by
 have q:=PySem.IsL.update e f
 rw[g] at q
 refine I.write (x:=l) (e:=l) (by rw[d];exact trivial) (.inl rfl) (λj u i c=>(Heap.get?_update_other s.heap (Obj.mapSeq f)<|Ne.symm i).trans c) ⟨_,q⟩ ?_
 exact⟨hz,its',_,h,q⟩
def Inv.lnew(I:Inv X pins σ H s)(c:bI ys a)(hz:ys.length<=sizeLine):
  Inv X pins σ (upd H s.heap.objs.size<|.lst ys) {s with heap:=s.heap.push {cls:=.type "list",data:=.seq a.toArray},toks:=t'}:=
 I.laid (λ_ _ q=>Qcq _ q) (Qmq _) ⟨hz,a,0,c,Qrq _ rfl⟩
def Inv.fresh(I:Inv X pins σ H s):H s.heap.objs.size=none:=I.hok.fresh (Qmq _)
def Inv.lstM(I:Inv X pins σ H s)(c:H l=some (.lst xs)):xs.length<=sizeLine/\∃(a:List Value) (n:Nat),bI xs a/\xs.length=a.length/\s.heap.get? l=some {cls:=.type "list",data:=.seq a.toArray n}:=by
 obtain⟨z,a,n,r,e⟩:=I.hok l _ c
 exact⟨z,a,n,r,r.length,e⟩
def vi(h:n<=sizeLine):Builtin.List.listTooLong n=false:=by
 unfold Builtin.List.listTooLong
 exact Qdq (by omega)
end
section
variable{X:Cx}
def EY:V->List V->Hp->VK->Prop:=λx b H Q=>∃l a y,x=.ref l/\b= [y]/\H l=some (.lst a)/\a.length<sizeLine/\Q .non (upd H l<|.lst (a++ [y]))
def q0:Ml X "list.append" EY:=by
 intro b s k H x g v j Q I c d h
 obtain⟨l,f,y,rfl,rfl,hH,hz,q⟩:=h
 cases c
 obtain⟨u,rfl,ru⟩:=d.one
 obtain⟨z,a,n,r,i,e⟩:=I.lstM hH
 refine call_meets F.slot_list_append ⟨_,e,rfl⟩ F.entry_list_append (F.args_list_append_2 _ _) (PySem.list_append l a.toArray n u (by rw[Qjq];omega)) ⟨e,?_⟩
 refine⟨.non,_,I.lset (its':=a++ [u]) hH e (by simp) (r.append<|.cons ru .nil) ?_,rfl,q⟩
 rw[lQa,List.length_singleton]
 omega
def Ey:V->List V->Hp->VK->Prop:=λx d H Q=>∃l b a c,x=.ref l/\d= [.ref b]/\H l=some (.lst a)/\H b=some (.lst c)/\a.length+c.length<=sizeLine/\Q .non (upd H l<|.lst (a++c))
def Gc:Ml X "list.extend" Ey:=by
 intro g s G H x A v C Q I k p h
 obtain⟨l,b,t,y,rfl,rfl,hH,hB,hz,q⟩:=h
 cases k
 obtain⟨u,rfl,ru⟩:=p.one
 cases ru
 obtain⟨z,c,n,r,B,e⟩:=I.lstM hH
 obtain⟨w,a,j,i,m,o⟩:=I.lstM hB
 have f:c.toArray.size+a.toArray.size<=sizeLine:=by rw[Qjq,Qjq];omega
 have d:¬(!c.toArray.isEmpty&&Builtin.List.listTooLong (c.toArray.size+a.toArray.size))=true:=by
  rw[vi f,Bool.and_false]
  exact Qtq
 refine call_meets F.slot_list_extend ⟨_,e,rfl⟩ F.entry_list_extend (F.args_list_extend_2 _ _)
  (AutoSeq1.list_extend_list_list_0 l c.toArray n b a.toArray j d (by rw[Qjq];omega) (by omega)) ⟨e,o,?_⟩
 refine⟨.non,_,I.lset (its':=c++a) hH e (by simp) (r.append i) ?_,rfl,q⟩
 rw[lQa]
 omega
def M9:V->List V->Hp->VK->Prop:=λx b H Q=>∃l a y,x=.ref l/\b= []/\H l=some (.lst a)/\a[a.length-1]?=some y/\Q y (upd H l<|.lst a.dropLast)
def Mj:Ml X "list.pop" M9:=by
 intro d s t H x o v p Q I f k h
 obtain⟨l,m,y,rfl,rfl,hH,hy,q⟩:=h
 cases f
 have c:=k.zero
 subst c
 obtain⟨z,a,n,r,j,e⟩:=I.lstM hH
 obtain⟨u,i,g⟩:=r.get hy
 have b:a.toArray[a.toArray.size-1]?=some u:=by
  show a.toArray[a.length-1]?=some u
  rw[←Array.getElem?_toList,←j]
  exact i
 refine call_meets F.slot_list_pop ⟨_,e,rfl⟩ F.entry_list_pop (F.args_list_pop_1 _) (MeetsSeq.list_pop_last l a.toArray n u b (by rw[Qjq];omega)) ⟨e,?_⟩
 refine⟨y,_,I.lset (its':=a.dropLast) hH e ?_ r.dropLast ?_,g,q⟩
 ·show a.toArray.eraseIdxIfInBounds (a.toArray.size-1)=a.dropLast.toArray
  rw[Qjq,List.eraseIdxIfInBounds_toArray,CP]
 ·rw[List.length_dropLast]
  omega
def Ip:V->List V->Hp->VK->Prop:=λx b H Q=>∃l a i k y,x=.ref l/\b= [.int i]/\H l=some (.lst a)/\ -(2^63)<=i/\i<2^63/\seqIndex? i a.length=some k/\a[k]?=some y/\Q y (upd H l<|.lst (a.eraseIdx k))
def IZ:Ml X "list.pop" Ip:=by
 intro c s A H x o v p Q I f m h
 obtain⟨l,d,i,k,y,rfl,rfl,hH,h1,h2,hk,hy,q⟩:=h
 cases f
 obtain⟨u,rfl,ru⟩:=m.one
 obtain⟨t,rfl⟩:=ru
 obtain⟨z,a,n,r,g,e⟩:=I.lstM hH
 obtain⟨w,j,b⟩:=r.get hy
 refine call_meets F.slot_list_pop ⟨_,e,rfl⟩ F.entry_list_pop (F.args_list_pop_2 _ _)
  (MeetsSeq.list_pop_at l a.toArray n i t k w (fitsIndex_both h1 h2) (by rw[Qjq,←g];exact hk) (by rw[←Array.getElem?_toList];exact j) (by rw[Qjq];omega)) ⟨e,?_⟩
 refine⟨y,_,I.lset (its':=a.eraseIdx k) hH e ?_ (r.eraseIdx k) ?_,b,q⟩
 ·show a.toArray.eraseIdxIfInBounds k=(a.eraseIdx k).toArray
  rw[List.eraseIdxIfInBounds_toArray]
 ·have:=xU d k
  omega
def Px:R2:=λx y H Q=>∃l b a c,x=.ref l/\y=.ref b/\H l=some (.lst a)/\H b=some (.lst c)/\a.length+c.length<=sizeLine/\∀p,H p=none->Q (.ref p) (upd H p<|.lst (a++c))
def LP:lR X (binaryOp .Add) Px:=by
 intro d s B H x y v u Q I g k h
 obtain⟨l,b,o,w,rfl,rfl,hH,hB,hz,q⟩:=h
 cases g
 cases k
 obtain⟨z,c,n,r,A,e⟩:=I.lstM hH
 obtain⟨p,a,t,f,i,j⟩:=I.lstM hB
 refine PySem.P.add_list e j ?_ (by rw[Qjq,Qjq];omega)
 have m:c.toArray++a.toArray=(c++a).toArray:=by simp
 rw[m]
 exact⟨.ref _,_,I.lnew (t':=s.toks) (r.append f) (by rw[lQa];omega),rfl,q _ I.fresh⟩
def P3:R2:=λx y H Q=>∃l k a,x=.ref l/\y=.int k/\H l=some (.lst a)/\ -(2^63)<=k/\k<2^63/\a.length*k.toNat<=sizeLine∧
 ∀p,H p=none->Q (.ref p) (upd H p<|.lst (List.replicate k.toNat a).flatten)
def len_rep(xs:List α)(k:Nat):(List.replicate k xs).flatten.length=k*xs.length:=by
 induction k with
 |zero=>simp
 |succ k a=>rw[QNq,List.flatten_cons,lQa,a,Nat.succ_mul,Nat.add_comm]
def Mh:lR X (binaryOp .Mult) P3:=by
 intro p s K H x y v u Q I w C h
 obtain⟨l,k,J,rfl,rfl,hH,h1,h2,hz,q⟩:=h
 cases w
 obtain⟨t,rfl⟩:=C
 obtain⟨z,b,n,r,A,e⟩:=I.lstM hH
 have i:b.toArray.size*k.toNat<=sizeLine:=by rw[Qjq,←A];exact hz
 have f:¬b.toArray.size*k.toNat>(2^63-1)/8:=by
  have:(sizeLine:Nat)<=(2^63-1)/8:=by decide
  omega
 have g:¬(!Builtin.List.listFitsIndex k)=true:=by
  rw[fitsIndex_both h1 h2]
  exact Qtq
 have c:¬Builtin.List.listTooLong (b.toArray.size*k.toNat)=true:=by
  rw[vi i]
  exact Qtq
 have d:List.foldl (λo j=>o++j) #[] (List.replicate (if b.toArray.isEmpty=true then 0 else k.toNat) b.toArray)=(List.replicate k.toNat b).flatten.toArray:=by
  have B:∀m:Nat,List.foldl (λo j=>o++j) #[] (List.replicate m b.toArray)=(List.replicate m b).flatten.toArray:=λm=>by
   have:=foldl_rep b m []
   rw[List.nil_append] at this
   exact this
  rw[B]
  cases b with
  |nil=>simp
  |cons a L=>rw[Quq (by simp)]
 refine wpAny_binaryOp_repeat_ref (T:="list") (U:="int") (by decide) ⟨_,e,rfl⟩ (λG=>typeIs_int G k t) noFill_list_mul F.fills_int_mul F.slot_int_rmul repeat_list F.slot_int_index.lookup
  (call_meets F.slot_int_rmul (typeIs_int s k t) F.entry_int_rmul (F.args_int_rmul_2 _ _) (int___rmul___int_list k t l b.toArray n)
   ⟨e,rfl,⟨_,e,rfl⟩,call_meets F.slot_list_mul ⟨_,e,rfl⟩ F.entry_list_mul (F.args_list_mul_2 _ _) (AutoListH.list___mul___list_int_3 l b.toArray n k t g f c) ⟨e,?_⟩⟩)
 rw[d]
 exact⟨.ref _,_,I.lnew (t':=s.toks) (r.rep k.toNat) (by rw[len_rep,Nat.mul_comm];exact hz),rfl,q _ I.fresh⟩
end
end L2
namespace Att
open PySem PySem.W PySem.Calls PyProof.Rows
def uw:∀(ns:List Int) (vs:List Value),WellAll P h vs (ns.map WData.int)->IntsAre vs ns:=by
 intro ns
 induction ns with
 | nil=>
   intro vs w
   rw[List.map_nil] at w
   cases w
   exact .nil
 | cons n ns c=>
   intro vs w
   rw[QDq] at w
   cases w with
   | cons a b=>
     cases a
     exact .cons _ _ (c _ b)
def FR{l:OpenLaw}(p:l.most=some n)
  (b:l.row.toRowW.claim.pre args=true) (j:WellAll P h vals args):
  ∃a vs ns,vals= [Value.ref a]/\args= [WData.list (ns.map WData.int)]/\h.get? a=some {cls:=.type "list",data:=.seq vs.toArray}/\IntsAre vs ns/\ns.length<=n:=by
 have i:WShape.hasAll [] args [.list .int]=true:=(pre_splitW b).1
 have k:l.pre.holds [] {args:=args}=true:=(pre_splitW b).2
 obtain⟨d,r,rfl,h1,h2⟩:=hasAllW_cons i
 obtain rfl:=hasAllW_nil h2
 obtain⟨u,rfl,h3⟩:=hasW_list h1
 obtain⟨ns,rfl⟩:=items_int h3
 have e:ns.length<=n:=by
  unfold OpenLaw.pre at k
  have f:(WTm.not<|.lt (.lit (.int (n:Int))) (.len (.arg 0))).holds [] {args:= [.list (ns.map .int)]}=true:=by
   have f:=(holds_andW k).1
   rw[p] at f
   exact f
  have g:=condW_of f (w_not<|w_lt w_lit<|w_len_list<|w_arg rfl)
  rw[lQm] at g
  refine Nat.le_of_not_lt λq=> ?_
  have m:(n:Int)<((ns.length:Nat):Int):=by omega
  first
   |(rw[Qeq m] at g;exact absurd g (by decide))
   |(simp at g;omega)
 cases j with
 | cons o s=>
   cases s
   cases o with
   |list t c=>exact⟨_,_,ns,rfl,rfl,t,uw ns _ c,e⟩
def Gp(l:OpenLaw)(args:List WData):l.row.toRowW.claim.post args (.bool true) args=true:=
 postW_of (r:=l.row.toRowW) (X:=(true==true))
  (show WShape.has [] (.bool true) .bool=true by first|rfl|decide|simp[WShape.has,WShape.arms,WShape.armsAll])
  (show(WTm.eq .res<|.lit (.bool true)).value [] {args:=args,res:=some (.bool true),after:=args}=some (.bool (true==true)) from w_eq_bool (w_res rfl) w_lit) rfl
def Bi{l:OpenLaw}{x:World->Heap->Prop}{d:DefRec}
  (J:l.most=some n) (u:d.params.defaults= [])
  (i:∀(w:World) (s₀ b:Shared) (mg m:Str->Option Value) (h:Addr) (o:Obj) (pm j e:Value) (a:Addr) (vs:List Value) (ns:List Int),
   Ground q c [] A w s₀ mg m b.heap->x w b.heap→
   b.heap.get? h=some o->o.data=.func (docDef d.name d.params d.body d.scope pm j e)->b.heap.CodeRec j d.name->mg d.name=some (.ref h)→
   b.heap.get? a=some {cls:=.type "list",data:=.seq vs.toArray}->IntsAre vs ns->ns.length<=n->b.gens= #[]→
   codeAny (model l.prog w) callerA (.call (.ref h) ⟨[.ref a],[]⟩) (λr k=>r=.ok (.ret (.bool true))/\OldK b.heap k.heap/\k.os=b.os/\AllBare k.gens) b):
  WalkO q c A x l.row.toRowW d [] (λf vs=>PySem.call f vs):=by
 intro w s₀ b mg m G Y h o pm j e F kV K M t B p I y v P g z N s H
 obtain rfl:F=.none:=Dflts.none B u
 obtain rfl:kV=.none:=Dflts.noKw B
 obtain⟨a,vs,ns,rfl,rfl,hobj,hints,hlen⟩:=FR J g s
 refine enter_call (codeAny_mono (i w s₀ b mg m h o pm j e a vs ns G Y K (fd_plain M) t p hobj hints hlen I) λr k L=> ?_)
 obtain⟨rfl,h2,h3,h4⟩:=L
 exact⟨.inl ⟨.bool true,.bool true,[],rfl,λ_=>rfl,.bool true,Gp l _,λ_=>⟨List.Pairwise.nil,λ_ C=>(nomatch C)⟩⟩,h2,h3,h4⟩
end Att
namespace L2
open PySem PySem.Spec PyProof.Rows
theorem yc:∀{vs:List Value} {ns:List Int},IntsAre vs ns->bI (ns.map V.int) vs
 |_,_,.nil=>.nil
 |_,_,.cons n t h=>.cons ⟨t,rfl⟩ (yc h)
def JB(H:Hp):Prop:=∀b,H b=none\/∃o a,H b=some (.frz o (.lst a))
def HC{K:PySem.W.Frag}{c:Shared}{vs:List Value}
  (KX:K.In c.heap) (J:c.heap.Ns mainGlobals mg) (g:c.heap.Ns builtinsNs U) (S:∀x:Str,x≠"__name__" ->U x=bootBuiltins x) (A:c.heap.NoLimit) (hg:c.gens= #[])
  (N:c.heap.get? a=some {cls:=.type "list",data:=.seq vs.toArray}) (hi:IntsAre vs ns) (hl:ns.length<=sizeLine) (hr:fZ k callerA)
  (F:∀base:Heap,K.In base->base.Ns mainGlobals mg->bh P w K mg base CX k X fd [x] sp) (p:∀(s:Shared) (u:Value),BindsTo s fd ⟨[u],[]⟩ [(x,u)])
  (R:∀H:Hp,JB H->je K H a (ns.map V.int)->sp [.ref a] H (λv _=>v=.bl true) λ_ _ _=>False)
  (Z:∀H e i,CX [] H c (λ_ _ _=>False) e i->False):
  codeAny (model P w) callerA (.call (.ref X) ⟨[.ref a],[]⟩) (λr i=>r=.ok (.ret (.bool true))/\OldK c.heap i.heap/\i.os=c.os/\AllBare i.gens) c:=by
 have rv:=yc hi
 have L:=hi.length
 have l:∀H:Hp,JB H->je K H a (ns.map V.int)->p0 P w H c.heap->(∀b,H b≠none->b=a)->(H a≠none->K.lookup a=none)→
   codeAny (model P w) callerA (.call (.ref X) ⟨[.ref a],[]⟩) (λr i=>r=.ok (.ret (.bool true))/\OldK c.heap i.heap/\i.os=c.os/\AllBare i.gens) c:=by
  intro H hO hS y hA hK
  have f:∀{b:Addr} {o:Obj},c.heap.get? b=some o->H b=none->(y8 c.heap H).get? b=some o:=λe n=>GQ e n
  have Y:∀{b:Addr} {o:Obj} {C:Array DictEntry} {t:Nat},c.heap.get? b=some o->o.data=.dict C t->H b=none:=λ{b o C t} e d=>by
   cases q:H b with
   |none=>rfl
   | some u=>
     have e':b=a:=hA b (by rw[q];simp)
     subst e'
     rw[N] at e;cases e
     have d':Data.seq vs.toArray _=Data.dict C t:=d
     cases d'
  have j:∀{b:Addr} {m:Str->Option Value},c.heap.Ns b m->(y8 c.heap H).Ns b m:=λ{b m} ⟨o,C,t,e,d,r⟩=>⟨o,C,t,f e<|Y e d,d,r⟩
  have G:K.In (y8 c.heap H):=λb o e=>f (KX b o e) (by
   cases q:H b with
   |none=>rfl
   | some u=>
     have e':b=a:=hA b (by rw[q];simp)
     subst e'
     rw[hK (by rw[q];simp)] at e;cases e)
  have hM:Mod K mg (y8 c.heap H):=⟨G,j J,⟨U,j g,S⟩,let ⟨mc,h1,h2⟩:=A;⟨mc,j h1,h2⟩⟩
  have e0:JQ P w K mg (y8 c.heap H) callerA [] c H:=⟨rfl,hM,λb o e=>Jx e,Nat.le_of_eq<|Fo _ _,trivial,λb g=>absurd (show b∈([]:List Addr) from g) (by simp),y,.of_eq hg⟩
  refine codeAny_mono ((F _ G<|j J).run callerA [] c H ⟨[.ref a],[]⟩ [.ref a] [.ref a] _ _ hr e0 (p c<|.ref a) (.cons rfl .nil) (R H hO hS)) λr i h=> ?_
  cases r with
  |error e=>exact(Z H e i h).elim
  | ok fl=>
    cases fl with
    |next=>exact False.elim h
    |brk=>exact False.elim h
    |cont=>exact False.elim h
    | ret u=>
      obtain⟨v,H',os,B,un,I,r',q⟩:=h
      have q':v=.bl true:=q
      subst q'
      obtain rfl:u=Value.bool true:=r'
      refine⟨rfl,OldK.of_keep λb o e=> ?_,os,B⟩
      cases q:H b with
      |none=>exact un.keep b o e q (by intro z;exact absurd (show b∈([]:List Addr) from z) (by simp)) (by simp)
      | some u=>
        rcases hO b with z|⟨ob,xs,z⟩
        · rw[q] at z;cases z
        · have z2:=un.frzs b ob _ z
          obtain⟨e1,_⟩:=y b _ z
          obtain⟨e2,_⟩:=I b _ z2
          rw[e] at e1;cases e1
          exact e2
 cases Q:K.lookup a with
 | some o=>
   have e:=KX a o Q
   rw[N] at e
   cases e
   refine l (λ_=>none) (λ_=>.inl rfl) (.inr ⟨_,vs.toArray,_,Q,rfl,rfl,rfl,by rw[Qjq,L];exact hl,by simpa using rv⟩) (λb u z=>by have M:(none:Option HO)=some u:=z;cases M) (λb z=>absurd rfl z) λz=>absurd rfl z
 | none=>
   refine l (λb=>if b=a then some (.frz {cls:=.type "list",data:=.seq vs.toArray} (.lst (ns.map V.int))) else none) (λb=> ?_) (.inl (.inr ⟨{cls:=.type "list",data:=.seq vs.toArray},Qhq rfl⟩)) (λb u z=> ?_) (λb z=> ?_) λ_=>Q
   · by_cases g:b=a
     · exact .inr ⟨_,_,Qhq g⟩
     · exact .inl (Quq g)
   · by_cases g:b=a
     · have M:=(Qhq g).symm.trans z
       cases M
       subst g
       exact⟨N,by rw[lQm];exact hl,vs,_,rv,N⟩
     · have M:=(Quq g).symm.trans z
       cases M
   · by_cases g:b=a
     · exact g
     · exact absurd (Quq g) z
def JE{l:PySem.W.OpenLaw}{L:World->Heap->Prop}{d:DefRec}{K:Params->PySem.W.Frag}{CX:World->GC}{sp:World->Sp}
  (Q:l.most=some n) (y:n<=sizeLine) (C:d.params.defaults= []) (N:fZ k callerA)
  (hY:∀(w:World) (h:Heap),L w h->(K w.params).In h)
  (F:∀(w:World) (mg:Str->Option Value) (r:Addr) (h:Heap),(K w.params).In h->h.Ns mainGlobals mg->mg d.name=some (.ref r)→
   ∃ t:FuncData,(∀(s:Shared) (u:Value),BindsTo s t ⟨[u],[]⟩ [(x,u)])∧
     ∀base:Heap,(K w.params).In base->base.Ns mainGlobals mg->bh l.prog w (K w.params) mg base (CX w) k r t [x] (sp w))
  (A:∀(w:World) (H:Hp) (a:Addr) (ns:List Int),ns.length<=n->JB H->je (K w.params) H a (ns.map V.int)->sp w [.ref a] H (λv _=>v=.bl true) λ_ _ _=>False)
  (B:∀(w:World) (H:Hp) (s:Shared) (e:Value) (I:Shared),CX w [] H s (λ_ _ _=>False) e I->False):
  PySem.W.WalkO q i Z L l.row.toRowW d [] (λf vs=>PySem.call f vs):=by
 refine Att.Bi Q C λw M m mg mb r o pm cd a0 a vs ns G Y ho hd U z p j c P=> ?_
 have J:=hY w _ Y
 obtain⟨t,S,X⟩:=F w mg r _ J G.T.g z
 exact HC J G.T.g G.T.b G.T.builtins G.T.nolimit P p j (QAq c y) N X S (λH hO R=>A w H a ns c hO R) λH e I=>B w H m e I
def iD(s:Stmt):Arguments:=match s with
 |.FunctionDef _ a _ _ _ _ _ _ _ _=>a
 |_=>{posonlyargs:= [],args:= [],vararg:=none,kwonlyargs:= [],kw_defaults:= [],kwarg:=none,defaults:= []}
def fM(s:Stmt):List Stmt:=match s with
 |.FunctionDef _ _ b _ _ _ _ _ _ _=>b
 |_=> []
def aB(s:Stmt):Scope:=match s with
 |.FunctionDef _ _ _ _ _ _ a _ _ _=>a
 |_=>{kind:=.function,names:= [],isGenerator:=false,isCoroutine:=false}
abbrev dm:GC:=λ_ _ _ _ _ _=>False
abbrev E0:XK:=λ_ _ _=>False
def mW:DE dm X E0:=λ_ _ _ _ _ _ _ h=>h.elim
structure dQ(K:PySem.W.Frag)(x qual:Str)(st:Stmt)(f:Addr)(fd:FuncData):Prop where
 ex:∃(oc:Value) (od:Option Addr) (kV doc pm:Value) (an:Option Addr) (cdv ct:Value) (osl:Array (Option Value)),
  fd=PySem.W.fnOf x qual (iD st) (fM st) (aB st) .none kV doc pm an cdv ct/\K.lookup f=some ⟨oc,od,.func fd,osl⟩/\PySem.W.codeIn K cdv qual=true
 kp:PySem.W.keepIn K (.ref f)=true
section
variable{P:Program}{w:World}{K:PySem.W.Frag}{mg:Str->Option Value}{base:Heap}
def dQ.ok{x a:Str}{st:Stmt}{f:Addr}{e:FuncData}{N ps:List Str}{k:Nat}{sp:Sp}(F:dQ K x a st f e)(S:aF N ps (aB st))(len:∀vs H Q E,sp vs H Q E->vs.length=ps.length)
  (c:∀(b:Value) (A:Around) (outer:List Env) (s:Shared) (H:Hp) (vs:List V) (Q:VK) (E:XK),fZ k (A.deeper (envOfC a (aB st) s.heap.objs.size f b))->sp vs H Q E→
   ∃t,uA (Bp dm P w K mg base N a (aB st) f b A outer s H E).nox (fM st) t/\t {nx:=λ_ j=>Q .non j,rt:=Q} (start N vs) H):bh P w K mg base dm (k+1) f e ps sp:=by
 obtain⟨n,r,kV,l,m,o,b,p,g,rfl,lk,hcd⟩:=F.ex
 refine Nv lk hcd S len λA outer s H vs Q E i d=> ?_
 obtain⟨t,h,q⟩:=c b A outer s H vs Q E i d
 exact⟨t,h.nox,q⟩
def dQ.binds{x a:Str}{st:Stmt}{f:Addr}{g:FuncData}{ps:List Str}(F:dQ K x a st f g)
  (h:∀(kV c pm:Value) (e:Option Addr) (b ct:Value) (d:List Value),d.length=ps.length->bindArgs (PySem.W.fnOf x a (iD st) (fM st) (aB st) .none kV c pm e b ct) ⟨d,[]⟩=pure (ps.zip d)):Binds K g ps []:=by
 obtain⟨k,j,kV,c,pm,e,b,ct,i,rfl,lk,hcd⟩:=F.ex
 exact .all (h kV c pm e b ct)
def C0{x a:Str}{st:Stmt}{f:Addr}{i:Value}{h g:Option Addr}{e:Array (Option Value)}{kV d pm b ct:Value}(l:K.lookup f=some ⟨i,h,.func (PySem.W.fnOf x a (iD st) (fM st) (aB st) .none kV d pm g b ct),e⟩)
  (c:PySem.W.codeIn K b a=true) (k:PySem.W.keepIn K (.ref f)=true):dQ K x a st f (PySem.W.fnOf x a (iD st) (fM st) (aB st) .none kV d pm g b ct):=⟨⟨i,h,kV,d,pm,g,b,ct,e,rfl,l,c⟩,k⟩
end
def Es(a:fZ k A):A.units+1<cLine:=Nat.lt_of_le_of_lt (Nat.add_le_add_left (by decide:1<=64) _) a.units
def bq(h:n<=1000):n<sizeLine:=Nat.lt_of_le_of_lt h (by decide)
section
variable{X:Cx}
def pv(i:Nat)(c:X.N[i]?=some x:=by rfl)(b:KF X.env.scope x:=by first|exact Or.inl rfl|exact Or.inr (Or.inl rfl)|exact Or.inr (Or.inr rfl))(hd:(x==("__debug__":Str))=false:=by decide)
  (a:(x==("__classdict__":Str))=false:=by decide):PE X (.Name x pos) (K9 i):=GH c b hd a
end
section
variable{prog:Program}{w:World}{A:Around}{s:Shared}
def qM{R:Result->Shared->Prop}(I:Nat->Shared->Prop)
  (u:∀n s,I n s->wpAny (model prog w) A (pyNext it) (λr d=>match r with
   |none=>R (.ok .next) d
   |some v=>wpAny (model prog w) A (letOwnedTupleGo a it v) (λ_ f=>wpAny (model prog w) A (assign a env v) (λ_ g=>
     wpAny (model prog w) A (forIn q true λc r=>if r=true then do let ok←isTrue c env (eval c env);pure (ForInStep.yield ok) else pure (ForInStep.yield r)) (λok s₃=>
      if ok=true then wpAny (model prog w) A (eval p env) (λx k=>
       wpAny (model prog w) A (call (.builtin "list.append") [t,x]) (λ_ l=>∃m,m<n/\I m l) (λ_ _=>False) k) (λ_ _=>False) s₃
      else∃m,m<n/\I m s₃) (λ_ _=>False) g) (λ_ _=>False) f) (λ_ _=>False) d) (λ_ _=>False) s)
  (n:Nat) (h:I n s):codeAny (model prog w) A (.compLoop (.ListComp p [⟨a,i,q,0⟩] e pos) 0 it t env) R s:=by
 refine codeAny_loop rfl I (λn s C=> ?_) n h
 show wpAny _ A ((compTurn (.ListComp p [⟨a,i,q,0⟩] e pos) 0 it t env).onRaise (λx=>do noteFrame x env;theTreesLotGoes x)) _ _ s
 refine wpAny_noted ?_
 rw[compTurn_list]
 refine Qaq<|wpAny_standAt<|Qaq (QRq (u n s C) (λr d j=> ?_) λ_ _ b=>b.elim)
 cases r with
 |none=>exact Qgq j
 | some v=>
   refine Qaq (QRq j (λ_ f o=> ?_) λ_ _ b=>b.elim)
   refine Qaq (QRq o (λ_ g B=>Qaq (QRq B (λok s₃ h₃=> ?_) λ_ _ b=>b.elim)) λ_ _ b=>b.elim)
   cases ok with
   |false=>exact Qgq ⟨rfl,h₃⟩
   | true=>
     exact Qaq<|Qaq (QRq h₃ (λx k z=>Qaq (QRq z (λ_ l y=>Qgq<|Qgq ⟨rfl,y⟩) λ_ _ b=>b.elim)) λ_ _ b=>b.elim)
end
def aP(X:Cx)(N:List Str)(a:Scope)(b:List (Str×Addr))(C:Addr)(s:Shared)(H:Hp)(fp:List Addr):Cx where
 prog:=X.prog
 w:=X.w
 K:=X.K
 mg:=X.mg
 base:=X.base
 A:=X.A
 N:=N
 s₀:=s
 H₀:=H
 env:=compEnvC a b C X.env
 outer:=X.stack
 stack:=X.stack
 ex:=fp
 fn:=λ_=>false
 calm:=X.calm
 pn:= []
 xe:=λ_ _=>False
def kB(js:List (Option Nat))(a:St):St:=js.map λo=>o.bind λj=>a.getD j none
structure aL(X:Cx)(N:List Str)(js:List (Option Nat))(scope:Scope)(cl:List (Str×Addr)):Prop where
 kind:scope.kind=.function
 nocell:∀y∈scope.names,y.2≠.cell
 names:∀y∈scope.names,y.2=.local->scope.names.lookup y.1=some .local
 clos:closureFor scope X.env=pure cl
 sub:∀x c,cl.lookup x=some c->X.env.cells.lookup x=some c
 has:∀x,((relabel scope X.env).names.lookup x=some .cell\/(relabel scope X.env).names.lookup x=some .free)->∃c,cl.lookup x=some c
 cap:∀(k j:Nat) (x:Str),js[k]?=some (some j)->N[k]?=some x->X.N[j]?=some x/\(X.env.kindOf x=some .cell\/X.env.kindOf x=some .free)/\((relabel scope X.env).names.lookup x=some .cell\/(relabel scope X.env).names.lookup x=some .free)
 len:js.length=N.length
def pG(X:Cx)(d:List Expr)(t:TT):Prop:=
 ∀ (a:List (Addr×Obj)) (s:Shared) (b:St) (H:Hp) (Q:Bool->Hp->Prop),Inv X a b H s->t b H Q→
   wpAny (model X.prog X.w) X.A (forIn d true λc r=>if r=true then do let ok←isTrue c X.env (eval c X.env);pure (ForInStep.yield ok) else pure (ForInStep.yield r)) (TP X a b Q) X.xe s
def Ln:pG X [] (λ_ H Q=>Q true H):=λ_ _ _ H _ I h=>wpAny_tests_nil ⟨H,I,h⟩
def LO(d:PT X c t):pG X [c] t:=λa s b H Q I h=>
 wpAny_tests_one (c_ (d a s b H Q I h) λok s' h'=>h')
def Ox(J:It)(g:TG)(n:TT)(k:TE)(Q:VK)(D:Addr)(l:St)(H:Hp):Prop:=
 ∃ W:Nat->Nat->St->Hp->Prop,(∃m,W 0 m l H)/\∀i m c d,W i m c d→
   (J.stop i d/\Q (.ref D) d)\/(J.go i d/\∃h:St->Hp->Prop,(∀b e,h b e->∃j,j<m/\W (i+1) j b e)∧
     ∀ x H2,J.yld i d x H2->g x c H2 λa H3=>n a H3 λok H4=>
       if ok=true then k a H4 λy H5=>∃f,H5 D=some (.lst f)/\f.length<sizeLine/\h a (upd H5 D (.lst (f++ [y]))) else h a H4)
def Ic(js:List (Option Nat))(c:TI)(g:TG)(d:TT)(b:TE):TE:=λa H Q=>c a H λJ H1=>∀D,H1 D=none->Ox J g d b Q D (kB js a) (upd H1 D<|.lst [])
def KC
  (S:aL X N js a P) (hc:X.calm=true) (hi:PI X tg R wi)
  (hg:∀C s H fp,PG (aP X N a P C s H fp) tg g) (ht:∀C s H fp,pG (aP X N a P C s H fp) b3 tt) (he:∀C s H fp,PE (aP X N a P C s H fp) b1 te)
  (hs:∀x,foldedSetIterable R X.env x=pure x:=by intro _;rfl):PE X (.ListComp b1 [⟨tg,R,b3,0⟩] a pos) (Ic js wi g tt te):=by
 intro a5 s σ H Q I h
 rw[eval_ListComp]
 refine wpAny_comprehension_free (use:=none) rfl hs S.clos S.kind S.names (c_ (hi a5 s σ H _ I h) λv s1 h1=>c_ h1 λd4 f h2=> ?_)
 obtain⟨it,fp,tn,J,H2,e,B,T,b4,f2,hD⟩:=h2
 subst e
 refine QhQ<|wpAny_newFunctionEnv S.nocell (by intro y hy;simp at hy) (λL G t=> ?_) S.kind
 dsimp only at G t⊢
 generalize b2:f.heap.push {cls:=.type "list",dict:=none,data:=.seq ([]:List Value).toArray}=P2 at G t⊢
 have hC:P2.objs.size=f.heap.objs.size+1:=by rw[←b2,Heap.size_push]
 have c6:f.heap.objs.size≠P2.objs.size:=by rw[hC];exact Qwq (Nat.lt_succ_self _)
 have a6:f.heap.objs.size<=P2.objs.size:=by rw[hC];exact Nat.le_succ _
 have F:∀b,b<f.heap.objs.size->b≠P2.objs.size:=λb k=>by rw[hC];exact Qwq (Nat.lt_succ_of_lt k)
 have U:∀b o,f.heap.get? b=some o->L.get? b=some o:=λb o e=>t.extBut b o (F b<|Qiq e) (Qcq _ (b2▸Qcq _ e))
 have c9:L.get? f.heap.objs.size=some {cls:=.type "list",dict:=none,data:=.seq ([]:List Value).toArray}:=t.extBut _ _ c6 (Qcq _ (b2▸Qrq _ rfl))
 have nD:H2 f.heap.objs.size=none:=B.fresh
 have nC:H2 P2.objs.size=none:=B.hok.fresh a6
 have b5:∀b∈fp,b<f.heap.objs.size:=λb k=>by
  obtain⟨o,e,_⟩:=T.obj _ _ b4 b k
  exact Qiq e
 obtain⟨W,⟨m0,w0⟩,c4⟩:=hD f.heap.objs.size nD
 have c0:(aP X N a P P2.objs.size f H2 fp).Ok:=by
  refine⟨B.ok.mod,S.kind,B.ok.glob,B.ok.blt,a6,λx y c h1 h2=>B.ok.inj x y c (S.sub x c h1) (S.sub y c h2),S.has,(λx c h=>by cases h),B.ok.hd,B.ok.frames,.inl rfl,
   λb k=>⟨F b (b5 b k),λx c h=>(f2 b k).2.2.2.2.1 x c (S.sub x c h)⟩,B.bs,QAq B.ok.bsz B.sz,λb o e k=> ?_,λb k z=> ?_,B.stack,B.stkFree⟩
  ·rcases(f2 b k).2.2.2.1 with z|z
   ·exact B.ok.noex b o e z
   ·exact absurd (Qqq (Qqq (Qiq e) B.ok.bsz) z)<|Nat.lt_irrefl _
  ·rcases Qsq.mp (B.stkSub b z) with q|q
   ·exact(f2 b k).2.1 q
   ·exact(f2 b k).2.2.1 q
 have b9:dr X.prog X.w (upd H2 f.heap.objs.size<|.lst []) L f.heap.objs.size (.lst []):=⟨Nat.zero_le _,[],0,.nil,c9⟩
 have I4:Inv (aP X N a P P2.objs.size f H2 fp) [] (kB js σ) (upd H2 f.heap.objs.size<|.lst []) {f with heap:=L,toks:=f.toks+([]:List (Str×Value)).length}:=by
  refine⟨c0,rfl,B.bare,Un.laid U (Qmq _) nD,⟨_,G,λi x v h1 h2 h3=> ?_⟩,λx c h=> ?_,by show upd H2 _ _ P2.objs.size=none;rw[bx c6.symm];exact nC,λx c h=> ?_,λp hp=>absurd (show p∈([]:List (Addr×Obj)) from hp) (by simp),B.hok.laid U (Qmq _) b9,by show(kB js σ).length=N.length;unfold kB;rw[lQm];exact S.len⟩
  ·unfold kB at h2
   rw[gQm] at h2
   cases e:js[i]? with
   |none=>rw[e] at h2;cases h2
   | some o=>
     rw[e] at h2
     cases o with
     |none=>cases h2
     | some j=>
       have a1:σ.getD j none=some v:=QdQ h2
       have hj:σ[j]?=some (some v):=by
         rw[Qlq] at a1
         cases q:σ[j]? with
         |none=>rw[q] at a1;cases a1
         |some y=>rw[q] at a1;exact congrArg some a1
       obtain⟨c1,c2,c3⟩:=S.cap i j x e h1
       obtain⟨m,hn,hl⟩:=B.loc
       have d2:KF X.env.scope x:=by
         rcases c2 with z|z
         · exact .inr (.inl z)
         · exact .inr (.inr z)
       obtain⟨u,r,l⟩:=hl j x v c1 hj d2
       refine⟨u,r,.inr ⟨c3,?_⟩⟩
       obtain⟨c,b8⟩:=S.has x c3
       refine⟨c,b8,?_⟩
       rcases l with⟨z,_⟩|⟨_,c',e',z⟩
       · rcases c2 with y|y <;>rw[y] at z <;>cases z
       · rw[S.sub x c b8] at e'
         cases e'
         obtain⟨o,ho,hd⟩:=z
         exact⟨o,U _ _ ho,hd⟩
  ·obtain⟨v,o,ho,hd⟩:=B.cell x c (S.sub x c h)
   exact⟨v,o,U _ _ ho,hd⟩
  ·obtain⟨v,o,ho,hd⟩:=B.cell x c (S.sub x c h)
   rw[bx (Qwq<|Qiq ho)]
   exact B.freeC x c<|S.sub x c h
 have a2:∀{M:List (Addr×Obj)} {Z:Hp},M= []->(∀b∈fp,Z b=none)->∀b∈fp,sj (aP X N a P P2.objs.size f H2 fp) M Z b:=λ{M Z} ep hn b k=>by
  subst ep
  refine⟨hn b k,F b<|b5 b k,λz=>c0.exfs b k z,.inl k,λx c h=>(f2 b k).2.2.2.2.1 x c (S.sub x c h),λp hp=>absurd (show p∈([]:List (Addr×Obj)) from hp) (by simp)⟩
 have a8:codeAny (model X.prog X.w) X.A (.compLoop (.ListComp b1 [⟨tg,R,b3,0⟩] a pos) 0 (.ref it) (.ref f.heap.objs.size) (compEnvC a P P2.objs.size X.env))
   (compPost (model X.prog X.w) X.A X.xe none (EP X a5 σ Q) (.ref f.heap.objs.size) P2.objs.size) {f with heap:=L,toks:=f.toks+([]:List (Str×Value)).length}:=by
  refine qM (λn s'=>∃i a0 Z,Inv (aP X N a P P2.objs.size f H2 fp) [] a0 Z s'/\tn i s'.heap/\(∀b∈fp,Z b=none)/\W i n a0 Z) ?_ m0
   ⟨0,_,_,I4,T.keep _ _ _ b4 λb _ o e=>U b o e,λb k=>by rw[bx (Qwq<|b5 b k)];exact(f2 b k).1,w0⟩
  rintro n s3 ⟨i,a4,H3,I3,b7,b6,w3⟩
  rcases c4 i n a4 H3 w3 with⟨stop,q⟩|⟨go,Nx,hN,c5⟩
  ·refine c_ (T.done (aP X N a P P2.objs.size f H2 fp) rfl rfl rfl hc i [] s3 a4 H3 _ I3 (a2 rfl b6) b7 stop) λr s4 Y=> ?_
   obtain⟨hr,I5⟩:=Y
   subst hr
   obtain⟨m,hn,_⟩:=id I5.loc
   refine⟨m,hn,λh' a3=>⟨.ref f.heap.objs.size,H3,?_,rfl,q⟩⟩
   have u:=I5.base
   have ne:∀b o,f.heap.get? b=some o->b≠P2.objs.size:=λb o e=>F b (Qiq e)
   refine B.call' (ch:=fp) I5.os ⟨λb o e n k hx=>(a3.2 b<|ne b o e).trans (u.keep b o e n k hx),λb o e n k hx=> ?_,u.free,λb o e hx=> ?_,u.tups,u.frzs,u.tbls⟩ (λb ob e=> ?_) I5.bare λb k=>⟨(f2 b k).2.2.2.1,(f2 b k).2.1,(f2 b k).2.2.2.2.1,(f2 b k).2.2.2.2.2⟩
   ·obtain⟨sl,e1⟩:=u.slot b o e n k hx
    exact⟨sl,(a3.2 b<|ne b o e).trans e1⟩
   ·obtain⟨o',e1⟩:=u.there b o e hx
    exact⟨o',(a3.2 b<|ne b o e).trans e1⟩
   ·refine(I5.hok b ob e).stay (λc w' hc q=>(a3.2 c ?_).trans q) (λ_ q=>q) λ_ _ q=>q
    have fC:H3 P2.objs.size=none:=I5.free
    rintro rfl
    rcases hc with z|z
    ·rw[←z,fC] at e;cases e
    ·rw[fC] at z;cases z
  ·refine c_ (T.item (aP X N a P P2.objs.size f H2 fp) rfl rfl rfl hc i [] s3 a4 H3 _ I3 (a2 rfl b6) b7 go) λr s4 Y=> ?_
   obtain⟨u,hr,h4⟩:=Y
   subst hr
   refine c_ h4 λ_ s5 Y=> ?_
   obtain⟨x,H5,I5,r5,y5,b0,d1⟩:=Y
   have d3:=I5.pinned (a2 rfl d1) (T.obj _ _ b0)
   refine c_ (hg P2.objs.size f H2 fp _ s5 a4 H5 x u _ d3 r5<|c5 x H5 y5) λ_ s6 Y=> ?_
   obtain⟨K,H6,I6,q6⟩:=Y
   refine c_ (ht P2.objs.size f H2 fp _ s6 K H6 _ I6 q6) λok s7 Y=> ?_
   obtain⟨H7,I7,q7⟩:=Y
   have again:∀{s8:Shared} {H8:Hp},Inv (aP X N a P P2.objs.size f H2 fp) ([]++oS fp s5.heap) K H8 s8->Nx K H8->∃m,m<n/\∃i a0 Z,Inv (aP X N a P P2.objs.size f H2 fp) [] a0 Z s8/\tn i s8.heap/\(∀b∈fp,Z b=none)/\W i m a0 Z:=λ{s8 H8} I8 n8=>by
    obtain⟨m',hm,w8⟩:=hN K H8 n8
    refine⟨m',hm,i+1,K,H8,I8.unpinned,T.keep _ _ _ b0 λb k o e=>(I8.pin (b,o)<|Qoq _<|Qoq _<|dI k e).1,λb k=> ?_,w8⟩
    obtain⟨o,e,d⟩:=T.obj _ _ b0 b k
    exact(I8.pin (b,o)<|Qoq _<|Qoq _<|dI k e).2.1
   cases ok with
   |false=>exact again I7 q7
   | true=>
     refine c_ (he P2.objs.size f H2 fp _ s7 K H7 _ I7 q7) λyv s8 Y=> ?_
     obtain⟨y,H8,I8,ry,xs,hx,hl,n8⟩:=Y
     refine c_ (q0 (X:=aP X N a P P2.objs.size f H2 fp) _ s8 K H8 (.ref f.heap.objs.size) [y] (.ref f.heap.objs.size) [yv] (λ_ Z=>Nx K Z) I8 rfl (.cons ry .nil) ⟨_,xs,y,rfl,rfl,hx,hl,n8⟩) λ_ s9 Y=> ?_
     obtain⟨z,H9,I9,_,q9⟩:=Y
     exact again I9 q9
 exact codeAny_compStart_list a8<|T.self _ 0 _ _ _ (T.keep _ _ _ b4 λb _ o e=>U b o e) a8
section
variable{X:Cx}
def Hq:kd X (.builtin "isinstance") (λxs H Q=>∃x T t b,xs= [x,.ty T]/\sh X.K H x t/\PySem.W.kitOne X.K t (.type T)=some b/\Q (.bl b) H):=by
 intro a s f H xs g Q I r h
 obtain⟨x,T,t,b,rfl,ty,e,q⟩:=h
 obtain⟨u,c,rfl,rx,rt⟩:=vals2 r
 cases (show c=Value.type T from rt)
 exact F2 I rx ty e λd=>⟨.bl b,H,I.tok d,rfl,q⟩
def KI:List V->List V->Bool
 | [],[]=>true
 |x::xs,y::ys=>uM x y&&KI xs ys
 |_,_=>false
theorem Ee:∀{xs ys:List V},xs.length≠ys.length->KI xs ys=false
 | [],[],h=>absurd rfl h
 | [],_::_,_=>rfl
 |_::_,[],_=>rfl
 | x::xs,y::ys,h=>by
   have:=Ee (xs:=xs) (ys:=ys) λe=>h (by simp[e])
   show(uM x y&&KI xs ys)=false
   rw[this,Bool.and_false]
theorem E8:∀{xs ys:List V},xs.length=ys.length->(List.range xs.length).all (λj=>uM (xs.getD j .non) (ys.getD j .non))=KI xs ys
 | [],[],_=>rfl
 | [],_::_,h=>by cases h
 |_::_,[],h=>by cases h
 | x::xs,y::ys,h=>by
   have a:=E8 (xs:=xs) (ys:=ys) (Nat.succ.inj h)
   rw[Qnq,List.range_succ_eq_map,List.all_cons,List.all_map]
   show(uM x y&&_)=(uM x y&&KI xs ys)
   rw[←a]
   rfl
def K6{A:Around}{s:Shared}{xs ys:List V}{a vs:List Value}(r:bI xs a)(r':bI ys vs)(f:xs.all iy=true)(f':ys.all iy=true)(j:Nat)(e:j<a.toArray.size)(n:j<vs.toArray.size):
  SeqAt.EqAt A s a.toArray[j] vs.toArray[j] (uM (xs.getD j .non) (ys.getD j .non)):=by
 have d:=r.length
 have h:=r'.length
 have c:j<xs.length:=by rw[d];simpa using e
 have b:j<ys.length:=by rw[h];simpa using n
 obtain⟨u,l,k⟩:=r.get (gQe c)
 obtain⟨v,g,i⟩:=r'.get (gQe b)
 have q:xs.getD j .non=xs[j]:=by rw[Qlq,gQe c];rfl
 have p:ys.getD j .non=ys[j]:=by rw[Qlq,gQe b];rfl
 have m:a.toArray[j]=u:=by
  have:=(gQs.mp l).2
  simpa using this
 have o:vs.toArray[j]=v:=by
  have:=(gQs.mp g).2
  simpa using this
 rw[m,o,q,p]
 exact Hj k i (QUq.mp f _ (List.getElem_mem c)) (QUq.mp f' _ (List.getElem_mem b))
def OZ(K:PySem.W.Frag)(e:Bool):R2:=λx y H Q=>∃a b c d,x=.ref a/\y=.ref b/\je K H a c/\je K H b d/\c.all iy=true/\d.all iy=true/\Q (.bl (if e then !KI c d else KI c d)) H
def My(p:X.A.units<cLine):lR X (compareOp .NotEq) (OZ X.K true):=by
 intro o s J H x y v u Q I z B h
 obtain⟨a,b,f,m,rfl,rfl,ha,hb,fa,fb,q⟩:=h
 cases z
 cases B
 obtain⟨d,r,t,G⟩:=I.list ha
 obtain⟨k,l,c,F⟩:=I.list hb
 by_cases g:f.length=m.length
 ·have i:d.toArray.size=k.toArray.size:=by simp[←r.length,←l.length,g]
  refine SeqAt.RcNeAt.lists (e:=λj=>uM (f.getD j .non) (m.getD j .non)) t.isList c.isList i p (λj w C=>K6 r l fa fb j w C) _ _ _ _ ⟨.bl _,H,I,rfl,?_⟩
  rw[show d.toArray.size=f.length by simp[r.length],E8 g]
  exact q
 ·refine SeqAt.RcNeAt.lists_lengths t.isList c.isList (by simpa [←r.length,←l.length] using g) p _ _ _ _ ⟨.bl _,H,I,rfl,?_⟩
  have n:Q (.bl (!KI f m)) H:=q
  rw[Ee g] at n
  exact n
end
section
variable{X:Cx}
def AY{bs:List Bool}{a:List Value}(r:bI (bs.map V.bl) a){i:Nat}{v:Value}(h:a.toArray[i]?=some v):v=.bool (bs.getD i false):=by
 have f:i<a.length:=by
  have:=(Array.getElem?_eq_some_iff.mp h).1
  simpa using this
 have l:=r.length
 rw[lQm] at l
 have c:i<bs.length:=by omega
 obtain⟨u,e,q⟩:=r.get (i:=i) (x:=V.bl bs[i]) (by rw[gQm,gQe c];rfl)
 have b:a[i]?=some v:=by simpa using h
 rw[e] at b
 cases b
 have d:bs.getD i false=bs[i]:=by rw[Qlq,gQe c];rfl
 rw[d]
 exact q
theorem AG:∀bs:List Bool,(List.range bs.length).all (λi=>bs.getD i false)=bs.all id
 | []=>rfl
 | b::bs=>by
   rw[Qnq,List.range_succ_eq_map,List.all_cons,List.all_map,List.all_cons,←AG bs]
   rfl
theorem Cj:∀bs:List Bool,(List.range bs.length).any (λi=>bs.getD i false)=bs.any id
 | []=>rfl
 | b::bs=>by
   rw[Qnq,List.range_succ_eq_map,List.any_cons,List.any_map,List.any_cons,←Cj bs]
   rfl
def KL(K:PySem.W.Frag)(f:List Bool->Bool):List V->Hp->VK->Prop:=λc H Q=>∃a b,c= [.ref a]/\je K H a (b.map V.bl)/\Q (.bl (f b)) H
def Fz(n:X.calm=true):kd X (.builtin "all") (KL X.K λbs=>bs.all id):=by
 intro g s B H w y Q I r h
 obtain⟨a,bs,rfl,ha,q⟩:=h
 obtain⟨u,rfl,rx⟩:=vals1 r
 cases (show u=Value.ref a from rx)
 obtain⟨c,j,f,z⟩:=I.list ha
 have k:c.toArray.size=bs.length:=by have:=j.length;simp at this;simp[this]
 have d:a<s.heap.objs.size:=by obtain⟨o,e,_⟩:=f.isList;exact Qiq e
 refine call_all_walk (wpAny_pyIter_list f.isList ⟨s.heap.objs.size,_,_,_,_,_,λi=>bs.getD i false,rfl,Walks.list (A:=X.A.in1) (show X.A.in1.handled=none from I.ok.hd n) s.heap.objs.size a (Qwq d) c.toArray,⟨⟨_,Qrq _ rfl,rfl,rfl⟩,f.isList.at λo e=>Qcq _ e⟩,?_,λh' x l=> ?_⟩)
 ·intro i v F C t p m
  rw[AY j p]
  exact wpAny_truthy_bool m
 ·rw[k,AG]
  refine⟨.bl _,H,I.kept (h':=h') λb o e=>l b o ?_ (Qcq _ e),rfl,q⟩
  have:=Qiq e
  simp
  exact Qwq this
def FC(n:X.calm=true):kd X (.builtin "any") (KL X.K λbs=>bs.any id):=by
 intro g s B H w y Q I r h
 obtain⟨a,bs,rfl,ha,q⟩:=h
 obtain⟨u,rfl,rx⟩:=vals1 r
 cases (show u=Value.ref a from rx)
 obtain⟨c,j,f,z⟩:=I.list ha
 have k:c.toArray.size=bs.length:=by have:=j.length;simp at this;simp[this]
 have d:a<s.heap.objs.size:=by obtain⟨o,e,_⟩:=f.isList;exact Qiq e
 refine call_any_walk (wpAny_pyIter_list f.isList ⟨s.heap.objs.size,_,_,_,_,_,λi=>bs.getD i false,rfl,Walks.list (A:=X.A.in1) (show X.A.in1.handled=none from I.ok.hd n) s.heap.objs.size a (Qwq d) c.toArray,⟨⟨_,Qrq _ rfl,rfl,rfl⟩,f.isList.at λo e=>Qcq _ e⟩,?_,λh' x l=> ?_⟩)
 ·intro i v F C t p m
  rw[AY j p]
  exact wpAny_truthy_bool m
 ·rw[k,Cj]
  refine⟨.bl _,H,I.kept (h':=h') λb o e=>l b o ?_ (Qcq _ e),rfl,q⟩
  have:=Qiq e
  simp
  exact Qwq this
end
end L2
namespace Dk
open PySem
def uV:mroOf (Value.type "dict")=pure [Value.type "dict",Value.type "object"]:=by
 rw[mroOf_type]
 rfl
def ub:typeLookup (Value.type "dict") (Str.ofString "__new__")=pure (some (Value.builtin "dict.__new__")):=by
 rw[typeLookup_type,builtinLookup_eq_fast]
 rfl
def BN:isSubtype (Value.type "dict") (Value.type "dict")=pure true:=by
 rw[isSubtype_type]
 rfl
def iX:plainId "dict.__new__"=true:=by decide +kernel
def dD:TypeCalled "dict" "dict.__new__" "dict.__init__" where
 notType:=by decide +kernel
 canCreate:=by decide +kernel
 mro:=⟨_,_,uV⟩
 made:=madeBy_type uV ub (by decide +kernel)
 plain:=iX
 sub:=BN
 init:=F.slot_dict_init
def uo(a:Value):checkTypeCall "dict" {pos:= [a]}=pure ():=by rfl
def wD(a:Value):checkBuiltinCall "dict.__new__" {pos:= [Value.type "dict",a]}=pure ():=by with_unfolding_all rfl
def wy:entryFor table "dict.__new__"=some Builtin.«dict.__new__»:=by rfl
def um{prog:Program}{w:World}{A:Around}{E:Value->Shared->Prop}{s:Shared}(a:Value){Q₁:Value->Shared->Prop}
  (h:Q₁ (.ref s.heap.objs.size) {s with heap:=s.heap.push {cls:=.type "dict",data:=.dict #[]}}):
  codeAny (model prog w) A (.call (.builtin "dict.__new__") {pos:= [.type "dict",a]}) (wants Q₁ E) s:=by
 refine codeAny_of_tree ?_
 show wpAny _ _ (do checkBuiltinCall "dict.__new__" _;_) _ _ _
 refine Qaq (wpAny_of_eq (wD a) (Qgq ⟨plainId_quiet iX _,codeAny_builtin wy ?_⟩))
 rw[Around.under_plainId iX]
 refine Qaq (Qgq (QgQ rfl (Qaq (wpAny_of_eq BN (QgQ rfl (Qaq (wpAny_of_eq uV (QgQ ?_ ?_))))))))
 ·rfl
 ·refine Qaq ?_
  have e:newObj (.type "dict") (.dict #[])=newObjAsIs (.type "dict") (.dict #[]):=by
   unfold newObj
   simp
  rw[e]
  exact Qaq (wpAny_alloc (Qgq (Qgq h)))
def Be{prog:Program}{w:World}{A:Around}{E:Value->Shared->Prop}{s:Shared}{a:Value}{Q:Value->Shared->Prop}
  (h:wpAny (model prog w) A.in1.in1 (Builtin.«dict.__init__» {pos:= [.ref s.heap.objs.size,a]})
   (λq l=>match q with|.done f=>wants (λr b=>r=.none/\Q (.ref s.heap.objs.size) b) E (.ok f) l|.again x=>x.quiet=true/\codeAny (model prog w) A.in1 x (wants (λr b=>r=.none/\Q (.ref s.heap.objs.size) b) E) l)
   (λe l=>wants (λr b=>r=.none/\Q (.ref s.heap.objs.size) b) E (.error e) l) {s with heap:=s.heap.push {cls:=.type "dict",data:=.dict #[]}}):
  wpAny (model prog w) A (call (.type "dict") [a]) Q E s:=by
 obtain⟨c,G,k⟩:=dD.mro
 have i:=dD.made
 have j:=dD.sub
 refine wpAny_call (codeAny_of_tree ?_)
 refine Qgq ⟨Code.quiet_builtin _ (by decide +kernel),codeAny_builtin F.entry_type_call ?_⟩
 rw[Around.under_plain (weight_type_call_type "dict" [a] []) rfl]
 have C:=dD.notType
 have B:=dD.canCreate
 have t:=uo a
 unfold Builtin.«type.__call__»
 dsimp only
 refine QgQ rfl ?_
 refine QgQ (by rw[B];rfl) ?_
 refine Qaq (wpAny_of_eq t (Qaq (wpAny_of_eq k (QgQ rfl (Qaq (wpAny_of_eq i (Qaq (Qgq (Qaq (QLq (wpAny_call (codeAny_mono (um (E:=E) (Q₁:=λv d=>v=.ref s.heap.objs.size/\d={s with heap:=s.heap.push {cls:=.type "dict",data:=.dict #[]}}) a ⟨rfl,rfl⟩) λr d g=> ?_))))))))))))
 cases r with
 |error e=>exact g
 | ok u=>
   cases u with
   | ret y=>
     obtain⟨rfl,rfl⟩:=g
     have z:=Qrq s.heap (o:={cls:=.type "dict",data:=.dict #[]}) rfl
     have m:Shared.TypeIs {s with heap:=s.heap.push {cls:=.type "dict",data:=.dict #[]}} (.ref s.heap.objs.size) "dict":=⟨_,z,rfl⟩
     have p:=dD.init.lookup
     have n:=dD.init.bind (.ref s.heap.objs.size)
     refine Qaq (wpAny_isInstance m j (QgQ rfl (Qaq (QLq ?_))))
     unfold callSpecial?
     refine Qaq (wpAny_specialOf m p (QLq (Qaq (wpAny_of_eq n (Qaq (wpAny_call (codeAny_mono (codeAny_call_builtin dD.init.plain F.entry_dict_init (dD.init.check _ _ _ _ _ [a] [] _ m (F.args_dict_init_2 _ _) h)) λr b g=> ?_)))))))
     cases r with
     |error e=>exact g
     | ok u=>
       cases u with
       | ret v=>
         obtain⟨rfl,hq⟩:=g
         exact Qgq (QgQ rfl (Qgq hq))
       |_=>exact g.elim
   |_=>exact g.elim
def lN:entryFor table "dict.update.loop"=some Builtin.«dict.update.loop»:=by rfl
def ik:plainId "dict.update.loop"=true:=by decide +kernel
section
variable{prog:Program}{w:World}{K:Type}[DecidableEq K]{knd:KeyKind prog w K}
def Du(a:List (K×Value))(k:K)(v:Value):(stored a k v).length<=a.length+1:=by
 unfold stored
 split
 ·rw[lQm];omega
 ·rw[lQa];simp
def LF(b:Nat->K)(a:Nat->Value):Nat->List (K×Value)
 |0=> []
 |i+1=>stored (LF b a i) (b i) (a i)
theorem Ep(b:Nat->K)(a:Nat->Value):∀i,(LF b a i).length<=i
 |0=>Qmq _
 |i+1=>QAq (Du _ _ _) (Nat.succ_le_succ (Ep b a i))
end
end Dk
namespace L2
open PySem PySem.Spec PyProof.Rows
section
variable{X:Cx}
def key_is{k:Key}{u:Value}(r:RelV (kV k) u)(P:Program)(w:World):(cc P w).is k u=true:=by
 cases k with
 |inl i=>obtain⟨t,rfl⟩:=(show∃t,u=Value.int i t from r);simp[cc,sX,Value.isInt]
 |inr x=>obtain⟨t,rfl⟩:=(show∃t,u=Value.str x t from r);simp[cc,sX,Value.isStrOf]
end
end L2
namespace Dk
open PySem
end Dk
namespace L2
open PySem PySem.Spec PyProof.Rows
def JV{X:Cx}{N:List Str}{js:List (Option Nat)}{a:Scope}{U:List (Str×Addr)}{tg P a5 K:Expr}{a6:List Expr}{pos b1:Pos}{wi:TI}{g gt:TG}{tt:TT}{te:TE}
  (S:aL X N js a U) (hc:X.calm=true) (hi:PI X tg P wi)
  (hg:∀C s H fp,PG (aP X N a U C s H fp) tg g) (ht:∀C s H fp,pG (aP X N a U C s H fp) a6 tt) (he:∀C s H fp,PE (aP X N a U C s H fp) a5 te) (d6:PG X K gt)
  (hs:∀x,foldedSetIterable P X.env x=pure x:=by intro _;rfl) (d7:swapsWithSole [K] (.ListComp a5 [⟨tg,P,a6,0⟩] a pos) b1.line X.env=pure true:=by rfl)
  (h1:(assignEach [K] X.env).map (·.2)= [assign K X.env]:=by rfl):PS X (.Assign [K] (.ListComp a5 [⟨tg,P,a6,0⟩] a pos) b1) (Gs (Ic js wi g tt te) gt):=by
 intro Y s σ H Dn I h
 rw[exec_Assign_arm]
 refine Qaq<|wpAny_standAt<|Qaq<|wpAny_of_eq d7<|wpAny_ite_true rfl<|Qaq ?_
 rw[h1]
 show wpAny _ _ (do let _←comprehension _ _ _ _ _ _ _ (some λv=>assignAll v [assign K X.env]);pure ()) _ _ _
 refine Qaq ?_
 refine wpAny_comprehension_free (use:=some λv=>assignAll v [assign K X.env]) rfl hs S.clos S.kind S.names (c_ (hi Y s σ H _ I h) λv s1 h1=>c_ h1 λe2 k h2=> ?_)
 obtain⟨it,fp,tn,J,H2,e,B,T,b5,f2,hD⟩:=h2
 subst e
 refine QhQ<|wpAny_newFunctionEnv S.nocell (by intro y hy;simp at hy) (λM L t=> ?_) S.kind
 dsimp only at L t⊢
 generalize b4:k.heap.push {cls:=.type "list",dict:=none,data:=.seq ([]:List Value).toArray}=P2 at L t⊢
 have hC:P2.objs.size=k.heap.objs.size+1:=by rw[←b4,Heap.size_push]
 have d1:k.heap.objs.size≠P2.objs.size:=by rw[hC];exact Qwq (Nat.lt_succ_self _)
 have a2:k.heap.objs.size<=P2.objs.size:=by rw[hC];exact Nat.le_succ _
 have G:∀b,b<k.heap.objs.size->b≠P2.objs.size:=λb f=>by rw[hC];exact Qwq (Nat.lt_succ_of_lt f)
 have Z:∀b o,k.heap.get? b=some o->M.get? b=some o:=λb o e=>t.extBut b o (G b<|Qiq e) (Qcq _ (b4▸Qcq _ e))
 have d2:M.get? k.heap.objs.size=some {cls:=.type "list",dict:=none,data:=.seq ([]:List Value).toArray}:=t.extBut _ _ d1 (Qcq _ (b4▸Qrq _ rfl))
 have nD:H2 k.heap.objs.size=none:=B.fresh
 have nC:H2 P2.objs.size=none:=B.hok.fresh a2
 have b6:∀b∈fp,b<k.heap.objs.size:=λb f=>by
  obtain⟨o,e,_⟩:=T.obj _ _ b5 b f
  exact Qiq e
 obtain⟨W,⟨m0,w0⟩,c5⟩:=hD k.heap.objs.size nD
 have c4:(aP X N a U P2.objs.size k H2 fp).Ok:=by
  refine⟨B.ok.mod,S.kind,B.ok.glob,B.ok.blt,a2,λx y c h1 h2=>B.ok.inj x y c (S.sub x c h1) (S.sub y c h2),S.has,(λx c h=>by cases h),B.ok.hd,B.ok.frames,.inl rfl,
   λb f=>⟨G b (b6 b f),λx c h=>(f2 b f).2.2.2.2.1 x c (S.sub x c h)⟩,B.bs,QAq B.ok.bsz B.sz,λb o e f=> ?_,λb f z=> ?_,B.stack,B.stkFree⟩
  ·rcases(f2 b f).2.2.2.1 with z|z
   ·exact B.ok.noex b o e z
   ·exact absurd (Qqq (Qqq (Qiq e) B.ok.bsz) z)<|Nat.lt_irrefl _
  ·rcases Qsq.mp (B.stkSub b z) with q|q
   ·exact(f2 b f).2.1 q
   ·exact(f2 b f).2.2.1 q
 have c0:dr X.prog X.w (upd H2 k.heap.objs.size<|.lst []) M k.heap.objs.size (.lst []):=⟨Nat.zero_le _,[],0,.nil,d2⟩
 have I4:Inv (aP X N a U P2.objs.size k H2 fp) [] (kB js σ) (upd H2 k.heap.objs.size<|.lst []) {k with heap:=M,toks:=k.toks+([]:List (Str×Value)).length}:=by
  refine⟨c4,rfl,B.bare,Un.laid Z (Qmq _) nD,⟨_,L,λi x v h1 h2 h3=> ?_⟩,λx c h=> ?_,by show upd H2 _ _ P2.objs.size=none;rw[bx d1.symm];exact nC,λx c h=> ?_,λp hp=>absurd (show p∈([]:List (Addr×Obj)) from hp) (by simp),B.hok.laid Z (Qmq _) c0,by show(kB js σ).length=N.length;unfold kB;rw[lQm];exact S.len⟩
  ·unfold kB at h2
   rw[gQm] at h2
   cases e:js[i]? with
   |none=>rw[e] at h2;cases h2
   | some o=>
     rw[e] at h2
     cases o with
     |none=>cases h2
     | some j=>
       have a3:σ.getD j none=some v:=QdQ h2
       have hj:σ[j]?=some (some v):=by
         rw[Qlq] at a3
         cases q:σ[j]? with
         |none=>rw[q] at a3;cases a3
         |some y=>rw[q] at a3;exact congrArg some a3
       obtain⟨c1,c2,c3⟩:=S.cap i j x e h1
       obtain⟨m,hn,hl⟩:=B.loc
       have d5:KF X.env.scope x:=by
         rcases c2 with z|z
         · exact .inr (.inl z)
         · exact .inr (.inr z)
       obtain⟨u,r,l⟩:=hl j x v c1 hj d5
       refine⟨u,r,.inr ⟨c3,?_⟩⟩
       obtain⟨c,b9⟩:=S.has x c3
       refine⟨c,b9,?_⟩
       rcases l with⟨z,_⟩|⟨_,c',e',z⟩
       · rcases c2 with y|y <;>rw[y] at z <;>cases z
       · rw[S.sub x c b9] at e'
         cases e'
         obtain⟨o,ho,hd⟩:=z
         exact⟨o,Z _ _ ho,hd⟩
  ·obtain⟨v,o,ho,hd⟩:=B.cell x c (S.sub x c h)
   exact⟨v,o,Z _ _ ho,hd⟩
  ·obtain⟨v,o,ho,hd⟩:=B.cell x c (S.sub x c h)
   rw[bx (Qwq<|Qiq ho)]
   exact B.freeC x c<|S.sub x c h
 have a4:∀{R:List (Addr×Obj)} {H':Hp},R= []->(∀b∈fp,H' b=none)->∀b∈fp,sj (aP X N a U P2.objs.size k H2 fp) R H' b:=λ{R H'} ep hn b f=>by
  subst ep
  refine⟨hn b f,G b<|b6 b f,λz=>c4.exfs b f z,.inl f,λx c h=>(f2 b f).2.2.2.2.1 x c (S.sub x c h),λp hp=>absurd (show p∈([]:List (Addr×Obj)) from hp) (by simp)⟩
 have b2:codeAny (model X.prog X.w) X.A (.compLoop (.ListComp a5 [⟨tg,P,a6,0⟩] a pos) 0 (.ref it) (.ref k.heap.objs.size) (compEnvC a U P2.objs.size X.env))
   (compPost (model X.prog X.w) X.A X.xe (some λv=>assignAll v [assign K X.env]) (λ_ s9=>wpAny (model X.prog X.w) X.A (pure ()) (λ_ d8=>wpAny (model X.prog X.w) X.A (pure Flow.next) (SP X Y Dn) X.xe d8) X.xe s9) (.ref k.heap.objs.size) P2.objs.size) {k with heap:=M,toks:=k.toks+([]:List (Str×Value)).length}:=by
  refine qM (λn s'=>∃i a1 H',Inv (aP X N a U P2.objs.size k H2 fp) [] a1 H' s'/\tn i s'.heap/\(∀b∈fp,H' b=none)/\W i n a1 H') ?_ m0
   ⟨0,_,_,I4,T.keep _ _ _ b5 λb _ o e=>Z b o e,λb f=>by rw[bx (Qwq<|b6 b f)];exact(f2 b f).1,w0⟩
  rintro n s3 ⟨i,a8,H3,I3,b8,b7,w3⟩
  rcases c5 i n a8 H3 w3 with⟨stop,q⟩|⟨go,Nx,hN,c9⟩
  ·refine c_ (T.done (aP X N a U P2.objs.size k H2 fp) rfl rfl rfl hc i [] s3 a8 H3 _ I3 (a4 rfl b7) b8 stop) λr s4 Q=> ?_
   obtain⟨hr,I5⟩:=Q
   subst hr
   obtain⟨m,hn,_⟩:=id I5.loc
   have d4:∀h',Heap.SameBut P2.objs.size s4.heap h'->Inv X Y σ H3 {s4 with heap:=h'}:=by
    intro h' a0
    have u:=I5.base
    have ne:∀b o,k.heap.get? b=some o->b≠P2.objs.size:=λb o e=>G b (Qiq e)
    refine B.call' (ch:=fp) I5.os ⟨λb o e n f hx=>(a0.2 b<|ne b o e).trans (u.keep b o e n f hx),λb o e n f hx=> ?_,u.free,λb o e hx=> ?_,u.tups,u.frzs,u.tbls⟩ (λb ob e=> ?_) I5.bare λb f=>⟨(f2 b f).2.2.2.1,(f2 b f).2.1,(f2 b f).2.2.2.2.1,(f2 b f).2.2.2.2.2⟩
    ·obtain⟨sl,e1⟩:=u.slot b o e n f hx
     exact⟨sl,(a0.2 b<|ne b o e).trans e1⟩
    ·obtain⟨o',e1⟩:=u.there b o e hx
     exact⟨o',(a0.2 b<|ne b o e).trans e1⟩
    ·refine(I5.hok b ob e).stay (λc w' hc q=>(a0.2 c ?_).trans q) (λ_ q=>q) λ_ _ q=>q
     have fC:H3 P2.objs.size=none:=I5.free
     rintro rfl
     rcases hc with z|z
     ·rw[←z,fC] at e;cases e
     ·rw[fC] at z;cases z
   have IX:=d4 s4.heap ⟨rfl,λ_ _=>rfl⟩
   have b0:sj X Y H3 P2.objs.size:=B.fpOk a2 I5.free
   obtain⟨oC,es,ep,c6,wQ,d9⟩:=hn
   have IP:=IX.pinned (fp:= [P2.objs.size]) (λb f=>by rw[Qfq] at f;rw[f];exact b0) (λb f=>by rw[Qfq] at f;rw[f];exact⟨oC,c6,λv=>by rw[wQ];simp⟩)
   show wpAny _ _ (assignAll (.ref k.heap.objs.size) [assign K X.env]) _ _ _
   rw[assignAll.eq_2]
   refine c_ (d6 _ s4 σ H3 (.ref k.heap.objs.size) (.ref k.heap.objs.size) _ IP rfl q) λ_ s6 Q=> ?_
   obtain⟨F,H6,I6,q6⟩:=Q
   have pC:=I6.pin (P2.objs.size,oC) (Qoq _<|Qoq _<|dI (Qfq.mpr rfl) c6)
   refine⟨m,⟨oC,es,ep,pC.1,wQ,d9⟩,λh' a0=>Qgq<|Qgq ⟨F,H6,?_,q6⟩⟩
   exact I6.unpinned.turned (it:=P2.objs.size) (t':=s6.toks) (λb o' f e=>(a0.2 b f).trans e) pC.2.1 pC.2.2.1 b0.2.2.2.1 b0.2.2.2.2.1 b0.2.2.2.2.2
  ·refine c_ (T.item (aP X N a U P2.objs.size k H2 fp) rfl rfl rfl hc i [] s3 a8 H3 _ I3 (a4 rfl b7) b8 go) λr s4 Q=> ?_
   obtain⟨u,hr,h4⟩:=Q
   subst hr
   refine c_ h4 λ_ s5 Q=> ?_
   obtain⟨x,H5,I5,r5,y5,b3,d3⟩:=Q
   have e0:=I5.pinned (a4 rfl d3) (T.obj _ _ b3)
   refine c_ (hg P2.objs.size k H2 fp _ s5 a8 H5 x u _ e0 r5<|c9 x H5 y5) λ_ s6 Q=> ?_
   obtain⟨F,H6,I6,q6⟩:=Q
   refine c_ (ht P2.objs.size k H2 fp _ s6 F H6 _ I6 q6) λok s7 Q=> ?_
   obtain⟨H7,I7,q7⟩:=Q
   have again:∀{s8:Shared} {H8:Hp},Inv (aP X N a U P2.objs.size k H2 fp) ([]++oS fp s5.heap) F H8 s8->Nx F H8->∃m,m<n/\∃i a1 H',Inv (aP X N a U P2.objs.size k H2 fp) [] a1 H' s8/\tn i s8.heap/\(∀b∈fp,H' b=none)/\W i m a1 H':=λ{s8 H8} I8 n8=>by
    obtain⟨m',hm,w8⟩:=hN F H8 n8
    refine⟨m',hm,i+1,F,H8,I8.unpinned,T.keep _ _ _ b3 λb f o e=>(I8.pin (b,o)<|Qoq _<|Qoq _<|dI f e).1,λb f=> ?_,w8⟩
    obtain⟨o,e,d⟩:=T.obj _ _ b3 b f
    exact(I8.pin (b,o)<|Qoq _<|Qoq _<|dI f e).2.1
   cases ok with
   |false=>exact again I7 q7
   | true=>
     refine c_ (he P2.objs.size k H2 fp _ s7 F H7 _ I7 q7) λyv s8 Q=> ?_
     obtain⟨y,H8,I8,ry,xs,hx,hl,n8⟩:=Q
     refine c_ (q0 (X:=aP X N a U P2.objs.size k H2 fp) _ s8 F H8 (.ref k.heap.objs.size) [y] (.ref k.heap.objs.size) [yv] (λ_ H'=>Nx F H') I8 rfl (.cons ry .nil) ⟨_,xs,y,rfl,rfl,hx,hl,n8⟩) λ_ s9 Q=> ?_
     obtain⟨z,H9,I9,_,q9⟩:=Q
     exact again I9 q9
 exact codeAny_compStart_list b2<|T.self _ 0 _ _ _ (T.keep _ _ _ b5 λb _ o e=>Z b o e) b2
end L2
namespace Dk
open PySem
end Dk
namespace L2
open PySem PySem.Spec PyProof.Rows
section
variable{X:Cx}
def Jd(K:PySem.W.Frag):List V->Hp->VK->Prop:=λd H Q=>∃(a:Addr) (c:List Str),d= [.ref a]/\je K H a (c.map V.str)/\c.length<64/\∀(l:Addr) (b:List Str),H l=none->sortedS b=true->b.Perm c->Q (.ref l) (upd H l (.lst (b.map V.str)))
theorem xM:∀{ys:List Str} {a:List Value},bI (ys.map V.str) a->StrsAre a ys
 | [],_,r=>by cases r;exact .nil
 | y::ys,_,r=>by
   cases r with
   | cons h t=>
     obtain⟨b,rfl⟩:=h
     exact .cons y b (xM t)
def Ac{ss:List Str}{vs:List Value}(h:StrsAre vs ss):bI (ss.map V.str) vs:=by
 induction h with
 |nil=>exact .nil
 |cons y t _ a=>exact .cons ⟨t,rfl⟩ a
def yF:kd X (.builtin "sorted") (Jd X.K):=by
 intro j s B H y z Q I r h
 obtain⟨a,m,rfl,ha,h64,q⟩:=h
 obtain⟨u,rfl,rx⟩:=vals1 r
 cases (show u=Value.ref a from rx)
 obtain⟨f,l,x,A⟩:=I.list ha
 have n:f.length=m.length:=by have:=l.length;simpa using this.symm
 have g:s.heap.objs.size<=s.heap.objs.size+1:=Nat.le_succ _
 refine sorted_strs x.isList (xM l) (by omega) λc d w k p=> ?_
 obtain⟨e,t⟩:=sortedAll_at s.heap f c
 have i:d.length=m.length:=k.length_eq
 refine⟨.ref (s.heap.objs.size+1),_,I.laid (a:=s.heap.objs.size+1) (o:=.lst (d.map V.str)) (h':=sortedAll s.heap f c) (t':=s.toks) (λb o v=> ?_) g ⟨?_,c.toList,e,Ac w,?_⟩,rfl,q _ d (I.hok.fresh g) p k⟩
 ·exact sortedAll_old v
 ·rw[lQm,i]
  exact QAq (nQl h64) (by decide)
 ·simpa using t
end
end L2
namespace Zp
open PySem
section
variable{prog:Program}{w:World}{A:Around}{E:Value->Shared->Prop}{s:Shared}
def M1{i t:Addr}{k:Nat}{vs:Array Value}{v:Value}{Q:Value->Shared->Prop}(c:s.heap.IsTupleIter i t k)(f:s.heap.IsTuple t vs)(g:vs[k]?=some v)
  (q:∀h',h'.IsTupleIter i t (k+1)->Heap.SameBut i s.heap h'->Q v {s with heap:=h'}):wpAny (model prog w) A (Builtin.SmallTypes.nextOf (.ref i)) Q E s:=by
 obtain⟨m,b,e,a⟩:=id c
 obtain⟨j,h,_,l,d⟩:=f
 unfold Builtin.SmallTypes.nextOf
 refine Qaq (QiQ (name:=Str.ofString "__next__") c.typeIs F.slot_tuple_iterator_next (wpAny_call_entry F.slot_tuple_iterator_next c.typeIs F.entry_tuple_iterator_next ?_ (F.args_tuple_iterator_next_1 _)))
 refine(?_:wpAny _ _ (field (.ref i) 0 >>= _) _ _ s)
 refine Qaq (QMq b a (x:=.ref t) rfl ?_)
 refine(?_:wpAny _ _ (if (Value.ref t==Value.none)=true then _ else _) _ _ s)
 rw[Quq (λz=>by cases (show false=true from z))]
 refine(?_:wpAny _ _ (field (.ref i) 1 >>= _) _ _ s)
 refine Qaq (QMq b a (x:=.int k 0) rfl ?_)
 refine(?_:wpAny _ _ (seqItems? (.ref t) >>= _) _ _ s)
 refine Qaq (wpAny_seqItems h d ?_)
 simp only[Int.toNat_natCast,g]
 refine Qaq (wpAny_setField b a (by simp) (Qgq ⟨v,rfl,Qgq (q _ ⟨_,Heap.get?_update_self _ b (Obj.isFreed_of_fields (Obj.data_mapFields a _)),(Obj.cls_mapFields ..).trans e,?_⟩ (Heap.SameBut.update ..))⟩))
 rw[Obj.data_mapFields a]
 simp[rawInt]
def NJ{i t:Addr}{k:Nat}{vs:Array Value}{Q:Value->Shared->Prop}(f:A.handled=none)(d:s.heap.IsTupleIter i t k)(h:s.heap.IsTuple t vs)(j:vs[k]?=none)
  (q:∀h' e,Heap.ExtBut i s.heap h'->(∃o,h'.get? e=some o/\o.cls=.type "StopIteration")->E (.ref e) {s with heap:=h'}):wpAny (model prog w) A (Builtin.SmallTypes.nextOf (.ref i)) Q E s:=by
 obtain⟨u,b,n,c⟩:=id d
 obtain⟨p,l,_,r,g⟩:=h
 unfold Builtin.SmallTypes.nextOf
 refine Qaq (QiQ (name:=Str.ofString "__next__") d.typeIs F.slot_tuple_iterator_next (wpAny_call_entry F.slot_tuple_iterator_next d.typeIs F.entry_tuple_iterator_next ?_ (F.args_tuple_iterator_next_1 _)))
 refine(?_:wpAny _ _ (field (.ref i) 0 >>= _) _ _ s)
 refine Qaq (QMq b c (x:=.ref t) rfl ?_)
 refine(?_:wpAny _ _ (if (Value.ref t==Value.none)=true then _ else _) _ _ s)
 rw[Quq (λz=>by cases (show false=true from z))]
 refine(?_:wpAny _ _ (field (.ref i) 1 >>= _) _ _ s)
 refine Qaq (QMq b c (x:=.int k 0) rfl ?_)
 refine(?_:wpAny _ _ (seqItems? (.ref t) >>= _) _ _ s)
 refine Qaq (wpAny_seqItems l g ?_)
 simp only[Int.toNat_natCast,j]
 refine Qaq (wpAny_rule (Qaq (wpAny_setField b c (by simp) ?_)))
 refine(?_:wpAny _ _ (newExc (.type "StopIteration") [] >>= _) _ _ _)
 refine Qaq ?_
 simp only[newExc,newTuple]
 refine Qaq (QhQ ?_ (by size_fits))
 refine Qaq (m:=firstArgMember _ _) (wpAny_of_eq (a:=Value.none) (by first|rfl|(simp only[firstArgMember];rfl)) (QhQ ?_ (by size_fits)))
 simp only[raiseNew]
 refine Qaq (wpAny_handled ?_)
 first|rw[show A.in1.handled=none from f]|rw[f]
 exact Qaq (Qgq (wpAny_throw (q _ _ (((Heap.SameBut.update ..).extBut.push _).push _) ⟨_,Qrq _ rfl,rfl⟩)))
end
def Rest(z O i j:Addr)(h h':Heap):Prop:=∀c o,c≠z->c≠O->c≠i->c≠j->h.get? c=some o->h'.get? c=some o
end Zp
namespace L2
open PySem PySem.Spec PyProof.Rows
section
variable{X:Cx}{pins:List (Addr×Obj)}{σ:St}{H:Hp}{s:Shared}{h':Heap}
def Inv.turnedL{t':Nat}{fp:List Addr}(I:Inv X pins σ H s)(d:∀b∈fp,sj X pins H b)(k:∀b o,b∉fp->s.heap.get? b=some o->h'.get? b=some o):Inv X pins σ H {s with heap:=h',toks:=t'}:=by
 have f:∀b u,H b=some u->b∉fp:=λb u e z=>by rw[(d b z).1] at e;cases e
 refine I.step (g':=s.gens) (d':=s.drawn) (ch:=fp) (λb g=>⟨(d b g).2.2.2.1,(d b g).2.1,(d b g).2.2.2.2.1,(d b g).2.2.2.2.2⟩) (λb o _ _ a e _=>k b o a e) (λb o _ _ a e _=>⟨o.slots,k b o a e⟩) (λ_ _ _ _ n=>n)
  (λb o a e=>⟨o,k b o a e⟩) (λ_ _ e=>e) (λ_ _ _ e=>e) (λb p e=>⟨#[],by rw[e];simp⟩) (λm i=> ?_) (λb u e=> ?_) I.bare
 ·obtain⟨o,h,l,j,r⟩:=i
  exact⟨o,h,l,k _ o (λz=>(d _ z).2.1 rfl) j,r⟩
 ·refine(I.hok b u e).stay (λc v a q=>k c v ?_ q) (λ_ q=>q) λ_ _ q=>q
  rcases a with z|z
  ·rw[z];exact f b u e
  ·exact f c _ z
def Inv.turnedNew{t':Nat}{fp:List Addr}{p:Addr}{o:HO}(I:Inv X pins σ H s)(f:∀b∈fp,sj X pins H b)(k:∀b u,b∉fp->s.heap.get? b=some u->h'.get? b=some u)(i:s.heap.objs.size<=p)
  (new:dr X.prog X.w (upd H p o) h' p o):Inv X pins σ (upd H p o) {s with heap:=h',toks:=t'}:=by
 have t:=I.hok.fresh i
 have h:∀b u,H b=some u->b∉fp:=λb u e z=>by rw[(f b z).1] at e;cases e
 have g:∀b u,H b=some u->upd H p o b=some u:=λb u e=>by rw[bx (fP e t)];exact e
 refine I.step (g':=s.gens) (d':=s.drawn) (ch:=fp) (λb d=>⟨(f b d).2.2.2.1,(f b d).2.1,(f b d).2.2.2.2.1,(f b d).2.2.2.2.2⟩) (λb o _ _ a e _=>k b o a e) (λb o _ _ a e _=>⟨o.slots,k b o a e⟩)
  (λb u _ e n=>by rw[bx (λz=>Nat.lt_irrefl _ (Qqq (Qiq e) (by rw[z];exact i)))];exact n)
  (λb o a e=>⟨o,k b o a e⟩) (λb B e=>g b _ e) (λb u v e=>g b _ e) (λb A e=>⟨#[],by rw[g b _ e];simp⟩) (λm l=> ?_) (λb u e=> ?_) I.bare
 ·obtain⟨o,j,x,y,r⟩:=l
  exact⟨o,j,x,k _ o (λz=>(f _ z).2.1 rfl) y,r⟩
 ·by_cases d:b=p
  ·subst d
   rw[cp] at e
   cases e
   exact new
  ·rw[bx d] at e
   refine(I.hok b u e).stay (λc v a q=>k c v ?_ q) (λc q=>g c _ q) λc _ q=>g c _ q
   rcases a with z|z
   ·rw[z];exact h b u e
   ·exact h c _ z
end
end L2
namespace Zp
open PySem PySem.W PyProof.Rows
def rP:KasT (Array Nat)->List (Array Nat)
 |.ret p=> [p]
 |.ask _ _ k=>rP (k true)++rP (k false)
def we(n:Nat):KasT (Array Nat)->Bool
 |.ret _=>true
 |.ask i j k=>decide (i<n)&&decide (j<n)&&decide (i≠j)&&we n (k true)&&we n (k false)
def uR:∀n:Nat,n<=3->2<=n->we n (kas_sort n)=true/\(rP (kas_sort n)).all (λp=>p.toList.isPerm (List.range n))=true:=by
 intro n a b
 have:n=2\/n=3:=by omega
 rcases this with rfl|rfl
 ·decide +kernel
 ·decide +kernel
inductive fh(h:Heap):List Value->List Str->Prop
 |nil:fh h [] []
 |cons {a:Addr} {o:Obj} {xs:Array Value} {n:Nat} {x:Str} {t:Tok} {vs:List Value} {fs:List Str}:h.get? a=some o->o.cls=.type "tuple" ->o.data=.seq xs n->xs[0]?=some (.str x t)->fh h vs fs->fh h (.ref a::vs) (x::fs)
theorem fh.keep{h h':Heap}(k:∀a o,h.get? a=some o->o.cls=.type "tuple" ->h'.get? a=some o):∀{vs:List Value} {fs:List Str},fh h vs fs->fh h' vs fs
 |_,_,.nil=>.nil
 |_,_,.cons e c d f r=>.cons (k _ _ e c) c d f (r.keep k)
theorem fh.len{h:Heap}:∀{vs:List Value} {fs:List Str},fh h vs fs->vs.length=fs.length
 |_,_,.nil=>rfl
 |_,_,.cons _ _ _ _ r=>congrArg (·+1) r.len
theorem fh.get{h:Heap}:∀{vs:List Value} {fs:List Str} {i:Nat},fh h vs fs->i<fs.length->∃a o xs n t,vs.getD i Value.none=.ref a/\h.get? a=some o/\o.data=.seq xs n/\xs[0]?=some (.str (fs.getD i "") t)
 |_,_,0,.cons e c d f r,_=>⟨_,_,_,_,_,rfl,e,d,f⟩
 | _,_,i+1,.cons e c d f r,hi=>by
   have:=r.get (i:=i) (by simpa using hi)
   simpa using this
 |_,_,_,.nil,hi=>by simp at hi
theorem fh.firsts{h:Heap}:∀{vs:List Value} {fs:List Str},fh h vs fs->∃a:List Value,KatTups h vs a/\a.length=fs.length/\∀v∈a,∃x t,v=.str x t
 |_,_,.nil=>⟨[],KatTups.nil,rfl,by simp⟩
 | _,_,.cons e c d f r=>by
   obtain⟨a,k,l,m⟩:=r.firsts
   exact⟨_::a,KatTups.cons e c d f k,by simp[l],λv b=>by
     rcases Qsq.mp b with z|z
     · exact⟨_,_,z⟩
     · exact m v z⟩
end Zp
namespace L2
open PySem PySem.Spec PyProof.Rows
section
variable{X:Cx}
def Js:lR X (binaryOp .Mult) (rI IntMulOk λi j=>.int (i*j)):=OA λ_ _ _ _ _ _ _ a q=>mul_int q a
inductive x8(H:Hp):List Addr->List Str->Prop
 |nil:x8 H [] []
 |cons {a:Addr} {x:Str} {us:List V} {rs:List Addr} {ss:List Str}:H a=some (.tup (.str x::us))->x8 H rs ss->x8 H (a::rs) (x::ss)
theorem A1{b:List (Addr×Obj)}{c:St}{H:Hp}{s:Shared}(I:Inv X b c H s):∀{rs:List Addr} {ss:List Str},x8 H rs ss->Zp.fh s.heap (rs.map Value.ref) ss
 |_,_,.nil=>.nil
 | _,_,.cons (a:=a) h r=>by
   obtain⟨e,g,⟨o,f,j,n,d⟩,k⟩:=I.tuple (jo.of h)
   cases g with
   | cons i l=>
     obtain⟨t,rfl⟩:=i
     exact .cons (t:=t) f j d (by simp) (A1 I r)
theorem xV:∀{rs:List Addr} {b:List Value},bI (rs.map V.ref) b->b=rs.map Value.ref
 | [],_,r=>by cases r;rfl
 | a::rs,_,r=>by
   cases r with
   | cons h t=>
     cases h
     rw[xV t]
     rfl
theorem vp:∀(rs:List Addr),bI (rs.map V.ref) (rs.map Value.ref)
 | []=>.nil
 |a::rs=>.cons rfl (vp rs)
end
section
variable{X:Cx}
def GI:MQ X (λx y H Q=>∃p xs k v,x=.ref p/\y=.int ((k:Nat):Int)/\je X.K H p xs/\xs[k]?=some v/\Q v H):=by
 intro b s n H x y v u Q I c d h
 obtain⟨p,xs,k,z,rfl,rfl,hq,he,q⟩:=h
 cases c
 obtain⟨t,rfl⟩:=d
 obtain⟨i,r,f,m⟩:=I.list hq
 obtain⟨g,e,a⟩:=r.get he
 have j:k<xs.length:=(gQs.mp he).1
 have l:=mw
 exact wpAny_getItem_list f.isList (x:=g) (Int.natCast_nonneg k) (by omega) (by simpa using e) ⟨z,H,I,a,q⟩
end
section
variable{X:Cx}
def IB(K:PySem.W.Frag):R2:=λx y H Q=>∃a b c,x=.ref a/\y=.ref b/\je K H a c/\je K H b []/\Q (.bl (!c.isEmpty)) H
def GZ(f:X.A.units<cLine):lR X (compareOp .NotEq) (IB X.K):=by
 intro c s m H x y v u Q I e g h
 obtain⟨a,b,i,rfl,rfl,ha,hb,q⟩:=h
 cases i with
 |nil=>exact My f c s m H _ _ v u Q I e g ⟨a,b,[],[],rfl,rfl,ha,hb,rfl,rfl,q⟩
 | cons z w=>
   cases e
   cases g
   obtain⟨t,r,o,B⟩:=I.list ha
   obtain⟨l,n,d,p⟩:=I.list hb
   have j:=r.length
   have k:=n.length
   exact SeqAt.RcNeAt.lists_lengths o.isList d.isList (by simp[←j,←k]) f _ _ _ _ ⟨.bl true,H,I,rfl,q⟩
end
end L2
namespace HT
open PySem PySem.Spec PyProof.Rows
section
variable{prog:Program}{w:World}{A:Around}{E:Value->Shared->Prop}{s:Shared}
def nY{t d:Addr}{items:Array Value}{f i:Value}{lo hi:Option Int}{Q:Value->Shared->Prop}(ht:IsTup s.heap t items)(hs:s.heap.IsSliceOf d f i .none)(o:IsPart f lo)(n:IsPart i hi)
  (g:fN items.size 0 lo=0/\fN items.size items.size hi=items.size) (h:Q (.ref t) s):wpAny (model prog w) A (getItem (.ref t) (.ref d)) Q E s:=by
 obtain⟨j,e,c,l⟩:=id hs
 have b:s.TypeIs (.ref d) "slice":=⟨j,e,c⟩
 unfold getItem
 try with_reducible refine QLq ?_
 first|refine Qaq (Qgq ?_)|skip
 refine Qaq (wpAny_sequenceKey ht.typeIs (by decide) ?_)
 refine Qaq (QiQ (name:=Str.ofString "__getitem__") ht.typeIs PyProof.Rows.slot_tuple_getitem
  (wpAny_call_entry PyProof.Rows.slot_tuple_getitem ht.typeIs entry_tuple_getitem ?_ (args_tuple_getitem _ _)))
 show wpAny _ _ (Builtin.Tuple.tupleItemsOf (.ref t) >>= _) _ _ s
 refine Qaq (tupleItemsOf_ ht ?_)
 refine Qaq (wpAny_typeOf b ?_)
 rw[Qhq (by decide)]
 refine Qaq (kg hs o n ?_)
 have a:(((fN items.size 0 lo:Nat):Int)==0&&(1:Int)==1&&(fN items.size items.size hi-fN items.size 0 lo)==items.size)=true:=by
  rw[g.1,g.2]
  simp
 show wpAny _ _ (if (((fN items.size 0 lo:Nat):Int)==0&&(1:Int)==1&&(fN items.size items.size hi-fN items.size 0 lo)==items.size)=true then _ else _) _ _ s
 rw[Qhq a]
 have k:∀{A:Around} {E:Value->Shared->Prop} {R:Bool->Shared->Prop},R true s->wpAny (model prog w) A (Builtin.Tuple.tupleIsExact (.ref t)) R E s:=λ{A E R} h=>by
  unfold Builtin.Tuple.tupleIsExact
  exact Qaq (wpAny_typeOf ht.typeIs (Qgq h))
 refine Qaq (m:=Builtin.Tuple.tupleIsExact _) (k ?_)
 rw[Qhq rfl]
 refine Qaq (wpAny_rule ?_)
 exact Qgq ⟨_,rfl,Qgq h⟩
end
end HT
namespace L2
open PySem PySem.Spec PyProof.Rows
def P7(K:PySem.W.Frag):V->Option Int->Option Int->Hp->VK->Prop:=λx c d H Q=>∃a b,x=.ref a/\jo K H a b∧
 (HT.fN b.length 0 c=0/\HT.fN b.length b.length d=b.length->Q (.ref a) H)/\(¬(HT.fN b.length 0 c=0/\HT.fN b.length b.length d=b.length)->∀p,H p=none->Q (.ref p) (upd H p (.tup (Dp b c d))))
def Je{X:Cx}:Pn X (P7 X.K):=by
 intro c s q H x v o t m g p Q I i j l k h
 obtain⟨a,b,rfl,hx,q1,q2⟩:=h
 by_cases e:HT.fN b.length 0 m=0/\HT.fN b.length b.length g=b.length
 ·cases i
  obtain⟨f,r,n,u⟩:=I.tuple hx
  have d:f.toArray.size=b.length:=by rw[Qjq];exact r.length.symm
  refine⟨"tuple",_,PyProof.Rows.slot_tuple_getitem.lookup,n.typeIs,?_⟩
  exact HT.nY n j l k (by rw[d];exact e) ⟨.ref a,H,I,rfl,q1 e⟩
 ·exact LM c s q H _ v o t m g p Q I i j l k ⟨a,b,rfl,hx,e,q2 e⟩
end L2
namespace DL
open PySem PySem.Spec PyProof.Rows L2
inductive D where
 |non|bl (b:Bool)|int (i:Int)|str (x:Str)|tup (xs:List D)|ref (k:Nat)|fn (x:Str)
inductive O where
 |lst (xs:List D)|frz (xs:List D)|dct (kvs:List (Key×D))
abbrev aE:=List O
abbrev cB:=List (Option D)
structure Md where
 K:PySem.W.Frag
 mg:Str->Option Value
mutual
inductive Rel(M:Md)(ρ:List Addr)(H:Hp):D->V->Prop
 |non:Rel M ρ H .non .non
 |bl (b:Bool):Rel M ρ H (.bl b) (.bl b)
 |int (i:Int):Rel M ρ H (.int i) (.int i)
 |str (x:Str):Rel M ρ H (.str x) (.str x)
 |tup {a:Addr} {vs:List V} {ds:List D}:H a=some (.tup vs)->bc M ρ H ds vs->Rel M ρ H (.tup ds) (.ref a)
 |ref {k:Nat} {a:Addr}:ρ[k]?=some a->Rel M ρ H (.ref k) (.ref a)
 |fn {x:Str} {a:Addr}:M.mg x=some (.ref a)->Rel M ρ H (.fn x) (.ref a)
inductive bc(M:Md)(ρ:List Addr)(H:Hp):List D->List V->Prop
 |nil:bc M ρ H [] []
 |cons {d:D} {v:V} {ds:List D} {vs:List V}:Rel M ρ H d v->bc M ρ H ds vs->bc M ρ H (d::ds) (v::vs)
end
section
variable{M:Md}{ρ ρ':List Addr}{H H':Hp}
def Qt:HO->Prop
 |.tup _=>True
 |.frz _ _=>True
 |_=>False
structure cG(ρ:List Addr)(H:Hp)(ρ':List Addr)(H':Hp):Prop where
 pre:ρ <+: ρ'
 new:∀a∈ρ',a∈ρ\/H a=none
 keep:∀a o,H a=some o->a∉ρ\/Qt o->H' a=some o
 grow:∀a,H' a=none->H a=none
def cG.refl:cG ρ H ρ H:=⟨List.prefix_refl _,λ_ h=>.inl h,λ_ _ h _=>h,λ_ h=>h⟩
def cG.trans{H1 H2:Hp}(e:cG ρ H b H1)(f:cG b H1 d H2):cG ρ H d H2 where
 pre:=e.pre.trans f.pre
 new:=λa h=>(f.new a h).elim (λh=>e.new a h) λh=>.inr (e.grow a h)
 keep:=λa o h c=>f.keep a o (e.keep a o h c) (c.imp (λn m=>(e.new a m).elim n λz=>by rw[z] at h;cases h) id)
 grow:=λa h=>e.grow a (f.grow a h)
def cG.laid(h:H a=none):cG ρ H ρ (upd H a o) where
 pre:=List.prefix_refl _
 new:=λ_ h=>.inl h
 keep:=λb c e _=>by rw[bx];exact e;intro z;subst z;rw[h] at e;cases e
 grow:=λb e=>by
  by_cases z:b=a
  ·subst z;exact h
  ·rw[bx z] at e;exact e
theorem mF:∀{l:List α},l.Nodup->∀{i j:Nat} {a:α},l[i]?=some a->l[j]?=some a->i=j
 | [],_,_,_,_,h,_=>by simp at h
 |x::l,n,0,0,_,_,_=>rfl
 | x::l,n,0,j+1,a,h1,h2=>by
   rw[List.nodup_cons] at n
   simp at h1 h2
   subst h1
   exact absurd (mQg h2) n.1
 | x::l,n,i+1,0,a,h1,h2=>by
   rw[List.nodup_cons] at n
   simp at h1 h2
   subst h2
   exact absurd (mQg h1) n.1
 | x::l,n,i+1,j+1,a,h1,h2=>by
   rw[List.nodup_cons] at n
   simp at h1 h2
   exact congrArg (·+1)<|mF n.2 h1 h2
def cE(h:some (a,b)=some (c,d)):a=c/\b=d:=by cases h;exact⟨rfl,rfl⟩
def dh{α:Type}{l l':List α}(h:l <+: l'){k:Nat}{a:α}(e:l[k]?=some a):l'[k]?=some a:=by
 obtain⟨t,rfl⟩:=h
 rw[QHq (gQs.mp e).1]
 exact e
mutual
theorem Rel.ext(e:cG ρ H ρ' H'):∀{d:D} {v:V},Rel M ρ H d v->Rel M ρ' H' d v
 |_,_,.non=>.non
 |_,_,.bl b=>.bl b
 |_,_,.int i=>.int i
 |_,_,.str x=>.str x
 |_,_,.tup h hs=>.tup (e.keep _ _ h<|.inr trivial) (bc.ext e hs)
 |_,_,.ref h=>.ref (dh e.pre h)
 |_,_,.fn h=>.fn h
theorem bc.ext(e:cG ρ H ρ' H'):∀{ds:List D} {vs:List V},bc M ρ H ds vs->bc M ρ' H' ds vs
 |_,_,.nil=>.nil
 |_,_,.cons h hs=>.cons (Rel.ext e h) (bc.ext e hs)
end
mutual
theorem Rel.pre(e:ρ <+: ρ'):∀{d:D} {v:V},Rel M ρ H d v->Rel M ρ' H d v
 |_,_,.non=>.non
 |_,_,.bl b=>.bl b
 |_,_,.int i=>.int i
 |_,_,.str x=>.str x
 |_,_,.tup h hs=>.tup h (bc.pre e hs)
 |_,_,.ref h=>.ref (dh e h)
 |_,_,.fn h=>.fn h
theorem bc.pre(e:ρ <+: ρ'):∀{ds:List D} {vs:List V},bc M ρ H ds vs->bc M ρ' H ds vs
 |_,_,.nil=>.nil
 |_,_,.cons h hs=>.cons (Rel.pre e h) (bc.pre e hs)
end
theorem bc.length:∀{ds:List D} {vs:List V},bc M ρ H ds vs->ds.length=vs.length
 |_,_,.nil=>rfl
 |_,_,.cons _ h=>congrArg (·+1) h.length
theorem bc.append:∀{ds a:List D} {vs ws:List V},bc M ρ H ds vs->bc M ρ H a ws->bc M ρ H (ds++a) (vs++ws)
 |_,_,_,_,.nil,h=>h
 |_,_,_,_,.cons h hs,h'=>.cons h (hs.append h')
theorem bc.get:∀{ds:List D} {vs:List V} {i:Nat} {d:D},bc M ρ H ds vs->ds[i]?=some d->∃v,vs[i]?=some v/\Rel M ρ H d v
 |_,_,0,_,.cons h _,e=>by cases e;exact⟨_,rfl,h⟩
 |_,_,i+1,_,.cons _ hs,e=>hs.get (i:=i) (by simpa using e)
 |_,_,_,_,.nil,e=>by simp at e
theorem bc.set(h:Rel M ρ H d v):∀{ds:List D} {vs:List V} (i:Nat),bc M ρ H ds vs->bc M ρ H (ds.set i d) (vs.set i v)
 |_,_,_,.nil=>.nil
 |_,_,0,.cons _ t=>.cons h t
 |_,_,i+1,.cons q t=>.cons q (bc.set h i t)
theorem bc.take:∀{ds:List D} {vs:List V} (n:Nat),bc M ρ H ds vs->bc M ρ H (ds.take n) (vs.take n)
 |_,_,0,_=>.nil
 |_,_,_+1,.nil=>.nil
 |_,_,n+1,.cons h hs=>.cons h (hs.take n)
theorem bc.drop:∀{ds:List D} {vs:List V} (n:Nat),bc M ρ H ds vs->bc M ρ H (ds.drop n) (vs.drop n)
 |_,_,0,h=>h
 |_,_,_+1,.nil=>.nil
 |_,_,n+1,.cons _ hs=>hs.drop n
theorem bc.eraseIdx:∀{ds:List D} {vs:List V} (n:Nat),bc M ρ H ds vs->bc M ρ H (ds.eraseIdx n) (vs.eraseIdx n)
 |_,_,_,.nil=>.nil
 |_,_,0,.cons _ h=>h
 |_,_,n+1,.cons h hs=>.cons h (hs.eraseIdx n)
def bc.dropLast(h:bc M ρ H ds vs):bc M ρ H ds.dropLast vs.dropLast:=by
 rw[List.dropLast_eq_take,List.dropLast_eq_take,h.length]
 exact h.take _
theorem bc.rep(h:bc M ρ H ds vs):∀k:Nat,bc M ρ H (List.replicate k ds).flatten (List.replicate k vs).flatten
 |0=>.nil
 |k+1=>by rw[QNq,QNq,List.flatten_cons,List.flatten_cons];exact h.append (h.rep k)
def cI(M:Md)(ρ:List Addr)(H:Hp):List (Key×D)->List (Key×V)->Prop
 | [],kv=>kv= []
 |(k,d)::r,kv=>∃v t,kv=(k,v)::t/\Rel M ρ H d v/\cI M ρ H r t
theorem cI.imp(f:∀d v,Rel M ρ H d v->Rel M ρ' H' d v):∀{l:List (Key×D)} {kv:List (Key×V)},cI M ρ H l kv->cI M ρ' H' l kv
 | [],_,h=>h
 |(_,_)::_,_,⟨v,t,e,h,hs⟩=>⟨v,t,e,f _ _ h,cI.imp f hs⟩
theorem cI.length:∀{l:List (Key×D)} {kv:List (Key×V)},cI M ρ H l kv->l.length=kv.length
 | [],_,h=>by cases h;rfl
 |(_,_)::_,_,⟨v,t,e,h,hs⟩=>by subst e;exact congrArg (·+1) hs.length
def qG(M:Md)(ρ:List Addr)(H:Hp)(a:Addr):O->Prop
 |.lst c=>∃b,H a=some (.lst b)/\bc M ρ H c b
 |.frz c=>∃b o,H a=some (.frz o (.lst b))/\bc M ρ H c b
 |.dct d=>∃e,H a=some (.dK e)/\cI M ρ H d e
structure gC(M:Md)(ρ:List Addr)(S:aE)(H:Hp):Prop where
 len:ρ.length=S.length
 nd:ρ.Nodup
 obj:∀(k:Nat) (a:Addr) (o:O),ρ[k]?=some a->S[k]?=some o->qG M ρ H a o
def qG.lay(h:qG M ρ H a o)(i:H b=none):qG M ρ (upd H b u) a o:=by
 have e:cG ρ H ρ (upd H b u):=cG.laid i
 have g:∀{x},H a=some x->upd H b u a=some x:=λ{x} h=>by rw[bx];exact h;intro z;subst z;rw[i] at h;cases h
 cases o with
 |lst j=>obtain⟨f,c,d⟩:=h;exact⟨f,g c,d.ext e⟩
 |frz j=>obtain⟨f,o,c,d⟩:=h;exact⟨f,o,g c,d.ext e⟩
 |dct k=>obtain⟨l,c,d⟩:=h;exact⟨l,g c,d.imp λ_ _ r=>r.ext e⟩
def gC.lay(h:gC M ρ S H)(e:H b=none):gC M ρ S (upd H b u):=⟨h.len,h.nd,λk a o c d=>(h.obj k a o c d).lay e⟩
theorem qG.pre(e:ρ <+: ρ')(h:qG M ρ H a o):qG M ρ' H a o:=by
 cases o with
 |lst f=>obtain⟨d,b,c⟩:=h;exact⟨d,b,c.pre e⟩
 |frz f=>obtain⟨d,o,b,c⟩:=h;exact⟨d,o,b,c.pre e⟩
 |dct g=>obtain⟨i,b,c⟩:=h;exact⟨i,b,c.imp λ_ _ r=>r.pre e⟩
def gC.box(h:gC M ρ S H)(l:a∉ρ)(i:qG M (ρ++ [a]) H a o):gC M (ρ++ [a]) (S++ [o]) H where
 len:=by rw[lQa,lQa,h.len];rfl
 nd:=by rw[List.nodup_append];exact⟨h.nd,by simp,λx g y f=>by rw[Qfq] at f;subst f;exact λz=>l (z▸g)⟩
 obj:=λk b u d e=>by
  by_cases c:k<ρ.length
  ·rw[QHq c] at d
   rw[QHq (h.len▸c)] at e
   exact(h.obj k b u d e).pre (List.prefix_append _ _)
  ·have c:ρ.length<=k:=Nat.le_of_not_lt c
   rw[QQq c] at d
   rw[QQq (h.len▸c)] at e
   have z:k-ρ.length=0:=by
    have:=(gQs.mp d).1
    simp at this
    omega
   have j:k-S.length=0:=by rw[←h.len];exact z
   rw[z] at d
   rw[j] at e
   cases d
   cases e
   exact i
def gC.put(h:gC M ρ S H)(i:ρ[k]?=some a)(I:S[k]?=some o)(G:qG M ρ (upd H a u) a w)(J:∀x,H a=some x->¬Qt x):gC M ρ (S.set k w) (upd H a u)/\cG ρ H ρ (upd H a u):=by
 have L:a∈ρ:=mQg i
 have e:cG ρ H ρ (upd H a u):=by
  refine⟨List.prefix_refl _,λ_ h=>.inl h,λb x A c=> ?_,λb l=> ?_⟩
  ·rw[bx]
   ·exact A
   ·intro z
    subst z
    exact c.elim (λn=>n L) λC=>J _ A C
  ·by_cases z:b=a
   ·subst z;rw[cp] at l;cases l
   ·rw[bx z] at l;exact l
 refine⟨⟨by rw[List.length_set];exact h.len,h.nd,λj b p d m=> ?_⟩,e⟩
 by_cases c:j=k
 ·subst c
  rw[i] at d
  cases d
  rw[Qyq (gQs.mp I).1] at m
  cases m
  exact G
 ·rw[QKq (Ne.symm c)] at m
  have t:b≠a:=by
   intro z
   subst z
   have v:=(gQs.mp d)
   have y:=(gQs.mp i)
   obtain⟨v,P⟩:=v
   obtain⟨y,N⟩:=y
   exact c<|mF h.nd d i
  have q:=h.obj j b p d m
  cases p with
  |lst B=>obtain⟨s,g,f⟩:=q;exact⟨s,by rw[bx t];exact g,f.ext e⟩
  |frz B=>obtain⟨s,o,g,f⟩:=q;exact⟨s,o,by rw[bx t];exact g,f.ext e⟩
  |dct K=>obtain⟨F,g,f⟩:=q;exact⟨F,by rw[bx t];exact g,f.imp λ_ _ r=>r.ext e⟩
end
structure En(M:Md)(ρ:List Addr)(H:Hp)(Γ:cB)(σ:L2.St):Prop where
 len:σ.length=Γ.length
 get:∀(i:Nat) (d:D),Γ[i]?=some (some d)->∃v,σ[i]?=some (some v)/\Rel M ρ H d v
def En.ext(h:En M ρ H c b)(e:cG ρ H a f):En M a f c b:=⟨h.len,λi d q=>by obtain⟨v,g,j⟩:=h.get i d q;exact⟨v,g,j.ext e⟩⟩
def En.set(h:En M ρ H a b)(r:Rel M ρ H d v):En M ρ H (a.set i<|some d) (b.set i<|some v) where
 len:=by rw[List.length_set,List.length_set];exact h.len
 get:=λj e q=>by
  by_cases c:i=j
  ·subst c
   have l:i<a.length:=by
    have:=(gQs.mp q).1
    rwa [List.length_set] at this
   rw[Qyq l] at q
   cases q
   exact⟨v,Qyq (h.len▸l),r⟩
  ·rw[QKq c] at q⊢
   exact h.get j e q
structure Ok(M:Md)(ρ:List Addr)(Γ:cB)(S:aE)(σ:L2.St)(H:Hp):Prop where
 en:En M ρ H Γ σ
 st:gC M ρ S H
def Ok.to(h:Ok M ρ f S c H)(e:cG ρ H a b)(s:gC M a d b):Ok M a f d c b:=⟨h.en.ext e,s⟩
abbrev bH:=cB->aE->Option (D×aE)
abbrev ie:=cB->aE->Option (List D×aE)
abbrev jL:=cB->aE->Option (Bool×aE)
def tD(M:Md)(f:bH):TE:=λh H Q=>∃g e S d c,Ok M g e S h H/\f e S=some (d,c)/\∀a v b,cG g H a b->gC M a c b->Rel M a b d v->Q v b
def tL(M:Md)(f:ie):TE:=λj H Q=>∃i g S h d,Ok M i g S j H/\f g S=some (h,d)∧
 ∀b a e c,cG i H b c->gC M b d c->H a=none->a∉b->c a=some (.lst e)->bc M b c h e->Q (.ref a) c
def B8(M:Md)(f:ie):TA:=λi H Q=>∃h e S g c,Ok M h e S i H/\f e S=some (g,c)/\∀a d b,cG h H a b->gC M a c b->bc M a b g d->Q d b
def tB(M:Md)(f:jL):TT:=λh H Q=>∃g e S b d,Ok M g e S h H/\f e S=some (b,d)/\∀a c,cG g H a c->gC M a d c->Q b c
section
variable{X:Cx}
abbrev md(X:Cx):Md:=⟨X.K,X.mg⟩
def kn{t t':TE}(h:PE X e t)(w:∀b H Q,t' b H Q->t b H Q):PE X e t':=λa s b H Q I q=>h a s b H Q I (w _ _ _ q)
def OJ{t t':TT}(h:PT X e t)(w:∀b H Q,t' b H Q->t b H Q):PT X e t':=λa s b H Q I q=>h a s b H Q I (w _ _ _ q)
def Qe{t t':TT}(h:PW X e t)(w:∀b H Q,t' b H Q->t b H Q):PW X e t':=λc a s b H Q I q=>h c a s b H Q I (w _ _ _ q)
def Qu{t t':TA}(h:PA X d t)(w:∀b H Q,t' b H Q->t b H Q):PA X d t':=λc a s b H Q I q=>h c a s b H Q I (w _ _ _ q)
def Ek{t t':TS}(h:PS X e t)(w:∀D b H,t' D b H->t D b H):PS X e t':=λa s b H D I q=>h a s b H D I (w _ _ _ q)
def MU{t t':TS}(h:uA X e t)(w:∀D b H,t' D b H->t D b H):uA X e t':=λa s b H D I q=>h a s b H D I (w _ _ _ q)
noncomputable def ar(i:Nat):bH:=λa S=>match a[i]? with
 |some (some d)=>some (d,S)
 |_=>none
def Fv(h:ar i b S=some (d,a)):b[i]?=some (some d)/\a=S:=by
 unfold ar at h
 split at h
 ·cases h;exact⟨by assumption,rfl⟩
 ·cases h
def NC(h:PE X e (K9 i)):PE X e (tD (md X)<|ar i):=kn h λj H Q b=>by
 obtain⟨g,l,S,d,k,ok,e,q⟩:=b
 obtain⟨a,rfl⟩:=Fv e
 obtain⟨v,c,f⟩:=ok.en.get i d a
 exact⟨v,c,q g v H cG.refl ok.st f⟩
noncomputable def cF(d:D):bH:=λ_ S=>some (d,S)
def kG(h:PE X e (tC v))(r:∀ρ H,Rel (md X) ρ H d v):PE X e (tD (md X)<|cF d):=kn h λb H Q a=>by
 obtain⟨ρ,f,S,g,c,ok,e,q⟩:=a
 cases e
 exact q ρ v H cG.refl ok.st<|r _ _
def lV{i:Int}{j pos}:PE X (.Constant (.int i) j pos) (tD (md X)<|cF<|.int i):=kG Mw λ_ _=>.int i
def Q8{b:Bool}{j pos}:PE X (.Constant (.bool b) j pos) (tD (md X)<|cF<|.bl b):=kG Ot λ_ _=>.bl b
def Qy{j pos}:PE X (.Constant .none j pos) (tD (md X)<|cF .non):=kG Mr λ_ _=>.non
def NB{x:Str}{j pos}:PE X (.Constant (.str x) j pos) (tD (md X)<|cF<|.str x):=kG La λ_ _=>.str x
def bO(f:ie):bH:=λb S=>(f b S).bind λ(c,a)=>some (.ref a.length,a++ [.lst c])
def Il(h:PE X e (tL (md X) f)):PE X e (tD (md X)<|bO f):=kn h λA H Q v=>by
 obtain⟨w,k,S,d,z,ok,e,q⟩:=v
 unfold bO at e
 cases j:f k S with
 |none=>rw[j] at e;cases e
 | some p=>
   obtain⟨m,n⟩:=p
   rw[j] at e
   obtain⟨rfl,rfl⟩:=cE e
   refine⟨w,k,S,m,n,ok,j,λg a o s x l r t u y=> ?_⟩
   have i:=y.pre (List.prefix_append g [a])
   refine q (g++ [a]) (.ref a) s ⟨x.pre.trans<|List.prefix_append _ _,λb c=> ?_,x.keep,x.grow⟩ (l.box t ⟨o,u,i⟩)<|.ref ?_
   · rcases mQa.mp c with c|c
     · exact x.new b c
     · rw[Qfq] at c;subst c;exact .inr r
   · rw[←l.len,QQq (Qmq _)]
     simp
noncomputable def av:ie:=λ_ S=>some ([],S)
noncomputable def aq(f:bH)(g:ie):ie:=λa S=>(f a S).bind λ(d,c)=>(g a c).bind λ(e,b)=>some (d::e,b)
def au{o:Option α}(h:o.bind f=some b):∃a,o=some a/\f a=some b:=by
 cases o with
 |none=>cases h
 |some a=>exact⟨a,rfl,h⟩
def i8:PA X [] (B8 (md X) av):=Qu iu λc H Q a=>by
 obtain⟨b,g,S,d,f,ok,e,q⟩:=a
 cases e
 exact q b [] H cG.refl ok.st .nil
def cT(w:PE X e (tD (md X) f))(r:PA X a (B8 (md X) g))(hs:starEach (e::a) X.env=(false,eval e X.env)::starEach a X.env:=by rfl):PA X (e::a) (B8 (md X)<|aq f g):=
 Qu (eF w r hs) λC H Q z=>by
  obtain⟨A,m,S,d,B,ok,e,q⟩:=z
  obtain⟨⟨x,k⟩,u,e⟩:=au e
  obtain⟨⟨o,y⟩,s,e⟩:=au e
  obtain⟨rfl,rfl⟩:=cE e
  refine⟨A,m,S,x,k,ok,u,λi v H1 l h t=>⟨i,m,k,o,y,ok.to l h,s,λb p H2 j c n=> ?_⟩⟩
  exact q b (v::p) H2 (l.trans j) c<|.cons (t.ext j) n
def bg(f:ie):bH:=λb S=>(f b S).bind λ(a,c)=>if a.length<=sizeLine then some (.tup a,c) else none
def NZ{i:List Expr}{f:ie}{k pos}(h:PA X i (B8 (md X) f)):PE X (.Tuple i k pos) (tD (md X)<|bg f):=kn (Le h) λw H Q s=>by
 obtain⟨t,o,S,d,u,ok,e,q⟩:=s
 obtain⟨⟨l,m⟩,r,e⟩:=au e
 dsimp only at e
 split at e
 ·rename_i c
  obtain⟨rfl,rfl⟩:=cE e
  refine⟨t,o,S,l,m,ok,r,λg v H1 n b j=>⟨j.length▸c,λp a=> ?_⟩⟩
  exact q g (.ref p) _ (n.trans<|cG.laid a) (b.lay a)<|.tup cp (j.ext<|cG.laid a)
 ·cases e
def bB(f:ie):ie:=λb S=>(f b S).bind λ(a,c)=>if a.length<=sizeLine then some (a,c) else none
def eE(x:cG ρ H a b)(st:gC M a S b)(c:b p=none):p∉a:=λm=>by
 obtain⟨k,g⟩:=List.getElem?_of_mem m
 have l:k<S.length:=st.len▸(gQs.mp g).1
 have:=st.obj k p _ g (gQe l)
 cases e:S[k] with
 |lst d=>rw[e] at this;obtain⟨f,h,_⟩:=this;rw[c] at h;cases h
 |frz d=>rw[e] at this;obtain⟨f,o,h,_⟩:=this;rw[c] at h;cases h
 |dct d=>rw[e] at this;obtain⟨f,h,_⟩:=this;rw[c] at h;cases h
def Io{j:List Expr}{f:ie}{pos}(h:PA X j (B8 (md X) f)):PE X (.List j pos) (tL (md X)<|bB f):=kn (Mi h) λv H Q s=>by
 obtain⟨t,o,S,d,u,ok,e,q⟩:=s
 obtain⟨⟨l,m⟩,r,e⟩:=au e
 dsimp only at e
 split at e
 ·rename_i c
  obtain⟨rfl,rfl⟩:=cE e
  refine⟨t,o,S,l,m,ok,r,λi n H1 g b k=>⟨k.length▸c,λp a=> ?_⟩⟩
  exact q i p n _ (g.trans<|cG.laid a) (b.lay a) (g.grow p a) (eE g b a) cp<|k.ext<|cG.laid a
 ·cases e
end
section
variable{X:Cx}{a b c e:Expr}{pos:Pos}
def HH:lR X (binaryOp .Add) (λx y H Q=>∃a b ys,x=.ref a/\y=.ref b/\jo X.K H a []/\jo X.K H b ys/\Q (.ref b) H):=by
 intro o s S H x y v u Q I B L h
 obtain⟨a,b,ys,rfl,rfl,ha,l,q⟩:=h
 cases B
 cases L
 obtain⟨P,J,N,_⟩:=I.tuple ha
 obtain⟨f,R,l,_⟩:=I.tuple l
 cases J
 obtain⟨⟨M,G,r,C⟩,t,w,n,z⟩:=id N
 obtain⟨⟨p,m,j,k⟩,g,d,A,i⟩:=id l
 simp only at w z d i
 subst w z d i
 exact concat_meets ⟨_,t,rfl⟩ ⟨_,g,rfl⟩ noFill_tuple_add seq_tuple_add PySem.F.slot_tuple_add PySem.F.entry_tuple_add (PySem.F.args_tuple_add_2 _ _)
   (tuple_addW0 a b _ f.toArray n A G m C k (by simp)) ⟨t,g,.ref b,H,I,rfl,q⟩
abbrev wW:=aE->D->D->Option D
def nZ(M:Md)(r:R2)(o:wW):Prop:=∀{f:List Addr} {S:aE} {H:Hp} {x y d:D} {u v:V} {Q:VK},gC M f S H->Rel M f H x u->Rel M f H y v->o S x y=some d->(∀w g,cG f H f g->gC M f S g->Rel M f g d w->Q w g)->r u v H Q
noncomputable def aQ(o:wW)(f g:bH):bH:=λh S=>(f h S).bind λ(x,j)=>(g h j).bind λ(y,i)=>(o i x y).bind λd=>some (d,i)
def sR(B:nZ (md X) r o)(h:PE X e (JP r (tD (md X) f)<|tD (md X) g)):PE X e (tD (md X)<|aQ o f g):=kn h λP H Q K=>by
 obtain⟨M,t,S,d,N,ok,e,q⟩:=K
 obtain⟨⟨x,p⟩,G,e⟩:=au e
 obtain⟨⟨y,J⟩,A,e⟩:=au e
 obtain⟨R,F,e⟩:=au e
 obtain⟨rfl,rfl⟩:=cE e
 refine⟨M,t,S,x,p,ok,G,λm v H1 s l C=>⟨m,t,p,y,J,ok.to s l,A,λj w H2 n k u=> ?_⟩⟩
 exact B k (C.ext n) u F λL H3 z i I=>q j L H3 ((s.trans n).trans z) i I
def cA:wW:=λ_ x y=>match x,y with
 |.int i,.int j=>some (.int (i+j))
 |.str i,.str j=>if i.length+j.length<=sizeLine then some (.str (i++j)) else none
 |.tup i,.tup j=>if i.length+j.length<=sizeLine then some (.tup (i++j)) else none
 |_,_=>none
abbrev Nj(K:PySem.W.Frag):R2:=λx y H Q=>(∃i j,x=.int i/\y=.int j/\Q (.int (i+j)) H)\/(∃i j,x=.str i/\y=.str j/\i.length+j.length<=sizeLine/\Q (.str (i++j)) H)∨
 (∃a b d,x=.ref a/\y=.ref b/\jo K H a []/\jo K H b d/\Q (.ref b) H)\/KP K x y H Q
def J9:lR X (binaryOp .Add) (Nj X.K):=LU.or (CH.or<|HH.or J0)
def Lv:nZ M (Nj M.K) cA:=by
 intro w S H x y d u v Q f t k e q
 cases t with
 |int i=>cases k <;>simp only[cA,reduceCtorEq] at e;cases e;exact .inl ⟨_,_,rfl,rfl,q _ _ cG.refl f<|.int _⟩
 | str i=>
   cases k <;>simp only[cA,reduceCtorEq] at e
   split at e <;>cases e
   exact .inr (.inl ⟨_,_,rfl,rfl,by assumption,q _ _ cG.refl f<|.str _⟩)
 | tup m h=>
   cases k with
   | tup l j=>
     simp only[cA] at e
     split at e <;>cases e
     rename_i r
     have o:=h.length
     have s:=j.length
     cases h with
     |nil=>exact .inr (.inr (.inl ⟨_,_,_,rfl,rfl,jo.of m,jo.of l,q _ _ cG.refl f<|.tup l j⟩))
     | cons h g=>
       refine .inr (.inr (.inr ⟨_,_,_,_,rfl,rfl,jo.of m,jo.of l,by simp,by rw[←o,←s];exact r,λz=> ?_,λz p n=> ?_⟩))
       · subst z
         cases j
         rw[List.append_nil] at q
         exact q _ _ cG.refl f<|.tup m (.cons h g)
       · exact q _ _ (cG.laid n) (f.lay n)<|.tup cp ((bc.append (.cons h g) j).ext (cG.laid n))
   |_=>simp only[cA,reduceCtorEq] at e
 |_=>simp only[cA,reduceCtorEq] at e
def Qa(d:PE X a (tD (md X) f))(h:PE X b (tD (md X) g)):PE X (.BinOp a .Add b pos) (tD (md X)<|aQ cA f g):=sR Lv (t6 J9 d h)
def intD(C:Int->Int->Prop)[∀i j,Decidable (C i j)](k:Int->Int->D):wW:=λ_ x y=>match x,y with
 |.int i,.int j=>if C i j then some (k i j) else none
 |_,_=>none
def y2{C:Int->Int->Prop}[∀i j,Decidable (C i j)]{k:Int->Int->D}{g:Int->Int->V}(h:∀i j ρ H,Rel M ρ H (k i j)<|g i j):nZ M (rI C g) (intD C k):=by
 intro ρ S H x y d u v Q m l f e q
 cases l <;>cases f <;>simp only[intD,reduceCtorEq] at e
 split at e <;>cases e
 exact⟨_,_,rfl,rfl,by assumption,q _ _ cG.refl m<|h _ _ _ _⟩
def qT{k:Int->Int->D}{g:Int->Int->V}(h:∀i j ρ H,Rel M ρ H (k i j)<|g i j):nZ M (Fi g) (intD (λ_ _=>True) k):=by
 intro ρ S H x y d u v Q m l f e q
 cases l <;>cases f <;>simp only[intD,reduceCtorEq] at e
 rw[Qhq trivial] at e
 cases e
 exact⟨_,_,rfl,rfl,q _ _ cG.refl m<|h _ _ _ _⟩
instance{i j:Int}:Decidable (G5 i j):=by unfold G5;infer_instance
instance{i j:Int}:Decidable (IA i j):=by unfold IA;infer_instance
open Classical in
noncomputable instance{i j:Int}:Decidable (IntMulOk i j):=Classical.propDecidable _
abbrev jB:wW:=intD (λ_ _=>True) λi j=>.int (i-j)
noncomputable abbrev n0:wW:=intD IntMulOk λi j=>.int (i*j)
abbrev uu:wW:=intD (λ_ j=>0<j) λi j=>.int (i%j)
abbrev Cm:wW:=intD G5 λi j=>.int (i/j)
abbrev yC:wW:=intD IA λi j=>.int (i^j.toNat)
def Qb(d:PE X a (tD (md X) f))(h:PE X b (tD (md X) g)):PE X (.BinOp a .Sub b pos) (tD (md X)<|aQ jB f g):=sR (qT λi j _ _=>.int _) (t6 Mc d h)
def QI(d:PE X a (tD (md X) f))(h:PE X b (tD (md X) g)):PE X (.BinOp a .Mult b pos) (tD (md X)<|aQ n0 f g):=sR (y2 λi j _ _=>.int _) (t6 Js d h)
def QS(d:PE X a (tD (md X) f))(h:PE X b (tD (md X) g)):PE X (.BinOp a .Mod b pos) (tD (md X)<|aQ uu f g):=sR (y2 λi j _ _=>.int _) (t6 Mq d h)
def P5(d:PE X a (tD (md X) f))(h:PE X b (tD (md X) g)):PE X (.BinOp a .FloorDiv b pos) (tD (md X)<|aQ Cm f g):=sR (y2 λi j _ _=>.int _) (t6 Ky d h)
def QV(d:PE X a (tD (md X) f))(h:PE X b (tD (md X) g)):PE X (.BinOp a .Pow b pos) (tD (md X)<|aQ yC f g):=sR (y2 λi j _ _=>.int _) (t6 Mk d h)
def h_(f:bH):bH:=λg S=>(f g S).bind λ(d,h)=>match d with
 |.int i=>some (.int (-i),h)
 |_=>none
def QA(m:PE X a (tD (md X) f)):PE X (.UnaryOp .USub a pos) (tD (md X)<|h_ f):=kn (Nf LK m) λs H Q n=>by
 obtain⟨p,j,S,d,r,ok,e,q⟩:=n
 obtain⟨⟨x,h⟩,l,e⟩:=au e
 dsimp only at e
 split at e
 ·obtain⟨rfl,rfl⟩:=cE e
  refine⟨p,j,S,_,h,ok,l,λo v H1 i g k=> ?_⟩
  cases k
  exact⟨_,rfl,q _ _ _ i g<|.int _⟩
 ·cases e
def xc:D->Option V
 |.non=>some .non
 |.bl b=>some (.bl b)
 |.int i=>some (.int i)
 |.str x=>some (.str x)
 |_=>none
def mv(r:Rel M ρ H d u)(e:xc d=some v):u=v:=by
 cases r <;>simp[xc] at e <;>exact e
def du(d:Bool):wW:=λ_ x y=>match xc x,xc y with
 |some u,some v=>if C6 u v=true then some (.bl (if d then !decide (u=v) else decide (u=v))) else none
 |_,_=>none
def BJ(e:du f S x y=some d):∃u v,xc x=some u/\xc y=some v/\C6 u v=true/\d=.bl (if f then !decide (u=v) else decide (u=v)):=by
 unfold du at e
 split at e
 ·split at e <;>cases e
  exact⟨_,_,by assumption,by assumption,by assumption,rfl⟩
 ·cases e
def Nc:nZ M Qn (du false):=by
 intro n S H x y d u v Q j i f e q
 obtain⟨m,l,h,k,g,rfl⟩:=BJ e
 cases mv i h
 cases mv f k
 exact⟨g,q _ _ cG.refl j<|.bl _⟩
def QL:nZ M Qm (du true):=by
 intro n S H x y d u v Q j i f e q
 obtain⟨m,l,h,k,g,rfl⟩:=BJ e
 cases mv i h
 cases mv f k
 exact⟨g,q _ _ cG.refl j<|.bl _⟩
abbrev Cw:wW:=intD (λ_ _=>True) λi j=>.bl (decide (i<j))
abbrev OD:wW:=intD (λ_ _=>True) λi j=>.bl (decide (i<=j))
abbrev Jb:wW:=intD (λ_ _=>True) λi j=>.bl (decide (j<i))
abbrev Oo:wW:=intD (λ_ _=>True) λi j=>.bl (decide (j<=i))
def QT:nZ M (Fi λi j=>.bl (decide (i<j))) Cw:=qT λi j _ _=>.bl _
def Qv:nZ M (Fi λi j=>.bl (decide (i<=j))) OD:=qT λi j _ _=>.bl _
def Qs:nZ M (Fi λi j=>.bl (decide (j<i))) Jb:=qT λi j _ _=>.bl _
def QY:nZ M (Fi λi j=>.bl (decide (j<=i))) Oo:=qT λi j _ _=>.bl _
def isNone:D->Bool
 |.non=>true
 |_=>false
def Bk(d:Bool):wW:=λ_ x y=>match y with
 |.non=>some (.bl (if d then !isNone x else isNone x))
 |_=>none
def xJ(r:Rel M ρ H d u):decide (u=V.non)=isNone d:=by
 cases r <;>simp[isNone]
def P4:nZ M (λx y H Q=>y=.non/\Q (.bl (decide (x=.non))) H) (Bk false):=by
 intro i S H x y d u v Q g f h e q
 cases h <;>simp only[Bk,reduceCtorEq] at e
 cases e
 rw[xJ f]
 exact⟨rfl,q _ _ cG.refl g<|.bl _⟩
def OH:nZ M (λx y H Q=>y=.non/\Q (.bl (!decide (x=.non))) H) (Bk true):=by
 intro i S H x y d u v Q g f h e q
 cases h <;>simp only[Bk,reduceCtorEq] at e
 cases e
 rw[xJ f]
 exact⟨rfl,q _ _ cG.refl g<|.bl _⟩
def QH(h:lR X (compareOp d) r)(k:nZ (md X) r o)(j:PE X a (tD (md X) f))(l:PE X b (tD (md X) g))(i:behindInMarks d b=false):PE X (.Compare a [d] [b] pos) (tD (md X)<|aQ o f g):=sR k (EE h j l i)
noncomputable def aH(f:bH):jL:=λg S=>(f g S).bind λ(d,h)=>match d with
 |.bl k=>some (k,h)
 |_=>none
def vY(e:aH f h S=some (k,g)):f h S=some (.bl k,g):=by
 obtain⟨⟨d,j⟩,i,e⟩:=au e
 dsimp only at e
 split at e
 ·cases e;exact i
 ·cases e
def Nu(B:nZ (md X) r o)(h:PT X e (HY<|JP r (tD (md X) f)<|tD (md X) g)):PT X e (tB (md X)<|aH<|aQ o f g):=OJ h λN H Q K=>by
 obtain⟨L,t,S,d,M,ok,e,q⟩:=K
 have e:=vY e
 obtain⟨⟨x,p⟩,G,e⟩:=au e
 obtain⟨⟨y,J⟩,A,e⟩:=au e
 obtain⟨P,F,e⟩:=au e
 obtain⟨rfl,rfl⟩:=cE e
 refine⟨L,t,S,x,p,ok,G,λm v H1 s l C=>⟨m,t,p,y,J,ok.to s l,A,λj w H2 n k u=> ?_⟩⟩
 exact B k (C.ext n) u F λR H3 z i I=>by cases I;exact⟨_,rfl,q j H3 ((s.trans n).trans z) i⟩
def NL(h:lR X (compareOp d) r)(k:nZ (md X) r o)(j:PE X a (tD (md X) f))(l:PE X b (tD (md X) g))(i:behindInMarks d b=false):PT X (.Compare a [d] [b] pos) (tB (md X)<|aH<|aQ o f g):=Nu k (uS h j l i)
def C_(S:aE):D->Option Bool
 |.non=>some false
 |.bl b=>some b
 |.int i=>some (i !=0)
 |.str y=>if y.length<=sizeLine then some ((y.length:Int) !=0) else none
 |.tup d=>some (!d.isEmpty)
 | .ref k=>match S[k]? with
   |some (.lst d)=>some (!d.isEmpty)
   |some (.dct d)=>some (!d.isEmpty)
   |_=>none
 |.fn _=>none
def bc.isEmpty(h:bc M ρ H ds vs):ds.isEmpty=vs.isEmpty:=by cases h <;>rfl
theorem cI.isEmpty(h:cI M ρ H ds vs):ds.isEmpty=vs.isEmpty:=by
 cases ds with
 |nil=>cases h;rfl
 |cons p r=>obtain⟨v,t,e,_⟩:=h;subst e;rfl
def Jg(st:gC M ρ S H)(r:Rel M ρ H d u)(e:C_ S d=some k):LY M.K u H k:=by
 cases r with
 |non=>cases e;rfl
 |bl=>cases e;rfl
 |int=>cases e;rfl
 |str=>simp only[C_] at e;split at e <;>cases e;exact⟨by assumption,rfl⟩
 |tup h j=>cases e;exact .inr (.inl ⟨_,jo.of h,by rw[j.isEmpty]⟩)
 |fn=>cases e
 | ref h=>
   simp only[C_] at e
   split at e
   · cases e
     obtain⟨f,g,i⟩:=st.obj _ _ _ h (by assumption)
     exact .inl ⟨f,je.of g,by rw[i.isEmpty]⟩
   · cases e
     obtain⟨f,g,i⟩:=st.obj _ _ _ h (by assumption)
     exact .inr (.inr ⟨f,g,by rw[i.isEmpty]⟩)
   · cases e
def j0(f:bH):jL:=λh S=>(f h S).bind λ(d,g)=>(C_ g d).bind λk=>some (k,g)
def Qx(p:PE X a (tD (md X) f))(he:∀d,isTrue a X.env d=(do let v←d;standAt a.pos;holding [v] (truthy v)):=by intro _;rfl):PT X a (tB (md X)<|j0 f):=OJ (GW p he) λw H Q r=>by
 obtain⟨t,l,S,k,u,ok,e,q⟩:=r
 obtain⟨⟨x,h⟩,o,e⟩:=au e
 obtain⟨n,j,e⟩:=au e
 obtain⟨rfl,rfl⟩:=cE e
 exact⟨t,l,S,x,h,ok,o,λs v H1 i g m=>⟨n,Jg g m j,q _ _ i g⟩⟩
def xw(f:jL):jL:=λd S=>(f d S).bind λ(k,g)=>some (!k,g)
def P_(m:PT X a (tB (md X) f)):PT X (.UnaryOp .Not a pos) (tB (md X)<|xw f):=OJ (LW m) λs H Q n=>by
 obtain⟨p,j,S,k,r,ok,e,q⟩:=n
 obtain⟨⟨g,h⟩,l,e⟩:=au e
 obtain⟨rfl,rfl⟩:=cE e
 exact⟨p,j,S,g,h,ok,l,λo H1 i d=>q _ _ i d⟩
def ij(f g:jL):jL:=λd S=>(f d S).bind λ(k,h)=>if k=true then g d h else some (false,h)
def Lx(f g:jL):jL:=λd S=>(f d S).bind λ(k,h)=>if k=true then some (true,h) else g d h
def PK(d:PT X a (tB (md X) f)):PW X (.BoolOp .And [a] pos) (tB (md X) f):=JX d
def QU(d:PT X a (tB (md X) f)):PW X (.BoolOp .Or [a] pos) (tB (md X) f):=Mt d
def w_and(v:PT X a (tB (md X) f))(t:PW X (.BoolOp .And (b::d) pos) (tB (md X) g)):PW X (.BoolOp .And (a::b::d) pos) (tB (md X)<|ij f g):=Qe (Lq v t) λy H Q w=>by
 obtain⟨x,n,S,k,o,ok,e,q⟩:=w
 obtain⟨⟨p,m⟩,u,e⟩:=au e
 refine⟨x,n,S,p,m,ok,u,λl H1 i h=> ?_⟩
 dsimp only at e
 split at e
 ·rename_i c
  rw[Qhq c]
  exact⟨l,n,m,k,o,ok.to i h,e,λs H2 r j=>q _ _ (i.trans r) j⟩
 ·rename_i c
  rw[Quq c]
  obtain⟨rfl,rfl⟩:=cE e
  exact q _ _ i h
def w_or(v:PT X a (tB (md X) f))(t:PW X (.BoolOp .Or (b::d) pos) (tB (md X) g)):PW X (.BoolOp .Or (a::b::d) pos) (tB (md X)<|Lx f g):=Qe (Ny v t) λy H Q w=>by
 obtain⟨x,n,S,k,o,ok,e,q⟩:=w
 obtain⟨⟨p,m⟩,u,e⟩:=au e
 refine⟨x,n,S,p,m,ok,u,λl H1 i h=> ?_⟩
 dsimp only at e
 split at e
 ·rename_i c
  rw[Qhq c]
  obtain⟨rfl,rfl⟩:=cE e
  exact q _ _ i h
 ·rename_i c
  rw[Quq c]
  exact⟨l,n,m,k,o,ok.to i h,e,λs H2 r j=>q _ _ (i.trans r) j⟩
def qX(f g:bH):bH:=λh S=>(f h S).bind λ(d,i)=>match d with
 |.bl true=>g h i
 |.bl false=>some (.bl false,i)
 |_=>none
def JK(f:bH):bH:=λg S=>(f g S).bind λ(d,h)=>match d with
 |.bl k=>some (.bl (!k),h)
 |_=>none
def Qq{op}{f:bH}(h:PE X a (tD (md X) f)):PE X (.BoolOp op [a] pos) (tD (md X) f):=L0 h
def Qp(z:PE X a (tD (md X) f))(u:PE X (.BoolOp .And (b::h) pos) (tD (md X) g)):PE X (.BoolOp .And (a::b::h) pos) (tD (md X)<|qX f g):=kn (K7 z u) λC H Q A=>by
 obtain⟨B,n,S,d,p,ok,e,q⟩:=A
 obtain⟨⟨x,m⟩,y,e⟩:=au e
 refine⟨B,n,S,x,m,ok,y,λl v H1 j i o=> ?_⟩
 dsimp only at e
 split at e
 ·cases o
  refine⟨_,rfl,?_⟩
  rw[Qhq rfl]
  exact⟨l,n,m,d,p,ok.to j i,e,λt w H2 s k r=>q _ _ _ (j.trans s) k r⟩
 ·cases o
  refine⟨_,rfl,?_⟩
  rw[Quq Qtq]
  obtain⟨rfl,rfl⟩:=cE e
  exact q _ _ _ j i<|.bl _
 ·cases e
def Qo(m:PE X a (tD (md X) f)):PE X (.UnaryOp .Not a pos) (tD (md X)<|JK f):=kn (Mp m) λs H Q n=>by
 obtain⟨p,j,S,d,r,ok,e,q⟩:=n
 obtain⟨⟨x,h⟩,l,e⟩:=au e
 refine⟨p,j,S,x,h,ok,l,λo v H1 i g k=> ?_⟩
 dsimp only at e
 split at e
 ·cases k
  obtain⟨rfl,rfl⟩:=cE e
  exact⟨_,rfl,q _ _ _ i g<|.bl _⟩
 ·cases e
def xt(c:jL)(f g:bH):bH:=λd S=>(c d S).bind λ(k,h)=>if k=true then f d h else g d h
def QW(u:PT X c (tB (md X) h))(y:PE X a (tD (md X) f))(v:PE X b (tD (md X) g)):PE X (.IfExp c a b pos) (tD (md X)<|xt h f g):=kn (Ie u y v) λB H Q z=>by
 obtain⟨A,r,S,d,s,ok,e,q⟩:=z
 obtain⟨⟨t,o⟩,x,e⟩:=au e
 refine⟨A,r,S,t,o,ok,x,λk H1 l j=> ?_⟩
 dsimp only at e
 split at e
 ·rename_i c
  rw[Qhq c]
  exact⟨k,r,o,d,s,ok.to l j,e,λp w H2 n i m=>q _ _ _ (l.trans n) i m⟩
 ·rename_i c
  rw[Quq c]
  exact⟨k,r,o,d,s,ok.to l j,e,λp w H2 n i m=>q _ _ _ (l.trans n) i m⟩
def fJ:wW:=λS x y=>match x,y with
 |.tup xs,.int i=>kj xs i
 |.str z,.int i=>if z.length<=sizeLine then(kj z.cps.toList i).map λc=>.str ⟨#[c]⟩ else none
 | .ref k,.int i=>match S[k]? with
   |some (.lst xs)=>kj xs i
   |some (.frz xs)=>kj xs i
   |_=>none
 |_,_=>none
def JT{ys:List f}(h:kj xs i=some x)(l:xs.length=ys.length):∃j:Nat,xs[j]?=some x/\∀y,ys[j]?=some y->kj ys i=some y:=by
 unfold kj at h
 obtain⟨j,e,h⟩:=au h
 exact⟨j,h,λy d=>by unfold kj;rw[←l,e];exact d⟩
def bc.atI(h:bc M ρ H ds vs)(e:L2.kj ds i=some d):∃v,L2.kj vs i=some v/\Rel M ρ H d v:=by
 obtain⟨j,k,l⟩:=JT e h.length
 obtain⟨v,f,g⟩:=h.get k
 exact⟨v,l v f,g⟩
def Nm:nZ M (QG M.K) fJ:=by
 intro r S H x y d u v Q i p l e q
 cases l <;>cases p <;>simp only[fJ,reduceCtorEq] at e
 ·split at e
  ·obtain⟨c,f,g⟩:=oQm.mp e
   subst g
   exact .inr (.inr ⟨_,_,c,rfl,rfl,by assumption,f,q _ _ cG.refl i<|.str _⟩)
  ·cases e
 ·rename_i h n
  obtain⟨v,f,g⟩:=n.atI e
  exact .inr (.inl ⟨_,_,_,v,rfl,rfl,jo.of h,f,q _ _ cG.refl i g⟩)
 ·rename_i h
  split at e
  ·obtain⟨m,k,j⟩:=i.obj _ _ _ h (by assumption)
   obtain⟨v,f,g⟩:=j.atI e
   exact .inl ⟨_,_,_,v,rfl,rfl,je.of k,f,q _ _ cG.refl i g⟩
  ·obtain⟨m,o,k,j⟩:=i.obj _ _ _ h (by assumption)
   obtain⟨v,f,g⟩:=j.atI e
   exact .inl ⟨_,_,_,v,rfl,rfl,.inl (.inr ⟨o,k⟩),f,q _ _ cG.refl i g⟩
  ·cases e
def p9(d:PE X a (tD (md X) f))(h:PE X b (tD (md X) g))(hs:E2 b:=by intro _ _;rfl):PE X (.Subscript a b pos) (tD (md X)<|aQ fJ f g):=sR Nm (M_ Li d h hs)
end
inductive Tag where
 |tu|fr|st (k:Nat)|fz (k:Nat)
def DV(M:Md)(ρ:List Addr)(H:Hp)(a:Addr)(vs:List V):Tag->Prop
 |.tu=>jo M.K H a vs
 |.fr=>H a=some (.lst vs)/\a∉ρ
 |.st k=>ρ[k]?=some a/\H a=some (.lst vs)
 |.fz k=>ρ[k]?=some a/\∃o,H a=some (.frz o (.lst vs))
abbrev fw:=cB->aE->Option ((List D×Tag)×aE)
def tQ(M:Md)(f:fw):TE:=λj H Q=>∃i g S h t d,Ok M i g S j H/\f g S=some ((h,t),d)∧
 ∀b a e c,cG i H b c->gC M b d c->DV M b c a e t->bc M b c h e->Q (.ref a) c
def DV.sq(h:DV M ρ H a vs t):je M.K H a vs\/jo M.K H a vs:=by
 cases t with
 |tu=>exact .inr h
 |fr=>exact .inl (je.of h.1)
 |st k=>exact .inl (je.of h.2)
 |fz k=>obtain⟨_,o,h⟩:=h;exact .inl (.inl (.inr ⟨o,h⟩))
def Tag.isL:Tag->Bool
 |.tu=>false
 |_=>true
def Tag.isM:Tag->Bool
 |.fr=>true
 |.st _=>true
 |_=>false
def DV.sqL(h:DV M ρ H a vs t)(c:t.isL=true):je M.K H a vs:=by
 cases t with
 |tu=>cases c
 |fr=>exact je.of h.1
 |st k=>exact je.of h.2
 |fz k=>obtain⟨_,o,h⟩:=h;exact .inl (.inr ⟨o,h⟩)
def DV.sqM(h:DV M ρ H a vs t)(c:t.isM=true):H a=some (.lst vs):=by
 cases t with
 |tu=>cases c
 |fr=>exact h.1
 |st k=>exact h.2
 |fz k=>cases c
def DV.sqT(h:DV M ρ H a vs t)(c:t.isL=false):jo M.K H a vs:=by
 cases t with
 |tu=>exact h
 |fr=>cases c
 |st k=>cases c
 |fz k=>cases c
def Tag.stays(S:aE)(ds:List D):Tag->Prop
 |.st k=>S[k]?=some (.lst ds)
 |.fz k=>S[k]?=some (.frz ds)
 |_=>True
def jo.ext{K:PySem.W.Frag}{ρ b:List Addr}{H c:Hp}{a:Addr}{vs:List V}(e:cG ρ H b c)(h:jo K H a vs):jo K c a vs:=by
 rcases h with(h|⟨o,h⟩)|h
 ·exact .inl (.inl (e.keep _ _ h<|.inr trivial))
 ·exact .inl (.inr ⟨o,e.keep _ _ h<|.inr trivial⟩)
 ·exact .inr h
def DV.to(h:DV M ρ H a vs t)(r:bc M ρ H ds vs)(e:cG ρ H d i)(st:gC M d S i)(c:t.stays S ds):∃b,DV M d i a b t/\bc M d i ds b:=by
 cases t with
 |tu=>exact⟨vs,jo.ext e h,r.ext e⟩
 |fr=>exact⟨vs,⟨e.keep _ _ h.1<|.inl h.2,λm=>(e.new a m).elim h.2 λz=>by have f:=h.1;rw[z] at f;cases f⟩,r.ext e⟩
 | st k=>
   have g:=dh e.pre h.1
   obtain⟨b,f,j⟩:=st.obj k a _ g c
   exact⟨b,⟨g,f⟩,j⟩
 | fz k=>
   have g:=dh e.pre h.1
   obtain⟨b,o,f,j⟩:=st.obj k a _ g c
   exact⟨b,⟨g,o,f⟩,j⟩
section
variable{X:Cx}{a b c e:Expr}{pos:Pos}
def ia(f:ie):fw:=λd S=>(f d S).bind λ(h,g)=>some ((h,.fr),g)
def QJ(h:PE X e (tL (md X) f)):PE X e (tQ (md X)<|ia f):=kn h λA H Q p=>by
 obtain⟨r,k,S,v,t,u,ok,e,q⟩:=p
 obtain⟨⟨d,i⟩,m,e⟩:=au e
 obtain⟨j,rfl⟩:=cE e
 obtain⟨rfl,rfl⟩:=Prod.mk.inj j
 exact⟨r,k,S,d,i,ok,m,λg a w z x l y n o s=>q _ _ _ _ x l ⟨o,n⟩ s⟩
def wA(S:aE):D->Option (List D×Tag)
 |.tup d=>some (d,.tu)
 | .ref k=>match S[k]? with
   |some (.lst d)=>some (d,.st k)
   |some (.frz d)=>some (d,.fz k)
   |_=>none
 |_=>none
def aR(f:bH):fw:=λh S=>(f h S).bind λ(d,g)=>(wA g d).bind λp=>some (p,g)
def Jv(st:gC M ρ S H)(r:Rel M ρ H d v)(e:wA S d=some (ds,t)):∃a vs,v=.ref a/\DV M ρ H a vs t/\bc M ρ H ds vs:=by
 cases r with
 |tup h i=>simp only[wA] at e;cases e;exact⟨_,_,rfl,jo.of h,i⟩
 | ref h=>
   simp only[wA] at e
   split at e
   · rename_i q
     cases e
     obtain⟨vs,f,g⟩:=st.obj _ _ _ h q
     exact⟨_,vs,rfl,⟨h,f⟩,g⟩
   · rename_i q
     cases e
     obtain⟨vs,o,f,g⟩:=st.obj _ _ _ h q
     exact⟨_,vs,rfl,⟨h,o,f⟩,g⟩
   · cases e
 |_=>simp only[wA,reduceCtorEq] at e
def MX(h:PE X e (tD (md X) f)):PE X e (tQ (md X)<|aR f):=kn h λB H Q p=>by
 obtain⟨s,l,S,w,t,u,ok,e,q⟩:=p
 obtain⟨⟨d,j⟩,n,e⟩:=au e
 obtain⟨⟨o,z⟩,k,e⟩:=au e
 obtain⟨m,rfl⟩:=cE e
 obtain⟨rfl,rfl⟩:=Prod.mk.inj m
 refine⟨s,l,S,d,j,ok,n,λi v A x g r=> ?_⟩
 obtain⟨a,y,rfl,h1,h2⟩:=Jv g r k
 exact q _ _ _ _ x g h1 h2
def KO(n:Gl X "len")(k:X.mg "len"=none)(u:PE X a (tQ (md X) f))(hs:starEach [a] X.env= [(false,eval a X.env)]:=by rfl):
  PE X (.Call (.Name "len" p) [a] [] pos) (tD (md X) λi S=>(f i S).bind λ(p,g)=>some (.int p.1.length,g)):=
 kn (jW zQ n k PySem.boot_len (eF u iu hs) (he:=hs)) λA H Q v=>by
  obtain⟨w,i,S,d,y,ok,e,q⟩:=v
  obtain⟨⟨⟨m,t⟩,g⟩,s,e⟩:=au e
  obtain⟨rfl,rfl⟩:=cE e
  refine⟨w,i,S,m,t,g,ok,s,λl a j z x o h r=>⟨a,j,rfl,h.sq,?_⟩⟩
  have:=q _ (.int j.length) _ x o (by rw[←r.length];exact .int _)
  exact this
def hJ(f:fw):bH:=λd S=>(f d S).bind λ(p,g)=>some (.int p.1.length,g)
def tupQ(f:fw):bH:=λd S=>(f d S).bind λ(p,g)=>some (.tup p.1,g)
def Jm(u:Gl X "tuple")(m:X.mg "tuple"=none)(w:PE X a (tQ (md X) f))(hs:starEach [a] X.env= [(false,eval a X.env)]:=by rfl)(ht:∀i S ds t j,f i S=some ((ds,t),j)->t.isL=true):
  PE X (.Call (.Name "tuple" p) [a] [] pos) (tD (md X)<|tupQ f):=
 kn (Ft wZ u m (by rfl) (eF w iu hs) (he:=hs)) λB H Q y=>by
  obtain⟨z,i,S,d,j,ok,e,q⟩:=y
  obtain⟨⟨⟨ds,t⟩,o⟩,k,e⟩:=au e
  obtain⟨rfl,rfl⟩:=cE e
  refine⟨z,i,S,ds,t,o,ok,k,λn a s A x v h r=>⟨a,s,rfl,.inl ⟨h.sqL<|ht _ _ _ _ _ k,λl g=> ?_⟩⟩⟩
  exact q _ _ _ (x.trans<|cG.laid g) (v.lay g)<|.tup cp (r.ext<|cG.laid g)
def Jw:∀g S ds t d,ia f g S=some ((ds,t),d)->t.isL=true:=λg S ds t d e=>by
 obtain⟨⟨h,j⟩,i,e⟩:=au e
 cases e
 rfl
def cM(f:fw):fw:=λd S=>(f d S).bind λ(p,g)=>if p.2.isL=true then some (p,g) else none
def K3:∀g S ds t d,cM f g S=some ((ds,t),d)->t.isL=true:=λg S ds t d e=>by
 obtain⟨⟨⟨h,i⟩,k⟩,j,e⟩:=au e
 dsimp only at e
 split at e <;>cases e
 assumption
def QE(h:PE X e (tQ (md X) f)):PE X e (tQ (md X)<|cM f):=kn h λo H Q j=>by
 obtain⟨l,i,S,r,t,p,ok,e,q⟩:=j
 obtain⟨⟨⟨d,g⟩,k⟩,n,e⟩:=au e
 dsimp only at e
 split at e
 ·obtain⟨m,rfl⟩:=cE e
  obtain⟨rfl,rfl⟩:=Prod.mk.inj m
  exact⟨l,i,S,d,g,k,ok,n,q⟩
 ·cases e
def G_:List D->Option (List Bool)
 | []=>some []
 |.bl b::r=>(G_ r).bind λd=>some (b::d)
 |_::_=>none
theorem CI:∀{ds:List D} {vs:List V} {bs:List Bool},bc M ρ H ds vs->G_ ds=some bs->vs=bs.map V.bl
 | [],_,_,h,e=>by cases h;cases e;rfl
 | d::ds,_,_,h,e=>by
   cases d with
   | bl b=>
     simp only[G_] at e
     obtain⟨f,i,e⟩:=au e
     cases e
     cases h with
     | cons h g=>
       cases h
       rw[CI g i]
       rfl
   |_=>cases e
def Km(f:fw):bH:=λg S=>(f g S).bind λ(p,h)=>if p.2.isL=true then(G_ p.1).bind λd=>some (.bl (d.all id),h) else none
def JA(f:fw):bH:=λg S=>(f g S).bind λ(p,h)=>if p.2.isL=true then(G_ p.1).bind λd=>some (.bl (d.any id),h) else none
def Qk(u:X.calm=true)(l:Gl X "all")(g:X.mg "all"=none)(w:PE X a (tQ (md X) f))(hs:starEach [a] X.env= [(false,eval a X.env)]:=by rfl):
  PE X (.Call (.Name "all" p) [a] [] pos) (tD (md X)<|Km f):=
 kn (jW (Fz u) l g (by rfl) (eF w iu hs) (he:=hs)) λF H Q y=>by
  obtain⟨z,m,S,d,A,ok,e,q⟩:=y
  obtain⟨⟨⟨j,t⟩,k⟩,v,e⟩:=au e
  dsimp only at e
  split at e
  ·rename_i c
   obtain⟨s,n,e⟩:=au e
   obtain⟨rfl,rfl⟩:=cE e
   refine⟨z,m,S,j,t,k,ok,v,λi a B C x o h r=>⟨a,s,rfl,?_,q _ _ _ x o<|.bl _⟩⟩
   rw[←CI r n]
   exact h.sqL c
  ·cases e
def Qh(u:X.calm=true)(l:Gl X "any")(g:X.mg "any"=none)(w:PE X a (tQ (md X) f))(hs:starEach [a] X.env= [(false,eval a X.env)]:=by rfl):
  PE X (.Call (.Name "any" p) [a] [] pos) (tD (md X)<|JA f):=
 kn (jW (FC u) l g (by rfl) (eF w iu hs) (he:=hs)) λF H Q y=>by
  obtain⟨z,m,S,d,A,ok,e,q⟩:=y
  obtain⟨⟨⟨j,t⟩,k⟩,v,e⟩:=au e
  dsimp only at e
  split at e
  ·rename_i c
   obtain⟨s,n,e⟩:=au e
   obtain⟨rfl,rfl⟩:=cE e
   refine⟨z,m,S,j,t,k,ok,v,λi a B C x o h r=>⟨a,s,rfl,?_,q _ _ _ x o<|.bl _⟩⟩
   rw[←CI r n]
   exact h.sqL c
  ·cases e
def J8(S:aE)(T:String):D->Option Bool
 |.non=>some (T=="NoneType")
 |.bl _=>some (T=="bool" ||T=="int")
 |.int _=>some (T=="int")
 |.str _=>some (T=="str")
 |.tup _=>some (T=="tuple")
 | .ref k=>match S[k]? with
   |some (.lst _)=>some (T=="list")
   |some (.frz _)=>some (T=="list")
   |some (.dct _)=>some (T=="dict")
   |_=>none
 |.fn _=>none
def NH(K:PySem.W.Frag)(T:String):Prop:=(PySem.W.kitOne K (.type "NoneType") (.type T)=some (T=="NoneType"))/\(PySem.W.kitOne K (.type "bool") (.type T)=some (T=="bool" ||T=="int"))/\(PySem.W.kitOne K (.type "int") (.type T)=some (T=="int"))/\(PySem.W.kitOne K (.type "str") (.type T)=some (T=="str"))∧
 (PySem.W.kitOne K (.type "tuple") (.type T)=some (T=="tuple"))/\(PySem.W.kitOne K (.type "list") (.type T)=some (T=="list"))/\(PySem.W.kitOne K (.type "dict") (.type T)=some (T=="dict"))
def oJ(T:String)(f:bH):bH:=λh S=>(f h S).bind λ(d,g)=>(J8 g T d).bind λk=>some (.bl k,g)
def QB{T:String}(G:NH X.K T)(C:Gl X "isinstance")(z:X.mg "isinstance"=none)(N:PE X a (tD (md X) f))(ht:PE X l (tC<|.ty T))(hs:starEach [a,l] X.env= [(false,eval a X.env),(false,eval l X.env)]:=by rfl)(j:starEach [l] X.env= [(false,eval l X.env)]:=by rfl):
  PE X (.Call (.Name "isinstance" p) [a,l] [] pos) (tD (md X)<|oJ T f):=
 kn (jW Hq C z boot_isinstance (eF N (eF ht iu j) (by rw[hs,j])) (he:=by rw[hs,j]) (hpl:=by rw[j];rfl)) λσ H Q P=>by
  obtain⟨W,F,S,d,Y,ok,e,q⟩:=P
  obtain⟨⟨J,B⟩,L,e⟩:=au e
  obtain⟨k,i,e⟩:=au e
  obtain⟨rfl,rfl⟩:=cE e
  obtain⟨y,I,M,U,R,u,w⟩:=G
  refine⟨W,F,S,J,B,ok,L,λA v Z x s r=> ?_⟩
  have g:=q _ _ _ x s (.bl _)
  cases r with
  |non=>cases i;exact⟨_,_,_,_,rfl,.non,y,g⟩
  |bl=>cases i;exact⟨_,_,_,_,rfl,.bl _,I,g⟩
  |int=>cases i;exact⟨_,_,_,_,rfl,.int _,M,g⟩
  |str=>cases i;exact⟨_,_,_,_,rfl,.str _,U,g⟩
  |tup h hs=>cases i;exact⟨_,_,_,_,rfl,.tup h,R,g⟩
  |fn=>cases i
  | ref h=>
    simp only[J8] at i
    split at i
    · rename_i n;cases i;obtain⟨t,m,_⟩:=s.obj _ _ _ h n;exact⟨_,_,_,_,rfl,.lst m,u,g⟩
    · rename_i n;cases i;obtain⟨t,o,m,_⟩:=s.obj _ _ _ h n;exact⟨_,_,_,_,rfl,.frz m,u,g⟩
    · rename_i n;cases i;obtain⟨t,m,_⟩:=s.obj _ _ _ h n;exact⟨_,_,_,_,rfl,.dK m,w,g⟩
    · cases i
abbrev KH:=List D->Option D
def Hr(M:Md)(r:List V->Hp->VK->Prop)(o:KH):Prop:=∀{f:List Addr} {S:aE} {H:Hp} {g:List D} {d:D} {h:List V} {Q:VK},gC M f S H->bc M f H g h->o g=some d->(∀w,Rel M f H d w->Q w H)->r h H Q
def uq(o:KH)(f:ie):bH:=λh S=>(f h S).bind λ(g,i)=>(o g).bind λd=>some (d,i)
def PL(n:Hr (md X) r o)(h:PE X e (OS r<|B8 (md X) f)):PE X e (tD (md X)<|uq o f):=kn h λA H Q v=>by
 obtain⟨x,m,S,d,y,ok,e,q⟩:=v
 obtain⟨⟨j,k⟩,t,e⟩:=au e
 obtain⟨B,s,e⟩:=au e
 obtain⟨rfl,rfl⟩:=cE e
 exact⟨x,m,S,j,k,ok,t,λi z H1 l g p=>n g p s λw u=>q i w H1 l g u⟩
def Jz:KH
 | [.int i]=>some (.int (if i<0 then -i else i))
 |_=>none
def maxD:KH
 | [.int i,.int j]=>some (.int (if j>i then j else i))
 |_=>none
def minD:KH
 | [.int i,.int j]=>some (.int (if j<i then j else i))
 |_=>none
def intOfD:KH
 | [.int i]=>some (.int i)
 | [.bl k]=>some (.int (if k then 1 else 0))
 |_=>none
def Pi:Hr M (λxs H Q=>∃i,xs= [.int i]/\Q (.int (if i<0 then -i else i)) H) Jz:=by
 intro j S H xs d h Q g r e q
 unfold Jz at e
 split at e <;>cases e
 cases r with|cons r f=>cases f;cases r;exact⟨_,rfl,q _<|.int _⟩
def Pz:Hr M (λxs H Q=>∃i j,xs= [.int i,.int j]/\Q (.int (if j>i then j else i)) H) maxD:=by
 intro l S H xs d k Q h r e q
 unfold maxD at e
 split at e <;>cases e
 cases r with|cons r f=>cases f with|cons g f=>cases f;cases r;cases g;exact⟨_,_,rfl,q _<|.int _⟩
def Pp:Hr M (λxs H Q=>∃i j,xs= [.int i,.int j]/\Q (.int (if j<i then j else i)) H) minD:=by
 intro l S H xs d k Q h r e q
 unfold minD at e
 split at e <;>cases e
 cases r with|cons r f=>cases f with|cons g f=>cases f;cases r;cases g;exact⟨_,_,rfl,q _<|.int _⟩
def MS:Hr M (λxs H Q=>(∃i,xs= [.int i]/\Q (.int i) H)\/∃k,xs= [.bl k]/\Q (.int (if k then 1 else 0)) H) intOfD:=by
 intro j S H xs d h Q g r e q
 unfold intOfD at e
 split at e <;>cases e
 ·cases r with|cons r f=>cases f;cases r;exact .inl ⟨_,rfl,q _<|.int _⟩
 ·cases r with|cons r f=>cases f;cases r;exact .inr ⟨_,rfl,q _<|.int _⟩
def qt:List D->Option (List V)
 | []=>some []
 |d::r=>(xc d).bind λv=>(qt r).bind λf=>some (v::f)
def qQ(e:xc d=some v):iy v=true:=by
 cases d <;>simp[xc] at e <;>subst e <;>rfl
theorem qP:∀{ds:List D} {d vs:List V},bc M ρ H ds d->qt ds=some vs->d=vs/\vs.all iy=true
 |_,_,_,.nil,e=>by cases e;exact⟨rfl,rfl⟩
 | _,_,_,.cons h hs,e=>by
   obtain⟨v,f,e⟩:=au e
   obtain⟨vs,g,e⟩:=au e
   cases e
   obtain⟨i,j⟩:=qP hs g
   rw[mv h f,i]
   exact⟨rfl,by rw[List.all_cons,qQ f,j];rfl⟩
def Bx(d:Bool)(f:bH)(g:fw):bH:=λi S=>(f i S).bind λ(x,k)=>(g i k).bind λ(p,j)=>(xc x).bind λv=>(qt p.1).bind λh=>some (.bl (if d then !Hh v h else Hh v h),j)
def MP(h:PE X e (JP (ON X.K i) (tD (md X) f)<|tQ (md X) g)):PE X e (tD (md X)<|Bx i f g):=kn h λU H Q L=>by
 obtain⟨N,o,S,d,P,ok,e,q⟩:=L
 obtain⟨⟨x,m⟩,I,e⟩:=au e
 obtain⟨⟨⟨y,t⟩,J⟩,A,e⟩:=au e
 obtain⟨v,p,e⟩:=au e
 obtain⟨R,G,e⟩:=au e
 obtain⟨rfl,rfl⟩:=cE e
 refine⟨N,o,S,x,m,ok,I,λl u H1 n k F=>⟨l,o,m,y,t,J,ok.to n k,A,λz a B H2 w j M r=> ?_⟩⟩
 cases mv F p
 obtain⟨s,C⟩:=qP r G
 subst s
 exact⟨a,B,rfl,M.sq,qQ p,C,q _ _ _ (n.trans w) j<|.bl _⟩
def DG{t:TE}(n:∀d H Q,tD (md X) f d H Q->t d H Q)(h:PT X e (HY t)):PT X e (tB (md X)<|aH f):=OJ h λd H Q ⟨m,j,S,k,g,ok,e,q⟩=>
 n _ _ _ ⟨m,j,S,.bl k,g,ok,vY e,λl v o x i r=>by cases r;exact⟨k,rfl,q _ _ x i⟩⟩
def K0:∀j H Q,tD (md X) (Bx h f g) j H Q->JP (ON X.K h) (tD (md X) f) (tQ (md X) g) j H Q:=λj H Q L=>by
 obtain⟨N,o,S,d,P,ok,e,q⟩:=L
 obtain⟨⟨x,m⟩,I,e⟩:=au e
 obtain⟨⟨⟨y,t⟩,J⟩,A,e⟩:=au e
 obtain⟨v,p,e⟩:=au e
 obtain⟨R,G,e⟩:=au e
 obtain⟨rfl,rfl⟩:=cE e
 refine⟨N,o,S,x,m,ok,I,λl u H1 n k F=>⟨l,o,m,y,t,J,ok.to n k,A,λz a B H2 w i M r=> ?_⟩⟩
 cases mv F p
 obtain⟨s,C⟩:=qP r G
 subst s
 exact⟨a,B,rfl,M.sq,qQ p,C,q _ _ _ (n.trans w) i<|.bl _⟩
def Ra(h:PE X a (tD (md X) f))(i:PE X b (tQ (md X) g))(d:behindInMarks .In b=false:=by rfl):PE X (.Compare a [.In] [b] pos) (tD (md X)<|Bx false f g):=MP (EE yh h i d)
def Q3(h:PE X a (tD (md X) f))(i:PE X b (tQ (md X) g))(d:behindInMarks .In b=false:=by rfl):PT X (.Compare a [.In] [b] pos) (tB (md X)<|aH<|Bx false f g):=DG K0 (uS yh h i d)
def OT(h:PE X a (tD (md X) f))(i:PE X b (tQ (md X) g))(d:behindInMarks .NotIn b=false:=by rfl):PT X (.Compare a [.NotIn] [b] pos) (tB (md X)<|aH<|Bx true f g):=DG K0 (uS Am h i d)
end
inductive Out where
 |nx (Γ:cB) (S:aE)|bk (Γ:cB) (S:aE)|ct (Γ:cB) (S:aE)|rt (d:D) (S:aE)|rl (ds:List D) (S:aE)
abbrev cC:=cB->aE->Option Out
def zT(M:Md)(ρ:List Addr)(H:Hp)(D:Ends):Out->Prop
 |.nx f g=>∀b e c,cG ρ H b c->Ok M b f g e c->D.nx e c
 |.bk f g=>∀b e c,cG ρ H b c->Ok M b f g e c->D.bk e c
 |.ct f g=>∀b e c,cG ρ H b c->Ok M b f g e c->D.ct e c
 |.rt d g=>∀b v c,cG ρ H b c->gC M b g c->Rel M b c d v->D.rt v c
 |.rl i g=>∀b a h c,cG ρ H b c->gC M b g c->H a=none->a∉b->c a=some (.lst h)->bc M b c i h->D.rt (.ref a) c
def zT.to{H H1:Hp}{D:Ends}(h:zT M ρ H D o)(e:cG ρ H d H1):zT M d H1 D o:=by
 cases o with
 |nx=>exact λb c f x ok=>h _ _ _ (e.trans x) ok
 |bk=>exact λb c f x ok=>h _ _ _ (e.trans x) ok
 |ct=>exact λb c f x ok=>h _ _ _ (e.trans x) ok
 |rt=>exact λb v f x g r=>h _ _ _ (e.trans x) g r
 |rl=>exact λb a l f x g i j k r=>h _ _ _ _ (e.trans x) g (e.grow _ i) j k r
def tS(M:Md)(g:cC):TS:=λD c H=>∃b a S o,Ok M b a S c H/\g a S=some o/\zT M b H D o
section
variable{X:Cx}{a b c e:Expr}{pos:Pos}{st:Stmt}{rest body other:List Stmt}
def fG:cC:=λd S=>some (.nx d S)
def NG:uA X [] (tS (md X) fG):=MU JM λD d H ⟨g,f,S,o,ok,e,q⟩=>by cases e;exact q _ _ _ cG.refl ok
noncomputable def aD(f g:cC):cC:=λh S=>(f h S).bind λo=>match o with
 |.nx d i=>g d i
 |o=>some o
def lj(k:PS X st (tS (md X) f))(t:uA X rest (tS (md X) g)):uA X (st::rest) (tS (md X)<|aD f g):=MU (HE k t) λD v H s=>by
 obtain⟨u,p,S,o,ok,e,q⟩:=s
 obtain⟨j,r,e⟩:=au e
 refine⟨u,p,S,j,ok,r,?_⟩
 cases j with
 |nx d l=>exact λh n H1 m i=>⟨h,d,l,o,i,e,q.to m⟩
 |bk=>cases e;exact q
 |ct=>cases e;exact q
 |rt=>cases e;exact q
 |rl=>cases e;exact q
def yq(d:PS X st (tS (md X) f)):uA X [st] (tS (md X) f):=Kn d
def never:cC:=λ_ _=>none
def Oy:PS X st (tS (md X) never):=Ek Hy λD d H ⟨g,f,S,o,ok,e,q⟩=>by cases e
def hZ(f:bH):cC:=λd S=>(f d S).bind λ(_,g)=>some (.nx d g)
def IU(h:PE X e (tD (md X) f))(hs:swapsWith e none pos.line X.env=pure false:=by rfl):PS X (.Expr e pos) (tS (md X)<|hZ f):=Ek (Ka h hs) λD p H l=>by
 obtain⟨m,j,S,o,ok,e,q⟩:=l
 obtain⟨⟨d,i⟩,k,e⟩:=au e
 cases e
 exact⟨m,j,S,d,i,ok,k,λg v n x st r=>q _ _ _ x<|ok.to x st⟩
noncomputable def cy(f:bH):cC:=λg S=>(f g S).bind λ(d,h)=>some (.rt d h)
def EF(h:PE X e (tD (md X) f)):PS X (.Return (some e) pos) (tS (md X)<|cy f):=Ek (I_ h) λD m H i=>by
 obtain⟨k,g,S,o,ok,e,q⟩:=i
 obtain⟨⟨d,j⟩,l,e⟩:=au e
 cases e
 exact⟨k,g,S,d,j,ok,l,q⟩
noncomputable def Gz(f:ie):cC:=λd S=>(f d S).bind λ(h,g)=>some (.rl h g)
def P6(h:PE X e (tL (md X) f)):PS X (.Return (some e) pos) (tS (md X)<|Gz f):=Ek (I_ h) λD m H i=>by
 obtain⟨k,g,S,o,ok,e,q⟩:=i
 obtain⟨⟨d,j⟩,l,e⟩:=au e
 cases e
 exact⟨k,g,S,d,j,ok,l,q⟩
def cZ(c:jL)(f g:cC):cC:=λd S=>(c d S).bind λ(k,h)=>if k=true then f d h else g d h
def Pm(n:PT X c (tB (md X) h))(s:uA X body (tS (md X) f))(p:uA X other (tS (md X) g)):PS X (.If c body other pos) (tS (md X)<|cZ h f g):=Ek (MW n s p) λD v H t=>by
 obtain⟨u,m,S,o,ok,e,q⟩:=t
 obtain⟨⟨k,l⟩,r,e⟩:=au e
 refine⟨u,m,S,k,l,ok,r,λi H1 j d=> ?_⟩
 dsimp only at e
 split at e
 ·rename_i c
  rw[Qhq c]
  exact⟨i,m,l,o,ok.to j d,e,q.to j⟩
 ·rename_i c
  rw[Quq c]
  exact⟨i,m,l,o,ok.to j d,e,q.to j⟩
abbrev nI:=D->cB->aE->Option (cB×aE)
abbrev pS:=List D->cB->aE->Option (cB×aE)
def tG(M:Md)(g:nI):TG:=λv n H Q=>∃k m S d f l,Ok M k m S n H/\Rel M k H d v/\g d m S=some (f,l)/\∀h i j,cG k H h j->Ok M h f l i j->Q i j
def MY(M:Md)(g:pS):Hg:=λn o H Q=>∃j l S m d k,Ok M j l S o H/\bc M j H m n/\g m l S=some (d,k)/\∀f h i,cG j H f i->Ok M f d k h i->Q h i
def OP{t t':TG}(h:PG X e t)(w:∀v f H Q,t' v f H Q->t v f H Q):PG X e t':=λd s f H v u Q I r q=>h d s f H v u Q I r (w _ _ _ _ q)
def N9{t t':Hg}(h:GA X g t)(w:∀v f H Q,t' v f H Q->t v f H Q):GA X g t':=λd s f H v u Q I r q=>h d s f H v u Q I r (w _ _ _ _ q)
def bJ(i:Nat):nI:=λd f S=>some (f.set i<|some d,S)
def GF(h:PG X e (qp i)):PG X e (tG (md X)<|bJ i):=OP h λv j H Q g=>by
 obtain⟨m,l,S,d,f,k,ok,r,e,q⟩:=g
 cases e
 exact q _ _ _ cG.refl ⟨ok.en.set r,ok.st⟩
def dG:pS:=λd f S=>match d with
 | []=>some (f,S)
 |_=>none
def aJ(f:nI)(g:pS):pS:=λj i S=>match j with
 |d::r=>(f d i S).bind λ(h,k)=>g r h k
 | []=>none
def OX:GA X [] (MY (md X) dG):=N9 Jo λg h H Q f=>by
 obtain⟨l,j,S,k,d,i,ok,r,e,q⟩:=f
 cases r with
 |nil=>cases e;exact⟨rfl,q _ _ _ cG.refl ok⟩
 |cons=>cases e
def OV(p:PG X e (tG (md X) f))(z:GA X h (MY (md X) g))(hs:(assignEach (e::h) X.env).map (·.2)=assign e X.env::(assignEach h X.env).map (·.2):=by rfl):GA X (e::h) (MY (md X)<|aJ f g):=
 N9 (HP p z hs) λF G H Q x=>by
  obtain⟨A,v,S,C,k,o,ok,r,e,q⟩:=x
  cases r with
  |nil=>cases e
  | cons r B=>
    obtain⟨⟨d,m⟩,w,e⟩:=au e
    refine⟨_,_,rfl,A,v,S,_,d,m,ok,r,w,λl u H1 n j=>⟨l,d,m,_,k,o,j,B.ext n,e,λt y H2 s i=>q _ _ _ (n.trans s) i⟩⟩
def lM(g:pS):nI:=λd f S=>match d with
 |.tup h=>g h f S
 |_=>none
def nG(n:Nat)(g:pS):pS:=λd f S=>if d.length=n then g d f S else none
def Qf(s:X.calm=true)(h:GA X f (MY (md X) g))(p:(assignEach f X.env).length=n:=by rfl)(i:(assignEach f X.env).findIdx? (·.1)=none:=by rfl):
  PG X (.Tuple f k pos) (tG (md X)<|lM<|nG n g):=OP (L6 s h p i) λv u H Q ⟨t,o,S,d,j,m,ok,r,e,q⟩=>by
 cases r with
 | tup h l=>
   simp only[lM,nG] at e
   split at e
   · rename_i c
     exact⟨_,_,rfl,jo.of h,by rw[←l.length];exact c,t,o,S,_,j,m,ok,l,e,q⟩
   · cases e
 |_=>cases e
def ko(f:bH)(g:nI):cC:=λi S=>(f i S).bind λ(d,k)=>(g d i k).bind λ(h,j)=>some (.nx h j)
def NO:∀D i H,tS (md X) (ko f g) D i H->Gs (tD (md X) f) (tG (md X) g) D i H:=λD i H y=>by
 obtain⟨A,p,S,o,ok,e,q⟩:=y
 obtain⟨⟨d,m⟩,w,e⟩:=au e
 obtain⟨⟨l,x⟩,t,e⟩:=au e
 cases e
 exact⟨A,p,S,d,m,ok,w,λk v H1 n j u=>⟨k,p,m,d,l,x,ok.to n j,u,t,λs z H2 r h=>q _ _ _ (n.trans r) h⟩⟩
def Qd(he:PE X e (tD (md X) f))(d:PG X tg (tG (md X) g))(hs:swapsWithSole [tg] e pos.line X.env=pure false:=by rfl)(i:swappedStores [tg] e X.env=pure none:=by rfl)
  (h:(assignEach [tg] X.env).map (·.2)= [assign tg X.env]:=by rfl):PS X (.Assign [tg] e pos) (tS (md X)<|ko f g):=Ek (L3 he d hs i h) NO
noncomputable def aS(i:Nat)(f:bH):cC:=λg S=>(f g S).bind λ(d,h)=>some (.nx (g.set i<|some d) h)
def Oe(h:PS X st (Gs (tD (md X) f)<|qp i)):PS X st (tS (md X)<|aS i f):=Ek h λD t H p=>by
 obtain⟨s,l,S,o,ok,e,q⟩:=p
 obtain⟨⟨d,k⟩,n,e⟩:=au e
 cases e
 exact⟨s,l,S,d,k,ok,n,λr v H1 j g m=>q _ _ _ j ⟨(ok.en.ext j).set m,g⟩⟩
abbrev yb:=cB->aE->Option ((List D×(aE->Prop))×aE)
def Walks(M:Md)(J:It)(ρ:List Addr)(H:Hp)(ds:List D)(W:aE->Prop):Prop:=∀(i:Nat) (f:List Addr) (j:aE) (h:Hp),cG ρ H f h->gC M f j h->W j→
 (∀d,ds[i]?=some d->J.go i h/\∀x g,J.yld i h x g->cG f h f g/\gC M f j g/\Rel M f g d x)/\(i=ds.length->J.stop i h)
def tI(M:Md)(f:yb):TI:=λl H R=>∃k i S j W h,Ok M k i S l H/\f i S=some ((j,W),h)/\∀d J g,cG k H d g->gC M d h g->Walks M J d g j W->R J g
def PY{t t':TI}(h:PI X tg e t)(w:∀f H R,t' f H R->t f H R):PI X tg e t':=λd s f H R I q=>h d s f H R I (w _ _ _ q)
def Lg(t:PE X l r):PI X tg l (λj H R=>r j H λx H1=>∃a,x=.ref a/\((∃xs,je X.K H1 a xs)/\R (QD X.K a) H1\/(∃xs,jo X.K H1 a xs)/\R (QO X.K a) H1)):=by
 intro g s j H R I h
 refine c_ (t g s j H _ I h) λv d z=> ?_
 obtain⟨x,H1,f,w,k⟩:=z
 obtain⟨a,e,k⟩:=k
 subst e
 cases w
 rcases k with⟨⟨xs,m⟩,q⟩|⟨⟨xs,m⟩,q⟩
 ·obtain⟨i,y,p,u⟩:=f.list m
  refine wpAny_pyIter_list p.isList ?_
  refine⟨d.heap.objs.size,[d.heap.objs.size],_,_,H1,rfl,f.kept (t':=d.toks) λb o e=>Qcq _ e,Fw a _,⟨_,Qrq _ rfl,rfl,rfl⟩,λb n=> ?_,q⟩
  have e:b=d.heap.objs.size:=by simpa using n
  subst e
  exact f.fpOk (Qmq _)<|f.hok.fresh<|Qmq _
 ·obtain⟨i,y,p,u⟩:=f.tuple m
  refine wpAny_pyIter_tuple (show d.heap.IsTuple a i.toArray from p) ?_
  refine⟨d.heap.objs.size,[d.heap.objs.size],_,_,H1,rfl,f.kept (t':=d.toks) λb o e=>Qcq _ e,CS a _,⟨_,Qrq _ rfl,rfl,rfl⟩,λb n=> ?_,q⟩
  have e:b=d.heap.objs.size:=by simpa using n
  subst e
  exact f.fpOk (Qmq _)<|f.hok.fresh<|Qmq _
def fL(f:fw):yb:=λg S=>(f g S).bind λ(p,h)=>some ((p.1,λd=>p.2.stays d p.1),h)
def KS(I:PE X l (tQ (md X) f)):PI X tg l (tI (md X)<|fL f):=PY (Lg I) λZ H R N=>by
 obtain⟨P,J,S,U,W,Q,ok,e,q⟩:=N
 obtain⟨⟨⟨B,t⟩,G⟩,L,e⟩:=au e
 obtain⟨K,rfl⟩:=cE e
 obtain⟨rfl,rfl⟩:=Prod.mk.inj K
 refine⟨P,J,S,B,t,G,ok,L,λF a C Y x st h r=>⟨a,rfl,?_⟩⟩
 cases c:t.isL with
 | true=>
   refine .inl ⟨⟨C,h.sqL c⟩,q _ _ _ x st λi y M H2 s j w=> ?_⟩
   obtain⟨g,p,n⟩:=h.to r s j w
   have k:=p.sqL c
   refine⟨λd A=> ?_,λu=>⟨g,k,by rw[u,n.length];exact Qmq _⟩⟩
   obtain⟨v,o,z⟩:=n.get A
   refine⟨⟨g,v,k,o⟩,λx H3 m=> ?_⟩
   obtain⟨rfl,m⟩:=m
   have:=m g k
   rw[o] at this
   cases this
   exact⟨cG.refl,j,z⟩
 | false=>
   refine .inr ⟨⟨C,h.sqT c⟩,q _ _ _ x st λi y M H2 s j w=> ?_⟩
   obtain⟨g,p,n⟩:=h.to r s j w
   have k:=p.sqT c
   refine⟨λd A=> ?_,λu=>⟨g,k,by rw[u,n.length];exact Qmq _⟩⟩
   obtain⟨v,o,z⟩:=n.get A
   refine⟨⟨g,v,k,o⟩,λx H3 m=> ?_⟩
   obtain⟨rfl,m⟩:=m
   have:=m g k
   rw[o] at this
   cases this
   exact⟨cG.refl,j,z⟩
def jO(lo hi:Int):List D:=(List.range (hi-lo).toNat).map λ(i:Nat)=>D.int (lo+(i:Int))
def uW(f:bH):yb:=λg S=>(f g S).bind λ(d,h)=>match d with
 |.int j=>if -(2^62)<=j/\j<2^62 then some ((jO 0 j,λ_=>True),h) else none
 |_=>none
def Fx{M:Md}{ρ:List Addr}{H:Hp}{lo hi:Int}:Walks M (OF lo (hi-lo).toNat) ρ H (jO lo hi) (λ_=>True):=λi l p H2 o g w=>by
 unfold jO
 refine⟨λd j=> ?_,λhi=>by rw[lQm,QVq] at hi;exact Nat.le_of_eq hi.symm⟩
 rw[gQm] at j
 obtain⟨k,m,rfl⟩:=oQm.mp j
 have f:=(gQs.mp m)
 obtain⟨f,h⟩:=f
 rw[List.getElem_range] at h
 subst h
 rw[QVq] at f
 refine⟨f,λx H3 n=> ?_⟩
 obtain⟨rfl,rfl⟩:=n
 exact⟨cG.refl,g,.int _⟩
def Py(m:Gl X "range")(i:X.mg "range"=none)(u:PE X a (tD (md X) f))(hs:starEach [a] X.env= [(false,eval a X.env)]:=by rfl):PI X tg (.Call (.Name "range" p) [a] [] pos) (tI (md X)<|uW f):=
 PY (F6 m i (cT u i8 hs) hs) λA H R v=>by
  obtain⟨ρ,n,S,y,W,w,ok,e,q⟩:=v
  obtain⟨⟨d,k⟩,t,e⟩:=au e
  dsimp only at e
  split at e
  ·rename_i j
   split at e
   ·rename_i h
    obtain⟨o,rfl⟩:=cE e
    obtain⟨rfl,rfl⟩:=Prod.mk.inj o
    refine⟨ρ,n,S,[.int j],k,ok,by unfold aq av;rw[t];rfl,λg z s x st r=> ?_⟩
    cases r with
    | cons r l=>
      cases l
      cases r
      refine⟨j,rfl,h.1,h.2,q _ _ _ x st ?_⟩
      have:=Fx (M:=md X) (ρ:=g) (H:=s) (lo:=0) (hi:=j)
      rw[Int.sub_zero] at this
      exact this
   ·cases e
  ·cases e
open Classical in
def forL(g:nI)(b:cC)(W:aE->Prop):List D->cB->aE->Option Out
 | [],Γ,S=>if W S then some (.nx Γ S) else none
 |d ::ds,Γ,S=>if W S then(g d Γ S).bind λ(i,j)=>(b i j).bind λo=>match o with
    |.nx f h=>forL g b W ds f h
    |.ct f h=>forL g b W ds f h
    |.bk f h=>some (.nx f h)
    |.rt x h=>some (.rt x h)
    |.rl x h=>some (.rl x h)
  else none
def jg(i:yb)(g:nI)(b:cC):cC:=λd S=>(i d S).bind λ(p,f)=>forL g b p.2 p.1 d f
def M5(hp:PassesOwn (model X.prog X.w) X.A X.env X.xe)(hc:X.calm=true)(hi:PI X tg j (tI (md X) i))(hg:PG X tg (tG (md X) g))(hb:uA X body (tS (md X) f))
  (hs:∀x,foldedSetIterable j X.env x=pure x:=by intro _;rfl):PS X (.For tg j body [] pos) (tS (md X)<|jg i g f):=Ek (Lf hp hc hi hg hb hs) λD σ H ⟨ρ,Γ,S,o,ok,e,q⟩=>by
 obtain⟨⟨⟨h,W⟩,S1⟩,e1,e⟩:=au e
 refine⟨ρ,Γ,S,h,W,S1,ok,e1,λv J H1 Z R wk=> ?_⟩
 have L:=q.to Z
 have P:=ok.to Z R
 refine⟨λi m l z=>m=h.length-i/\i<=h.length/\∃d r B,cG v H1 d z/\Ok (md X) d r B l z/\forL g f W (h.drop i) r B=some o,⟨h.length,by simp,Nat.zero_le _,v,Γ,S1,cG.refl,P,e⟩,?_⟩
 rintro i m a0 H2 ⟨rfl,hi,d,r,B,x2,ok2,e2⟩
 by_cases u:i<h.length
 ·have hd:h[i]?=some h[i]:=gQe u
  rw[QWq u] at e2
  unfold forL at e2
  split at e2
  ·rename_i w
   obtain⟨w1,w2⟩:=wk i d B H2 x2 ok2.st w
   obtain⟨go,Q⟩:=w1 _ hd
   refine .inr ⟨go,λl z=>∃s t M,cG v H1 s z/\Ok (md X) s t M l z/\forL g f W (h.drop (i+1)) t M=some o,λl z ⟨s,t,M,h1,h2,h3⟩=>⟨h.length-(i+1),by omega,rfl,u,s,t,M,h1,h2,h3⟩,λx H3 hy=> ?_⟩
   obtain⟨x3,N,r3⟩:=Q x H3 hy
   obtain⟨⟨K,S4⟩,e4,e5⟩:=au e2
   refine⟨d,r,B,_,K,S4,ok2.to x3 N,r3,e4,λY a1 H4 x4 U=> ?_⟩
   obtain⟨o5,e6,I⟩:=au e5
   have F:=(x2.trans x3).trans x4
   refine⟨Y,K,S4,o5,U,e6,?_⟩
   cases o5 with
   |nx n y=>exact λp C H6 G k=>⟨p,n,y,F.trans G,k,I⟩
   |ct n y=>exact λp C H6 G k=>⟨p,n,y,F.trans G,k,I⟩
   |bk n y=>cases I;exact λp C H6 G k=>L _ _ _ (F.trans G) k
   |rt d6 y=>cases I;exact L.to F
   |rl d6 y=>cases I;exact L.to F
  ·cases e2
 ·have e3:i=h.length:=by omega
  subst e3
  rw[List.drop_length] at e2
  unfold forL at e2
  split at e2
  ·rename_i w
   cases e2
   obtain⟨w1,w2⟩:=wk h.length d B H2 x2 ok2.st w
   exact .inl ⟨w2 rfl,L _ _ _ x2 ok2⟩
  ·cases e2
end
section
variable{M:Md}{ρ:List Addr}{H:Hp}{b:Addr}{us ws:List V}
mutual
theorem Rel.off(a:H b=some (.lst us)):∀{d:D} {v:V},Rel M ρ H d v->Rel M ρ (upd H b<|.lst ws) d v
 |_,_,.non=>.non
 |_,_,.bl x=>.bl x
 |_,_,.int i=>.int i
 |_,_,.str x=>.str x
 |_,_,.tup h hs=>.tup (by rw[bx (GS h a (by intro z;cases z))];exact h) (bc.off a hs)
 |_,_,.ref h=>.ref h
 |_,_,.fn h=>.fn h
theorem bc.off(a:H b=some (.lst us)):∀{ds:List D} {vs:List V},bc M ρ H ds vs->bc M ρ (upd H b<|.lst ws) ds vs
 |_,_,.nil=>.nil
 |_,_,.cons h hs=>.cons (Rel.off a h) (bc.off a hs)
end
theorem gC.off(st:gC M ρ S H)(f:H b=some (.lst us))(n:b∉ρ):gC M ρ S (upd H b (.lst ws)):=⟨st.len,st.nd,λk a o h m=>by
 have q:=st.obj k a o h m
 have g:a≠b:=λz=>n (z▸mQg h)
 cases o with
 |lst i=>obtain⟨e,d,c⟩:=q;exact⟨e,by rw[bx g];exact d,c.off f⟩
 |frz i=>obtain⟨e,o,d,c⟩:=q;exact⟨e,o,by rw[bx g];exact d,c.off f⟩
 |dct l=>obtain⟨j,d,c⟩:=q;exact⟨j,by rw[bx g];exact d,c.imp λ_ _ r=>r.off f⟩⟩
def En.off(h:En M ρ H c a)(g:H b=some (.lst us)):En M ρ (upd H b<|.lst ws) c a:=⟨h.len,λi d q=>by obtain⟨v,e,f⟩:=h.get i d q;exact⟨v,e,f.off g⟩⟩
def cG.off(e:cG d f ρ H)(g:f b=none)(u:HO):cG d f ρ (upd H b u):=⟨e.pre,e.new,λa o h c=>by rw[bx (fP h g)];exact e.keep a o h c,λa h=>by
 by_cases z:a=b
 ·subst z;exact g
 ·rw[bx z] at h;exact e.grow a h⟩
end
def pI(js:List (Option Nat))(a:cB):cB:=js.map λo=>o.bind λj=>a.getD j none
def En.sig(js:List (Option Nat))(h:En M ρ H b c):En M ρ H (pI js b) (kB js c) where
 len:=by unfold pI kB;rw[lQm,lQm]
 get:=λi d q=>by
  unfold pI at q
  unfold kB
  rw[gQm] at q⊢
  cases e:js[i]? with
  |none=>rw[e] at q;cases q
  | some o=>
    rw[e] at q
    cases o with
    |none=>cases q
    | some j=>
      have a:b.getD j none=some d:=QdQ q
      have f:b[j]?=some (some d):=by
        rw[Qlq] at a
        cases z:b[j]? with
        |none=>rw[z] at a;cases a
        |some y=>rw[z] at a;exact congrArg some a
      obtain⟨v,g,k⟩:=h.get j d f
      refine⟨v,?_,k⟩
      show some (c.getD j none)=some (some v)
      rw[Qlq,g]
      rfl
open Classical in
def oh(g:nI)(t:jL)(f:bH)(W:aE->Prop):List D->cB->aE->List D->Option (List D×aE)
 | [],Γ,S,acc=>if W S then some (acc,S) else none
 |d ::ds,Γ,S,acc=>if W S then(g d Γ S).bind λ(a,e)=>(t a e).bind λ(k,b)=>
    if k=true then(f a b).bind λ(y,c)=>if acc.length<sizeLine then oh g t f W ds a c (acc++ [y]) else none
    else oh g t f W ds a b acc
  else none
def bD(js:List (Option Nat))(i:yb)(g:nI)(t:jL)(f:bH):ie:=λa S=>(i a S).bind λ(p,b)=>oh g t f p.2 p.1 (pI js a) b []
section
variable{M:Md}
def Hn:∀Z H Q,tL M (bD js i g t f) Z H Q->Ic js (tI M i) (tG M g) (tB M t) (tD M f) Z H Q:=λZ H Q qq=>by
 obtain⟨ρ,Γ,S,rs,S',ok,e,q⟩:=qq
 obtain⟨⟨⟨j,W⟩,S1⟩,e1,e⟩:=au e
 refine⟨ρ,Γ,S,j,W,S1,ok,e1,λn J H1 U R wk D K=> ?_⟩
 have n1:D∉n:=eE U R K
 have a2:Ok M n (pI js Γ) S1 (kB js Z) (upd H1 D<|.lst []):=⟨((ok.en.ext U).ext (cG.laid K)).sig js,R.lay K⟩
 refine⟨λi m o d=>m=j.length-i/\i<=j.length/\∃c r L a h,cG n H1 c d/\Ok M c r L o d/\D∉c/\d D=some (.lst h)/\bc M c d a h/\oh g t f W (j.drop i) r L a=some (rs,S'),
  ⟨j.length,by simp,Nat.zero_le _,n,_,S1,[],[],cG.laid K,a2,n1,cp,.nil,e⟩,?_⟩
 rintro i m a8 H2 ⟨rfl,hi,c,r,L,a,h,x2,ok2,n2,hD2,racc,e2⟩
 by_cases I:i<j.length
 ·have hd:j[i]?=some j[i]:=gQe I
  rw[QWq I] at e2
  unfold oh at e2
  split at e2
  ·rename_i w
   obtain⟨w1,w2⟩:=wk i c L H2 x2 ok2.st w
   obtain⟨go,a3⟩:=w1 _ hd
   refine .inr ⟨go,λo d=>∃b A u a h,cG n H1 b d/\Ok M b A u o d/\D∉b/\d D=some (.lst h)/\bc M b d a h/\oh g t f W (j.drop (i+1)) A u a=some (rs,S'),
    λo d ⟨b,A,u,a,h,h1,h2,h3,h4,h5,h6⟩=>⟨j.length-(i+1),by omega,rfl,I,b,A,u,a,h,h1,h2,h3,h4,h5,h6⟩,λx H3 hy=> ?_⟩
   obtain⟨x3,a0,r3⟩:=a3 x H3 hy
   obtain⟨⟨l,S4⟩,e4,e5⟩:=au e2
   refine⟨c,r,L,_,l,S4,ok2.to x3 a0,r3,e4,λa6 b0 H4 x4 B=> ?_⟩
   obtain⟨⟨k,S5⟩,e6,e7⟩:=au e5
   refine⟨a6,l,S4,k,S5,B,e6,λP H5 Y N=> ?_⟩
   have p:=(x3.trans x4).trans Y
   have C:∀{b d},cG c H2 b d->d D=some (.lst h)/\D∉b:=λ{b d} x=>⟨x.keep _ _ hD2<|.inl n2,λm=>(x.new _ m).elim n2 λz=>by rw[z] at hD2;cases hD2⟩
   dsimp only at e7⊢
   split at e7
   ·rename_i ck
    rw[Qhq ck]
    obtain⟨⟨y,S6⟩,e8,X⟩:=au e7
    refine⟨P,l,S5,y,S6,B.to Y N,e8,λa1 v H6 x6 a5 r6=> ?_⟩
    have G:=p.trans x6
    obtain⟨s,n6⟩:=C G
    have F:=racc.ext G
    dsimp only at X
    split at X
    ·rename_i cl
     refine⟨h,s,by rw[←racc.length];exact cl,a1,l,S6,a++ [y],h++ [v],(x2.trans G).off K _,⟨((B.en.ext Y).ext x6).off s,a5.off s n6⟩,n6,cp,(F.append<|.cons r6 .nil).off s,X⟩
    ·cases X
   ·rename_i ck
    rw[Quq ck]
    obtain⟨a4,n5⟩:=C p
    exact⟨P,l,S5,a,h,x2.trans p,B.to Y N,n5,a4,racc.ext p,e7⟩
  ·cases e2
 ·have e3:i=j.length:=by omega
  subst e3
  rw[List.drop_length] at e2
  unfold oh at e2
  split at e2
  ·rename_i w
   obtain⟨rfl,rfl⟩:=cE e2
   obtain⟨w1,w2⟩:=wk j.length c L H2 x2 ok2.st w
   exact .inl ⟨w2 rfl,q c D h H2 (U.trans x2) ok2.st (U.grow _ K) n2 hD2 racc⟩
  ·cases e2
end
section
variable{X:Cx}{a b c e:Expr}{pos:Pos}{st:Stmt}{rest body other:List Stmt}
def bK:jL:=λ_ S=>some (true,S)
def Os{t t':TT}(h:pG X d t)(w:∀g H Q,t' g H Q->t g H Q):pG X d t':=λf s g H Q I q=>h f s g H Q I (w _ _ _ q)
def Ol:pG X [] (tB (md X) bK):=Os Ln λd H Q ⟨h,g,S,k,f,ok,e,q⟩=>by cases e;exact q _ _ cG.refl ok.st
def Ql(d:PT X c (tB (md X) f)):pG X [c] (tB (md X) f):=LO d
def G4
  (S:aL X N js d l) (n:X.calm=true) (hi:PI X tg h (tI (md X) i))
  (m:∀C s H fp,PG (aP X N d l C s H fp) tg<|tG (md X) g) (ht:∀C s H fp,pG (aP X N d l C s H fp) k<|tB (md X) t) (he:∀C s H fp,PE (aP X N d l C s H fp) j<|tD (md X) f)
  (hs:∀x,foldedSetIterable h X.env x=pure x:=by intro _;rfl):PE X (.ListComp j [⟨tg,h,k,0⟩] d pos) (tL (md X)<|bD js i g t f):=kn (KC S n hi m ht he hs) Hn
def Mb{l:Pos}
  (S:aL X N js h v) (U:X.calm=true) (hi:PI X tg j (tI (md X) i))
  (M:∀C s H fp,PG (aP X N h v C s H fp) tg<|tG (md X) g) (ht:∀C s H fp,pG (aP X N h v C s H fp) r<|tB (md X) t) (he:∀C s H fp,PE (aP X N h v C s H fp) p<|tD (md X) f) (A:PG X k (qp n))
  (hs:∀x,foldedSetIterable j X.env x=pure x:=by intro _;rfl) (w:swapsWithSole [k] (.ListComp p [⟨tg,j,r,0⟩] h pos) l.line X.env=pure true:=by rfl)
  (J:(assignEach [k] X.env).map (·.2)= [assign k X.env]:=by rfl):PS X (.Assign [k] (.ListComp p [⟨tg,j,r,0⟩] h pos) l) (tS (md X)<|aS n<|bO<|bD js i g t f):=
 Ek (JV S U hi M ht he A hs w J) λD R H qq=>by
  obtain⟨I,P,S,o,ok,e,q⟩:=qq
  obtain⟨⟨d,S1⟩,Y,e⟩:=au e
  cases e
  obtain⟨⟨B,S2⟩,Q,W⟩:=au Y
  obtain⟨rfl,rfl⟩:=cE W
  refine Hn R H _ ⟨I,P,S,B,S2,ok,Q,λm a K G x st L Z ha rs=> ?_⟩
  have y:=rs.pre (List.prefix_append m [a])
  have z:=st.box (o:=.lst B) Z ⟨K,ha,y⟩
  have F:cG I H (m++ [a]) G:=⟨x.pre.trans (List.prefix_append _ _),λb u=>by
   rcases mQa.mp u with u|u
   ·exact x.new b u
   ·rw[Qfq] at u;subst u;exact .inr L,x.keep,x.grow⟩
  refine q (m++ [a]) _ G F ⟨((ok.en.ext F).set (.ref ?_)),z⟩
  rw[←st.len,QQq (Qmq _)]
  simp
def Ja(c:jL)(b:cC):Nat->cB->aE->Option Out
 |0,_,_=>none
 |n +1,Γ,S=>(c Γ S).bind λ(k,g)=>if k=true then(b Γ g).bind λo=>match o with
    |.nx d f=>Ja c b n d f
    |.ct d f=>Ja c b n d f
    |.bk d f=>some (.nx d f)
    |.rt x f=>some (.rt x f)
    |.rl x f=>some (.rl x f)
  else some (.nx Γ g)
def JH(n:Nat)(hp:PassesOwn (model X.prog X.w) X.A X.env X.xe)(hc:PT X c (tB (md X) h))(hb:uA X body (tS (md X) f)):PS X (.While c body [] pos) (tS (md X)<|Ja h f n):=Ek (H_ hp hc hb) λD σ H qq=>by
 obtain⟨K,Z,S,o,ok,e,q⟩:=qq
 refine⟨λm p v=>∃d g t,cG K H d v/\Ok (md X) d g t p v/\Ja h f m g t=some o,⟨n,K,Z,S,cG.refl,ok,e⟩,?_⟩
 rintro m Y H1 ⟨J,C,U,W,B,i⟩
 cases m with
 |zero=>cases i
 | succ m=>
   unfold Ja at i
   obtain⟨⟨k,P⟩,e2,i⟩:=au i
   refine⟨J,C,U,k,P,B,e2,λF H2 L G=> ?_⟩
   dsimp only at i⊢
   have z:=B.to L G
   have j:=W.trans L
   split at i
   · rename_i I
     rw[Qhq I]
     obtain⟨M,e3,i⟩:=au i
     refine⟨λp v=>∃d g t,cG K H d v/\Ok (md X) d g t p v/\Ja h f m g t=some o,λp v ⟨d,g,t,R,h2,Q⟩=>⟨m,Nat.lt_succ_self _,d,g,t,R,h2,Q⟩,F,C,P,M,z,e3,?_⟩
     cases M with
     |nx r u=>exact λs y N x l=>⟨s,r,u,j.trans x,l,i⟩
     |ct r u=>exact λs y N x l=>⟨s,r,u,j.trans x,l,i⟩
     |bk r u=>cases i;exact λs y N x l=>q _ _ _ (j.trans x) l
     |rt d6 u=>cases i;exact q.to j
     |rl d6 u=>cases i;exact q.to j
   · rename_i I
     rw[Quq I]
     cases i
     exact q _ _ _ j z
end
inductive Res where
 |d (x:D)|l (ds:List D)
abbrev cR:=List D->aE->Option (Res×aE)
def Lo(M:Md)(ρ:List Addr)(H b:Hp)(v:V):Res->Prop
 |.d x=>Rel M ρ b x v
 |.l e=>∃a c,v=.ref a/\H a=none/\a∉ρ/\b a=some (.lst c)/\bc M ρ b e c
def dN(M:Md)(n:Nat)(F:cR):Sp:=λf H Q _=>∃d S c r e,c.length=n/\bc M d H c f/\gC M d S H/\F c S=some (r,e)/\∀a v b,cG d H a b->gC M a e b->Lo M a H b v r->Q v b
mutual
def cu(m:Nat):D->Bool
 |.ref k=>decide (k<m)
 |.tup a=>cg m a
 |_=>true
def cg(m:Nat):List D->Bool
 | []=>true
 |d::ds=>cu m d&&cg m ds
end
def Kq(m:Nat):O->Bool
 |.lst a=>cg m a
 |.frz a=>cg m a
 |.dct b=>cg m (b.map (·.2))
section
variable{M:Md}{ρ ρ':List Addr}{H:Hp}
mutual
theorem Rel.cut(e:ρ <+: ρ'):∀{d:D} {v:V},Rel M ρ' H d v->cu ρ.length d=true->Rel M ρ H d v
 |_,_,.non,_=>.non
 |_,_,.bl x,_=>.bl x
 |_,_,.int i,_=>.int i
 |_,_,.str x,_=>.str x
 |_,_,.tup h hs,b=>.tup h (bc.cut e hs (by simpa [cu] using b))
 | _,_,.ref (k:=k) (a:=a) h,b=>.ref (by
   obtain⟨t,rfl⟩:=e
   have c:k<ρ.length:=by simpa [cu] using b
   rwa [QHq c] at h)
 |_,_,.fn h,_=>.fn h
theorem bc.cut(e:ρ <+: ρ'):∀{ds:List D} {vs:List V},bc M ρ' H ds vs->cg ρ.length ds=true->bc M ρ H ds vs
 |_,_,.nil,_=>.nil
 | _,_,.cons h hs,b=>by
   have a:=b
   simp only[cg,QDq,QCq] at a
   exact .cons (Rel.cut e h a.1) (bc.cut e hs a.2)
end
theorem cI.cut(e:ρ <+: ρ'):∀{l:List (Key×D)} {kv:List (Key×V)},cI M ρ' H l kv->cg ρ.length (l.map (·.2))=true->cI M ρ H l kv
 | [],_,h,_=>h
 | (_,_)::_,_,⟨v,t,q,h,hs⟩,b=>by
   have a:=b
   simp only[cg,QDq,QCq] at a
   exact⟨v,t,q,h.cut e a.1,cI.cut e hs a.2⟩
theorem qG.cut(e:ρ <+: ρ')(h:qG M ρ' H a o)(b:Kq ρ.length o=true):qG M ρ H a o:=by
 cases o with
 |lst g=>obtain⟨f,c,d⟩:=h;exact⟨f,c,d.cut e b⟩
 |frz g=>obtain⟨f,o,c,d⟩:=h;exact⟨f,o,c,d.cut e b⟩
 |dct i=>obtain⟨j,c,d⟩:=h;exact⟨j,c,d.cut e b⟩
mutual
theorem Rel.low:∀{d:D} {v:V},Rel M ρ H d v->cu ρ.length d=true
 |_,_,.non=>rfl
 |_,_,.bl x=>rfl
 |_,_,.int i=>rfl
 |_,_,.str x=>rfl
 |_,_,.tup h hs=>by simp only[cu];exact bc.low hs
 |_,_,.ref h=>by simp only[cu];exact Qeq (gQs.mp h).1
 |_,_,.fn h=>rfl
theorem bc.low:∀{ds:List D} {vs:List V},bc M ρ H ds vs->cg ρ.length ds=true
 |_,_,.nil=>rfl
 |_,_,.cons h hs=>by simp only[cg];rw[Rel.low h,bc.low hs];rfl
end
theorem cI.low:∀{l:List (Key×D)} {kv:List (Key×V)},cI M ρ H l kv->cg ρ.length (l.map (·.2))=true
 | [],_,_=>rfl
 |(_,_)::_,_,⟨v,t,q,h,hs⟩=>by simp only[QDq,cg];rw[h.low,cI.low hs];rfl
theorem qG.low(h:qG M ρ H a o):Kq ρ.length o=true:=by
 cases o with
 |lst e=>obtain⟨d,c,b⟩:=h;exact b.low
 |frz e=>obtain⟨d,o,c,b⟩:=h;exact b.low
 |dct f=>obtain⟨g,c,b⟩:=h;exact b.low
end
def qk(S a:aE):Prop:=S.length<=a.length/\∀k o,k<S.length->a[k]?=some o->S[k]?=some o\/Kq S.length o=true
open Classical in
def settle(S:aE)(d:D)(a:aE):Option (Res×aE):=if qk S a then match d with
  | .ref k=>if k<S.length then some (.d (.ref k),a.take S.length) else match a[k]? with
    |some (.lst ds)=>if cg S.length ds=true then some (.l ds,a.take S.length) else none
    |_=>none
  |d=>if cu S.length d=true then some (.d d,a.take S.length) else none
 else none
open Classical in
def eJ(S:aE)(ds:List D)(a:aE):Option (Res×aE):=if qk S a/\cg S.length ds=true then some (.l ds,a.take S.length) else none
noncomputable def fc(n:Nat)(b:cC):cR:=λc S=>(b (c.map some++List.replicate (n-c.length) none) S).bind λo=>match o with
 |.nx _ a=>settle S .non a
 |.rt d a=>settle S d a
 |.rl l a=>eJ S l a
 |_=>none
noncomputable def CA(n:Nat)(b:cC):cR:=λc S=>(b (c.map some++List.replicate (n-c.length) none) S).bind λo=>match o with
 |.nx _ a=>some (.d .non,a)
 |.rt d a=>some (.d d,a)
 |.rl l a=>some (.l l,a)
 |_=>none
def gC.clean(st:gC M ρ S H)(x:cG ρ H b e)(i:gC M b f e)(c:qk S f):gC M ρ (f.take S.length) e/\cG ρ H ρ e:=by
 refine⟨⟨?_,st.nd,λk a o g j=> ?_⟩,List.prefix_refl _,λ_ h=>.inl h,x.keep,x.grow⟩
 ·rw[Qxq,st.len]
  have:=c.1
  omega
 ·have l:k<ρ.length:=(gQs.mp g).1
  have d:k<S.length:=st.len▸l
  rw[List.getElem?_take_of_lt d] at j
  refine(i.obj k a o (dh x.pre g) j).cut x.pre ?_
  rcases c.2 k o d j with z|z
  ·exact(st.obj k a o g z).low
  ·rw[st.len];exact z
def ym(st:gC M ρ S H)(x:cG ρ H b g)(f:gC M b s g)(i:Rel M b g d v)(e:settle S d s=some (r,h)):
  cG ρ H ρ g/\gC M ρ h g/\Lo M ρ H g v r:=by
 unfold settle at e
 split at e
 ·rename_i c
  obtain⟨l,n⟩:=st.clean x f c
  cases d with
  | ref k=>
    dsimp only at e
    split at e
    · rename_i o
      obtain⟨rfl,rfl⟩:=cE e
      exact⟨n,l,i.cut x.pre (by simp only[cu];rw[st.len];exact Qeq o)⟩
    · rename_i o
      split at e
      · rename_i B z
        split at e
        · rename_i p
          obtain⟨rfl,rfl⟩:=cE e
          cases i with
          | ref q=>
            rename_i a
            obtain⟨y,w,A⟩:=f.obj k a _ q z
            have u:a∉ρ:=λm=>by
              obtain⟨j,t⟩:=List.getElem?_of_mem m
              have:=mF f.nd (dh x.pre t) q
              subst this
              exact o (st.len▸(gQs.mp t).1)
            refine⟨n,l,a,y,rfl,(x.new a<|mQg q).resolve_left u,u,w,A.cut x.pre (by rw[st.len];exact p)⟩
        · cases e
      · cases e
  | _=>
    dsimp only at e
    split at e
    · rename_i p
      obtain⟨rfl,rfl⟩:=cE e
      exact⟨n,l,i.cut x.pre (by rw[st.len];exact p)⟩
    · cases e
 ·cases e
def CQ(st:gC M ρ S H)(x:cG ρ H b d)(g:gC M b h d)(k:H a=none)(n:a∉b)(o:d a=some (.lst vs))(i:bc M b d ds vs)(e:eJ S ds h=some (r,f)):
  cG ρ H ρ d/\gC M ρ f d/\Lo M ρ H d (.ref a) r:=by
 unfold eJ at e
 split at e
 ·rename_i c
  obtain⟨j,l⟩:=st.clean x g c.1
  obtain⟨rfl,rfl⟩:=cE e
  exact⟨l,j,a,vs,rfl,k,λm=>n<|x.pre.subset m,o,i.cut x.pre (by rw[st.len];exact c.2)⟩
 ·cases e
def Ce{N:List Str}(r:bc M ρ H ds vs):En M ρ H (ds.map some++List.replicate (N.length-ds.length) none) (L2.start N vs) where
 len:=by unfold L2.start;simp[r.length]
 get:=λi d q=>by
  unfold L2.start
  by_cases c:i<ds.length
  ·rw[QHq (by rw[lQm];exact c),gQm] at q
   obtain⟨g,e,f⟩:=oQm.mp q
   cases f
   obtain⟨v,a,b⟩:=r.get e
   exact⟨v,by rw[QHq (by rw[lQm,←r.length];exact c),gQm,a];rfl,b⟩
  ·rw[QQq (by rw[lQm];omega)] at q
   have:=mQg q
   rw[List.mem_replicate] at this
   cases this.2
section
variable{P:Program}{w:World}{K:PySem.W.Frag}{mg:Str->Option Value}{base:Heap}
def bj{x c:Str}{st:Stmt}{f:Addr}{B:FuncData}{N ps:List Str}{k:Nat}{b:cC}(F:dQ K x c st f B)(S:aF N ps (aB st))
  (i:∀(g:Value) (A:Around) (outer:List Env) (s:Shared) (H:Hp) (E:XK),fZ k (A.deeper (envOfC c (aB st) s.heap.objs.size f g))→
   uA (Bp dm P w K mg base N c (aB st) f g A outer s H E).nox (fM st) (tS ⟨K,mg⟩ b)):bh P w K mg base dm (k+1) f B ps (dN ⟨K,mg⟩ ps.length (fc N.length b)):=by
 refine F.ok S (λI H Q E ⟨L,S,R,r,M,C,z,_⟩=>by rw[←z.length];exact C) λg A outer s H I Q E W ⟨L,S,R,r,M,C,z,t,Y,q⟩=>⟨_,i g A outer s H E W,?_⟩
 obtain⟨o,e1,e⟩:=au Y
 refine⟨L,_,S,o,⟨Ce z,t⟩,e1,?_⟩
 cases o with
 |nx Z G=>exact λn U J p y=>by obtain⟨m,l,j⟩:=ym t p y.st .non e;exact q _ _ _ m l j
 |rt d G=>exact λn v J p h u=>by obtain⟨m,l,j⟩:=ym t p h u e;exact q _ _ _ m l j
 |rl d G=>exact λn a I J p h X na ha u=>by obtain⟨m,l,j⟩:=CQ t p h X na ha u e;exact q _ _ _ m l j
 |bk=>cases e
 |ct=>cases e
def iP{x c:Str}{st:Stmt}{f:Addr}{u:FuncData}{N ps:List Str}{k:Nat}{b:cC}(F:dQ K x c st f u)(S:aF N ps (aB st))
  (i:∀(g:Value) (A:Around) (outer:List Env) (s:Shared) (H:Hp) (E:XK),fZ k (A.deeper (envOfC c (aB st) s.heap.objs.size f g))→
   uA (Bp dm P w K mg base N c (aB st) f g A outer s H E).nox (fM st) (tS ⟨K,mg⟩ b)):bh P w K mg base dm (k+1) f u ps (dN ⟨K,mg⟩ ps.length (CA N.length b)):=by
 refine F.ok S (λm H Q E ⟨C,S,J,r,G,y,t,_⟩=>by rw[←t.length];exact y) λg A outer s H m Q E M ⟨C,S,J,r,G,y,t,I,U,q⟩=>⟨_,i g A outer s H E M,?_⟩
 obtain⟨o,Y,e⟩:=au U
 refine⟨C,_,S,o,⟨Ce t,I⟩,Y,?_⟩
 cases o with
 |nx W z=>cases e;exact λj L B l p=>q _ _ _ l p.st .non
 |rt d z=>cases e;exact λj v B l h n=>q _ _ _ l h n
 |rl d z=>cases e;exact λj a m B l h R X Z n=>q _ _ _ l h ⟨a,m,rfl,R,X,Z,n⟩
 |bk=>cases e
 |ct=>cases e
end
section
variable{X:Cx}{x:Str}{k n:Nat}{f:Addr}{fd:FuncData}{ps:List Str}{F:cR}{e:Expr}{es:List Expr}{g:ie}{p pos:Pos}
noncomputable def ax(F:cR)(g:ie):bH:=λa S=>(g a S).bind λ(c,h)=>(F c h).bind λ(r,b)=>match r with
 |.d x=>some (x,b)
 |.l _=>none
def dZ(F:cR)(g:ie):ie:=λb S=>(g b S).bind λ(a,h)=>(F a h).bind λ(r,c)=>match r with
 |.d _=>none
 |.l a=>some (a,c)
def nA(n:Nat)(g:ie):Prop:=∀c S a b,g c S=some (a,b)->a.length=n
def CT:nA 0 av:=λ_ _ _ _ e=>by cases e;rfl
def nP{n:Nat}{f:bH}{g:ie}(h:nA n g):nA (n+1) (aq f g):=λi S m c e=>by
 obtain⟨⟨d,o⟩,j,e⟩:=au e
 obtain⟨⟨a,l⟩,b,e⟩:=au e
 cases e
 rw[Qnq,h _ _ _ _ b]
def D7(z:nA n g):∀c H Q,tD M (ax F g) c H Q->Hf (dN M n F) [] E0 (B8 M g) c H Q:=λc H Q C=>by
 obtain⟨G,y,S,d,I,ok,e,q⟩:=C
 obtain⟨⟨a,j⟩,m,e⟩:=au e
 obtain⟨⟨r,B⟩,w,e⟩:=au e
 refine⟨G,y,S,a,j,ok,m,λi J H1 u h A=>⟨i,j,a,r,B,z _ _ _ _ m,by rw[List.append_nil];exact A,h,w,λt v H2 s b o=> ?_⟩⟩
 cases r with
 |d x=>obtain⟨rfl,rfl⟩:=cE e;exact q _ _ _ (u.trans s) b o
 |l a=>cases e
def J7(B:nA n g):∀h H Q,tL M (dZ F g) h H Q->Hf (dN M n F) [] E0 (B8 M g) h H Q:=λh H Q I=>by
 obtain⟨J,A,S,d,K,ok,e,q⟩:=I
 obtain⟨⟨b,m⟩,s,e⟩:=au e
 obtain⟨⟨r,G⟩,z,e⟩:=au e
 refine⟨J,A,S,b,m,ok,s,λj y H1 o i C=>⟨j,m,b,r,G,B _ _ _ _ s,by rw[List.append_nil];exact C,i,z,λw v H2 u c t=> ?_⟩⟩
 cases r with
 |d x=>cases e
 | l b=>
   obtain⟨rfl,rfl⟩:=cE e
   obtain⟨a,y,rfl,fr,na,ha,rr⟩:=t
   exact q _ _ _ _ (o.trans u) c (o.grow _ fr) na ha rr
def L8(G:bh X.prog X.w X.K X.mg X.base dm k f fd ps (dN (md X) n F))(c:fZ k X.A)(i:Gl X x)(d:X.mg x=some (.ref f))(j:PySem.W.keepIn X.K (.ref f)=true)(l:Binds X.K fd ps [])(h:PA X (e::es) (B8 (md X) g))(b:nA n g)
  (a:(x==("__debug__":Str))=false:=by decide) (he:starEach (e::es) X.env=(false,eval e X.env)::starEach es X.env:=by rfl) (hpl:(backTo pos<|starEach es X.env).any (·.1)=false:=by rfl):
  PE X (.Call (.Name x p) (e::es) [] pos) (tD (md X)<|ax F g):=kn (E_ G c i d j l .nil mW h a he hpl) (D7 b)
def Lm(G:bh X.prog X.w X.K X.mg X.base dm k f fd ps (dN (md X) n F))(c:fZ k X.A)(i:Gl X x)(d:X.mg x=some (.ref f))(j:PySem.W.keepIn X.K (.ref f)=true)(l:Binds X.K fd ps [])(h:PA X (e::es) (B8 (md X) g))(b:nA n g)
  (a:(x==("__debug__":Str))=false:=by decide) (he:starEach (e::es) X.env=(false,eval e X.env)::starEach es X.env:=by rfl) (hpl:(backTo pos<|starEach es X.env).any (·.1)=false:=by rfl):
  PE X (.Call (.Name x p) (e::es) [] pos) (tL (md X)<|dZ F g):=kn (E_ G c i d j l .nil mW h a he hpl) (J7 b)
end
def kE{α:Type}(xs:List α)(lo hi:Option Int):List α:=(xs.drop (HT.fN xs.length 0 lo)).take (HT.fN xs.length xs.length hi-HT.fN xs.length 0 lo)
def bc.cut3{M:Md}{ρ:List Addr}{H:Hp}{ds:List D}{vs:List V}{lo hi:Option Int}(h:bc M ρ H ds vs):bc M ρ H (kE ds lo hi) (Dp vs lo hi):=by
 unfold kE Dp
 rw[h.length]
 exact(h.drop _).take _
def Kp{α:Type}{xs:List α}{lo hi:Option Int}(a:HT.fN xs.length 0 lo=0)(b:HT.fN xs.length xs.length hi=xs.length):kE xs lo hi=xs:=by
 unfold kE
 rw[a,b]
 simp
abbrev MI:=cB->aE->Option (Option Int×aE)
def OM(M:Md)(f:MI):TO:=λg H Q=>∃e d S o c,Ok M e d S g H/\f d S=some (o,c)/\∀a b,cG e H a b->gC M a c b->Q o b
section
variable{X:Cx}{a b c e:Expr}{pos:Pos}{st:Stmt}
def uT:MI:=λ_ S=>some (none,S)
def ur(f:bH):MI:=λg S=>(f g S).bind λ(d,h)=>match d with
 |.int i=>some (some i,h)
 |_=>none
def Qc{o:Option Expr}{t t':TO}(h:PO X o t)(w:∀f H Q,t' f H Q->t f H Q):PO X o t':=λd s f H Q I q=>h d s f H Q I (w _ _ _ q)
def Ph:PO X none (OM (md X) uT):=Qc Kk λd H Q ⟨h,g,S,o,f,ok,e,q⟩=>by cases e;exact q _ _ cG.refl ok.st
def OY{f:bH}(h:PE X e (tD (md X) f)):PO X (some e) (OM (md X) (ur f)):=Qc (Kz h) λs H Q l=>by
 obtain⟨m,j,S,o,n,ok,e,q⟩:=l
 obtain⟨⟨d,i⟩,k,e⟩:=au e
 dsimp only at e
 split at e
 ·obtain⟨rfl,rfl⟩:=cE e
  refine⟨m,j,S,_,i,ok,k,λg v p x st r=> ?_⟩
  cases r
  exact⟨_,rfl,q _ _ x st⟩
 ·cases e
def ud(f:bH)(lo hi:MI):bH:=λg S=>(f g S).bind λ(d,k)=>(lo g k).bind λ(l,i)=>(hi g i).bind λ(h,j)=>match d with
 |.tup m=>some (.tup (kE m l h),j)
 |_=>none
def OU{lo hi:Option Expr}{I:Pos}{f:bH}{l h:MI}(he:PE X e (tD (md X) f))(J:PO X lo (OM (md X) l))(Y:PO X hi (OM (md X) h)):PE X (.Subscript e (.Slice lo hi none I) pos) (tD (md X) (ud f l h)):=
 kn (IH Je he J Y) λσ H Q R=>by
  obtain⟨W,s,S,d,Z,ok,e,q⟩:=R
  obtain⟨⟨x,y⟩,N,e⟩:=au e
  obtain⟨⟨B,F⟩,K,e⟩:=au e
  obtain⟨⟨w,G⟩,M,e⟩:=au e
  cases x with
  | tup z=>
    dsimp only at e
    obtain⟨rfl,rfl⟩:=cE e
    refine⟨W,s,S,_,y,ok,N,λu v H1 o j L=>⟨u,s,y,B,F,ok.to o j,K,λn H2 m r=>⟨n,s,F,w,G,(ok.to o j).to m r,M,λU H3 A g=> ?_⟩⟩⟩
    have i:=(o.trans m).trans A
    have P:=L.ext (m.trans A)
    cases P with
    | tup C k=>
      refine⟨_,_,rfl,jo.of C,λc=> ?_,λc p t=> ?_⟩
      · have:kE z B w=z:=Kp (by rw[k.length];exact c.1) (by rw[k.length];exact c.2)
        rw[this] at q
        exact q _ _ _ i g (.tup C k)
      · exact q _ _ _ (i.trans (cG.laid t)) (g.lay t) (.tup cp (k.cut3.ext (cG.laid t)))
  |_=>cases e
open Classical in
def zO(f g:fw):ie:=λd S=>(f d S).bind λ(p,i)=>(g d i).bind λ(r,h)=>if p.2.isM=true/\r.2.isM=true/\p.2.stays h p.1/\p.1.length+r.1.length<=sizeLine then some (p.1++r.1,h) else none
def Qi{f g:fw}(K:PE X a (tQ (md X) f))(I:PE X b (tQ (md X) g)):PE X (.BinOp a .Add b pos) (tL (md X) (zO f g)):=kn (t6 LP K I) λW H Q M=>by
 obtain⟨P,u,S,d,R,ok,e,q⟩:=M
 obtain⟨⟨⟨B,t⟩,r⟩,J,e⟩:=au e
 obtain⟨⟨⟨w,x⟩,L⟩,F,e⟩:=au e
 dsimp only at e
 split at e
 ·rename_i c
  obtain⟨rfl,rfl⟩:=cE e
  refine⟨P,u,S,B,t,r,ok,J,λm a U H1 s l A G=>⟨m,u,r,w,x,L,ok.to s l,F,λC b y H2 o i N n=> ?_⟩⟩
  obtain⟨k,z,v⟩:=A.to G o i c.2.2.1
  have h:=s.trans o
  refine⟨_,_,k,y,rfl,rfl,z.sqM c.1,N.sqM c.2.1,by rw[←v.length,←n.length];exact c.2.2.2,λp j=> ?_⟩
  exact q _ _ _ _ (h.trans (cG.laid j)) (i.lay j) (h.grow _ j) (eE h i j) cp ((v.append n).ext (cG.laid j))
 ·cases e
open Classical in
def Jq(f:fw)(g:bH):ie:=λd S=>(f d S).bind λ(p,i)=>(g d i).bind λ(r,h)=>match r with
 |.int k=>if p.2.isM=true/\p.2.stays h p.1/\ -(2^63)<=k/\k<2^63/\p.1.length*k.toNat<=sizeLine then some ((List.replicate k.toNat p.1).flatten,h) else none
 |_=>none
def QQ{f:fw}{g:bH}(K:PE X a (tQ (md X) f))(I:PE X b (tD (md X) g)):PE X (.BinOp a .Mult b pos) (tL (md X) (Jq f g)):=kn (t6 Mh K I) λU H Q M=>by
 obtain⟨N,v,S,d,P,ok,e,q⟩:=M
 obtain⟨⟨⟨B,t⟩,s⟩,J,e⟩:=au e
 obtain⟨⟨r,L⟩,F,e⟩:=au e
 cases r with
 | int k=>
   dsimp only at e
   split at e
   · rename_i c
     obtain⟨rfl,rfl⟩:=cE e
     refine⟨N,v,S,B,t,s,ok,J,λn a R H1 u m A G=>⟨n,v,s,_,L,ok.to u m,F,λC w H2 o i y=> ?_⟩⟩
     obtain⟨l,z,x⟩:=A.to G o i c.2.1
     have h:=u.trans o
     cases y
     refine⟨_,k,l,rfl,rfl,z.sqM c.1,c.2.2.1,c.2.2.2.1,by rw[←x.length];exact c.2.2.2.2,λp j=> ?_⟩
     exact q _ _ _ _ (h.trans (cG.laid j)) (i.lay j) (h.grow _ j) (eE h i j) cp ((x.rep _).ext (cG.laid j))
   · cases e
 |_=>cases e
open Classical in
def cY(f:fw):bH:=λg S=>(f g S).bind λ(p,d)=>if p.2.isL=true/\p.2.stays d p.1 then some (.bl (!p.1.isEmpty),d) else none
def J3{f:fw}:∀i H Q,tD (md X) (cY f) i H Q->JP (IB X.K) (tQ (md X) f) (tL (md X) (bB av)) i H Q:=λi H Q A=>by
 obtain⟨B,o,S,d,C,ok,e,q⟩:=A
 obtain⟨⟨⟨u,t⟩,h⟩,y,e⟩:=au e
 dsimp only at e
 split at e
 ·rename_i c
  obtain⟨rfl,rfl⟩:=cE e
  refine⟨B,o,S,u,t,h,ok,y,λl a G H1 n k s w=>⟨l,o,h,[],h,ok.to n k,rfl,λv b I H2 m g F J x p=> ?_⟩⟩
  obtain⟨j,r,z⟩:=s.to w m g c.2
  cases p
  refine⟨a,b,j,rfl,rfl,r.sqL c.1,je.of x,?_⟩
  rw[←z.isEmpty]
  exact q _ _ _ (n.trans m) g (.bl _)
 ·cases e
def NM:PE X (.List [] pos) (tL (md X) (bB av)):=Io i8
def KE{f:fw}{p:Pos}(g:X.A.units<cLine)(d:PE X a (tQ (md X) f)):PT X (.Compare a [.NotEq] [.List [] p] pos) (tB (md X) (aH (cY f))):=DG J3 (uS (GZ g) d NM (Hi _))
def gC.putL{M:Md}{ρ:List Addr}{S:aE}{H:Hp}{k:Nat}{a:Addr}{ds f:List D}{ws:List V}(st:gC M ρ S H)(h:ρ[k]?=some a)(i:S[k]?=some (.lst ds))(r:bc M ρ H f ws):gC M ρ (S.set k (.lst f)) (upd H a (.lst ws))/\cG ρ H ρ (upd H a (.lst ws)):=by
 obtain⟨j,g,l⟩:=st.obj k a _ h i
 exact st.put h i ⟨ws,cp,r.off g⟩ λx d=>by rw[g] at d;cases d;exact id
def jf(m:List D->List D->Option (List D×D))(f:bH)(g:ie):bH:=λh S=>(f h S).bind λ(x,j)=>match x with
 | .ref k=>(g h j).bind λ(n,i)=>match j[k]?,i[k]? with
   |some (.lst _),some (.lst ds)=>(m ds n).bind λ(l,d)=>some (d,i.set k (.lst l))
   |_,_=>none
 |_=>none
def DT(M:Md)(r:V->List V->Hp->VK->Prop)(m:List D->List D->Option (List D×D)):Prop:=∀{f:List Addr} {H:Hp} {a:Addr} {k l h:List D} {d:D} {g j:List V} {Q:VK},H a=some (.lst g)->bc M f H k g->bc M f H l j->m k l=some (h,d)→
 (∀i w,bc M f H h i->Rel M f H d w->Q w (upd H a (.lst i)))->r (.ref a) j H Q
def K4{m:List D->List D->Option (List D×D)}{r:V->List V->Hp->VK->Prop}{f:bH}{g:ie}(L:DT (md X) r m):∀p H Q,tD (md X) (jf m f g) p H Q->OC X.K "list" r (tD (md X) f) (B8 (md X) g) p H Q:=λp H Q W=>by
 obtain⟨ρ,B,S,d,S',ok,e,q⟩:=W
 obtain⟨⟨x,y⟩,R,e⟩:=au e
 cases x with
 | ref k=>
   dsimp only at e
   obtain⟨⟨ys,U⟩,J,e⟩:=au e
   dsimp only at e
   split at e
   · rename_i Y ds o h
     obtain⟨⟨es,d'⟩,P,e⟩:=au e
     obtain⟨rfl,rfl⟩:=cE e
     refine⟨ρ,B,S,_,y,ok,R,λs v H1 A l M=> ?_⟩
     cases M with
     | ref C=>
       rename_i a
       obtain⟨t,N,_⟩:=l.obj k a _ C o
       refine⟨.inl ⟨rfl,t,je.of N⟩,s,B,y,ys,U,ok.to A l,J,λI us H2 u i F=> ?_⟩
       have j:=dh u.pre C
       obtain⟨vs,G,Z⟩:=i.obj k a _ j h
       refine L G Z F P λws w rw rd=> ?_
       obtain⟨n,z⟩:=i.putL j h rw
       exact q _ _ _ ((A.trans u).trans z) n (rd.ext z)
   · cases e
 |_=>cases e
def fA:List D->List D->Option (List D×D):=λd f=>match f with
 | [y]=>if d.length<sizeLine then some (d++ [y],.non) else none
 |_=>none
def Mu{M:Md}:DT M EY fA:=by
 intro o H a n p l d h m Q k g f e q
 unfold fA at e
 split at e
 ·split at e
  ·rename_i i
   obtain⟨rfl,rfl⟩:=cE e
   cases f with
   | cons f j=>
     cases j
     exact⟨a,h,_,rfl,rfl,k,by rw[←g.length];exact i,q _ _ (g.append (.cons f .nil)) .non⟩
  ·cases e
 ·cases e
def IL{f:bH}{g:bH}{o:Expr}{h d:Pos}(l:PE X o (tD (md X) f))(m:PE X e (tD (md X) g))(i:attributeBase o "append" X.env (eval o X.env)=eval o X.env:=by rfl) (k:((backTo d (starEach [e] X.env)).all (λx=> !x.1)&&(backToKw d (keywordEach [] X.env)).all (λx=>x.1.isSome)
   &&decide ([e].length+([]:List Keyword).length+(if ([]:List Keyword).isEmpty then 0 else 1)<30))=true:=by rfl)
  (j:(h.endLine==d.line)=true:=by rfl) (hs:starEach [e] X.env= [(false,eval e X.env)]:=by rfl):PE X (.Call (.Attribute o "append" h) [e] [] d) (tD (md X) (jf fA f (aq g av))):=
 kn (vU PySem.F.plainAttrs_list PySem.F.slot_list_append PySem.F.type_list_append q0 l (cT m i8 hs) i k j hs) (K4 Mu)
end
section
variable{X:Cx}{a b c e:Expr}{pos:Pos}{st:Stmt}
def KU{m:List D->List D->Option (List D×D)}{r:V->List V->Hp->VK->Prop}{f:bH}(A:DT (md X) r m):∀j H Q,tD (md X) (jf m f av) j H Q->NW X.K "list" r (tD (md X) f) j H Q:=λj H Q G=>by
 obtain⟨M,y,S,d,N,ok,e,q⟩:=G
 obtain⟨⟨x,p⟩,F,e⟩:=au e
 cases x with
 | ref k=>
   dsimp only at e
   obtain⟨⟨Z,Y⟩,u,e⟩:=au e
   cases u
   dsimp only at e
   split at e
   · rename_i J U z g
     obtain⟨⟨P,W⟩,C,e⟩:=au e
     obtain⟨rfl,rfl⟩:=cE e
     refine⟨M,y,S,_,p,ok,F,λI v H1 t h B=> ?_⟩
     cases B with
     | ref o=>
       rename_i a
       obtain⟨s,l,L⟩:=h.obj k a _ o g
       refine⟨.inl ⟨rfl,s,je.of l⟩,A l L .nil C λR w rw rd=> ?_⟩
       obtain⟨i,n⟩:=h.putL o g rw
       exact q _ _ _ (t.trans n) i (rd.ext n)
   · cases e
 |_=>cases e
def F1:List D->List D->Option (List D×D):=λd f=>match f with
 | []=>(d[d.length-1]?).bind λy=>some (d.dropLast,y)
 |_=>none
def Ll{M:Md}:DT M M9 F1:=by
 intro p H a n r m d k o Q i f h e q
 unfold F1 at e
 split at e
 ·obtain⟨y,l,e⟩:=au e
  obtain⟨rfl,rfl⟩:=cE e
  cases h
  obtain⟨v,g,j⟩:=f.get l
  rw[f.length] at g
  exact⟨a,k,v,rfl,rfl,i,g,q _ _ f.dropLast j⟩
 ·cases e
def Pr{f:bH}{o:Expr}{g d:Pos}(j:PE X o (tD (md X) f))(h:attributeBase o "pop" X.env (eval o X.env)=eval o X.env:=by rfl)(i:(g.endLine==d.line)=true:=by rfl):PE X (.Call (.Attribute o "pop" g) [] [] d) (tD (md X) (jf F1 f av)):=
 kn (IK PySem.F.plainAttrs_list PySem.F.slot_list_pop PySem.F.type_list_pop Mj j h i) (KU Ll)
def gN:List D->List D->Option (List D×D):=λd f=>match f with
 | [.int i]=>if -(2^63)<=i/\i<2^63 then(seqIndex? i d.length).bind λk=>(d[k]?).bind λy=>some (d.eraseIdx k,y) else none
 |_=>none
def GX{M:Md}:DT M Ip gN:=by
 intro w H a t x s d n u Q l g f e q
 unfold gN at e
 split at e
 ·split at e
  ·rename_i i h
   obtain⟨k,j,e⟩:=au e
   obtain⟨y,o,e⟩:=au e
   obtain⟨rfl,rfl⟩:=cE e
   cases f with
   | cons f p=>
     cases p
     cases f
     obtain⟨v,r,m⟩:=g.get o
     rw[g.length] at j
     exact⟨a,n,i,k,v,rfl,rfl,l,h.1,h.2,j,r,q _ _ (g.eraseIdx k) m⟩
  ·cases e
 ·cases e
def JD{f:bH}{g:bH}{o:Expr}{h d:Pos}(l:PE X o (tD (md X) f))(m:PE X e (tD (md X) g))(i:attributeBase o "pop" X.env (eval o X.env)=eval o X.env:=by rfl) (k:((backTo d (starEach [e] X.env)).all (λx=> !x.1)&&(backToKw d (keywordEach [] X.env)).all (λx=>x.1.isSome)
   &&decide ([e].length+([]:List Keyword).length+(if ([]:List Keyword).isEmpty then 0 else 1)<30))=true:=by rfl)
  (j:(h.endLine==d.line)=true:=by rfl) (hs:starEach [e] X.env= [(false,eval e X.env)]:=by rfl):PE X (.Call (.Attribute o "pop" h) [e] [] d) (tD (md X) (jf gN f (aq g av))):=
 kn (vU PySem.F.plainAttrs_list PySem.F.slot_list_pop PySem.F.type_list_pop IZ l (cT m i8 hs) i k j hs) (K4 GX)
def Aj(f:bH)(g:fw):bH:=λd S=>(f d S).bind λ(x,i)=>match x with
 | .ref k=>(g d i).bind λ(p,h)=>match i[k]?,h[k]? with
   |some (.lst _),some (.lst ds)=>if p.2.isM=true/\ds.length+p.1.length<=sizeLine then some (.non,h.set k (.lst (ds++p.1))) else none
   |_,_=>none
 |_=>none
def M3{f:bH}{g:fw}:∀o H Q,tD (md X) (Aj f g) o H Q->OC X.K "list" Ey (tD (md X) f) (HA (tQ (md X) g) Mf) o H Q:=λo H Q U=>by
 obtain⟨Z,z,S,d,S',ok,e,q⟩:=U
 obtain⟨⟨x,w⟩,P,e⟩:=au e
 cases x with
 | ref k=>
   dsimp only at e
   obtain⟨⟨⟨ys,t⟩,R⟩,J,e⟩:=au e
   dsimp only at e
   split at e
   · rename_i W ds n h
     split at e
     · rename_i c
       obtain⟨rfl,rfl⟩:=cE e
       refine⟨Z,z,S,_,w,ok,P,λp v H1 y l M=> ?_⟩
       cases M with
       | ref B=>
         rename_i a
         obtain⟨r,N,_⟩:=l.obj k a _ B n
         refine⟨.inl ⟨rfl,r,je.of N⟩,p,z,w,ys,t,R,ok.to y l,J,λF b L H2 u i Y s=> ?_⟩
         have j:=dh u.pre B
         obtain⟨I,C,A⟩:=i.obj k a _ j h
         refine⟨a,b,I,L,rfl,rfl,C,Y.sqM c.1,by rw[←A.length,←s.length];exact c.2,?_⟩
         obtain⟨m,G⟩:=i.putL j h (A.append s)
         exact q _ _ _ ((y.trans u).trans G) m .non
     · cases e
   · cases e
 |_=>cases e
def Hk{f:bH}{g:fw}{o:Expr}{h d:Pos}(l:PE X o (tD (md X) f))(m:PE X e (tQ (md X) g))(i:attributeBase o "extend" X.env (eval o X.env)=eval o X.env:=by rfl) (k:((backTo d (starEach [e] X.env)).all (λx=> !x.1)&&(backToKw d (keywordEach [] X.env)).all (λx=>x.1.isSome)
   &&decide ([e].length+([]:List Keyword).length+(if ([]:List Keyword).isEmpty then 0 else 1)<30))=true:=by rfl)
  (j:(h.endLine==d.line)=true:=by rfl) (hs:starEach [e] X.env= [(false,eval e X.env)]:=by rfl):PE X (.Call (.Attribute o "extend" h) [e] [] d) (tD (md X) (Aj f g)):=
 kn (vU PySem.F.plainAttrs_list PySem.F.slot_list_extend PySem.F.type_list_extend Gc l (eF m iu hs) i k j hs) M3
def wO(f g:bH):nI:=λd h S=>(f h S).bind λ(x,m)=>(g h m).bind λ(y,l)=>match x,y with
 | .ref k,.int i=>match l[k]? with
   |some (.lst ds)=>(CD ds.length i).bind λj=>some (h,l.set k (.lst (ds.set j d)))
   |_=>none
 |_,_=>none
def Pj{f g:bH}:∀v n H Q,tG (md X) (wO f g) v n H Q->MV (tD (md X) f) (tD (md X) g) K1 v n H Q:=λv n H Q R=>by
 obtain⟨W,A,S,d,P,Y,ok,r,e,q⟩:=R
 obtain⟨⟨x,u⟩,N,e⟩:=au e
 obtain⟨⟨y,U⟩,L,e⟩:=au e
 cases x with
 | ref k=>
   cases y with
   | int i=>
     dsimp only at e
     split at e
     · rename_i Z C
       obtain⟨j,M,e⟩:=au e
       obtain⟨rfl,rfl⟩:=cE e
       refine⟨W,A,S,_,u,ok,N,λs v1 H1 z p o=>⟨s,A,u,_,U,ok.to z p,L,λJ v2 H2 t l G=> ?_⟩⟩
       cases G
       have o:=o.ext t
       cases o with
       | ref F=>
         obtain⟨K,I,B⟩:=l.obj k _ _ F C
         have h:=z.trans t
         obtain⟨m,w⟩:=l.putL F C (bc.set (r.ext h) j B)
         exact⟨_,K,i,j,rfl,rfl,I,by rw[←B.length];exact M,q _ _ _ (h.trans w) ((ok.to h l).to w m)⟩
     · cases e
   |_=>cases e
 |_=>cases e
def Qr{o i:Expr}{f g:bH}(d:PE X o (tD (md X) f))(hi:PE X i (tD (md X) g))
  (h:∀v,assign (.Subscript o i pos) X.env v=(do
   let ov←holding [v] (eval o X.env)
   let iv←holding [v,ov] (eval i X.env)
   standAt pos
   holding [v,ov,iv] (setItem ov iv v)
   release [v,ov,iv] []):=by intro _;rfl):PG X (.Subscript o i pos) (tG (md X) (wO f g)):=OP (LR d hi set_list h) Pj
def Oz(f g h:bH):cC:=λd S=>(f d S).bind λ(x,p)=>(g d p).bind λ(y,l)=>match x,y with
 | .ref k,.int i=>match l[k]? with
   | some (.lst ds)=>if 0<=i then(ds[i.toNat]?).bind λz=>(h d l).bind λ(w,o)=>match z,w,o[k]? with
     |.int m,.int n,some (.lst es)=>(CD es.length i).bind λj=>some (.nx d (o.set k (.lst (es.set j (.int (m+n))))))
     |_,_,_=>none
     else none
   |_=>none
 |_,_=>none
def PH{o i e:Expr}{f g h:bH}{r:Pos}(ho:PE X o (tD (md X) f))(hi:PE X i (tD (md X) g))(he:PE X e (tD (md X) h))
  (C:∀A B new,augStore i A B new=(do holding [new,A,B] (setItem A B new);release [new,A,B] [];pure .next):=by intros;rfl):PS X (.AugAssign (.Subscript o i r) .Add e pos) (tS (md X) (Oz f g h)):=
 Ek (Jj ho hi GI he K5 set_list C) λD σ H qq=>by
  obtain⟨ρ,I,S,o,ok,e,q⟩:=qq
  obtain⟨⟨x,P⟩,e1,e⟩:=au e
  obtain⟨⟨y,W⟩,e2,e⟩:=au e
  cases x with
  | ref k=>
    cases y with
    | int i=>
      dsimp only at e
      split at e
      · rename_i ds hs
        split at e
        · rename_i hi
          obtain⟨z,e3,e⟩:=au e
          obtain⟨⟨w,N⟩,e4,e⟩:=au e
          cases z with
          | int m=>
            cases w with
            | int n=>
              cases d:N[k]? with
              |none=>rw[d] at e;cases e
              | some o3=>
                rw[d] at e
                cases o3 with
                | lst es=>
                  dsimp only at e
                  obtain⟨j,e5,e⟩:=au e
                  cases e
                  refine⟨ρ,I,S,_,P,ok,e1,λM v1 H1 U L K=>⟨M,I,P,_,W,ok.to U L,e2,λG v2 H2 Q t r2=> ?_⟩⟩
                  cases r2
                  have K:=K.ext Q
                  cases K with
                  | ref C=>
                    have p:=U.trans Q
                    obtain⟨vs,h3,h4⟩:=t.obj k _ _ C hs
                    obtain⟨v,h5,h6⟩:=h4.get e3
                    cases h6
                    refine⟨_,vs,i.toNat,_,rfl,by rw[Int.toNat_of_nonneg hi],je.of h3,h5,G,I,W,_,N,ok.to p t,e4,λa0 v3 H3 R l r3=> ?_⟩
                    cases r3
                    have u:=dh R.pre C
                    obtain⟨F,g3,Z⟩:=l.obj k _ _ u d
                    have s:=p.trans R
                    obtain⟨J,Y⟩:=l.putL u d (bc.set (.int (m+n)) j Z)
                    exact⟨m,n,rfl,rfl,_,F,i,j,rfl,rfl,g3,by rw[←Z.length];exact e5,q _ _ _ (s.trans Y) ((ok.to s l).to Y J)⟩
                |_=>cases e
            |_=>cases e
          |_=>cases e
        · cases e
      · cases e
    |_=>cases e
  |_=>cases e
def Ke(i j:Nat)(f:ie):cC:=λd S=>(f d S).bind λ(g,h)=>match g with
 | [v,w]=>some (.nx ((d.set i (some v)).set j (some w)) h)
 |_=>none
def On{i j:Nat}{f:ie}(h:PS X st (NT i j (B8 (md X) f))):PS X st (tS (md X) (Ke i j f)):=Ek h λD w H p=>by
 obtain⟨s,l,S,o,ok,e,q⟩:=p
 obtain⟨⟨t,k⟩,n,e⟩:=au e
 dsimp only at e
 split at e
 ·cases e
  refine⟨s,l,S,_,k,ok,n,λg u v x st r=> ?_⟩
  cases r with
  | cons r d=>
    cases d with
    | cons m d=>
      cases d
      exact⟨_,_,rfl,q _ _ _ x ⟨((ok.en.ext x).set r).set m,st⟩⟩
 ·cases e
end
def eT(cells:List (Str×Addr)):List (Str×NameKind)->List (Str×Addr)->List (Str×Addr)
 | [],acc=>acc
 |(n,k)::r,acc=>if (k==.free)=true then eT cells r ((n,(cells.lookup n).getD 0)::acc) else eT cells r acc
theorem sm{env:Env}:∀(names:List (Str×NameKind)) (b:List (Str×Addr)),(∀y∈names,y.2=.free->(env.cells.lookup y.1).isSome=true)→
  (forIn names b λ(x:Str×NameKind) (f:List (Str×Addr))=>(do
   if (x.2==NameKind.free)=true then do
    let c←cellOf env x.1
    pure (ForInStep.yield ((x.1,c)::f))
   else pure (ForInStep.yield f):Sem (ForInStep (List (Str×Addr)))))=(pure (eT env.cells names b):Sem _)
 | [],b,_=>rfl
 | (n,k)::r,b,h=>by
   rw[List.forIn_cons]
   unfold eT
   by_cases c:(k==NameKind.free)=true
   · obtain⟨a,e⟩:=Option.isSome_iff_exists.mp (h (n,k) QBq (by simpa using c))
     simp only[c,if_true]
     have g:cellOf env n=pure a:=by
       unfold cellOf
       rw[e]
     rw[g,pure_bind,pure_bind,e]
     exact sm r _ λy d=>h y (Qpq _ d)
   · simp only[c,Bool.false_eq_true,if_false]
     rw[pure_bind]
     exact sm r _ λy d=>h y (Qpq _ d)
def Ij{a:Scope}{env:Env}(h:∀y∈a.names,y.2=.free->(env.cells.lookup y.1).isSome=true):closureFor a env=pure (eT env.cells a.names []):=by
 unfold closureFor
 have:=sm a.names [] h
 rw[bind_pure]
 exact this
theorem wj{cells:List (Str×Addr)}:∀(names:List (Str×NameKind)) (a:List (Str×Addr)) (p:Str×Addr),p∈eT cells names a->p∈a\/∃n,(n,NameKind.free)∈names/\p=(n,(cells.lookup n).getD 0)
 | [],a,p,h=>.inl h
 | (n,k)::r,a,p,h=>by
   unfold eT at h
   split at h
   · rename_i c
     rcases wj r _ p h with h|⟨m,b,d⟩
     · rcases Qsq.mp h with h|h
       · exact .inr ⟨n,by rw[show k=NameKind.free by simpa using c];exact QBq,h⟩
       · exact .inl h
     · exact .inr ⟨m,Qpq _ b,d⟩
   · rcases wj r _ p h with h|⟨m,b,d⟩
     · exact .inl h
     · exact .inr ⟨m,Qpq _ b,d⟩
theorem vh{cells:List (Str×Addr)}{x:Str}:∀(names:List (Str×NameKind)) (a:List (Str×Addr)),((x,NameKind.free)∈names\/∃c,(x,c)∈a)->∃c,(x,c)∈eT cells names a
 | [],a,h=>by
   rcases h with h|h
   · cases h
   · exact h
 | (n,k)::r,a,h=>by
   unfold eT
   split
   · rename_i c
     refine vh r _ ?_
     rcases h with h|⟨c,h⟩
     · rcases Qsq.mp h with h|h
       · cases h;exact .inr ⟨_,QBq⟩
       · exact .inl h
     · exact .inr ⟨c,Qpq _ h⟩
   · rename_i c
     refine vh r _ ?_
     rcases h with h|h
     · rcases Qsq.mp h with h|h
       · cases h;exact absurd rfl c
       · exact .inl h
     · exact .inr h
theorem ow{x:Str}{c:Addr}:∀{l:List (Str×Addr)},(x,c)∈l->∃b,l.lookup x=some b
 | [],h=>by cases h
 | (n,d)::r,h=>by
   unfold List.lookup
   by_cases e:(x==n)=true
   · rw[e];exact⟨d,rfl⟩
   · have a:(x==n)=false:=by simpa using e
     rw[a]
     rcases Qsq.mp h with h|h
     · cases h;simp at e
     · exact ow h
def wc(b:List Str)(a:Str->Option NameKind)(names:List (Str×NameKind)):List (Option Nat)->List Str->Bool
 |some j::js,x::N=>(b[j]? ==some x)&&(a x==some .cell||a x==some .free)&&(names.lookup x==some .free)&&wc b a names js N
 |none::js,_::N=>wc b a names js N
 |_,_=>true
theorem wa{b:List Str}{a:Str->Option NameKind}{names:List (Str×NameKind)}:∀{js:List (Option Nat)} {N:List Str} {k j:Nat} {x:Str},wc b a names js N=true->js[k]?=some (some j)->N[k]?=some x->b[j]?=some x/\(a x=some .cell\/a x=some .free)/\names.lookup x=some .free
 | some i::js,y::N,0,j,x,h,h1,h2=>by
   cases h1
   cases h2
   simp only[wc,QCq,Bool.or_eq_true,beq_iff_eq] at h
   exact⟨h.1.1.1,h.1.1.2,h.1.2⟩
 | some i::js,y::N,k+1,j,x,h,h1,h2=>by
   simp only[wc,QCq] at h
   exact wa h.2 (by simpa using h1) (by simpa using h2)
 |none::js,y::N,0,j,x,h,h1,h2=>by cases h1
 |none::js,y::N,k+1,j,x,h,h1,h2=>wa (k:=k) (by simpa [wc] using h) (by simpa using h1) (by simpa using h2)
 | [],N,k,j,x,h,h1,h2=>by simp at h1
 |some i::js,[],k,j,x,h,h1,h2=>by simp at h2
 |none::js,[],k,j,x,h,h1,h2=>by simp at h2
theorem qx{env:Env}{x:Str}:∀{names:List (Str×NameKind)},names.lookup x=some .free->(names.map λ(n,k)=>if (k==NameKind.free&&env.scope.kind==.function&&env.kindOf n==some .cell) then(n,NameKind.cell) else(n,k)).lookup x=some .cell∨
  (names.map λ(n,k)=>if (k==NameKind.free&&env.scope.kind==.function&&env.kindOf n==some .cell) then(n,NameKind.cell) else(n,k)).lookup x=some .free
 | [],h=>by cases h
 | (n,k)::r,h=>by
   unfold List.lookup at h
   rw[QDq]
   by_cases e:(x==n)=true
   · rw[e] at h
     cases h
     dsimp only
     split
     · left;unfold List.lookup;rw[e]
     · right;unfold List.lookup;rw[e]
   · have a:(x==n)=false:=by simpa using e
     rw[a] at h
     have b:=qx (env:=env) h
     dsimp only
     split <;>(unfold List.lookup;rw[a];exact b)
def aL.gen{X:Cx}{N:List Str}{js:List (Option Nat)}{d:Scope}(k:d.kind=.function)(q:d.names.all (λy=>y.2 !=.cell)=true)(w:d.names.all (λy=>y.2 !=.local||d.names.lookup y.1==some .local)=true)
  (o:d.names.all (λy=>y.2 !=.free||(X.env.cells.lookup y.1).isSome)=true) (s:wc X.N X.env.kindOf d.names js N=true) (A:js.length=N.length):aL X N js d (eT X.env.cells d.names []) where
 kind:=k
 nocell:=λy f=>by
  have:=QUq.mp q y f
  simpa using this
 names:=λy f e=>by
  have:=QUq.mp w y f
  rw[e] at this
  simpa using this
 clos:=Ij λy f e=>by
  have:=QUq.mp o y f
  rw[e] at this
  simpa using this
 sub:=λx c h=>by
  rcases wj _ _ _ (PySem.mem_of_lookup h) with h|⟨n,l,e⟩
  ·cases h
  ·cases e
   have:=QUq.mp o _ l
   have u:(X.env.cells.lookup x).isSome=true:=by simpa using this
   obtain⟨c,g⟩:=Option.isSome_iff_exists.mp u
   rw[g]
   rfl
 has:=λx h=>by
  have m:(x,NameKind.free)∈d.names:=by
   have:∃k,(relabel d X.env).names.lookup x=some k/\(k=.cell\/k=.free):=by
    rcases h with h|h
    ·exact⟨_,h,.inl rfl⟩
    ·exact⟨_,h,.inr rfl⟩
   obtain⟨B,t,g⟩:=this
   have p:=PySem.mem_of_lookup t
   unfold relabel at p
   obtain⟨⟨n,v⟩,f,i⟩:=Qkq.mp p
   dsimp only at i
   split at i
   ·rename_i c
    cases i
    simp only[QCq] at c
    have:v=NameKind.free:=by simpa using c.1.1
    rw[←this]
    exact f
   ·cases i
    rcases g with z|z
    ·have:=QUq.mp q _ f
     rw[z] at this
     simp at this
    ·rw[←z];exact f
  obtain⟨c,g⟩:=vh (cells:=X.env.cells) d.names [] (.inl m)
  exact ow g
 cap:=λk j x r l=>by
  obtain⟨a,b,c⟩:=wa s r l
  refine⟨a,b,?_⟩
  unfold relabel
  exact qx c
 len:=A
structure eA(P:Program)(w:World)(K:PySem.W.Frag)(mg:Str->Option Value)(base:Heap)(k:Nat)(x:Str)(ps:List Str)(F:cR):Prop where
 ex:∃f fd,bh P w K mg base dm k f fd ps (dN ⟨K,mg⟩ ps.length F)/\Binds K fd ps []/\PySem.W.keepIn K (.ref f)=true/\mg x=some (.ref f)
section
variable{X:Cx}{x:Str}{k n:Nat}{ps:List Str}{F:cR}{e:Expr}{es:List Expr}{g:ie}{p pos:Pos}
def Np(C:eA X.prog X.w X.K X.mg X.base k x ps F)(d:fZ k X.A)(i:Gl X x)(h:PA X (e::es) (B8 (md X) g))(j:nA ps.length g)
  (a:(x==("__debug__":Str))=false:=by decide) (he:starEach (e::es) X.env=(false,eval e X.env)::starEach es X.env:=by rfl) (hpl:(backTo pos (starEach es X.env)).any (·.1)=false:=by rfl):
  PE X (.Call (.Name x p) (e::es) [] pos) (tD (md X) (ax F g)):=by
 obtain⟨f,l,G,b,c,m⟩:=C.ex
 exact L8 G d i m c b h j a he hpl
def Nb(C:eA X.prog X.w X.K X.mg X.base k x ps F)(d:fZ k X.A)(i:Gl X x)(h:PA X (e::es) (B8 (md X) g))(j:nA ps.length g)
  (a:(x==("__debug__":Str))=false:=by decide) (he:starEach (e::es) X.env=(false,eval e X.env)::starEach es X.env:=by rfl) (hpl:(backTo pos (starEach es X.env)).any (·.1)=false:=by rfl):
  PE X (.Call (.Name x p) (e::es) [] pos) (tL (md X) (dZ F g)):=by
 obtain⟨f,l,G,b,c,m⟩:=C.ex
 exact Lm G d i m c b h j a he hpl
end
def eA.mono{P:Program}{w:World}{K:PySem.W.Frag}{mg:Str->Option Value}{base:Heap}{j k:Nat}{x:Str}{ps:List Str}{F:cR}(C:eA P w K mg base j x ps F)(h:j<=k):eA P w K mg base k x ps F:=by
 obtain⟨f,c,G,b,a,m⟩:=C.ex
 exact⟨f,c,G.mono h,b,a,m⟩
structure Bl(mg:Str->Option Value):Prop where
 len:mg "len"=none
 tuple:mg "tuple"=none
 list:mg "list"=none
 dict:mg "dict"=none
 set:mg "set"=none
 int:mg "int"=none
 str:mg "str"=none
 bool:mg "bool"=none
 all:mg "all"=none
 any:mg "any"=none
 range:mg "range"=none
 zip:mg "zip"=none
 sorted:mg "sorted"=none
 isi:mg "isinstance"=none
 min:mg "min"=none
 max:mg "max"=none
 abs:mg "abs"=none
 enum:mg "enumerate"=none
open AutoSeq1 in
def pR(l:Addr)(items:Array Value)(n:Nat)(b:Addr)(a:Array Value)(m:Nat)(p:Option Addr)(o:Array (Option Value))(k:¬(!items.isEmpty&&Builtin.List.listTooLong (items.size+a.size))=true)(e:items.size<=sizeLine)(c:items.size+a.size<=sizeLine+1):
  Meets (Builtin.«list.extend» ⟨[.ref l,.ref b],[]⟩) (λ_ R s=>s.heap.get? l=some {cls:=.type "list",dict:=none,data:=.seq items n,slots:= #[]}/\s.heap.get? b=some {cls:=.type "tuple",dict:=p,data:=.seq a m,slots:=o}/\R (.ok (.ret Value.none)) {s with heap:=s.heap.update l (Obj.mapSeq λx=>x++a),toks:=s.toks}):=
 .of_wp λi w A R s h=>by
  obtain⟨B,g,d,t,v⟩:=s;obtain⟨j,q,h⟩:=h;have C:=idx_int;have r:=AutoSeq1.sub_tuple_tuple;have u:=AutoSeq1.sub_list_list;have y:=AutoSeq1.sub_tuple_list;have z:=AutoSeq1.sub_list_tuple;
  have f:(items++a).size<=sizeLine+1:=by rw[Array.size_append];exact c
  wp_walk using (wpAny_updateSeq j rfl (hz:=e) (_hz':=f)),AutoSeq1.wpAny_loadPart' j,AutoSeq1.wpAny_loadPart' q;exact⟨_,rfl,h⟩
section
variable{X:Cx}{a b c e:Expr}{pos:Pos}{st:Stmt}
def KA:Ml X "list.extend" (λx vs H Q=>∃l b xs i,x=.ref l/\vs= [.ref b]/\H l=some (.lst xs)/\jo X.K H b i/\xs.length+i.length<=sizeLine/\Q .non (upd H l (.lst (xs++i)))):=by
 intro m s R H x vs v P Q I w G h
 obtain⟨l,b,xs,i,rfl,rfl,hH,hB,hz,q⟩:=h
 cases w
 obtain⟨u,rfl,ru⟩:=G.one
 cases ru
 obtain⟨z,f,n,r,N,e⟩:=I.lstM hH
 obtain⟨d,k,⟨⟨J,C,L,A⟩,B,o,t,p⟩,M⟩:=I.tuple hB
 have y:=k.length
 simp only at o p
 subst o p
 have j:f.toArray.size+d.toArray.size<=sizeLine:=by rw[Qjq,Qjq];omega
 have g:¬(!f.toArray.isEmpty&&Builtin.List.listTooLong (f.toArray.size+d.toArray.size))=true:=by
  rw[vi j,Bool.and_false]
  exact Qtq
 refine call_meets F.slot_list_extend ⟨_,e,rfl⟩ F.entry_list_extend (F.args_list_extend_2 _ _)
  (pR l f.toArray n b d.toArray t C A g (by rw[Qjq];omega) (by omega)) ⟨e,B,?_⟩
 refine⟨.non,_,I.lset (its':=f++d) hH e (by simp) (r.append k) ?_,rfl,q⟩
 rw[lQa]
 omega
def ye(f:bH)(g:fw):bH:=λd S=>(f d S).bind λ(x,i)=>match x with
 | .ref k=>(g d i).bind λ(p,h)=>match i[k]?,h[k]? with
   |some (.lst _),some (.lst ds)=>if p.2.isL=false/\ds.length+p.1.length<=sizeLine then some (.non,h.set k (.lst (ds++p.1))) else none
   |_,_=>none
 |_=>none
def Mx{f:bH}{g:fw}:∀r H Q,tD (md X) (ye f g) r H Q->OC X.K "list" (λx vs H Q=>∃l b xs o,x=.ref l/\vs= [.ref b]/\H l=some (.lst xs)/\jo X.K H b o/\xs.length+o.length<=sizeLine/\Q .non (upd H l (.lst (xs++o)))) (tD (md X) f) (HA (tQ (md X) g) Mf) r H Q:=λr H Q Y=>by
 obtain⟨ρ,B,S,d,S',ok,e,q⟩:=Y
 obtain⟨⟨x,z⟩,U,e⟩:=au e
 cases x with
 | ref k=>
   dsimp only at e
   obtain⟨⟨⟨R,t⟩,W⟩,L,e⟩:=au e
   dsimp only at e
   split at e
   · rename_i Z ds p h
     split at e
     · rename_i c
       obtain⟨rfl,rfl⟩:=cE e
       refine⟨ρ,B,S,_,z,ok,U,λs v H1 A m N=> ?_⟩
       cases N with
       | ref F=>
         rename_i a
         obtain⟨u,P,_⟩:=m.obj k a _ F p
         refine⟨.inl ⟨rfl,u,je.of P⟩,s,B,z,R,t,W,ok.to A m,L,λI b M H2 y i h2 w=> ?_⟩
         have j:=dh y.pre F
         obtain⟨vs,G,C⟩:=i.obj k a _ j h
         refine⟨a,b,vs,M,rfl,rfl,G,h2.sqT c.1,by rw[←C.length,←w.length];exact c.2,?_⟩
         obtain⟨n,J⟩:=i.putL j h (C.append w)
         exact q _ _ _ ((A.trans y).trans J) n .non
     · cases e
   · cases e
 |_=>cases e
def MJ{f:bH}{g:fw}{o:Expr}{h d:Pos}(l:PE X o (tD (md X) f))(m:PE X e (tQ (md X) g))(i:attributeBase o "extend" X.env (eval o X.env)=eval o X.env:=by rfl) (k:((backTo d (starEach [e] X.env)).all (λx=> !x.1)&&(backToKw d (keywordEach [] X.env)).all (λx=>x.1.isSome)
   &&decide ([e].length+([]:List Keyword).length+(if ([]:List Keyword).isEmpty then 0 else 1)<30))=true:=by rfl)
  (j:(h.endLine==d.line)=true:=by rfl) (hs:starEach [e] X.env= [(false,eval e X.env)]:=by rfl):PE X (.Call (.Attribute o "extend" h) [e] [] d) (tD (md X) (ye f g)):=
 kn (vU PySem.F.plainAttrs_list PySem.F.slot_list_extend PySem.F.type_list_extend KA l (eF m iu hs) i k j hs) Mx
def qg(x:V):List V->Option Nat
 | []=>none
 |y::r=>if uM y x=true then some 0 else(qg x r).map (·+1)
theorem Ed{x:V}:∀{xs:List V} {j:Nat},qg x xs=some j->(∃y,xs[j]?=some y/\uM y x=true)/\∀m y,m<j->xs[m]?=some y->uM y x=false
 | [],_,h=>by cases h
 | y::r,j,h=>by
   unfold qg at h
   split at h
   · rename_i c
     cases h
     exact⟨⟨y,rfl,c⟩,λm _ d=>absurd d (Nat.not_lt_zero _)⟩
   · rename_i c
     obtain⟨i,l,rfl⟩:=oQm.mp h
     obtain⟨⟨z,k,n⟩,g⟩:=Ed l
     refine⟨⟨z,by simpa using k,n⟩,λm w d f=> ?_⟩
     cases m with
     |zero=>cases f;simpa using c
     |succ m=>exact g m w (by omega) (by simpa using f)
def Iw:OO X "list.index" (λx vs H Q=>∃a xs y j,x=.ref a/\vs= [y]/\je X.K H a xs/\iy y=true/\xs.all iy=true/\qg y xs=some j/\Q (.int (j:Nat)) H):=by
 intro B s σ H x vs v us Q I N U h
 obtain⟨a,xs,y,j,rfl,rfl,hq,fy,fs,hj,q⟩:=h
 cases N
 obtain⟨u,rfl,ru⟩:=U.one
 obtain⟨f,r,Z,hz⟩:=I.list hq
 obtain⟨⟨W,dd,Y,P⟩,n,e,C,g,J⟩:=Z
 simp only at C g J
 subst C g J
 obtain⟨⟨z,k,h2⟩,L⟩:=Ed hj
 have hl:=r.length
 have a0:j<xs.length:=(gQs.mp k).1
 obtain⟨w,o,i⟩:=r.get k
 have t:f.toArray[j]'(by rw[Qjq];omega)=w:=by
  have:=(gQs.mp o).2
  simpa using this
 have G:=mw
 refine call_meets PySem.F.slot_list_index ⟨_,e,rfl⟩ PySem.F.entry_list_index (PySem.F.args_list_index_2 _ _)
  (SeqAt.list_indexAt a f.toArray n none P u (Cy y) j (by rw[Qjq];omega) (by omega) (by rw[t,yS i (QUq.mp fs z (mQg k))];exact h2) λm M p=> ?_)
  ⟨e,λw o=>kh ru fy r fs w (by simpa using o),⟨.int j,H,I.tok _,⟨_,rfl⟩,q⟩⟩
 have d:m<xs.length:=by rw[Qjq] at M;omega
 obtain⟨S,l,A⟩:=r.get (gQe d)
 have R:f.toArray[m]=S:=by
  have:=(gQs.mp l).2
  simpa using this
 rw[R,yS A (QUq.mp fs _ (List.getElem_mem d))]
 exact L m _ p (gQe d)
end
end DL
namespace Zq
open PySem
def It(t:Bool)(h:Heap)(i a:Addr)(k:Nat):Prop:=if t=true then h.IsTupleIter i a k else h.IsListIter i a k
def Sq(t:Bool)(h:Heap)(a:Addr)(xs:Array Value):Prop:=if t=true then h.IsTuple a xs else h.IsList a xs
section
variable{t t2:Bool}{h h':Heap}{i j a b z O T:Addr}{k:Nat}{xs ys:Array Value}
theorem It.at(g:It t h i a k)(f:∀o,h.get? i=some o->h'.get? i=some o):It t h' i a k:=by
 cases t with
 |true=>exact(show h.IsTupleIter i a k from g).at f
 |false=>exact(show h.IsListIter i a k from g).at f
def It.ext(g:It t h i a k)(f:Heap.ExtBut c h h')(n:i≠c):It t h' i a k:=g.at λo e=>f i o n e
def Sq.at(g:Sq t h a xs)(f:∀o,h.get? a=some o->h'.get? a=some o):Sq t h' a xs:=by
 cases t with
 |true=>obtain⟨o,e,r⟩:=(show h.IsTuple a xs from g);exact(show h'.IsTuple a xs from⟨o,f o e,r⟩)
 |false=>obtain⟨o,e,r⟩:=(show h.IsList a xs from g);exact(show h'.IsList a xs from⟨o,f o e,r⟩)
def Sq.ext(g:Sq t h a xs)(f:Heap.ExtBut c h h')(n:a≠c):Sq t h' a xs:=g.at λo e=>f a o n e
def It.obj(g:It t h i a k):∃o,h.get? i=some o/\∀v,o.data≠.cell v:=by
 cases t with
 |true=>obtain⟨o,e,_,d⟩:=(show h.IsTupleIter i a k from g);exact⟨o,e,λv n=>by rw[d] at n;cases n⟩
 |false=>obtain⟨o,e,_,d⟩:=(show h.IsListIter i a k from g);exact⟨o,e,λv n=>by rw[d] at n;cases n⟩
end
section
variable{prog:Program}{w:World}{A:Around}{E:Value->Shared->Prop}{s:Shared}{t t2:Bool}{z T O i j a b:Addr}{k:Nat}{xs ys:Array Value}{x y u v:Value}
def draw{Q:Value->Shared->Prop}(d:It t s.heap i a k)(c:Sq t s.heap a xs)(e:xs[k]?=some v)
  (q:∀h',It t h' i a (k+1)->Heap.SameBut i s.heap h'->Q v {s with heap:=h'}):wpAny (model prog w) A (Builtin.SmallTypes.nextOf<|.ref i) Q E s:=by
 cases t with
 |true=>exact Zp.M1 d c e q
 |false=>exact wpAny_nextOf_list_item d c e q
def KQ(d:A.handled=none)(f:It t s.heap i a k)(c:Sq t s.heap a xs)(g:xs[k]?=none)
  (q:∀h' e,Heap.ExtBut i s.heap h'->(∃o,h'.get? e=some o/\o.cls=.type "StopIteration")->E (.ref e) {s with heap:=h'}):wpAny (model prog w) A (Builtin.SmallTypes.nextOf<|.ref i) Q E s:=by
 cases t with
 |true=>exact Zp.NJ d f c g q
 |false=>exact wpAny_nextOf_list_end d f c g q
abbrev wN(h:Heap)(z T O:Addr)(c d:Value):Prop:=
 h.get? z=some {cls:=.type "zip",dict:=none,data:=.fields #[c,d,.bool false,.ref T,.ref O],slots:= #[]}
def item(D:ZipApart z T O i j a b){Q:Value->Shared->Prop}(m:wN s.heap z T O .none (.bool false))(gT:IsPair s.heap T (.ref i) (.ref j))(gO:IsPair s.heap O u v)(gi:It t s.heap i a k)(gj:It t2 s.heap j b k)
  (ga:Sq t s.heap a xs) (gb:Sq t2 s.heap b ys) (ex:xs[k]?=some x) (ey:ys[k]?=some y)
  (q:∀h',wN h' z T O (rawInt s.heap.objs.size) (.bool false)->IsPair h' O x y->It t h' i a (k+1)->It t2 h' j b (k+1)->IsPair h' s.heap.objs.size x y->Zp.Rest z O i j s.heap h'->Q (.ref s.heap.objs.size) {s with heap:=h'}):
  wpAny (model prog w) A (Builtin.«zip.__next__» ⟨[.ref z],[]⟩) (λL s'=>∃r,L=.done (.ret r)/\Q r s') E s:=by
 refine(?_:wpAny _ _ (field (.ref z) 2 >>= _) _ _ _)
 refine Qaq<|QMq m rfl (x:=.bool false) rfl ?_
 refine(?_:wpAny _ _ (field (.ref z) 3 >>= _) _ _ _)
 refine Qaq<|QMq m rfl (x:=.ref T) rfl<|Qaq<|wpAny_seqItems gT rfl ?_
 refine(?_:wpAny _ _ (Builtin.SmallTypes.ownedTupleIsFree (.ref z) >>= _) _ _ _)
 refine Qaq ?_
 unfold Builtin.SmallTypes.ownedTupleIsFree
 refine Qaq<|QMq m rfl (x:=.none) rfl<|Qgq ?_
 simp only[if_true]
 refine Qaq<|wpAny_rule<|Qaq<|QMq m rfl (x:=.ref O) rfl<|Qaq (wpAny_setField_rec m (by simp) λh1 N g=> ?_)
 replace N:wN h1 z T O .ellipsis (.bool false):=N
 refine Qaq ?_
 simp only[List.zipIdx_cons,List.zipIdx_nil,List.forIn_nil,List.forIn_cons]
 refine Qaq<|Qaq<|wpAny_onRaise ?_
 refine(?_:wpAny _ _ (Builtin.SmallTypes.nextOf (.ref i) >>= _) _ _ _)
 refine Qaq (draw (gi.ext g.extBut D.i1z) (ga.ext g.extBut D.l1z) ex λh2 i2 h=>Qgq ?_)
 have Z:IsPair h2 O u v:=h.extBut _ _ D.TOi1 (g.extBut _ _ D.TOz gO)
 refine Qaq<|wpAny_seqItems Z rfl<|Qaq (wpAny_updateSeq_pair Z λh3 J l=>Qaq<|wpAny_letGo<|Qgq ?_)
 replace J:IsPair h3 O x v:=J
 refine Qaq<|Qaq<|wpAny_onRaise ?_
 refine(?_:wpAny _ _ (Builtin.SmallTypes.nextOf (.ref j) >>= _) _ _ _)
 refine Qaq (draw (((gj.ext g.extBut D.i2z).ext h.extBut D.i12.symm).ext l.extBut D.TOi2.symm) (((gb.ext g.extBut D.l2z).ext h.extBut D.l2i1).ext l.extBut D.l2TO) ey λh4 j4 n=>Qgq ?_)
 have U:IsPair h4 O x v:=n.extBut _ _ D.TOi2 J
 refine Qaq<|wpAny_seqItems U rfl<|Qaq (wpAny_updateSeq_pair U λd F p=>Qaq<|wpAny_letGo<|Qgq<|Qgq ?_)
 replace F:IsPair d O x y:=F
 refine Qaq<|wpAny_seqItems F rfl<|Qaq<|wpAny_newTuple ?_
 have W:d.objs.size=s.heap.objs.size:=by rw[p.1,n.1,l.1,h.1,g.1]
 have P:wN d z T O .ellipsis (.bool false):=p.extBut _ _ D.TOz.symm (n.extBut _ _ D.i2z.symm<|l.extBut _ _ D.TOz.symm<|h.extBut _ _ D.i1z.symm N)
 have r5:Zp.Rest z O i j s.heap d:=λc o f G M K e=>p.extBut _ _ G (n.extBut _ _ K<|l.extBut _ _ G<|h.extBut _ _ M<|g.extBut _ _ f e)
 have i5:It t d i a (k+1):=((i2.ext l.extBut D.TOi1.symm).ext n.extBut D.i12).ext p.extBut D.TOi1.symm
 have j5:It t2 d j b (k+1):=j4.ext p.extBut D.TOi2.symm
 have Y:z<d.objs.size:=Qiq P
 refine(?_:wpAny _ _ (Builtin.SmallTypes.ownedTupleHandOut (.ref z) (.ref d.objs.size) >>= _) _ _ _)
 refine Qaq ?_
 unfold Builtin.SmallTypes.ownedTupleHandOut
 have z6:wN (d.push {cls:=.type "tuple",data:=.seq #[x,y]}) z T O .ellipsis (.bool false):=Qcq _ P
 refine Qaq (wpAny_setField_rec z6 (by simp) λh7 I S=> ?_)
 replace I:wN h7 z T O (rawInt d.objs.size) (.bool false):=I
 refine wpAny_setField_rec I (by simp) λC B X=> ?_
 replace B:wN C z T O (rawInt d.objs.size) (.bool false):=B
 have H:∀c o,c≠z->d.get? c=some o->C.get? c=some o:=λc o f e=>X.extBut _ _ f (S.extBut _ _ f<|Qcq _ e)
 have R:IsPair C d.objs.size x y:=X.extBut _ _ (Nat.ne_of_gt Y) (S.extBut _ _ (Nat.ne_of_gt Y)<|Qrq _ rfl)
 rw[W] at B R
 refine Qgq ⟨_,rfl,?_⟩
 refine(?_:Q (.ref d.objs.size) _)
 rw[W]
 exact q C B (H _ _ D.TOz F) (i5.at λo e=>H _ o D.i1z e) (j5.at λo e=>H _ o D.i2z e) R λc o f G M K e=>H c o f (r5 c o f G M K e)
def alive{Q:Option Obj->Shared->Prop}(h:Q (s.heap.get? α) s):wpAny (model prog w) A (loadIfAlive α) Q E s:=λ_ _ _=>h
def again(D:ZipApart z T O i j a b){p:Addr}{op:Obj}{n:Value}{Q:Value->Shared->Prop}(g:wN s.heap z T O (rawInt p) n)(X:s.heap.get? p=some op)(Z:IsPair s.heap T (.ref i) (.ref j))(gi:It t s.heap i a k)(M:It t2 s.heap j b k)
  (R:Sq t s.heap a xs) (N:Sq t2 s.heap b ys) (ex:xs[k]?=some x) (ey:ys[k]?=some y)
  (q:∀h',wN h' z T O (rawInt p) (.bool true)->It t h' i a (k+1)->It t2 h' j b (k+1)->IsPair h' s.heap.objs.size x y->Zp.Rest z O i j s.heap h'->Q (.ref s.heap.objs.size) {s with heap:=h'}):
  wpAny (model prog w) A (Builtin.«zip.__next__» ⟨[.ref z],[]⟩) (λH F=>∃r,H=.done (.ret r)/\Q r F) E s:=by
 refine(?_:wpAny _ _ (field (.ref z) 2 >>= _) _ _ _)
 refine Qaq<|QMq g rfl (x:=.bool false) rfl ?_
 refine(?_:wpAny _ _ (field (.ref z) 3 >>= _) _ _ _)
 refine Qaq<|QMq g rfl (x:=.ref T) rfl<|Qaq<|wpAny_seqItems Z rfl ?_
 refine(?_:wpAny _ _ (Builtin.SmallTypes.ownedTupleIsFree (.ref z) >>= _) _ _ _)
 refine Qaq ?_
 unfold Builtin.SmallTypes.ownedTupleIsFree
 refine Qaq<|QMq g rfl (x:=rawInt p) rfl ?_
 refine(?_:wpAny _ _ (loadIfAlive ((p:Int).toNat) >>= _) _ _ _)
 refine Qaq ?_
 rw[Int.toNat_natCast]
 refine alive ?_
 rw[X]
 refine(?_:wpAny _ _ (field (.ref z) 1 >>= _) _ _ _)
 refine Qaq<|QMq g rfl (x:=n) rfl ?_
 have J:wpAny (model prog w) A (if (n !=Value.bool true)=true then(do let _←setField (.ref z) 1 (.bool true);pure false) else pure false)
   (λr F=>r=false/\∃l,F={s with heap:=l}/\wN l z T O (rawInt p) (.bool true)/\Heap.SameBut z s.heap l) E s:=by
  by_cases c:(n !=Value.bool true)=true
  ·rw[Qhq c]
   exact Qaq (wpAny_setField_rec g (by simp) λl G d=>Qgq ⟨rfl,l,rfl,G,d⟩)
  ·rw[Quq c]
   have e:n=Value.bool true:=by simpa using c
   subst e
   exact Qgq ⟨rfl,s.heap,rfl,g,Heap.SameBut.refl _ _⟩
 refine QRq J (λr F I=> ?_) λ_ _ h=>h
 obtain⟨rfl,l,rfl,G,d⟩:=I
 simp only[Bool.false_eq_true,if_false]
 refine Qaq ?_
 simp only[List.forIn_toArray,List.forIn_cons,List.forIn_nil]
 refine Qaq<|Qaq<|QLq ?_
 refine(?_:wpAny _ _ (Builtin.SmallTypes.nextOf (.ref i) >>= _) _ _ _)
 refine Qaq (draw (gi.ext d.extBut D.i1z) (R.ext d.extBut D.l1z) ex λh2 S m=>Qgq<|Qgq ?_)
 refine Qaq<|Qaq<|QLq ?_
 refine(?_:wpAny _ _ (Builtin.SmallTypes.nextOf (.ref j) >>= _) _ _ _)
 refine Qaq (draw ((M.ext d.extBut D.i2z).ext m.extBut D.i12.symm) ((N.ext d.extBut D.l2z).ext m.extBut D.l2i1) ey λf W C=>Qgq<|Qgq<|Qgq ?_)
 refine Qaq<|wpAny_newTuple ?_ (by show 2<=_;decide)
 have U:f.objs.size=s.heap.objs.size:=by rw[C.1,m.1,d.1]
 have B:∀c o,f.get? c=some o->(f.push {cls:=.type "tuple",data:=.seq #[x,y]}).get? c=some o:=λc o e=>Qcq _ e
 have K:IsPair (f.push {cls:=.type "tuple",data:=.seq #[x,y]}) f.objs.size x y:=Qrq _ rfl
 have L:wN (f.push {cls:=.type "tuple",data:=.seq #[x,y]}) z T O (rawInt p) (.bool true):=B _ _ (C.extBut _ _ D.i2z.symm<|m.extBut _ _ D.i1z.symm G)
 refine Qgq ⟨_,rfl,?_⟩
 refine(?_:Q (.ref f.objs.size) _)
 rw[U] at K⊢
 exact q _ L ((S.ext C.extBut D.i12).at λo e=>B _ o e) (W.at λo e=>B _ o e) K λc o P c2 c3 Y e=>B c o (C.extBut _ _ Y<|m.extBut _ _ c3<|d.extBut _ _ P e)
def stop(D:ZipApart z T O i j a b)(M:A.handled=none)(d:wN s.heap z T O .none (.bool false))(J:IsPair s.heap T (.ref i) (.ref j))(N:It t s.heap i a k)(H:Sq t s.heap a xs)(ex:xs[k]?=none)
  (q:∀h' e,Zp.Rest z O i j s.heap h'->(∃o,h'.get? e=some o/\o.cls=.type "StopIteration")->E (.ref e) {s with heap:=h'}):
  wpAny (model prog w) A (Builtin.«zip.__next__» ⟨[.ref z],[]⟩) Q E s:=by
 refine(?_:wpAny _ _ (field (.ref z) 2 >>= _) _ _ _)
 refine Qaq<|QMq d rfl (x:=.bool false) rfl ?_
 refine(?_:wpAny _ _ (field (.ref z) 3 >>= _) _ _ _)
 refine Qaq<|QMq d rfl (x:=.ref T) rfl<|Qaq<|wpAny_seqItems J rfl ?_
 refine(?_:wpAny _ _ (Builtin.SmallTypes.ownedTupleIsFree (.ref z) >>= _) _ _ _)
 refine Qaq ?_
 unfold Builtin.SmallTypes.ownedTupleIsFree
 refine Qaq<|QMq d rfl (x:=.none) rfl<|Qgq ?_
 simp only[if_true]
 refine Qaq<|wpAny_rule<|Qaq<|QMq d rfl (x:=.ref O) rfl<|Qaq (wpAny_setField_rec d (by simp) λG h g=> ?_)
 replace h:wN G z T O .ellipsis (.bool false):=h
 refine Qaq ?_
 simp only[List.zipIdx_cons,List.zipIdx_nil,List.forIn_nil,List.forIn_cons]
 refine Qaq<|Qaq<|wpAny_onRaise ?_
 refine(?_:wpAny _ _ (Builtin.SmallTypes.nextOf (.ref i) >>= _) _ _ _)
 refine Qaq (KQ M (N.ext g.extBut D.i1z) (H.ext g.extBut D.l1z) ex λP e m L=> ?_)
 obtain⟨F,f,r⟩:=L
 have l:wN P z T O .ellipsis (.bool false):=m _ _ D.i1z.symm h
 have I:e≠z:=λn=>by rw[n,l] at f;cases f;simp at r
 exact wpAny_setField_rec l (by simp) λC _ B=>q C e (λc o p _ K _ n=>B.extBut _ _ p<|m _ _ K<|g.extBut _ _ p n) ⟨F,B.extBut _ _ I f,r⟩
def Oa(D:ZipApart z T O i j a b){p:Addr}{L:Obj}{l:Value}{Q:Fin->Shared->Prop}(P:A.handled=none)(d:wN s.heap z T O (rawInt p) l)(J:s.heap.get? p=some L)(K:IsPair s.heap T (.ref i) (.ref j))(R:It t s.heap i a k)(I:Sq t s.heap a xs)(ex:xs[k]?=none)
  (q:∀h' e,Zp.Rest z O i j s.heap h'->(∃o,h'.get? e=some o/\o.cls=.type "StopIteration")->E (.ref e) {s with heap:=h'}):
  wpAny (model prog w) A (Builtin.«zip.__next__» ⟨[.ref z],[]⟩) Q E s:=by
 refine(?_:wpAny _ _ (field (.ref z) 2 >>= _) _ _ _)
 refine Qaq<|QMq d rfl (x:=.bool false) rfl ?_
 refine(?_:wpAny _ _ (field (.ref z) 3 >>= _) _ _ _)
 refine Qaq<|QMq d rfl (x:=.ref T) rfl<|Qaq<|wpAny_seqItems K rfl ?_
 refine(?_:wpAny _ _ (Builtin.SmallTypes.ownedTupleIsFree (.ref z) >>= _) _ _ _)
 refine Qaq ?_
 unfold Builtin.SmallTypes.ownedTupleIsFree
 refine Qaq<|QMq d rfl (x:=rawInt p) rfl ?_
 refine(?_:wpAny _ _ (loadIfAlive ((p:Int).toNat) >>= _) _ _ _)
 refine Qaq ?_
 rw[Int.toNat_natCast]
 refine alive ?_
 rw[J]
 refine(?_:wpAny _ _ (field (.ref z) 1 >>= _) _ _ _)
 refine Qaq<|QMq d rfl (x:=l) rfl ?_
 have B:wpAny (model prog w) A (if (l !=Value.bool true)=true then(do let _←setField (.ref z) 1 (.bool true);pure false) else pure false)
   (λr F=>r=false/\∃f,F={s with heap:=f}/\wN f z T O (rawInt p) (.bool true)/\Heap.SameBut z s.heap f) E s:=by
  by_cases c:(l !=Value.bool true)=true
  ·rw[Qhq c]
   exact Qaq (wpAny_setField_rec d (by simp) λf C g=>Qgq ⟨rfl,f,rfl,C,g⟩)
  ·rw[Quq c]
   have e:l=Value.bool true:=by simpa using c
   subst e
   exact Qgq ⟨rfl,s.heap,rfl,d,Heap.SameBut.refl _ _⟩
 refine QRq B (λr F m=> ?_) λ_ _ h=>h
 obtain⟨rfl,f,rfl,C,g⟩:=m
 simp only[Bool.false_eq_true,if_false]
 refine Qaq ?_
 simp only[List.forIn_toArray,List.forIn_cons,List.forIn_nil]
 refine Qaq<|Qaq<|QLq ?_
 refine(?_:wpAny _ _ (Builtin.SmallTypes.nextOf (.ref i) >>= _) _ _ _)
 refine Qaq (KQ P (R.ext g.extBut D.i1z) (I.ext g.extBut D.l1z) ex λS e G N=> ?_)
 exact q S e (λc o H _ M _ n=>G _ _ M<|g.extBut _ _ H n) N
def Zs(h:Heap)(z T O i j:Addr):Prop:=wN h z T O .none (.bool false)/\(∃u v,IsPair h O u v)\/∃(p:Addr) (c:Obj) (d:Value),wN h z T O (rawInt (p:Nat)) d/\h.get? p=some c/\p≠z/\p≠O/\p≠i/\p≠j
def Zs.but{h h':Heap}(g:Zs h z T O i j)(f:∀c o,c≠S->h.get? c=some o->h'.get? c=some o)(e:z≠S)(m:O≠S)(B:∃o,h'.get? S=some o):Zs h' z T O i j:=by
 rcases g with⟨d,u,v,F⟩|⟨p,C,l,d,r,n⟩
 ·exact .inl ⟨f _ _ e d,u,v,f _ _ m F⟩
 ·by_cases c:p=S
  ·subst c
   obtain⟨o,q⟩:=B
   exact .inr ⟨p,o,l,f _ _ e d,q,n⟩
  ·exact .inr ⟨p,C,l,f _ _ e d,f _ _ c r,n⟩
def HD(D:ZipApart z T O i j a b){Q:Option Value->Shared->Prop}(d:Zs s.heap z T O i j)(M:IsPair s.heap T (.ref i) (.ref j))(C:It t s.heap i a k)(m:It t2 s.heap j b k)
  (J:Sq t s.heap a xs) (G:Sq t2 s.heap b ys) (ex:xs[k]?=some x) (P:ys[k]?=some y)
  (q:∀h',Zs h' z T O i j->It t h' i a (k+1)->It t2 h' j b (k+1)->IsPair h' s.heap.objs.size x y->Zp.Rest z O i j s.heap h'->Q (some<|.ref s.heap.objs.size) {s with heap:=h'}):
  wpAny (model prog w) A (pyNext<|.ref z) Q E s:=by
 unfold pyNext
 have l:∀{c o},s.heap.get? c=some o->s.heap.objs.size≠c:=λe=>Nat.ne_of_gt (Qiq e)
 obtain⟨X,S,_⟩:=C.obj
 obtain⟨Y,W,_⟩:=m.obj
 rcases d with⟨d,u,v,R⟩|⟨p,U,f1,d,L,K,I,N,H⟩
 ·have f:s.TypeIs (.ref z) "zip":=⟨_,d,rfl⟩
  exact Qaq (wpAny_attempt (QiQ (name:=Str.ofString "__next__") f F.slot_zip_next (wpAny_call_entry F.slot_zip_next f F.entry_zip_next
   (item D d M R C m J G ex P λh' B Z r n h g=>Qgq (q h' (.inr ⟨_,_,_,B,h,l d,l R,l S,l W⟩) r n h g)) (F.args_zip_next_1 _))))
 ·have f:s.TypeIs (.ref z) "zip":=⟨_,d,rfl⟩
  exact Qaq (wpAny_attempt (QiQ (name:=Str.ofString "__next__") f F.slot_zip_next (wpAny_call_entry F.slot_zip_next f F.entry_zip_next
   (again D d L M C m J G ex P λh' B r n h g=>Qgq (q h' (.inr ⟨p,U,_,B,g _ _ K I N H L,K,I,N,H⟩) r n h g)) (F.args_zip_next_1 _))))
def BO(D:ZipApart z T O i j a b){Q:Option Value->Shared->Prop}(m:A.handled=none)(c:Zs s.heap z T O i j)(l:IsPair s.heap T (.ref i) (.ref j))(n:It t s.heap i a k)(h:Sq t s.heap a xs)(ex:xs[k]?=none)
  (q:∀h',Zp.Rest z O i j s.heap h'->Q none {s with heap:=h'}):wpAny (model prog w) A (pyNext<|.ref z) Q E s:=by
 unfold pyNext
 rcases c with⟨c,u,v,G⟩|⟨p,C,H,c,B,_⟩
 ·have d:s.TypeIs (.ref z) "zip":=⟨_,c,rfl⟩
  exact Qaq (wpAny_attempt (QiQ (name:=Str.ofString "__next__") d F.slot_zip_next (wpAny_call_entry F.slot_zip_next d F.entry_zip_next
   (stop D m c l n h ex λh' e r ⟨o,f,g⟩=>Qaq (wpAny_isInstance (T:="StopIteration") (b:=true) ⟨o,f,g⟩ isSubtype_stop (Qgq (q _ r)))) (F.args_zip_next_1 _))))
 ·have d:s.TypeIs (.ref z) "zip":=⟨_,c,rfl⟩
  exact Qaq (wpAny_attempt (QiQ (name:=Str.ofString "__next__") d F.slot_zip_next (wpAny_call_entry F.slot_zip_next d F.entry_zip_next
   (Oa D m c B l n h ex λh' e r ⟨o,f,g⟩=>Qaq (wpAny_isInstance (T:="StopIteration") (b:=true) ⟨o,f,g⟩ isSubtype_stop (Qgq (q _ r)))) (F.args_zip_next_1 _))))
end
def Pf(t:Bool):String:=if t=true then "tuple_iterator" else "list_iterator"
abbrev H1(t:Bool)(h:Heap)(a:Addr):Heap:=h.push {cls:=.type (Pf t),data:=.fields #[.ref a,.int 0 0]}
abbrev H2(t t2:Bool)(h:Heap)(a b:Addr):Heap:=(H1 t h a).push {cls:=.type (Pf t2),data:=.fields #[.ref b,.int 0 0]}
abbrev H3(t t2:Bool)(h:Heap)(a b:Addr):Heap:=(H2 t t2 h a b).push {cls:=.type "tuple",data:=.seq #[.ref h.objs.size,.ref (H1 t h a).objs.size]}
abbrev H4(t t2:Bool)(h:Heap)(a b:Addr):Heap:=(H3 t t2 h a b).push {cls:=.type "tuple",data:=.seq #[.none,.none]}
abbrev H5(t t2:Bool)(h:Heap)(a b:Addr):Heap:=(H4 t t2 h a b).push {cls:=.type "zip",data:=.fields #[.none,.bool false,.bool false,.ref (H2 t t2 h a b).objs.size,.ref (H3 t t2 h a b).objs.size]}
def Sq.push(g:Sq t h a xs)(o:Obj):Sq t (h.push o) a xs:=g.at λ_ e=>Qcq _ e
def FX(t t2:Bool)(a b:Addr)(xs ys:Array Value):Meets (Builtin.«zip.__new__» ⟨[.type "zip",.ref a,.ref b],[]⟩) (λ_ R s=>Sq t s.heap a xs/\Sq t2 s.heap b ys/\R (.ok (.ret (.ref (H4 t t2 s.heap a b).objs.size))) {s with heap:=H5 t t2 s.heap a b}):=
 .of_wp λm w A R s h=>by
  obtain⟨i,g,d,e,f⟩:=s
  obtain⟨l,n,h⟩:=h
  have o:=sub_zip
  have c:=n.push {cls:=.type (Pf t),data:=.fields #[.ref a,.int 0 0]}
  cases t <;>cases t2
  ·have j:Heap.IsList (Shared.heap ⟨i,g,d,e,f⟩) a xs:=l
   have k:Heap.IsList (Shared.heap ⟨i.push {cls:=.type "list_iterator",data:=.fields #[.ref a,.int 0 0]},g,d,e,f⟩) b ys:=c
   wp_walk using wpAny_pyIter_list j,wpAny_pyIter_list k
   exact⟨_,rfl,h⟩
  ·have j:Heap.IsList (Shared.heap ⟨i,g,d,e,f⟩) a xs:=l
   have k:Heap.IsTuple (Shared.heap ⟨i.push {cls:=.type "list_iterator",data:=.fields #[.ref a,.int 0 0]},g,d,e,f⟩) b ys:=c
   wp_walk using wpAny_pyIter_list j,wpAny_pyIter_tuple k
   exact⟨_,rfl,h⟩
  ·have j:Heap.IsTuple (Shared.heap ⟨i,g,d,e,f⟩) a xs:=l
   have k:Heap.IsList (Shared.heap ⟨i.push {cls:=.type "tuple_iterator",data:=.fields #[.ref a,.int 0 0]},g,d,e,f⟩) b ys:=c
   wp_walk using wpAny_pyIter_tuple j,wpAny_pyIter_list k
   exact⟨_,rfl,h⟩
  ·have j:Heap.IsTuple (Shared.heap ⟨i,g,d,e,f⟩) a xs:=l
   have k:Heap.IsTuple (Shared.heap ⟨i.push {cls:=.type "tuple_iterator",data:=.fields #[.ref a,.int 0 0]},g,d,e,f⟩) b ys:=c
   wp_walk using wpAny_pyIter_tuple j,wpAny_pyIter_tuple k
   exact⟨_,rfl,h⟩
section
variable{prog:Program}{w:World}{A:Around}{E:Value->Shared->Prop}{s:Shared}
def KM{Q:Value->Shared->Prop}(r:Sq t s.heap a xs)(p:Sq t2 s.heap b ys)
  (q:∀h',wN h' (s.heap.objs.size+4) (s.heap.objs.size+2) (s.heap.objs.size+3) .none (.bool false)->IsPair h' (s.heap.objs.size+2) (.ref s.heap.objs.size) (.ref (s.heap.objs.size+1))->IsPair h' (s.heap.objs.size+3) .none .none→
   It t h' s.heap.objs.size a 0->It t2 h' (s.heap.objs.size+1) b 0->(∀c o,s.heap.get? c=some o->h'.get? c=some o)->Q (.ref (s.heap.objs.size+4)) {s with heap:=h'}):
  wpAny (model prog w) A (call (.type "zip") [.ref a,.ref b]) Q E s:=by
 refine callType_new F.called_zip (by decide) (F.typeCall_zip_2 _ _) (F.newCall_zip_2 _ _) (λe=>F.args_object_init_3 e _ _) F.entry_zip_new (FX t t2 a b xs ys) ⟨r,p,?_⟩
 have g:(H1 t s.heap a).objs.size=s.heap.objs.size+1:=Heap.size_push ..
 have d:(H2 t t2 s.heap a b).objs.size=s.heap.objs.size+2:=by rw[Heap.size_push,g]
 have f:(H3 t t2 s.heap a b).objs.size=s.heap.objs.size+3:=by rw[Heap.size_push,d]
 have j:(H4 t t2 s.heap a b).objs.size=s.heap.objs.size+4:=by rw[Heap.size_push,f]
 have h:(H5 t t2 s.heap a b).get? (H4 t t2 s.heap a b).objs.size=some _:=Qrq _ rfl
 have l:(H5 t t2 s.heap a b).get? (H3 t t2 s.heap a b).objs.size=some _:=Qcq _ (Qrq _ rfl)
 have k:(H5 t t2 s.heap a b).get? (H2 t t2 s.heap a b).objs.size=some _:=Qcq _ (Qcq _<|Qrq _ rfl)
 have i:(H5 t t2 s.heap a b).get? (H1 t s.heap a).objs.size=some _:=Qcq _ (Qcq _<|Qcq _<|Qrq _ rfl)
 have m:(H5 t t2 s.heap a b).get? s.heap.objs.size=some _:=Qcq _ (Qcq _<|Qcq _<|Qcq _<|Qrq _ rfl)
 refine(?_:_/\_)
 rw[d,f,j] at h
 rw[g,d] at k
 rw[f] at l
 rw[g] at i
 rw[j]
 refine⟨⟨_,h,rfl⟩,q _ h k l ?_ ?_ λc o n=>Qcq _<|Qcq _<|Qcq _<|Qcq _<|Qcq _ n⟩
 ·cases t <;>exact⟨_,m,rfl,rfl⟩
 ·cases t2 <;>exact⟨_,i,rfl,rfl⟩
end
def rA:typeLookup (.type "zip") "__getattr__"=pure none:=by rw[typeLookup_type,builtinLookup_eq_fast];kernel_rfl
def lC:entryFor table "zip.__getattribute__"=some Builtin.«object.__getattribute__»:=
 entryFor_alias (id':="object.__getattribute__") (by kernel_rfl) (by decide +kernel) (by decide +kernel) (by kernel_rfl)
def ug:typeLookup (Value.type "zip") (Str.ofString "keys")=pure none:=by
 rw[typeLookup_type,builtinLookup_eq_fast]
 rfl
def vq(a:Addr)(fs:Array Value)(name:Str)(u:Tok)(e:typeLookup (.type "zip") name=pure none)(b:(["__module__","__name__","__qualname__","__doc__","__annotations__"]:List Str).contains name=false)(hsz:name.length+100<=sizeLine:=by size_fits):
  Meets (Builtin.«object.__getattribute__» ⟨[.ref a,.str name u],[]⟩) (λA R s=>s.heap.get? a=some {cls:=.type "zip",dict:=none,data:=.fields fs,slots:= #[]}/\raisesAttr (.ref a) name A R s):=
 Meets.of_wp λf w A R s c=>by
  obtain⟨j,g,d,h,i⟩:=s
  obtain⟨k,c⟩:=c
  have l:(⟨j,g,d,h,i⟩:Shared).TypeIs (.ref a) "zip":=⟨_,k,rfl⟩
  unfold Builtin.«object.__getattribute__»
  repeat (any_goals (first|assumption|wp_step))
  simp only[b,Bool.false_eq_true,if_false]
  repeat (any_goals (first|assumption|wp_step))
  exact wpAny_raiseAttrError c.1 c.2 (attrMsg_fits (by decide +kernel) hsz)
def FE{prog:Program}{w:World}{A:Around}{E:Value->Shared->Prop}{s:Shared}{a:Addr}{fs:Array Value}{Q:Option Value->Shared->Prop}
  (j:s.heap.get? a=some {cls:=.type "zip",dict:=none,data:=.fields fs,slots:= #[]}) (v:A.handled=none)
  (h:∀(h':Heap) (i:Nat),(∀b o,s.heap.get? b=some o->h'.get? b=some o)->Q none {s with heap:=h',toks:=i}):
  wpAny (model prog w) A (getAttr? (.ref a) (Str.ofString "keys")) Q E s:=by
 obtain⟨t,g,d,i,k⟩:=s
 have n:∀x,Shared.TypeIs ⟨t,g,d,x,k⟩ (.ref a) "zip":=λx=>⟨_,j,rfl⟩
 have m:=sub_AttributeError
 have p:=F.slot_zip_getattribute.lookup
 have q:=F.slot_zip_getattribute.bind (Value.ref a)
 have r:=rA
 unfold getAttr? mkText getAttrBy? getAttrBy
 refine Qaq (Qaq (wpAny_fresh' (Qgq (Qaq (wpAny_attempt (QLq ?_))))))
 unfold typeOf
 refine Qaq (Qaq (wpAny_loadPart' j (Qgq (Qaq (wpAny_of_eq p (QgQ rfl ?_))))))
 unfold getAttrByItsOwn hookBefore
 refine Qaq (QgQ rfl (Qgq (Qaq (wpAny_attempt (QLq ?_)))))
 unfold callGetattribute
 refine QgQ rfl ?_
 unfold boundAndCalled
 refine Qaq (wpAny_of_eq q ?_)
 refine call_meets F.slot_zip_getattribute (n (i+1)) lC (F.args_zip_getattribute_2 (Value.ref a) _) (vq a fs (Str.ofString "keys") i ug (by decide +kernel) (by decide +kernel)) ⟨j,v,λh' f e c=> ?_⟩
 obtain⟨y,z,u⟩:=c.there
 have l:Shared.TypeIs ⟨h',g,d,f,k⟩ (.ref e) "AttributeError":=⟨_,u,rfl⟩
 show wpAny _ _ (getattributeRaised _ _ _ _ _ _ _) _ _ _
 unfold getattributeRaised
 refine Qaq (wpAny_isInstance l m (wpAny_ite_true rfl ?_))
 unfold hookBehind hookOrError
 refine Qaq (QgQ rfl (wpAny_of_eq r ?_))
 show wpAny _ _ (attributeErrorLeaves _ _ _ _ _) _ _ _
 unfold attributeErrorLeaves
 refine wpAny_ite_true rfl (wpAny_throw ?_)
 exact Qaq (wpAny_isInstance l m (wpAny_ite_true rfl (Qgq (h h' f c.keeps))))
def xv{prog:Program}{w:World}{A:Around}{E:Value->Shared->Prop}{s:Shared}{z:Addr}{fs:Array Value}{Q:Value->Shared->Prop}
  (l:s.heap.get? z=some {cls:=.type "zip",dict:=none,data:=.fields fs,slots:= #[]}) (m:A.handled=none)
  (h:∀(h':Heap) (d:Nat),(∀b o,(s.heap.push {cls:=.type "dict",data:=.dict #[]}).get? b=some o->h'.get? b=some o)→
   wpAny (model prog w) A.in1.in1 (pyIter (.ref z)) (λit f=>codeAny (model prog w) A.in1 (.builtin "dict.update.loop" {pos:= [.ref s.heap.objs.size,it,rawInt 0,.none]}) (wants (λr a=>r=.none/\Q (.ref s.heap.objs.size) a) E) f) E {s with heap:=h',toks:=d}):
  wpAny (model prog w) A (call (.type "dict") [.ref z]) Q E s:=by
 refine Dk.Be ?_
 have k:=Qrq s.heap (o:={cls:=.type "dict",data:=.dict #[]}) rfl
 have g:Shared.TypeIs {s with heap:=s.heap.push {cls:=.type "dict",data:=.dict #[]}} (.ref s.heap.objs.size) "dict":=⟨_,k,rfl⟩
 have c:=Qcq {cls:=.type "dict",data:=.dict #[]} l
 have i:Shared.TypeIs {s with heap:=s.heap.push {cls:=.type "dict",data:=.dict #[]}} (.ref z) "zip":=⟨_,c,rfl⟩
 unfold Builtin.«dict.__init__» Builtin.Dict.selfAndRest
 refine Qaq (Qaq (wpAny_notOrdered_dict g ?_))
 refine Qaq (Qgq (Qgq ?_))
 show wpAny _ _ (Builtin.Dict.updateFrom _ _ _ _ _) _ _ _
 unfold Builtin.Dict.updateFrom
 refine Qaq (wpAny_typeOf i (wpAny_ite_true (by decide +kernel) (Qaq (FE c (by simpa using m) λh' d j=> ?_))))
 refine wpAny_ite_true rfl ?_
 refine Qaq (wpAny_rule (Qaq (QRq (h h' d j) (λit f q=> ?_) λe f q=>q)))
 exact Qgq ⟨plainId_quiet (by decide +kernel) _,q⟩
end Zq
namespace Zq
open PySem Dk
section
variable{prog:Program}{w:World}{K:Type}[DecidableEq K]{knd:KeyKind prog w K}{z T O i j a b S:Addr}{t t2:Bool}{xs ys:Array Value}
def C5{A:Around}{R:Result->Shared->Prop}(hA:A.in1.handled=none)(D:ZipApart z T O i j a b)(nS:S≠z/\S≠T/\S≠O/\S≠i/\S≠j/\S≠a/\S≠b)(a4:a≠T/\b≠T)(f:Nat->K)(q:∀(n:Nat) v,xs[n]?=some v->knd.is (f n) v=true)(a3:xs.size<=ys.size)(hn:xs.size<=sizeLine):
  ∀ (m n:Nat) (c:Int) (s:Shared),xs.size-n=m->n<=xs.size->Zs s.heap z T O i j->IsPair s.heap T (.ref i) (.ref j)->It t s.heap i a n->It t2 s.heap j b n->Sq t s.heap a xs->Sq t2 s.heap b ys->Heap.DictOf knd s.heap S (LF f (λn=>ys.getD n .none) n)→
    (∀h' L,Heap.DictOf knd h' S (LF f (λn=>ys.getD n .none) xs.size)->(∀c o,c≠z->c≠O->c≠i->c≠j->c≠S->s.heap.get? c=some o->h'.get? c=some o)->R (.ok (.ret .none)) {s with heap:=h',toks:=L})→
    codeAny (model prog w) A (.builtin "dict.update.loop" {pos:= [.ref S,.ref z,rawInt c,.none]}) R s:=by
 obtain⟨n1,n2,n3,n4,N,n6,n7⟩:=nS
 intro m
 induction m with
 | zero=>
   intro n c s hm a2 Q F gi gj C M Z h
   have e:n=xs.size:=by omega
   subst e
   refine codeAny_builtin lN ?_
   rw[Around.under_plainId ik]
   show wpAny _ _ (do let __x←pyNext (.ref z);_) _ _ _
   refine Qaq (BO D hA Q F gi C (by simp) λh' r=> ?_)
   refine Qaq (Qgq (Qgq (h h' s.toks ?_ λc o g p l k _ e=>r c o g p l k e)))
   obtain⟨o,G,U,J,h2⟩:=Z
   exact⟨o,G,U,r _ _ n1 n3 n4 N J,h2⟩
 | succ m ih=>
   intro n c s hm a2 Q F gi gj C M Z h
   have u:n<xs.size:=by omega
   have ex:xs[n]?=some xs[n]:=by simp[u]
   have ey:ys[n]?=some ys[n]:=by simp[show n<ys.size by omega]
   refine codeAny_builtin lN ?_
   rw[Around.under_plainId ik]
   show wpAny _ _ (do let __x←pyNext (.ref z);_) _ _ _
   refine Qaq (HD D Q F gi gj C M ex ey λhp a1 Y I gp r=> ?_)
   have W:Heap.DictOf knd hp S (LF f (λn=>ys.getD n .none) n):=by
     obtain⟨o,G,U,J,h2⟩:=Z
     exact⟨o,G,U,r _ _ n1 n3 n4 N J,h2⟩
   refine Qaq (QLq (Qaq (wpAny_tryCatch ?_)))
   unfold Builtin.Dict.pairItems
   refine Qaq (wpAny_typeOf (T:="tuple") ⟨_,gp,rfl⟩ (wpAny_ite_true rfl (Qaq ?_)))
   unfold seqItems?
   refine Qaq (wpAny_load' gp (Qgq (Qgq (QLq (wpAny_dictSet_pairs (q n _ ex) W (λh' x hs=> ?_) (QAq (Ep f _ n) (by omega)))))))
   have ev:ys.getD n .none=ys[n]:=by simp[Array.getD,show n<ys.size by omega]
   have y:∀c o,c≠S->hp.get? c=some o->h'.get? c=some o:=λc o hc e=>by rw[hs.2 c hc];exact e
   have d:∀c o,c≠z->c≠O->c≠i->c≠j->c≠S->s.heap.get? c=some o->h'.get? c=some o:=λc o g p l k B e=>y c o B (r c o g p l k e)
   have a0:∃o,h'.get? S=some o:=by obtain⟨o,_,_,e,_⟩:=x;exact⟨o,e⟩
   have H:Heap.DictOf knd h' S (LF f (λn=>ys.getD n .none) (n+1)):=by
     show Heap.DictOf knd h' S (stored _ (f n) (ys.getD n .none))
     rw[ev]
     exact x
   refine Qgq ⟨plainId_quiet ik _,ih (n+1) (c+1) _ (by omega) u (a1.but y n1.symm n3.symm a0) ?_ (Y.at λo e=>y _ o n4.symm e) (I.at λo e=>y _ o N.symm e) ?_ ?_ H λP L X k4=>h P L X λc o g p l k B e=>k4 c o g p l k B (d c o g p l k B e)⟩
   · exact d _ _ D.TIz D.TITO D.TIi1 D.TIi2 n2.symm F
   · exact C.at λo e=>d _ o D.l1z D.l1TO D.l1i1 D.l1i2 n6.symm e
   · exact M.at λo e=>d _ o D.l2z D.l2TO D.l2i1 D.l2i2 n7.symm e
end
end Zq
namespace L2
open PySem PySem.Spec PyProof.Rows Zq
section
variable{X:Cx}
def Fq(K:PySem.W.Frag)(t:Bool)(H:Hp)(a:Addr)(xs:List V):Prop:=if t=true then jo K H a xs else je K H a xs
def Inv.sq{c:List (Addr×Obj)}{d:St}{H:Hp}{s:Shared}{t:Bool}{a:Addr}{xs:List V}(I:Inv X c d H s)(h:Fq X.K t H a xs):∃b:List Value,bI xs b/\Sq t s.heap a b.toArray/\xs.length<=sizeLine:=by
 cases t with
 | true=>
   obtain⟨b,r,p,z⟩:=I.tuple h
   exact⟨b,r,(show s.heap.IsTuple a b.toArray from p),z⟩
 | false=>
   obtain⟨b,r,p,z⟩:=I.list h
   exact⟨b,r,(show s.heap.IsList a b.toArray from p.isList),z⟩
def Sq.lt{t:Bool}{h:Heap}{a:Addr}{xs:Array Value}(g:Sq t h a xs):a<h.objs.size:=by
 cases t with
 |true=>obtain⟨o,e,_⟩:=(show h.IsTuple a xs from g);exact Qiq e
 |false=>obtain⟨o,e,_⟩:=(show h.IsList a xs from g);exact Qiq e
def LB(K:PySem.W.Frag):List V->Hp->VK->Prop:=λe H Q=>∃(t f:Bool) (a b:Addr) (d:List Key) (c:List V),e= [.ref a,.ref b]/\Fq K t H a (d.map kV)/\Fq K f H b c/\d.length=c.length/\∀p,H p=none->Q (.ref p) (upd H p (.dK (kH [] (d.zip c))))
def Dq{x y:Expr}{ta:TA}{p1 R c1 P:Pos}(C:X.calm=true)(a0:Gl X "dict")(a1:X.mg "dict"=none)(hg:Gl X "zip")(hm:X.mg "zip"=none)(ha:PA X [x,y] ta)(hs:starEach [x,y] X.env= [(false,eval x X.env),(false,eval y X.env)]:=by rfl)(L:starEach [y] X.env= [(false,eval y X.env)]:=by rfl)
  (he:starEach [Expr.Call (.Name "zip" R) [x,y] [] P] X.env= [(false,eval (Expr.Call (.Name "zip" R) [x,y] [] P) X.env)]:=by rfl):
  PE X (.Call (.Name "dict" p1) [.Call (.Name "zip" R) [x,y] [] P] [] c1) (OS (LB X.K) ta):=by
 intro B s σ H Q I h
 refine wpAny_Call_Name_kw (pw I a0 a1 (by rfl) ?_)
 refine PyProof.Rows.callWith_type1 ?_ he rfl
 rw[he]
 show wpAny _ _ (spliced ((false,eval (Expr.Call (.Name "zip" R) [x,y] [] P) X.env)::backTo c1 (starEach [] X.env))) _ _ s
 refine Calls.spliced_cons ?_
 refine wpAny_Call_Name_kw (pw I hg hm (by rfl) ?_)
 refine PyProof.Rows.callWith_type1 (c_ (ha P B s σ H _ I h) λus j ⟨vs,H1,F,r1,q1⟩=> ?_) (by rw[hs,L]) (by rw[L];rfl)
 obtain⟨t,t2,a,b,d,ys,e,qa,qb,hl,q⟩:=q1
 subst e
 cases r1 with
 | cons r rr=>
   cases rr with
   | cons r' rr=>
     cases rr
     cases r
     cases r'
     obtain⟨p,ra,Z,za⟩:=F.sq qa
     obtain⟨m,rb,pb,zb⟩:=F.sq qb
     have lx:=Sq.lt Z
     have ly:=Sq.lt pb
     have la:=ra.length
     have lb:=rb.length
     rw[lQm] at la
     refine Zq.KM Z pb λg S gT gO gi gj U=>Calls.spliced_nil ?_
     have I2:Inv X B σ H1 {j with heap:=g}:=F.kept (t':=j.toks) U
     refine Zq.xv S (F.ok.hd C) λY tk k2=> ?_
     have z:∀c o,g.get? c=some o->Y.get? c=some o:=λc o e=>k2 c o (Qcq _ e)
     have a5:Y.get? g.objs.size=some {cls:=.type "dict",data:=.dict #[]}:=k2 _ _ (Qrq g rfl)
     refine wpAny_pyIter_zip (z _ _ S) ?_
     have DD:=PyProof.Rows.zipApart_new lx ly
     have f:j.heap.objs.size+4<g.objs.size:=Qiq S
     have N:∀(n:Nat) k,d[n]?=some k->d.getD n (.inl 0)=k:=λn k e=>by rw[Qlq,e];rfl
     have G:∀c,c<j.heap.objs.size->c≠j.heap.objs.size+4/\c≠j.heap.objs.size+3/\c≠j.heap.objs.size/\c≠j.heap.objs.size+1/\c≠g.objs.size:=λc C=>
       ⟨Qwq (Qqq C (Nat.le_add_right _ _)),Qwq (Qqq C (Nat.le_add_right _ _)),Qwq C,Qwq (Qqq C (Nat.le_add_right _ _)),Qwq (Nat.lt_trans (Qqq C (Nat.le_add_right _ 4)) f)⟩
     refine Zq.C5 (knd:=cc X.prog X.w) (t:=t) (t2:=t2) (xs:=p.toArray) (ys:=m.toArray) (show X.A.in1.in1.handled=none from F.ok.hd C) DD ?_ ?_ (λn=>d.getD n (.inl 0)) ?_ (by simp;omega) (by simp;omega) p.toArray.size 0 0 _ rfl (Nat.zero_le _)
       (.inl ⟨z _ _ S,_,_,z _ _ gO⟩) (z _ _ gT) (gi.at λo e=>z _ o e) (gj.at λo e=>z _ o e) (Z.at λo e=>z _ o (U _ o e)) (pb.at λo e=>z _ o (U _ o e)) ?_ ?_
     · refine⟨Nat.ne_of_gt f,Nat.ne_of_gt (Nat.lt_trans ?_ f),Nat.ne_of_gt (Nat.lt_trans ?_ f),Nat.ne_of_gt (Nat.lt_trans ?_ f),Nat.ne_of_gt (Nat.lt_trans ?_ f),(G _ lx).2.2.2.2.symm,(G _ ly).2.2.2.2.symm⟩ <;>(show _<j.heap.objs.size+4) <;>omega
     · exact⟨Qwq (Qqq lx (Nat.le_add_right _ _)),Qwq (Qqq ly (Nat.le_add_right _ _))⟩
     · intro n v hv
       have M:p[n]?=some v:=by simpa using hv
       have hn:n<d.length:=by
         have:=(gQs.mp M).1
         omega
       have J:=gQe hn
       obtain⟨u,W,ru⟩:=ra.get (i:=n) (x:=kV d[n]) (by rw[gQm,J];rfl)
       rw[M] at W
       cases W
       show(cc X.prog X.w).is (d.getD n (.inl 0)) v=true
       rw[N n _ J]
       exact key_is ru _ _
     · obtain⟨o,es,ep,e1,e2⟩:=Heap.DictOf.new (knd:=cc X.prog X.w) g
       exact⟨o,es,ep,k2 _ _ e1,e2⟩
     · intro h3 a4 dd k3
       have a3:g.objs.size≠sysModules:=by
         have:=I2.big
         exact Nat.ne_of_gt this
       have le:j.heap.objs.size<=g.objs.size:=nQl (Nat.lt_of_le_of_lt (Nat.le_add_right _ 4) f)
       refine⟨rfl,.ref g.objs.size,_,F.laid (a:=g.objs.size) (o:=.dK (kH [] (d.zip ys))) (t':=a4) (h':=h3) (λc o e=> ?_) le (vZ ?_ (beq_eq_false_iff_ne.mpr a3) ?_ dd),rfl,q _ (F.hok.fresh le)⟩
       · obtain⟨o1,o2,o3,o4,o5⟩:=G c (Qiq e)
         exact k3 c o o1 o2 o3 o4 o5 (z c o (U c o e))
       · have:=jG (d.zip ys) []
         rw[QGq,List.length_zip] at this
         omega
       · have a2:∀n,n<=d.length->KV (kH [] ((d.zip ys).take n)) (Dk.LF (λn=>d.getD n (.inl 0)) (λn=>m.toArray.getD n .none) n):=by
           intro n
           induction n with
           |zero=>intro _;exact .nil
           | succ n ih=>
             intro hn
             have J:=gQe (l:=d) (i:=n) (by omega)
             have hy:=gQe (l:=ys) (i:=n) (by omega)
             obtain⟨u,W,ru⟩:=rb.get hy
             have ez:(d.zip ys)[n]?=some (d[n],ys[n]):=by rw[List.getElem?_zip_eq_some];exact⟨J,hy⟩
             have e3:(d.zip ys).take (n+1)=(d.zip ys).take n++ [(d[n],ys[n])]:=by rw[QYq,ez];rfl
             have eu:m.toArray.getD n .none=u:=by
               have:=(gQs.mp W)
               obtain⟨g,Y⟩:=this
               simp[Array.getD,g,Y]
             rw[e3]
             show KV (List.foldl _ [] ((d.zip ys).take n++ [(d[n],ys[n])])) (stored _ (d.getD n (.inl 0)) (m.toArray.getD n .none))
             rw[List.foldl_append,N n _ J,eu]
             exact(ih (by omega)).put d[n] ru
         have:=a2 d.length (Qmq _)
         have e4:(d.zip ys).take d.length=d.zip ys:=by
           have:(d.zip ys).length=d.length:=by rw[List.length_zip];omega
           rw[←this,QEq]
         rw[e4] at this
         have e5:p.toArray.size=d.length:=by simp;omega
         rw[e5]
         exact this
end
end L2
namespace Zq
open PySem
section
variable{prog:Program}{w:World}{A:Around}{E:Value->Shared->Prop}{s:Shared}{t t2:Bool}{z T O i j a b:Addr}{k:Nat}{xs ys:Array Value}{x y u v:Value}
def Gh(D:ZipApart z T O i j a b){Q:Option Value->Shared->Prop}(c:wN s.heap z T O .none (.bool false))(n:IsPair s.heap T (.ref i) (.ref j))(r:IsPair s.heap O u v)(C:It t s.heap i a k)(f:It t2 s.heap j b k)
  (l:Sq t s.heap a xs) (g:Sq t2 s.heap b ys) (ex:xs[k]?=some x) (p:ys[k]?=some y)
  (q:∀h',wN h' z T O (rawInt s.heap.objs.size) (.bool false)->IsPair h' O x y->It t h' i a (k+1)->It t2 h' j b (k+1)->IsPair h' s.heap.objs.size x y->Zp.Rest z O i j s.heap h'->Q (some (.ref s.heap.objs.size)) {s with heap:=h'}):
  wpAny (model prog w) A (pyNext (.ref z)) Q E s:=by
 have d:s.TypeIs (.ref z) "zip":=⟨_,c,rfl⟩
 unfold pyNext
 exact Qaq (wpAny_attempt (QiQ (name:=Str.ofString "__next__") d F.slot_zip_next (wpAny_call_entry F.slot_zip_next d F.entry_zip_next
  (item D c n r C f l g ex p λh' B G o h m e=>Qgq (q h' B G o h m e)) (F.args_zip_next_1 _))))
end
end Zq
namespace L2
open PySem PySem.Spec PyProof.Rows Zq
def Inv.sq_inj{X:Cx}{b:List (Addr×Obj)}{c:St}{H:Hp}{s:Shared}{t:Bool}{a:Addr}{xs ys:List V}(I:Inv X b c H s)(h:Fq X.K t H a xs)(h':Fq X.K t H a ys):xs=ys:=by
 cases t with
 |true=>exact I.tuple_inj h h'
 |false=>exact I.list_inj h h'
def QX(K:PySem.W.Frag)(t t2:Bool)(a b:Addr):It:=
  ⟨λi H=>∃c d x y,Fq K t H a c/\Fq K t2 H b d/\c[i]?=some x/\d[i]?=some y,
   λi H v e=>∃p,v=.ref p/\H p=none/\∀c d x y,Fq K t H a c->Fq K t2 H b d->c[i]?=some x->d[i]?=some y->e=upd H p (.tup [x,y]),
   λi H=>∃c,Fq K t H a c/\c.length<=i⟩
def Gm{P:Program}{w:World}{K:PySem.W.Frag}{B:List Expr}{x1:Nat}{tp:Pos}{t t2:Bool}{z T O i j a b:Addr}(D:ZipApart z T O i j a b):
  Turn P w K (.Tuple B x1 tp) (QX K t t2 a b) [z,T,O,i,j] z (λn h=>wN h z T O .none (.bool false)/\IsPair h T (.ref i) (.ref j)/\(∃u v,IsPair h O u v)/\Zq.It t h i a n/\Zq.It t2 h j b n) where
 mem:=by simp
 obj:=λn h ⟨f,g,⟨u,v,m⟩,p,q⟩ c d=>by
  simp at d
  rcases d with rfl|rfl|rfl|rfl|rfl
  ·exact⟨_,f,λv n=>by cases n⟩
  ·exact⟨_,g,λv n=>by cases n⟩
  ·exact⟨_,m,λv n=>by cases n⟩
  ·exact p.obj
  ·exact q.obj
 keep:=λn h h' ⟨f,g,⟨u,v,m⟩,p,q⟩ k=>⟨k z (by simp) _ f,k T (by simp) _ g,⟨u,v,k O (by simp) _ m⟩,p.at λo e=>k i (by simp) o e,q.at λo e=>k j (by simp) o e⟩
 item:=by
  rintro X hP S M d n l s σ H E I G ⟨f,g,⟨u,v,m⟩,p,q⟩ N
  subst hP S M
  obtain⟨xs,ys,x,y,F,qb,Y,hy⟩:=N
  obtain⟨R,Z,L,_⟩:=I.sq F
  obtain⟨a1,rb,pb,_⟩:=I.sq qb
  obtain⟨ux,ex,rx⟩:=Z.get Y
  obtain⟨uy,ey,ry⟩:=rb.get hy
  have C:∀{c o},s.heap.get? c=some o->c≠s.heap.objs.size:=λe=>Qwq (Qiq e)
  have A:∀c∈[z,T,O,i,j],c≠s.heap.objs.size:=λc d=>by
   obtain⟨oi,e1,_⟩:=p.obj
   obtain⟨oj,e2,_⟩:=q.obj
   simp at d
   rcases d with rfl|rfl|rfl|rfl|rfl
   ·exact C f
   ·exact C g
   ·exact C m
   ·exact C e1
   ·exact C e2
  refine Zq.Gh D f g m p q L pb (x:=ux) (y:=uy) (by simpa using ex) (by simpa using ey) λh1 z1 O1 i1 j1 n1 J=>⟨_,rfl,?_⟩
  have T1:=J _ _ D.TIz D.TITO D.TIi1 D.TIi2 g
  refine wpAny_letOwnedTupleGo_zip z1 λh2 z2 r=> ?_
  have I2:Inv X l σ (upd H s.heap.objs.size (.tup [x,y])) {s with heap:=h2}:=I.turnedNew (t':=s.toks) (fp:= [z,T,O,i,j]) G (λc o d e=> ?_) (Qmq _) ?_
  ·refine⟨.ref s.heap.objs.size,_,I2,rfl,⟨s.heap.objs.size,rfl,I.hok.fresh (Qmq _),λa2 a0 x' y' q1 q2 Q U=> ?_⟩,⟨z2,r.extBut _ _ D.TIz T1,⟨_,_,r.extBut _ _ D.TOz O1⟩,i1.ext r.extBut D.i1z,j1.ext r.extBut D.i2z⟩,λc d=> ?_⟩
   ·rw[I.sq_inj q1 F] at Q
    rw[I.sq_inj q2 qb] at U
    rw[Y] at Q
    rw[hy] at U
    cases Q
    cases U
    rfl
   ·rw[bx (A c d)]
    exact(G c d).1
  ·simp at d
   exact r.extBut _ _ d.1 (J c o d.1 d.2.2.1 d.2.2.2.1 d.2.2.2.2 e)
  ·exact⟨by show 2<=_;decide,[ux,uy],.cons rx (.cons ry .nil),_,r.extBut _ _ (λe=>A z (by simp) e.symm) n1,rfl,rfl,0,rfl⟩
 done:=by
  rintro X hP S M d n l s σ H E I G ⟨f,g,⟨u,v,m⟩,p,q⟩ N
  subst hP S M
  obtain⟨xs,F,Y⟩:=N
  obtain⟨R,Z,L,_⟩:=I.sq F
  have hl:=Z.length
  refine Zq.BO D (I.ok.hd d) (.inl ⟨f,u,v,m⟩) g p L (by simp;omega) λh1 J=>⟨rfl,I.turnedL (t':=s.toks) (fp:= [z,T,O,i,j]) G λc o d e=> ?_⟩
  simp at d
  exact J c o d.1 d.2.2.1 d.2.2.2.1 d.2.2.2.2 e
 self:=λ_ _ _ _ _ ⟨f,_⟩ h=>wpAny_pyIter_zip f h
section
variable{X:Cx}
def Q9(K:PySem.W.Frag)(g:TA):TI:=λd H R=>g d H λe H1=>∃(t c:Bool) (a b:Addr) (f h:List V),e= [.ref a,.ref b]/\Fq K t H1 a f/\Fq K c H1 b h/\R (QX K t c a b) H1
def JC{i:List Expr}{G:Nat}{L:Pos}{a b:Expr}{w:TA}{p pos:Pos}(M:Gl X "zip")(A:X.mg "zip"=none)(Z:PA X [a,b] w)(hs:starEach [a,b] X.env= [(false,eval a X.env),(false,eval b X.env)]:=by rfl)(d:starEach [b] X.env= [(false,eval b X.env)]:=by rfl):
  PI X (.Tuple i G L) (.Call (.Name "zip" p) [a,b] [] pos) (Q9 X.K w):=by
 intro f s P H R I h
 refine Call_ (pw I M A (by rfl) (PyProof.Rows.callWith_type1 (c_ (Z pos f s P H _ I h) λus n ⟨vs,H1,g,Q,U⟩=> ?_) (by rw[hs,d]) (by rw[d];rfl)))
 obtain⟨t,t2,x,y,xs,ys,e,F,J,q⟩:=U
 subst e
 cases Q with
 | cons r j=>
   cases j with
   | cons W j=>
     cases j
     cases r
     cases W
     obtain⟨a0,ra,l,_⟩:=g.sq F
     obtain⟨N,rb,m,_⟩:=g.sq J
     have C:=Sq.lt l
     have z:=Sq.lt m
     refine Zq.KM l m λh' o S Y gi B k=> ?_
     refine wpAny_pyIter_zip o ⟨_,_,_,_,H1,rfl,g.kept (t':=n.toks) k,Gm (PyProof.Rows.zipApart_new C z),⟨o,S,⟨_,_,Y⟩,gi,B⟩,λc u=> ?_,q⟩
     have v:n.heap.objs.size<=c:=by
       simp only[Qsq,QXq,or_false] at u
       rcases u with e|e|e|e|e <;>(rw[e];first|exact Qmq _|exact Nat.le_add_right _ _)
     exact g.fpOk v (g.hok.fresh v)
end
end L2
namespace DL
open PySem PySem.Spec PyProof.Rows L2
def DV.sqB{M:Md}{ρ:List Addr}{H:Hp}{a:Addr}{vs:List V}{t:Tag}(h:DV M ρ H a vs t):L2.Fq M.K (!t.isL) H a vs:=by
 cases c:t.isL with
 |true=>exact h.sqL c
 |false=>exact h.sqT c
def Cf(xs ys:List D):List D:=List.zipWith (λx y=>D.tup [x,y]) xs ys
open Classical in
def Iz(f g:fw):yb:=λa S=>(f a S).bind λ(p,c)=>(g a c).bind λ(r,b)=>if p.2.stays b p.1/\p.1.length<=r.1.length then some ((Cf p.1 r.1,λS=>p.2.stays S p.1/\r.2.stays S r.1),b) else none
section
variable{X:Cx}{a b c e:Expr}{pos:Pos}{st:Stmt}
def Qg{l:List Expr}{r:Nat}{tp p:Pos}{f g:fw}(hg:Gl X "zip")(hm:X.mg "zip"=none)(ha:PE X a (tQ (md X) f))(hb:PE X b (tQ (md X) g))(hs:starEach [a,b] X.env= [(false,eval a X.env),(false,eval b X.env)]:=by rfl)(k:starEach [b] X.env= [(false,eval b X.env)]:=by rfl):
  PI X (.Tuple l r tp) (.Call (.Name "zip" p) [a,b] [] pos) (tI (md X) (Iz f g)):=PY (JC hg hm (eF ha (eF hb iu k) (by rw[hs,k])) hs k) λσ H R ⟨ρ,L,S,ds,W,S',ok,e,q⟩=>by
 obtain⟨⟨⟨m,t1⟩,Z⟩,e1,e⟩:=au e
 obtain⟨⟨⟨o,t2⟩,S2⟩,e2,e⟩:=au e
 dsimp only at e
 split at e
 ·rename_i c
  obtain⟨e3,rfl⟩:=cE e
  obtain⟨rfl,rfl⟩:=Prod.mk.inj e3
  refine⟨ρ,L,S,m,t1,Z,ok,e1,λG a1 a2 H1 r C h1 r1=>⟨G,L,Z,o,t2,S2,ok.to r C,e2,λa3 b1 ws H2 I n Y r2=> ?_⟩⟩
  obtain⟨A,M,r3⟩:=h1.to r1 I n c.1
  refine⟨_,_,a1,b1,A,ws,rfl,M.sqB,Y.sqB,q _ _ _ (r.trans I) n λi a0 S3 H3 N j w=> ?_⟩
  obtain⟨B,t,J⟩:=M.to r3 N j w.1
  obtain⟨K,U,g4⟩:=Y.to r2 N j w.2
  refine⟨λd h=> ?_,λhi=>⟨B,t.sqB,?_⟩⟩
  ·unfold Cf at h
   rw[List.getElem?_zipWith] at h
   cases s:m[i]? with
   |none=>rw[s] at h;cases h
   | some x=>
     cases F:o[i]? with
     |none=>rw[s,F] at h;cases h
     | some y=>
       rw[s,F] at h
       cases h
       obtain⟨u,P,ru⟩:=J.get s
       obtain⟨z,Q,rz⟩:=g4.get F
       refine⟨⟨B,K,u,z,t.sqB,U.sqB,P,Q⟩,λv H4 hv=> ?_⟩
       obtain⟨p,rfl,hp,hq⟩:=hv
       have:=hq B K u z t.sqB U.sqB P Q
       subst this
       exact⟨cG.laid hp,j.lay hp,.tup cp ((bc.cons ru (.cons rz .nil)).ext (cG.laid hp))⟩
  ·rw[hi]
   unfold Cf
   rw[List.length_zipWith,J.length.symm]
   have:=c.2
   omega
 ·cases e
end
def w_:D->Option Key
 |.int i=>some (.inl i)
 |.str x=>some (.inr x)
 |_=>none
def uF{M:Md}{ρ:List Addr}{H:Hp}{d:D}{v:V}{k:Key}(r:Rel M ρ H d v)(e:w_ d=some k):v=kV k:=by
 cases r <;>simp[w_] at e <;>subst e <;>rfl
def AE:List D->Option (List Key)
 | []=>some []
 |d::r=>(w_ d).bind λk=>(AE r).bind λa=>some (k::a)
theorem A5{M:Md}{ρ:List Addr}{H:Hp}:∀{ds:List D} {vs:List V} {a:List Key},bc M ρ H ds vs->AE ds=some a->vs=a.map kV
 |_,_,_,.nil,e=>by cases e;rfl
 | _,_,_,.cons h hs,e=>by
   obtain⟨k,c,e⟩:=au e
   obtain⟨a,b,e⟩:=au e
   cases e
   rw[uF h c,A5 hs b]
   rfl
def iC(a:List (Key×D))(k:Key):Option D:=(a.find? λb=>decide (b.1=k)).map (·.2)
def putD(a:List (Key×D))(k:Key)(v:D):List (Key×D):=
 if (a.any λb=>decide (b.1=k))=true then a.map (λb=>if b.1=k then(b.1,v) else b) else a++ [(k,v)]
def bu(a more:List (Key×D)):List (Key×D):=more.foldl (λb c=>putD b c.1 c.2) a
section
variable{M:Md}{ρ:List Addr}{H:Hp}
theorem cI.append:∀{l m:List (Key×D)} {kv kw:List (Key×V)},cI M ρ H l kv->cI M ρ H m kw->cI M ρ H (l++m) (kv++kw)
 | [],_,_,_,h,h'=>by cases h;exact h'
 |(_,_)::_,_,_,_,⟨v,t,e,h,hs⟩,h'=>by subst e;exact⟨v,_,rfl,h,cI.append hs h'⟩
theorem cI.any:∀{l:List (Key×D)} {kv:List (Key×V)} (k:Key),cI M ρ H l kv->(l.any λp=>decide (p.1=k))=kv.any λp=>decide (p.1=k)
 | [],_,_,h=>by cases h;rfl
 |(_,_)::_,_,k,⟨v,t,e,h,hs⟩=>by subst e;simp only[List.any_cons,cI.any k hs]
theorem cI.mapP{d:D}{v:V}{k:Key}(r:Rel M ρ H d v):∀{l:List (Key×D)} {kv:List (Key×V)},cI M ρ H l kv->cI M ρ H (l.map λp=>if p.1=k then(p.1,d) else p) (kv.map λp=>if p.1=k then(p.1,v) else p)
 | [],_,h=>by cases h;rfl
 | (k',_)::_,_,⟨u,t,e,h,hs⟩=>by
   subst e
   simp only[QDq]
   by_cases c:k'=k
   · simp only[c,if_true];exact⟨v,_,rfl,r,cI.mapP r hs⟩
   · simp only[c,if_false];exact⟨u,_,rfl,h,cI.mapP r hs⟩
def cI.put{l:List (Key×D)}{kv:List (Key×V)}{k:Key}{d:D}{v:V}(h:cI M ρ H l kv)(r:Rel M ρ H d v):cI M ρ H (putD l k d) (putK kv k v):=by
 unfold putD putK
 rw[h.any k]
 split
 ·exact h.mapP r
 ·exact h.append ⟨v,[],rfl,r,rfl⟩
theorem cI.merge:∀{m:List (Key×D)} {kw:List (Key×V)} {l:List (Key×D)} {kv:List (Key×V)},cI M ρ H m kw->cI M ρ H l kv->cI M ρ H (bu l m) (kH kv kw)
 | [],_,_,_,h,h'=>by cases h;exact h'
 | (k,d)::m,_,_,_,⟨v,t,e,h,hs⟩,h'=>by
   subst e
   unfold bu kH
   rw[List.foldl_cons,List.foldl_cons]
   exact cI.merge (m:=m) (kw:=t) hs (h'.put h)
theorem cI.zip:∀{a:List Key} {ds:List D} {vs:List V},bc M ρ H ds vs->cI M ρ H (a.zip ds) (a.zip vs)
 | [],_,_,_=>rfl
 |_::_,_,_,.nil=>rfl
 |k::a,_,_,.cons h hs=>⟨_,_,rfl,h,cI.zip hs⟩
theorem cI.val:∀{l:List (Key×D)} {kv:List (Key×V)} {k:Key} {d:D},cI M ρ H l kv->iC l k=some d->∃v,rT kv k=some v/\Rel M ρ H d v
 | [],_,_,_,_,e=>by cases e
 | (k',d')::_,_,k,d,⟨v,t,e,h,hs⟩,e'=>by
   subst e
   unfold iC at e'
   unfold rT
   rw[List.find?_cons] at e'⊢
   by_cases c:k'=k
   · simp only[c,decide_true] at e'⊢
     cases e'
     exact⟨v,rfl,h⟩
   · simp only[c,decide_false] at e'⊢
     exact cI.val hs e'
def cI.ext'{a:List Addr}{b:Hp}{l:List (Key×D)}{kv:List (Key×V)}(h:cI M ρ H l kv)(e:cG ρ H a b):cI M a b l kv:=h.imp λ_ _ r=>r.ext e
def cI.pre'{a:List Addr}{l:List (Key×D)}{kv:List (Key×V)}(h:cI M ρ H l kv)(e:ρ <+: a):cI M a H l kv:=h.imp λ_ _ r=>r.pre e
end
section
variable{X:Cx}{a b c e:Expr}{pos:Pos}{st:Stmt}
def Of{M:Md}{ρ d:List Addr}{H h:Hp}{k:aE}{l:List (Key×D)}{kv:List (Key×V)}{p:Addr}{Q:VK}(x:cG ρ H d h)(st:gC M d k h)(j:h p=none)(r:cI M d h l kv)
  (q:∀f v g,cG ρ H f g->gC M f (k++ [.dct l]) g->Rel M f g (.ref k.length) v->Q v g):Q (.ref p) (upd h p (.dK kv)):=by
 have s:p∉d:=eE x st j
 have m:cG d h d (upd h p (.dK kv)):=cG.laid j
 have n:=(st.lay (u:=.dK kv) j).box (o:=.dct l) s ⟨kv,cp,(r.ext' m).pre' (List.prefix_append _ _)⟩
 refine q (d++ [p]) (.ref p) _ ⟨x.pre.trans (List.prefix_append _ _),λc i=> ?_,(x.trans m).keep,(x.trans m).grow⟩ n (.ref ?_)
 ·rcases mQa.mp i with i|i
  ·exact x.new c i
  ·rw[Qfq] at i;subst i;exact .inr (x.grow _ j)
 ·rw[←st.len,QQq (Qmq _)]
  simp
open Classical in
def Kv(f g:fw):bH:=λh S=>(f h S).bind λ(p,j)=>(g h j).bind λ(r,d)=>if p.2.stays d p.1/\p.1.length=r.1.length then(AE p.1).bind λi=>some (.ref d.length,d++ [.dct (bu [] (i.zip r.1))]) else none
def ML{R j M r:Pos}{f g:fw}(W:X.calm=true)(k:Gl X "dict")(n:X.mg "dict"=none)(N:Gl X "zip")(I:X.mg "zip"=none)(ha:PE X a (tQ (md X) f))(Z:PE X b (tQ (md X) g))(hs:starEach [a,b] X.env= [(false,eval a X.env),(false,eval b X.env)]:=by rfl)(h:starEach [b] X.env= [(false,eval b X.env)]:=by rfl)
  (he:starEach [Expr.Call (.Name "zip" j) [a,b] [] r] X.env= [(false,eval (Expr.Call (.Name "zip" j) [a,b] [] r) X.env)]:=by rfl):
  PE X (.Call (.Name "dict" R) [.Call (.Name "zip" j) [a,b] [] r] [] M) (tD (md X) (Kv f g)):=kn (Dq W k n N I (eF ha (eF Z iu h) (by rw[hs,h])) hs h he) λσ H Q ⟨ρ,z,S,d,S',ok,e,q⟩=>by
 obtain⟨⟨⟨o,t1⟩,w⟩,e1,e⟩:=au e
 obtain⟨⟨⟨m,C⟩,S2⟩,P,e⟩:=au e
 dsimp only at e
 split at e
 ·rename_i c
  obtain⟨K,e3,e⟩:=au e
  obtain⟨rfl,rfl⟩:=cE e
  refine⟨ρ,z,S,o,t1,w,ok,e1,λt a1 a0 H1 x s J U=>⟨t,z,w,m,C,S2,ok.to x s,P,λL b1 F H2 v i h2 u=> ?_⟩⟩
  obtain⟨B,G,A⟩:=J.to U v i c.1
  have ek:=A5 A e3
  subst ek
  have y:=A.length
  rw[lQm] at y
  refine⟨_,_,a1,b1,K,F,rfl,G.sqB,h2.sqB,by rw[←y,←u.length];exact c.2,λp Y=> ?_⟩
  exact Of (x.trans v) i Y (cI.merge (l:= []) (cI.zip u) rfl) q
 ·cases e
def OW:bH:=λ_ S=>some (.ref S.length,S++ [.dct []])
def PD:PE X (.Dict [] [] pos) (tD (md X) OW):=kn IS λh H Q g=>by
 obtain⟨k,j,S,d,i,ok,e,q⟩:=g
 obtain⟨rfl,rfl⟩:=cE e
 exact λp f=>Of cG.refl ok.st f (l:= []) (kv:= []) rfl q
def LV(f g:bH):bH:=λh S=>(f h S).bind λ(x,j)=>(g h j).bind λ(y,i)=>match x with
 | .ref k=>match i[k]? with
   |some (.dct l)=>(w_ y).bind λm=>(iC l m).bind λd=>some (d,i)
   |_=>none
 |_=>none
def PV{f g:bH}(B:X.A.units+1<cLine)(m:PE X a (tD (md X) f))(I:PE X b (tD (md X) g))(hs:Kx b):PE X (.Subscript a b pos) (tD (md X) (LV f g)):=kn (Ju B m I hs) λY H Q M=>by
 obtain⟨P,s,S,d,R,ok,e,q⟩:=M
 obtain⟨⟨x,p⟩,K,e⟩:=au e
 obtain⟨⟨y,L⟩,C,e⟩:=au e
 cases x with
 | ref k=>
   dsimp only at e
   split at e
   · rename_i l hs
     obtain⟨ky,J,e⟩:=au e
     obtain⟨d',G,e⟩:=au e
     obtain⟨rfl,rfl⟩:=cE e
     refine⟨P,s,S,_,p,ok,K,λn W H1 r j i=>⟨n,s,p,y,L,ok.to r j,C,λz Z H2 o h t=> ?_⟩⟩
     cases uF t J
     have i:=i.ext o
     cases i with
     | ref m=>
       obtain⟨U,w,N⟩:=h.obj k _ _ m hs
       obtain⟨v,u,F⟩:=N.val G
       exact⟨_,v,rfl,by rw[←u];exact Gb.k w,q _ _ _ (r.trans o) h F⟩
   · cases e
 |_=>cases e
def NV(f g h:bH):cC:=λi S=>(h i S).bind λ(d,n)=>(f i n).bind λ(x,m)=>(g i m).bind λ(y,j)=>match x with
 | .ref k=>match j[k]? with
   |some (.dct l)=>(w_ y).bind λo=>if l.length<sizeLine then some (.nx i (j.set k (.dct (putD l o d)))) else none
   |_=>none
 |_=>none
mutual
theorem Rel.offK{M:Md}{ρ:List Addr}{H:Hp}{b:Addr}{g:List (Key×V)}{o:HO}(f:H b=some (.dK g)):∀{d:D} {v:V},Rel M ρ H d v->Rel M ρ (upd H b o) d v
 |_,_,.non=>.non
 |_,_,.bl x=>.bl x
 |_,_,.int i=>.int i
 |_,_,.str x=>.str x
 |_,_,.tup h hs=>.tup (by rw[bx (GS h f (by intro z;cases z))];exact h) (bc.offK f hs)
 |_,_,.ref h=>.ref h
 |_,_,.fn h=>.fn h
theorem bc.offK{M:Md}{ρ:List Addr}{H:Hp}{b:Addr}{f:List (Key×V)}{o:HO}(d:H b=some (.dK f)):∀{ds:List D} {vs:List V},bc M ρ H ds vs->bc M ρ (upd H b o) ds vs
 |_,_,.nil=>.nil
 |_,_,.cons h hs=>.cons (Rel.offK d h) (bc.offK d hs)
end
def gC.putKd{M:Md}{ρ:List Addr}{S:aE}{H:Hp}{k:Nat}{a:Addr}{l l':List (Key×D)}{kw:List (Key×V)}(st:gC M ρ S H)(f:ρ[k]?=some a)(g:S[k]?=some (.dct l))(r:cI M ρ H l' kw):gC M ρ (S.set k (.dct l')) (upd H a (.dK kw))/\cG ρ H ρ (upd H a (.dK kw)):=by
 obtain⟨i,d,j⟩:=st.obj k a _ f g
 exact st.put f g ⟨kw,cp,r.imp λ_ _ q=>q.offK d⟩ λx h=>by rw[d] at h;cases h;exact id
def P9{f g h:bH}{i:Pos}{v:Expr}(P:X.A.units+1<cLine)(p:PE X a (tD (md X) f))(Z:PE X b (tD (md X) g))(W:PE X v (tD (md X) h))(hs:swapsWith v (some (.Subscript a b i)) pos.line X.env=pure false:=by rfl):PS X (.Assign [.Subscript a b i] v pos) (tS (md X) (NV f g h)):=
 Ek (J6 P p Z W hs) λD σ H qq=>by
  obtain⟨ρ,C,S,o,ok,e,q⟩:=qq
  obtain⟨⟨d,I⟩,e1,e⟩:=au e
  obtain⟨⟨x,J⟩,R,e⟩:=au e
  obtain⟨⟨y,M⟩,e3,e⟩:=au e
  cases x with
  | ref k=>
    dsimp only at e
    split at e
    · rename_i l hs
      obtain⟨Y,U,e⟩:=au e
      split at e
      · rename_i Q
        cases e
        refine⟨ρ,C,S,d,I,ok,e1,λG v1 H1 z n F=>⟨G,C,I,_,J,ok.to z n,R,λu v2 H2 s B r=>⟨u,C,J,y,M,(ok.to z n).to s B,e3,λa0 v3 H3 w j r3=> ?_⟩⟩⟩
        cases uF r3 U
        have r:=r.ext w
        have F:=F.ext (s.trans w)
        have m:=(z.trans s).trans w
        cases r with
        | ref p=>
          obtain⟨kv,N,K⟩:=j.obj k _ _ p hs
          obtain⟨t,L⟩:=j.putKd p hs (K.put (k:=Y) F)
          exact⟨_,_,rfl,Hb.k N (by rw[←K.length];exact Q),q _ _ _ (m.trans L) ((ok.to m j).to L t)⟩
      · cases e
    · cases e
  |_=>cases e
open Classical in
def HG(f:fw)(g:bH):bH:=λd S=>(f d S).bind λ(p,k)=>if p.2.isL=true then(g d k).bind λ(y,h)=>if p.2.stays h p.1 then(xc y).bind λv=>(qt p.1).bind λi=>(qg v i).bind λj=>some (.int (j:Nat),h) else none else none
def OI{f:fw}{g:bH}{o:Expr}{i h:Pos}(W:PE X o (tQ (md X) f))(ha:PE X e (tD (md X) g))(l:attributeBase o "index" X.env (eval o X.env)=eval o X.env:=by rfl) (m:((backTo h (starEach [e] X.env)).all (λx=> !x.1)&&(backToKw h (keywordEach [] X.env)).all (λx=>x.1.isSome)
   &&decide ([e].length+([]:List Keyword).length+(if ([]:List Keyword).isEmpty then 0 else 1)<30))=true:=by rfl)
  (k:(i.endLine==h.line)=true:=by rfl) (hs:starEach [e] X.env= [(false,eval e X.env)]:=by rfl):PE X (.Call (.Attribute o "index" i) [e] [] h) (tD (md X) (HG f g)):=
 kn (vU PySem.F.plainAttrs_list PySem.F.slot_list_index PySem.F.type_list_index Iw W (cT ha i8 hs) l m k hs) λσ H Q qq=>by
  obtain⟨ρ,G,S,d,S',ok,e,q⟩:=qq
  obtain⟨⟨⟨L,t⟩,B⟩,e1,e⟩:=au e
  dsimp only at e
  split at e
  ·rename_i w
   obtain⟨⟨y,S2⟩,P,e⟩:=au e
   dsimp only at e
   split at e
   ·rename_i U
    obtain⟨v,I,e⟩:=au e
    obtain⟨vs,Z,e⟩:=au e
    obtain⟨j,N,e⟩:=au e
    obtain⟨rfl,rfl⟩:=cE e
    refine⟨ρ,G,S,L,t,B,ok,e1,λu a R H1 C r z Y=>⟨.inl ⟨rfl,R,z.sqL w⟩,u,G,B,[y],S2,ok.to C r,by simp only[aq,av,P,Qbq],λM ws H2 A n p=> ?_⟩⟩
    obtain⟨s,J,r3⟩:=z.to Y A n U
    cases p with
    | cons p K=>
      cases K
      cases mv p I
      obtain⟨rfl,f1⟩:=qP r3 Z
      exact⟨a,s,_,j,rfl,rfl,J.sqL w,qQ I,f1,N,q _ _ _ (C.trans A) n (.int _)⟩
   ·cases e
  ·cases e
end
section
variable{X:Cx}{a b c e:Expr}{pos:Pos}{st:Stmt}
def PZ:V->List V->Hp->VK->Prop:=λx g H Q=>∃a b f d,x=.ref a/\g= [.ref b]/\a≠b/\H a=some (.dK f)/\H b=some (.dK d)/\f.length+d.length<=sizeLine/\Q .non (upd H a (.dK (kH f d)))
def Gg:OO X "dict.update" PZ:=by
 intro m s M H x J v L Q I t A h
 obtain⟨a,b,k,g,rfl,rfl,ab,ha,hb,hz,q⟩:=h
 cases t
 obtain⟨u,rfl,ru⟩:=A.one
 cases ru
 obtain⟨z,C,r,f,n⟩:=Eh I.hok ha
 obtain⟨G,j,p,d,l⟩:=Eh I.hok hb
 refine call_meetsIn PySem.F.slot_dict_update n.typeIs PySem.F.entry_dict_update (PySem.F.args_dict_update_2 _ _) (meets_dict_update (cc X.prog X.w) a b ab j) ⟨r,p,n,l,by rw[←f.length,←d.length];exact hz,λo i _ y=> ?_⟩
 have B:∃q,o.get? a=some q:=let ⟨q,_,_,hq,_⟩:=i;⟨q,hq⟩
 have K:=jG g k
 exact⟨.non,_,uH I (by rw[ha];exact True.intro) y B (vZ (by omega) C (KV.merge d f) i),rfl,q⟩
def Ji(f g:bH):bH:=λh S=>(f h S).bind λ(x,i)=>(g h i).bind λ(y,d)=>match x,y with
 | .ref k,.ref j=>if k≠j then match i[k]?,d[k]?,d[j]? with
   |some (.dct _),some (.dct l),some (.dct m)=>if l.length+m.length<=sizeLine then some (.non,d.set k (.dct (bu l m))) else none
   |_,_,_=>none
   else none
 |_,_=>none
def MR{f g:bH}{o:Expr}{n h:Pos}(ho:PE X o (tD (md X) f))(w:PE X e (tD (md X) g))(r:attributeBase o "update" X.env (eval o X.env)=eval o X.env:=by rfl) (t:((backTo h (starEach [e] X.env)).all (λx=> !x.1)&&(backToKw h (keywordEach [] X.env)).all (λx=>x.1.isSome)
   &&decide ([e].length+([]:List Keyword).length+(if ([]:List Keyword).isEmpty then 0 else 1)<30))=true:=by rfl)
  (p:(n.endLine==h.line)=true:=by rfl) (hs:starEach [e] X.env= [(false,eval e X.env)]:=by rfl):PE X (.Call (.Attribute o "update" n) [e] [] h) (tD (md X) (Ji f g)):=
 kn (vU PySem.F.plainAttrs_dict PySem.F.slot_dict_update PySem.F.type_dict_update Gg ho (cT w i8 hs) r t p hs) λσ H Q qq=>by
  obtain⟨ρ,U,S,d,S',ok,e,q⟩:=qq
  obtain⟨⟨x,J⟩,e1,e⟩:=au e
  obtain⟨⟨y,L⟩,e2,e⟩:=au e
  cases x with
  | ref k=>
    cases y with
    | ref j=>
      dsimp only at e
      split at e
      · rename_i ne
        cases I:J[k]? with
        |none=>rw[I] at e;cases e
        | some o1=>
          rw[I] at e
          cases o1 with
          | dct l0=>
            cases A:L[k]? with
            |none=>rw[A] at e;cases e
            | some o2=>
              rw[A] at e
              cases o2 with
              | dct l=>
                cases G:L[j]? with
                |none=>rw[G] at e;cases e
                | some o3=>
                  rw[G] at e
                  cases o3 with
                  | dct m=>
                    dsimp only at e
                    split at e
                    · rename_i hl
                      obtain⟨rfl,rfl⟩:=cE e
                      refine⟨ρ,U,S,_,J,ok,e1,λM v H1 R u r1=> ?_⟩
                      cases r1 with
                      | ref w=>
                        rename_i a
                        obtain⟨K,g0,_⟩:=u.obj k a _ w I
                        refine⟨.inr (.inr (.inl ⟨rfl,.inl ⟨K,g0⟩⟩)),M,U,J,[.ref j],L,ok.to R u,by simp only[aq,av,e2,Qbq],λa0 ws H2 N i B=> ?_⟩
                        cases B with
                        | cons B Z=>
                          cases Z
                          cases B with
                          | ref W=>
                            rename_i b
                            have s:=dh N.pre w
                            obtain⟨kv,g1,P⟩:=i.obj k a _ s A
                            obtain⟨kw,g3,Y⟩:=i.obj j b _ W G
                            have ab:a≠b:=λz=>by subst z;exact ne (mF i.nd s W)
                            obtain⟨C,x3⟩:=i.putKd s A (cI.merge Y P)
                            exact⟨a,b,kv,kw,rfl,rfl,ab,g1,g3,by rw[←P.length,←Y.length];exact hl,q _ _ _ ((R.trans N).trans x3) C .non⟩
                    · cases e
                  |_=>cases e
              |_=>cases e
          |_=>cases e
      · cases e
    |_=>cases e
  |_=>cases e
end
end DL
namespace L2
open PySem PySem.Spec PyProof.Rows
section
variable{prog:Program}{w:World}{A:Around}{s:Shared}
def xh{D:Addr}{R:Result->Shared->Prop}(I:Nat->Shared->Prop)
  (t:∀n s,I n s->wpAny (model prog w) A (pyNext it) (λr d=>match r with
   |none=>R (.ok .next) d
   |some v=>wpAny (model prog w) A (letOwnedTupleGo a it v) (λ_ f=>wpAny (model prog w) A (assign a env v) (λ_ g=>
     wpAny (model prog w) A (forIn q true λc r=>if r=true then do let ok←isTrue c env (eval c env);pure (ForInStep.yield ok) else pure (ForInStep.yield r)) (λok s₃=>
      if ok=true then wpAny (model prog w) A (eval G env) (λx k=>wpAny (model prog w) A (eval F env) (λy l=>
       wpAny (model prog w) A (dictSet D x y) (λ_ j=>∃m,m<n/\I m j) (λ_ _=>False) l) (λ_ _=>False) k) (λ_ _=>False) s₃
      else∃m,m<n/\I m s₃) (λ_ _=>False) g) (λ_ _=>False) f) (λ_ _=>False) d) (λ_ _=>False) s)
  (n:Nat) (h:I n s):codeAny (model prog w) A (.compLoop (.DictComp G F [⟨a,i,q,0⟩] e pos) 0 it (.ref D) env) R s:=by
 refine codeAny_loop rfl I (λn s H=> ?_) n h
 show wpAny _ A ((compTurn (.DictComp G F [⟨a,i,q,0⟩] e pos) 0 it (.ref D) env).onRaise (λx=>do noteFrame x env;theTreesLotGoes x)) _ _ s
 refine wpAny_noted ?_
 rw[compTurn_dict]
 refine Qaq<|wpAny_standAt<|Qaq (QRq (t n s H) (λr d o=> ?_) λ_ _ b=>b.elim)
 cases r with
 |none=>exact Qgq o
 | some v=>
   refine Qaq (QRq o (λ_ f p=> ?_) λ_ _ b=>b.elim)
   refine Qaq (QRq p (λ_ g B=>Qaq (QRq B (λok s₃ h₃=> ?_) λ_ _ b=>b.elim)) λ_ _ b=>b.elim)
   cases ok with
   |false=>exact Qgq ⟨rfl,h₃⟩
   | true=>
     exact Qaq<|Qaq (QRq h₃ (λx k z=>Qaq<|QLq (QRq z (λy l u=>Qaq<|wpAny_standAt<|QLq (QRq u (λ_ j C=>Qgq ⟨rfl,C⟩) λ_ _ b=>b.elim)) λ_ _ b=>b.elim)) λ_ _ b=>b.elim)
end
def Mv(J:It)(g:TG)(r:TT)(o q:TE)(Q:VK)(D:Addr)(p:St)(H:Hp):Prop:=
 ∃ W:Nat->Nat->St->Hp->Prop,(∃m,W 0 m p H)/\∀i m d e,W i m d e→
   (J.stop i e/\Q (.ref D) e)\/(J.go i e/\∃h:St->Hp->Prop,(∀b f,h b f->∃j,j<m/\W (i+1) j b f)∧
     ∀ x H2,J.yld i e x H2->g x d H2 λa H3=>r a H3 λok H4=>
       if ok=true then o a H4 λk H5=>q a H5 λy l=>∃c n,k=kV n/\l D=some (.dK c)/\c.length<sizeLine/\h a (upd l D (.dK (putK c n y))) else h a H4)
def GO(js:List (Option Nat))(b:TI)(g:TG)(e:TT)(c d:TE):TE:=λa H Q=>b a H λJ H1=>∀D,H1 D=none->Mv J g e c d Q D (kB js a) (upd H1 D<|.dK [])
def Hw{X:Cx}{N:List Str}{js:List (Option Nat)}{a:Scope}{Z:List (Str×Addr)}{tg Q kx vx K:Expr}{a8:List Expr}{pos b2:Pos}{wi:TI}{g gt:TG}{tt:TT}{tk tv:TE}
  (S:aL X N js a Z) (hc:X.calm=true) (hi:PI X tg Q wi)
  (hg:∀C s H fp,PG (aP X N a Z C s H fp) tg g) (ht:∀C s H fp,pG (aP X N a Z C s H fp) a8 tt) (hk:∀C s H fp,PE (aP X N a Z C s H fp) kx tk) (hv:∀C s H fp,PE (aP X N a Z C s H fp) vx tv) (d7:PG X K gt)
  (hs:∀x,foldedSetIterable Q X.env x=pure x:=by intro _;rfl) (d8:swapsWithSole [K] (.DictComp kx vx [⟨tg,Q,a8,0⟩] a pos) b2.line X.env=pure true:=by rfl)
  (h1:(assignEach [K] X.env).map (·.2)= [assign K X.env]:=by rfl):PS X (.Assign [K] (.DictComp kx vx [⟨tg,Q,a8,0⟩] a pos) b2) (Gs (GO js wi g tt tk tv) gt):=by
 intro a0 s σ H Dn I h
 rw[exec_Assign_arm]
 refine Qaq<|wpAny_standAt<|Qaq<|wpAny_of_eq d8<|wpAny_ite_true rfl<|Qaq ?_
 rw[h1]
 show wpAny _ _ (do let _←comprehension _ _ _ _ _ _ _ (some λv=>assignAll v [assign K X.env]);pure ()) _ _ _
 refine Qaq ?_
 refine wpAny_comprehension_free (use:=some λv=>assignAll v [assign K X.env]) rfl hs S.clos S.kind S.names (c_ (hi a0 s σ H _ I h) λv s1 h1=>c_ h1 λe7 t h2=> ?_)
 obtain⟨it,fp,tn,J,H2,e,F,T,b6,f2,hD⟩:=h2
 subst e
 refine QhQ<|wpAny_newFunctionEnv S.nocell (by intro y hy;simp at hy) (λP M B=> ?_) S.kind
 dsimp only at M B⊢
 generalize a6:t.heap.push {cls:=.type "dict",data:=.dict #[]}=P2 at M B⊢
 have hC:P2.objs.size=t.heap.objs.size+1:=by rw[←a6,Heap.size_push]
 have b5:t.heap.objs.size≠P2.objs.size:=by rw[hC];exact Qwq (Nat.lt_succ_self _)
 have a3:t.heap.objs.size<=P2.objs.size:=by rw[hC];exact Nat.le_succ _
 have G:∀b,b<t.heap.objs.size->b≠P2.objs.size:=λb f=>by rw[hC];exact Qwq (Nat.lt_succ_of_lt f)
 have a1:∀b o,t.heap.get? b=some o->P.get? b=some o:=λb o e=>B.extBut b o (G b<|Qiq e) (Qcq _ (a6▸Qcq _ e))
 have e5:P.get? t.heap.objs.size=some {cls:=.type "dict",data:=.dict #[]}:=B.extBut _ _ b5 (Qcq _ (a6▸Qrq _ rfl))
 have nD:H2 t.heap.objs.size=none:=F.fresh
 have nC:H2 P2.objs.size=none:=F.hok.fresh a3
 have b7:∀b∈fp,b<t.heap.objs.size:=λb f=>by
  obtain⟨o,e,_⟩:=T.obj _ _ b6 b f
  exact Qiq e
 obtain⟨W,⟨m0,w0⟩,c9⟩:=hD t.heap.objs.size nD
 have c5:(aP X N a Z P2.objs.size t H2 fp).Ok:=by
  refine⟨F.ok.mod,S.kind,F.ok.glob,F.ok.blt,a3,λx y c h1 h2=>F.ok.inj x y c (S.sub x c h1) (S.sub y c h2),S.has,(λx c h=>by cases h),F.ok.hd,F.ok.frames,.inl rfl,
   λb f=>⟨G b (b7 b f),λx c h=>(f2 b f).2.2.2.2.1 x c (S.sub x c h)⟩,F.bs,QAq F.ok.bsz F.sz,λb o e f=> ?_,λb f z=> ?_,F.stack,F.stkFree⟩
  ·rcases(f2 b f).2.2.2.1 with z|z
   ·exact F.ok.noex b o e z
   ·exact absurd (Qqq (Qqq (Qiq e) F.ok.bsz) z)<|Nat.lt_irrefl _
  ·rcases Qsq.mp (F.stkSub b z) with q|q
   ·exact(f2 b f).2.1 q
   ·exact(f2 b f).2.2.1 q
 have c4:dr X.prog X.w (upd H2 t.heap.objs.size<|.dK []) P t.heap.objs.size (.dK []):=by
  obtain⟨o,es,ep,e1,e2⟩:=Heap.DictOf.new (knd:=cc X.prog X.w) t.heap
  exact vZ (Nat.zero_le _) (beq_eq_false_iff_ne.mpr<|Ne.symm<|Qwq F.big) .nil ⟨o,es,ep,B.extBut _ _ b5<|Qcq _ (a6▸e1),e2⟩
 have I4:Inv (aP X N a Z P2.objs.size t H2 fp) [] (kB js σ) (upd H2 t.heap.objs.size<|.dK []) {t with heap:=P,toks:=t.toks+([]:List (Str×Value)).length}:=by
  refine⟨c5,rfl,F.bare,Un.laid a1 (Qmq _) nD,⟨_,M,λi x v h1 h2 h3=> ?_⟩,λx c h=> ?_,by show upd H2 _ _ P2.objs.size=none;rw[bx b5.symm];exact nC,λx c h=> ?_,λp hp=>absurd (show p∈([]:List (Addr×Obj)) from hp) (by simp),F.hok.laid a1 (Qmq _) c4,by show(kB js σ).length=N.length;unfold kB;rw[lQm];exact S.len⟩
  ·unfold kB at h2
   rw[gQm] at h2
   cases e:js[i]? with
   |none=>rw[e] at h2;cases h2
   | some o=>
     rw[e] at h2
     cases o with
     |none=>cases h2
     | some j=>
       have a4:σ.getD j none=some v:=QdQ h2
       have hj:σ[j]?=some (some v):=by
         rw[Qlq] at a4
         cases q:σ[j]? with
         |none=>rw[q] at a4;cases a4
         |some y=>rw[q] at a4;exact congrArg some a4
       obtain⟨c1,c2,c3⟩:=S.cap i j x e h1
       obtain⟨m,hn,hl⟩:=F.loc
       have d6:KF X.env.scope x:=by
         rcases c2 with z|z
         · exact .inr (.inl z)
         · exact .inr (.inr z)
       obtain⟨u,r,l⟩:=hl j x v c1 hj d6
       refine⟨u,r,.inr ⟨c3,?_⟩⟩
       obtain⟨c,c0⟩:=S.has x c3
       refine⟨c,c0,?_⟩
       rcases l with⟨z,_⟩|⟨_,c',e',z⟩
       · rcases c2 with y|y <;>rw[y] at z <;>cases z
       · rw[S.sub x c c0] at e'
         cases e'
         obtain⟨o,ho,hd⟩:=z
         exact⟨o,a1 _ _ ho,hd⟩
  ·obtain⟨v,o,ho,hd⟩:=F.cell x c (S.sub x c h)
   exact⟨v,o,a1 _ _ ho,hd⟩
  ·obtain⟨v,o,ho,hd⟩:=F.cell x c (S.sub x c h)
   rw[bx (Qwq<|Qiq ho)]
   exact F.freeC x c<|S.sub x c h
 have a5:∀{Y:List (Addr×Obj)} {H':Hp},Y= []->(∀b∈fp,H' b=none)->∀b∈fp,sj (aP X N a Z P2.objs.size t H2 fp) Y H' b:=λ{Y H'} ep hn b f=>by
  subst ep
  refine⟨hn b f,G b<|b7 b f,λz=>c5.exfs b f z,.inl f,λx c h=>(f2 b f).2.2.2.2.1 x c (S.sub x c h),λp hp=>absurd (show p∈([]:List (Addr×Obj)) from hp) (by simp)⟩
 have b3:codeAny (model X.prog X.w) X.A (.compLoop (.DictComp kx vx [⟨tg,Q,a8,0⟩] a pos) 0 (.ref it) (.ref t.heap.objs.size) (compEnvC a Z P2.objs.size X.env))
   (compPost (model X.prog X.w) X.A X.xe (some λv=>assignAll v [assign K X.env]) (λ_ s9=>wpAny (model X.prog X.w) X.A (pure ()) (λ_ d9=>wpAny (model X.prog X.w) X.A (pure Flow.next) (SP X a0 Dn) X.xe d9) X.xe s9) (.ref t.heap.objs.size) P2.objs.size) {t with heap:=P,toks:=t.toks+([]:List (Str×Value)).length}:=by
  refine xh (λn s'=>∃i a2 H',Inv (aP X N a Z P2.objs.size t H2 fp) [] a2 H' s'/\tn i s'.heap/\(∀b∈fp,H' b=none)/\W i n a2 H') ?_ m0
   ⟨0,_,_,I4,T.keep _ _ _ b6 λb _ o e=>a1 b o e,λb f=>by rw[bx (Qwq<|b7 b f)];exact(f2 b f).1,w0⟩
  rintro n s3 ⟨i,b0,H3,I3,b9,b8,w3⟩
  rcases c9 i n b0 H3 w3 with⟨stop,q⟩|⟨go,Nx,hN,d2⟩
  ·refine c_ (T.done (aP X N a Z P2.objs.size t H2 fp) rfl rfl rfl hc i [] s3 b0 H3 _ I3 (a5 rfl b8) b9 stop) λr s4 U=> ?_
   obtain⟨hr,I5⟩:=U
   subst hr
   obtain⟨m,hn,_⟩:=id I5.loc
   have d5:∀h',Heap.SameBut P2.objs.size s4.heap h'->Inv X a0 σ H3 {s4 with heap:=h'}:=by
    intro h' R
    have u:=I5.base
    have ne:∀b o,t.heap.get? b=some o->b≠P2.objs.size:=λb o e=>G b (Qiq e)
    refine F.call' (ch:=fp) I5.os ⟨λb o e n f hx=>(R.2 b<|ne b o e).trans (u.keep b o e n f hx),λb o e n f hx=> ?_,u.free,λb o e hx=> ?_,u.tups,u.frzs,u.tbls⟩ (λb ob e=> ?_) I5.bare λb f=>⟨(f2 b f).2.2.2.1,(f2 b f).2.1,(f2 b f).2.2.2.2.1,(f2 b f).2.2.2.2.2⟩
    ·obtain⟨sl,e1⟩:=u.slot b o e n f hx
     exact⟨sl,(R.2 b<|ne b o e).trans e1⟩
    ·obtain⟨o',e1⟩:=u.there b o e hx
     exact⟨o',(R.2 b<|ne b o e).trans e1⟩
    ·refine(I5.hok b ob e).stay (λc w' hc q=>(R.2 c ?_).trans q) (λ_ q=>q) λ_ _ q=>q
     have fC:H3 P2.objs.size=none:=I5.free
     rintro rfl
     rcases hc with z|z
     ·rw[←z,fC] at e;cases e
     ·rw[fC] at z;cases z
   have IX:=d5 s4.heap ⟨rfl,λ_ _=>rfl⟩
   have b1:sj X a0 H3 P2.objs.size:=F.fpOk a3 I5.free
   obtain⟨oC,es,ep,d1,wQ,e0⟩:=hn
   have IP:=IX.pinned (fp:= [P2.objs.size]) (λb f=>by rw[Qfq] at f;rw[f];exact b1) (λb f=>by rw[Qfq] at f;rw[f];exact⟨oC,d1,λv=>by rw[wQ];simp⟩)
   show wpAny _ _ (assignAll (.ref t.heap.objs.size) [assign K X.env]) _ _ _
   rw[assignAll.eq_2]
   refine c_ (d7 _ s4 σ H3 (.ref t.heap.objs.size) (.ref t.heap.objs.size) _ IP rfl q) λ_ s6 U=> ?_
   obtain⟨L,H6,I6,q6⟩:=U
   have pC:=I6.pin (P2.objs.size,oC) (Qoq _<|Qoq _<|dI (Qfq.mpr rfl) d1)
   refine⟨m,⟨oC,es,ep,pC.1,wQ,e0⟩,λh' R=>Qgq<|Qgq ⟨L,H6,?_,q6⟩⟩
   exact I6.unpinned.turned (it:=P2.objs.size) (t':=s6.toks) (λb o' f e=>(R.2 b f).trans e) pC.2.1 pC.2.2.1 b1.2.2.2.1 b1.2.2.2.2.1 b1.2.2.2.2.2
  ·refine c_ (T.item (aP X N a Z P2.objs.size t H2 fp) rfl rfl rfl hc i [] s3 b0 H3 _ I3 (a5 rfl b8) b9 go) λr s4 U=> ?_
   obtain⟨u,hr,h4⟩:=U
   subst hr
   refine c_ h4 λ_ s5 U=> ?_
   obtain⟨x,H5,I5,r5,y5,b4,d4⟩:=U
   have e4:=I5.pinned (a5 rfl d4) (T.obj _ _ b4)
   refine c_ (hg P2.objs.size t H2 fp _ s5 b0 H5 x u _ e4 r5<|d2 x H5 y5) λ_ s6 U=> ?_
   obtain⟨L,H6,I6,q6⟩:=U
   refine c_ (ht P2.objs.size t H2 fp _ s6 L H6 _ I6 q6) λok s7 U=> ?_
   obtain⟨H7,I7,q7⟩:=U
   have again:∀{s8:Shared} {H8:Hp},Inv (aP X N a Z P2.objs.size t H2 fp) ([]++oS fp s5.heap) L H8 s8->Nx L H8->∃m,m<n/\∃i a2 H',Inv (aP X N a Z P2.objs.size t H2 fp) [] a2 H' s8/\tn i s8.heap/\(∀b∈fp,H' b=none)/\W i m a2 H':=λ{s8 H8} I8 n8=>by
    obtain⟨m',hm,w8⟩:=hN L H8 n8
    refine⟨m',hm,i+1,L,H8,I8.unpinned,T.keep _ _ _ b4 λb f o e=>(I8.pin (b,o)<|Qoq _<|Qoq _<|dI f e).1,λb f=> ?_,w8⟩
    obtain⟨o,e,d⟩:=T.obj _ _ b4 b f
    exact(I8.pin (b,o)<|Qoq _<|Qoq _<|dI f e).2.1
   cases ok with
   |false=>exact again I7 q7
   | true=>
     refine c_ (hk P2.objs.size t H2 fp _ s7 L H7 _ I7 q7) λkv s8 U=> ?_
     obtain⟨k,H8,I8,rk,q8⟩:=U
     refine c_ (hv P2.objs.size t H2 fp _ s8 L H8 _ I8 q8) λyv s9 U=> ?_
     obtain⟨y,H9,I9,ry,e3,ky,ek,hx,hl,n9⟩:=U
     subst ek
     obtain⟨z,hd,vs,d3,dd⟩:=Eh I9.hok hx
     refine wpAny_dictSet_pairs (BK rk) dd (λh' c6 R=> ?_) (by rw[←d3.length];exact z)
     have he:∃q,h'.get? t.heap.objs.size=some q:=let ⟨q,_,_,hq,_⟩:=c6;⟨q,hq⟩
     have e6:=jt e3 ky y
     exact again (uH I9 (by rw[hx];exact True.intro) R he<|vZ (by omega) hd (d3.put ky ry) c6) n9
 exact codeAny_compStart_dict b3<|T.self _ 0 _ _ _ (T.keep _ _ _ b6 λb _ o e=>a1 b o e) b3
end L2
namespace DL
open PySem PySem.Spec PyProof.Rows L2
section
variable{M:Md}{ρ:List Addr}{H:Hp}{b:Addr}{us:List (Key×V)}{o:HO}
theorem gC.offK{S:aE}(st:gC M ρ S H)(f:H b=some (.dK us))(n:b∉ρ):gC M ρ S (upd H b o):=⟨st.len,st.nd,λk a p h m=>by
 have q:=st.obj k a p h m
 have g:a≠b:=λz=>n (z▸mQg h)
 cases p with
 |lst i=>obtain⟨e,d,c⟩:=q;exact⟨e,by rw[bx g];exact d,c.offK f⟩
 |frz i=>obtain⟨e,o,d,c⟩:=q;exact⟨e,o,by rw[bx g];exact d,c.offK f⟩
 |dct l=>obtain⟨j,d,c⟩:=q;exact⟨j,by rw[bx g];exact d,c.imp λ_ _ r=>r.offK f⟩⟩
def En.offK{c:cB}{a:L2.St}(h:En M ρ H c a)(g:H b=some (.dK us)):En M ρ (upd H b o) c a:=⟨h.len,λi d q=>by obtain⟨v,e,f⟩:=h.get i d q;exact⟨v,e,f.offK g⟩⟩
end
open Classical in
def jC(g:nI)(t:jL)(b c:bH)(W:aE->Prop):List D->cB->aE->List (Key×D)->Option (List (Key×D)×aE)
 | [],Γ,S,acc=>if W S then some (acc,S) else none
 |d ::ds,Γ,S,acc=>if W S then(g d Γ S).bind λ(a,i)=>(t a i).bind λ(k,e)=>
    if k=true then(b a e).bind λ(x,h)=>(c a h).bind λ(y,f)=>(w_ x).bind λj=>if acc.length<sizeLine then jC g t b c W ds a f (putD acc j y) else none
    else jC g t b c W ds a e acc
  else none
def rD(js:List (Option Nat))(i:yb)(g:nI)(t:jL)(b d:bH):cB->aE->Option (List (Key×D)×aE):=λa S=>(i a S).bind λ(p,c)=>jC g t b d p.2 p.1 (pI js a) c []
def JY{M:Md}{js:List (Option Nat)}{i:yb}{g:nI}{t:jL}{fk fv:bH}{σ:L2.St}{H:Hp}{Q:VK}{ρ:List Addr}{Γ:cB}{S S':aE}{l:List (Key×D)}(ok:Ok M ρ Γ S σ H)(e:rD js i g t fk fv Γ S=some (l,S'))
  (q:∀b a kv f,cG ρ H b f->gC M b S' f->H a=none->a∉b->f a=some (.dK kv)->cI M b f l kv->Q (.ref a) f):GO js (tI M i) (tG M g) (tB M t) (tD M fk) (tD M fv) σ H Q:=by
 obtain⟨⟨⟨n,W⟩,S1⟩,e1,e⟩:=au e
 refine⟨ρ,Γ,S,n,W,S1,ok,e1,λp J H1 x1 Z wk D R=> ?_⟩
 have n1:D∉p:=eE x1 Z R
 have a2:Ok M p (pI js Γ) S1 (kB js σ) (upd H1 D (.dK [])):=⟨((ok.en.ext x1).ext (cG.laid R)).sig js,Z.lay R⟩
 refine⟨λi m s f=>m=n.length-i/\i<=n.length/\∃d B U c j,cG p H1 d f/\Ok M d B U s f/\D∉d/\f D=some (.dK j)/\cI M d f c j/\jC g t fk fv W (n.drop i) B U c=some (l,S'),
  ⟨n.length,by simp,Nat.zero_le _,p,_,S1,[],[],cG.laid R,a2,n1,cp,rfl,e⟩,?_⟩
 rintro i m b4 H2 ⟨rfl,hi,d,B,U,c,j,x2,ok2,n2,hD2,racc,e2⟩
 by_cases P:i<n.length
 ·have hd:n[i]?=some n[i]:=gQe P
  rw[QWq P] at e2
  unfold jC at e2
  split at e2
  ·rename_i w
   obtain⟨w1,w2⟩:=wk i d U H2 x2 ok2.st w
   obtain⟨go,a4⟩:=w1 _ hd
   refine .inr ⟨go,λs f=>∃b F C c j,cG p H1 b f/\Ok M b F C s f/\D∉b/\f D=some (.dK j)/\cI M b f c j/\jC g t fk fv W (n.drop (i+1)) F C c=some (l,S'),
    λs f ⟨b,F,C,c,j,h1,h2,h3,h4,h5,h6⟩=>⟨n.length-(i+1),by omega,rfl,P,b,F,C,c,j,h1,h2,h3,h4,h5,h6⟩,λx H3 hy=> ?_⟩
   obtain⟨x3,a0,r3⟩:=a4 x H3 hy
   obtain⟨⟨h,S4⟩,e4,e5⟩:=au e2
   refine⟨d,B,U,_,h,S4,ok2.to x3 a0,r3,e4,λb3 b5 H4 x4 o=> ?_⟩
   obtain⟨⟨k,S5⟩,e6,e7⟩:=au e5
   refine⟨b3,h,S4,k,S5,o,e6,λY H5 X N=> ?_⟩
   have A:=(x3.trans x4).trans X
   have G:∀{b f},cG d H2 b f->f D=some (.dK j)/\D∉b:=λ{b f} x=>⟨x.keep _ _ hD2 (.inl n2),λm=>(x.new _ m).elim n2 λz=>by rw[z] at hD2;cases hD2⟩
   dsimp only at e7⊢
   split at e7
   ·rename_i ck
    rw[Qhq ck]
    obtain⟨⟨kx,S6⟩,e8,e9⟩:=au e7
    obtain⟨⟨y,S7⟩,b2,a3⟩:=au e9
    obtain⟨kk,b0,L⟩:=au a3
    refine⟨Y,h,S5,kx,S6,o.to X N,e8,λa1 kv H6 x6 b1 r6=>⟨a1,h,S6,y,S7,(o.to X N).to x6 b1,b2,λa5 v H7 x7 a8 r7=> ?_⟩⟩
    have K:=(A.trans x6).trans x7
    obtain⟨u,n7⟩:=G K
    have I:=racc.ext' K
    split at L
    ·rename_i cl
     refine⟨j,kk,uF r6 b0,u,by rw[←racc.length];exact cl,a5,h,S7,putD c kk y,_,(x2.trans K).off R _,⟨(((o.en.ext X).ext x6).ext x7).offK u,a8.offK u n7⟩,n7,cp,(I.put r7).imp λ_ _ r=>r.offK u,L⟩
    ·cases L
   ·rename_i ck
    rw[Quq ck]
    obtain⟨a6,n5⟩:=G A
    exact⟨Y,h,S5,c,j,x2.trans A,o.to X N,n5,a6,racc.ext' A,e7⟩
  ·cases e2
 ·have e3:i=n.length:=by omega
  subst e3
  rw[List.drop_length] at e2
  unfold jC at e2
  split at e2
  ·rename_i w
   obtain⟨rfl,rfl⟩:=cE e2
   obtain⟨w1,w2⟩:=wk n.length d U H2 x2 ok2.st w
   exact .inl ⟨w2 rfl,q d D j H2 (x1.trans x2) ok2.st (x1.grow _ R) n2 hD2 racc⟩
  ·cases e2
def Ni(n:Nat)(f:cB->aE->Option (List (Key×D)×aE)):cC:=λa S=>(f a S).bind λ(l,b)=>some (.nx (a.set n (some (.ref b.length))) (b++ [.dct l]))
section
variable{X:Cx}{pos:Pos}
def JG{N:List Str}{js:List (Option Nat)}{c:Scope}{p:List (Str×Addr)}{tg d w u f:Expr}{k:List Expr}{i:yb}{g:nI}{t:jL}{A F:bH}{n:Nat}{h:Pos}
  (S:aL X N js c p) (P:X.calm=true) (hi:PI X tg d (tI (md X) i))
  (L:∀C s H fp,PG (aP X N c p C s H fp) tg (tG (md X) g)) (ht:∀C s H fp,pG (aP X N c p C s H fp) k (tB (md X) t)) (M:∀C s H fp,PE (aP X N c p C s H fp) w (tD (md X) A)) (Q:∀C s H fp,PE (aP X N c p C s H fp) u (tD (md X) F)) (y:PG X f (qp n))
  (hs:∀x,foldedSetIterable d X.env x=pure x:=by intro _;rfl) (r:swapsWithSole [f] (.DictComp w u [⟨tg,d,k,0⟩] c pos) h.line X.env=pure true:=by rfl)
  (I:(assignEach [f] X.env).map (·.2)= [assign f X.env]:=by rfl):PS X (.Assign [f] (.DictComp w u [⟨tg,d,k,0⟩] c pos) h) (tS (md X) (Ni n (rD js i g t A F))):=
 Ek (Hw S P hi L ht M Q y hs r I) λD σ H Y=>by
  obtain⟨Z,Γ,S,o,ok,e,q⟩:=Y
  obtain⟨⟨l,S1⟩,R,e⟩:=au e
  cases e
  refine JY ok R λj a J B x G K U W rs=> ?_
  have v:=G.box (o:=.dct l) U ⟨J,W,rs.pre' (List.prefix_append j [a])⟩
  have z:cG Z H (j++ [a]) B:=⟨x.pre.trans (List.prefix_append _ _),λb m=>by
   rcases mQa.mp m with m|m
   ·exact x.new b m
   ·rw[Qfq] at m;subst m;exact .inr K,x.keep,x.grow⟩
  refine q (j++ [a]) _ B z ⟨((ok.en.ext z).set (.ref ?_)),v⟩
  rw[←G.len,QQq (Qmq _)]
  simp
end
end DL
namespace Zp
open PySem PySem.W PyProof.Rows
def j8(a:Nat->Nat->Bool):KasT (Array Nat)->Array Nat
 |.ret p=>p
 |.ask i j k=>j8 a (k (a i j))
theorem iT(a:Nat->Nat->Bool):∀t:KasT (Array Nat),j8 a t∈rP t
 |.ret p=>by simp[j8,rP]
 | .ask i j k=>by
   unfold j8 rP
   cases a i j with
   |true=>exact List.mem_append_left _ (iT a (k true))
   |false=>exact Qoq _ (iT a (k false))
theorem yy{a:Nat->Nat->(Bool->Shared->Prop)->Shared->Prop}{Q:Array Nat->Shared->Prop}{s:Shared}{n:Nat}{b:Nat->Nat->Bool}(c:∀i j C,i<n->j<n->i≠j->C (b i j) s->a i j C s):
  ∀t:KasT (Array Nat),we n t=true->Q (j8 b t) s->t.kasWp a Q s
 |.ret p,_,h=>h
 | .ask i j k,ha,h=>by
   simp only[we,QCq,decide_eq_true_eq] at ha
   obtain⟨⟨⟨⟨g,l⟩,d⟩,f⟩,m⟩:=ha
   refine c i j _ g l d ?_
   cases e:b i j with
   |true=>exact yy c (k true) f (by unfold j8 at h;rw[e] at h;exact h)
   |false=>exact yy c (k false) m (by unfold j8 at h;rw[e] at h;exact h)
def MK(fs:List Str)(i j:Nat):Bool:=decide ((fs.getD i "").cps.toList<(fs.getD j "").cps.toList)
def sortBy{α:Type}(fs:List Str)(d:α)(xs:List α):List α:=if xs.length<2 then xs else(j8 (MK fs) (kas_sort xs.length)).toList.map λi=>xs.getD i d
def fe{α:Type}{d:α}(fs:List Str)(xs:List α)(h:xs.length<=3):(sortBy fs d xs).Perm xs:=by
 unfold sortBy
 split
 ·exact List.Perm.refl _
 ·rename_i b
  obtain⟨_,a⟩:=uR xs.length h (by omega)
  have c:(j8 (MK fs) (kas_sort xs.length)).toList.Perm (List.range xs.length):=List.isPerm_iff.mp (QUq.mp a _ (iT _ _))
  have e:(List.range xs.length).map (λi=>xs.getD i d)=xs:=by
   apply List.ext_getElem
   ·simp
   ·intro i f b
    simp[Qlq,b]
  have:=c.map λi=>xs.getD i d
  rw[e] at this
  exact this
section
variable{prog:Program}{w:World}{A:Around}{E:Value->Shared->Prop}{s:Shared}
def Df{a:Addr}{vs:List Value}{fs:List Str}{n:Nat}{P:PySem.Fin->Shared->Prop}(I:s.heap.get? a=some (seqObj "list" vs.toArray n))(h3:vs.length<=3)(ht:fh s.heap vs fs)(hd:fs.Nodup)
  (q:∀K:Array Value,K.toList=sortBy fs Value.none vs->P (.done (.ret .none)) {s with heap:=sortedHeap s.heap a vs K}):wpAny (model prog w) A (Builtin.«list.sort» ⟨[.ref a],[]⟩) P E s:=by
 rw[list_sort_plain]
 have ha:a<s.heap.objs.size:=Qiq I
 refine Qaq (listItems_at I rfl (Qaq (listUpdate_at I rfl ?_ (by rw[Qjq,sizeLine_eq];omega) (Nat.zero_le _))))
 obtain⟨M,H⟩:∃M,(s.heap.update a (Obj.mapSeq λ_=> #[])).get? a=some (seqObj "list" #[] M):=⟨_,get?_update_seq I (λ_=> #[])⟩
 refine Qaq (seqEpoch_at H rfl (Qaq (wpAny_newTuple ?_ (by show vs.length<=_;rw[sizeLine_eq];omega))))
 refine Qaq (wpAny_newList (QLq ?_) (Nat.zero_le _))
 have g:(((s.heap.update a (Obj.mapSeq λ_=> #[])).push (seqObj "tuple" vs.toArray 0)).push (seqObj "list" #[] 0)).get? a=some (seqObj "list" #[] M):=Qcq _ (Qcq _ H)
 have m:fh (((s.heap.update a (Obj.mapSeq λ_=> #[])).push (seqObj "tuple" vs.toArray 0)).push (seqObj "list" #[] 0)) vs fs:=ht.keep λb o e c=>by
  have nb:b≠a:=λz=>by rw[z,I] at e;cases e;simp[seqObj] at c
  exact Qcq _ (Qcq _ (by rw[Heap.get?_update_ne _ _ _ _ nb];exact e))
 refine(?_:wpAny (model prog w) A _ P E {s with heap:=((s.heap.update a (Obj.mapSeq λ_=> #[])).push (seqObj "tuple" vs.toArray 0)).push (seqObj "list" #[] 0)})
 dsimp only
 by_cases F:vs.toArray.size<2
 ·rw[Qhq F,Qhq F]
  refine Qaq (Qgq ?_)
  rw[StateT.run_pure]
  refine Qaq (Qgq ?_)
  dsimp only
  have e2:((vs.toArray.zip vs.toArray).map (·.2))=vs.toArray:=by
   apply Array.toList_inj.mp
   simp
   exact List.map_snd_zip (Qmq _)
  refine Qaq (seqEpoch_at g rfl (Qaq (listUpdate_at g rfl ?_ (hsz2:=by
   refine QAq (Nat.le_of_eq (congrArg Array.size e2)) ?_
   rw[Qjq,sizeLine_eq]
   omega))))
  simp only[bne_self_eq_false,Bool.false_eq_true,if_false]
  refine Qgq ?_
  have:=q vs.toArray (by unfold sortBy;rw[Qhq (by simpa using F)])
  rw[←e2] at this
  exact this
 ·rw[Quq F,Quq F]
  have hn:2<=vs.length:=by simpa using F
  obtain⟨gs,kt,lg,mg⟩:=m.firsts
  have lf:=ht.len
  refine Qaq (kat_kind (T:=.type "str") kt (by omega) (λv hv=> ?_) rfl ?_)
  ·obtain⟨x,t,rfl⟩:=mg v hv
   exact .now
  obtain⟨ok,perm⟩:=uR vs.length h3 hn
  have L:SortSt.mk' (tuples' true) (vs.toArray.zip vs.toArray) #[] 7 none=kas_st (tuples' true) (pairsOf vs) (List.toArray (List.range vs.length)):=by
   have e:=kas_range (pairsOf vs)
   rw[pairsOf_size] at e
   refine(?_:SortSt.mk' (tuples' true) (pairsOf vs) #[] 7 none=SortSt.mk' (tuples' true) ((List.toArray (List.range vs.length)).map (kas_item (pairsOf vs))) #[] 7 none)
   rw[e]
  refine(?_:wpAny (model prog w) A (StateT.run sortRuns' (SortSt.mk' (tuples' true) (vs.toArray.zip vs.toArray) #[] 7 none) >>= _) P E _)
  rw[L]
  have U:=kas_runs (prog:=prog) (w:=w) (A:=A) (E:=E) (κ:=tuples' true) (it:=pairsOf vs) (n:=vs.length)
   (s:={s with heap:=((s.heap.update a (Obj.mapSeq λ_=> #[])).push (seqObj "tuple" vs.toArray 0)).push (seqObj "list" #[] 0)})
   (G:=λp J=>p=j8 (MK fs) (kas_sort vs.length)/\J={s with heap:=((s.heap.update a (Obj.mapSeq λ_=> #[])).push (seqObj "tuple" vs.toArray 0)).push (seqObj "list" #[] 0)})
   (Q:=λ_ f J=>J={s with heap:=((s.heap.update a (Obj.mapSeq λ_=> #[])).push (seqObj "tuple" vs.toArray 0)).push (seqObj "list" #[] 0)}/\failedOf f=none/\∃p,p=j8 (MK fs) (kas_sort vs.length)/\arrOf f=p.map (kas_item (pairsOf vs)))
   hn (by omega) (λp' f J a1 a2 a3 a4=>⟨a4.2,a3,p',a4.1,a2⟩) (yy (n:=vs.length) (λi j C hi hj X hC=> ?_) _ ok ⟨rfl,rfl⟩)
  ·refine Qaq (QRq U ?_ λ_ _ e=>e)
   rintro⟨⟨⟩,f⟩ J ⟨rfl,hf,p,hp,har⟩
   dsimp only
   have l:((arrOf f).map (·.2)).toList=sortBy fs Value.none vs:=by
    unfold sortBy
    rw[Quq (by omega),har,Array.map_map,Array.toList_map,hp]
    refine List.map_congr_left λk _=> ?_
    show(kas_item (pairsOf vs) k).2=_
    rw[kas_item_eq]
   have h:=fe (d:=Value.none) fs vs h3
   have N:((arrOf f).map (·.2)).size=vs.length:=by
    have:=congrArg List.length l
    rw[h.length_eq] at this
    simpa using this
   refine Qaq (seqEpoch_at g rfl (Qaq (listUpdate_at g rfl ?_ (hsz2:=by
    refine QAq (Nat.le_of_eq N) ?_
    rw[sizeLine_eq]
    omega))))
   rw[hf]
   simp only[bne_self_eq_false,Bool.false_eq_true,if_false]
   exact Qgq (q _ l)
  ·unfold kas_cmp
   rw[kas_item_eq,kas_item_eq]
   obtain⟨x,ox,Z,nx,tx,ex,gx,dx,fx⟩:=m.get (i:=i) (by omega)
   obtain⟨y,oy,ys,ny,ty,ey,gy,dy,fy⟩:=m.get (i:=j) (by omega)
   dsimp only
   rw[ex,ey]
   have S:¬fs.getD i ""=fs.getD j "":=λz=>by
    have B:i<fs.length:=by omega
    have u:j<fs.length:=by omega
    rw[Qlq,Qlq,gQe B,gQe u] at z
    have z':fs[i]=fs[j]:=z
    rcases Nat.lt_or_gt_of_ne X with Y|Y
    ·exact List.pairwise_iff_getElem.mp hd i j B u Y z'
    ·exact List.pairwise_iff_getElem.mp hd j i u B Y z'.symm
   refine kat_lt gx dx gy dy ?_
   obtain⟨xr,R⟩:∃r,Z.toList=.str (fs.getD i "") tx::r:=by
    cases e:Z.toList with
    |nil=>have:=congrArg (·[0]?) e;simp[fx] at this
    |cons v r=>have:=congrArg (·[0]?) e;simp[fx] at this;exact⟨r,by rw[Qlq,this]⟩
   obtain⟨yr,W⟩:∃r,ys.toList=.str (fs.getD j "") ty::r:=by
    cases e:ys.toList with
    |nil=>have:=congrArg (·[0]?) e;simp[fy] at this
    |cons v r=>have:=congrArg (·[0]?) e;simp[fy] at this;exact⟨r,by rw[Qlq,this]⟩
   rw[R,W,List.zip_cons_cons]
   refine kat_cons (wpAny_eqBool_str ?_)
   rw[Qdq S]
   exact kat_no (oneLt_str hC)
def zM{l:Addr}{vs:List Value}{fs:List Str}{Q:Value->Shared->Prop}(h:s.heap.IsList l vs.toArray)(g:vs.length<=3)(ht:fh s.heap vs fs)(hd:fs.Nodup)
  (q:∀a:Array Value,a.toList=sortBy fs Value.none vs->Q (.ref (s.heap.objs.size+1)) {s with heap:=sortedAll s.heap vs a}):wpAny (model prog w) A (call (.builtin "sorted") [.ref l]) Q E s:=by
 refine Calls.call_function_entry kind_sorted plain_sorted entry_sorted (args_sorted1 _) ?_
 unfold Builtin.«sorted»
 refine Qaq (m:=checkCount "sorted" 1 1 _) (Qgq (Qaq (collect_list h (Qaq (wpAny_newList ?_ (by rw[sizeLine_eq];omega))) (by rw[sizeLine_eq];omega))))
 have d:((s.heap.push (seqObj "list" #[] 0)).update s.heap.objs.size (Obj.mapSeq (·++vs.toArray))).objs.size=s.heap.objs.size+1:=by rw[Heap.size_update,size_push']
 have f:(((s.heap.push (seqObj "list" #[] 0)).update s.heap.objs.size (Obj.mapSeq (·++vs.toArray))).push (seqObj "list" vs.toArray 0)).get? (s.heap.objs.size+1)=some (seqObj "list" vs.toArray 0):=by
  rw[←d]
  exact Qrq _ rfl
 have c:fh (((s.heap.push (seqObj "list" #[] 0)).update s.heap.objs.size (Obj.mapSeq (·++vs.toArray))).push (seqObj "list" vs.toArray 0)) vs fs:=ht.keep λb o e _=>by
  have j:b<s.heap.objs.size:=Qiq e
  refine Qcq _ ?_
  rw[Heap.get?_update_ne _ _ _ _ (Qwq j)]
  exact Qcq _ e
 refine(?_:wpAny _ _ _ _ _ {s with heap:=((s.heap.push (seqObj "list" #[] 0)).update s.heap.objs.size (Obj.mapSeq (·++vs.toArray))).push (seqObj "list" vs.toArray 0)})
 rw[d]
 refine Qaq (QLq (wpAny_call_entry slot_list_sort ⟨_,f,rfl⟩ entry_list_sort (Df f g c hd λa i=>⟨_,rfl,?_⟩) (args_list_sort _)))
 exact Qgq ⟨_,rfl,q a i⟩
end
end Zp
namespace L2
open PySem PySem.Spec PyProof.Rows
section
variable{X:Cx}
def KB(K:PySem.W.Frag):List V->Hp->VK->Prop:=λd H Q=>∃(a:Addr) (b:List Addr) (c:List Str),d= [.ref a]/\je K H a (b.map V.ref)/\b.length<=3/\x8 H b c/\c.Nodup/\∀(l:Addr),H l=none->Q (.ref l) (upd H l (.lst ((Zp.sortBy c 0 b).map V.ref)))
def xb:kd X (.builtin "sorted") (KB X.K):=by
 intro l s F H A B Q I r h
 obtain⟨a,c,k,rfl,ha,h3,hF,hd,q⟩:=h
 obtain⟨u,rfl,rx⟩:=vals1 r
 cases (show u=Value.ref a from rx)
 obtain⟨z,t,y,C⟩:=I.list ha
 cases xV t
 have j:s.heap.objs.size<=s.heap.objs.size+1:=Nat.le_succ _
 refine Zp.zM y.isList (by simpa using h3) (A1 I hF) hd λd p=> ?_
 have x:d.toList=(Zp.sortBy k 0 c).map Value.ref:=by
  rw[p]
  unfold Zp.sortBy
  rw[lQm]
  split
  ·rfl
  ·rename_i G
   rw[QPq]
   obtain⟨_,g⟩:=Zp.uR c.length h3 (by omega)
   have f:(Zp.j8 (Zp.MK k) (PySem.W.kas_sort c.length)).toList.Perm (List.range c.length):=List.isPerm_iff.mp (QUq.mp g _ (Zp.iT _ _))
   refine List.map_congr_left λi m=> ?_
   have n:i<c.length:=List.mem_range.mp (f.mem_iff.mp m)
   show(c.map Value.ref).getD i Value.none=Value.ref (c.getD i 0)
   rw[Qlq,Qlq,gQm,gQe n]
   rfl
 obtain⟨e,v⟩:=sortedAll_at s.heap (c.map Value.ref) d
 refine⟨.ref (s.heap.objs.size+1),_,I.laid (a:=s.heap.objs.size+1) (o:=.lst ((Zp.sortBy k 0 c).map V.ref)) (h':=sortedAll s.heap (c.map Value.ref) d) (t':=s.toks) (λb o w=>sortedAll_old w) j ⟨?_,d.toList,e,?_,?_⟩,rfl,q _ (I.hok.fresh j)⟩
 ·rw[lQm,(Zp.fe k c h3).length_eq]
  exact QAq h3 (by decide)
 ·have:=vp (Zp.sortBy k 0 c)
  rw[←x] at this
  exact this
 ·simpa using v
end
end L2
namespace DL
open PySem PySem.Spec PyProof.Rows L2
def xZ(a b:Str):Prop:=¬(b.cps.toList<a.cps.toList)
instance(a b:Str):Decidable (xZ a b):=by unfold xZ;infer_instance
def F4(a b:Str):xZ a b\/xZ b a:=by
 by_cases h:b.cps.toList<a.cps.toList
 ·exact .inr λc=>List.lt_asymm h c
 ·exact .inl h
def xO{a b c:Str}(d:xZ a b)(e:xZ b c):xZ a c:=by
 unfold xZ at *
 rw[List.not_lt] at *
 exact List.le_trans d e
def II{a b:Str}(d:xZ a b)(c:xZ b a):a=b:=by
 unfold xZ at *
 rw[List.not_lt] at *
 have:=List.le_antisymm d c
 cases a
 cases b
 simp only[Str.mk.injEq]
 exact Array.toList_inj.mp this
def Dw(x:Str):List Str->List Str
 | []=> [x]
 |y::r=>if xZ x y then x::y::r else y::Dw x r
def rS:List Str->List Str
 | []=> []
 |x::r=>Dw x (rS r)
theorem sG(x:Str):∀l:List Str,(Dw x l).Perm (x::l)
 | []=>List.Perm.refl _
 | y::r=>by
   unfold Dw
   split
   · exact List.Perm.refl _
   · exact((sG x r).cons y).trans (List.Perm.swap _ _ _)
theorem jx:∀l:List Str,(rS l).Perm l
 | []=>List.Perm.refl _
 |x::r=>(sG x _).trans ((jx r).cons x)
theorem tT{x:Str}:∀{l:List Str},l.Pairwise xZ->(Dw x l).Pairwise xZ
 | [],_=>by simp[Dw]
 | y::r,h=>by
   rw[List.pairwise_cons] at h
   unfold Dw
   split
   · rename_i c
     refine List.pairwise_cons.mpr ⟨λz a=> ?_,List.pairwise_cons.mpr h⟩
     rcases Qsq.mp a with rfl|a
     · exact c
     · exact xO c (h.1 z a)
   · rename_i c
     refine List.pairwise_cons.mpr ⟨λz a=> ?_,tT h.2⟩
     rcases Qsq.mp ((sG x r).mem_iff.mp a) with rfl|a
     · exact(F4 _ _).resolve_left c
     · exact h.1 z a
theorem oI:∀l:List Str,(rS l).Pairwise xZ
 | []=>List.Pairwise.nil
 |x::r=>tT (oI r)
def y4:∀{l:List Str},sortedS l=true->l.Pairwise xZ
 | [],_=>List.Pairwise.nil
 | x::r,h=>by
   have e:∀(r:List Str) (x:Str),risingS x r=true->(x::r).Pairwise xZ:=by
     intro r
     induction r with
     |nil=>intro x _;simp
     | cons y r d=>
       intro x h
       unfold risingS at h
       simp only[QCq] at h
       have b:=d y h.2
       have c:xZ x y:=by
         have:=h.1
         unfold xZ
         rw[ltCps_eq] at this
         simpa using this
       refine List.pairwise_cons.mpr ⟨λz a=> ?_,b⟩
       rcases Qsq.mp a with rfl|a
       · exact c
       · exact xO c ((List.pairwise_cons.mp b).1 z a)
   exact e r x h
def Gf{c ss:List Str}(h:sortedS c=true)(p:c.Perm ss):c=rS ss:=
 List.Perm.eq_of_pairwise (le:=xZ) (λa b _ _ d e=>II d e) (y4 h) (oI ss) (p.trans (jx ss).symm)
end DL
namespace L2
open PySem PySem.Spec PyProof.Rows
end L2
namespace DL
open PySem PySem.Spec L2
section
variable{X:Cx}{a b e:Expr}{pos:Pos}
def xY:List D->Option (List Str)
 | []=>some []
 |.str x::r=>(xY r).bind λc=>some (x::c)
 |_::_=>none
theorem B4{M:Md}{ρ:List Addr}{H:Hp}:∀{ds:List D} {vs:List V} {xs:List Str},bc M ρ H ds vs->xY ds=some xs->vs=xs.map V.str
 | [],_,_,h,e=>by cases h;cases e;rfl
 | d::ds,_,_,h,e=>by
   cases d with
   | str b=>
     simp only[xY] at e
     obtain⟨c,g,e⟩:=au e
     cases e
     cases h with
     | cons h f=>
       cases h
       rw[B4 f g]
       rfl
   |_=>cases e
theorem xS{M:Md}{ρ:List Addr}{H:Hp}:∀ss:List Str,bc M ρ H (ss.map D.str) (ss.map V.str)
 | []=>.nil
 |s::ss=>.cons (.str s) (xS ss)
def Fc(f:fw):ie:=λd S=>(f d S).bind λ(p,g)=>if p.2.isL=true then(xY p.1).bind λc=>if c.length<64 then some ((rS c).map D.str,g) else none else none
def NR{f:fw}{p:Pos}(u:Gl X "sorted")(j:X.mg "sorted"=none)(A:PE X a (tQ (md X) f))(hs:starEach [a] X.env= [(false,eval a X.env)]:=by rfl):
  PE X (.Call (.Name "sorted" p) [a] [] pos) (tL (md X) (Fc f)):=
 kn (jW yF u j PyProof.Rows.boot_sorted (eF A iu hs) (he:=hs)) λL H Q B=>by
  obtain⟨F,v,S,d,I,ok,e,q⟩:=B
  obtain⟨⟨⟨n,t⟩,o⟩,z,e⟩:=au e
  dsimp only at e
  split at e
  ·rename_i c
   obtain⟨G,w,e⟩:=au e
   split at e
   ·rename_i y
    obtain⟨rfl,rfl⟩:=cE e
    refine⟨F,v,S,n,t,o,ok,z,λm a J K x i h r=>⟨a,G,rfl,?_,y,λl s g k C=> ?_⟩⟩
    ·rw[←B4 r w];exact h.sqL c
    ·cases Gf k C
     exact q _ _ _ _ (x.trans (cG.laid g)) (i.lay g) (x.grow _ g) (eE x i g) cp (xS _)
   ·cases e
  ·cases e
def tJ:List D->Option (List Str)
 | []=>some []
 |.tup (.str x::_)::r=>(tJ r).bind λc=>some (x::c)
 |_::_=>none
theorem Bb{M:Md}{ρ:List Addr}{H:Hp}:∀{ds:List D} {vs:List V} {xs:List Str},bc M ρ H ds vs->tJ ds=some xs->∃rs:List Addr,vs=rs.map V.ref/\x8 H rs xs
 | [],_,_,h,e=>by cases h;cases e;exact⟨[],rfl,.nil⟩
 | .tup (.str x::us)::r,_,_,h,e=>by
   simp only[tJ] at e
   obtain⟨f,i,e⟩:=au e
   cases e
   cases h with
   | cons h g=>
     cases h with
     | tup h c=>
       obtain⟨rs,rfl,F⟩:=Bb g i
       cases c with
       | cons d c=>
         cases d
         exact⟨_::rs,rfl,.cons h F⟩
 |.tup (.non::_)::_,_,_,_,e=>by cases e
 |.tup (.bl _::_)::_,_,_,_,e=>by cases e
 |.tup (.int _::_)::_,_,_,_,e=>by cases e
 |.tup (.tup _::_)::_,_,_,_,e=>by cases e
 |.tup (.ref _::_)::_,_,_,_,e=>by cases e
 |.tup (.fn _::_)::_,_,_,_,e=>by cases e
 |.tup []::_,_,_,_,e=>by cases e
 |.non::_,_,_,_,e=>by cases e
 |.bl _::_,_,_,_,e=>by cases e
 |.int _::_,_,_,_,e=>by cases e
 |.str _::_,_,_,_,e=>by cases e
 |.ref _::_,_,_,_,e=>by cases e
 |.fn _::_,_,_,_,e=>by cases e
def v8(ss:List Str)(ds:List D):List D:=Zp.sortBy ss .non ds
def wB{α l:Type}{R:α->l->Prop}{ss:List Str}{xs:List α}{ys:List l}{d:α}{d':l}(o:xs.length=ys.length)(n:xs.length<=3)(h:∀(i:Nat) (x:α),xs[i]?=some x->∃y,ys[i]?=some y/\R x y):
  ∀(i:Nat) (x:α),(Zp.sortBy ss d xs)[i]?=some x->∃y,(Zp.sortBy ss d' ys)[i]?=some y/\R x y:=by
 intro i x e
 unfold Zp.sortBy at *
 rw[←o]
 split at e
 ·rename_i c;rw[Qhq c];exact h i x e
 ·rename_i s
  obtain⟨_,g⟩:=Zp.uR xs.length n (by omega)
  have f:(Zp.j8 (Zp.MK ss) (PySem.W.kas_sort xs.length)).toList.Perm (List.range xs.length):=List.isPerm_iff.mp (QUq.mp g _ (Zp.iT _ _))
  rw[gQm] at e
  obtain⟨k,m,e⟩:=oQm.mp e
  have j:k<xs.length:=List.mem_range.mp (f.mem_iff.mp (mQg m))
  have p:xs[k]?=some x:=by
   rw[Qlq,gQe j] at e
   rw[gQe j]
   exact congrArg some e
  obtain⟨y,q,r⟩:=h k x p
  refine⟨y,?_,r⟩
  rw[Quq (by omega),gQm,m]
  simp[Qlq,q]
theorem bc.of_get{M:Md}{ρ:List Addr}{H:Hp}:∀{ds:List D} {vs:List V},ds.length=vs.length->(∀(i:Nat) (d:D),ds[i]?=some d->∃v,vs[i]?=some v/\Rel M ρ H d v)->bc M ρ H ds vs
 | [],[],_,_=>.nil
 | [],_::_,h,_=>by cases h
 |_::_,[],h,_=>by cases h
 | d::ds,v::vs,h,g=>by
   obtain⟨f,e,r⟩:=g 0 d rfl
   cases e
   exact .cons r (bc.of_get (Nat.succ.inj h) λi d c=>by
     obtain⟨v,e,r⟩:=g (i+1) d (by simpa using c)
     exact⟨v,by simpa using e,r⟩)
def zr(f:fw):ie:=λd S=>(f d S).bind λ(p,g)=>if p.2.isL=true then(tJ p.1).bind λc=>if p.1.length<=3/\c.Nodup then some (v8 c p.1,g) else none else none
def FS{f:fw}{p:Pos}(G:Gl X "sorted")(B:X.mg "sorted"=none)(P:PE X a (tQ (md X) f))(hs:starEach [a] X.env= [(false,eval a X.env)]:=by rfl):
  PE X (.Call (.Name "sorted" p) [a] [] pos) (tL (md X) (zr f)):=
 kn (jW xb G B PyProof.Rows.boot_sorted (eF P iu hs) (he:=hs)) λσ H Q U=>by
  obtain⟨W,I,S,d,Y,ok,e,q⟩:=U
  obtain⟨⟨⟨k,t⟩,C⟩,N,e⟩:=au e
  dsimp only at e
  split at e
  ·rename_i c
   obtain⟨u,J,e⟩:=au e
   split at e
   ·rename_i m
    obtain⟨rfl,rfl⟩:=cE e
    refine⟨W,I,S,k,t,C,ok,N,λj a Z K x A h r=> ?_⟩
    obtain⟨s,rfl,F⟩:=Bb r J
    have w:k.length=s.length:=by have:=r.length;simpa using this
    refine⟨a,s,u,rfl,h.sqL c,by omega,F,m.2,λl g=> ?_⟩
    refine q _ _ _ _ (x.trans (cG.laid g)) (A.lay g) (x.grow _ g) (eE x A g) cp (bc.ext (cG.laid g) ?_)
    refine bc.of_get ?_ λi d o=> ?_
    ·rw[lQm]
     unfold v8
     rw[(Zp.fe u k m.1).length_eq,(Zp.fe u s (by omega)).length_eq,w]
    ·obtain⟨y,n,M⟩:=wB (R:=λ(d:D) (a:Addr)=>Rel (md X) j K d (.ref a)) (d':=0) w m.1 (λi d o=>by
      obtain⟨v,z,L⟩:=r.get o
      rw[gQm] at z
      obtain⟨y,n,rfl⟩:=oQm.mp z
      exact⟨y,n,L⟩) i d o
     exact⟨.ref y,by rw[gQm,n];rfl,M⟩
   ·cases e
  ·cases e
end
def uP{P:Program}{w:World}{K:PySem.W.Frag}{mg:Str->Option Value}{base:Heap}{f:Addr}{c:FuncData}{ps:List Str}{k n:Nat}:bh P w K mg base dm k f c ps (dN ⟨K,mg⟩ n λ_ _=>none):=
 {len:=λd H Q E h=>by
   obtain⟨_,_,_,_,_,_,_,_,e,_⟩:=h
   cases e
  run:=λA a s H b g d Q E _ _ _ _ h=>by
   obtain⟨_,_,_,_,_,_,_,_,e,_⟩:=h
   cases e}
end DL
namespace Zq
open PySem PyProof.Rows
end Zq
namespace L2
open PySem PyProof.Rows Zq
end L2
namespace DL
open PySem PySem.Spec L2
structure Eo(P:Program)(w:World)(K:PySem.W.Frag)(mg:Str->Option Value)(x:Str)(tbl:List (Str×Str)):Prop where
 at_:∃a,mg x=some (.ref a)/\∀h:Heap,K.In h->∃vs,h.DictOf (cc P w) a vs/\∀k nm,tbl.lookup k=some nm->∃f,valueAt vs (Sum.inr k:Key)=some (.ref f)/\mg nm=some (.ref f)
section
variable{X:Cx}{a b c e:Expr}{pos:Pos}
def OG(d:List (Str×Str))(g:bH):bH:=λh S=>(g h S).bind λ(y,i)=>match y with
 |.str x=>(d.lookup x).bind λf=>some (.fn f,i)
 |_=>none
def Jf{x:Str}{i:List (Str×Str)}{g:bH}{p:Pos}(hD:Eo X.prog X.w X.K X.mg x i)(N:Gl X x)(hb:PE X b (tD (md X) g))(hs:Kx b)(hd:(x==("__debug__":Str))=false:=by decide):
  PE X (.Subscript (.Name x p) b pos) (tD (md X) (OG i g)):=by
 rintro j s W H Q I ⟨B,P,S,d,S',ok,e,q⟩
 obtain⟨a,G,hK⟩:=hD.at_
 obtain⟨⟨y,u⟩,e1,e⟩:=au e
 cases y with
 | str z=>
   obtain⟨Z,R,e⟩:=au e
   obtain⟨rfl,rfl⟩:=cE e
   refine Ff PySem.F.slot_dict_getitem.lookup hs (zY I N G ?_ hd)
   refine c_ (hb j s W H (λv l=>∃h,cG B H h l/\gC (md X) h u l/\Rel (md X) h l (.str z) v) I ⟨B,P,S,_,u,ok,e1,λh v l x Y r=>⟨h,x,Y,r⟩⟩) λiv J qr=> ?_
   obtain⟨v,H2,t,rv,h,M,m,C⟩:=qr
   obtain⟨vs,A,hv⟩:=hK _ t.kIn
   obtain⟨f,U,n⟩:=hv z Z R
   cases C
   have ty:J.TypeIs (.ref a) "dict":=by
     obtain⟨o,es,ep,L,h2,h3,_⟩:=A
     exact⟨o,L,h2.1⟩
   refine⟨ty,wpAny_getItem_of (BK (k:=Sum.inr z) rv) A.mapOf U ?_⟩
   exact⟨.ref f,H2,t.tok _,rfl,q _ _ _ M m (.fn n)⟩
 |_=>cases e
def vo(i:Nat)(T:List (Str×cR))(g:ie):bH:=λd S=>match d[i]? with
 |some (some (.fn x))=>(T.lookup x).bind λF=>ax F g d S
 |_=>none
def Kc{i k:Nat}{y:Str}{ps:List Str}{T:List (Str×cR)}{j:List Expr}{g:ie}{p:Pos}(U:∀x F,T.lookup x=some F->eA X.prog X.w X.K X.mg X.base k x ps F)(Z:fZ k X.A)(hN:X.N[i]?=some y)(hv:KF X.env.scope y)
  (ha:PA X (e::j) (B8 (md X) g)) (hn:nA ps.length g) (n:(y==("__debug__":Str))=false:=by decide) (B:(y==("__classdict__":Str))=false:=by decide) (he:starEach (e::j) X.env=(false,eval e X.env)::starEach j X.env:=by rfl) (hpl:(backTo pos (starEach j X.env)).any (·.1)=false:=by rfl):
  PE X (.Call (.Name y p) (e::j) [] pos) (tD (md X) (vo i T g)):=by
 rintro h s o H Q I ⟨ρ,Γ,S,d,M,ok,e,q⟩
 unfold vo at e
 split at e
 ·rename_i x hx
  obtain⟨F,t,e⟩:=au e
  obtain⟨f,fd,G,P,kp,m⟩:=(U x F t).ex
  obtain⟨v,z,rv⟩:=ok.en.get i _ hx
  cases rv with
  | fn R=>
    have L:(md X).mg x=some (.ref f):=m
    rw[R] at L
    cases L
    refine wpAny_Call_Name_kw (c_ (GH hN hv n B h s o H (λJ l=>J=.ref f/\l=H) I ⟨_,z,rfl,rfl⟩) λu Y qr=> ?_)
    obtain⟨J,l,I1,r1,t,e2⟩:=qr
    subst t e2
    cases (show u=Value.ref f from r1)
    refine PySem.W.callWith_K (h₀:=X.base) I.ok.mod.kin kp (c_ (ha pos h Y o l _ I1 (D7 hn o l Q ⟨ρ,Γ,S,d,M,ok,e,q⟩)) λus s2 ⟨vs,H1,C,r,q2⟩=>⟨C.kIn,?_⟩) he hpl
    exact GJ G Z P .nil mW C r q2
 ·cases e
end
def DC(w:World)(x:Str):PyData.keyHash w.params x=hashStr w x:=by
 unfold PyData.keyHash hashStr
 first|rfl|simp
inductive Al(w:World)(mg:Str->Option Value):List DictEntry->List (Str×Str)->Prop
 |nil:Al w mg [] []
 |cons {x nm:Str} {t:Tok} {f:Addr} {es:List DictEntry} {tbl:List (Str×Str)}:mg nm=some (.ref f)->Al w mg es tbl->Al w mg (⟨PyData.keyHash w.params x,.str x t,.ref f⟩::es) ((x,nm)::tbl)
def Al.keys{P:Program}{w:World}{mg:Str->Option Value}{b:List DictEntry}{a:List (Str×Str)}(c:Al w mg b a):∀e∈b,∃k,(cc P w).is k e.key=true/\e.hash=(cc P w).hash k:=by
 induction c with
 |nil=>intro e h;cases h
 | @cons x nm t f b a hm c ih=>
   intro e h
   rcases Qsq.mp h with rfl|h
   · exact⟨Sum.inr x,sy x t,DC w x⟩
   · exact ih e h
def Al.pairs{P:Program}{w:World}{mg:Str->Option Value}{b:List DictEntry}{a:List (Str×Str)}(e:Al w mg b a):∃vs:List (Key×Value),Pairs (cc P w) b vs/\vs.map (·.1)=a.map (λp=>Sum.inr p.1)∧
  ∀k nm,a.lookup k=some nm->∃f,valueAt vs (Sum.inr k:Key)=some (.ref f)/\mg nm=some (.ref f):=by
 induction e with
 |nil=>exact⟨[],.nil,rfl,λk nm h=>by cases h⟩
 | @cons x nm t f b a hm e ih=>
   obtain⟨vs,j,o,i⟩:=ih
   refine⟨(Sum.inr x,.ref f)::vs,.cons (sy x t) rfl j,by simp[o],λk n h=> ?_⟩
   by_cases c:k=x
   · subst c
     rw[List.lookup_cons_self] at h
     cases h
     refine⟨f,?_,hm⟩
     unfold valueAt
     rw[List.find?_cons_of_pos (by simp)]
     rfl
   · have m:(k==x)=false:=by simpa using c
     rw[List.lookup_cons,m] at h
     obtain⟨g,d,l⟩:=i k n h
     refine⟨g,?_,l⟩
     unfold valueAt at d⊢
     rw[List.find?_cons_of_neg]
     · exact d
     · intro z
       have:(Sum.inr x:Key)=Sum.inr k:=by simpa using z
       exact c (Sum.inr.inj this).symm
def HZ{P:Program}{w:World}{K:PySem.W.Frag}{mg:Str->Option Value}{x:Str}{c:List (Str×Str)}{a:Addr}{d:List DictEntry}{o:Nat}(i:mg x=some (.ref a))(l:K.lookup a=some ⟨.type "dict",none,.dict d.toArray o,#[]⟩)(f:Al w mg d c)(nd:(c.map (·.1)).Nodup):Eo P w K mg x c:=by
 obtain⟨k,j,r,g⟩:=f.pairs (P:=P)
 refine⟨a,i,λh m=>⟨k,⟨_,_,_,m _ _ l,⟨rfl,rfl,rfl⟩,rfl,λe q=>f.keys e (by simpa using q),by simpa using j,?_⟩,g⟩⟩
 rw[r]
 have:c.map (λp=>(Sum.inr p.1:Key))=(c.map (·.1)).map Sum.inr:=by rw[QPq];rfl
 rw[this]
 exact List.Pairwise.map _ (λa b n e=>n (Sum.inr.inj e)) nd
theorem IW{P:Program}{w:World}{K:PySem.W.Frag}{mg:Str->Option Value}{base:Heap}{k:Nat}{ps:List Str}:∀{T:List (Str×cR)},(∀p∈T,eA P w K mg base k p.1 ps p.2)->∀x F,T.lookup x=some F->eA P w K mg base k x ps F
 | [],_,x,F,h=>by cases h
 | p::T,g,x,F,h=>by
   by_cases c:x=p.1
   · subst c
     rw[List.lookup_cons_self] at h
     cases h
     exact g p (QBq ..)
   · have b:(x==p.1)=false:=by simpa using c
     rw[List.lookup_cons,b] at h
     exact IW (λq a=>g q (Qpq _ a)) x F h
def BG:Sp:=λc H Q _=>∃(a:Addr) (b:List Int) (o:Obj),c= [.ref a]/\H a=some (.frz o (.lst (b.map V.int)))/\b.length<=63/\∀d,Q (.bl true) d
theorem x9{M:Md}{ρ:List Addr}{H:Hp}:∀ns:List Int,bc M ρ H (ns.map D.int) (ns.map V.int)
 | []=>.nil
 |s::ss=>.cons (.int s) (x9 ss)
def JF{P:Program}{w:World}{K:PySem.W.Frag}{mg:Str->Option Value}{base:Heap}{k:Nat}{f:Addr}{g:FuncData}{ps:List Str}{F:cR}(G:bh P w K mg base dm k f g ps (dN ⟨K,mg⟩ 1 F))
  (h:∀ns:List Int,ns.length<=63->∃c,F [.ref 0] [.frz (ns.map D.int)]=some (.d (.bl true),c)):bh P w K mg base dm k f g ps BG:=
 G.imp λu H Q E p=>by
  obtain⟨a,ns,o,e,n,l,q⟩:=p
  subst e
  obtain⟨c,e⟩:=h ns l
  refine⟨[a],[.frz (ns.map D.int)],[.ref 0],_,c,rfl,.cons (.ref rfl) .nil,⟨rfl,by simp,λk b t i s=> ?_⟩,e,λj v m x y r=> ?_⟩
  ·cases k with
   |zero=>cases i;cases s;exact⟨_,o,n,x9 ns⟩
   |succ k=>simp at i
  ·cases r
   exact q m
def Dz(K:PySem.W.Frag):Bool:=K.all λp=>match p.2.data with|.seq _ _=>(match p.2.cls with|.type s=>s !="list" |_=>true)|_=>true
def Gj{K:PySem.W.Frag}(h:Dz K=true){a:Addr}{o:Obj}(e:K.lookup a=some o){f:Array Value}{n:Nat}(hd:o.data=.seq f n):o.cls≠.type "list":=by
 intro j
 have d:∀(K:List (Addr×Obj)),K.all (λp=>match p.2.data with|.seq _ _=>(match p.2.cls with|.type s=>s !="list" |_=>true)|_=>true)=true->K.lookup a=some o->False:=by
  intro K
  induction K with
  |nil=>intro _ e;cases e
  | cons p K i=>
    intro h e
    rw[List.all_cons,QCq] at h
    obtain⟨b,q⟩:=p
    rw[List.lookup_cons] at e
    by_cases c:a=b
    · subst c
      simp only[BEq.rfl] at e
      cases e
      have g:=h.1
      simp only[hd,j] at g
      simp at g
    · have k:(a==b)=false:=by simpa using c
      rw[k] at e
      exact i h.2 e
 exact d K h e
def Ob{K:PySem.W.Frag}{H:Hp}{a:Addr}{ns:List Int}(d:Dz K=true)(b:ns.length<=63)(e:JB H)(c:je K H a (ns.map V.int)):BG [.ref a] H (λv _=>v=.bl true) λ_ _ _=>False:=by
 rcases c with(h|⟨o,h⟩)|⟨o,its,n,h,hc,_,hd,_⟩
 ·rcases e a with z|⟨o,f,z⟩
  ·rw[h] at z;cases z
  ·rw[h] at z;cases z
 ·exact⟨a,ns,o,rfl,h,b,λ_=>rfl⟩
 ·exact absurd hc (Gj d h hd)
def MZ{l:PySem.W.OpenLaw}{q:Program}{b:List Str}{t:(Str->Option Value)->Heap->Prop}{g:World->Heap->Prop}{d:DefRec}{K:Params->PySem.W.Frag}{k:Nat}(p:l.most=some 63)(c:d.params.defaults= [])(j:fZ k PySem.callerA)
  (v:∀(w:World) (h:Heap),g w h->(K w.params).In h) (o:∀w:World,Dz (K w.params)=true)
  (F:∀(w:World) (mg:Str->Option Value) (i:Addr) (h:Heap),(K w.params).In h->h.Ns mainGlobals mg->mg d.name=some (.ref i)→
   ∃e:FuncData,(∀(s:Shared) (u:Value),BindsTo s e ⟨[u],[]⟩ [("_law_script",u)])/\∀base:Heap,(K w.params).In base->base.Ns mainGlobals mg->bh l.prog w (K w.params) mg base dm k i e ["_law_script"] BG):
  PySem.W.WalkO q b t g l.row.toRowW d [] (λf vs=>PySem.call f vs):=
 L2.JE (n:=63) (k:=k) (x:="_law_script") (CX:=λ_=>dm) (sp:=λ_=>BG) p (by decide) c j v F (λw H a A m y r=>Ob (o w) m y r) λ_ _ _ _ _ z=>z
end DL
namespace DL
open PySem PySem.Spec L2 PyProof.Rows
section
variable{X:Cx}{x:Str}{e:Expr}{f:bH}{pos pos':Pos}
def Gq(i:Nat)(c:X.N.Nodup)(he:PE X e (tD (md X) f))(hi:X.N[i]?=some x:=by rfl)(a:Loc X.env.scope x:=by first|exact Or.inl rfl|exact Or.inr rfl)(hs:swapsWith e (some (.Name x pos')) pos.line X.env=pure false:=by rfl)
  (b:X.fn x=true\/X.env.scope.names.lookup x=some .local:=by first|exact .inl rfl|exact .inr rfl|assumption):PS X (.Assign [.Name x pos'] e pos) (tS (md X) (aS i f)):=Oe (LL c hi a he hs b)
def Q7(i:Nat)(c:X.N.Nodup)(hi:X.N[i]?=some x:=by rfl)(a:Loc X.env.scope x:=by first|exact Or.inl rfl|exact Or.inr rfl)(b:X.fn x=true\/X.env.scope.names.lookup x=some .local:=by first|exact .inl rfl|exact .inr rfl|assumption):PG X (.Name x pos) (qp i):=zh c hi a b
def Pu(i:Nat)(c:X.N.Nodup)(hi:X.N[i]?=some x:=by rfl)(a:Loc X.env.scope x:=by first|exact Or.inl rfl|exact Or.inr rfl)(b:X.fn x=true\/X.env.scope.names.lookup x=some .local:=by first|exact .inl rfl|exact .inr rfl|assumption):PG X (.Name x pos) (tG (md X) (bJ i)):=GF (zh c hi a b)
def PP{N:List Str}{a:Scope}{b:List (Str×Addr)}{C:Addr}{s:Shared}{H:Hp}{fp:List Addr}(i:Nat)(g:N.Nodup:=by decide +kernel)(hi:(aP X N a b C s H fp).N[i]?=some x:=by rfl)(c:Loc (aP X N a b C s H fp).env.scope x:=by first|exact Or.inl rfl|exact Or.inr rfl)
  (d:(aP X N a b C s H fp).fn x=true\/(aP X N a b C s H fp).env.scope.names.lookup x=some .local:=by first|exact .inl rfl|exact .inr rfl|assumption):PG (aP X N a b C s H fp) (.Name x pos) (tG (md (aP X N a b C s H fp)) (bJ i)):=GF (zh g hi c d)
def v_(i:Nat)(c:X.N[i]?=some x:=by rfl)(b:KF X.env.scope x:=by first|exact Or.inl rfl|exact Or.inr (Or.inl rfl)|exact Or.inr (Or.inr rfl))(hd:(x==("__debug__":Str))=false:=by decide)(a:(x==("__classdict__":Str))=false:=by decide):PE X (.Name x pos) (tD (md X) (ar i)):=NC (pv i c b hd a)
end
section
variable{X:Cx}{x:Str}{k k':Nat}{ps:List Str}{F:cR}{e:Expr}{es:List Expr}{g:ie}{p pos:Pos}
def MB(C:eA X.prog X.w X.K X.mg X.base k x ps F)(b:fZ k' X.A)(c:PA X (e::es) (B8 (md X) g))(f:k<=k':=by first|decide|omega)(d:Gl X x:=by rfl)
  (h:nA ps.length g:=by repeat (first|exact CT|refine nP ?_))
  (a:(x==("__debug__":Str))=false:=by decide) (he:starEach (e::es) X.env=(false,eval e X.env)::starEach es X.env:=by rfl) (hpl:(backTo pos (starEach es X.env)).any (·.1)=false:=by rfl):
  PE X (.Call (.Name x p) (e::es) [] pos) (tD (md X) (ax F g)):=Np C (b.mono f) d c h a he hpl
def N7(C:eA X.prog X.w X.K X.mg X.base k x ps F)(b:fZ k' X.A)(c:PA X (e::es) (B8 (md X) g))(f:k<=k':=by first|decide|omega)(d:Gl X x:=by rfl)
  (h:nA ps.length g:=by repeat (first|exact CT|refine nP ?_))
  (a:(x==("__debug__":Str))=false:=by decide) (he:starEach (e::es) X.env=(false,eval e X.env)::starEach es X.env:=by rfl) (hpl:(backTo pos (starEach es X.env)).any (·.1)=false:=by rfl):
  PE X (.Call (.Name x p) (e::es) [] pos) (tL (md X) (dZ F g)):=Nb C (b.mono f) d c h a he hpl
end
def eP{N P:List Str}{sc:Scope}(a:sc.kind=.function:=by rfl)(b:sc.isCoroutine=false:=by rfl)(c:sc.isGenerator=false:=by rfl)(d:N.Nodup:=by decide +kernel)(e:N.take P.length=P:=by rfl)
  (f:∀x∈P,sc.names.lookup x=some .local\/sc.names.lookup x=some .cell:=by decide +kernel) (g:∀y∈sc.names,y.2≠.free:=by decide +kernel):aF N P sc:=⟨a,b,c,d,e,f,g⟩
structure aX(K:PySem.W.Frag)(x:Str)(st:Stmt)(f:Addr):Prop where
 ex:∃(oc:Value) (od:Option Addr) (kV dc pm:Value) (an:Option Addr) (cd ct:Value) (sl:Array (Option Value)),PySem.W.nsIn K mainGlobals x=some (some (.ref f))∧
  K.lookup f=some ⟨oc,od,.func (PySem.W.fnOf x x (iD st) (fM st) (aB st) .none kV dc pm an cd ct),sl⟩/\PySem.W.codeIn K cd x=true/\PySem.W.keepIn K (.ref f)=true
def aX.of{K:PySem.W.Frag}{x:Str}{st:Stmt}{f:Addr}{g:Value}{e:Option Addr}{kV i pm:Value}{h:Option Addr}{b ct:Value}{d:Array (Option Value)}(a:PySem.W.nsIn K mainGlobals x=some (some (.ref f)))
  (l:K.lookup f=some ⟨g,e,.func (PySem.W.fnOf x x (iD st) (fM st) (aB st) .none kV i pm h b ct),d⟩) (c:PySem.W.codeIn K b x=true) (k:PySem.W.keepIn K (.ref f)=true):aX K x st f:=⟨g,e,kV,i,pm,h,b,ct,d,a,l,c,k⟩
structure Pe(K:PySem.W.Frag)(mg:Str->Option Value)(x:Str)(st:Stmt)(ps:List Str)(f:Addr):Prop where
 ex:∃fd,dQ K x x st f fd/\Binds K fd ps []/\PySem.W.keepIn K (.ref f)=true
 m:mg x=some (.ref f)
def aX.ok1{K:PySem.W.Frag}{mg:Str->Option Value}{x:Str}{st:Stmt}{ps:List Str}{f:Addr}{h:Heap}(D:aX K x st f)(X:K.In h)(G:h.Ns mainGlobals mg)
  (l:∀(kV d pm:Value) (g:Option Addr) (c ct:Value) (a:List Value),a.length=ps.length->bindArgs (PySem.W.fnOf x x (iD st) (fM st) (aB st) .none kV d pm g c ct) ⟨a,[]⟩=pure (ps.zip a):=by intro _ _ _ _ _ _ a k;rcases a with _|⟨_,_|⟨_,_|⟨_,_|⟨_,_|⟨_,_|⟨_,_⟩⟩⟩⟩⟩⟩ <;>first|rfl|cases k):Pe K mg x st ps f:=by
 obtain⟨n,o,kV,q,pm,g,p,ct,m,j,i,e,b⟩:=D.ex
 exact⟨⟨_,C0 i e b,(C0 i e b).binds l,b⟩,PySem.W.mg_of X G j⟩
structure Pk(P:Program)(w:World)(base:Heap):Prop where
def Pe.cal{P:Program}{w:World}{base:Heap}{K:PySem.W.Frag}{mg:Str->Option Value}{x:Str}{st:Stmt}{ps:List Str}{f:Addr}{k:Nat}{F:cR}(O:Pe K mg x st ps f)(Z:Pk P w base)
  (h:∀a,dQ K x x st f a->Binds K a ps []->PySem.W.keepIn K (.ref f)=true->mg x=some (.ref f)->bh P w K mg base dm k f a ps (dN ⟨K,mg⟩ ps.length F)):eA P w K mg base k x ps F:=by
 obtain⟨a,d,c,b⟩:=O.ex
 exact⟨f,a,h a d c b O.m,c,b,O.m⟩
end DL
namespace DL
open PySem PySem.Spec L2
def E{α:Type}(f:cB->aE->Option (α×aE))(c:cB)(S:aE)(Q:α->aE->Prop):Prop:=∃a b,f c S=some (a,b)/\Q a b
def T(f:cC)(a:cB)(S:aE)(Q:Out->Prop):Prop:=∃o,f a S=some o/\Q o
def Fn(F:cR)(ds:List D)(S:aE)(Q:Res->aE->Prop):Prop:=∃r a,F ds S=some (r,a)/\Q r a
def Tg(g:nI)(d:D)(c:cB)(S:aE)(Q:cB->aE->Prop):Prop:=∃a b,g d c S=some (a,b)/\Q a b
def NK(g:pS)(d:List D)(c:cB)(S:aE)(Q:cB->aE->Prop):Prop:=∃a b,g d c S=some (a,b)/\Q a b
def Op{α:Type}(o:Option α)(Q:α->Prop):Prop:=∃d,o=some d/\Q d
section
variable{Γ:cB}{S:aE}
def E.mono{α:Type}{f:cB->aE->Option (α×aE)}{Q R:α->aE->Prop}(h:E f Γ S Q)(i:∀a S,Q a S->R a S):E f Γ S R:=by
 obtain⟨a,b,e,q⟩:=h
 exact⟨a,b,e,i _ _ q⟩
def T.mono{f:cC}{Q R:Out->Prop}(h:T f Γ S Q)(i:∀o,Q o->R o):T f Γ S R:=by
 obtain⟨a,e,q⟩:=h
 exact⟨a,e,i _ q⟩
def aw{i:Nat}{d:D}{Q:D->aE->Prop}(h:Γ[i]?=some (some d))(q:Q d S):E (ar i) Γ S Q:=⟨d,S,by unfold ar;rw[h],q⟩
def cH{d:D}{Q:D->aE->Prop}(q:Q d S):E (cF d) Γ S Q:=⟨d,S,rfl,q⟩
def aZ{Q:List D->aE->Prop}(q:Q [] S):E av Γ S Q:=⟨[],S,rfl,q⟩
def az{f:bH}{g:ie}{Q:List D->aE->Prop}(h:E f Γ S λd a=>E g Γ a λds S2=>Q (d::ds) S2):E (aq f g) Γ S Q:=by
 obtain⟨d,a,c,ds,S2,b,q⟩:=h
 exact⟨_,_,by unfold aq;rw[c];simp only[Qbq];rw[b];rfl,q⟩
def aY{o:wW}{f g:bH}{Q:D->aE->Prop}(h:E f Γ S λx a=>E g Γ a λy S2=>Op (o S2 x y) λd=>Q d S2):E (aQ o f g) Γ S Q:=by
 obtain⟨x,a,e,y,S2,b,d,c,q⟩:=h
 exact⟨d,S2,by unfold aQ;rw[e];simp only[Qbq];rw[b];simp only[Qbq];rw[c];rfl,q⟩
def tN{f:ie}{Q:D->aE->Prop}(h:E f Γ S λds a=>ds.length<=sizeLine/\Q (.tup ds) a):E (bg f) Γ S Q:=by
 obtain⟨ds,a,b,l,q⟩:=h
 exact⟨_,_,by unfold bg;rw[b];simp only[Qbq];rw[Qhq l],q⟩
def dA{f:ie}{Q:List D->aE->Prop}(h:E f Γ S λds a=>ds.length<=sizeLine/\Q ds a):E (bB f) Γ S Q:=by
 obtain⟨ds,a,b,l,q⟩:=h
 exact⟨_,_,by unfold bB;rw[b];simp only[Qbq];rw[Qhq l],q⟩
def dU{f:ie}{Q:D->aE->Prop}(h:E f Γ S λds a=>Q (.ref a.length) (a++ [.lst ds])):E (bO f) Γ S Q:=by
 obtain⟨ds,a,b,q⟩:=h
 exact⟨_,_,by unfold bO;rw[b];rfl,q⟩
def AH{o:KH}{f:ie}{Q:D->aE->Prop}(h:E f Γ S λds a=>Op (o ds) λd=>Q d a):E (uq o f) Γ S Q:=by
 obtain⟨ds,a,c,d,b,q⟩:=h
 exact⟨d,a,by unfold uq;rw[c];simp only[Qbq];rw[b];rfl,q⟩
def bV{f:bH}{Q:(List D×Tag)->aE->Prop}(h:E f Γ S λd a=>Op (wA a d) λp=>Q p a):E (aR f) Γ S Q:=by
 obtain⟨e,a,c,d,b,q⟩:=h
 exact⟨d,a,by unfold aR;rw[c];simp only[Qbq];rw[b];rfl,q⟩
def qH{f:ie}{Q:(List D×Tag)->aE->Prop}(h:E f Γ S λds a=>Q (ds,.fr) a):E (ia f) Γ S Q:=by
 obtain⟨ds,a,b,q⟩:=h
 exact⟨_,a,by unfold ia;rw[b];rfl,q⟩
def xX{f:fw}{Q:D->aE->Prop}(h:E f Γ S λp a=>Q (.int p.1.length) a):E (hJ f) Γ S Q:=by
 obtain⟨p,a,b,q⟩:=h
 exact⟨_,a,by unfold hJ;rw[b];rfl,q⟩
def rZ{f:fw}{Q:D->aE->Prop}(h:E f Γ S λp a=>Q (.tup p.1) a):E (tupQ f) Γ S Q:=by
 obtain⟨p,a,b,q⟩:=h
 exact⟨_,a,by unfold tupQ;rw[b];rfl,q⟩
def sO{f:fw}{Q:(List D×Tag)->aE->Prop}(h:E f Γ S λp a=>p.2.isL=true/\Q p a):E (cM f) Γ S Q:=by
 obtain⟨p,a,b,l,q⟩:=h
 exact⟨_,a,by unfold cM;rw[b];simp only[Qbq];rw[Qhq l],q⟩
def qw{f:fw}{Q:D->aE->Prop}(h:E f Γ S λp a=>(p.2.isL=true/\p.2.stays a p.1)/\Q (.bl (!p.1.isEmpty)) a):E (cY f) Γ S Q:=by
 obtain⟨p,a,b,l,q⟩:=h
 exact⟨_,a,by unfold cY;rw[b];simp only[Qbq];rw[Qhq l],q⟩
def a9(Q:D->aE->Prop)(r:Res)(S2:aE):Prop:=match r with|.d x=>Q x S2|.l _=>False
def aN(Q:List D->aE->Prop)(r:Res)(S2:aE):Prop:=match r with|.d _=>False|.l x=>Q x S2
def a7(Q:Bool->aE->Prop)(d:D)(a:aE):Prop:=match d with|.bl k=>Q k a|_=>False
def bR(g:cC)(Q:Out->Prop)(o:Out):Prop:=match o with|.nx a b=>T g a b Q|o=>Q o
def bU(I:Nat->cB->aE->Prop)(n:Nat)(Q:Out->Prop)(o:Out):Prop:=match o with|.nx a b=>I (n+1) a b|.ct a b=>I (n+1) a b|.bk a b=>Q (.nx a b)|o=>Q o
def eZ(S:aE)(Q:Res->aE->Prop)(o:Out):Prop:=match o with
 |.nx _ a=>Op (settle S .non a) λp=>Q p.1 p.2|.rt d a=>Op (settle S d a) λp=>Q p.1 p.2|.rl l a=>Op (eJ S l a) λp=>Q p.1 p.2|_=>False
def Q5{Q:D->aE->Prop}{x:D}(h:Q x S):a9 Q (.d x) S:=h
def PM{Q:List D->aE->Prop}{x:List D}(h:Q x S):aN Q (.l x) S:=h
def u6{Q:Bool->aE->Prop}{k:Bool}(h:Q k S):a7 Q (.bl k) S:=h
def Q_{g:cC}{Q:Out->Prop}(h:let a:=Γ;T g a S Q):bR g Q (.nx Γ S):=h
def cn{F:cR}{g:ie}{Q:D->aE->Prop}(h:E g Γ S λds a=>Fn F ds a (a9 Q)):E (ax F g) Γ S Q:=by
 obtain⟨ds,a,e,r,c,b,q⟩:=h
 cases r with
 |d x=>exact⟨x,c,by unfold ax;rw[e];simp only[Qbq];rw[b];rfl,q⟩
 |l x=>exact q.elim
def EC{F:cR}{g:ie}{Q:List D->aE->Prop}(h:E g Γ S λds a=>Fn F ds a (aN Q)):E (dZ F g) Γ S Q:=by
 obtain⟨ds,a,e,r,c,b,q⟩:=h
 cases r with
 |d x=>exact q.elim
 |l x=>exact⟨x,c,by unfold dZ;rw[e];simp only[Qbq];rw[b];rfl,q⟩
def cD{f:bH}{Q:Bool->aE->Prop}(h:E f Γ S (a7 Q)):E (aH f) Γ S Q:=by
 obtain⟨d,a,b,q⟩:=h
 cases d with
 |bl k=>exact⟨k,a,by unfold aH;rw[b];rfl,q⟩
 |_=>exact q.elim
def Ct{f:bH}{Q:Bool->aE->Prop}(h:E f Γ S λd a=>Op (C_ a d) λk=>Q k a):E (j0 f) Γ S Q:=by
 obtain⟨d,a,c,k,b,q⟩:=h
 exact⟨k,a,by unfold j0;rw[c];simp only[Qbq];rw[b];rfl,q⟩
def vO{f:jL}{Q:Bool->aE->Prop}(h:E f Γ S λk a=>Q (!k) a):E (xw f) Γ S Q:=by
 obtain⟨k,a,b,q⟩:=h
 exact⟨_,a,by unfold xw;rw[b];rfl,q⟩
def pV{f g:jL}{Q:Bool->aE->Prop}(h:E f Γ S λk a=>if k=true then E g Γ a Q else Q false a):E (ij f g) Γ S Q:=by
 obtain⟨k,a,b,q⟩:=h
 cases k with
 |true=>obtain⟨j,d,c,q⟩:=(q:E g Γ a Q);exact⟨j,d,by unfold ij;rw[b];exact c,q⟩
 |false=>exact⟨false,a,by unfold ij;rw[b];rfl,q⟩
def Ea{f g:jL}{Q:Bool->aE->Prop}(h:E f Γ S λk a=>if k=true then Q true a else E g Γ a Q):E (Lx f g) Γ S Q:=by
 obtain⟨k,a,b,q⟩:=h
 cases k with
 |true=>exact⟨true,a,by unfold Lx;rw[b];rfl,q⟩
 |false=>obtain⟨j,d,c,q⟩:=(q:E g Γ a Q);exact⟨j,d,by unfold Lx;rw[b];exact c,q⟩
def NQ{c:jL}{f g:bH}{Q:D->aE->Prop}(h:E c Γ S λk a=>if k=true then E f Γ a Q else E g Γ a Q):E (xt c f g) Γ S Q:=by
 obtain⟨k,a,e,q⟩:=h
 cases k with
 |true=>obtain⟨j,d,b,q⟩:=(q:E f Γ a Q);exact⟨j,d,by unfold xt;rw[e];exact b,q⟩
 |false=>obtain⟨j,d,b,q⟩:=(q:E g Γ a Q);exact⟨j,d,by unfold xt;rw[e];exact b,q⟩
def cK{i:Nat}{f:bH}{Q:Out->Prop}(h:E f Γ S λd a=>Q (.nx (Γ.set i (some d)) a)):T (aS i f) Γ S Q:=by
 obtain⟨d,a,b,q⟩:=h
 exact⟨_,by unfold aS;rw[b];rfl,q⟩
def eV{f:bH}{Q:Out->Prop}(h:E f Γ S λd a=>Q (.rt d a)):T (cy f) Γ S Q:=by
 obtain⟨d,a,b,q⟩:=h
 exact⟨_,by unfold cy;rw[b];rfl,q⟩
def Ma{f:ie}{Q:Out->Prop}(h:E f Γ S λd a=>Q (.rl d a)):T (Gz f) Γ S Q:=by
 obtain⟨d,a,b,q⟩:=h
 exact⟨_,by unfold Gz;rw[b];rfl,q⟩
def d_{f:bH}{Q:Out->Prop}(h:E f Γ S λd a=>Q (.nx Γ a)):T (hZ f) Γ S Q:=by
 obtain⟨d,a,b,q⟩:=h
 exact⟨_,by unfold hZ;rw[b];rfl,q⟩
def bX{Q:Out->Prop}(q:Q (.nx Γ S)):T fG Γ S Q:=⟨_,rfl,q⟩
def uh{f:bH}{g:nI}{Q:Out->Prop}(h:E f Γ S λd b=>Tg g d Γ b λa S2=>Q (.nx a S2)):T (ko f g) Γ S Q:=by
 obtain⟨d,b,e,a,S2,c,q⟩:=h
 exact⟨_,by unfold ko;rw[e];simp only[Qbq];rw[c];rfl,q⟩
def aI{f g:cC}{Q:Out->Prop}(h:T f Γ S (bR g Q)):T (aD f g) Γ S Q:=by
 obtain⟨o,b,q⟩:=h
 cases o with
 |nx a d=>obtain⟨o,c,q⟩:=(q:T g a d Q);exact⟨o,by unfold aD;rw[b];exact c,q⟩
 |_=>exact⟨_,by unfold aD;rw[b];rfl,q⟩
def bP{c:jL}{f g:cC}{Q:Out->Prop}(h:E c Γ S λk a=>if k=true then T f Γ a Q else T g Γ a Q):T (cZ c f g) Γ S Q:=by
 obtain⟨k,a,d,q⟩:=h
 cases k with
 |true=>obtain⟨j,b,q⟩:=(q:T f Γ a Q);exact⟨j,by unfold cZ;rw[d];exact b,q⟩
 |false=>obtain⟨j,b,q⟩:=(q:T g Γ a Q);exact⟨j,by unfold cZ;rw[d];exact b,q⟩
def aV{i:Nat}{d:D}{Q:cB->aE->Prop}(q:Q (Γ.set i (some d)) S):Tg (bJ i) d Γ S Q:=⟨_,_,rfl,q⟩
def Jy{f g:bH}{d:D}{Q:cB->aE->Prop}(h:E f Γ S λx a=>E g Γ a λy S2=>∃k i ds j,x=.ref k/\y=.int i/\S2[k]?=some (.lst ds)/\CD ds.length i=some j/\Q Γ (S2.set k (.lst (ds.set j d)))):Tg (wO f g) d Γ S Q:=by
 obtain⟨x,a,c,y,S2,b,k,i,ds,j,rfl,rfl,h1,h2,q⟩:=h
 exact⟨_,_,by unfold wO;rw[c];simp only[Qbq];rw[b];simp only[Qbq,h1,h2],q⟩
def Qz{f g h:bH}{Q:Out->Prop}(w:E f Γ S λx c=>E g Γ c λy S2=>∃k i ds m,x=.ref k/\y=.int i/\S2[k]?=some (.lst ds)/\0<=i/\ds[i.toNat]?=some (.int m)/\E h Γ S2 λz b=>∃n a j,z=.int n/\b[k]?=some (.lst a)/\CD a.length i=some j/\Q (.nx Γ (b.set k (.lst (a.set j (.int (m+n))))))):T (Oz f g h) Γ S Q:=by
 obtain⟨x,c,e,y,S2,d,k,i,ds,m,rfl,rfl,h1,h2,h3,z,b,e3,n,a,j,rfl,h4,h5,q⟩:=w
 exact⟨_,by unfold Oz;rw[e];simp only[Qbq];rw[d];simp only[Qbq,h1,Qhq h2,h3,e3,h4,h5],q⟩
def gZ{i:yb}{g:nI}{b:cC}{Q:Out->Prop} (h:E i Γ S λp u=>∃I:Nat->cB->aE->Prop,I 0 Γ u/\(∀n a c,I n a c->p.2 c)∧
   (∀(n:Nat) (d:D) (a:cB) (c:aE),p.1[n]?=some d->I n a c->Tg g d a c λs S2=>bR b (bU I n Q) (.nx s S2))∧
   ∀a c,I p.1.length a c->Q (.nx a c)):T (jg i g b) Γ S Q:=by
 obtain⟨⟨m,W⟩,u,B,I,C,y,f,r⟩:=h
 have z:∀(k n:Nat) (a:cB) (c:aE),n+k=m.length->I n a c->∃o,forL g b W (m.drop n) a c=some o/\Q o:=by
  intro k
  induction k with
  | zero=>
    intro n a c x l
    rw[List.drop_of_length_le (by omega)]
    refine⟨.nx a c,by simp only[forL];rw[Qhq (y _ _ _ l)],r _ _ (by rw[←x];exact l)⟩
  | succ k w=>
    intro n a c x l
    have t:n<m.length:=by omega
    rw[QWq t]
    obtain⟨s,S2,v,o,A,q⟩:=f n m[n] a c (gQe t) l
    simp only[forL]
    rw[Qhq (y _ _ _ l),v]
    simp only[Qbq]
    rw[A]
    simp only[Qbq]
    cases o with
    |nx e j=>exact w (n+1) e j (by omega) q
    |ct e j=>exact w (n+1) e j (by omega) q
    |bk e j=>exact⟨_,rfl,q⟩
    |rt d j=>exact⟨_,rfl,q⟩
    |rl d j=>exact⟨_,rfl,q⟩
 obtain⟨o,v,q⟩:=z m.length 0 Γ u (by omega) C
 exact⟨o,by unfold jg;rw[B];exact v,q⟩
def jD{js:List (Option Nat)}{i:yb}{g:nI}{t:jL}{f:bH}{Q:List D->aE->Prop} (h:E i Γ S λp x=>∃I:Nat->cB->aE->List D->Prop,I 0 (pI js Γ) x []/\(∀n b e a,I n b e a->p.2 e)∧
   (∀(n:Nat) (d:D) (b:cB) (e:aE) (a:List D),p.1[n]?=some d->I n b e a->Tg g d b e λj S2=>E t j S2 λk w=>if k=true then E f j w λy z=>a.length<sizeLine/\I (n+1) j z (a++ [y]) else I (n+1) j w a)∧
   ∀b e a,I p.1.length b e a->Q a e):E (bD js i g t f) Γ S Q:=by
 obtain⟨⟨s,W⟩,x,L,I,M,F,m,u⟩:=h
 have H:∀(k n:Nat) (b:cB) (e:aE) (a:List D),n+k=s.length->I n b e a->∃r l,oh g t f W (s.drop n) b e a=some (r,l)/\Q r l:=by
  intro k
  induction k with
  | zero=>
    intro n b e a C o
    rw[List.drop_of_length_le (by omega)]
    refine⟨a,e,by simp only[oh];rw[Qhq (F _ _ _ _ o)],u _ _ _ (by rw[←C];exact o)⟩
  | succ k B=>
    intro n b e a C o
    have v:n<s.length:=by omega
    rw[QWq v]
    obtain⟨j,S2,A,c,w,K,q⟩:=m n s[n] b e a (gQe v) o
    simp only[oh]
    rw[Qhq (F _ _ _ _ o),A]
    simp only[Qbq]
    rw[K]
    simp only[Qbq]
    cases c with
    | true=>
      rw[Qhq rfl] at q⊢
      obtain⟨y,z,J,G,q⟩:=q
      rw[J]
      simp only[Qbq]
      rw[Qhq G]
      exact B (n+1) j z _ (by omega) q
    | false=>
      rw[Quq (by decide)] at q⊢
      exact B (n+1) j w _ (by omega) q
 obtain⟨r,l,A,q⟩:=H s.length 0 _ x [] (by omega) M
 exact⟨r,l,by unfold bD;rw[L];exact A,q⟩
def GM{f:bH}{Q:(List D×(aE->Prop))->aE->Prop}(h:E f Γ S λd a=>∃j,d=.int j/\(-(2^62)<=j/\j<2^62)/\Q (jO 0 j,λ_=>True) a):E (uW f) Γ S Q:=by
 obtain⟨d,a,b,j,rfl,hj,q⟩:=h
 exact⟨_,a,by unfold uW;rw[b];simp only[Qbq];rw[Qhq hj],q⟩
def j2{f:fw}{Q:(List D×(aE->Prop))->aE->Prop}(h:E f Γ S λp a=>Q (p.1,λb=>p.2.stays b p.1) a):E (fL f) Γ S Q:=by
 obtain⟨p,a,c,q⟩:=h
 exact⟨_,a,by unfold fL;rw[c];rfl,q⟩
def fK{m:List D->List D->Option (List D×D)}{f:bH}{g:ie}{Q:D->aE->Prop}(h:E f Γ S λx b=>∃k a,x=.ref k/\b[k]?=some (.lst a)/\E g Γ b λys S2=>∃ds,S2[k]?=some (.lst ds)/\Op (m ds ys) λp=>Q p.2 (S2.set k (.lst p.1))):E (jf m f g) Γ S Q:=by
 obtain⟨x,b,c,k,a,rfl,h1,ys,S2,e2,ds,h2,p,e3,q⟩:=h
 exact⟨_,_,by unfold jf;rw[c];simp only[Qbq,e2,h1,h2,e3],q⟩
end
def bZ{n:Nat}{b:cC}{ds:List D}{S:aE}{Q:Res->aE->Prop}(h:bR b (eZ S Q) (.nx (ds.map some++List.replicate (n-ds.length) none) S)):Fn (fc n b) ds S Q:=by
 obtain⟨o,e,q⟩:=h
 cases o with
 |nx g f=>obtain⟨⟨r,c⟩,a,q⟩:=q;exact⟨r,c,by unfold fc;rw[e];exact a,q⟩
 |rt d f=>obtain⟨⟨r,c⟩,a,q⟩:=q;exact⟨r,c,by unfold fc;rw[e];exact a,q⟩
 |rl d f=>obtain⟨⟨r,c⟩,a,q⟩:=q;exact⟨r,c,by unfold fc;rw[e];exact a,q⟩
 |bk=>exact q.elim
 |ct=>exact q.elim
def iL{S a S2:aE}{d:D}{Q:Res×aE->Prop}(c:qk S a)(ht:a.take S.length=S2)(hd:∀k,d≠.ref k)(b:cu S.length d=true)(q:Q (.d d,S2)):Op (settle S d a) Q:=by
 refine⟨_,?_,q⟩
 unfold settle
 rw[Qhq c,ht]
 cases d with
 |ref k=>exact absurd rfl (hd k)
 |_=>simp only[b,if_true]
def pM{S a S2:aE}{ds:List D}{Q:Res×aE->Prop}(c:qk S a)(ht:a.take S.length=S2)(b:cg S.length ds=true)(q:Q (.l ds,S2)):Op (eJ S ds a) Q:=by
 refine⟨_,?_,q⟩
 unfold eJ
 rw[Qhq ⟨c,b⟩,ht]
def vk{S:aE}:qk S S:=⟨Qmq _,λk o _ h=>.inl h⟩
def yi{S:aE}{k:Nat}{o:O}(h:Kq S.length o=true):qk S (S.set k o):=by
 refine⟨by simp,λj u _ e=> ?_⟩
 rw[List.getElem?_set] at e
 split at e
 ·split at e
  ·cases e;exact .inr h
  ·cases e
 ·exact .inl e
end DL
namespace L2
open PySem PySem.Spec PyProof.Rows
end L2
namespace DL
open PySem PySem.Spec L2
end DL
namespace L2
open PySem PySem.Spec PyProof.Rows
section
variable{X:Cx}
def Ou:V->List V->Hp->VK->Prop:=λx b H Q=>∃(l:Addr) (a:List V) (i:Int) (y:V),x=.ref l/\b= [.int i,y]/\H l=some (.lst a)/\0<=i/\i<1000000/\i.toNat<=a.length/\a.length<sizeLine/\Q .non (upd H l (.lst (a.take i.toNat++y::a.drop i.toNat)))
def Kj{a:List Value}{i:Int}{u:Value}(c:0<=i)(b:i.toNat<=a.length):(a.toArray.extract 0 (if i<0 then(i+(a.toArray.size:Int)).toNat else min i.toNat a.toArray.size)).push u++a.toArray.extract (if i<0 then(i+(a.toArray.size:Int)).toNat else min i.toNat a.toArray.size)=(a.take i.toNat++u::a.drop i.toNat).toArray:=by
 rw[Quq (by omega),Qjq,Nat.min_eq_left b]
 apply Array.toList_inj.mp
 simp
 exact List.take_of_length_le (by rw[List.length_drop];exact Qmq _)
def Fm:Ml X "list.insert" Ou:=by
 intro d s A H x p v w Q I g k h
 obtain⟨l,m,i,y,rfl,rfl,hH,h0,h1,hk,hz,q⟩:=h
 cases g
 obtain⟨o,u,rfl,r1,ru⟩:=k.two
 obtain⟨t,rfl⟩:=r1
 obtain⟨z,a,n,r,f,e⟩:=I.lstM hH
 have j:Builtin.List.listFitsIndex i=true:=fitsIndex_both (Int.le_trans (by decide) h0) (Int.lt_trans h1 (by decide))
 have c:a.toArray.size<=sizeLine:=by rw[Qjq,←f];exact nQl hz
 have b:¬(!Builtin.List.listFitsIndex i)=true:=by rw[j];exact Qtq
 refine call_meets F.slot_list_insert ⟨_,e,rfl⟩ F.entry_list_insert (F.args_list_insert_3 _ _ _) (AutoSeq1.list_insert_list_int_val_1 l a.toArray n i t u b c) ⟨e,?_⟩
 refine⟨.non,_,I.lset (its':=a.take i.toNat++u::a.drop i.toNat) hH e (Kj h0 (f▸hk)) ((r.take _).append (.cons ru (r.drop _))) ?_,rfl,q⟩
 simp only[lQa,Qxq,Qnq,List.length_drop]
 omega
def E3:V->List V->Hp->VK->Prop:=λx a H Q=>∃l b,x=.ref l/\a= []/\H l=some (.lst b)/\Q .non (upd H l (.lst []))
def F3:Ml X "list.clear" E3:=by
 intro c s m H x i v k Q I d f h
 obtain⟨l,g,rfl,rfl,hH,q⟩:=h
 cases d
 have a:=f.zero
 subst a
 obtain⟨z,b,n,r,j,e⟩:=I.lstM hH
 refine call_meets F.slot_list_clear ⟨_,e,rfl⟩ F.entry_list_clear (F.args_list_clear_1 _) (AutoSeq1.list_clear_list_0 l b.toArray n (by rw[Qjq];omega)) ⟨e,?_⟩
 exact⟨.non,_,I.lset (its':= []) hH e rfl .nil (Nat.zero_le _),rfl,q⟩
end
end L2
namespace DL
open PySem PySem.Spec PyProof.Rows L2
section
variable{X:Cx}{e e2:Expr}
def FZ:List D->List D->Option (List D×D):=λa b=>match b with
 | [.int i,y]=>if 0<=i/\i<1000000/\i.toNat<=a.length/\a.length<sizeLine then some (a.take i.toNat++y::a.drop i.toNat,.non) else none
 |_=>none
def Ly{M:Md}:DT M Ou FZ:=by
 intro p H a n r m d j o Q h g c e q
 unfold FZ at e
 split at e
 ·split at e
  ·rename_i i y b
   obtain⟨rfl,rfl⟩:=cE e
   cases c with
   | cons c f=>
     cases f with
     | cons f l=>
       cases l
       cases c
       have k:=g.length
       rw[k] at b
       exact⟨a,j,i,_,rfl,rfl,h,b.1,b.2.1,b.2.2.1,b.2.2.2,q _ _ ((g.take _).append (.cons f (g.drop _))) .non⟩
  ·cases e
 ·cases e
def Oq{f g j:bH}{o:Expr}{b a:Pos}(k:PE X o (tD (md X) f))(l:PE X e (tD (md X) g))(n:PE X e2 (tD (md X) j))(c:attributeBase o "insert" X.env (eval o X.env)=eval o X.env:=by rfl) (h:((backTo a (starEach [e,e2] X.env)).all (λx=> !x.1)&&(backToKw a (keywordEach [] X.env)).all (λx=>x.1.isSome)
   &&decide ([e,e2].length+([]:List Keyword).length+(if ([]:List Keyword).isEmpty then 0 else 1)<30))=true:=by rfl)
  (d:(b.endLine==a.line)=true:=by rfl) (hs:starEach [e,e2] X.env=(false,eval e X.env)::starEach [e2] X.env:=by rfl) (i:starEach [e2] X.env= [(false,eval e2 X.env)]:=by rfl) (m:(backTo a (starEach [e2] X.env)).any (·.1)=false:=by rfl):PE X (.Call (.Attribute o "insert" b) [e,e2] [] a) (tD (md X) (jf FZ f (aq g (aq j av)))):=
 kn (vU PySem.F.plainAttrs_list PySem.F.slot_list_insert PySem.F.type_list_insert Fm k (cT l (cT n i8 i) hs) c h d hs m) (K4 Ly)
def Kr:List D->List D->Option (List D×D):=λ_ a=>match a with
 | []=>some ([],.non)
 |_=>none
def LS{M:Md}:DT M E3 Kr:=by
 intro k H a i l g d b h Q f j c e q
 unfold Kr at e
 split at e
 ·obtain⟨rfl,rfl⟩:=cE e
  cases c
  exact⟨a,b,rfl,rfl,f,q _ _ .nil .non⟩
 ·cases e
def OE{f:bH}{o:Expr}{b a:Pos}(g:PE X o (tD (md X) f))(c:attributeBase o "clear" X.env (eval o X.env)=eval o X.env:=by rfl)(d:(b.endLine==a.line)=true:=by rfl):PE X (.Call (.Attribute o "clear" b) [] [] a) (tD (md X) (jf Kr f av)):=
 kn (IK PySem.F.plainAttrs_list PySem.F.slot_list_clear PySem.F.type_list_clear F3 g c d) (KU LS)
end
end DL
namespace L2
open PySem PySem.Spec PyProof.Rows
section
variable{X:Cx}{pos:Pos}
def PU(K:PySem.W.Frag)(n:Nat)(t:Hg):TG:=λv c H Q=>∃a b,v=.ref a/\je K H a b/\b.length=n/\t b c H Q
def LH{d:List Expr}{k:Nat}{t:Hg}{n:Nat}(z:X.calm=true)(h:GA X d t)
  (w:(assignEach d X.env).length=n:=by rfl) (f:(assignEach d X.env).findIdx? (·.1)=none:=by rfl):PG X (.Tuple d k pos) (PU X.K n t):=by
 intro c s j H v u Q I r g
 obtain⟨a,p,A,y,q,g⟩:=g
 subst A
 cases r
 obtain⟨i,l,C,F⟩:=I.list y
 rw[assign_Tuple]
 refine Qaq (wpAny_standAt ?_)
 unfold unpack
 rw[show(assignEach d X.env).length=i.toArray.size by simp[w,←q,l.length],f]
 refine Qaq (QLq (PySem.W.kun_itemsOf (I.ok.hd z) C.isList λm B=> ?_))
 have x:Inv X c j H {s with heap:=m}:=I.kept (t':=s.toks) λb o e=>B b o (Qwq (Qiq e)) e
 exact h c _ j H p _ Q x (by simpa using l) g
end
end L2
namespace DL
open PySem PySem.Spec PyProof.Rows L2
section
variable{X:Cx}{pos:Pos}
def HV(g:pS):nI:=λd a S=>match d with
 | .ref k=>match S[k]? with
   |some (.lst ds)=>g ds a S
   |_=>none
 |_=>none
def QF{b:List Expr}{k:Nat}{g:pS}{n:Nat}(w:X.calm=true)(h:GA X b (MY (md X) g))(t:(assignEach b X.env).length=n:=by rfl)(f:(assignEach b X.env).findIdx? (·.1)=none:=by rfl):
  PG X (.Tuple b k pos) (tG (md X) (HV (nG n g))):=OP (LH w h t f) λv y H Q ⟨x,s,S,d,i,l,ok,r,e,q⟩=>by
 cases r with
 | @ref k a hr=>
   simp only[HV,nG] at e
   split at e
   · rename_i o u
     split at e
     · rename_i c
       obtain⟨p,m,j⟩:=ok.st.obj k a _ hr u
       exact⟨a,p,rfl,je.of m,by rw[←j.length];exact c,x,s,S,o,i,l,ok,j,e,q⟩
     · cases e
   · cases e
 |_=>cases e
end
end DL
namespace W28
open PySem PySem.Spec L2 DL
abbrev bS:=aQ fJ
abbrev bG(v:Nat)(k:Int):=aQ fJ (ar v) (cF (.int k))
abbrev fW(v:Nat)(k:Int):=aq (aQ fJ (ar v) (cF (.int k)))
abbrev jd(x:Str):=aq (cF (.str x))
abbrev bp(k:Int):=cF (.int k)
abbrev aC(k:Nat):=aq (ar k)
abbrev eU(k:Int):=aq (cF (.int k))
def sr:cC:=
 (aD (aS 2 (bp 0))
 (aD (cZ (aH (aQ Cw (ar 1) (hJ (aR (ar 0))))) (aS 2 (uq Jz (aq (bS (ar 0) (ar 1)) av))) fG)
 (aD (aS 3 (aQ n0 (aQ uu (ar 2) (aQ n0 (aQ yC (bp 10) (bp 60)) (aQ yC (bp 10) (bp 60)))) (uq intOfD (aq (aQ Oo (ar 2) (aQ yC (bp 10) (bp 18))) av))))
 (Gz (bB (aC 3 (aq (aQ uu (aQ cA (aQ cA (ar 2) (aQ n0 (bp 104729) (ar 1))) (bp 7)) (bp 2305843009213693951)) (eU 0 av))))))))
def nJ:cR:=fc 4 sr
def pk:cC:=
 (aD (cZ (aH (aQ Jb (bG 0 0) (bp 0))) (aD (aS 2 (aQ uu (bG 0 0) (ar 1)))
 (aD (ko (aQ Cm (bG 0 0) (ar 1)) (wO (ar 0) (bp 0)))
 (cy (ar 2)))) fG)
 (aD (Oz (ar 0) (bp 2) (bp 1))
 (aD (aS 3 (aQ uu (aQ cA (aQ cA (aQ n0 (bG 0 1) (bp 69069)) (aQ n0 (bp 9973) (bG 0 2))) (bp 5)) (bp 2305843009213693921)))
 (aD (ko (aQ uu (aQ n0 (ar 3) (aQ cA (aQ cA (aQ uu (ar 3) (bp 999983)) (aQ n0 (bp 2) (bG 0 2))) (bp 3))) (bp 2305843009213693907)) (wO (ar 0) (bp 1)))
 (cy (aQ uu (aQ Cm (bG 0 1) (bp 65537)) (ar 1)))))))
def aG:cR:=fc 4 pk
def mP:cC:=
 (aD (aS 3 (bO (bD [none,some 1] (fL (ia (bB (jd "a" (jd "b" (jd "c" (jd "d" (jd "e" (jd "zz" av))))))))) (bJ 0) bK (aQ cA (ar 1) (ar 0)))))
 (Gz (Fc (ia (bD [none,some 0,some 3] (uW (ar 2)) (bJ 0) bK (jf gN (ar 2) (aq (ax aG (aC 1 (aq (hJ (aR (ar 2))) av))) av)))))))
def c8:cR:=fc 4 mP
def pq:cC:=
 (cy (bS (ar 1) (ax aG (aC 0 (aq (hJ (aR (ar 1))) av)))))
def bM:cR:=fc 2 pq
def sI(self:cR):cC:=
 (aD (aS 4 (ax aG (aC 0 (eU 9 av))))
 (aD (cZ (Lx (aH (aQ Cw (ar 3) (bp 1))) (aH (aQ Cw (ar 4) (bp 3)))) (aD (cZ (ij (aH (cY (aR (ar 1)))) (aH (aQ Jb (ax aG (aC 0 (eU 3 av))) (bp 0)))) (cy (ax bM (aC 0 (aC 1 av)))) fG)
 (cy (ax aG (aC 0 (aq (bS (bO (bB (eU 3 (eU 10 av)))) (uq intOfD (aq (aQ (du false) (ax aG (aC 0 (eU 5 av))) (bp 0)) av))) av))))) fG)
 (aD (cZ (ij (aH (aQ (du false) (ar 4) (bp 3))) (aH (cY (aR (ar 2))))) (cy (bg (jd "waits" (aq (ax bM (aC 0 (aC 2 av))) av)))) fG)
 (aD (cZ (aH (aQ (du false) (ar 4) (bp 4))) (cy (bg (jd "not" (aq (ax self (aC 0 (aC 1 (aC 2 (aq (aQ jB (ar 3) (bp 1)) av))))) av)))) fG)
 (aD (aS 5 (bS (bO (bB (jd "plus" (jd "minus" (jd "less" (jd "same" (jd "both" av))))))) (ax aG (aC 0 (eU 5 av)))))
 (cy (bg (aC 5 (aq (ax self (aC 0 (aC 1 (aC 2 (aq (aQ jB (ar 3) (bp 1)) av))))) (aq (ax self (aC 0 (aC 1 (aC 2 (aq (aQ jB (ar 3) (bp 1)) av))))) av))))))))))
def bC:Nat->cR
 |0=>λ_ _=>none
 |n+1=>fc 6 (sI (bC n))
def lX:cC:=
 (aD (aS 4 (bS (bO (bB (eU 0 (jd "given" (aq (ax (bC 4) (aC 0 (aC 1 (aC 2 (eU 1 av))))) av))))) (ax aG (aC 0 (eU 3 av)))))
 (aD (aS 5 (bg (jd "wait" (aq (ax bM (aC 0 (aC 2 av))) (aC 4 av)))))
 (aD (aS 6 (ax aG (aC 0 (eU 3 av))))
 (aD (cZ (aH (aQ (du false) (ar 6) (bp 0))) (Gz (bB (aC 5 av))) fG)
 (aD (aS 7 (bg (jd "not" (aq (ax (bC 4) (aC 0 (aC 1 (aC 2 (eU 2 av))))) av))))
 (Gz (bB (aq (bg (jd "unless" (aC 7 (aq (aQ cA (ar 3) (bp 3)) av)))) (aC 5 (aq (bg (jd "go" (aq (bS (bO (bB (aC 3 (aq (aQ cA (ar 3) (bp 3)) av)))) (aQ jB (ar 6) (bp 1))) av))) av))))))))))
def jv:cR:=fc 8 lX
def vR:cC:=
 (aD (ko (ax bM (aC 0 (aC 1 av))) (lM (nG 2 (aJ (bJ 4) (aJ (bJ 5) dG)))))
 (aD (aS 6 (ax bM (aC 0 (aq (bO (zO (ia (bB (aq (cF .non) av))) (aR (ar 2)))) av))))
 (cy (bg (jd "do" (aC 6 (aC 4 (aC 5 (aq (ax (bC 4) (aC 0 (aC 3 (aq (bO (bB av)) (eU 1 av))))) av)))))))))
def m6:cR:=fc 7 vR
def oN:cC:=
 (aD (ko (ar 1) (lM (nG 3 (aJ (bJ 4) (aJ (bJ 5) (aJ (bJ 6) dG))))))
 (aD (aS 7 (bO (zO (aR (ar 5)) (ia (bB (jd "given" av))))))
 (aD (aS 8 (bO (bB av)))
 (aD (jg (uW (aQ cA (bp 1) (ax aG (aC 0 (aC 3 av))))) (bJ 9) (aD (aS 10 (ax aG (aC 0 (eU 9 av))))
 (cZ (ij (aH (aQ Cw (ar 10) (bp 2))) (aH (cY (aR (ar 6))))) (hZ (Aj (ar 8) (ia (dZ jv (aC 0 (aC 7 (aC 6 (aq (hJ (aR (ar 8))) av)))))))) (cZ (ij (aH (aQ Cw (ar 10) (bp 4))) (aH (cY (aR (ar 6))))) (aD (aS 11 (bS (bO (bB (jd "call" (jd "all" av)))) (uq intOfD (aq (qX (aQ (du false) (ar 4) (cF (.str "when free"))) (aQ (du false) (ar 10) (bp 3))) av))))
 (hZ (jf fA (ar 8) (aq (bg (aC 11 (aq (ax bM (aC 0 (aC 6 av))) av))) av)))) (cZ (ij (aH (aQ (du false) (ar 10) (bp 4))) (aH (cY (aR (ar 2))))) (hZ (jf fA (ar 8) (aq (ax m6 (aC 0 (aC 2 (aC 5 (aC 7 av))))) av))) (cZ (aH (aQ (du false) (ar 10) (bp 5))) (aD (hZ (jf fA (ar 8) (aq (bg (jd "unless" (aq (ax (bC 4) (aC 0 (aC 7 (aC 6 (eU 2 av))))) (aq (aQ cA (hJ (aR (ar 8))) (bp 2)) av)))) av)))
 (hZ (jf fA (ar 8) (aq (bg (jd "tell" (aq (ax aG (aC 0 (eU 10 av))) av))) av)))) (cZ (ij (aH (aQ Cw (ar 10) (bp 8))) (aH (cY (aR (ar 5))))) (hZ (jf fA (ar 8) (aq (bg (jd "put" (aq (ax bM (aC 0 (aC 5 av))) (aq (ax (bC 4) (aC 0 (aC 7 (aC 6 (eU 2 av))))) av)))) av))) (hZ (jf fA (ar 8) (aq (bg (jd "tell" (aq (ax (bC 4) (aC 0 (aC 7 (aC 6 (eU 1 av))))) av))) av))))))))))
 (cy (tupQ (cM (aR (ar 8)))))))))
def kJ:cR:=fc 12 oN
def pK:cC:=
 (aD (aS 5 (ax bM (aC 0 (aC 3 av))))
 (aD (aS 6 (bO (dZ c8 (aC 0 (jd "" (aq (bS (bO (bB (eU 1 (eU 1 (eU 2 (eU 0 av)))))) (ax aG (aC 0 (eU 4 av)))) av))))))
 (aD (aS 7 (bO (dZ c8 (aC 0 (jd "" (aq (ax aG (aC 0 (aq (aQ cA (ar 4) (bp 1)) av))) av))))))
 (aD (aS 8 (bO (bB av)))
 (aD (jg (fL (ia (dZ c8 (aC 0 (jd "" (aq (aQ cA (bp 1) (ax aG (aC 0 (eU 3 av)))) av)))))) (bJ 9) (aD (aS 10 (bO (bD [none,some 1] (fL (aR (ar 8))) (bJ 0) bK (bg (aC 1 (fW 0 0 av))))))
 (aD (aS 11 (bO (zO (aR (ar 2)) (ia (Jq (aR (ar 10)) (uq intOfD (aq (aQ (du false) (ax aG (aC 0 (eU 5 av))) (bp 0)) av)))))))
 (hZ (jf fA (ar 8) (aq (bg (aC 9 (aq (ax kJ (aC 0 (aq (bg (aC 5 (aC 6 (aC 7 av)))) (aC 11 (eU 4 av))))) av))) av))))))
 (aD (aS 12 (tupQ (ia (bD [none,some 0] (fL (aR (ar 7))) (bJ 0) bK (bg (aC 0 (aq (bS (bO (bB (jd "row" (jd "turns" av)))) (ax aG (aC 1 (eU 2 av)))) av)))))))
 (cy (bg (aC 1 (aC 5 (aq (tupQ (ia (bD [none,some 0] (fL (aR (ar 6))) (bJ 0) bK (bg (aC 0 (aq (ax aG (aC 1 (eU 3 av))) av)))))) (aC 12 (aq (tupQ (cM (aR (ar 8)))) av)))))))))))))
def lu:cR:=fc 13 pK
def tR:cC:=
 (aD (aS 4 (bO (dZ c8 (aC 0 (jd "" (aC 1 av))))))
 (aD (aS 5 (bO (bB av)))
 (aD (Ja (aH (cY (aR (ar 4)))) (aD (aS 6 (bO (bB av)))
 (aD (jg (fL (aR (ar 5))) (bJ 7) (hZ (Aj (ar 6) (ia (bD [none,some 7] (fL (aR (bG 7 4))) (bJ 0) bK (bg (fW 1 0 (fW 0 0 av))))))))
 (aD (aS 8 (jf gN (ar 4) (aq (ax aG (aC 0 (aq (hJ (aR (ar 4))) av))) av)))
 (hZ (jf fA (ar 5) (aq (ax lu (aC 0 (aC 8 (aC 6 (aC 2 (aC 3 av)))))) av)))))) 4)
 (cy (tupQ (ia (zr (aR (ar 5)))))))))
def jz:cR:=fc 9 tR
def m5:cC:=
 (aD (aS 1 (bO (bB av)))
 (aD (jg (fL (aR (bG 0 0))) (lM (nG 5 (aJ (bJ 2) (aJ (bJ 3) (aJ (bJ 4) (aJ (bJ 5) (aJ (bJ 6) dG))))))) (hZ (jf fA (ar 1) (aq (bO (bB (aq (bO (bD [none,none] (fL (aR (ar 4))) (lM (nG 2 (aJ (bJ 0) (aJ (bJ 1) dG)))) bK (ar 1))) (aq (h_ (bp 1)) (aq (bO (bB av)) (aq (bO (bB av)) (aq (bO (bD [none] (fL (aR (ar 5))) (bJ 0) bK (bO (bB av)))) av))))))) av))))
 (aD (aS 7 (bO (bB av)))
 (aD (jg (fL (aR (bG 0 3))) (lM (nG 2 (aJ (bJ 4) (aJ (bJ 8) dG)))) (hZ (jf fA (ar 7) (aq (bO (bB (aq (bO (bD [none,none] (fL (aR (ar 4))) (lM (nG 2 (aJ (bJ 0) (aJ (bJ 1) dG)))) bK (ar 1))) (aq (bO (bB (aq (bO (bB (aq (h_ (bp 1)) (aq (h_ (bp 1)) (eU 0 (eU 0 (eU 0 av))))))) av))) av)))) av))))
 (Gz (bB (aC 1 (aq (bO (bD [none,none] (fL (aR (bG 0 1))) (lM (nG 2 (aJ (bJ 0) (aJ (bJ 1) dG)))) bK (bO (bB (aC 1 (aq (bO (bB av)) av)))))) (aq (bO (bD [none,none] (fL (aR (bG 0 2))) (lM (nG 2 (aJ (bJ 0) (aJ (bJ 1) dG)))) bK (ar 1))) (aC 7 av))))))))))
def jn:cR:=CA 9 m5
def oP:cC:=
 (cy (tupQ (ia (bD [none,none] (fL (aR (ar 0))) (lM (nG 2 (aJ (bJ 0) (aJ (bJ 1) dG)))) bK (ar 1)))))
def gP:cR:=fc 1 oP
def mU:cC:=
 (aD (ko (ar 0) (lM (nG 5 (aJ (bJ 1) (aJ (bJ 2) (aJ (bJ 3) (aJ (bJ 4) (aJ (bJ 5) dG))))))))
 (cy (bg (aq (ax gP (aC 3 av)) (aq (cF (.int (-1))) (aq (bg av) (aq (bg av) (aq (tupQ (ia (bD [none] (fL (aR (ar 4))) (bJ 0) bK (bg av)))) av))))))))
def jq:cR:=fc 6 mU
def DH:cC:=
 (aD (ko (ar 0) (lM (nG 4 (aJ (bJ 1) (aJ (bJ 2) (aJ (bJ 3) (aJ (bJ 4) dG)))))))
 (aD (aS 5 (bg (aq (cF (.int (-1))) (aq (cF (.int (-1))) (eU 0 (eU 0 (eU 0 av)))))))
 (cy (bg (aq (tupQ (ia (bD [none] (fL (aR (ar 1))) (bJ 0) bK (ax jq (aC 0 av))))) (aq (tupQ (ia (bD [none,none] (fL (aR (ar 2))) (lM (nG 2 (aJ (bJ 0) (aJ (bJ 1) dG)))) bK (bg (aC 1 (aq (bg av) av)))))) (aq (ax gP (aC 3 av)) (aq (tupQ (ia (bD [none,none,some 5] (fL (aR (ar 4))) (lM (nG 2 (aJ (bJ 0) (aJ (bJ 1) dG)))) bK (bg (aq (ax gP (aC 0 av)) (aq (bg (aC 2 av)) av)))))) av))))))))
def zU:cR:=fc 6 DH
def iY:cC:=
 (aD (jg (fL (aR (bG 0 0))) (HV (nG 5 (aJ (bJ 2) (aJ (bJ 3) (aJ (bJ 4) (aJ (bJ 5) (aJ (bJ 6) dG))))))) (aD (cZ (aH (Bx false (ar 1) (ia (zO (aR (ar 4)) (aR (ar 5)))))) (cy (cF (.bl true))) fG)
 (jg (fL (aR (ar 6))) (bJ 7) (cZ (aH (Bx false (ar 1) (ia (bD [none,none] (fL (aR (ar 7))) (lM (nG 2 (aJ (bJ 0) (aJ (bJ 1) dG)))) bK (ar 1))))) (cy (cF (.bl true))) fG))))
 (cy (JA (ia (bD [none,none,some 1] (fL (aR (bG 0 1))) (HV (nG 2 (aJ (bJ 0) (aJ (bJ 1) dG)))) bK (Bx false (ar 2) (aR (ar 1))))))))
def gk:cR:=fc 8 iY
def rh:cC:=
 (aD (aS 2 (bO (bB av)))
 (aD (jg (uW (hJ (aR (bG 0 3)))) (bJ 3) (aD (aS 4 (bS (bS (bS (bG 1 3) (ar 3)) (bp 1)) (h_ (bp 1))))
 (aD (aS 5 (qX (aQ Cw (bG 4 0) (bp 0)) (aQ (du false) (bG 4 2) (hJ (aR (bS (bS (bG 0 3) (ar 3)) (bp 1)))))))
 (cZ (ij (xw (j0 (ar 5))) (xw (j0 (ax gk (aC 1 (aC 3 av)))))) (hZ (jf fA (ar 2) (aC 3 av))) fG))))
 (cy (ar 2))))
def nT:cR:=fc 6 rh
def o_:cC:=
 (aD (cZ (ij (aH (Bx false (ar 2) (aR (ar 1)))) (aH (aQ (du false) (ax aG (aC 0 (eU 2 av))) (bp 0)))) (cy (ar 2)) fG)
 (cy (ax bM (aC 0 (aC 1 av)))))
def kP:cR:=fc 3 o_
def jF:cC:=
 (aD (cZ (aH (aQ Cw (bG 2 0) (bp 0))) (cy (bS (bS (bG 0 3) (ar 1)) (bp 1))) fG)
 (cy (bS (bS (bS (bS (bG 0 0) (bG 2 0)) (bp 4)) (bG 2 1)) (bp 1))))
def fI:cR:=fc 3 jF
def l_:cC:=
 (cZ (aH (aQ Cw (bG 0 1) (bp 0))) (ko (ar 1) (wO (ar 0) (bp 1))) (hZ (jf fA (bG 0 2) (aC 1 av))))
def g6:cR:=CA 2 l_
def my:cC:=
 (aD (ko (h_ (bp 1)) (wO (ar 0) (bp 1)))
 (cZ (aH (cY (aR (bG 0 3)))) (ko (jf gN (bG 0 3) (eU 0 av)) (wO (ar 0) (bp 1))) (cZ (aH (cY (aR (bG 0 2)))) (ko (jf gN (bG 0 2) (eU 0 av)) (wO (ar 0) (bp 1))) fG)))
def hU:cR:=CA 1 my
def oY:cC:=
 (cy (HG (ia (bD [none] (fL (aR (ar 0))) (bJ 0) bK (bG 0 0))) (ar 1)))
def dg:cR:=fc 2 oY
def rQ:cC:=
 (aD (aS 5 (bS (bS (bS (bG 1 3) (ar 2)) (bp 1)) (h_ (bp 1))))
 (cZ (aH (aQ Oo (bG 5 0) (bp 0))) (ko (ar 4) (wO (bS (bS (bG 1 0) (bG 5 0)) (bp 0)) (ax dg (aq (bS (bS (bG 0 0) (bG 5 0)) (bp 2)) (aC 3 av))))) (cZ (aH (Bx false (ar 3) (ia (bD [none] (fL (aR (bS (bS (bG 0 3) (ar 2)) (bp 0)))) (bJ 0) bK (bG 0 0))))) (ko (ar 4) (wO (bS (bS (bG 1 3) (ar 2)) (bp 0)) (ax dg (aq (bS (bS (bG 0 3) (ar 2)) (bp 0)) (aC 3 av))))) (ko (ar 4) (wO (bG 1 2) (ax dg (fW 0 2 (aC 3 av))))))))
def jZ:cR:=CA 6 rQ
def rJ:cC:=
 (aD (aS 3 (bS (bS (bG 1 3) (ar 2)) (bp 1)))
 (aD (ko (jf F1 (ar 3) av) (HV (nG 5 (aJ (bJ 4) (aJ (bJ 5) (aJ (bJ 6) (aJ (bJ 7) (aJ (bJ 8) dG))))))))
 (aD (hZ (ax hU (aq (bS (bG 1 0) (ar 4)) av)))
 (aD (aS 9 (bS (ax fI (aC 0 (aC 2 (aq (bS (ar 3) (h_ (bp 1))) av)))) (aQ jB (bS (bS (ar 3) (h_ (bp 1))) (bp 2)) (bp 1))))
 (cZ (aH (aQ (Bk true) (bG 9 1) (cF .non))) (hZ (ax jZ (aC 0 (aC 1 (aC 2 (fW 9 1 (aC 8 av))))))) fG)))))
def nR:cR:=CA 10 rJ
def m4(self:cR):cC:=
 (aD (cZ (j0 (oJ "int" (ar 0))) (cy (ar 0)) fG)
 (aD (cZ (j0 (oJ "str" (ar 0))) (cy (LV (ar 1) (ar 0))) fG)
 (aD (cZ (aH (aQ (du false) (bG 0 0) (cF (.str "waits")))) (cy (uq intOfD (aq (aQ Jb (LV (ar 2) (bG 0 1)) (bp 0)) av))) fG)
 (aD (aS 3 (bO (bD [none,some 1,some 2] (fL (aR (ud (ar 0) (ur (bp 1)) uT))) (bJ 0) bK (ax self (aC 0 (aC 1 (aC 2 av)))))))
 (aD (cZ (aH (aQ (du false) (bG 0 0) (cF (.str "not")))) (cy (uq intOfD (aq (aQ (du false) (bG 3 0) (bp 0)) av))) fG)
 (aD (ko (ar 3) (HV (nG 2 (aJ (bJ 4) (aJ (bJ 5) dG)))))
 (aD (cZ (aH (aQ (du false) (bG 0 0) (cF (.str "plus")))) (cy (uq minD (eU 9 (aq (aQ cA (ar 4) (ar 5)) av)))) fG)
 (aD (cZ (aH (aQ (du false) (bG 0 0) (cF (.str "minus")))) (cy (uq maxD (eU 0 (aq (aQ jB (ar 4) (ar 5)) av)))) fG)
 (aD (cZ (aH (aQ (du false) (bG 0 0) (cF (.str "less")))) (cy (uq intOfD (aq (aQ Cw (ar 4) (ar 5)) av))) fG)
 (cy (uq intOfD (aq (xt (aH (aQ (du false) (bG 0 0) (cF (.str "same")))) (aQ (du false) (ar 4) (ar 5)) (qX (aQ Jb (ar 4) (bp 0)) (aQ Jb (ar 5) (bp 0)))) av))))))))))))
def eD:Nat->cR
 |0=>λ_ _=>none
 |n+1=>fc 6 (m4 (eD n))
def kM:cC:=
 (aD (aS 4 (bS (bS (bS (bG 1 3) (ar 2)) (bp 1)) (h_ (bp 1))))
 (aD (cZ (aH (aQ Cw (bG 4 0) (bp 0))) (aD (aS 5 (aQ cA (bS (bS (bG 0 3) (ar 2)) (bp 0)) (bG 0 2)))
 (aD (aS 6 (bO (zO (aR (bS (bS (bG 1 3) (ar 2)) (bp 0))) (aR (bG 1 2)))))
 (cy (ax (eD 5) (aC 3 (aq (Kv (ia (bD [none] (fL (aR (ar 5))) (bJ 0) bK (bG 0 0))) (aR (ar 6))) (aq OW av))))))) fG)
 (aD (aS 7 (bS (bG 0 0) (bG 4 0)))
 (aD (aS 8 (Kv (ia (bD [none] (fL (aR (bG 7 2))) (bJ 0) bK (bG 0 0))) (aR (bS (bS (bG 1 0) (bG 4 0)) (bp 0)))))
 (aD (NV (ar 8) (cF (.str "given")) (bG 4 3))
 (aD (aS 9 (bO (bD [none] (fL (aR (bS (bS (bG 1 0) (bG 4 0)) (bp 4)))) (bJ 0) bK (hJ (aR (ar 0))))))
 (aD (aS 10 (Kv (ia (bD [none] (fL (aR (bG 7 3))) (bJ 0) bK (bG 0 0))) (aR (ar 9))))
 (cy (ax (eD 5) (aC 3 (aC 8 (aC 10 av))))))))))))
def cN:cR:=fc 11 kM
def pF:cC:=
 (aD (aS 4 (bS (bS (bS (bS (bG 1 3) (ar 2)) (bp 1)) (h_ (bp 1))) (bp 0)))
 (aD (aS 5 (bS (bG 1 0) (ar 4)))
 (aD (aS 6 (ax dg (aq (bS (bS (bG 0 0) (ar 4)) (bp 3)) (fW 3 1 av))))
 (aD (aS 7 (bS (bG 5 4) (ar 6)))
 (cZ (aH (aQ (du false) (bG 3 0) (cF (.str "wait")))) (aD (aS 8 (aQ n0 (ax cN (aC 0 (aC 1 (aC 2 (fW 3 2 av))))) (uq intOfD (aq (aQ (du false) (bS (bS (bS (bS (bG 0 0) (ar 4)) (bp 3)) (ar 6)) (bp 1)) (cF (.str "turns"))) av))))
 (aD (hZ (jf FZ (ar 7) (aq (hJ (ia (bD [none,some 8] (fL (aR (ar 7))) (bJ 0) (aH (aQ OD (bG 0 0) (ar 1))) (ar 0)))) (aq (bg (aC 8 (aC 2 av))) av))))
 (hZ (ax hU (aC 5 av))))) (cZ (aH (aQ (du false) (bG 3 0) (cF (.str "all")))) (hZ (jf Kr (ar 7) av)) (cZ (aH (cY (aR (ar 7)))) (aD (aS 9 (jf gN (ar 7) (eU 0 av)))
 (cZ (aH (aQ (du false) (bS (bS (bG 0 0) (ar 4)) (bp 1)) (cF (.str "at once")))) (aD (ko (bG 9 1) (wO (ar 5) (bp 1)))
 (hZ (jf fA (bG 5 3) (aC 2 av)))) fG)) fG)))))))
def kI:cR:=CA 10 pF
def uY:cC:=
 (cZ (aH (cY (aR (bG 0 1)))) (hZ (jf gN (bG 0 1) (eU 0 av))) (ko (uq minD (eU 9 (aq (aQ cA (bG 0 0) (bp 1)) av))) (wO (ar 0) (bp 0))))
def pL:cR:=CA 1 uY
def yd:cC:=
 (cZ (aH (aQ Jb (bG 0 0) (bp 0))) (ko (aQ jB (bG 0 0) (bp 1)) (wO (ar 0) (bp 0))) (hZ (jf fA (bG 0 1) (aC 1 av))))
def r_:cR:=CA 2 yd
def oH:cC:=
 (aD (cZ (aH (aQ (du true) (bG 3 0) (cF (.str "take")))) (hZ (ax pL (aq (bS (bG 1 1) (ax dg (fW 0 1 (fW 3 1 av)))) av))) fG)
 (cZ (aH (aQ (du true) (bG 3 0) (cF (.str "give")))) (hZ (ax r_ (aq (bS (bG 1 1) (ax dg (fW 0 1 (aq (bS (ar 3) (h_ (bp 1))) av)))) (aC 2 av)))) fG))
def jE:cR:=CA 4 oH
def rj:cC:=
 (aD (aS 4 (bS (bS (bS (bG 1 3) (ar 2)) (bp 1)) (h_ (bp 1))))
 (aD (cZ (aH (aQ (du false) (bG 3 0) (cF (.str "put")))) (hZ (ax jZ (aC 0 (aC 1 (aC 2 (fW 3 1 (aq (ax cN (aC 0 (aC 1 (aC 2 (fW 3 2 av))))) av))))))) (cZ (aH (aQ (du false) (bG 3 0) (cF (.str "unless")))) (cZ (aH (aQ (du false) (ax cN (aC 0 (aC 1 (aC 2 (fW 3 1 av))))) (bp 0))) (ko (bG 3 2) (wO (ar 4) (bp 2))) fG) (cZ (aH (aQ (du false) (bG 3 0) (cF (.str "go")))) (ko (bG 3 1) (wO (ar 4) (bp 2))) (cZ (aH (aQ (du false) (bG 3 0) (cF (.str "do")))) (aD (aS 5 (ax cN (aC 0 (aC 1 (aC 2 (fW 3 4 av))))))
 (aD (aS 6 (ax dg (fW 0 0 (fW 3 2 av))))
 (aD (hZ (jf fA (bS (bS (bG 1 3) (ar 2)) (bp 1)) (aq (bO (bB (aC 6 (aq (ax dg (aq (bS (bS (bG 0 0) (ar 6)) (bp 4)) (fW 3 3 av))) (eU 0 (aC 5 (eU 0 av))))))) av)))
 (hZ (ax g6 (aq (bS (bG 1 0) (ar 6)) (aC 2 av))))))) (cZ (aH (aQ (du false) (bG 3 0) (cF (.str "tell")))) (ko (ax cN (aC 0 (aC 1 (aC 2 (fW 3 1 av))))) (wO (ar 4) (bp 4))) (cZ (aH (Bx false (bG 3 0) (aR (bg (jd "wait" (jd "call" (jd "all" av))))))) (hZ (ax kI (aC 0 (aC 1 (aC 2 (aC 3 av)))))) (cZ (aH (aQ (du false) (bG 3 0) (cF (.str "say")))) (cy (bg (aC 2 (aq (ax cN (aC 0 (aC 1 (aC 2 (fW 3 1 av))))) av)))) (hZ (ax jE (aC 0 (aC 1 (aC 2 (aC 3 av)))))))))))))
 (cy (cF .non))))
def kb:cR:=CA 7 rj
def pZ:cC:=
 (aD (aS 3 (bS (bS (bS (bG 1 3) (ar 2)) (bp 1)) (h_ (bp 1))))
 (aD (aS 4 (ax fI (aC 0 (aC 2 (aC 3 av)))))
 (aD (cZ (ij (aH (aQ Oo (bG 3 0) (bp 0))) (aH (aQ (du true) (bS (bS (bG 1 0) (bG 3 0)) (bp 1)) (ar 2)))) (hZ (ax g6 (aq (bS (bG 1 0) (bG 3 0)) (aC 2 av)))) (cZ (aH (aQ (du false) (bG 3 2) (hJ (aR (ar 4))))) (hZ (ax nR (aC 0 (aC 1 (aC 2 av))))) (aD (ko (aQ cA (bG 3 2) (bp 1)) (wO (ar 3) (bp 2)))
 (cy (ax kb (aC 0 (aC 1 (aC 2 (aq (bS (ar 4) (aQ jB (bG 3 2) (bp 1))) av)))))))))
 (cy (cF .non)))))
def lG:cR:=CA 5 pZ
def mK:cC:=
 (cy (bS (bS (bS (bG 0 3) (ar 1)) (bp 1)) (h_ (bp 1))))
def c7:cR:=fc 2 mK
def sT:cC:=
 (aD (Ke 3 4 (fW 2 0 (fW 2 1 av)))
 (aD (cZ (aH (aQ (du false) (ar 3) (cF (.int (-1))))) (cy (bS (bS (bG 0 3) (ar 1)) (bp 1))) fG)
 (cy (bS (bS (bS (bS (bG 0 0) (ar 3)) (bp 4)) (ar 4)) (bp 1)))))
def fV:cR:=fc 5 sT
def rp:cC:=
 (Gz (bD [none] (fL (aR (ar 0))) (bJ 0) bK (bG 0 0)))
def eR:cR:=fc 1 rp
def sC:cC:=
 (cy (HG (ia (dZ eR (aC 0 av))) (ar 1)))
def dw:cR:=fc 2 sC
def pD:cC:=
 (cy (aQ cA (aQ cA (ud (ar 0) uT (ur (ar 1))) (bg (aC 2 av))) (ud (ar 0) (ur (aQ cA (ar 1) (bp 1))) uT)))
def dP:cR:=fc 3 pD
def oU:cC:=
 (cy (aQ cA (ud (ar 0) uT (ur (bp 3))) (bg (aq (ax dP (fW 0 3 (aC 1 (aq (bg (aC 2 (aC 3 av))) av)))) av))))
def fR:cR:=fc 4 oU
def pe:cC:=
 (cy (aQ cA (bg (aq (ax dP (fW 0 0 (aC 1 (aC 2 av)))) av)) (ud (ar 0) (ur (bp 1)) uT)))
def dk:cR:=fc 3 pe
def kq:cC:=
 (aD (aS 5 (bS (ax c7 (aC 1 (aC 2 av))) (bp 0)))
 (aD (cZ (aH (aQ (du true) (ar 5) (cF (.int (-1))))) (aD (aS 6 (ax dw (aq (bS (bS (bG 0 0) (ar 5)) (bp 2)) (aC 3 av))))
 (aD (aS 7 (ax dP (aq (bS (bS (bG 1 0) (ar 5)) (bp 0)) (aC 6 (aC 4 av)))))
 (cy (ax dk (aC 1 (aC 5 (aq (aQ cA (bg (aC 7 av)) (ud (bS (bG 1 0) (ar 5)) (ur (bp 1)) uT)) av))))))) fG)
 (aD (cZ (aH (Bx false (ar 3) (ia (dZ eR (fW 0 2 av))))) (aD (aS 8 (ax dP (fW 1 2 (aq (ax dw (fW 0 2 (aC 3 av))) (aC 4 av)))))
 (cy (bg (fW 1 0 (fW 1 1 (aC 8 (fW 1 3 av))))))) fG)
 (aD (ko (bS (bG 1 3) (ar 2)) (lM (nG 2 (aJ (bJ 7) (aJ (bJ 9) dG)))))
 (aD (aS 6 (ax dw (aq (bS (bS (bG 0 3) (ar 2)) (bp 0)) (aC 3 av))))
 (cy (ax fR (aC 1 (aC 2 (aq (ax dP (aC 7 (aC 6 (aC 4 av)))) (aC 9 av)))))))))))
def fT:cR:=fc 10 kq
def jI:cC:=
 (aD (cZ (aH (aQ (du false) (ar 0) (cF (.str "plus")))) (cy (uq minD (aq (aQ cA (ar 1) (ar 2)) (aq (cF (.int (9))) av)))) fG)
 (aD (cZ (aH (aQ (du false) (ar 0) (cF (.str "minus")))) (cy (uq maxD (aq (aQ jB (ar 1) (ar 2)) (eU 0 av)))) fG)
 (aD (cZ (aH (aQ (du false) (ar 0) (cF (.str "less")))) (cy (xt (aH (aQ Cw (ar 1) (ar 2))) (bp 1) (bp 0))) fG)
 (aD (cZ (aH (aQ (du false) (ar 0) (cF (.str "same")))) (cy (xt (aH (aQ (du false) (ar 1) (ar 2))) (bp 1) (bp 0))) fG)
 (cy (xt (ij (aH (aQ (du true) (ar 1) (bp 0))) (aH (aQ (du true) (ar 2) (bp 0)))) (bp 1) (bp 0)))))))
def gX:cR:=fc 3 jI
def rf(self:cR):cC:=
 (aD (cZ (j0 (oJ "int" (ar 0))) (cy (ar 0)) fG)
 (aD (cZ (j0 (oJ "str" (ar 0))) (cy (LV (ar 1) (ar 0))) fG)
 (aD (cZ (aH (aQ (du false) (bG 0 0) (cF (.str "waits")))) (cy (xt (aH (aQ Jb (LV (ar 2) (bG 0 1)) (bp 0))) (bp 1) (bp 0))) fG)
 (aD (aS 3 (ax self (fW 0 1 (aC 1 (aC 2 av)))))
 (aD (cZ (aH (aQ (du false) (bG 0 0) (cF (.str "not")))) (cy (xt (aH (aQ (du false) (ar 3) (bp 0))) (bp 1) (bp 0))) fG)
 (cy (ax gX (fW 0 0 (aC 3 (aq (ax self (fW 0 2 (aC 1 (aC 2 av)))) av))))))))))
def gM:Nat->cR
 |0=>λ_ _=>none
 |n+1=>fc 4 (rf (gM n))
def nz:cC:=
 (aD (aS 4 (ax c7 (aC 1 (aC 2 av))))
 (aD (aS 5 (bG 4 0))
 (aD (cZ (aH (aQ (du false) (ar 5) (cF (.int (-1))))) (aD (aS 6 (Kv (ia (dZ eR (fW 0 2 av))) (aR (bG 1 2))))
 (aD (hZ (Ji (ar 6) (Kv (ia (dZ eR (aq (bS (bS (bG 0 3) (ar 2)) (bp 0)) av))) (aR (bS (bS (bG 1 3) (ar 2)) (bp 0))))))
 (cy (ax (gM 6) (aC 3 (aC 6 (aq OW av))))))) fG)
 (aD (aS 6 (Kv (ia (dZ eR (aq (bS (bS (bG 0 0) (ar 5)) (bp 2)) av))) (aR (bS (bS (bG 1 0) (ar 5)) (bp 0)))))
 (aD (NV (ar 6) (cF (.str "given")) (bG 4 3))
 (aD (Ni 7 (rD [none,none] (Iz (ia (dZ eR (aq (bS (bS (bG 0 0) (ar 5)) (bp 3)) av))) (aR (bS (bS (bG 1 0) (ar 5)) (bp 4)))) (lM (nG 2 (aJ (bJ 0) (aJ (bJ 1) dG)))) bK (ar 0) (hJ (aR (ar 1)))))
 (cy (ax (gM 6) (aC 3 (aC 6 (aC 7 av)))))))))))
def dS:cR:=fc 8 nz
def yH:cC:=
 (cy (ax fT (aC 0 (aC 1 (aC 2 (fW 3 1 (aq (ax dS (aC 0 (aC 1 (aC 2 (fW 3 2 av))))) av)))))))
def uL:cR:=fc 4 yH
def gR:cC:=
 (aD (ko (bS (bG 0 3) (ar 1)) (lM (nG 2 (aJ (bJ 3) (aJ (bJ 4) dG)))))
 (cy (ax fR (aC 0 (aC 1 (aC 3 (aq (aQ cA (ud (ar 4) uT (ur (h_ (bp 1)))) (bg (aC 2 av))) av)))))))
def dX:cR:=fc 5 gR
def zC:cC:=
 (aD (aS 3 (ax c7 (aC 0 (aC 1 av))))
 (cy (ax dX (aC 0 (aC 1 (aq (aQ cA (aQ cA (ud (ar 3) uT (ur (bp 2))) (bg (aC 2 av))) (ud (ar 3) (ur (bp 3)) uT)) av))))))
def lD:cR:=fc 4 zC
def pN:cC:=
 (aD (cZ (aH (aQ (du false) (ax dS (aC 0 (aC 1 (aC 2 (fW 3 1 av))))) (bp 0))) (cy (ax lD (aC 1 (aC 2 (fW 3 2 av))))) fG)
 (cy (ar 1)))
def lB:cR:=fc 4 pN
def DP:cC:=
 (cy (ax lD (aC 1 (aC 2 (fW 3 1 av)))))
def yX:cR:=fc 4 DP
def vc:cC:=
 (aD (ko (bS (bG 0 0) (ar 1)) (lM (nG 5 (aJ (bJ 3) (aJ (bJ 4) (aJ (bJ 5) (aJ (bJ 6) (aJ (bJ 7) dG))))))))
 (aD (cZ (aH (aQ (du false) (ar 4) (cF (.int (-1))))) (cy (ax dk (aC 0 (aC 1 (aq (bg (aC 3 (aC 2 (aC 5 (aC 6 (aC 7 av)))))) av))))) fG)
 (cy (ax dk (aC 0 (aC 1 (aq (bg (aC 3 (aC 4 (aq (aQ cA (ar 5) (bg (aC 2 av))) (aC 6 (aC 7 av)))))) av)))))))
def m_:cR:=fc 8 vc
def DS:cC:=
 (aD (aS 4 (ax dw (fW 0 0 (fW 3 2 av))))
 (aD (aS 5 (ax dw (aq (bS (bS (bG 0 0) (ar 4)) (bp 4)) (fW 3 3 av))))
 (aD (aS 6 (bg (aC 4 (aC 5 (eU 0 (aq (ax dS (aC 0 (aC 1 (aC 2 (fW 3 4 av))))) (eU 0 av)))))))
 (aD (ko (bS (bG 1 3) (ar 2)) (lM (nG 2 (aJ (bJ 7) (aJ (bJ 8) dG)))))
 (cy (ax m_ (aq (ax fR (aC 1 (aC 2 (aC 7 (aq (aQ cA (ar 8) (bg (aC 6 av))) av))))) (aC 4 (aC 2 av)))))))))
def zc:cR:=fc 9 DS
def uX:cC:=
 (aD (aS 4 (bS (ax c7 (aC 1 (aC 2 av))) (bp 0)))
 (cy (bg (aC 4 (aq (ax dw (aq (bS (bS (bG 0 0) (ar 4)) (bp 3)) (aC 3 av))) av)))))
def jN:cR:=fc 5 uX
def oT:cC:=
 (aD (aS 4 (bS (bG 0 0) (ar 1)))
 (cy (ax dk (aC 0 (aC 1 (aq (aQ cA (ud (ar 4) uT (ur (bp 4))) (bg (aq (ax dP (fW 4 4 (aC 2 (aC 3 av)))) av))) av))))))
def fS:cR:=fc 5 oT
def CJ:cC:=
 (aD (ko (bS (bG 0 0) (ar 1)) (lM (nG 5 (aJ (bJ 2) (aJ (bJ 3) (aJ (bJ 4) (aJ (bJ 5) (aJ (bJ 6) dG))))))))
 (aD (cZ (j0 (ar 5)) (cy (ax dk (aC 0 (aC 1 (aq (bg (aC 2 (fW 5 0 (aC 4 (aq (ud (ar 5) (ur (bp 1)) uT) (aC 6 av)))))) av))))) fG)
 (aD (cZ (j0 (ar 4)) (cy (ax dk (aC 0 (aC 1 (aq (bg (aC 2 (fW 4 0 (aq (ud (ar 4) (ur (bp 1)) uT) (aC 5 (aC 6 av)))))) av))))) fG)
 (cy (ax dk (aC 0 (aC 1 (aq (bg (aC 2 (aq (cF (.int (-1))) (aC 4 (aC 5 (aC 6 av)))))) av))))))))
def rX:cR:=fc 7 CJ
def vf:cC:=
 (aD (ko (ax jN (aC 0 (aC 1 (aC 2 (fW 3 1 av))))) (lM (nG 2 (aJ (bJ 4) (aJ (bJ 5) dG)))))
 (aD (aS 6 (bp 0))
 (aD (cZ (aH (aQ (du false) (bS (bS (bS (bS (bG 0 0) (ar 4)) (bp 3)) (ar 5)) (bp 1)) (cF (.str "turns")))) (aS 6 (ax dS (aC 0 (aC 1 (aC 2 (fW 3 2 av)))))) fG)
 (aD (aS 7 (bS (bS (bS (bG 1 0) (ar 4)) (bp 4)) (ar 5)))
 (aD (aS 8 (hJ (ia (bD [none,none,some 6] (fL (aR (ar 7))) (lM (nG 2 (aJ (bJ 0) (aJ (bJ 1) dG)))) (aH (aQ OD (ar 0) (ar 2))) (ar 0)))))
 (aD (aS 9 (ax fS (aC 1 (aC 4 (aC 5 (aq (aQ cA (aQ cA (ud (ar 7) uT (ur (ar 8))) (bg (aq (bg (aC 6 (aC 2 av))) av))) (ud (ar 7) (ur (ar 8)) uT)) av))))))
 (cy (ax rX (aC 9 (aC 4 av))))))))))
def qv:cR:=fc 10 vf
def wb:cC:=
 (aD (ko (ax jN (aC 0 (aC 1 (aC 2 (fW 3 1 av))))) (lM (nG 2 (aJ (bJ 4) (aJ (bJ 5) dG)))))
 (aD (aS 6 (bS (bS (bS (bG 1 0) (ar 4)) (bp 4)) (ar 5)))
 (aD (cZ (xw (j0 (ar 6))) (cy (ar 1)) fG)
 (aD (aS 7 (ax fS (aC 1 (aC 4 (aC 5 (aq (ud (ar 6) (ur (bp 1)) uT) av))))))
 (aD (cZ (aH (aQ (du false) (bS (bS (bG 0 0) (ar 4)) (bp 1)) (cF (.str "when free")))) (cy (ar 7)) fG)
 (aD (ko (bS (bG 7 0) (ar 4)) (lM (nG 5 (aJ (bJ 8) (aJ (bJ 9) (aJ (bJ 10) (aJ (bJ 11) (aJ (bJ 12) dG))))))))
 (cy (ax dk (aC 7 (aC 4 (aq (bg (aC 8 (aq (bS (bG 6 0) (bp 1)) (aC 10 (aq (aQ cA (ar 11) (bg (aC 2 av))) (aC 12 av)))))) av)))))))))))
def qD:cR:=fc 13 wb
def zH:cC:=
 (aD (ko (ax jN (aC 0 (aC 1 (aC 2 (fW 3 1 av))))) (lM (nG 2 (aJ (bJ 4) (aJ (bJ 5) dG)))))
 (cy (ax fS (aC 1 (aC 4 (aC 5 (aq (bg av) av)))))))
def uE:cR:=fc 6 zH
def vj:cC:=
 (aD (aS 4 (ax dS (aC 0 (aC 1 (aC 2 (fW 3 1 av))))))
 (cy (ax dX (aC 1 (aC 2 (aq (aQ cA (ud (ax c7 (aC 1 (aC 2 av))) uT (ur (bp 4))) (bg (aC 4 av))) av))))))
def qz:cR:=fc 5 vj
def u4:cC:=
 (cy (aQ cA (bg (fW 0 0 (aq (ax dP (fW 0 1 (aC 1 (aC 2 av)))) av))) (ud (ar 0) (ur (bp 2)) uT)))
def gF:cR:=fc 3 u4
def G6:cC:=
 (aD (aS 4 (ax dw (fW 0 1 (aC 3 av))))
 (aD (ko (bS (bG 1 1) (ar 4)) (lM (nG 2 (aJ (bJ 5) (aJ (bJ 6) dG)))))
 (aD (cZ (aH (aQ Jb (ar 5) (bp 0))) (cy (ax gF (aC 1 (aC 4 (aq (bg (aq (aQ jB (ar 5) (bp 1)) (aC 6 av))) av))))) fG)
 (cy (ax gF (aC 1 (aC 4 (aq (bg (aC 5 (aq (aQ cA (ar 6) (bg (aC 2 av))) av))) av))))))))
def zq:cR:=fc 7 G6
def BR:cC:=
 (cy (ax zq (aC 0 (aC 1 (aC 2 (fW 3 1 av))))))
def v7:cR:=fc 4 BR
def tX:cC:=
 (aD (aS 3 (ax dw (fW 0 1 (aC 2 av))))
 (aD (ko (bS (bG 1 1) (ar 3)) (lM (nG 2 (aJ (bJ 4) (aJ (bJ 5) dG)))))
 (aD (cZ (j0 (ar 5)) (cy (ax gF (aC 1 (aC 3 (aq (bg (aC 4 (aq (ud (ar 5) (ur (bp 1)) uT) av))) av))))) fG)
 (cy (ax gF (aC 1 (aC 3 (aq (bg (aq (uq minD (aq (aQ cA (ar 4) (bp 1)) (aq (cF (.int (9))) av))) (aC 5 av))) av))))))))
def jr:cR:=fc 6 tX
def B2:cC:=
 (cy (ax jr (aC 0 (aC 1 (fW 3 1 av)))))
def vP:cR:=fc 4 B2
def BH:cC:=
 (cy (ax zq (aC 0 (aq (ax jr (aC 0 (aC 1 (fW 3 1 av)))) (aC 2 (fW 3 2 av))))))
def vW:cR:=fc 4 BH
def zR:cC:=
 (cy (ar 1))
def uN:cR:=fc 4 zR
def nH:List (Str×Str):= [("put","by_put"),("unless","by_unless"),("go","by_go"),("do","by_do"),("wait","by_wait"),("call","by_call"),("all","by_all"),("tell","by_tell"),("take","by_take"),("give","by_give"),("pass","by_pass"),("say","by_say")]
def vt:List (Str×cR):= [("by_put",uL),("by_unless",lB),("by_go",yX),("by_do",zc),("by_wait",qv),("by_call",qD),("by_all",uE),("by_tell",qz),("by_take",v7),("by_give",vP),("by_pass",vW),("by_say",uN)]
def x_:cC:=
 (aD (aS 4 (OG nH (bG 3 0)))
 (cy (vo 4 vt (aC 0 (aC 1 (aC 2 (aC 3 av)))))))
def jT:cR:=fc 5 x_
def sk:cC:=
 (aD (ko (bS (bG 1 3) (ar 2)) (lM (nG 2 (aJ (bJ 3) (aJ (bJ 4) dG)))))
 (aD (ko (bS (ar 4) (h_ (bp 1))) (lM (nG 5 (aJ (bJ 5) (aJ (bJ 6) (aJ (bJ 7) (aJ (bJ 8) (aJ (bJ 9) dG))))))))
 (aD (aS 10 (ax fR (aq (ax rX (aC 1 (aC 5 av))) (aC 2 (aC 3 (aq (ud (ar 4) uT (ur (h_ (bp 1)))) av))))))
 (aD (aS 11 (bS (ax fV (aC 0 (aC 2 (aq (bS (ar 4) (h_ (bp 2))) av)))) (aQ jB (bS (bS (ar 4) (h_ (bp 2))) (bp 2)) (bp 1))))
 (aD (cZ (aH (aQ (Bk false) (bG 11 1) (cF .non))) (cy (ar 10)) fG)
 (cy (ax fT (aC 0 (aC 10 (aC 2 (fW 11 1 (aC 9 av))))))))))))
def jP:cR:=fc 12 sk
def lT:cC:=
 (aD (aS 3 (ax c7 (aC 1 (aC 2 av))))
 (aD (aS 4 (bG 3 0))
 (aD (cZ (ij (aH (aQ (du true) (ar 4) (cF (.int (-1))))) (aH (aQ (du true) (bS (bS (bG 1 0) (ar 4)) (bp 1)) (ar 2)))) (cy (bg (aq (ax m_ (aC 1 (aC 4 (aC 2 av)))) (aq (cF .non) av)))) fG)
 (aD (aS 5 (ax fV (aC 0 (aC 2 (aC 3 av)))))
 (aD (cZ (aH (aQ (du false) (bG 3 2) (hJ (aR (ar 5))))) (cy (bg (aq (ax jP (aC 0 (aC 1 (aC 2 av)))) (aq (cF .non) av)))) fG)
 (aD (aS 6 (bS (ar 5) (bG 3 2)))
 (aD (aS 7 (cF .non))
 (aD (cZ (aH (aQ (du false) (bG 6 0) (cF (.str "say")))) (aS 7 (bg (aC 2 (aq (ax dS (aC 0 (aC 1 (aC 2 (fW 6 1 av))))) av)))) fG)
 (cy (bg (aq (ax jT (aC 0 (aq (ax lD (aC 1 (aC 2 (aq (aQ cA (bG 3 2) (bp 1)) av)))) (aC 2 (aC 6 av))))) (aC 7 av))))))))))))
def qy:cR:=fc 8 lT
def rO:cC:=
 (Gz (bD [none,none] (fL (aR (ar 0))) (lM (nG 2 (aJ (bJ 0) (aJ (bJ 1) dG)))) bK (ar 1)))
def nQ:cR:=fc 1 rO
def i6:cC:=
 (aD (aS 1 (bO (bB av)))
 (aD (jg (fL (aR (bG 0 1))) (lM (nG 2 (aJ (bJ 2) (aJ (bJ 3) dG)))) (hZ (ye (ar 1) (aR (ar 3)))))
 (aD (jg (fL (aR (bG 0 0))) (lM (nG 5 (aJ (bJ 4) (aJ (bJ 5) (aJ (bJ 3) (aJ (bJ 6) (aJ (bJ 7) dG))))))) (aD (hZ (ye (ar 1) (aR (aQ cA (ar 3) (ar 6)))))
 (jg (fL (aR (ar 7))) (bJ 8) (hZ (Aj (ar 1) (ia (dZ nQ (aC 8 av))))))))
 (cy (ar 1)))))
def ff:cR:=fc 9 i6
def jb:cC:=
 (aD (aS 3 (ax c7 (aC 1 (aC 2 av))))
 (cy (qX (aQ (du false) (bG 3 0) (cF (.int (-1)))) (aQ (du false) (bG 3 2) (hJ (aR (ax fV (aC 0 (aC 2 (aC 3 av))))))))))
def gu:cR:=fc 4 jb
def rV:cC:=
 (aD (aS 2 (bO (dZ ff (aC 1 av))))
 (Gz (bD [none,some 0,some 1,some 2] (uW (hJ (aR (bG 1 3)))) (bJ 0) (ij (aH (Bx true (ar 0) (aR (ar 3)))) (xw (j0 (ax gu (aC 1 (aC 2 (aC 0 av))))))) (ar 0))))
def nM:cR:=fc 3 rV
def vy:cC:=
 (aD (cZ (aH (Bx true (ar 2) (ia (dZ nM (aC 0 (aC 1 av)))))) never fG)
 (cy (ax qy (aC 0 (aC 1 (aC 2 av))))))
def qe:cR:=fc 3 vy
def gS(self:cR):cC:=
 (aD (cZ (j0 (oJ "tuple" (ar 1))) (aD (cZ (Lx (xw (j0 (oJ "tuple" (ar 0)))) (aH (aQ (du true) (hJ (aR (ar 0))) (hJ (aR (ar 1)))))) (cy (cF (.bl false))) fG)
 (cy (Km (ia (bD [none,none] (Iz (aR (ar 0)) (aR (ar 1))) (lM (nG 2 (aJ (bJ 0) (aJ (bJ 1) dG)))) bK (ax self (aC 0 (aC 1 av)))))))) fG)
 (aD (cZ (Lx (j0 (oJ "str" (ar 1))) (aH (aQ (Bk false) (ar 1) (cF .non)))) (cy (qX (aQ (du false) (oJ "str" (ar 0)) (oJ "str" (ar 1))) (aQ (du false) (ar 0) (ar 1)))) fG)
 (cy (qX (oJ "int" (ar 0)) (qX (JK (oJ "bool" (ar 0))) (aQ (du false) (ar 0) (ar 1)))))))
def gL:Nat->cR
 |0=>λ_ _=>none
 |n+1=>fc 2 (gS (gL n))
def kF:cC:=
 (aD (aS 1 (bO (bB av)))
 (aD (jg (fL (aR (bG 0 0))) (HV (nG 5 (aJ (bJ 2) (aJ (bJ 3) (aJ (bJ 4) (aJ (bJ 5) (aJ (bJ 6) dG))))))) (hZ (jf fA (ar 1) (aq (bg (aq (tupQ (cM (aR (ar 2)))) (aC 3 (aq (tupQ (cM (aR (ar 4)))) (aq (tupQ (cM (aR (ar 5)))) (aq (tupQ (ia (bD [none] (fL (aR (ar 6))) (bJ 0) bK (tupQ (cM (aR (ar 0))))))) av)))))) av))))
 (aD (aS 7 (bO (bB av)))
 (aD (jg (fL (aR (bG 0 3))) (HV (nG 2 (aJ (bJ 2) (aJ (bJ 8) dG)))) (hZ (jf fA (ar 7) (aq (bg (aq (tupQ (cM (aR (ar 2)))) (aq (tupQ (ia (bD [none] (fL (aR (ar 8))) (bJ 0) bK (tupQ (cM (aR (ar 0))))))) av))) av))))
 (cy (bg (aq (tupQ (cM (aR (ar 1)))) (aq (tupQ (ia (bD [none,none] (fL (aR (bG 0 1))) (HV (nG 2 (aJ (bJ 0) (aJ (bJ 1) dG)))) bK (bg (aC 0 (aq (tupQ (cM (aR (ar 1)))) av)))))) (aq (tupQ (cM (aR (bG 0 2)))) (aq (tupQ (cM (aR (ar 7)))) av))))))))))
def iB:cR:=fc 9 kF
def pd:cC:=
 (aD (aS 3 (bO (dZ jn (aC 1 av))))
 (aD (aS 4 (ax zU (aC 1 av)))
 (aD (aS 5 (h_ (bp 1)))
 (aD (jg (uW (ar 2)) (bJ 6) (aD (aS 7 (bO (dZ nT (aC 1 (aC 3 av)))))
 (cZ (aH (cY (aR (ar 7)))) (aD (aS 5 (ax kP (aC 0 (aC 7 (aC 5 av)))))
 (aD (aS 8 (ax lG (aC 1 (aC 3 (aC 5 av)))))
 (aD (aS 9 (ax qe (aC 1 (aC 4 (aC 5 av)))))
 (aD (cZ (xw (j0 (ax (gL 10) (aC 9 (aq (bg (aq (ax iB (aC 3 av)) (aC 8 av))) av))))) (cy (cF (.bl false))) fG)
 (aS 4 (bG 9 0)))))) fG)))
 (cy (cF (.bl true)))))))
def k8:cR:=fc 10 pd
def sJ:cC:=
 (aD (aS 5 (bO (bB av)))
 (aD (jg (uW (aQ cA (bp 1) (ax aG (aC 0 (aC 4 av))))) (bJ 6) (aD (aS 7 (ax aG (aC 0 (eU 10 av))))
 (cZ (ij (aH (aQ Cw (ar 7) (bp 5))) (aH (cY (aR (ar 1))))) (hZ (jf fA (ar 5) (aq (ax m6 (aC 0 (aC 1 (aC 2 (aC 2 av))))) av))) (cZ (ij (aH (aQ (du false) (ar 7) (bp 5))) (aH (cY (aR (ar 3))))) (hZ (jf fA (ar 5) (aq (bg (aq (bS (bO (bB (jd "take" (jd "give" av)))) (ax aG (aC 0 (eU 2 av)))) (aq (ax bM (aC 0 (aC 3 av))) av))) av))) (cZ (ij (aH (aQ (du false) (ar 7) (bp 6))) (aH (cY (aR (ar 3))))) (hZ (jf fA (ar 5) (aq (bg (jd "pass" (aq (ax bM (aC 0 (aC 3 av))) (aq (ax bM (aC 0 (aC 3 av))) av)))) av))) (cZ (ij (aH (aQ (du false) (ar 7) (bp 7))) (aH (cY (aR (ar 2))))) (hZ (jf fA (ar 5) (aq (bg (jd "put" (aq (ax bM (aC 0 (aC 2 av))) (aq (ax (bC 4) (aC 0 (aC 2 (aq (bO (bB av)) (eU 2 av))))) av)))) av))) (cZ (aH (aQ (du false) (ar 7) (bp 8))) (aD (hZ (jf fA (ar 5) (aq (bg (jd "unless" (aq (ax (bC 4) (aC 0 (aC 2 (aq (bO (bB av)) (eU 2 av))))) (aq (aQ cA (hJ (aR (ar 5))) (bp 2)) av)))) av)))
 (hZ (jf fA (ar 5) (aq (bg (jd "say" (aq (ax (bC 4) (aC 0 (aC 2 (aq (bO (bB av)) (eU 1 av))))) av))) av)))) (hZ (jf fA (ar 5) (aq (bg (jd "say" (aq (ax (bC 4) (aC 0 (aC 2 (aq (bO (bB av)) (eU 1 av))))) av))) av))))))))))
 (aD (cZ (aH (aQ (du false) (ax aG (aC 0 (eU 5 av))) (bp 0))) (hZ (jf fA (ar 5) (aq (bg (jd "go" (aq (ax aG (aC 0 (aq (aQ cA (hJ (aR (ar 5))) (bp 2)) av))) av))) av))) fG)
 (cy (tupQ (cM (aR (ar 5))))))))
def nE:cR:=fc 8 sJ
def mf:cC:=
 (aD (aS 4 (bO (bB av)))
 (aD (jg (fL (aR (ar 1))) (bJ 5) (hZ (Aj (ar 4) (ia (bD [none,some 5] (fL (aR (bG 5 4))) (bJ 0) bK (bg (fW 1 0 (fW 0 0 av))))))))
 (aD (aS 6 (bO (dZ c8 (aC 0 (jd "p" (aq (ax aG (aC 0 (aq (aQ cA (ar 3) (bp 1)) av))) av))))))
 (aD (aS 7 (bO (dZ c8 (aC 0 (jd "o" (aq (bS (bO (bB (eU 0 (eU 0 (eU 1 (eU 2 av)))))) (ax aG (aC 0 (eU 4 av)))) av))))))
 (aD (aS 8 (bO (bB av)))
 (aD (jg (uW (ar 2)) (bJ 9) (aD (aS 10 (bO (dZ c8 (aC 0 (jd "" (aq (bS (bO (bB (eU 0 (eU 1 (eU 1 (eU 2 av)))))) (ax aG (aC 0 (eU 4 av)))) av))))))
 (aD (aS 11 (ax nE (aC 0 (aC 4 (aq (bO (zO (aR (ar 10)) (aR (ar 7)))) (aC 6 (eU 4 av)))))))
 (hZ (jf fA (ar 8) (aq (bg (aq (tupQ (ia (bD [none,some 0] (fL (aR (ar 10))) (bJ 0) bK (bg (aC 0 (aq (ax aG (aC 1 (eU 3 av))) av)))))) (aC 11 av))) av))))))
 (aD (aS 12 (tupQ (ia (bD [none,some 0] (fL (aR (ar 6))) (bJ 0) bK (bg (aC 0 (aq (ax aG (aC 1 (eU 3 av))) av)))))))
 (cy (bg (aC 1 (aC 12 (aq (tupQ (ia (bD [none,some 0] (fL (aR (ar 7))) (bJ 0) bK (bg (aC 0 (aq (ax aG (aC 1 (eU 3 av))) av)))))) (aq (tupQ (cM (aR (ar 8)))) av)))))))))))))
def jm:cR:=fc 13 mf
def MF:cC:=
 (aD (jg (uW (uq maxD (eU 1 (aq (uq minD (aq (hJ (aR (ar 0))) (eU 4 av))) av)))) (bJ 1) (aD (aS 2 (bO (dZ nJ (aC 0 (aC 1 av)))))
 (aD (aS 3 (ax jz (aC 2 (aq (aQ cA (bp 1) (ax aG (aC 2 (eU 2 av)))) (aq (bO (bB (jd "when free" av))) (eU 3 av))))))
 (cZ (xw (j0 (ax k8 (aC 2 (aq (ax jm (aC 2 (aC 3 (aq (aQ cA (bp 2) (ax aG (aC 2 (eU 3 av)))) (eU 0 av))))) (eU 50 av)))))) (cy (cF (.bl false))) fG))))
 (cy (cF (.bl true))))
def Kw:cR:=fc 4 MF
def top(i:Nat):Stmt:=PySem.Challenge.pw_calledroom_k24_called_when_free.main.body.getD i (.Pass ⟨0,0,0,0⟩)
abbrev oQ:Stmt:=top 56
abbrev nj:Stmt:=top 57
abbrev kT:Stmt:=top 59
abbrev m8:Stmt:=top 58
abbrev oX:Stmt:=top 60
abbrev lE:Stmt:=top 61
abbrev r8:Stmt:=top 62
abbrev nk:Stmt:=top 63
abbrev mE:Stmt:=top 64
abbrev lA:Stmt:=top 65
abbrev ku:Stmt:=top 72
abbrev mX:Stmt:=top 10
abbrev kX:Stmt:=top 12
abbrev zN:Stmt:=top 11
abbrev ib:Stmt:=top 75
abbrev pU:Stmt:=top 76
abbrev mS:Stmt:=top 68
abbrev iZ:Stmt:=top 74
abbrev kR:Stmt:=top 79
abbrev k_:Stmt:=top 80
abbrev mL:Stmt:=top 71
abbrev pQ:Stmt:=top 78
abbrev pO:Stmt:=top 81
abbrev kN:Stmt:=top 70
abbrev jJ:Stmt:=top 77
abbrev mq:Stmt:=top 82
abbrev mC:Stmt:=top 83
abbrev pA:Stmt:=top 84
abbrev iO:Stmt:=top 85
abbrev pH:Stmt:=top 86
abbrev mO:Stmt:=top 87
abbrev kL:Stmt:=top 13
abbrev kO:Stmt:=top 14
abbrev oW:Stmt:=top 23
abbrev ph:Stmt:=top 25
abbrev lY:Stmt:=top 15
abbrev mN:Stmt:=top 18
abbrev mj:Stmt:=top 16
abbrev mZ:Stmt:=top 27
abbrev iW:Stmt:=top 6
abbrev pT:Stmt:=top 5
abbrev oK:Stmt:=top 26
abbrev u9:Stmt:=top 31
abbrev gf:Stmt:=top 19
abbrev ve:Stmt:=top 20
abbrev lZ:Stmt:=top 32
abbrev yU:Stmt:=top 33
abbrev sP:Stmt:=top 28
abbrev yW:Stmt:=top 34
abbrev qY:Stmt:=top 35
abbrev lS:Stmt:=top 36
abbrev yP:Stmt:=top 29
abbrev rB:Stmt:=top 37
abbrev sN:Stmt:=top 38
abbrev vd:Stmt:=top 39
abbrev rR:Stmt:=top 40
abbrev lW:Stmt:=top 17
abbrev zf:Stmt:=top 42
abbrev rq:Stmt:=top 41
abbrev kC:Stmt:=top 44
abbrev sD:Stmt:=top 43
abbrev rM:Stmt:=top 45
abbrev vg:Stmt:=top 46
abbrev pX:Stmt:=top 48
abbrev oV:Stmt:=top 30
abbrev rK:Stmt:=top 54
abbrev oM:Stmt:=top 21
abbrev ic:Stmt:=top 51
abbrev iq:Stmt:=top 52
abbrev pB:Stmt:=top 50
abbrev rg:Stmt:=top 53
abbrev nu:Stmt:=top 69
abbrev jK:Stmt:=top 73
abbrev mJ:Stmt:=top 88
abbrev pW:Stmt:=top 66
abbrev lH:Stmt:=top 67
abbrev qc:Stmt:=top 89
end W28
namespace W28
open PySem PySem.Spec L2 DL PyProof.Rows
abbrev LD:List Str:= ["_law_bell"]
abbrev Ov:List Str:= ["_law_deed_here","_law_room_here"]
abbrev CU:List Str:= ["_law_found","_law_due"]
abbrev JL:List Str:= ["_law_now","_law_own_here"]
abbrev EU:List Str:= ["_law_now"]
abbrev D3:List Str:= ["_law_pair"]
abbrev EJ:List Str:= ["_law_pot_here","_law_goals","_law_things","_law_words_here"]
abbrev D_:List Str:= ["_law_pot_here","_law_goals","_law_words_here","_law_passes","_law_most"]
abbrev EB:List Str:= ["_law_pot_here","_law_many","_law_manners","_law_bells_most"]
abbrev E6:List Str:= ["_law_pot_here","_law_many"]
abbrev E1:List Str:= ["_law_pot_here","_law_name","_law_goals","_law_manners","_law_bells_most"]
abbrev EX:List Str:= ["_law_pot_here","_law_room_here","_law_goals","_law_most"]
abbrev EK:List Str:= ["_law_pot_here","_law_rooms_here","_law_hands","_law_passes_most"]
abbrev AQ:List Str:= ["_law_pot_here","_law_some","_law_last"]
abbrev B6:List Str:= ["_law_pot_here","_law_some"]
abbrev EZ:List Str:= ["_law_pot_here","_law_stem","_law_many"]
abbrev Ei:List Str:= ["_law_pot_here","_law_words_here","_law_bells","_law_at"]
abbrev xP:List Str:= ["_law_pot_here","_law_words_here","_law_bells","_law_deep"]
abbrev Ec:List Str:= ["_law_pot_here","_law_world_here","_law_many"]
abbrev Ax:List Str:= ["_law_room_here","_law_own_here"]
abbrev A8:List Str:= ["_law_room_here"]
abbrev AW:List Str:= ["_law_rows","_law_word"]
abbrev ES:List Str:= ["_law_script","_law_k"]
abbrev GL:List Str:= ["_law_script"]
abbrev Cn:List Str:= ["_law_told","_law_own_here"]
abbrev yk:List Str:= ["_law_told","_law_things","_law_waiting"]
abbrev Bh:List Str:= ["_law_told"]
abbrev GU:List Str:= ["_law_word","_law_pot_here"]
abbrev ER:List Str:= ["_law_word","_law_value_here"]
abbrev j3:List Str:= ["_law_world_here","_law_now","_law_own_here","_law_row_here"]
abbrev Fd:List Str:= ["_law_world_here","_law_now","_law_own_here","_law_told"]
abbrev E5:List Str:= ["_law_world_here","_law_now","_law_own_here","_law_word","_law_value_here"]
abbrev tV:List Str:= ["_law_world_here","_law_now","_law_own_here"]
abbrev D5:List Str:= ["_law_world_here","_law_now"]
abbrev Bd:List Str:= ["_law_world_here","_law_own_here","_law_frame"]
abbrev ED:List Str:= ["_law_world_here"]
abbrev Cg:List Str:= ["form","first","second"]
abbrev Bj:List Str:= ["line"]
abbrev Cc:List Str:= ["parts","at","part"]
abbrev BQ:List Str:= ["roll","name"]
abbrev AA:List Str:= ["roll"]
abbrev Az:List Str:= ["room"]
abbrev B7:List Str:= ["scene","at","room"]
abbrev Bt:List Str:= ["scene","at","turnstile"]
abbrev Ez:List Str:= ["scene","hand","frame"]
abbrev D9:List Str:= ["scene","hand","row"]
abbrev AR:List Str:= ["scene","hand","values","frames"]
abbrev BZ:List Str:= ["scene","hand"]
abbrev EG:List Str:= ["scene","room","bell","line"]
abbrev Er:List Str:= ["scene","room","hand"]
abbrev yN:List Str:= ["scene","room"]
abbrev zI:List Str:= ["scene"]
abbrev wI:List Str:= ["things"]
abbrev sH:List Str:= ["tree","things","waiting"]
abbrev yA:List Str:= ["world","hand","frame"]
abbrev zm:List Str:= ["world","scene","hand","name"]
abbrev bo:List Str:= ["world","scene","hand","row"]
abbrev zZ:List Str:= ["world","scene","hand","tree"]
abbrev zA:List Str:= ["world","scene","hand","word","value"]
abbrev yT:List Str:= ["world","scene","hand","word"]
abbrev fg:List Str:= ["world","scene","hand"]
abbrev An:List Str:= ["world","scene","name"]
abbrev yE:List Str:= ["world","scene"]
abbrev y3:List Str:= ["world"]
section
variable(P:Program)(w:World)(K:PySem.W.Frag)(mg:Str->Option Value)(base:Heap)
abbrev C7:Prop:=eA P w K mg base 1 "_law_pot" ES nJ
abbrev cO:Prop:=eA P w K mg base 1 "_law_take" E6 aG
abbrev kK:Prop:=eA P w K mg base 2 "_law_words" EZ c8
abbrev fj:Prop:=eA P w K mg base 2 "_law_pick" B6 bM
abbrev k0:Prop:=eA P w K mg base 7 "_law_sum" xP (bC 4)
abbrev zy:Prop:=eA P w K mg base 8 "_law_waits" Ei jv
abbrev xW:Prop:=eA P w K mg base 8 "_law_do" EJ m6
abbrev BS:Prop:=eA P w K mg base 9 "_law_deed" EX kJ
abbrev Cv:Prop:=eA P w K mg base 10 "_law_room" E1 lu
abbrev zF:Prop:=eA P w K mg base 11 "_law_rooms" EB jz
abbrev Ar:Prop:=eA P w K mg base 1 "_law_first" ED jn
abbrev t9:Prop:=eA P w K mg base 1 "values_of" wI gP
abbrev zP:Prop:=eA P w K mg base 2 "begun_room" Az jq
abbrev Ki:Prop:=eA P w K mg base 3 "begun" y3 zU
abbrev ui:Prop:=eA P w K mg base 1 "_law_is_bound" JL gk
abbrev Dr:Prop:=eA P w K mg base 2 "_law_may" D5 nT
abbrev Bv:Prop:=eA P w K mg base 3 "_law_next" AQ kP
abbrev mI:Prop:=eA P w K mg base 1 "_law_program" Bd fI
abbrev p_:Prop:=eA P w K mg base 1 "_law_enter" Ax g6
abbrev qR:Prop:=eA P w K mg base 1 "_law_leave" A8 hU
abbrev jj:Prop:=eA P w K mg base 1 "_law_spot" AW dg
abbrev vT:Prop:=eA P w K mg base 2 "_law_set" E5 jZ
abbrev D0:Prop:=eA P w K mg base 3 "_law_end" tV nR
abbrev yZ:Prop:=eA P w K mg base 6 "_law_value" yk (eD 5)
abbrev oF:Prop:=eA P w K mg base 7 "_law_reckon" Fd cN
abbrev AO:Prop:=eA P w K mg base 8 "_law_ring" j3 kI
abbrev B0:Prop:=eA P w K mg base 1 "_law_give" Bh pL
abbrev CW:Prop:=eA P w K mg base 1 "_law_get" Cn r_
abbrev vM:Prop:=eA P w K mg base 2 "_law_counted" j3 jE
abbrev Dx:Prop:=eA P w K mg base 9 "_law_row" j3 kb
abbrev AC:Prop:=eA P w K mg base 10 "_law_step" tV lG
abbrev eK:Prop:=eA P w K mg base 1 "last_frame" BZ c7
abbrev lq:Prop:=eA P w K mg base 1 "program_of" yA fV
abbrev pY:Prop:=eA P w K mg base 1 "names_of" AA eR
abbrev i4:Prop:=eA P w K mg base 2 "place_of" BQ dw
abbrev hX:Prop:=eA P w K mg base 1 "with_part" Cc dP
abbrev jl:Prop:=eA P w K mg base 2 "with_hand" AR fR
abbrev gY:Prop:=eA P w K mg base 2 "with_room" B7 dk
abbrev t5:Prop:=eA P w K mg base 3 "put_thing" zA fT
abbrev wq:Prop:=eA P w K mg base 1 "value_of_two" Cg gX
abbrev CM:Prop:=eA P w K mg base 8 "value_of" sH (gM 6)
abbrev gJ:Prop:=eA P w K mg base 9 "reckoned" zZ dS
abbrev ju:Prop:=eA P w K mg base 3 "with_last_frame" Ez dX
abbrev u_:Prop:=eA P w K mg base 4 "at_row" D9 lD
abbrev yt:Prop:=eA P w K mg base 3 "come_in" Er m_
abbrev sx:Prop:=eA P w K mg base 3 "bell_of" yT jN
abbrev mm:Prop:=eA P w K mg base 3 "with_line" EG fS
abbrev Fg:Prop:=eA P w K mg base 3 "leave" yN rX
abbrev tY:Prop:=eA P w K mg base 2 "with_pass" Bt gF
abbrev EA:Prop:=eA P w K mg base 3 "taken" zm zq
abbrev qu:Prop:=eA P w K mg base 3 "given_back" An jr
abbrev DJ:Prop:=eA P w K mg base 11 "row_done" bo jT
abbrev D2:Prop:=eA P w K mg base 4 "end_deed" fg jP
abbrev Gu:Prop:=eA P w K mg base 12 "step_of" fg qy
abbrev Dh:Prop:=eA P w K mg base 1 "hands_at" Bj nQ
abbrev uB:Prop:=eA P w K mg base 2 "hands_in_rows" zI ff
abbrev uC:Prop:=eA P w K mg base 2 "is_behind_all" fg gu
abbrev CN:Prop:=eA P w K mg base 3 "may_step" yE nM
abbrev FU:Prop:=eA P w K mg base 13 "stepped" fg qe
abbrev BM:Prop:=eA P w K mg base 11 "_law_same" CU (gL 10)
abbrev wX:Prop:=eA P w K mg base 1 "_law_frozen" EU iB
abbrev Bu:Prop:=eA P w K mg base 14 "_law_walk" Ec k8
abbrev DX:Prop:=eA P w K mg base 9 "_law_own" D_ nE
abbrev zg:Prop:=eA P w K mg base 10 "_law_world" EK jm
end
def Pb{X:Cx}{a:Expr}{pos:Pos}{f:fw}{p:Pos}(d:Gl X "len")(b:X.mg "len"=none)(c:PE X a (tQ (md X) f))(hs:starEach [a] X.env= [(false,eval a X.env)]):PE X (.Call (.Name "len" p) [a] [] pos) (tD (md X) (hJ f)):=KO d b c hs
def bF{X:Cx}{pos:Pos}{N:List Str}{js:List (Option Nat)}{a:Scope}{c:List (Str×Addr)}{tg b d:Expr}{e:List Expr}{i:yb}{g:nI}{t:jL}{f:bH}(S:aL X N js a c)(j:X.calm=true)(hi:PI X tg b (tI (md X) i))(h:∀C s H fp,PG (aP X N a c C s H fp) tg (tG (md (aP X N a c C s H fp)) g))(ht:∀C s H fp,pG (aP X N a c C s H fp) e (tB (md (aP X N a c C s H fp)) t))(he:∀C s H fp,PE (aP X N a c C s H fp) d (tD (md (aP X N a c C s H fp)) f))(hs:∀x,foldedSetIterable b X.env x=pure x:=by intro _;rfl):PE X (.ListComp d [⟨tg,b,e,0⟩] a pos) (tL (md X) (bD js i g t f)):=G4 S j hi h ht he hs
def zi{X:Cx}{pos:Pos}{N:List Str}{js:List (Option Nat)}{a:Scope}{j:List (Str×Addr)}{tg b e c:Expr}{h:List Expr}{i:yb}{g:nI}{t:jL}{f:bH}{n:Nat}{d:Pos}(S:aL X N js a j)(p:X.calm=true)(hi:PI X tg b (tI (md X) i))(o:∀C s H fp,PG (aP X N a j C s H fp) tg (tG (md (aP X N a j C s H fp)) g))(ht:∀C s H fp,pG (aP X N a j C s H fp) h (tB (md (aP X N a j C s H fp)) t))(he:∀C s H fp,PE (aP X N a j C s H fp) e (tD (md (aP X N a j C s H fp)) f))(l:PG X c (qp n))(hs:∀x,foldedSetIterable b X.env x=pure x:=by intro _;rfl)(k:swapsWithSole [c] (.ListComp e [⟨tg,b,h,0⟩] a pos) d.line X.env=pure true:=by rfl)(m:(assignEach [c] X.env).map (·.2)= [assign c X.env]:=by rfl):PS X (.Assign [c] (.ListComp e [⟨tg,b,h,0⟩] a pos) d) (tS (md X) (aS n (bO (bD js i g t f)))):=Mb S p hi o ht he l hs k m
def GR{X:Cx}{pos:Pos}{N:List Str}{js:List (Option Nat)}{a:Scope}{d:List (Str×Addr)}{tg b k j c:Expr}{f:List Expr}{i:yb}{g:nI}{t:jL}{m o:bH}{n:Nat}{e:Pos}(S:aL X N js a d)(u:X.calm=true)(hi:PI X tg b (tI (md X) i))(q:∀C s H fp,PG (aP X N a d C s H fp) tg (tG (md (aP X N a d C s H fp)) g))(ht:∀C s H fp,pG (aP X N a d C s H fp) f (tB (md (aP X N a d C s H fp)) t))(r:∀C s H fp,PE (aP X N a d C s H fp) k (tD (md (aP X N a d C s H fp)) m))(v:∀C s H fp,PE (aP X N a d C s H fp) j (tD (md (aP X N a d C s H fp)) o))(l:PG X c (qp n))(hs:∀x,foldedSetIterable b X.env x=pure x:=by intro _;rfl)(h:swapsWithSole [c] (.DictComp k j [⟨tg,b,f,0⟩] a pos) e.line X.env=pure true:=by rfl)(p:(assignEach [c] X.env).map (·.2)= [assign c X.env]:=by rfl):PS X (.Assign [c] (.DictComp k j [⟨tg,b,f,0⟩] a pos) e) (tS (md X) (Ni n (rD js i g t m o))):=JG S u hi q ht r v l hs h p
local macro_rules|`(tactic|ac_rfl)=>do
 let g (l:List (String×Nat)):Lean.MacroM (Array (Lean.TSyntax `Lean.Parser.Tactic.tacticSeq)):=l.toArray.mapM λ(s,k)=>do
  let ws:=((s.splitOn " ").map λn=>Lean.mkIdent n.toName).toArray
  let h←`(?_)
  let e:=Lean.Syntax.mkApp ⟨ws[0]!.raw⟩ ((ws.toList.tail!.map λw=>⟨w.raw⟩).toArray++Array.replicate k h)
  `(tacticSeq|refine $e)
 let a←g [("PP",5),("v_",5),("cT",3),("lV",0),("p9",3),("i8",0),("lj",2),("MX",1),("OV",3),("EF",1),("Pu",5),("Pm",3),("NZ",1),("NB",0),("NG",0),("Il",1),("Qa",2),("KS",1),("IU",2),("Io",1),("NL Om Nc",3),("QJ",1),("OX",0),("Qd",5),("Ol",0),("Qf",4),("IL",6),("Pb",4),("QA",1),("OU",3),("OY",1),("Ph",0),("M5",6),("Qr",3),("KE",2),("Jm",5),("QE",1),("QH Om Nc",3),("NL Qw QT",3),("Qb",2),("Qy",0),("NL QR QL",3),("QI",2),("P6",1),("Py",4),("QS",2),("Qp",2),("QF",4),("Q8",0),("P_",1),("Qi",2),("Q3",3),("QW",3),("ML",10),("NL QK Qs",3),("JD",6),("QB",7),("Q7",5),("PV",4),("QV",2),("Hk",6),("QH QK Qs",3),("P5",2),("QH Qw QT",3),("OI",6),("NL Qj QY",3),("PD",0),("P9",5),("NL QM Qv",3),("Qg",6),("NL Pc P4",3),("MJ",6),("OT",3),("QH Qj QY",3),("PH",4),("NR",4),("QQ",2),("Qh",5),("Ra",3),("Pr",3),("NL OL OH",3),("Oq",9),("OE",3),("MR",6),("Oy",0),("Qk",5),("Qo",1),("yq",1),("Qq",1),("Ql",1),("PK",1),("Qx",2),("QU",1)]
 let b←g [("Hi",1),("PassesOwn.never",0),("K3",0),("Jw",0),("Bl.abs",1),("Bl.all",1),("Bl.any",1),("Bl.bool",1),("Bl.dict",1),("Bl.int",1),("Bl.isi",1),("Bl.len",1),("Bl.max",1),("Bl.min",1),("Bl.range",1),("Bl.sorted",1),("Bl.str",1),("Bl.tuple",1),("Bl.zip",1),("lj",2),("yq",1)]
 let c←([("MS Ft MG Bl.int",0),("Pp jW MM Bl.min",1),("Pz jW MH Bl.max",1),("Pi jW Nk Bl.abs",0),("str",2),("int",2),("tuple",2),("bool",2)]:List (String×Nat)).toArray.mapM λ(s,k)=>do
  let ws:=((s.splitOn " ").map λn=>Lean.mkIdent n.toName).toArray
  if k=2 then
   `(tacticSeq|refine Kf (v:=.ty $(Lean.quote s)) rfl ($(Lean.mkIdent (.str (.str .anonymous "Bl") s)) (by assumption)) $(Lean.mkIdent (.str `PyProof.Rows ("boot_" ++s))) rfl)
  else
   let e←if k=1 then `($(ws[2]!) rfl) else pure ⟨ws[2]!.raw⟩
   `(tacticSeq|((with_reducible refine PL $(ws[0]!) ?_);refine $(ws[1]!) $e rfl ($(ws[3]!) (by assumption)) (by rfl) ?_))
 `(tactic|repeat (first
 |exact rfl
 |exact Or.inl rfl
 |(with_reducible first $[| $a]*)
 |(with_reducible first|refine PW.pt (w_and ?_ ?_)|refine PW.pt (w_or ?_ ?_))
 |refine MB (by assumption) (by assumption) ?_
 |refine Gq _ (by assumption) ?_
 |refine N7 (by assumption) (by assumption) ?_
 |refine kG (Ao (v:=.int (-1)) rfl (by assumption) ⟨_,rfl⟩) λ_ _=>.int (-1)
 |refine kG (Ao (v:=.int (9)) rfl (by assumption) ⟨_,rfl⟩) λ_ _=>.int (9)
 |assumption
 |exact Or.inr rfl
 |exact Or.inr (Or.inl rfl)
 |exact Or.inr (Or.inr rfl)
 |decide
 |omega
 |(intro _ _;rfl)
 |(intro _;rfl)
 |(intro _ _ _;rfl)
 |exact⟨rfl,rfl,rfl,rfl,rfl,rfl,rfl⟩
 |exact λ_ _=>.int _
 |(first $[| $c]*)
 |(first $[| $b]*)))
section
variable{P:Program}{w:World}{K:PySem.W.Frag}{mg:Str->Option Value}{base:Heap}{f:Addr}{fd:FuncData}
def tq:aF ["_law_script","_law_k","_law_cell","_law_digits"] ES (aB oQ):=eP
def Ci(F:dQ K "_law_pot" "_law_pot" oQ f fd)(B:Bl mg):bh P w K mg base dm 1 f fd ES (dN ⟨K,mg⟩ 2 nJ):=by
 have d:=tq.nd
 refine bj F tq λb A a s H E c=> ?_
 delta sr
 ac_rfl
def qS:aF ["_law_pot_here","_law_many","_law_digit","_law_mixed"] E6 (aB nj):=eP
def Aq(F:dQ K "_law_take" "_law_take" nj f fd)(B:Bl mg):bh P w K mg base dm 1 f fd E6 (dN ⟨K,mg⟩ 2 aG):=by
 have d:=qS.nd
 refine bj F qS λb A a s H E c=> ?_
 delta pk
 ac_rfl
def oE:aF ["_law_pot_here","_law_stem","_law_many","_law_left"] EZ (aB kT):=eP
def w9(F:dQ K "_law_words" "_law_words" kT f fd)(B:Bl mg)(e:cO P w K mg base):bh P w K mg base dm 2 f fd EZ (dN ⟨K,mg⟩ 3 c8):=by
 have d:=oE.nd
 refine bj F oE λb A a s H E c=> ?_
 delta mP
 ac_rfl
 refine bF (N:= ["_law_one","_law_stem"]) (js:= [none,some 1]) (aL.gen rfl rfl rfl rfl rfl rfl) rfl ?_ (λ_ _ _ _=> ?_) (λ_ _ _ _=> ?_) (λ_ _ _ _=> ?_)
 ac_rfl
 refine bF (N:= ["_law_k","_law_pot_here","_law_left"]) (js:= [none,some 0,some 3]) (aL.gen rfl rfl rfl rfl rfl rfl) rfl ?_ (λ_ _ _ _=> ?_) (λ_ _ _ _=> ?_) (λ_ _ _ _=> ?_)
 ac_rfl
def yQ:aF B6 B6 (aB m8):=eP
def Aa(F:dQ K "_law_pick" "_law_pick" m8 f fd)(B:Bl mg)(d:cO P w K mg base):bh P w K mg base dm 2 f fd B6 (dN ⟨K,mg⟩ 2 bM):=by
 refine bj F yQ λb A a s H E c=> ?_
 delta pq
 ac_rfl
def sW:aF ["_law_pot_here","_law_words_here","_law_bells","_law_deep","_law_way","_law_word"] xP (aB oX):=eP
theorem sU(F:dQ K "_law_sum" "_law_sum" oX f fd)(B:Bl mg)(g:cO P w K mg base)(e:fj P w K mg base)(b:Binds K fd xP [])(c:PySem.W.keepIn K (.ref f)=true)(m:mg "_law_sum"=some (.ref f)):∀n,bh P w K mg base dm (3+n) f fd xP (dN ⟨K,mg⟩ 4 (bC n))
 |0=>uP
 | n+1=>by
   have l:eA P w K mg base (3+n) "_law_sum" xP (bC n):=⟨f,fd,sU F B g e b c m n,b,c,m⟩
   have j:=sW.nd
   refine bj (k:=3+n) F sW λh A a s H E d=> ?_
   have i:=d.units0
   delta sI
   ac_rfl
def oD:aF ["_law_pot_here","_law_words_here","_law_bells","_law_at","_law_turn","_law_row_here","_law_way","_law_test"] Ei (aB lE):=eP
def xk(F:dQ K "_law_waits" "_law_waits" lE f fd)(B:Bl mg)(g:k0 P w K mg base)(h:cO P w K mg base)(d:fj P w K mg base):bh P w K mg base dm 8 f fd Ei (dN ⟨K,mg⟩ 4 jv):=by
 have e:=oD.nd
 refine bj F oD λb A a s H E c=> ?_
 delta lX
 ac_rfl
def vC:aF ["_law_pot_here","_law_goals","_law_things","_law_words_here","_law_room_here","_law_deed_here","_law_goal"] EJ (aB r8):=eP
def Dc(F:dQ K "_law_do" "_law_do" r8 f fd)(B:Bl mg)(d:fj P w K mg base)(g:k0 P w K mg base):bh P w K mg base dm 8 f fd EJ (dN ⟨K,mg⟩ 4 m6):=by
 have e:=vC.nd
 refine bj F vC λb A a s H E c=> ?_
 delta vR
 ac_rfl
def qL:aF ["_law_pot_here","_law_room_here","_law_goals","_law_most","_law_manner","_law_things","_law_bells","_law_words_here","_law_rows","_law_k","_law_way","_law_word"] EX (aB nk):=eP
def zW(F:dQ K "_law_deed" "_law_deed" nk f fd)(B:Bl mg)(k:cO P w K mg base)(d:zy P w K mg base)(g:fj P w K mg base)(h:xW P w K mg base)(j:k0 P w K mg base):bh P w K mg base dm 9 f fd EX (dN ⟨K,mg⟩ 4 kJ):=by
 have i:=qL.nd
 refine bj F qL λc A a s H E b=> ?_
 have e:=b.units0
 delta oN
 ac_rfl
def qV:aF ["_law_pot_here","_law_name","_law_goals","_law_manners","_law_bells_most","_law_manner","_law_things","_law_bells","_law_deeds","_law_word","_law_here","_law_some","_law_sorts"] E1 (aB mE):=eP
def y6(F:dQ K "_law_room" "_law_room" mE f fd)(B:Bl mg)(e:fj P w K mg base)(d:kK P w K mg base)(i:cO P w K mg base)(g:BS P w K mg base):bh P w K mg base dm 10 f fd E1 (dN ⟨K,mg⟩ 5 lu):=by
 have h:=qV.nd
 refine bj F qV λb A a s H E c=> ?_
 delta pK
 ac_rfl
 refine zi (n:=10) (N:= ["_law_deed_here","_law_name"]) (js:= [none,some 1]) (aL.gen rfl rfl rfl rfl rfl rfl) rfl ?_ (λ_ _ _ _=> ?_) (λ_ _ _ _=> ?_) (λ_ _ _ _=> ?_) ?_
 ac_rfl
 refine bF (N:= ["_law_bell","_law_pot_here"]) (js:= [none,some 0]) (aL.gen rfl rfl rfl rfl rfl rfl) rfl ?_ (λ_ _ _ _=> ?_) (λ_ _ _ _=> ?_) (λ_ _ _ _=> ?_)
 ac_rfl
 refine bF (N:= ["_law_thing","_law_pot_here"]) (js:= [none,some 0]) (aL.gen rfl rfl rfl rfl rfl rfl) rfl ?_ (λ_ _ _ _=> ?_) (λ_ _ _ _=> ?_) (λ_ _ _ _=> ?_)
 ac_rfl
def oo:aF ["_law_pot_here","_law_many","_law_manners","_law_bells_most","_law_names","_law_rooms_here","_law_goals","_law_room_here","_law_name"] EB (aB lA):=eP
def xj(F:dQ K "_law_rooms" "_law_rooms" lA f fd)(B:Bl mg)(g:kK P w K mg base)(h:cO P w K mg base)(d:Cv P w K mg base):bh P w K mg base dm 11 f fd EB (dN ⟨K,mg⟩ 4 jz):=by
 have a:=oo.nd
 refine bj F oo λi A c s H E b=> ?_
 have e:=b.units0
 exact(lj (Gq 4 a (Il (N7 g b (cT (v_ 0) (cT NB (cT (v_ 1) i8))))))
  (lj (Gq 5 a (Il (Io i8)))
  (lj (JH 4 PassesOwn.never (KE e (MX (v_ 4))) (lj (Gq 6 a (Il (Io i8)))
  (lj (M5 PassesOwn.never rfl (KS (MX (v_ 5))) (Pu 7 a) (yq (IU (Hk (v_ 6) (QJ (G4 (N:=Ov) (js:= [none,some 7]) (aL.gen rfl rfl rfl rfl rfl rfl) rfl (KS (MX (p9 (v_ 7) lV))) (λ_ _ _ _=>(PP 0)) (λ_ _ _ _=>Ol) (λ_ _ _ _=>(NZ (cT (p9 (v_ 1) lV) (cT (p9 (v_ 0) lV) i8))))))))))
  (lj (Gq 8 a (JD (v_ 4) (MB h b (cT (v_ 0) (cT (KO rfl B.len (MX (v_ 4))) i8)))))
  (yq (IU (IL (v_ 5) (MB d b (cT (v_ 0) (cT (v_ 8) (cT (v_ 6) (cT (v_ 2) (cT (v_ 3) i8)))))))))))))
  (yq (EF (Jm rfl B.tuple (QJ (FS rfl B.sorted (MX (v_ 5)))) (ht:=Jw)))))))
end
section
variable{P:Program}{w:World}{K:PySem.W.Frag}{mg:Str->Option Value}{base:Heap}{f:Addr}{fd:FuncData}
def oq:aF ["_law_world_here","_law_rooms_here","_law_name","_law_manner","_law_things","_law_bells","_law_deeds","_law_hands","_law_program_here"] ED (aB ku):=eP
def xu(F:dQ K "_law_first" "_law_first" ku f fd)(B:Bl mg):bh P w K mg base dm 1 f fd ED (dN ⟨K,mg⟩ 1 jn):=by
 have d:=oq.nd
 refine iP F oq λb A a s H E c=> ?_
 delta m5
 ac_rfl
 refine bF (N:=ER) (js:= [none,none]) (aL.gen rfl rfl rfl rfl rfl rfl) rfl ?_ (λ_ _ _ _=> ?_) (λ_ _ _ _=> ?_) (λ_ _ _ _=> ?_)
 ac_rfl
 refine bF (N:=LD) (js:= [none]) (aL.gen rfl rfl rfl rfl rfl rfl) rfl ?_ (λ_ _ _ _=> ?_) (λ_ _ _ _=> ?_) (λ_ _ _ _=> ?_)
 ac_rfl
 refine bF (N:=ER) (js:= [none,none]) (aL.gen rfl rfl rfl rfl rfl rfl) rfl ?_ (λ_ _ _ _=> ?_) (λ_ _ _ _=> ?_) (λ_ _ _ _=> ?_)
 ac_rfl
 refine bF (N:=ER) (js:= [none,none]) (aL.gen rfl rfl rfl rfl rfl rfl) rfl ?_ (λ_ _ _ _=> ?_) (λ_ _ _ _=> ?_) (λ_ _ _ _=> ?_)
 ac_rfl
 refine bF (N:=ER) (js:= [none,none]) (aL.gen rfl rfl rfl rfl rfl rfl) rfl ?_ (λ_ _ _ _=> ?_) (λ_ _ _ _=> ?_) (λ_ _ _ _=> ?_)
 ac_rfl
def Ad:aF wI wI (aB mX):=eP
def yY(F:dQ K "values_of" "values_of" mX f fd)(B:Bl mg):bh P w K mg base dm 1 f fd wI (dN ⟨K,mg⟩ 1 gP):=by
 refine bj F Ad λb A a s H E c=> ?_
 delta oP
 ac_rfl
 refine bF (N:= ["word","value"]) (js:= [none,none]) (aL.gen rfl rfl rfl rfl rfl rfl) rfl ?_ (λ_ _ _ _=> ?_) (λ_ _ _ _=> ?_) (λ_ _ _ _=> ?_)
 ac_rfl
def oA:aF ["room","name","manner","things","bells","deeds"] Az (aB kX):=eP
def wR(F:dQ K "begun_room" "begun_room" kX f fd)(B:Bl mg)(h:t9 P w K mg base){c:Tok}(g:mg "NOBODY"=some (.int (-1) c)):bh P w K mg base dm 2 f fd Az (dN ⟨K,mg⟩ 1 jq):=by
 have e:=oA.nd
 refine bj F oA λb A a s H E d=> ?_
 delta mU
 ac_rfl
 refine bF (N:= ["bell"]) (js:= [none]) (aL.gen rfl rfl rfl rfl rfl rfl) rfl ?_ (λ_ _ _ _=> ?_) (λ_ _ _ _=> ?_) (λ_ _ _ _=> ?_)
 ac_rfl
def Cu:aF ["world","rooms","passes","shared","hands","own"] y3 (aB zN):=eP
def HL(F:dQ K "begun" "begun" zN f fd)(B:Bl mg)(h:t9 P w K mg base)(i:zP P w K mg base){b:Tok}(g:mg "OWN"=some (.int (-1) b)):bh P w K mg base dm 3 f fd y3 (dN ⟨K,mg⟩ 1 zU):=by
 have e:=Cu.nd
 refine bj F Cu λc A a s H E d=> ?_
 delta DH
 ac_rfl
 refine bF (N:=Az) (js:= [none]) (aL.gen rfl rfl rfl rfl rfl rfl) rfl ?_ (λ_ _ _ _=> ?_) (λ_ _ _ _=> ?_) (λ_ _ _ _=> ?_)
 ac_rfl
 refine bF (N:= ["name","value"]) (js:= [none,none]) (aL.gen rfl rfl rfl rfl rfl rfl) rfl ?_ (λ_ _ _ _=> ?_) (λ_ _ _ _=> ?_) (λ_ _ _ _=> ?_)
 ac_rfl
 refine bF (N:= ["things","program","own"]) (js:= [none,none,some 5]) (aL.gen rfl rfl rfl rfl rfl rfl) rfl ?_ (λ_ _ _ _=> ?_) (λ_ _ _ _=> ?_) (λ_ _ _ _=> ?_)
 ac_rfl
def jY:aF ["_law_now","_law_own_here","_law_values","_law_within","_law_row_here","_law_late","_law_bells","_law_bell"] JL (aB ib):=eP
def sL(F:dQ K "_law_is_bound" "_law_is_bound" ib f fd)(B:Bl mg):bh P w K mg base dm 1 f fd JL (dN ⟨K,mg⟩ 2 gk):=by
 have d:=jY.nd
 refine bj F jY λb A a s H E c=> ?_
 delta iY
 ac_rfl
 refine bF (N:= ["_law_turn","_law_other"]) (js:= [none,none]) (aL.gen rfl rfl rfl rfl rfl rfl) rfl ?_ (λ_ _ _ _=> ?_) (λ_ _ _ _=> ?_) (λ_ _ _ _=> ?_)
 ac_rfl
 refine bF (N:= ["_law_value_here","_law_row_here","_law_own_here"]) (js:= [none,none,some 1]) (aL.gen rfl rfl rfl rfl rfl rfl) rfl ?_ (λ_ _ _ _=> ?_) (λ_ _ _ _=> ?_) (λ_ _ _ _=> ?_)
 ac_rfl
def tP:aF ["_law_world_here","_law_now","_law_found","_law_own_here","_law_frame","_law_ended"] D5 (aB pU):=eP
def Cq(F:dQ K "_law_may" "_law_may" pU f fd)(B:Bl mg)(e:ui P w K mg base):bh P w K mg base dm 2 f fd D5 (dN ⟨K,mg⟩ 2 nT):=by
 have d:=tP.nd
 refine bj F tP λb A a s H E c=> ?_
 delta rh
 ac_rfl
def zk:aF AQ AQ (aB mS):=eP
def y_(F:dQ K "_law_next" "_law_next" mS f fd)(B:Bl mg)(e:cO P w K mg base)(d:fj P w K mg base):bh P w K mg base dm 3 f fd AQ (dN ⟨K,mg⟩ 3 kP):=by
 refine bj F zk λb A a s H E c=> ?_
 delta o_
 ac_rfl
def uf:aF Bd Bd (aB iZ):=eP
def uv(F:dQ K "_law_program" "_law_program" iZ f fd)(B:Bl mg):bh P w K mg base dm 1 f fd Bd (dN ⟨K,mg⟩ 3 fI):=by
 refine bj F uf λb A a s H E c=> ?_
 delta jF
 ac_rfl
def wV:aF Ax Ax (aB kR):=eP
def xn(F:dQ K "_law_enter" "_law_enter" kR f fd)(B:Bl mg):bh P w K mg base dm 1 f fd Ax (dN ⟨K,mg⟩ 2 g6):=by
 refine iP F wV λb A a s H E c=> ?_
 delta l_
 ac_rfl
def xq:aF A8 A8 (aB k_):=eP
def xa(F:dQ K "_law_leave" "_law_leave" k_ f fd)(B:Bl mg):bh P w K mg base dm 1 f fd A8 (dN ⟨K,mg⟩ 1 hU):=by
 refine iP F xq λc A a s H E b=> ?_
 have d:=b.units0
 delta my
 ac_rfl
def z4:aF AW AW (aB mL):=eP
def y9(F:dQ K "_law_spot" "_law_spot" mL f fd)(B:Bl mg):bh P w K mg base dm 1 f fd AW (dN ⟨K,mg⟩ 2 dg):=by
 refine bj F z4 λb A a s H E c=> ?_
 delta oY
 ac_rfl
 refine bF (N:= ["_law_row_here"]) (js:= [none]) (aL.gen rfl rfl rfl rfl rfl rfl) rfl ?_ (λ_ _ _ _=> ?_) (λ_ _ _ _=> ?_) (λ_ _ _ _=> ?_)
 ac_rfl
def t7:aF ["_law_world_here","_law_now","_law_own_here","_law_word","_law_value_here","_law_frame"] E5 (aB pQ):=eP
def Ba(F:dQ K "_law_set" "_law_set" pQ f fd)(B:Bl mg)(e:jj P w K mg base):bh P w K mg base dm 2 f fd E5 (dN ⟨K,mg⟩ 5 jZ):=by
 have d:=t7.nd
 refine iP F t7 λb A a s H E c=> ?_
 delta rQ
 ac_rfl
 refine bF (N:=D3) (js:= [none]) (aL.gen rfl rfl rfl rfl rfl rfl) rfl ?_ (λ_ _ _ _=> ?_) (λ_ _ _ _=> ?_) (λ_ _ _ _=> ?_)
 ac_rfl
def tW:aF ["_law_world_here","_law_now","_law_own_here","_law_frames","_law_room_here","_law_deed_here","_law_row_here","_law_given","_law_told","_law_ahead"] tV (aB pO):=eP
def AN(F:dQ K "_law_end" "_law_end" pO f fd)(B:Bl mg)(h:qR P w K mg base)(g:mI P w K mg base)(e:vT P w K mg base):bh P w K mg base dm 3 f fd tV (dN ⟨K,mg⟩ 3 nR):=by
 have d:=tW.nd
 refine iP F tW λb A a s H E c=> ?_
 delta rJ
 ac_rfl
def n_:aF ["_law_told","_law_things","_law_waiting","_law_parts","_law_one","_law_other"] yk (aB kN):=eP
theorem ou(F:dQ K "_law_value" "_law_value" kN f fd)(B:Bl mg)(b:Binds K fd yk [])(c:PySem.W.keepIn K (.ref f)=true)(m:mg "_law_value"=some (.ref f)):∀n,bh P w K mg base dm (1+n) f fd yk (dN ⟨K,mg⟩ 3 (eD n))
 |0=>uP
 | n+1=>by
   have i:eA P w K mg base (1+n) "_law_value" yk (eD n):=⟨f,fd,ou F B b c m n,b,c,m⟩
   have h:=n_.nd
   refine bj (k:=1+n) F n_ λe A a s H E d=> ?_
   have g:=Es d
   delta m4
   ac_rfl
   refine zi (n:=3) (N:= ["_law_part","_law_things","_law_waiting"]) (js:= [none,some 1,some 2]) (aL.gen rfl rfl rfl rfl rfl rfl) rfl ?_ (λ_ _ _ _=> ?_) (λ_ _ _ _=> ?_) (λ_ _ _ _=> ?_) ?_
   ac_rfl
end
section
variable{P:Program}{w:World}{K:PySem.W.Frag}{mg:Str->Option Value}{base:Heap}{f:Addr}{fd:FuncData}
def ni:aF ["_law_world_here","_law_now","_law_own_here","_law_told","_law_frame","_law_words_here","_law_values","_law_room_here","_law_things","_law_many","_law_waiting"] Fd (aB jJ):=eP
def vA(F:dQ K "_law_reckon" "_law_reckon" jJ f fd)(B:Bl mg)(g:yZ P w K mg base):bh P w K mg base dm 7 f fd Fd (dN ⟨K,mg⟩ 4 cN):=by
 have e:=ni.nd
 refine bj F ni λc A a s H E b=> ?_
 have d:=Es b
 delta kM
 ac_rfl
 refine bF (N:=D3) (js:= [none]) (aL.gen rfl rfl rfl rfl rfl rfl) rfl ?_ (λ_ _ _ _=> ?_) (λ_ _ _ _=> ?_) (λ_ _ _ _=> ?_)
 ac_rfl
 refine bF (N:=D3) (js:= [none]) (aL.gen rfl rfl rfl rfl rfl rfl) rfl ?_ (λ_ _ _ _=> ?_) (λ_ _ _ _=> ?_) (λ_ _ _ _=> ?_)
 ac_rfl
 refine zi (n:=9) (N:=LD) (js:= [none]) (aL.gen rfl rfl rfl rfl rfl rfl) rfl ?_ (λ_ _ _ _=> ?_) (λ_ _ _ _=> ?_) (λ_ _ _ _=> ?_) ?_
 ac_rfl
 refine bF (N:=D3) (js:= [none]) (aL.gen rfl rfl rfl rfl rfl rfl) rfl ?_ (λ_ _ _ _=> ?_) (λ_ _ _ _=> ?_) (λ_ _ _ _=> ?_)
 ac_rfl
def qo:aF ["_law_world_here","_law_now","_law_own_here","_law_row_here","_law_number","_law_room_here","_law_spot_here","_law_bell","_law_turn","_law_called"] j3 (aB mq):=eP
def yG(F:dQ K "_law_ring" "_law_ring" mq f fd)(B:Bl mg)(g:jj P w K mg base)(h:oF P w K mg base)(i:qR P w K mg base):bh P w K mg base dm 8 f fd j3 (dN ⟨K,mg⟩ 4 kI):=by
 have e:=qo.nd
 refine iP F qo λc A a s H E b=> ?_
 have d:=b.units0
 delta pF
 ac_rfl
 refine bF (N:= ["_law_one","_law_turn"]) (js:= [none,some 8]) (aL.gen rfl rfl rfl rfl rfl rfl) rfl ?_ (λ_ _ _ _=> ?_) (λ_ _ _ _=> ?_) (λ_ _ _ _=> ?_)
 ac_rfl
def Ag:aF Bh Bh (aB mC):=eP
def Aw(F:dQ K "_law_give" "_law_give" mC f fd)(B:Bl mg):bh P w K mg base dm 1 f fd Bh (dN ⟨K,mg⟩ 1 pL):=by
 refine iP F Ag λc A a s H E b=> ?_
 have d:=b.units0
 delta uY
 ac_rfl
def A9:aF Cn Cn (aB pA):=eP
def BC(F:dQ K "_law_get" "_law_get" pA f fd)(B:Bl mg):bh P w K mg base dm 1 f fd Cn (dN ⟨K,mg⟩ 2 r_):=by
 refine iP F A9 λb A a s H E c=> ?_
 delta yd
 ac_rfl
def uj:aF j3 j3 (aB iO):=eP
def uD(F:dQ K "_law_counted" "_law_counted" iO f fd)(B:Bl mg)(e:B0 P w K mg base)(g:jj P w K mg base)(c:CW P w K mg base):bh P w K mg base dm 2 f fd j3 (dN ⟨K,mg⟩ 4 jE):=by
 refine iP F uj λb A a s H E d=> ?_
 delta oH
 ac_rfl
def ua:aF ["_law_world_here","_law_now","_law_own_here","_law_row_here","_law_frame","_law_given","_law_number"] j3 (aB pH):=eP
def Bz(F:dQ K "_law_row" "_law_row" pH f fd)(B:Bl mg)(e:vT P w K mg base)(h:oF P w K mg base)(i:jj P w K mg base)(j:p_ P w K mg base)(k:AO P w K mg base)(g:vM P w K mg base):bh P w K mg base dm 9 f fd j3 (dN ⟨K,mg⟩ 4 kb):=by
 have d:=ua.nd
 refine iP F ua λb A a s H E c=> ?_
 delta rj
 ac_rfl
def qU:aF ["_law_world_here","_law_now","_law_own_here","_law_frame","_law_program_here"] tV (aB mO):=eP
def Ab(F:dQ K "_law_step" "_law_step" mO f fd)(B:Bl mg)(h:mI P w K mg base)(i:p_ P w K mg base)(g:D0 P w K mg base)(d:Dx P w K mg base):bh P w K mg base dm 10 f fd tV (dN ⟨K,mg⟩ 3 lG):=by
 have e:=qU.nd
 refine iP F qU λb A a s H E c=> ?_
 delta pZ
 ac_rfl
def wY:aF BZ BZ (aB kL):=eP
def xl(F:dQ K "last_frame" "last_frame" kL f fd)(B:Bl mg):bh P w K mg base dm 1 f fd BZ (dN ⟨K,mg⟩ 2 c7):=by
 refine bj F wY λb A a s H E c=> ?_
 delta mK
 ac_rfl
def om:aF ["world","hand","frame","room","deed"] yA (aB kO):=eP
def xA(F:dQ K "program_of" "program_of" kO f fd)(B:Bl mg){c:Tok}(d:mg "OWN"=some (.int (-1) c)):bh P w K mg base dm 1 f fd yA (dN ⟨K,mg⟩ 3 fV):=by
 have b:=om.nd
 refine bj F om λe A a s H E g=> ?_
 exact(lj (On (LZ (i:=3) (j:=4) rfl b rfl rfl (by decide) rfl rfl (cT (p9 (v_ 2) lV) (cT (p9 (v_ 2) lV) i8)) rfl))
  (lj (Pm (NL Om Nc (v_ 3) (kG (Ao (v:=.int (-1)) rfl d ⟨_,rfl⟩) λ_ _=>.int (-1)) (Hi _)) (yq (EF (p9 (p9 (p9 (v_ 0) lV) (v_ 1)) lV))) NG)
  (yq (EF (p9 (p9 (p9 (p9 (p9 (v_ 0) lV) (v_ 3)) lV) (v_ 4)) lV)))))
def A3:aF AA AA (aB oW):=eP
def Cp(F:dQ K "names_of" "names_of" oW f fd)(B:Bl mg):bh P w K mg base dm 1 f fd AA (dN ⟨K,mg⟩ 1 eR):=by
 refine bj F A3 λb A a s H E c=> ?_
 delta rp
 ac_rfl
 refine bF (N:= ["row"]) (js:= [none]) (aL.gen rfl rfl rfl rfl rfl rfl) rfl ?_ (λ_ _ _ _=> ?_) (λ_ _ _ _=> ?_) (λ_ _ _ _=> ?_)
 ac_rfl
def A2:aF BQ BQ (aB ph):=eP
def B_(F:dQ K "place_of" "place_of" ph f fd)(B:Bl mg)(d:pY P w K mg base):bh P w K mg base dm 2 f fd BQ (dN ⟨K,mg⟩ 2 dw):=by
 refine bj F A2 λb A a s H E c=> ?_
 delta sC
 ac_rfl
def zG:aF Cc Cc (aB lY):=eP
def zw(F:dQ K "with_part" "with_part" lY f fd)(B:Bl mg):bh P w K mg base dm 1 f fd Cc (dN ⟨K,mg⟩ 3 dP):=by
 refine bj F zG λb A a s H E c=> ?_
 delta pD
 ac_rfl
def zx:aF AR AR (aB mN):=eP
def zE(F:dQ K "with_hand" "with_hand" mN f fd)(B:Bl mg)(d:hX P w K mg base):bh P w K mg base dm 2 f fd AR (dN ⟨K,mg⟩ 4 fR):=by
 refine bj F zx λb A a s H E c=> ?_
 delta oU
 ac_rfl
def yL:aF B7 B7 (aB mj):=eP
def zK(F:dQ K "with_room" "with_room" mj f fd)(B:Bl mg)(d:hX P w K mg base):bh P w K mg base dm 2 f fd B7 (dN ⟨K,mg⟩ 3 dk):=by
 refine bj F yL λb A a s H E c=> ?_
 delta pe
 ac_rfl
def qd:aF ["world","scene","hand","word","value","room","place","values","shared","frames"] zA (aB mZ):=eP
def Av(F:dQ K "put_thing" "put_thing" mZ f fd)(B:Bl mg)(e:eK P w K mg base)(j:i4 P w K mg base)(h:hX P w K mg base)(l:gY P w K mg base)(m:pY P w K mg base)(d:jl P w K mg base){b:Tok}(k:mg "OWN"=some (.int (-1) b)):bh P w K mg base dm 3 f fd zA (dN ⟨K,mg⟩ 5 fT):=by
 have i:=qd.nd
 refine bj F qd λc A a s H E g=> ?_
 delta kq
 ac_rfl
end
section
variable{P:Program}{w:World}{K:PySem.W.Frag}{mg:Str->Option Value}{base:Heap}{f:Addr}{fd:FuncData}
def uk:aF Cg Cg (aB iW):=eP
def uc(F:dQ K "value_of_two" "value_of_two" iW f fd)(B:Bl mg){b:Tok}(e:mg "HIGHEST"=some (.int (9) b)):bh P w K mg base dm 1 f fd Cg (dN ⟨K,mg⟩ 3 gX):=by
 refine bj F uk λc A a s H E d=> ?_
 delta jI
 ac_rfl
def tF:aF ["tree","things","waiting","first"] sH (aB pT):=eP
theorem tE(F:dQ K "value_of" "value_of" pT f fd)(B:Bl mg)(e:wq P w K mg base)(b:Binds K fd sH [])(c:PySem.W.keepIn K (.ref f)=true)(m:mg "value_of"=some (.ref f)):∀n,bh P w K mg base dm (2+n) f fd sH (dN ⟨K,mg⟩ 3 (gM n))
 |0=>uP
 | n+1=>by
   have i:eA P w K mg base (2+n) "value_of" sH (gM n):=⟨f,fd,tE F B e b c m n,b,c,m⟩
   have j:=tF.nd
   refine bj (k:=2+n) F tF λg A a s H E d=> ?_
   have h:=Es d
   delta rf
   ac_rfl
def tK:aF ["world","scene","hand","tree","frame","room","things","waiting"] zZ (aB oK):=eP
def AB(F:dQ K "reckoned" "reckoned" oK f fd)(B:Bl mg)(g:eK P w K mg base)(k:pY P w K mg base)(h:CM P w K mg base){c:Tok}(j:mg "OWN"=some (.int (-1) c)):bh P w K mg base dm 9 f fd zZ (dN ⟨K,mg⟩ 4 dS):=by
 have i:=tK.nd
 refine bj F tK λd A a s H E b=> ?_
 have e:=Es b
 delta nz
 ac_rfl
 refine GR (n:=7) (N:= ["bell","line"]) (js:= [none,none]) (aL.gen rfl rfl rfl rfl rfl rfl) rfl ?_ (λ_ _ _ _=> ?_) (λ_ _ _ _=> ?_) (λ_ _ _ _=> ?_) (λ_ _ _ _=> ?_) ?_
 ac_rfl
def Ge:aF bo bo (aB u9):=eP
def Fs(F:dQ K "by_put" "by_put" u9 f fd)(B:Bl mg)(d:t5 P w K mg base)(e:gJ P w K mg base):bh P w K mg base dm 10 f fd bo (dN ⟨K,mg⟩ 4 uL):=by
 refine bj F Ge λb A a s H E c=> ?_
 delta yH
 ac_rfl
def i_:aF ["scene","hand","frame","values","frames"] Ez (aB gf):=eP
def pP(F:dQ K "with_last_frame" "with_last_frame" gf f fd)(B:Bl mg)(c:jl P w K mg base):bh P w K mg base dm 3 f fd Ez (dN ⟨K,mg⟩ 3 dX):=by
 have e:=i_.nd
 refine bj F i_ λb A a s H E d=> ?_
 delta gR
 ac_rfl
def xQ:aF ["scene","hand","row","frame"] D9 (aB ve):=eP
def F0(F:dQ K "at_row" "at_row" ve f fd)(B:Bl mg)(c:eK P w K mg base)(g:ju P w K mg base):bh P w K mg base dm 4 f fd D9 (dN ⟨K,mg⟩ 3 lD):=by
 have e:=xQ.nd
 refine bj F xQ λb A a s H E d=> ?_
 delta zC
 ac_rfl
def yz:aF bo bo (aB lZ):=eP
def Ak(F:dQ K "by_unless" "by_unless" lZ f fd)(B:Bl mg)(e:gJ P w K mg base)(d:u_ P w K mg base):bh P w K mg base dm 10 f fd bo (dN ⟨K,mg⟩ 4 lB):=by
 refine bj F yz λb A a s H E c=> ?_
 delta pN
 ac_rfl
def HQ:aF bo bo (aB yU):=eP
def G2(F:dQ K "by_go" "by_go" yU f fd)(B:Bl mg)(d:u_ P w K mg base):bh P w K mg base dm 5 f fd bo (dN ⟨K,mg⟩ 4 yX):=by
 refine bj F HQ λb A a s H E c=> ?_
 delta DP
 ac_rfl
def vB:aF ["scene","room","hand","values","within","row","late","bells"] Er (aB sP):=eP
def DK(F:dQ K "come_in" "come_in" sP f fd)(B:Bl mg)(h:gY P w K mg base){c:Tok}(g:mg "NOBODY"=some (.int (-1) c)):bh P w K mg base dm 3 f fd Er (dN ⟨K,mg⟩ 3 m_):=by
 have e:=vB.nd
 refine bj F vB λb A a s H E d=> ?_
 delta vc
 ac_rfl
def BI:aF ["world","scene","hand","row","room","deed","frame","values","frames"] bo (aB yW):=eP
def HU(F:dQ K "by_do" "by_do" yW f fd)(B:Bl mg)(h:i4 P w K mg base)(i:gJ P w K mg base)(g:yt P w K mg base)(c:jl P w K mg base):bh P w K mg base dm 10 f fd bo (dN ⟨K,mg⟩ 4 zc):=by
 have e:=BI.nd
 refine bj F BI λb A a s H E d=> ?_
 delta DS
 ac_rfl
def vV:aF ["world","scene","hand","word","room"] yT (aB qY):=eP
def CG(F:dQ K "bell_of" "bell_of" qY f fd)(B:Bl mg)(c:eK P w K mg base)(g:i4 P w K mg base):bh P w K mg base dm 3 f fd yT (dN ⟨K,mg⟩ 4 jN):=by
 have e:=vV.nd
 refine bj F vV λb A a s H E d=> ?_
 delta uX
 ac_rfl
def qB:aF ["scene","room","bell","line","state"] EG (aB lS):=eP
def Ap(F:dQ K "with_line" "with_line" lS f fd)(B:Bl mg)(g:gY P w K mg base)(d:hX P w K mg base):bh P w K mg base dm 3 f fd EG (dN ⟨K,mg⟩ 4 fS):=by
 have e:=qB.nd
 refine bj F qB λb A a s H E c=> ?_
 delta oT
 ac_rfl
def Bs:aF ["scene","room","values","within","row","late","bells"] yN (aB yP):=eP
def IY(F:dQ K "leave" "leave" yP f fd)(B:Bl mg)(h:gY P w K mg base){c:Tok}(g:mg "NOBODY"=some (.int (-1) c)):bh P w K mg base dm 3 f fd yN (dN ⟨K,mg⟩ 2 rX):=by
 have e:=Bs.nd
 refine bj F Bs λb A a s H E d=> ?_
 delta CJ
 ac_rfl
def wK:aF ["world","scene","hand","row","room","bell","turn","line","ahead","waiting"] bo (aB rB):=eP
def CY(F:dQ K "by_wait" "by_wait" rB f fd)(B:Bl mg)(c:sx P w K mg base)(h:gJ P w K mg base)(g:mm P w K mg base)(i:Fg P w K mg base):bh P w K mg base dm 10 f fd bo (dN ⟨K,mg⟩ 4 qv):=by
 have e:=wK.nd
 refine bj F wK λb A a s H E d=> ?_
 delta vf
 ac_rfl
 refine bF (N:= ["other","waiter","turn"]) (js:= [none,none,some 6]) (aL.gen rfl rfl rfl rfl rfl rfl) rfl ?_ (λ_ _ _ _=> ?_) (λ_ _ _ _=> ?_) (λ_ _ _ _=> ?_)
 ac_rfl
def vI:aF ["world","scene","hand","row","room","bell","line","called","values","within","queue","late","bells"] bo (aB sN):=eP
def DF(F:dQ K "by_call" "by_call" sN f fd)(B:Bl mg)(c:sx P w K mg base)(g:mm P w K mg base)(h:gY P w K mg base):bh P w K mg base dm 4 f fd bo (dN ⟨K,mg⟩ 4 qD):=by
 have e:=vI.nd
 refine bj F vI λb A a s H E d=> ?_
 delta wb
 ac_rfl
end
section
variable{P:Program}{w:World}{K:PySem.W.Frag}{mg:Str->Option Value}{base:Heap}{f:Addr}{fd:FuncData}
def xC:aF ["world","scene","hand","row","room","bell"] bo (aB vd):=eP
def Fp(F:dQ K "by_all" "by_all" vd f fd)(B:Bl mg)(c:sx P w K mg base)(g:mm P w K mg base):bh P w K mg base dm 4 f fd bo (dN ⟨K,mg⟩ 4 uE):=by
 have e:=xC.nd
 refine bj F xC λb A a s H E d=> ?_
 delta zH
 ac_rfl
def u0:aF ["world","scene","hand","row","told"] bo (aB rR):=eP
def Dt(F:dQ K "by_tell" "by_tell" rR f fd)(B:Bl mg)(g:gJ P w K mg base)(h:ju P w K mg base)(c:eK P w K mg base):bh P w K mg base dm 10 f fd bo (dN ⟨K,mg⟩ 4 qz):=by
 have e:=u0.nd
 refine bj F u0 λb A a s H E d=> ?_
 delta vj
 ac_rfl
def Ae:aF Bt Bt (aB lW):=eP
def Ai(F:dQ K "with_pass" "with_pass" lW f fd)(B:Bl mg)(d:hX P w K mg base):bh P w K mg base dm 2 f fd Bt (dN ⟨K,mg⟩ 3 gF):=by
 refine bj F Ae λb A a s H E c=> ?_
 delta u4
 ac_rfl
def A0:aF ["world","scene","hand","name","place","value","row"] zm (aB zf):=eP
def HI(F:dQ K "taken" "taken" zf f fd)(B:Bl mg)(e:i4 P w K mg base)(g:tY P w K mg base):bh P w K mg base dm 3 f fd zm (dN ⟨K,mg⟩ 4 zq):=by
 have d:=A0.nd
 refine bj F A0 λb A a s H E c=> ?_
 delta G6
 ac_rfl
def DM:aF bo bo (aB rq):=eP
def Dm(F:dQ K "by_take" "by_take" rq f fd)(B:Bl mg)(d:EA P w K mg base):bh P w K mg base dm 4 f fd bo (dN ⟨K,mg⟩ 4 v7):=by
 refine bj F DM λb A a s H E c=> ?_
 delta BR
 ac_rfl
def og:aF ["world","scene","name","place","value","row"] An (aB kC):=eP
def xB(F:dQ K "given_back" "given_back" kC f fd)(B:Bl mg)(h:i4 P w K mg base)(i:tY P w K mg base){b:Tok}(e:mg "HIGHEST"=some (.int (9) b)):bh P w K mg base dm 3 f fd An (dN ⟨K,mg⟩ 3 jr):=by
 have g:=og.nd
 refine bj F og λc A a s H E d=> ?_
 delta tX
 ac_rfl
def C8:aF bo bo (aB sD):=eP
def DI(F:dQ K "by_give" "by_give" sD f fd)(B:Bl mg)(d:qu P w K mg base):bh P w K mg base dm 4 f fd bo (dN ⟨K,mg⟩ 4 vP):=by
 refine bj F C8 λb A a s H E c=> ?_
 delta B2
 ac_rfl
def DA:aF bo bo (aB rM):=eP
def C3(F:dQ K "by_pass" "by_pass" rM f fd)(B:Bl mg)(e:EA P w K mg base)(d:qu P w K mg base):bh P w K mg base dm 4 f fd bo (dN ⟨K,mg⟩ 4 vW):=by
 refine bj F DA λb A a s H E c=> ?_
 delta BH
 ac_rfl
def F5:aF bo bo (aB vg):=eP
def Gn(F:dQ K "by_say" "by_say" vg f fd)(B:Bl mg):bh P w K mg base dm 1 f fd bo (dN ⟨K,mg⟩ 4 uN):=by
 refine bj F F5 λb A a s H E c=> ?_
 delta zR
 ac_rfl
def tZ:aF ["world","scene","hand","row","deed"] bo (aB pX):=eP
def B9(F:dQ K "row_done" "row_done" pX f fd)(B:Bl mg)(g:∀x F,vt.lookup x=some F->eA P w K mg base 10 x bo F)(d:Eo P w K mg "DONE_BY" nH):bh P w K mg base dm 11 f fd bo (dN ⟨K,mg⟩ 4 jT):=by
 have c:=tZ.nd
 refine bj F tZ λe A a s H E b=> ?_
 exact(lj (Gq 4 c (Jf d rfl (p9 (v_ 3) lV) (λ_ _=>rfl)))
  (yq (EF (Kc g (b.mono (by decide)) rfl (by first|exact Or.inl rfl|exact Or.inr (Or.inl rfl)) (cT (v_ 0) (cT (v_ 1) (cT (v_ 2) (cT (v_ 3) i8)))) (nP (nP (nP (nP CT))))))))
def tM:aF ["world","scene","hand","values","frames","room","deed","row","given","told","outside","came_by"] fg (aB oV):=eP
def Cb(F:dQ K "end_deed" "end_deed" oV f fd)(B:Bl mg)(c:jl P w K mg base)(i:Fg P w K mg base)(g:lq P w K mg base)(h:t5 P w K mg base):bh P w K mg base dm 4 f fd fg (dN ⟨K,mg⟩ 3 jP):=by
 have e:=tM.nd
 refine bj F tM λb A a s H E d=> ?_
 delta sk
 ac_rfl
def uZ:aF ["world","scene","hand","frame","room","program","row","event"] fg (aB rK):=eP
def Da(F:dQ K "step_of" "step_of" rK f fd)(B:Bl mg)(e:eK P w K mg base)(m:yt P w K mg base)(k:lq P w K mg base)(j:D2 P w K mg base)(l:gJ P w K mg base)(d:DJ P w K mg base)(n:u_ P w K mg base){c:Tok}(i:mg "OWN"=some (.int (-1) c)):bh P w K mg base dm 12 f fd fg (dN ⟨K,mg⟩ 3 qy):=by
 have h:=uZ.nd
 refine bj F uZ λb A a s H E g=> ?_
 delta lT
 ac_rfl
def BW:aF Bj Bj (aB oM):=eP
def BF(F:dQ K "hands_at" "hands_at" oM f fd)(B:Bl mg):bh P w K mg base dm 1 f fd Bj (dN ⟨K,mg⟩ 1 nQ):=by
 refine bj F BW λb A a s H E c=> ?_
 delta rO
 ac_rfl
 refine bF (N:= ["turn","hand"]) (js:= [none,none]) (aL.gen rfl rfl rfl rfl rfl rfl) rfl ?_ (λ_ _ _ _=> ?_) (λ_ _ _ _=> ?_) (λ_ _ _ _=> ?_)
 ac_rfl
def jV:aF ["scene","hands","value","row","values","within","late","bells","line"] zI (aB ic):=eP
def rC(F:dQ K "hands_in_rows" "hands_in_rows" ic f fd)(B:Bl mg)(c:Dh P w K mg base):bh P w K mg base dm 2 f fd zI (dN ⟨K,mg⟩ 1 ff):=by
 have e:=jV.nd
 refine bj F jV λb A a s H E d=> ?_
 delta i6
 ac_rfl
def j6:aF ["world","scene","hand","frame"] fg (aB iq):=eP
def q_(F:dQ K "is_behind_all" "is_behind_all" iq f fd)(B:Bl mg)(d:eK P w K mg base)(h:lq P w K mg base){b:Tok}(i:mg "OWN"=some (.int (-1) b)):bh P w K mg base dm 2 f fd fg (dN ⟨K,mg⟩ 3 gu):=by
 have g:=j6.nd
 refine bj F j6 λc A a s H E e=> ?_
 delta jb
 ac_rfl
def tU:aF ["world","scene","held_up"] yE (aB pB):=eP
def BP(F:dQ K "may_step" "may_step" pB f fd)(B:Bl mg)(d:uB P w K mg base)(g:uC P w K mg base):bh P w K mg base dm 3 f fd yE (dN ⟨K,mg⟩ 2 nM):=by
 have e:=tU.nd
 refine bj F tU λb A a s H E c=> ?_
 delta rV
 ac_rfl
 refine bF (N:= ["hand","world","scene","held_up"]) (js:= [none,some 0,some 1,some 2]) (aL.gen rfl rfl rfl rfl rfl rfl) rfl ?_ (λ_ _ _ _=> ?_) (λ_ _ _ _=> ?_) (λ_ _ _ _=> ?_)
 ac_rfl
def C1:aF fg fg (aB rg):=eP
def De(F:dQ K "stepped" "stepped" rg f fd)(B:Bl mg)(d:CN P w K mg base)(e:Gu P w K mg base):bh P w K mg base dm 13 f fd fg (dN ⟨K,mg⟩ 3 qe):=by
 refine bj F C1 λb A a s H E c=> ?_
 delta vy
 ac_rfl
def zo:aF CU CU (aB nu):=eP
theorem p7(F:dQ K "_law_same" "_law_same" nu f fd)(B:Bl mg)(b:Binds K fd CU [])(c:PySem.W.keepIn K (.ref f)=true)(m:mg "_law_same"=some (.ref f)):∀n,bh P w K mg base dm (1+n) f fd CU (dN ⟨K,mg⟩ 2 (gL n))
 |0=>uP
 | n+1=>by
   have g:eA P w K mg base (1+n) "_law_same" CU (gL n):=⟨f,fd,p7 F B b c m n,b,c,m⟩
   refine bj (k:=1+n) F zo λd A a s H E e=> ?_
   delta gS
   ac_rfl
   refine bF (N:= ["_law_one","_law_other"]) (js:= [none,none]) (aL.gen rfl rfl rfl rfl rfl rfl) rfl ?_ (λ_ _ _ _=> ?_) (λ_ _ _ _=> ?_) (λ_ _ _ _=> ?_)
   ac_rfl
end
section
variable{P:Program}{w:World}{K:PySem.W.Frag}{mg:Str->Option Value}{base:Heap}{f:Addr}{fd:FuncData}
def mD:aF ["_law_now","_law_rooms_here","_law_values","_law_within","_law_row_here","_law_late","_law_bells","_law_hands","_law_frames"] EU (aB jK):=eP
def vz(F:dQ K "_law_frozen" "_law_frozen" jK f fd)(B:Bl mg):bh P w K mg base dm 1 f fd EU (dN ⟨K,mg⟩ 1 iB):=by
 have d:=mD.nd
 refine bj F mD λb A a s H E c=> ?_
 delta kF
 ac_rfl
 refine bF (N:=LD) (js:= [none]) (aL.gen rfl rfl rfl rfl rfl rfl) rfl ?_ (λ_ _ _ _=> ?_) (λ_ _ _ _=> ?_) (λ_ _ _ _=> ?_)
 ac_rfl
 refine bF (N:= ["_law_frame"]) (js:= [none]) (aL.gen rfl rfl rfl rfl rfl rfl) rfl ?_ (λ_ _ _ _=> ?_) (λ_ _ _ _=> ?_) (λ_ _ _ _=> ?_)
 ac_rfl
 refine bF (N:= ["_law_value_here","_law_row_here"]) (js:= [none,none]) (aL.gen rfl rfl rfl rfl rfl rfl) rfl ?_ (λ_ _ _ _=> ?_) (λ_ _ _ _=> ?_) (λ_ _ _ _=> ?_)
 ac_rfl
def qA:aF ["_law_pot_here","_law_world_here","_law_many","_law_now","_law_scene","_law_last","_law_turn","_law_some","_law_event","_law_found"] Ec (aB mJ):=eP
def Ah(F:dQ K "_law_walk" "_law_walk" mJ f fd)(B:Bl mg)(l:Ar P w K mg base)(n:Ki P w K mg base)(m:Dr P w K mg base)(d:Bv P w K mg base)(j:AC P w K mg base)(h:FU P w K mg base)(i:BM P w K mg base)(k:wX P w K mg base):bh P w K mg base dm 14 f fd Ec (dN ⟨K,mg⟩ 3 k8):=by
 have g:=qA.nd
 refine bj F qA λc A a s H E b=> ?_
 have e:=b.units0
 delta pd
 ac_rfl
def tO:aF ["_law_pot_here","_law_goals","_law_words_here","_law_passes","_law_most","_law_rows","_law_k","_law_way"] D_ (aB pW):=eP
def AZ(F:dQ K "_law_own" "_law_own" pW f fd)(B:Bl mg)(j:cO P w K mg base)(e:xW P w K mg base)(g:fj P w K mg base)(i:k0 P w K mg base):bh P w K mg base dm 9 f fd D_ (dN ⟨K,mg⟩ 5 nE):=by
 have h:=tO.nd
 refine bj F tO λc A a s H E b=> ?_
 have d:=b.units0
 delta sJ
 ac_rfl
def oB:aF ["_law_pot_here","_law_rooms_here","_law_hands","_law_passes_most","_law_goals","_law_room_here","_law_passes","_law_shared","_law_made","_law_k","_law_own_here","_law_program_here","_law_counted_here"] EK (aB lH):=eP
def xf(F:dQ K "_law_world" "_law_world" lH f fd)(B:Bl mg)(d:kK P w K mg base)(g:cO P w K mg base)(h:DX P w K mg base):bh P w K mg base dm 10 f fd EK (dN ⟨K,mg⟩ 4 jm):=by
 have e:=oB.nd
 refine bj F oB λb A a s H E c=> ?_
 delta mf
 ac_rfl
 refine bF (N:=Ov) (js:= [none,some 5]) (aL.gen rfl rfl rfl rfl rfl rfl) rfl ?_ (λ_ _ _ _=> ?_) (λ_ _ _ _=> ?_) (λ_ _ _ _=> ?_)
 ac_rfl
 refine bF (N:=GU) (js:= [none,some 0]) (aL.gen rfl rfl rfl rfl rfl rfl) rfl ?_ (λ_ _ _ _=> ?_) (λ_ _ _ _=> ?_) (λ_ _ _ _=> ?_)
 ac_rfl
 refine bF (N:=GU) (js:= [none,some 0]) (aL.gen rfl rfl rfl rfl rfl rfl) rfl ?_ (λ_ _ _ _=> ?_) (λ_ _ _ _=> ?_) (λ_ _ _ _=> ?_)
 ac_rfl
 refine bF (N:=GU) (js:= [none,some 0]) (aL.gen rfl rfl rfl rfl rfl rfl) rfl ?_ (λ_ _ _ _=> ?_) (λ_ _ _ _=> ?_) (λ_ _ _ _=> ?_)
 ac_rfl
def Hc:aF ["_law_script","_law_k","_law_pot_here","_law_rooms_here"] GL (aB qc):=eP
def LJ(F:dQ K "law" "law" qc f fd)(B:Bl mg)(g:C7 P w K mg base)(c:zF P w K mg base)(h:cO P w K mg base)(i:Bu P w K mg base)(j:zg P w K mg base):bh P w K mg base dm 15 f fd GL (dN ⟨K,mg⟩ 1 Kw):=by
 have e:=Hc.nd
 refine bj F Hc λb A a s H E d=> ?_
 delta MF
 ac_rfl
end
def all_mk{l:PySem.W.OpenLaw}{w:World}{K:PySem.W.Frag}{h:Heap}{mg:Str->Option Value}{fa f1 f2 f3 f4 f5 f6 f7 f8 f9 i2 t0 m0 w0 b5 v3 r2 z1 j5 q5 k4 w8 b8 e0 I3 z5 o5 f0 a5 h9 w4 m9 I2 k7 l4 t2 e8 k6 h3 v6 b1 r1 s3 a0 l8 i1 Y z o8 J z0 b0 x2 A q L H h4 h6 a1 c5 y t Q k2 j1 q8 l5 n1 h5 g3 n4 h0 e5 l6 l3 v4 c:Addr}(X:K.In h)(G:h.Ns mainGlobals mg)(w2:mg "law"=some (.ref fa))
  (d1:aX K "_law_pot" oQ f1)
  (d2:aX K "_law_take" nj f2)
  (d3:aX K "_law_words" kT f3)
  (d4:aX K "_law_pick" m8 f4)
  (d5:aX K "_law_sum" oX f5)
  (d6:aX K "_law_waits" lE f6)
  (d7:aX K "_law_do" r8 f7)
  (d8:aX K "_law_deed" nk f8)
  (d9:aX K "_law_room" mE f9)
  (H9:aX K "_law_rooms" lA i2)
  (h8:aX K "_law_first" ku t0)
  (o0:aX K "values_of" mX m0)
  (r3:aX K "begun_room" kX w0)
  (e2:aX K "begun" zN b5)
  (w5:aX K "_law_is_bound" ib v3)
  (g5:aX K "_law_may" pU r2)
  (c0:aX K "_law_next" mS z1)
  (i5:aX K "_law_program" iZ j5)
  (x1:aX K "_law_enter" kR q5)
  (l0:aX K "_law_leave" k_ k4)
  (e4:aX K "_law_spot" mL w8)
  (o9:aX K "_law_set" pQ b8)
  (n3:aX K "_law_end" pO e0)
  (l9:aX K "_law_value" kN I3)
  (o7:aX K "_law_reckon" jJ z5)
  (a4:aX K "_law_ring" mq o5)
  (H8:aX K "_law_give" mC f0)
  (e7:aX K "_law_get" pA a5)
  (s9:aX K "_law_counted" iO h9)
  (l1:aX K "_law_row" pH w4)
  (v2:aX K "_law_step" mO m9)
  (n6:aX K "last_frame" kL I2)
  (x3:aX K "program_of" kO k7)
  (l7:aX K "names_of" oW l4)
  (s0:aX K "place_of" ph t2)
  (t3:aX K "with_part" lY e8)
  (q6:aX K "with_hand" mN k6)
  (x4:aX K "with_room" mj h3)
  (L2:aX K "put_thing" mZ v6)
  (s5:aX K "value_of_two" iW b1)
  (u8:aX K "value_of" pT r1)
  (r0:aX K "reckoned" oK s3)
  (y5:aX K "by_put" u9 a0)
  (I7:aX K "with_last_frame" gf l8)
  (I9:aX K "at_row" ve i1)
  (g4:aX K "by_unless" lZ Y)
  (p2:aX K "by_go" yU z)
  (g1:aX K "come_in" sP o8)
  (c2:aX K "by_do" yW J)
  (s6:aX K "bell_of" qY z0)
  (n7:aX K "with_line" lS b0)
  (H0:aX K "leave" yP x2)
  (o2:aX K "by_wait" rB A)
  (h1:aX K "by_call" sN q)
  (h2:aX K "by_all" vd L)
  (q9:aX K "by_tell" rR H)
  (q7:aX K "with_pass" lW h4)
  (x6:aX K "taken" zf h6)
  (k5:aX K "by_take" rq a1)
  (g0:aX K "given_back" kC c5)
  (n8:aX K "by_give" sD y)
  (h7:aX K "by_pass" rM t)
  (v1:aX K "by_say" vg Q)
  (b7:aX K "row_done" pX k2)
  (b6:aX K "end_deed" oV j1)
  (x5:aX K "step_of" rK q8)
  (n9:aX K "hands_at" oM l5)
  (y1:aX K "hands_in_rows" ic n1)
  (b3:aX K "is_behind_all" iq h5)
  (w3:aX K "may_step" pB g3)
  (s4:aX K "stepped" rg n4)
  (w1:aX K "_law_same" nu h0)
  (I4:aX K "_law_frozen" jK e5)
  (z6:aX K "_law_walk" mJ l6)
  (z8:aX K "_law_own" pW l3)
  (x7:aX K "_law_world" lH v4)
  {oc kV dc pm cd ct:Value} {od an:Option Addr} {sl:Array (Option Value)} (N0:PySem.W.nsIn K mainGlobals "law"=some (some (.ref c))) (r4:K.lookup c=some ⟨oc,od,.func (PySem.W.fnOf "law" "law" (iD qc) (fM qc) (aB qc) .none kV dc pm an cd ct),sl⟩) (o1:PySem.W.codeIn K cd "law"=true) (e3:PySem.W.keepIn K (.ref c)=true)
  {i3:Tok} (HX:PySem.W.nsIn K mainGlobals "NOBODY"=some (some (.int (-1) i3)))
  {j_:Tok} (NN:PySem.W.nsIn K mainGlobals "OWN"=some (some (.int (-1) j_)))
  {jX:Tok} (F9:PySem.W.nsIn K mainGlobals "HIGHEST"=some (some (.int (9) jX)))
  {xE DZ:Nat} {zj yI y0 y7 zJ yR yD Af zD zd xg xm:Tok} (FF:PySem.W.nsIn K mainGlobals "DONE_BY"=some (some (.ref xE))) (CO:K.lookup xE=some ⟨.type "dict",none,.dict (List.toArray [⟨PyData.keyHash w.params "put",.str "put" zj,.ref a0⟩,⟨PyData.keyHash w.params "unless",.str "unless" yI,.ref Y⟩,⟨PyData.keyHash w.params "go",.str "go" y0,.ref z⟩,⟨PyData.keyHash w.params "do",.str "do" y7,.ref J⟩,⟨PyData.keyHash w.params "wait",.str "wait" zJ,.ref A⟩,⟨PyData.keyHash w.params "call",.str "call" yR,.ref q⟩,⟨PyData.keyHash w.params "all",.str "all" yD,.ref L⟩,⟨PyData.keyHash w.params "tell",.str "tell" Af,.ref H⟩,⟨PyData.keyHash w.params "take",.str "take" zD,.ref a1⟩,⟨PyData.keyHash w.params "give",.str "give" zd,.ref y⟩,⟨PyData.keyHash w.params "pass",.str "pass" xg,.ref t⟩,⟨PyData.keyHash w.params "say",.str "say" xm,.ref Q⟩]) DZ,#[]⟩)
  (NU:PySem.W.nsIn K mainGlobals "len"=some none) (JW:PySem.W.nsIn K mainGlobals "tuple"=some none) (MD:PySem.W.nsIn K mainGlobals "list"=some none) (LG:PySem.W.nsIn K mainGlobals "dict"=some none) (MN:PySem.W.nsIn K mainGlobals "set"=some none) (N_:PySem.W.nsIn K mainGlobals "int"=some none) (N5:PySem.W.nsIn K mainGlobals "str"=some none) (Lk:PySem.W.nsIn K mainGlobals "bool"=some none) (Na:PySem.W.nsIn K mainGlobals "all"=some none) (ND:PySem.W.nsIn K mainGlobals "any"=some none) (Kt:PySem.W.nsIn K mainGlobals "range"=some none) (M4:PySem.W.nsIn K mainGlobals "zip"=some none) (IT:PySem.W.nsIn K mainGlobals "sorted"=some none) (yx:PySem.W.nsIn K mainGlobals "isinstance"=some none) (N3:PySem.W.nsIn K mainGlobals "min"=some none) (Nd:PySem.W.nsIn K mainGlobals "max"=some none) (Nt:PySem.W.nsIn K mainGlobals "abs"=some none) (BX:PySem.W.nsIn K mainGlobals "enumerate"=some none)
  (T:∀ns:List Int,ns.length<=63->∃S',Kw [.ref 0] [.frz (ns.map D.int)]=some (.d (.bl true),S')):
  ∃fd:FuncData,(∀(s:Shared) (v:Value),BindsTo s fd ⟨[v],[]⟩ [("_law_script",v)])/\∀base:Heap,K.In base->base.Ns mainGlobals mg->bh l.prog w K mg base dm 15 fa fd GL BG:=by
 have e:=w2.symm.trans (PySem.W.mg_of X G N0)
 cases e
 have s8:=C0 (st:=qc) r4 o1 e3
 have O1:=d1.ok1 (ps:=ES) X G
 have O2:=d2.ok1 (ps:=E6) X G
 have O3:=d3.ok1 (ps:=EZ) X G
 have O4:=d4.ok1 (ps:=B6) X G
 have O5:=d5.ok1 (ps:=xP) X G
 have O6:=d6.ok1 (ps:=Ei) X G
 have O7:=d7.ok1 (ps:=EJ) X G
 have O8:=d8.ok1 (ps:=EX) X G
 have O9:=d9.ok1 (ps:=E1) X G
 have v0:=H9.ok1 (ps:=EB) X G
 have I8:=h8.ok1 (ps:=ED) X G
 have c4:=o0.ok1 (ps:=wI) X G
 have z3:=r3.ok1 (ps:=Az) X G
 have m1:=e2.ok1 (ps:=y3) X G
 have r9:=w5.ok1 (ps:=JL) X G
 have u2:=g5.ok1 (ps:=D5) X G
 have e6:=c0.ok1 (ps:=AQ) X G
 have k1:=i5.ok1 (ps:=Bd) X G
 have k3:=x1.ok1 (ps:=Ax) X G
 have q1:=l0.ok1 (ps:=A8) X G
 have z7:=e4.ok1 (ps:=AW) X G
 have r6:=o9.ok1 (ps:=E5) X G
 have u1:=n3.ok1 (ps:=tV) X G
 have c1:=l9.ok1 (ps:=yk) X G
 have m2:=o7.ok1 (ps:=Fd) X G
 have b2:=a4.ok1 (ps:=j3) X G
 have I6:=H8.ok1 (ps:=Bh) X G
 have g2:=e7.ok1 (ps:=Cn) X G
 have j4:=s9.ok1 (ps:=j3) X G
 have o4:=l1.ok1 (ps:=j3) X G
 have q2:=v2.ok1 (ps:=tV) X G
 have q4:=n6.ok1 (ps:=BZ) X G
 have H7:=x3.ok1 (ps:=yA) X G
 have I5:=l7.ok1 (ps:=AA) X G
 have p3:=s0.ok1 (ps:=BQ) X G
 have s7:=t3.ok1 (ps:=Cc) X G
 have e1:=q6.ok1 (ps:=AR) X G
 have t4:=x4.ok1 (ps:=B7) X G
 have z2:=L2.ok1 (ps:=zA) X G
 have I1:=s5.ok1 (ps:=Cg) X G
 have o6:=u8.ok1 (ps:=sH) X G
 have e9:=r0.ok1 (ps:=zZ) X G
 have N:=y5.ok1 (ps:=bo) X G
 have n5:=I7.ok1 (ps:=Ez) X G
 have x0:=I9.ok1 (ps:=D9) X G
 have R:=g4.ok1 (ps:=bo) X G
 have S:=p2.ok1 (ps:=bo) X G
 have s1:=g1.ok1 (ps:=Er) X G
 have a3:=c2.ok1 (ps:=bo) X G
 have p4:=s6.ok1 (ps:=yT) X G
 have r5:=n7.ok1 (ps:=EG) X G
 have r7:=H0.ok1 (ps:=yN) X G
 have U:=o2.ok1 (ps:=bo) X G
 have o:=h1.ok1 (ps:=bo) X G
 have P:=h2.ok1 (ps:=bo) X G
 have a2:=q9.ok1 (ps:=bo) X G
 have n2:=q7.ok1 (ps:=Bt) X G
 have c6:=x6.ok1 (ps:=zm) X G
 have n:=k5.ok1 (ps:=bo) X G
 have a6:=g0.ok1 (ps:=An) X G
 have u:=n8.ok1 (ps:=bo) X G
 have C:=h7.ok1 (ps:=bo) X G
 have r:=v1.ok1 (ps:=bo) X G
 have l2:=b7.ok1 (ps:=bo) X G
 have H6:=b6.ok1 (ps:=fg) X G
 have b4:=x5.ok1 (ps:=fg) X G
 have q3:=n9.ok1 (ps:=Bj) X G
 have o3:=y1.ok1 (ps:=zI) X G
 have M2:=b3.ok1 (ps:=fg) X G
 have w7:=w3.ok1 (ps:=yE) X G
 have t1:=s4.ok1 (ps:=fg) X G
 have s2:=w1.ok1 (ps:=CU) X G
 have c3:=I4.ok1 (ps:=EU) X G
 have k9:=z6.ok1 (ps:=Ec) X G
 have b9:=z8.ok1 (ps:=D_) X G
 have p1:=x7.ok1 (ps:=EK) X G
 have j9:=PySem.W.mg_of X G HX
 have j:=PySem.W.mg_of X G NN
 have nV:=PySem.W.mg_of X G F9
 have rH:Eo l.prog w K mg "DONE_BY" nH:=HZ (PySem.W.mg_of X G FF) CO (.cons N.m (.cons R.m (.cons S.m (.cons a3.m (.cons U.m (.cons o.m (.cons P.m (.cons a2.m (.cons n.m (.cons u.m (.cons C.m (.cons r.m .nil)))))))))))) (by decide +kernel)
 have B:Bl mg:=⟨QFq X G NU,QFq X G JW,QFq X G MD,QFq X G LG,QFq X G MN,QFq X G N_,QFq X G N5,QFq X G Lk,QFq X G Na,QFq X G ND,QFq X G Kt,QFq X G M4,QFq X G IT,QFq X G yx,QFq X G N3,QFq X G Nd,QFq X G Nt,QFq X G BX⟩
 refine⟨PySem.W.fnOf "law" "law" (iD qc) (fM qc) (aB qc) .none kV dc pm an cd ct,λs v=>.of_eq rfl,λbase _ _=> ?_⟩
 have Z:Pk l.prog w base:=⟨⟩
 have u3:=O1.cal Z λ_ F _ _ _=>Ci F B
 have a:=O2.cal Z λ_ F _ _ _=>Aq F B
 have eI:=O3.cal Z λ_ F _ _ _=>w9 F B a
 have f:=O4.cal Z λ_ F _ _ _=>Aa F B a
 have eN:=O5.cal Z λ_ F b k m=>sU F B a f b k m 4
 have qi:=O6.cal Z λ_ F _ _ _=>xk F B eN a f
 have nW:=O7.cal Z λ_ F _ _ _=>Dc F B f eN
 have sS:=O8.cal Z λ_ F _ _ _=>zW F B a qi f nW eN
 have m3:=O9.cal Z λ_ F _ _ _=>y6 F B f eI a sS
 have qC:=v0.cal Z λ_ F _ _ _=>xj F B eI a m3
 have p8:=I8.cal Z λ_ F _ _ _=>xu F B
 have jy:=c4.cal Z λ_ F _ _ _=>yY F B
 have qh:=z3.cal Z λ_ F _ _ _=>wR F B jy j9
 have EH:=m1.cal Z λ_ F _ _ _=>HL F B jy qh j
 have lJ:=r9.cal Z λ_ F _ _ _=>sL F B
 have vw:=u2.cal Z λ_ F _ _ _=>Cq F B lJ
 have sY:=e6.cal Z λ_ F _ _ _=>y_ F B a f
 have f_:=k1.cal Z λ_ F _ _ _=>uv F B
 have iH:=k3.cal Z λ_ F _ _ _=>xn F B
 have iE:=q1.cal Z λ_ F _ _ _=>xa F B
 have eB:=z7.cal Z λ_ F _ _ _=>y9 F B
 have kZ:=r6.cal Z λ_ F _ _ _=>Ba F B eB
 have wu:=u1.cal Z λ_ F _ _ _=>AN F B iE f_ kZ
 have kU:=c1.cal Z λ_ F b k m=>ou F B b k m 5
 have gU:=m2.cal Z λ_ F _ _ _=>vA F B kU
 have sQ:=b2.cal Z λ_ F _ _ _=>yG F B eB gU iE
 have t8:=I6.cal Z λ_ F _ _ _=>Aw F B
 have vS:=g2.cal Z λ_ F _ _ _=>BC F B
 have mr:=j4.cal Z λ_ F _ _ _=>uD F B t8 eB vS
 have u5:=o4.cal Z λ_ F _ _ _=>Bz F B kZ gU eB iH sQ mr
 have sZ:=q2.cal Z λ_ F _ _ _=>Ab F B f_ iH wu u5
 have g:=q4.cal Z λ_ F _ _ _=>xl F B
 have fq:=H7.cal Z λ_ F _ _ _=>xA F B j
 have gQ:=I5.cal Z λ_ F _ _ _=>Cp F B
 have M:=p3.cal Z λ_ F _ _ _=>B_ F B gQ
 have da:=s7.cal Z λ_ F _ _ _=>zw F B
 have eC:=e1.cal Z λ_ F _ _ _=>zE F B da
 have I:=t4.cal Z λ_ F _ _ _=>zK F B da
 have jk:=z2.cal Z λ_ F _ _ _=>Av F B g M da I gQ eC j
 have i9:=I1.cal Z λ_ F _ _ _=>uc F B nV
 have pj:=o6.cal Z λ_ F b k m=>tE F B i9 b k m 6
 have i:=e9.cal Z λ_ F _ _ _=>AB F B g gQ pj j
 have HF:=N.cal Z λ_ F _ _ _=>Fs F B jk i
 have eX:=n5.cal Z λ_ F _ _ _=>pP F B eC
 have kc:=x0.cal Z λ_ F _ _ _=>F0 F B g eX
 have Bc:=R.cal Z λ_ F _ _ _=>Ak F B i kc
 have JI:=S.cal Z λ_ F _ _ _=>G2 F B kc
 have nX:=s1.cal Z λ_ F _ _ _=>DK F B I j9
 have J_:=a3.cal Z λ_ F _ _ _=>HU F B M i nX eC
 have iM:=p4.cal Z λ_ F _ _ _=>CG F B g M
 have fX:=r5.cal Z λ_ F _ _ _=>Ap F B I da
 have uQ:=r7.cal Z λ_ F _ _ _=>IY F B I j9
 have FP:=U.cal Z λ_ F _ _ _=>CY F B iM i fX uQ
 have FV:=o.cal Z λ_ F _ _ _=>DF F B iM fX I
 have GT:=P.cal Z λ_ F _ _ _=>Fp F B iM fX
 have FM:=a2.cal Z λ_ F _ _ _=>Dt F B i eX g
 have ji:=n2.cal Z λ_ F _ _ _=>Ai F B da
 have uJ:=c6.cal Z λ_ F _ _ _=>HI F B M ji
 have FT:=n.cal Z λ_ F _ _ _=>Dm F B uJ
 have iG:=a6.cal Z λ_ F _ _ _=>xB F B M ji nV
 have FQ:=u.cal Z λ_ F _ _ _=>DI F B iG
 have Gy:=C.cal Z λ_ F _ _ _=>C3 F B uJ iG
 have HK:=r.cal Z λ_ F _ _ _=>Gn F B
 have u7:∀x F,vt.lookup x=some F->eA l.prog w K mg base 10 x bo F:=by
  refine IW λp hp=> ?_
  simp only[vt,Qsq,QXq,or_false] at hp
  rcases hp with rfl|rfl|rfl|rfl|rfl|rfl|rfl|rfl|rfl|rfl|rfl|rfl
  ·exact HF.mono (by decide)
  ·exact Bc.mono (by decide)
  ·exact JI.mono (by decide)
  ·exact J_.mono (by decide)
  ·exact FP.mono (by decide)
  ·exact FV.mono (by decide)
  ·exact GT.mono (by decide)
  ·exact FM.mono (by decide)
  ·exact FT.mono (by decide)
  ·exact FQ.mono (by decide)
  ·exact Gy.mono (by decide)
  ·exact HK.mono (by decide)
 have vm:=l2.cal Z λ_ F _ _ _=>B9 F B u7 rH
 have wg:=H6.cal Z λ_ F _ _ _=>Cb F B eC uQ fq jk
 have yf:=b4.cal Z λ_ F _ _ _=>Da F B g nX fq wg i vm kc j
 have vX:=q3.cal Z λ_ F _ _ _=>BF F B
 have lL:=o3.cal Z λ_ F _ _ _=>rC F B vX
 have lK:=M2.cal Z λ_ F _ _ _=>q_ F B g fq j
 have vK:=w7.cal Z λ_ F _ _ _=>BP F B lL lK
 have yw:=t1.cal Z λ_ F _ _ _=>De F B vK yf
 have m7:=s2.cal Z λ_ F b k m=>p7 F B b k m 10
 have oz:=c3.cal Z λ_ F _ _ _=>vz F B
 have tj:=k9.cal Z λ_ F _ _ _=>Ah F B p8 EH vw sY sZ yw m7 oz
 have wH:=b9.cal Z λ_ F _ _ _=>AZ F B a nW f eN
 have p5:=p1.cal Z λ_ F _ _ _=>xf F B eI a wH
 exact JF (LJ s8 B u3 qC a tj p5) T
end W28
namespace DL
open PySem PySem.Spec L2
def nc{a:cB}{S:aE}{Q:Bool->aE->Prop}(q:Q true S):E bK a S Q:=⟨_,_,rfl,q⟩
section
variable{S:aE}
def KZ{i j:Int}{Q:D->Prop}(q:Q (.int (i+j))):Op (cA S (.int i) (.int j)) Q:=⟨_,rfl,q⟩
def Lu{i j:Str}{Q:D->Prop}(h:i.length+j.length<=sizeLine)(q:Q (.str (i++j))):Op (cA S (.str i) (.str j)) Q:=⟨_,by simp only[cA];rw[Qhq h],q⟩
def fo{i j:List D}{Q:D->Prop}(h:i.length+j.length<=sizeLine)(q:Q (.tup (i++j))):Op (cA S (.tup i) (.tup j)) Q:=⟨_,by simp only[cA];rw[Qhq h],q⟩
def gq{k:Int->Int->D}{i j:Int}{Q:D->Prop}(q:Q (k i j)):Op (intD (λ_ _=>True) k S (.int i) (.int j)) Q:=⟨_,by simp only[intD,if_true],q⟩
def wC{i j:Int}{Q:D->Prop}(h:0<j)(q:Q (.int (i%j))):Op (uu S (.int i) (.int j)) Q:=⟨_,by simp only[uu,intD];rw[Qhq h],q⟩
def GE{i j:Int}{Q:D->Prop}(h:G5 i j)(q:Q (.int (i/j))):Op (Cm S (.int i) (.int j)) Q:=⟨_,by simp only[Cm,intD];rw[Qhq h],q⟩
def wF{i j:Int}{Q:D->Prop}(h:I0 i j)(q:Q (.int (i*j))):Op (n0 S (.int i) (.int j)) Q:=⟨_,by simp only[n0,intD];rw[Qhq h.ok],q⟩
def ay{ds:List D}{i:Int}{d:D}{Q:D->Prop}(h:kj ds i=some d)(q:Q d):Op (fJ S (.tup ds) (.int i)) Q:=⟨_,h,q⟩
def bL{k:Nat}{ds:List D}{i:Int}{d:D}{Q:D->Prop}(a:S[k]?=some (.lst ds))(h:kj ds i=some d)(q:Q d):Op (fJ S (.ref k) (.int i)) Q:=⟨_,by simp only[fJ,a];exact h,q⟩
def cx{ds:List D}{Q:List D×Tag->Prop}(q:Q (ds,.tu)):Op (wA S (.tup ds)) Q:=⟨_,rfl,q⟩
def a_{k:Nat}{ds:List D}{Q:List D×Tag->Prop}(a:S[k]?=some (.lst ds))(q:Q (ds,.st k)):Op (wA S (.ref k)) Q:=⟨_,by simp only[wA,a],q⟩
def Ow{α:Type}{o:Option α}{d:α}{Q:α->Prop}(h:o=some d)(q:Q d):Op o Q:=⟨d,h,q⟩
end
def aK{b:Bool}{p q:Prop}(a:b=true->p)(c:b=false->q):if b=true then p else q:=by
 cases b with
 |true=>exact a rfl
 |false=>exact c rfl
end DL
local macro_rules|`(tactic|symm)=>do
 let mut a:Array (Lean.TSyntax `Lean.Parser.Tactic.tacticSeq):= #[]
 for s in (["aI","Q5","u6","PM","bP","eV","Ma","cK","uh","d_","bX","Qz","aY","cH","az","aZ","tN","dA","dU","AH","bV","qH","xX","rZ","sO","qw","cn","EC","cD","Ct","vO","pV","Ea","NQ","nc","aV","Jy","GM","j2","KZ","gq","cx"]:List String) do a:=a.push (←`(tacticSeq|refine $(Lean.mkIdent (.str (.str .anonymous "DL") s)) ?_))
 `(tactic|repeat(first|(with_reducible first $[| $a]*)|((with_reducible refine DL.Q_ ?_); intro _)|((with_reducible refine DL.aw (d := ?_) ?_ ?_); rotate_left; rfl)|dsimp only [DL.a9, DL.aN, DL.a7, DL.bR, DL.bU, DL.eZ]))
local macro_rules|`(tactic|apply $e)=>`(tactic|(refine $e;symm))
namespace W28
open PySem PySem.Spec L2 DL
def rL(a b c:Int):O:=.lst [.int a,.int b,.int c]
def FD{S:aE}{k:Nat}{a b n m:Int}{Q:Res->aE->Prop}(e:S[k]?=some (rL a b n))(f:0<m)(s:m<1000000)
  (h:∀(d p q r:Int),0<=d->d<m->Q (.d (.int d)) (S.set k (rL p q r))):Fn aG [.ref k,.int m] S Q:=by
 have l:k<S.length:=(gQs.mp e).1
 have j:∀(o:O),(S.set k o).take S.length=S.set k o:=λo=>by rw[List.take_of_length_le];simp
 refine bZ ?_
 unfold pk
 symm
 refine bL e rfl ?_
 symm
 refine aK (λc=> ?_) (λc=> ?_)
 ·symm
  refine bL e rfl ?_
  symm
  refine wC f ?_
  symm
  refine bL e rfl ?_
  symm
  refine GE ⟨f,by omega⟩ ?_
  symm
  refine⟨_,_,_,_,rfl,rfl,e,rfl,?_⟩
  symm
  refine iL (yi (by rfl)) (j _) (λ_ z=>by cases z) rfl ?_
  exact h _ _ _ _ (Int.emod_nonneg _ (by omega)) (Int.emod_lt_of_pos _ f)
 ·symm
  refine⟨_,_,_,_,rfl,rfl,e,by decide,rfl,?_⟩
  symm
  refine⟨_,_,_,rfl,e,rfl,?_⟩
  have g:∀o:O,(S.set k o)[k]?=some o:=λo=>by rw[Qyq l]
  symm
  refine bL (g _) rfl ?_
  symm
  refine wF (.inr ⟨by decide,by decide⟩) ?_
  symm
  refine bL (g _) rfl ?_
  refine wF (.inl ⟨by decide,by decide⟩) ?_
  symm
  refine wC (by decide) ?_
  generalize i:(b*69069+9973*_+5)%2305843009213693921=mx
  have t:0<=mx:=by rw[←i];exact Int.emod_nonneg _ (by decide)
  have u:mx<2305843009213693921:=by rw[←i];exact Int.emod_lt_of_pos _ (by decide)
  symm
  refine wC (by decide) ?_
  symm
  refine bL (g _) rfl ?_
  refine wF (.inl ⟨by decide,by decide⟩) ?_
  symm
  refine wF (.inl ⟨by omega,by omega⟩) ?_
  symm
  refine wC (by decide) ?_
  symm
  refine⟨_,_,_,_,rfl,rfl,g _,rfl,?_⟩
  symm
  refine bL (by rw[List.set_set];exact g _) rfl ?_
  symm
  refine GE ⟨by decide,by decide⟩ ?_
  symm
  refine wC f ?_
  symm
  rw[List.set_set]
  refine iL (yi (by rfl)) (j _) (λ_ z=>by cases z) rfl ?_
  exact h _ _ _ _ (Int.emod_nonneg _ (by omega)) (Int.emod_lt_of_pos _ f)
structure Ex(k:Nat)(S S':aE):Prop where
 len:S.length<=S'.length
 keep:∀(j:Nat) (o:O),j≠k->S[j]?=some o->S'[j]?=some o
 pot:∃a b c,S'[k]?=some (rL a b c)
def Ex.refl{k:Nat}{S:aE}{a b c:Int}(h:S[k]?=some (rL a b c)):Ex k S S:=⟨Qmq _,λ_ _ _ h=>h,_,_,_,h⟩
def Ex.trans{k:Nat}{S a S2:aE}(x:Ex k S a)(y:Ex k a S2):Ex k S S2:=⟨QAq x.len y.len,λj o n h=>y.keep j o n (x.keep j o n h),y.pot⟩
def Ex.set{k:Nat}{S d:aE}{a b c:Int}(x:Ex k S d):Ex k S (d.set k (rL a b c)):=by
 obtain⟨_,_,_,h⟩:=x.pot
 refine⟨by simpa using x.len,λj o n h=> ?_,a,b,c,Qyq (gQs.mp h).1⟩
 rw[QKq (Ne.symm n)]
 exact x.keep j o n h
def Ex.app{k:Nat}{S d G:aE}(x:Ex k S d):Ex k S (d++G):=by
 obtain⟨a,b,c,h⟩:=x.pot
 refine⟨by rw[lQa];have:=x.len;omega,λj o n h=> ?_,a,b,c,?_⟩
 ·have:=x.keep j o n h
  rw[QHq (gQs.mp this).1]
  exact this
 ·rw[QHq (gQs.mp h).1]
  exact h
def Ex.put{k r:Nat}{S d:aE}{o:O}(x:Ex k S d)(f:S.length<=r)(i:k<S.length):Ex k S (d.set r o):=by
 obtain⟨a,b,c,h⟩:=x.pot
 refine⟨by simpa using x.len,λj e n h=> ?_,a,b,c,?_⟩
 ·have g:=(gQs.mp h).1
  rw[QKq (by omega)]
  exact x.keep j e n h
 ·rw[QKq (by omega)]
  exact h
def Ex.lt{k:Nat}{S d:aE}(x:Ex k S d):k<d.length:=by
 obtain⟨a,b,c,h⟩:=x.pot
 exact(gQs.mp h).1
def aO{S G:aE}{j:Nat}{o:O}(h:S[j]?=some o):(S++G)[j]?=some o:=by
 rw[QHq (gQs.mp h).1]
 exact h
def aM{S:aE}{o:O}:(S++ [o])[S.length]?=some o:=by simp
def fE{S:aE}{k j:Nat}{o a:O}(n:j≠k)(h:S[j]?=some o):(S.set k a)[j]?=some o:=by
 rw[QKq (Ne.symm n)]
 exact h
def cP{S:aE}{j:Nat}{o a:O}(h:S[j]?=some o):(S.set j a)[j]?=some a:=Qyq (gQs.mp h).1
def Ex.clean{k:Nat}{S f:aE}(x:Ex k S f)(l:k<S.length):qk S f/\∃a b c,f.take S.length=S.set k (rL a b c):=by
 obtain⟨a,b,c,h⟩:=x.pot
 have g:∀j,j<S.length->f[j]?=(S.set k (rL a b c))[j]? :=λj d=>by
  by_cases e:j=k
  ·subst e
   rw[h,Qyq d]
  ·rw[QKq (Ne.symm e),x.keep j _ e (gQe d),gQe d]
 refine⟨⟨x.len,λj o d e=> ?_⟩,a,b,c,?_⟩
 ·by_cases i:j=k
  ·subst i
   rw[h] at e
   cases e
   exact .inr rfl
  ·rw[x.keep j _ i (gQe d)] at e
   rw[gQe d]
   exact .inl e
 ·apply List.ext_getElem?
  intro j
  by_cases d:j<S.length
  ·rw[List.getElem?_take_of_lt d]
   exact g j d
  ·rw[List.getElem?_eq_none (by rw[Qxq];omega),List.getElem?_eq_none (by simp;omega)]
def mY{k:Nat}{S e:aE}{d:D}{Q:Res->aE->Prop}(x:Ex k S e)(h:k<S.length)(hd:∀k,d≠.ref k)(f:cu S.length d=true)(q:∀a b c,Q (.d d) (S.set k (rL a b c))):Op (settle S d e) λp=>Q p.1 p.2:=by
 obtain⟨g,a,b,c,i⟩:=x.clean h
 exact iL g i hd f (q a b c)
def KG{k:Nat}{S d:aE}{ds:List D}{Q:Res->aE->Prop}(x:Ex k S d)(g:k<S.length)(e:cg S.length ds=true)(q:∀a b c,Q (.l ds) (S.set k (rL a b c))):Op (eJ S ds d) λp=>Q p.1 p.2:=by
 obtain⟨f,a,b,c,h⟩:=x.clean g
 exact pM f h e (q a b c)
def bQ{S S0:aE}{k:Nat}{m:Int}{Q:Res->aE->Prop}(x:Ex k S0 S)(j:0<m)(i:m<1000000)
  (h:∀(d:Nat) (e:aE),(d:Int)<m->Ex k S0 e->Ex k S e->e.length=S.length->Q (.d (.int d)) e):Fn aG [.ref k,.int m] S Q:=by
 obtain⟨a,b,c,f⟩:=x.pot
 refine FD f j i λd l o q p g=> ?_
 obtain⟨n,rfl⟩:∃n:Nat,d=n:=⟨d.toNat,by omega⟩
 exact h n _ g x.set (Ex.refl f).set (by simp)
def aW{α:Type}{xs:List α}{j:Nat}{x:α}(h:xs[j]?=some x):kj xs (j:Int)=some x:=by
 have a:=(gQs.mp h).1
 unfold kj CD
 rw[Qhq (by omega),Qhq (by omega)]
 simpa using h
def fu{S S0:aE}{k i:Nat}{xs:List D}{Q:Res->aE->Prop}(x:Ex k S0 S)(hi:i≠k)(l:S[i]?=some (.lst xs))(t:0<xs.length)(r:xs.length<1000)(o:∀d∈xs,(∀k,d≠.ref k)/\cu 0 d=true)
  (g:∀d∈xs,cu S.length d=true)
  (h:∀(d:D) (e:aE),d∈xs->Ex k S0 e->Ex k S e->e.length=S.length->Q (.d d) e):Fn bM [.ref k,.ref i] S Q:=by
 have y:Ex k S S:=by obtain⟨a,b,c,q⟩:=x.pot;exact Ex.refl q
 refine bZ ?_
 unfold pq
 symm
 apply a_ l ?_
 refine bQ y (by show(0:Int)<xs.length;omega) (by show(xs.length:Int)<1000000;omega) λd e p m s n=> ?_
 dsimp only[a9,aN,a7,bR,bU,eZ]
 have f:d<xs.length:=by have:(d:Int)<(xs.length:Int):=p;omega
 refine bL (m.keep _ _ hi l) (aW (gQe f)) ?_
 have j:=List.getElem_mem f
 refine mY m x.lt (o _ j).1 (g _ j) λa b c=> ?_
 exact h _ _ j x.set y.set (by simp)
end W28
namespace DL
open PySem PySem.Spec L2
mutual
theorem dY{m:Nat}:∀{d:D},cu 0 d=true->cu m d=true
 |.non,_=>rfl
 |.bl _,_=>rfl
 |.int _,_=>rfl
 |.str _,_=>rfl
 |.tup ds,h=>by simp only[cu] at h⊢;exact jS h
 |.ref k,h=>by simp[cu] at h
 |.fn _,_=>rfl
theorem jS{m:Nat}:∀{ds:List D},cg 0 ds=true->cg m ds=true
 | [],_=>rfl
 | d::ds,h=>by
   simp only[cg,QCq] at h⊢
   exact⟨dY h.1,jS h.2⟩
end
theorem z9{m:Nat}:∀{ds:List D},(∀d∈ds,cu m d=true)->cg m ds=true
 | [],_=>rfl
 | d::ds,h=>by
   simp only[cg,QCq]
   exact⟨h d (QBq ..),z9 λe a=>h e (Qpq _ a)⟩
def bf{α:Type}{m:Nat}{f:α->D}{l:List α}(h:∀a∈l,cu m (f a)=true):cg m (l.map f)=true:=z9 λd c=>by
 obtain⟨a,b,rfl⟩:=Qkq.mp c
 exact h a b
theorem yp:∀ss:List Str,xY (ss.map D.str)=some ss
 | []=>rfl
 |s::ss=>by simp only[QDq,xY];rw[yp ss];rfl
def ME{b:cB}{S:aE}{f:fw}{Q:List D->aE->Prop}(h:E f b S λp a=>p.2.isL=true/\∃ss:List Str,p.1=ss.map D.str/\ss.length<64/\Q ((rS ss).map D.str) a):E (Fc f) b S Q:=by
 obtain⟨p,a,e,l,ss,c,d,q⟩:=h
 exact⟨_,a,by unfold Fc;rw[e];simp only[Qbq];rw[Qhq l,c,yp];simp only[Qbq];rw[Qhq d],q⟩
end DL
namespace W28
open PySem PySem.Spec L2 DL
def six:List Str:= ["a","b","c","d","e","zz"]
theorem sf{α a:Type}(g:α->a):∀(l:List α) (k:Nat),(l.map g).eraseIdx k=(l.eraseIdx k).map g
 | [],_=>rfl
 |_::_,0=>rfl
 |x::l,k+1=>congrArg (g x::·) (sf g l k)
def BA{α:Type}{b a c:List α}{j:Nat}(d:j<a.length)(h:(b++a).Perm c):((b++ [a[j]])++a.eraseIdx j).Perm c:=by
 refine List.Perm.trans ?_ h
 rw[Qvq]
 refine List.Perm.append_left b ?_
 show(a[j]::a.eraseIdx j).Perm a
 rw[List.eraseIdx_eq_take_drop_succ]
 have e:a=a.take j++a[j]::a.drop (j+1):=by rw[←QWq d,List.take_append_drop]
 refine List.Perm.trans ?_ (List.Perm.of_eq e.symm)
 exact List.perm_middle.symm
def HW{n j:Nat}(h:j<n)(a:n<1000):seqIndex? (j:Int) n=some j:=(zS (by unfold CD;rw[Qhq (by omega),Qhq (by omega)];simp)).1
def i0{S S0:aE}{k:Nat}{e:Str}{g:Int}{Q:Res->aE->Prop}(x:Ex k S0 S)(hm:0<=g)(R:g<=6)(P:e.length<=1)
  (h:∀(ws:List Str) (s:aE),(∃l,(ws++l).Perm (six.map (e++·)))->(ws.length:Int)=g->Ex k S0 s->Ex k S s->s.length=S.length->Q (.l (ws.map D.str)) s):Fn c8 [.ref k,.str e,.int g] S Q:=by
 have y:Ex k S S:=by obtain⟨a,b,c,Z⟩:=x.pot;exact Ex.refl Z
 refine bZ ?_
 unfold mP
 symm
 apply jD ?_
 refine⟨by decide,⟨λn f s i=>f= [f.getD 0 none,some (.str e)]/\s=S/\i=((six.take n).map (e++·)).map D.str,⟨rfl,rfl,rfl⟩,λn f s i h=>trivial,λn d f s i G ⟨t,u,q⟩=> ?_,λf s i ⟨_,u,q⟩=> ?_⟩⟩
 ·have u:=u.symm
  subst u q
  obtain⟨o,rfl⟩:∃o,f= [o,some (.str e)]:=⟨_,t⟩
  have K:∃z,six[n]?=some z/\d=.str z:=by
   rcases n with _|_|_|_|_|_|n <;>first|(cases G;exact⟨_,rfl,rfl⟩)|(simp at G)
  obtain⟨z,J,rfl⟩:=K
  have Y:z.length<=2:=by
   have:=mQg J
   simp only[six,Qsq,QXq,or_false] at this
   rcases this with rfl|rfl|rfl|rfl|rfl|rfl <;>decide
  symm
  rw[Qhq rfl]
  symm
  refine Lu (QAq (show e.length+z.length<=3 by omega) (by decide)) ?_
  have A:n<6:=(gQs.mp J).1
  refine⟨?_,rfl,rfl,?_⟩
  ·simp only[lQm,Qxq]
   exact Nat.lt_of_le_of_lt (Nat.min_le_left _ _) (Nat.lt_trans A (by decide))
  ·rw[QYq,J]
   simp
 ·have u:=u.symm
  subst u q
  symm
  apply ME ?_
  apply jD ?_
  refine⟨g,rfl,⟨by omega,by omega⟩,λn f C i=>∃(r m:List Str),f= [f.getD 0 none,some (.ref k),some (.ref S.length)]/\Ex k S C/\C.length=S.length+1/\C[S.length]?=some (.lst (m.map D.str))/\i=r.map D.str/\r.length=n/\(r++m).Perm (six.map (e++·)),?_,λ_ _ _ _ _=>trivial,?_,?_⟩
  ·refine⟨[],six.map (e++·),rfl,y.app,by simp,?_,rfl,rfl,List.Perm.refl _⟩
   exact aM
  ·rintro n d f C i G ⟨r,m,t,I,w,F,rfl,A,hp⟩
   obtain⟨o,rfl⟩:∃o,f= [o,some (.ref k),some (.ref S.length)]:=⟨_,t⟩
   have p:=hp.length_eq
   simp only[lQa,lQm] at p
   have U:six.length=6:=rfl
   have a0:n<6:=by
    have:=(gQs.mp G).1
    simp only[jO,lQm,QVq] at this
    omega
   have X:0<m.length:=by omega
   symm
   rw[Qhq rfl]
   apply fK ?_
   apply⟨_,_,rfl,F,?_⟩
   apply a_ F ?_
   refine bQ I (by simp only[lQm];omega) (by simp only[lQm];omega) λj S3 N W L M=> ?_
   dsimp only[a9,aN,a7,bR,bU,eZ]
   symm
   have v:j<m.length:=by simpa using N
   have H:S.length≠k:=by have:=x.lt;omega
   have B:=L.keep _ _ H F
   refine⟨_,B,?_⟩
   refine Ow (d:=((m.map D.str).eraseIdx j,D.str m[j])) ?_ ?_
   ·simp only[gN]
    rw[Qhq ⟨by omega,by omega⟩,lQm,HW v (by omega)]
    simp[gQe v]
   ·refine⟨?_,r++ [m[j]],m.eraseIdx j,rfl,W.put (Qmq _) x.lt,by simp[M,w],?_,by simp,by simp[A],BA v hp⟩
    ·simp only[lQm]
     exact Nat.lt_trans (show r.length<6 by omega) (by decide)
    ·rw[cP B,sf]
  ·rintro f C i ⟨r,m,t,I,w,F,rfl,A,hp⟩
   have p:=hp.length_eq
   simp only[lQa,lQm] at p
   have U:six.length=6:=rfl
   refine⟨rfl,r,rfl,by omega,?_⟩
   refine KG I x.lt (bf λ_ _=>rfl) λa b c=> ?_
   refine h _ _ ⟨m,(QJq m (jx r)).trans hp⟩ ?_ x.set y.set (by simp)
   rw[(jx r).length_eq,A]
   simp only[jO,lQm,QVq]
   omega
end W28
namespace DL
open PySem PySem.Spec L2
def yj{a:cB}{S:aE}{f g:fw}{Q:List D->aE->Prop}(h:E f a S λp b=>E g a b λr S2=>(p.2.isM=true/\r.2.isM=true/\p.2.stays S2 p.1/\p.1.length+r.1.length<=sizeLine)/\Q (p.1++r.1) S2):E (zO f g) a S Q:=by
 obtain⟨p,b,d,r,S2,c,l,q⟩:=h
 exact⟨_,S2,by unfold zO;rw[d];simp only[Qbq];rw[c];simp only[Qbq];rw[Qhq l],q⟩
def dR{S:aE}{i j:Int}{Q:D->Prop}(q:Q (.bl (decide (i=j)))):Op (du false S (.int i) (.int j)) Q:=⟨_,by simp[du,xc,C6],q⟩
def gE{S:aE}{i j:Str}{Q:D->Prop}(q:Q (.bl (decide (i=j)))):Op (du false S (.str i) (.str j)) Q:=⟨_,by simp[du,xc,C6],q⟩
def gc{a:cB}{S:aE}{n:Nat}{g:pS}{ds:List D}{Q:cB->aE->Prop}(d:ds.length=n)(h:NK g ds a S Q):Tg (lM (nG n g)) (.tup ds) a S Q:=by
 obtain⟨b,c,e,q⟩:=h
 exact⟨b,c,by show nG n g ds a S=_;unfold nG;rw[Qhq d];exact e,q⟩
def bA{a:cB}{S:aE}{Q:cB->aE->Prop}(q:Q a S):NK dG [] a S Q:=⟨_,_,rfl,q⟩
def aA{c:cB}{S:aE}{f:nI}{g:pS}{d:D}{ds:List D}{Q:cB->aE->Prop}(h:Tg f d c S λa e=>NK g ds a e Q):NK (aJ f g) (d::ds) c S Q:=by
 obtain⟨a,e,k,b,j,i,q⟩:=h
 exact⟨b,j,by show(f d c S).bind _=_;rw[k];exact i,q⟩
end DL
namespace W28
open PySem PySem.Spec L2 DL
def ops:List Str:= ["plus","minus","less","same","both"]
inductive Tr where
 |num (n:Nat)|word (x:Str)|waits (b:Str)|no (t:Tr)|two (o:Str) (a b:Tr)
def Tr.d:Tr->D
 |.num n=>.int n
 |.word x=>.str x
 |.waits b=>.tup [.str "waits",.str b]
 |.no t=>.tup [.str "not",t.d]
 |.two o a b=>.tup [.str o,a.d,b.d]
def Tr.Ok(ws bs:List Str):Tr->Prop
 |.num n=>n<=9
 |.word x=>x∈ws
 |.waits b=>b∈bs
 |.no t=>t.Ok ws bs
 |.two o a b=>o∈ops/\a.Ok ws bs/\b.Ok ws bs
def Tr.dep:Tr->Nat
 |.num _=>1
 |.word _=>1
 |.waits _=>1
 |.no t=>t.dep+1
 |.two _ a b=>max a.dep b.dep+1
theorem Tr.low:∀t:Tr,cu 0 t.d=true
 |.num _=>rfl
 |.word _=>rfl
 |.waits _=>rfl
 |.no t=>by simp only[Tr.d,cu,cg];rw[t.low];rfl
 |.two _ a b=>by simp only[Tr.d,cu,cg];rw[a.low,b.low];rfl
def Tr.noref(t:Tr):∀k,t.d≠.ref k:=by
 intro k
 cases t <;>simp[Tr.d]
def eG{ws:List Str}:∀d∈ws.map D.str,(∀k,d≠.ref k)/\cu 0 d=true:=λd b=>by
 obtain⟨a,_,rfl⟩:=Qkq.mp b
 exact⟨λk z=>(nomatch z),rfl⟩
def gB{ws:List Str}{m:Nat}:∀d∈ws.map D.str,cu m d=true:=λd b=>by
 obtain⟨a,_,rfl⟩:=Qkq.mp b
 rfl
def Lb{n:Nat}(h:(n:Int)<5):∃o,o∈ops/\kj ([.str "plus",.str "minus",.str "less",.str "same",.str "both"]:List D) (n:Int)=some (.str o):=by
 rcases n with _|_|_|_|_|n
 ·exact⟨"plus",by simp[ops],rfl⟩
 ·exact⟨"minus",by simp[ops],rfl⟩
 ·exact⟨"less",by simp[ops],rfl⟩
 ·exact⟨"same",by simp[ops],rfl⟩
 ·exact⟨"both",by simp[ops],rfl⟩
 ·omega
theorem jA:∀(n:Nat) {S S0:aE} {k i j:Nat} {ws bs:List Str} {deep:Nat} {Q:Res->aE->Prop} (x:Ex k S0 S) (hi:i≠k) (P:j≠k) (Z:S[i]?=some (.lst (ws.map D.str))) (hb:S[j]?=some (.lst (bs.map D.str))) (lw:ws.length<1000) (lb:bs.length<1000) (hn:deep<n)
  (h:∀(t:Tr) (f:aE),t.Ok ws bs->t.dep<=deep+1->Ex k S0 f->Ex k S f->f.length=S.length->Q (.d t.d) f),Fn (bC n) [.ref k,.ref i,.ref j,.int deep] S Q
 |0,_,_,_,_,_,_,_,_,_,_,_,_,_,_,_,_,hn,_=>absurd hn (Nat.not_lt_zero _)
 | n+1,S,S0,k,i,j,ws,bs,deep,Q,x,hi,P,Z,hb,lw,lb,hn,h=>by
   have y:Ex k S S:=by obtain⟨a,b,c,hh⟩:=x.pot;exact Ex.refl hh
   have w:∀(t:Tr) (f:aE),t.Ok ws bs->t.dep<=deep+1->Ex k S f->Op (settle S t.d f) λp=>Q p.1 p.2:=λt f H h2 e=>mY e x.lt t.noref (dY t.low) λa b c=>h _ _ H h2 x.set y.set (by simp)
   refine bZ ?_
   unfold sI
   symm
   apply bQ y (by decide) (by decide) λu S1 a1 X _ l1=> ?_
   have a3:=X.keep _ _ hi Z
   have a2:=X.keep _ _ P hb
   have F:∀l,Ex k S l->T (aD (cZ (ij (aH (cY (aR (ar 1)))) (aH (aQ Jb (ax aG (aq (ar 0) (aq (cF (.int 3)) av))) (cF (.int 0))))) (cy (ax bM (aq (ar 0) (aq (ar 1) av)))) fG)
     (cy (ax aG (aq (ar 0) (aq (aQ fJ (bO (bB (aq (cF (.int 3)) (aq (cF (.int 10)) av)))) (uq intOfD (aq (aQ (du false) (ax aG (aq (ar 0) (aq (cF (.int 5)) av))) (cF (.int 0))) av))) av)))))
     [some (.ref k),some (.ref i),some (.ref j),some (.int deep),some (.int u),none] l λo=>match o with|.rt d f=>Op (settle S d f) λp=>Q p.1 p.2|_=>False:=by
     intro l q
     have Y:=q.keep _ _ hi Z
     have s:∀U,Ex k S U->T (cy (ax aG (aq (ar 0) (aq (aQ fJ (bO (bB (aq (cF (.int 3)) (aq (cF (.int 10)) av)))) (uq intOfD (aq (aQ (du false) (ax aG (aq (ar 0) (aq (cF (.int 5)) av))) (cF (.int 0))) av))) av))))
       [some (.ref k),some (.ref i),some (.ref j),some (.int deep),some (.int u),none] U λo=>match o with|.rt d f=>Op (settle S d f) λp=>Q p.1 p.2|_=>False:=by
       intro U N
       symm
       apply⟨by decide,?_⟩
       apply bQ (N.app (G:= [O.lst [D.int 3,D.int 10]])) (by decide) (by decide) λd S4 hd I J l4=> ?_
       apply dR ?_
       have a0:S4[U.length]?=some (.lst [.int 3,.int 10]):=J.keep _ _ (by have:=N.lt;omega) aM
       have hm:∃m:Int,(m=3\/m=10)/\Op (intOfD [D.bl (decide ((d:Int)=0))]) (λz=>∃r,z=.int r/\kj ([.int 3,.int 10]:List D) r=some (.int m)):=by
         by_cases c:(d:Int)=0
         · exact⟨10,.inr rfl,_,rfl,1,by rw[Qeq c];rfl,rfl⟩
         · exact⟨3,.inl rfl,_,rfl,0,by rw[Qdq c];rfl,rfl⟩
       obtain⟨m,hm,z,C,r,rfl,e6⟩:=hm
       refine⟨_,C,?_⟩
       apply bL a0 e6 ?_
       refine bQ I (by omega) (by omega) λv S5 hv C _ l5=> ?_
       dsimp only[a9,aN,a7,bR,bU,eZ]
       exact w (.num v) _ (by show v<=9;omega) (by show 1<=deep+1;omega) C
     symm
     refine a_ Y ?_
     refine⟨⟨rfl,Y⟩,?_⟩
     dsimp only[a9,aN,a7,bR,bU,eZ]
     refine aK (λc=> ?_) (λc=> ?_)
     · symm
       apply bQ q (by decide) (by decide) λd U hd N _ l3=> ?_
       refine aK (λc2=> ?_) (λc2=> ?_)
       · symm
         have L:0<(ws.map D.str).length:=by
           cases ws with
           |nil=>simp at c
           |cons a b=>simp
         refine fu N hi (N.keep _ _ hi Z) L (by simpa using lw) eG gB λv S4 hv I _ l4=> ?_
         obtain⟨z,hz,rfl⟩:=Qkq.mp hv
         exact w (.word z) _ hz (by show 1<=deep+1;omega) I
       · exact bX (s U N)
     · rw[Quq (by decide)]
       exact bX (s l q)
   have go:∀{R:Res->aE->Prop} {l:aE},Ex k S l->1<=deep->(∀(t:Tr) (f:aE),t.Ok ws bs->t.dep<=deep->Ex k S f->R (.d t.d) f)->Fn (bC n) [.ref k,.ref i,.ref j,.int ((deep:Int)-1)] l R:=by
     intro R l q hd hR
     have e:((deep:Int)-1)=((deep-1:Nat):Int):=by omega
     rw[e]
     exact jA n q hi P (q.keep _ _ hi Z) (q.keep _ _ P hb) lw lb (by omega) λt f H h2 h3 _ _=>hR t f H (by omega) h3
   have W:∀l,Ex k S l->1<=deep->T (aD (cZ (ij (aH (aQ (du false) (ar 4) (cF (.int 3)))) (aH (cY (aR (ar 2))))) (cy (bg (aq (cF (.str "waits")) (aq (ax bM (aq (ar 0) (aq (ar 2) av))) av)))) fG)
     (aD (cZ (aH (aQ (du false) (ar 4) (cF (.int 4)))) (cy (bg (aq (cF (.str "not")) (aq (ax (bC n) (aq (ar 0) (aq (ar 1) (aq (ar 2) (aq (aQ jB (ar 3) (cF (.int 1))) av))))) av)))) fG)
     (aD (aS 5 (aQ fJ (bO (bB (aq (cF (.str "plus")) (aq (cF (.str "minus")) (aq (cF (.str "less")) (aq (cF (.str "same")) (aq (cF (.str "both")) av))))))) (ax aG (aq (ar 0) (aq (cF (.int 5)) av)))))
     (cy (bg (aq (ar 5) (aq (ax (bC n) (aq (ar 0) (aq (ar 1) (aq (ar 2) (aq (aQ jB (ar 3) (cF (.int 1))) av))))) (aq (ax (bC n) (aq (ar 0) (aq (ar 1) (aq (ar 2) (aq (aQ jB (ar 3) (cF (.int 1))) av))))) av))))))))
     [some (.ref k),some (.ref i),some (.ref j),some (.int deep),some (.int u),none] l λo=>match o with|.rt d f=>Op (settle S d f) λp=>Q p.1 p.2|_=>False:=by
     intro l q A
     have K:=q.keep _ _ P hb
     have M:T (aD (aS 5 (aQ fJ (bO (bB (aq (cF (.str "plus")) (aq (cF (.str "minus")) (aq (cF (.str "less")) (aq (cF (.str "same")) (aq (cF (.str "both")) av))))))) (ax aG (aq (ar 0) (aq (cF (.int 5)) av)))))
       (cy (bg (aq (ar 5) (aq (ax (bC n) (aq (ar 0) (aq (ar 1) (aq (ar 2) (aq (aQ jB (ar 3) (cF (.int 1))) av))))) (aq (ax (bC n) (aq (ar 0) (aq (ar 1) (aq (ar 2) (aq (aQ jB (ar 3) (cF (.int 1))) av))))) av))))))
       [some (.ref k),some (.ref i),some (.ref j),some (.int deep),some (.int u),none] l λo=>match o with|.rt d f=>Op (settle S d f) λp=>Q p.1 p.2|_=>False:=by
       symm
       apply⟨by decide,?_⟩
       refine bQ (q.app (G:= [O.lst [.str "plus",.str "minus",.str "less",.str "same",.str "both"]])) (by decide) (by decide) λd S4 hd I J l4=> ?_
       dsimp only[a9,aN,a7,bR,bU,eZ]
       obtain⟨o,B,C⟩:=Lb hd
       refine bL (J.keep _ _ (by have:=q.lt;omega) aM) C ?_
       symm
       apply go I A λt1 S5 H h2 C=> ?_
       apply go C A λt2 S6 h3 h4 e6=> ?_
       refine⟨by show 3<=_;decide,?_⟩
       exact w (.two o t1 t2) _ ⟨B,H,h3⟩ (by simp only[Tr.dep];omega) e6
     have g:T (aD (cZ (aH (aQ (du false) (ar 4) (cF (.int 4)))) (cy (bg (aq (cF (.str "not")) (aq (ax (bC n) (aq (ar 0) (aq (ar 1) (aq (ar 2) (aq (aQ jB (ar 3) (cF (.int 1))) av))))) av)))) fG)
       (aD (aS 5 (aQ fJ (bO (bB (aq (cF (.str "plus")) (aq (cF (.str "minus")) (aq (cF (.str "less")) (aq (cF (.str "same")) (aq (cF (.str "both")) av))))))) (ax aG (aq (ar 0) (aq (cF (.int 5)) av)))))
       (cy (bg (aq (ar 5) (aq (ax (bC n) (aq (ar 0) (aq (ar 1) (aq (ar 2) (aq (aQ jB (ar 3) (cF (.int 1))) av))))) (aq (ax (bC n) (aq (ar 0) (aq (ar 1) (aq (ar 2) (aq (aQ jB (ar 3) (cF (.int 1))) av))))) av)))))))
       [some (.ref k),some (.ref i),some (.ref j),some (.int deep),some (.int u),none] l λo=>match o with|.rt d f=>Op (settle S d f) λp=>Q p.1 p.2|_=>False:=by
       symm
       refine dR ?_
       dsimp only[a9,aN,a7,bR,bU,eZ]
       refine aK (λc=> ?_) (λc=> ?_)
       · symm
         apply go q A λt S5 H h2 C=> ?_
         refine⟨by show 2<=_;decide,?_⟩
         exact w (.no t) _ H (by simp only[Tr.dep];omega) C
       · exact bX M
     symm
     refine dR ?_
     dsimp only[a9,aN,a7,bR,bU,eZ]
     refine aK (λc=> ?_) (λc=> ?_)
     · symm
       refine a_ K ?_
       refine⟨⟨rfl,K⟩,?_⟩
       dsimp only[a9,aN,a7,bR,bU,eZ]
       refine aK (λc=> ?_) (λc=> ?_)
       · symm
         have L:0<(bs.map D.str).length:=by
           cases bs with
           |nil=>simp at c
           |cons a b=>simp
         refine fu q P K L (by simpa using lb) eG gB λv S4 hv I _ l4=> ?_
         obtain⟨z,hz,rfl⟩:=Qkq.mp hv
         symm
         refine⟨by show 2<=_;decide,?_⟩
         exact w (.waits z) _ hz (by show 1<=deep+1;omega) I
       · exact bX g
     · rw[Quq (by decide)]
       exact bX g
   refine aK (λc=> ?_) (λc=> ?_)
   · rw[Qhq rfl]
     exact(F S1 X).mono λo B=>by
       cases o with
       |rt d f=>exact B
       |_=>exact B.elim
   · symm
     refine aK (λc2=> ?_) (λc2=> ?_)
     · exact(F S1 X).mono λo B=>by
         cases o with
         |rt d f=>exact B
         |_=>exact B.elim
     · have A:1<=deep:=by
         have:=QaQ c
         omega
       refine bX ?_
       exact(W S1 X A).mono λo B=>by
         cases o with
         |rt d f=>exact B
         |_=>exact B.elim
inductive Rw where
 |put (x:Str) (t:Tr)|unl (t:Tr) (n:Nat)|go (n:Nat)|do_ (g:Option Str) (r d:Str) (t:Tr)|wait (b:Str) (t:Tr)|call (b:Str)|all (b:Str)|tell (t:Tr)
 |take (p:Str)|give (p:Str)|pass (p q:Str)|say (t:Tr)
def Ho:Option Str->D
 |none=>.non
 |some x=>.str x
def Rw.d:Rw->D
 |.put x t=>.tup [.str "put",.str x,t.d]
 |.unl t n=>.tup [.str "unless",t.d,.int n]
 |.go n=>.tup [.str "go",.int n]
 |.do_ g r d t=>.tup [.str "do",Ho g,.str r,.str d,t.d]
 |.wait b t=>.tup [.str "wait",.str b,t.d]
 |.call b=>.tup [.str "call",.str b]
 |.all b=>.tup [.str "all",.str b]
 |.tell t=>.tup [.str "tell",t.d]
 |.take p=>.tup [.str "take",.str p]
 |.give p=>.tup [.str "give",.str p]
 |.pass p q=>.tup [.str "pass",.str p,.str q]
 |.say t=>.tup [.str "say",t.d]
structure Sc where
 own:Bool
 ws:List Str
 ps:List Str
 bs:List Str
 gs:List (Str×Str)
 ts:List Str
def D8(sc:Sc)(t:Tr):Prop:=t.Ok sc.ws sc.bs/\t.dep<=4
def Rw.Ok(sc:Sc)(n:Nat):Rw->Prop
 |.put x t=>x∈sc.ps/\D8 sc t
 |.unl t m=>D8 sc t/\m<=n
 |.go m=>m<=n
 |.do_ g r d t=>(∀x,g=some x->x∈sc.ps)/\(r,d)∈sc.gs/\D8 sc t
 |.wait b t=>sc.own=false/\b∈sc.bs/\D8 sc t
 |.call b=>sc.own=false/\b∈sc.bs
 |.all b=>sc.own=false/\b∈sc.bs
 |.tell t=>sc.own=false/\D8 sc t
 |.take p=>sc.own=true/\p∈sc.ts
 |.give p=>sc.own=true/\p∈sc.ts
 |.pass p q=>sc.own=true/\p∈sc.ts/\q∈sc.ts
 |.say t=>sc.own=true/\D8 sc t
def Rw.Ok.mono{sc:Sc}{n m:Nat}{r:Rw}(h:r.Ok sc n)(l:n<=m):r.Ok sc m:=by
 cases r with
 |unl t k=>exact⟨h.1,QAq h.2 l⟩
 |go k=>exact QAq h l
 |_=>exact h
theorem Rw.low(r:Rw):cu 0 r.d=true:=by
 cases r with
 |do_ g r d t=>cases g <;>simp only[Rw.d,cu,cg,Ho,t.low,Bool.and_true,Bool.true_and]
 |_=>simp only[Rw.d,cu,cg,Tr.low,Bool.and_true,Bool.true_and]
def v9(sc:Sc)(rs:List Rw):Prop:=∀r∈rs,r.Ok sc rs.length
def Ib{S S0:aE}{k i j:Nat}{f:Nat}{sc:Sc}{Q:Res->aE->Prop}(x:Ex k S0 S)(hi:i≠k)(q:j≠k)(U:S[i]?=some (.lst (sc.ws.map D.str)))(F:S[j]?=some (.lst (sc.bs.map D.str)))(M:sc.ws.length<1000)(J:sc.bs.length<1000)(b0:0<sc.bs.length)(hg:(("given":Str))∈sc.ws)(R:sc.own=false)
  (h:∀(rs:List Rw) (m:aE),(∀r∈rs,r.Ok sc (f+rs.length))->1<=rs.length->rs.length<=3->Ex k S0 m->Ex k S m->m.length=S.length->Q (.l (rs.map Rw.d)) m):Fn jv [.ref k,.ref i,.ref j,.int f] S Q:=by
 have y:Ex k S S:=by obtain⟨a,b,c,hh⟩:=x.pot;exact Ex.refl hh
 have s:∀(rs:List Rw) (m:aE),(∀r∈rs,r.Ok sc (f+rs.length))->1<=rs.length->rs.length<=3->Ex k S m->Op (eJ S (rs.map Rw.d) m) λp=>Q p.1 p.2:=λrs m B Y H e=>KG e x.lt (bf λr _=>dY r.low) λa b c=>h _ _ B Y H x.set y.set (by simp)
 refine bZ ?_
 unfold lX
 symm
 apply jA 4 (deep:=1) y hi q U F M J (by decide) λt S1 B Y X _ l1=> ?_
 refine⟨by show 3<=_;decide,?_⟩
 symm
 refine bQ (X.app (G:= [O.lst [.int 0,.str "given",t.d]])) (by decide) (by decide) λd S2 hd P L l2=> ?_
 dsimp only[a9,aN,a7,bR,bU,eZ]
 have ht:∃o:Tr,D8 sc o/\kj ([.int 0,.str "given",t.d]:List D) (d:Int)=some o.d:=by
  rcases d with _|_|_|d
  ·exact⟨.num 0,⟨by show 0<=9;omega,by show 1<=4;omega⟩,rfl⟩
  ·exact⟨.word "given",⟨hg,by show 1<=4;omega⟩,rfl⟩
  ·exact⟨t,⟨B,by omega⟩,rfl⟩
  ·omega
 obtain⟨o,u,ha⟩:=ht
 refine bL (L.keep _ _ (by have:=X.lt;omega) aM) ha ?_
 symm
 refine fu P q (P.keep _ _ q F) (by simpa using b0) (by simpa using J) eG gB λv S3 hv e3 _ l3=> ?_
 obtain⟨z,W,rfl⟩:=Qkq.mp hv
 symm
 refine⟨by show 3<=_;decide,?_⟩
 symm
 apply bQ e3 (by decide) (by decide) λn S4 N A _ l4=> ?_
 refine dR ?_
 dsimp only[a9,aN,a7,bR,bU,eZ]
 refine aK (λc=> ?_) (λc=> ?_)
 ·symm
  refine⟨by show 1<=_;decide,?_⟩
  refine s [.wait z o] _ (λr w=> ?_) (by simp) (by simp) A
  rw[Qfq.mp w]
  exact⟨R,W,u⟩
 ·symm
  apply jA 4 (deep:=2) A hi q (A.keep _ _ hi U) (A.keep _ _ q F) M J (by decide) λC S5 Z h4 e5 _ l5=> ?_
  refine⟨by show 2<=_;decide,?_⟩
  symm
  refine⟨by show 3<=_;decide,?_⟩
  symm
  refine⟨by show 2<=_;decide,?_⟩
  symm
  have I:∃g:Nat,(g=f\/g=f+3)/\kj ([.int f,.int ((f:Int)+3)]:List D) ((n:Int)-1)=some (.int (g:Nat)):=by
   have:=QaQ c
   rcases n with _|_|_|n
   ·exact absurd rfl this
   ·exact⟨f,.inl rfl,rfl⟩
   ·exact⟨f+3,.inr rfl,rfl⟩
   ·omega
  obtain⟨g,a0,K⟩:=I
  apply bL aM K ?_
  refine⟨by show 2<=_;decide,?_⟩
  symm
  refine⟨by show 3<=_;decide,?_⟩
  refine s [.unl (.no C) (f+3),.wait z o,.go g] _ (λr w=> ?_) (by simp) (by simp) e5.app
  simp only[Qsq,QXq,or_false] at w
  have hl:([.unl (.no C) (f+3),.wait z o,.go g]:List Rw).length=3:=rfl
  rcases w with rfl|rfl|rfl
  ·exact⟨⟨Z,by show C.dep+1<=4;omega⟩,by rw[hl];exact Qmq _⟩
  ·exact⟨R,W,u⟩
  ·show g<=f+3
   omega
def dC(g:Str×Str):D:=.tup [.str g.1,.str g.2]
def Cr{b:List (Str×Str)}:∀d∈b.map dC,(∀k,d≠.ref k)/\cu 0 d=true:=λd c=>by
 obtain⟨a,_,rfl⟩:=Qkq.mp c
 exact⟨λk z=>(nomatch z),rfl⟩
def Gi{b:List (Str×Str)}{m:Nat}:∀d∈b.map dC,cu m d=true:=λd c=>by
 obtain⟨a,_,rfl⟩:=Qkq.mp c
 rfl
def K2{S S0:aE}{k g t i:Nat}{sc:Sc}{Q:Res->aE->Prop}{n:Nat}(x:Ex k S0 S)(Y:g≠k)(ht:t≠k)(hi:i≠k)(K:S[g]?=some (.lst (sc.gs.map dC)))(X:S[t]?=some (.lst (sc.ps.map D.str)))(N:S[i]?=some (.lst (sc.ws.map D.str)))
  (W:0<sc.gs.length) (Z:sc.gs.length<1000) (lt:sc.ps.length<900) (L:sc.ws.length<1000)
  (h:∀(r:Rw) (q:aE),r.Ok sc n->Ex k S0 q->Ex k S q->q.length=S.length->Q (.d r.d) q):Fn m6 [.ref k,.ref g,.ref t,.ref i] S Q:=by
 have y:Ex k S S:=by obtain⟨a,b,c,hh⟩:=x.pot;exact Ex.refl hh
 refine bZ ?_
 unfold vR
 symm
 refine fu y Y K (by simpa using W) (by simpa using Z) Cr Gi λv R hv F _ l1=> ?_
 obtain⟨⟨I,J⟩,P,rfl⟩:=Qkq.mp hv
 dsimp only[a9,aN,a7,bR,bU,eZ]
 apply gc rfl (aA (aV (aA (aV (bA ?_)))))
 apply yj ?_
 apply⟨by decide,?_⟩
 refine a_ (F.keep _ _ ht X) ?_
 refine⟨⟨rfl,rfl,trivial,by simp only[lQm,Qnq,QGq];exact QAq (show 0+1+sc.ps.length<=1000 by omega) (by decide)⟩,?_⟩
 symm
 have p:∀d∈([.non]++sc.ps.map D.str:List D),(∃o:Option Str,d=Ho o/\∀z,o=some z->z∈sc.ps):=λd e=>by
  rcases mQa.mp e with e|e
  ·rw[Qfq.mp e]
   exact⟨none,rfl,λz B=>by cases B⟩
  ·obtain⟨a,ha,rfl⟩:=Qkq.mp e
   exact⟨some a,rfl,λz B=>by cases B;exact ha⟩
 have f:∀(m:Nat),∀d∈([.non]++sc.ps.map D.str:List D),(∀k,d≠.ref k)/\cu m d=true:=λm d e=>by
  obtain⟨o,rfl,_⟩:=p d e
  cases o <;>exact⟨λk z=>(nomatch z),rfl⟩
 refine fu (i:=R.length) (F.app (G:= [O.lst ([.non]++sc.ps.map D.str)])) (by have:=F.lt;omega) aM (by simp) (by simp;omega) (f 0) (λd e=>(f _ d e).2) λv2 S2 H w _ l2=> ?_
 obtain⟨o,rfl,ho⟩:=p v2 H
 symm
 apply⟨by decide,?_⟩
 refine jA 4 (deep:=1) (bs:= []) (w.app (G:= [O.lst []])) hi (j:=S2.length) (by have:=w.lt;omega) (aO (w.keep _ _ hi N)) aM L (by decide) (by decide) λs S3 M h4 e3 _ l3=> ?_
 symm
 refine⟨by show 5<=_;decide,?_⟩
 have l:s.Ok sc.ws sc.bs:=by
  have u:∀t:Tr,t.Ok sc.ws []->t.Ok sc.ws sc.bs:=by
   intro t
   induction t with
   |num n=>exact id
   |word x=>exact id
   |waits b=>intro z;exact absurd z (by simp[Tr.Ok])
   |no t U=>exact U
   |two o a b A C=>exact λz=>⟨z.1,A z.2.1,C z.2.2⟩
  exact u s M
 refine mY (d:=(Rw.do_ o I J s).d) e3 x.lt (λk z=>(nomatch z)) (dY (Rw.low _)) λa b c=> ?_
 exact h (.do_ o I J s) _ ⟨ho,P,l,by omega⟩ x.set y.set (by simp)
end W28
namespace DL
open PySem PySem.Spec L2
def IQ{b:cB}{S:aE}{f:bH}{g:fw}{Q:D->aE->Prop}(h:E f b S λx c=>∃k a,x=.ref k/\c[k]?=some (.lst a)/\E g b c λp S2=>∃ds,S2[k]?=some (.lst ds)/\(p.2.isM=true/\ds.length+p.1.length<=sizeLine)/\Q .non (S2.set k (.lst (ds++p.1)))):E (Aj f g) b S Q:=by
 obtain⟨x,c,d,k,a,rfl,h1,p,S2,e2,ds,h2,h3,q⟩:=h
 exact⟨_,_,by unfold Aj;rw[d];simp only[Qbq,e2,h1,h2];rw[Qhq h3],q⟩
def mR{b:cB}{S:aE}{f g:bH}{Q:D->aE->Prop}(h:E f b S λd a=>∃k,d=.bl k/\if k=true then E g b a Q else Q (.bl false) a):E (qX f g) b S Q:=by
 obtain⟨d,a,c,k,rfl,q⟩:=h
 cases k with
 |true=>obtain⟨j,e,i,q⟩:=(q:E g b a Q);exact⟨j,e,by unfold qX;rw[c];exact i,q⟩
 |false=>exact⟨_,a,by unfold qX;rw[c];rfl,q⟩
def fD{ds:List D}{y:D}{Q:List D×D->Prop}(h:ds.length<sizeLine)(q:Q (ds++ [y],.non)):Op (fA ds [y]) Q:=⟨_,by simp only[fA];rw[Qhq h],q⟩
end DL
namespace W28
open PySem PySem.Spec L2 DL
def fF:List Str:= ["given"]
def uO{d:cB}{S:aE}{i j l:Nat}{w m:Int}{ds:List D}{Q:Bool->aE->Prop}(hi:d[i]?=some (some (.int w)))(f:d[j]?=some (some (.ref l)))(e:S[l]?=some (.lst ds))(q:∀c,(c=true->0<ds.length)->Q c S):
  E (ij (aH (aQ Cw (ar i) (cF (.int m)))) (aH (cY (aR (ar j))))) d S Q:=by
 refine pV (cD (aY (aw hi (cH (gq ?_)))))
 refine aK (λc=> ?_) λc=>q false λz=>(nomatch z)
 refine cD (qw (bV (aw f (a_ e ⟨⟨rfl,e⟩,q _ λz=> ?_⟩))))
 cases ds with
 |nil=>cases z
 |cons a b=>simp
def uI{d:cB}{S:aE}{i j l:Nat}{w m:Int}{ds:List D}{Q:Bool->aE->Prop}(hi:d[i]?=some (some (.int w)))(f:d[j]?=some (some (.ref l)))(e:S[l]?=some (.lst ds))(q:∀c,(c=true->0<ds.length)->Q c S):
  E (ij (aH (aQ (du false) (ar i) (cF (.int m)))) (aH (cY (aR (ar j))))) d S Q:=by
 refine pV (cD (aY (aw hi (cH (dR ?_)))))
 refine aK (λc=> ?_) λc=>q false λz=>(nomatch z)
 refine cD (qw (bV (aw f (a_ e ⟨⟨rfl,e⟩,q _ λz=> ?_⟩))))
 cases ds with
 |nil=>cases z
 |cons a b=>simp
def KR{a:cB}{S:aE}{i:Nat}{w m:Int}{Q:Bool->aE->Prop}(hi:a[i]?=some (some (.int w)))(q:∀c,Q c S):E (aH (aQ (du false) (ar i) (cF (.int m)))) a S Q:=cD (aY (aw hi (cH (dR (q _)))))
def JU{e:cB}{S:aE}{i j:Nat}{m s:Str}{w n:Int}{Q:D->aE->Prop}(hi:e[i]?=some (some (.str m)))(f:e[j]?=some (some (.int w)))(q:∀b:Nat,b<=1->Q (.int b) S):
  E (uq intOfD (aq (qX (aQ (du false) (ar i) (cF (.str s))) (aQ (du false) (ar j) (cF (.int n)))) av)) e S Q:=by
 refine AH (az (mR (aY (aw hi (cH (gE ⟨_,rfl,?_⟩))))))
 have a:∀b:Bool,E av e S λh g=>Op (intOfD (.bl b::h)) λd=>Q d g:=λb=>aZ (by
  cases b with
  |true=>exact⟨_,rfl,q 1 (by omega)⟩
  |false=>exact⟨_,rfl,q 0 (by omega)⟩)
 refine aK (λc=> ?_) (λc=> ?_)
 ·exact aY (aw f (cH (dR (a _))))
 ·exact a false
def Jh{S S0:aE}{k t b g:Nat}{ah:Str}{P aa:List Str}{goals:List (Str×Str)}{Q:Res->aE->Prop}(x:Ex k S0 S)(nt:t≠k)(nb:b≠k)(ng:g≠k)(gt:S[t]?=some (.lst (P.map D.str)))(gb:S[b]?=some (.lst (aa.map D.str)))(gg:S[g]?=some (.lst (goals.map dC)))
  (lt:P.length<500) (lb:aa.length<500) (lg:goals.length<500)
  (h:∀(rs:List Rw) (S':aE),v9 ⟨false,P++fF,P,aa,goals,[]⟩ rs->0<rs.length->rs.length<=12->Ex k S0 S'->Ex k S S'->S'.length=S.length->Q (.d (.tup (rs.map Rw.d))) S'):
  Fn kJ [.ref k,.tup [.str ah,.ref t,.ref b],.ref g,.int 4] S Q:=by
 have y:Ex k S S:=by obtain⟨a,b,c,hh⟩:=x.pot;exact Ex.refl hh
 have kl:=x.lt
 have tl:=(gQs.mp gt).1
 have bl:=(gQs.mp gb).1
 have gl:=(gQs.mp gg).1
 generalize I:(⟨false,P++fF,P,aa,goals,[]⟩:Sc)=sc at h
 have so:sc.own=false:=by rw[←I]
 have sw:sc.ws=P++fF:=by rw[←I]
 have sp:sc.ps=P:=by rw[←I]
 have sb:sc.bs=aa:=by rw[←I]
 have sg:sc.gs=goals:=by rw[←I]
 refine bZ ?_
 unfold oN
 symm
 apply gc rfl (aA (aV (aA (aV (aA (aV (bA ?_)))))))
 apply yj ?_
 apply a_ gt ?_
 refine⟨by decide,?_⟩
 refine⟨⟨rfl,rfl,gt,by simp only[lQm,Qnq,QGq];exact QAq (show P.length+(0+1)<=1000 by omega) (by decide)⟩,?_⟩
 symm
 refine⟨by decide,?_⟩
 have ew:P.map D.str++ [D.str "given"]=sc.ws.map D.str:=by rw[sw];simp[fF]
 rw[ew]
 have e0:Ex k S (S++ [O.lst (sc.ws.map D.str)]++ [O.lst []]):=y.app.app
 generalize hr:S.length+1=r
 have J:(S++ [O.lst (sc.ws.map D.str)]).length=r:=by simp[hr]
 rw[J]
 have iw:(S++ [O.lst (sc.ws.map D.str)]++ [O.lst []])[S.length]?=some (.lst (sc.ws.map D.str)):=aO aM
 have ir:(S++ [O.lst (sc.ws.map D.str)]++ [O.lst []])[r]?=some (.lst []):=by rw[←J];exact aM
 have il:(S++ [O.lst (sc.ws.map D.str)]++ [O.lst []]).length=r+1:=by simp[←hr]
 generalize (S++ [O.lst (sc.ws.map D.str)]++ [O.lst []])=S1 at e0 iw ir il⊢
 apply aI (gZ ?_)
 apply bQ e0 (by decide) (by decide) λX S2 b3 e2 a6 l2=> ?_
 refine⟨_,rfl,⟨by omega,by omega⟩,?_⟩
 have N:r≠k:=by omega
 have B:S.length≠k:=by omega
 let Inv:Nat->cB->aE->Prop:=λn a1 S'=>∃(o9 a0 a3:Option D) (rs:List Rw),a1= [some (.ref k),some (.tup [.str ah,.ref t,.ref b]),some (.ref g),some (.int 4),some (.str ah),some (.ref t),some (.ref b),some (.ref S.length),some (.ref r),o9,a0,a3]∧
  Ex k S S'/\S'[S.length]?=some (.lst (sc.ws.map D.str))/\S'[r]?=some (.lst (rs.map Rw.d))/\rs.length<=3*n/\n<=rs.length/\n<=4/\∀q∈rs,q.Ok sc rs.length
 refine⟨Inv,⟨_,_,_,[],rfl,e2,a6.keep _ _ B iw,a6.keep _ _ N ir,by simp,by simp,by omega,by simp⟩,λ_ _ _ _=>trivial,?_,?_⟩
 ·rintro n d a1 S3 hd ⟨o9,a0,a3,rs,rfl,e3,hw3,hr3,hl1,hl2,hn4,hok⟩
  have b8:n<4:=by
   have:=(gQs.mp hd).1
   simp only[jO,lQm,QVq] at this
   omega
  apply aV ?_
  refine bQ e3 (by decide) (by decide) λb2 S4 b7 R a5 l4=> ?_
  dsimp only[a9,aN,a7,bR,bU,eZ]
  have o:=a5.keep _ _ B hw3
  have j:=a5.keep _ _ N hr3
  have U:=R.keep _ _ nt gt
  have A:=R.keep _ _ nb gb
  have a2:=R.keep _ _ ng gg
  rw[←sp] at U
  rw[←sb] at A
  rw[←sg] at a2
  have p:∀(L:List Rw) (Z:Option D) (M:aE),Ex k S M->M[S.length]?=some (.lst (sc.ws.map D.str))->M[r]?=some (.lst (rs.map Rw.d++L.map Rw.d))->1<=L.length->L.length<=3->(∀q∈L,q.Ok sc (rs.length+L.length))→
    Inv (n+1) [some (.ref k),some (.tup [.str ah,.ref t,.ref b]),some (.ref g),some (.int 4),some (.str ah),some (.ref t),some (.ref b),some (.ref S.length),some (.ref r),some d,some (.int b2),Z] M:=by
   intro L Z M H h1 h2 h3 h4 h5
   refine⟨_,_,_,rs++L,rfl,H,h1,by rw[h2,Qzq],by rw[lQa];omega,by rw[lQa];omega,by omega,λq hq=> ?_⟩
   rw[lQa]
   rcases mQa.mp hq with hq|hq
   ·exact(hok q hq).mono (by omega)
   ·exact h5 q hq
  have i:∀m:Nat,m<=100->m<sizeLine:=λm hm=>Nat.lt_of_le_of_lt hm (by decide)
  have l9:rs.length<=9:=by omega
  have lr:(rs.map Rw.d).length=rs.length:=by simp
  have a4:∀{t':Tr},t'.Ok sc.ws sc.bs->t'.dep<=3->D8 sc t':=λh1 h2=>⟨h1,by omega⟩
  have K:sc.ws.length<1000:=by rw[sw];simp[fF];omega
  have W:sc.bs.length<1000:=by rw[sb];omega
  have b0:sc.ps.length<900:=by rw[sp];omega
  have a8:sc.gs.length<1000:=by rw[sg];omega
  refine bP (uO rfl rfl A λc hc=>aK (λF=> ?_) (λF=> ?_))
  ·
   apply d_ (IQ ?_)
   apply⟨_,_,rfl,j,?_⟩
   apply a_ j ?_
   rw[lr]
   refine Ib (sc:=sc) R B nb o A K W (by simpa using hc F) (by rw[sw];simp[fF]) so λL M h1 b5 h2 H e l5=> ?_
   dsimp only[a9,aN,a7,bR,bU,eZ]
   have l:=e.keep _ _ N j
   have Y:=L.length
   refine⟨_,l,⟨rfl,?_⟩,?_⟩
   ·simp only[lQm]
    exact nQl (i _ (by omega))
   ·exact p L _ _ (H.put (by omega) kl) (fE (by omega) (e.keep _ _ B o)) (cP l) b5 h2 h1
  refine bP (uO rfl rfl A λc hc=>aK (λF=> ?_) (λF=> ?_))
  ·apply aI (cK ?_)
   refine⟨by decide,?_⟩
   refine JU rfl rfl λv hv=> ?_
   have b1:∃(f:Str->Rw) (s:Str),(∀z,(f z).d=.tup [.str s,.str z])/\(∀z n,z∈sc.bs->(f z).Ok sc n)/\kj ([.str "call",.str "all"]:List D) (v:Int)=some (.str s):=by
    rcases v with _|_|v
    ·exact⟨.call,"call",λ_=>rfl,λz n hz=>⟨so,hz⟩,rfl⟩
    ·exact⟨.all,"all",λ_=>rfl,λz n hz=>⟨so,hz⟩,rfl⟩
    ·omega
   obtain⟨f,s,hf,b6,hs⟩:=b1
   refine bL aM hs ?_
   apply d_ (fK ?_)
   apply⟨_,_,rfl,aO j,?_⟩
   refine fu (R.app (G:= [O.lst [.str "call",.str "all"]])) nb (aO A) (hc F) (by simp;omega) eG gB λv2 M b4 H e l5=> ?_
   obtain⟨z,hz,rfl⟩:=Qkq.mp b4
   symm
   refine⟨by show 2<=_;decide,?_⟩
   symm
   have l:=e.keep _ _ N (aO j)
   refine⟨_,l,fD (i _ (by rw[lr];omega)) ?_⟩
   refine p [f z] _ _ (H.put (by omega) kl) (fE (by omega) (e.keep _ _ B (aO o))) ?_ (by simp) (by simp) λq' C=>by rw[Qfq.mp C];exact b6 _ _ hz
   rw[cP l]
   simp[hf]
  refine bP (uI rfl rfl a2 λc hc=>aK (λF=> ?_) (λF=> ?_))
  ·apply d_ (fK ?_)
   apply⟨_,_,rfl,j,?_⟩
   apply K2 (n:=rs.length+1) (sc:=sc) R ng nt B a2 U o (by simpa using hc F) a8 b0 K λq M h1 H e l5=> ?_
   have l:=e.keep _ _ N j
   refine⟨_,l,fD (i _ (by rw[lr];omega)) ?_⟩
   exact p [q] _ _ (H.put (by omega) kl) (fE (by omega) (e.keep _ _ B o)) (cP l) (by simp) (by simp) λq' C=>by rw[Qfq.mp C];exact h1
  refine bP (KR rfl λc=>aK (λF=> ?_) (λF=> ?_))
  ·apply aI (d_ (fK ?_))
   apply⟨_,_,rfl,j,?_⟩
   apply jA 4 (deep:=2) R B nb o A K W (by decide) λt3 M h3 h4 H e l5=> ?_
   have l:=e.keep _ _ N j
   apply a_ l ?_
   refine⟨by show 3<=_;decide,?_⟩
   symm
   refine⟨_,l,fD (i _ (by rw[lr];omega)) ?_⟩
   dsimp only[a9,aN,a7,bR,bU,eZ]
   apply d_ (fK ?_)
   apply⟨_,_,rfl,cP l,?_⟩
   apply bQ (H.put (r:=r) (by omega) kl) (by decide) (by decide) λv S6 hv e6 u l6=> ?_
   refine⟨by show 2<=_;decide,?_⟩
   symm
   have w:=u.keep _ _ N (cP l)
   refine⟨_,w,fD (i _ (by simp;omega)) ?_⟩
   refine p [.unl t3 (rs.length+2),.tell (.num v)] _ _ (e6.put (by omega) kl) (fE (by omega) (u.keep _ _ B (fE (by omega) (e.keep _ _ B o)))) ?_ (by simp) (by simp) λq hq=> ?_
   ·rw[cP w]
    simp[Rw.d,Tr.d]
   ·simp only[Qsq,QXq,or_false] at hq
    rcases hq with rfl|rfl
    ·exact⟨a4 h3 (by omega),by show rs.length+2<=rs.length+2;omega⟩
    ·exact⟨so,by show v<=9;omega,by show 1<=4;omega⟩
  refine bP (uO rfl rfl U λc hc=>aK (λF=> ?_) (λF=> ?_))
  ·apply d_ (fK ?_)
   apply⟨_,_,rfl,j,?_⟩
   refine fu R nt U (hc F) (by simp;omega) eG gB λv M hv H e l5=> ?_
   obtain⟨z,hz,rfl⟩:=Qkq.mp hv
   symm
   apply jA 4 (deep:=2) H B nb (e.keep _ _ B o) (e.keep _ _ nb A) K W (by decide) λt3 S6 h3 h4 e6 u l6=> ?_
   refine⟨by show 3<=_;decide,?_⟩
   symm
   have w:=u.keep _ _ N (e.keep _ _ N j)
   refine⟨_,w,fD (i _ (by rw[lr];omega)) ?_⟩
   exact p [.put z t3] _ _ (e6.put (by omega) kl) (fE (by omega) (u.keep _ _ B (e.keep _ _ B o))) (cP w) (by simp) (by simp) λq' C=>by rw[Qfq.mp C];exact⟨hz,a4 h3 (by omega)⟩
  ·apply d_ (fK ?_)
   apply⟨_,_,rfl,j,?_⟩
   apply jA 4 (deep:=1) R B nb o A K W (by decide) λt3 S6 h3 h4 e6 u l6=> ?_
   refine⟨by show 2<=_;decide,?_⟩
   symm
   have w:=u.keep _ _ N j
   refine⟨_,w,fD (i _ (by rw[lr];omega)) ?_⟩
   exact p [.tell t3] _ _ (e6.put (by omega) kl) (fE (by omega) (u.keep _ _ B o)) (cP w) (by simp) (by simp) λq' C=>by rw[Qfq.mp C];exact⟨so,a4 h3 (by omega)⟩
 ·rintro a1 S3 ⟨o9,a0,a3,rs,rfl,e3,hw3,hr3,hl1,hl2,hn4,hok⟩
  have Y:(jO 0 (1+(X:Int))).length=X+1:=by simp only[jO,lQm,QVq];omega
  rw[Y] at hl1 hl2 hn4
  symm
  refine a_ hr3 ?_
  refine⟨rfl,?_⟩
  dsimp only[a9,aN,a7,bR,bU,eZ]
  refine mY e3 x.lt (λk z=>(nomatch z)) (by simp only[cu];exact bf λq _=>dY q.low) λa b c=> ?_
  exact h rs _ hok (by omega) (by omega) x.set y.set (by simp)
end W28
namespace DL
open PySem PySem.Spec L2
def Pg{a b:cB}{d:D}(h:a.set 0 none=b.set 0 none):a.set 0 (some d)=b.set 0 (some d):=by
 have:=congrArg (λc:cB=>c.set 0 (some d)) h
 simpa using this
def DB{i:cB}{S:aE}{js:List (Option Nat)}{f:fw}{e:bH}{Q:List D->aE->Prop}(F:D->D)(h:E f i S λp c=>p.2.stays c p.1/\p.1.length<=1000/\(∀d∈p.1,E e ((pI js i).set 0 (some d)) c λy S2=>y=F d/\S2=c)/\Q (p.1.map F) c):
  E (bD js (fL f) (bJ 0) bK e) i S Q:=by
 refine jD (j2 (h.mono λp c m=> ?_))
 obtain⟨l,t,o,q⟩:=m
 refine⟨λn a g b=>g=c/\b=(p.1.take n).map F/\a.set 0 none=(pI js i).set 0 none,⟨rfl,rfl,rfl⟩,λn a g b h=>by rw[h.1];exact l,λn d a g b j h=> ?_,λa g b h=> ?_⟩
 ·obtain⟨rfl,rfl,h3⟩:=h
  refine aV (nc ?_)
  rw[Qhq rfl,Pg h3]
  refine(o d (mQg j)).mono λy S2 s=> ?_
  obtain⟨r,k⟩:=s
  subst r k
  have u:=(gQs.mp j).1
  refine⟨?_,rfl,?_,by simp⟩
  ·rw[lQm,Qxq]
   exact bq (by omega)
  ·rw[QYq,j]
   simp
 ·obtain⟨rfl,rfl,_⟩:=h
  rw[QEq]
  exact q
end DL
namespace W28
open PySem PySem.Spec L2 DL
def lP(p:Str×Nat):D:=.tup [.str p.1,.int p.2]
def ze(p:Str×Str):D:=.tup [.str p.1,.str p.2]
def g7(p:Str×List Rw):D:=.tup [.str p.1,.tup (p.2.map Rw.d)]
def EV{r:cB}{S S0:aE}{k j l:Nat}{m:Nat}{ws:List Str}{Q:List D->aE->Prop}(x:Ex k S0 S)(H:r.getD 0 none=some (.ref k))(B:r[j]?=some (some (.ref l)))(u:S[l]?=some (.lst (ws.map D.str)))(F:l≠k)(K:0<m)(J:m<1000)(I:ws.length<=1000)
  (h:∀(ps:List (Str×Nat)) (f:aE),ps.map (·.1)=ws->(∀p∈ps,p.2<m)->Ex k S0 f->Ex k S f->f.length=S.length->Q (ps.map lP) f):
  E (bD [none,some 0] (fL (aR (ar j))) (bJ 0) bK (bg (aq (ar 0) (aq (ax aG (aq (ar 1) (aq (cF (.int m)) av))) av)))) r S Q:=by
 have y:Ex k S S:=by obtain⟨a,b,c,G⟩:=x.pot;exact Ex.refl G
 refine jD (j2 (bV (aw B (a_ u ?_))))
 refine⟨λn g f i=>∃(o:Option D) (ps:List (Str×Nat)),g= [o,some (.ref k)]/\Ex k S0 f/\Ex k S f/\f.length=S.length/\ps.map (·.1)=ws.take n/\(∀p∈ps,p.2<m)/\i=ps.map lP,⟨none,[],by show [none,r.getD 0 none]=_;rw[H],x,y,rfl,rfl,by simp,rfl⟩,?_,?_,?_⟩
 ·rintro n g f i ⟨o,ps,_,_,e,_⟩
  exact e.keep _ _ F u
 ·rintro n d g f i w ⟨o,ps,rfl,e0,e1,el,h1,h2,rfl⟩
  obtain⟨z,s,rfl⟩:∃z,ws[n]?=some z/\d=.str z:=by
   rw[gQm] at w
   obtain⟨z,s,e⟩:=oQm.mp w
   exact⟨z,s,e.symm⟩
  symm
  rw[Qhq rfl]
  symm
  apply bQ e0 (by omega) (by omega) λv P N C t M=> ?_
  refine⟨by show 2<=_;decide,?_⟩
  have L:=(gQs.mp s).1
  have A:ps.length=n:=by
   have:=congrArg List.length h1
   rw[lQm,Qxq] at this
   omega
  refine⟨?_,_,ps++ [(z,v)],rfl,C,e1.trans t,by omega,?_,λp q=> ?_,by simp[lP]⟩
  ·rw[lQm]
   exact bq (by omega)
  ·rw[Qzq,h1,QYq,s]
   rfl
  ·rcases mQa.mp q with q|q
   ·exact h2 p q
   ·rw[Qfq.mp q]
    show v<m
    omega
 ·rintro g f i ⟨o,ps,rfl,e0,e1,el,h1,h2,rfl⟩
  exact h ps f (by rw[h1];simp) h2 e0 e1 el
def LC{r:cB}{S S0:aE}{k j l:Nat}{ws:List Str}{Q:List D->aE->Prop}(x:Ex k S0 S)(J:r.getD 0 none=some (.ref k))(C:r[j]?=some (some (.ref l)))(w:S[l]?=some (.lst (ws.map D.str)))(H:l≠k)(L:ws.length<=1000)
  (h:∀(ps:List (Str×Str)) (f:aE),ps.map (·.1)=ws->(∀p∈ps,p.2="row" \/p.2="turns")->Ex k S0 f->Ex k S f->Q (ps.map ze) f):
  E (bD [none,some 0] (fL (aR (ar j))) (bJ 0) bK (bg (aq (ar 0) (aq (aQ fJ (bO (bB (aq (cF (.str "row")) (aq (cF (.str "turns")) av)))) (ax aG (aq (ar 1) (aq (cF (.int 2)) av)))) av)))) r S Q:=by
 have y:Ex k S S:=by obtain⟨a,b,c,I⟩:=x.pot;exact Ex.refl I
 refine jD (j2 (bV (aw C (a_ w ?_))))
 refine⟨λn g f i=>∃(o:Option D) (ps:List (Str×Str)),g= [o,some (.ref k)]/\Ex k S0 f/\Ex k S f/\ps.map (·.1)=ws.take n/\(∀p∈ps,p.2="row" \/p.2="turns")/\i=ps.map ze,⟨none,[],by show [none,r.getD 0 none]=_;rw[J],x,y,rfl,by simp,rfl⟩,?_,?_,?_⟩
 ·rintro n g f i ⟨o,ps,_,_,e,_⟩
  exact e.keep _ _ H w
 ·rintro n d g f i A ⟨o,ps,rfl,e0,e1,h1,h2,rfl⟩
  obtain⟨z,t,rfl⟩:∃z,ws[n]?=some z/\d=.str z:=by
   rw[gQm] at A
   obtain⟨z,t,e⟩:=oQm.mp A
   exact⟨z,t,e.symm⟩
  symm
  rw[Qhq rfl]
  symm
  apply⟨by decide,?_⟩
  refine bQ (e0.app (G:= [O.lst [.str "row",.str "turns"]])) (by decide) (by decide) λv R P F q N=> ?_
  dsimp only[a9,aN,a7,bR,bU,eZ]
  have u:∃s:Str,(s="row" \/s="turns")/\kj ([.str "row",.str "turns"]:List D) (v:Int)=some (.str s):=by
   rcases v with _|_|v
   ·exact⟨"row",.inl rfl,rfl⟩
   ·exact⟨"turns",.inr rfl,rfl⟩
   ·omega
  obtain⟨s,u,K⟩:=u
  refine bL (q.keep _ _ (by have:=e0.lt;omega) aM) K ?_
  symm
  refine⟨by show 2<=_;decide,?_⟩
  have M:=(gQs.mp t).1
  have B:ps.length=n:=by
   have:=congrArg List.length h1
   rw[lQm,Qxq] at this
   omega
  refine⟨?_,_,ps++ [(z,s)],rfl,F,(e1.app).trans q,?_,λp m=> ?_,by simp[ze]⟩
  ·rw[lQm]
   exact bq (by omega)
  ·rw[Qzq,h1,QYq,t]
   rfl
  ·rcases mQa.mp m with m|m
   ·exact h2 p m
   ·rw[Qfq.mp m]
    exact u
 ·rintro g f i ⟨o,ps,rfl,e0,e1,h1,h2,rfl⟩
  exact h ps f (by rw[h1];simp) h2 e0 e1
def Rw.Ok.sub{a:Bool}{ws ps bs ts:List Str}{c b:List (Str×Str)}{n:Nat}{r:Rw}(h:r.Ok ⟨a,ws,ps,bs,c,ts⟩ n)(hs:∀g∈c,g∈b):r.Ok ⟨a,ws,ps,bs,b,ts⟩ n:=by
 cases r with
 |do_ g r d t=>exact⟨h.1,hs _ h.2.1,h.2.2⟩
 |_=>exact h
def v9.sub{a:Bool}{ws ps bs ts:List Str}{c b:List (Str×Str)}{rs:List Rw}(h:v9 ⟨a,ws,ps,bs,c,ts⟩ rs)(hs:∀g∈c,g∈b):v9 ⟨a,ws,ps,bs,b,ts⟩ rs:=λr d=>(h r d).sub hs
structure Rm where
 name:Str
 ah:Str
 ao:List (Str×Nat)
 aa:List (Str×Str)
 ae:List (Str×List Rw)
def Rm.d(r:Rm):D:=.tup [.str r.name,.str r.ah,.tup (r.ao.map lP),.tup (r.aa.map ze),.tup (r.ae.map g7)]
def Jp:Nat:=3
def J4:Nat:=0
structure wU(gs:List (Str×Str))(r:Rm):Prop where
 mn:r.ah="at once" \/r.ah="when free"
 tv:∀p∈r.ao,p.2<=9
 l1:r.ao.length<=6
 l2:r.aa.length<=6
 l3:r.ae.length<=6
 bv:∀p∈r.aa,p.2="row" \/p.2="turns"
 pr:∀p∈r.ae,v9 ⟨false,r.ao.map (·.1)++fF,r.ao.map (·.1),r.aa.map (·.1),gs,[]⟩ p.2/\p.2.length<=12
 bz:r.aa.length<=Jp
def GN(p:Str×List Rw):cu 0 (g7 p)=true:=by
 simp only[g7,cu,cg,Bool.and_true,Bool.true_and]
 exact bf λr _=>r.low
def Rm.low(r:Rm):cu 0 r.d=true:=by
 simp only[Rm.d,cu,cg,Bool.and_true,Bool.true_and,QCq]
 exact⟨bf λ_ _=>rfl,bf λ_ _=>rfl,bf λp _=>GN p⟩
end W28
namespace DL
open PySem PySem.Spec L2
def Nh{a:cB}{S:aE}{f:fw}{g:bH}{Q:List D->aE->Prop}(h:E f a S λp b=>E g a b λr S2=>∃n:Nat,r=.int n/\(p.2.isM=true/\p.2.stays S2 p.1/\p.1.length*n<=1000/\n<=1)/\Q ((List.replicate n p.1).flatten) S2):E (Jq f g) a S Q:=by
 obtain⟨p,b,d,r,S2,c,n,rfl,⟨h1,h2,h3,h4⟩,q⟩:=h
 refine⟨_,S2,?_,q⟩
 unfold Jq
 rw[d]
 simp only[Qbq]
 rw[c]
 simp only[Qbq]
 rw[Qhq ⟨h1,h2,by omega,by omega,by simpa using QAq h3 (by decide)⟩]
 simp
end DL
namespace W28
open PySem PySem.Spec L2 DL
def Kd{S S0:aE}{k g m bm:Nat}{ms:List Str}{name:Str}{goals:List (Str×Str)}{Q:Res->aE->Prop}(x:Ex k S0 S)(ng:g≠k)(nm:m≠k)(gg:S[g]?=some (.lst (goals.map dC)))(gm:S[m]?=some (.lst (ms.map D.str)))(c0:∀s∈ms,s="at once" \/s="when free")(m0:0<ms.length)(m9:ms.length<9)(b3:bm<=Jp)(lg:goals.length<=100)
  (h:∀(r:Rm) (H:aE),r.name=name->wU (goals++r.ae.map λp=>(name,p.1)) r->Ex k S0 H->Ex k S H->H.length=S.length->Q (.d r.d) H):
  Fn lu [.ref k,.str name,.ref g,.ref m,.int bm] S Q:=by
 have c6:bm<=3:=QAq b3 (by decide)
 have y:Ex k S S:=by obtain⟨a,b,c,hh⟩:=x.pot;exact Ex.refl hh
 have kl:=x.lt
 refine bZ ?_
 unfold pK
 symm
 refine fu y nm gm (by simpa using m0) (by rw[lQm];omega) (λd I=> ?_) (λd I=> ?_) λmn S1 b1 e1 _ l1=> ?_
 ·obtain⟨s,_,rfl⟩:=Qkq.mp I
  exact⟨λk z=>(nomatch z),rfl⟩
 ·obtain⟨s,_,rfl⟩:=Qkq.mp I
  rfl
 obtain⟨ah,a8,rfl⟩:∃s:Str,(s="at once" \/s="when free")/\mn=.str s:=by
  obtain⟨s,hs,rfl⟩:=Qkq.mp b1
  exact⟨s,c0 s hs,rfl⟩
 symm
 apply⟨by decide,?_⟩
 refine bQ (e1.app (G:= [O.lst [.int 1,.int 1,.int 2,.int 0]])) (by decide) (by decide) λv S2 hv e2 c1 l2=> ?_
 dsimp only[a9,aN,a7,bR,bU,eZ]
 obtain⟨nt,f0,ha⟩:∃n:Nat,n<=2/\kj ([.int 1,.int 1,.int 2,.int 0]:List D) (v:Int)=some (.int n):=by
  rcases v with _|_|_|_|v
  ·exact⟨1,by omega,rfl⟩
  ·exact⟨1,by omega,rfl⟩
  ·exact⟨2,by omega,rfl⟩
  ·exact⟨0,by omega,rfl⟩
  ·omega
 refine bL (c1.keep _ _ (by have:=e1.lt;omega) aM) ha ?_
 symm
 apply i0 e2 (by omega) (by omega) (by decide) λX S3 _ d4 e3 d8 l3=> ?_
 apply bQ (e3.app (G:= [O.lst (X.map D.str)])) (by omega) (by omega) λnb S4 c5 e4 a6 l4=> ?_
 apply i0 e4 (by omega) (by omega) (by decide) λA t _ e0 e5 a1 l5=> ?_
 refine⟨by decide,?_⟩
 have F:S3.length≠k:=by have:=e3.lt;omega
 have Y:t.length≠k:=by have:=e5.lt;omega
 have gt:(t++ [O.lst (A.map D.str)]++ [O.lst []])[S3.length]?=some (.lst (X.map D.str)):=aO (aO (a1.keep _ _ F (a6.keep _ _ F aM)))
 have gb:(t++ [O.lst (A.map D.str)]++ [O.lst []])[t.length]?=some (.lst (A.map D.str)):=aO aM
 have d7:S.length<=S3.length:=e3.len
 have f1:S.length<=t.length:=e5.len
 have d2:S3.length<t.length:=by
  have:=a1.len
  have:=a6.len
  simp only[lQa,Qnq,QGq] at *
  omega
 have e6:Ex k S (t++ [O.lst (A.map D.str)]++ [O.lst []]):=e5.app.app
 generalize hr:t.length+1=r
 have u:(t++ [O.lst (A.map D.str)]).length=r:=by simp[hr]
 rw[u]
 have gr:(t++ [O.lst (A.map D.str)]++ [O.lst []])[r]?=some (.lst []):=by rw[←u];exact aM
 generalize (t++ [O.lst (A.map D.str)]++ [O.lst []])=S6 at e6 gt gb gr⊢
 have c2:X.length=nt:=by omega
 have c3:A.length=nb:=by omega
 apply aI (gZ ?_)
 apply bQ e6 (by decide) (by decide) λnd S7 d5 e7 P l7=> ?_
 apply i0 e7 (by omega) (by omega) (by decide) λb0 S8 _ c4 e8 U l8=> ?_
 have kr:r≠k:=by omega
 let Inv:Nat->cB->aE->Prop:=λn R H=>∃(o9 N W:Option D) (o:List (Str×List Rw)),R= [some (.ref k),some (.str name),some (.ref g),some (.ref m),some (.int bm),some (.str ah),some (.ref S3.length),some (.ref t.length),some (.ref r),o9,N,W,none]∧
  Ex k S H/\H[S3.length]?=some (.lst (X.map D.str))/\H[t.length]?=some (.lst (A.map D.str))/\H[r]?=some (.lst (o.map g7))/\o.length=n/\(∀p∈o,v9 ⟨false,X++fF,X,A,goals++o.map λp=>(name,p.1),[]⟩ p.2/\p.2.length<=12)
 refine⟨Inv,⟨none,none,none,[],rfl,e8,U.keep _ _ F (P.keep _ _ F gt),U.keep _ _ Y (P.keep _ _ Y gb),U.keep _ _ kr (P.keep _ _ kr gr),rfl,by simp⟩,λ_ _ _ _=>trivial,?_,?_⟩
 ·rintro n d R S9 I ⟨o9,N,W,o,rfl,e9,gt9,gb9,gr9,hn,hpr⟩
  obtain⟨w,hw,rfl⟩:∃z,b0[n]?=some z/\d=.str z:=by
   rw[gQm] at I
   obtain⟨z,hz,e⟩:=oQm.mp I
   exact⟨z,hz,e.symm⟩
  have d9:n<3:=by
   have:=(gQs.mp hw).1
   omega
  apply aV ?_
  apply DB (λd=>match d with|.tup (a::_)=>.tup [.str name,a]|d=>d) ?_
  refine a_ gr9 ?_
  refine⟨gr9,by simp;omega,λd I=> ?_,?_⟩
  ·obtain⟨p,_,rfl⟩:=Qkq.mp I
   symm
   apply ay rfl ?_
   exact⟨by show 2<=_;decide,rfl,rfl⟩
  have eh:(o.map g7).map (λd=>match d with|.tup (a::_)=>.tup [.str name,a]|d=>d)=(o.map λp=>(name,p.1)).map dC:=by
   rw[QPq,QPq]
   rfl
  rw[eh]
  generalize hh:(o.map λp=>(name,p.1))=here
  have lh:here.length=n:=by rw[←hh];simpa using hn
  symm
  apply yj ?_
  have b7:=e9.keep _ _ ng gg
  apply a_ (aO b7) ?_
  apply Nh ?_
  apply a_ aM ?_
  apply bQ (e9.app (G:= [O.lst (here.map dC)])) (by decide) (by decide) λv2 a2 d6 B f d3=> ?_
  apply dR ?_
  have k9:S9.length≠k:=by have:=e9.lt;omega
  have b2:=f.keep _ _ k9 aM
  obtain⟨q,hq,b6⟩:∃q:Nat,q<=1/\intOfD [D.bl (decide ((v2:Int)=0))]=some (.int q):=by
   by_cases c:(v2:Int)=0
   ·exact⟨1,by omega,by rw[Qeq c];rfl⟩
   ·exact⟨0,by omega,by rw[Qdq c];rfl⟩
  refine⟨_,b6,?_⟩
  refine⟨q,rfl,⟨rfl,b2,?_,hq⟩,?_⟩
  ·simp only[lQm]
   have:here.length*q<=here.length*1:=Nat.mul_le_mul_left _ hq
   omega
  obtain⟨j,a0,a3,f2⟩:∃l:List (Str×Str),goals.map dC++(List.replicate q (here.map dC)).flatten=l.map dC/\(∀g∈l,g∈goals++here)/\l.length<=goals.length+10:=by
   rcases q with _|_|q
   ·exact⟨goals,by simp,λg M=>List.mem_append_left _ M,by omega⟩
   ·exact⟨goals++here,by simp,λg M=>M,by rw[lQa];omega⟩
   ·omega
  refine⟨⟨rfl,rfl,B.keep _ _ ng gg,?_⟩,?_⟩
  ·have:=congrArg List.length a0
   rw[lQa] at this
   rw[this,lQm]
   exact nQl (bq (by omega))
  rw[a0]
  symm
  apply fK ?_
  have J:(a2++ [O.lst (j.map dC)])[r]?=some (.lst (o.map g7)):=aO (f.keep _ _ kr (aO gr9))
  apply⟨_,_,rfl,J,?_⟩
  refine⟨by show 3<=_;decide,?_⟩
  symm
  refine Jh (goals:=j) (B.app (G:= [O.lst (j.map dC)])) F Y (by have:=B.lt;omega) (aO (f.keep _ _ F (aO gt9))) (aO (f.keep _ _ Y (aO gb9))) aM (by omega) (by omega) (by omega) λrs b8 h1 h2 h3 L i b9=> ?_
  symm
  refine⟨by show 2<=_;decide,?_⟩
  symm
  have K:=i.keep _ _ kr J
  refine⟨_,K,fD (bq (by simp;omega)) ?_⟩
  refine⟨_,_,_,o++ [(w,rs)],rfl,L.put (by omega) kl,fE (by omega) (i.keep _ _ F (aO (f.keep _ _ F (aO gt9)))),fE (by omega) (i.keep _ _ Y (aO (f.keep _ _ Y (aO gb9)))),?_,by simp[hn],λp C=> ?_⟩
  ·rw[cP K]
   simp[g7]
  ·rcases mQa.mp C with C|C
   ·refine⟨(hpr p C).1.sub λg M=> ?_,(hpr p C).2⟩
    rw[Qzq,←Qvq]
    exact List.mem_append_left _ M
   ·rw[Qfq.mp C]
    refine⟨h1.sub λg M=> ?_,h3⟩
    rw[Qzq,←Qvq]
    refine List.mem_append_left _ ?_
    rw[hh]
    exact a3 g M
 ·rintro R S9 ⟨o9,N,W,o,rfl,e9,gt9,gb9,gr9,hn,hpr⟩
  have c9:o.length<=3:=by
   rw[hn]
   simp only[lQm]
   omega
  symm
  apply LC e9 rfl rfl gb9 Y (by omega) λZ a2 a5 b5 B f=> ?_
  apply EV (m:=3) B rfl rfl (f.keep _ _ F gt9) F (by decide) (by decide) (by omega) λts b8 a4 b4 L i b9=> ?_
  refine a_ (i.keep _ _ kr (f.keep _ _ kr gr9)) ?_
  apply⟨rfl,?_⟩
  refine⟨by show 5<=_;decide,?_⟩
  have f3:ts.length=X.length:=by rw[←a4];simp
  have d1:Z.length=A.length:=by rw[←a5];simp
  refine mY (d:=(Rm.mk name ah ts Z o).d) L x.lt (λk z=>(nomatch z)) (dY (Rm.low _)) λa b c=> ?_
  refine h ⟨name,ah,ts,Z,o⟩ _ rfl ⟨a8,λp C=>by have:=b4 p C;omega,by show ts.length<=6;omega,by show Z.length<=6;omega,by show o.length<=6;omega,b5,?_,by show Z.length<=Jp;omega⟩ x.set y.set (by simp)
  intro p C
  show v9 ⟨false,ts.map (·.1)++fF,ts.map (·.1),Z.map (·.1),_,[]⟩ p.2/\_
  rw[a4,a5]
  exact hpr p C
end W28
namespace DL
open PySem PySem.Spec L2
theorem MO{c:jL}{b:cC}{Q:Out->Prop}(I:Nat->cB->aE->Prop)(g:∀m a S,I m a S->E c a S λk f=>if k=true then∃e,m=e+1/\T b a f λo=>match o with|.nx d S2=>I e d S2|_=>False else Q (.nx a f)):
  ∀(n m:Nat) (a:cB) (S:aE),m<n->I m a S->T (Ja c b n) a S Q
 |0,_,_,_,h,_=>absurd h (Nat.not_lt_zero _)
 | n+1,m,a,S,h,hi=>by
   obtain⟨k,f,i,q⟩:=g m a S hi
   cases k with
   |false=>exact⟨_,by simp only[Ja];rw[i];rfl,q⟩
   | true=>
     obtain⟨e,rfl,o,e2,q⟩:=(q:∃e,m=e+1/\T b a f _)
     cases o with
     | nx d S2=>
       obtain⟨o,j,q⟩:=MO I g n e d S2 (by omega) q
       exact⟨o,by simp only[Ja];rw[i];simp only[Qbq,if_true];rw[e2];exact j,q⟩
     |_=>exact q.elim
def Ko{b:cB}{S:aE}{f:fw}{Q:List D->aE->Prop}(h:E f b S λp a=>p.2.isL=true/\∃ss,tJ p.1=some ss/\(p.1.length<=3/\ss.Nodup)/\Q (v8 ss p.1) a):E (zr f) b S Q:=by
 obtain⟨p,a,e,l,ss,c,d,q⟩:=h
 exact⟨_,a,by unfold zr;rw[e];simp only[Qbq];rw[Qhq l,c];simp only[Qbq];rw[Qhq d],q⟩
def Gr{α:Type}{f:α->D}{ss:List Str}{xs:List α}(g:α)(b:xs.length<=3):∃ys:List α,ys.Perm xs/\v8 ss (xs.map f)=ys.map f:=by
 refine⟨Zp.sortBy ss g xs,Zp.fe ss xs b,?_⟩
 have j:(v8 ss (xs.map f)).length=((Zp.sortBy ss g xs).map f).length:=by
  unfold v8
  rw[(Zp.fe ss (xs.map f) (by simpa using b)).length_eq,lQm,lQm,(Zp.fe ss xs b).length_eq]
 apply List.ext_getElem?
 intro i
 cases e:(v8 ss (xs.map f))[i]? with
 | none=>
   rw[List.getElem?_eq_none_iff] at e
   rw[eq_comm,List.getElem?_eq_none_iff]
   omega
 | some d=>
   obtain⟨y,c,r⟩:=wB (R:=λ(d:D) (a:α)=>d=f a) (ss:=ss) (xs:=xs.map f) (ys:=xs) (d:=.non) (d':=g) (by simp) (by simpa using b) (λi d h=>by
     rw[gQm] at h
     obtain⟨y,c,e⟩:=oQm.mp h
     exact⟨y,c,e.symm⟩) i d e
   rw[gQm,c,r]
   rfl
end DL
namespace W28
open PySem PySem.Spec L2 DL
def aU(rs:List Rm):List (Str×Str):=rs.flatMap λr=>r.ae.map λp=>(r.name,p.1)
def wU.sub{c a:List (Str×Str)}{r:Rm}(h:wU c r)(hs:∀g∈c,g∈a):wU a r:={h with pr:=λp b=>⟨(h.pr p b).1.sub hs,(h.pr p b).2⟩}
theorem E7:∀rs:List Rm,tJ (rs.map Rm.d)=some (rs.map (·.name))
 | []=>rfl
 | r::rs=>by
   show tJ (Rm.d r::rs.map Rm.d)=_
   simp only[Rm.d,tJ]
   rw[E7 rs]
   rfl
def Bm{S:aE}{b:cB}{i j v:Nat}{rs:List Rm}{f:fw}{Q:Out->Prop}{tg:Tag}(K:v<b.length)(B:b[j]?=some (some (.ref i)))(y:S[i]?=some (.lst []))
  (H:∀(R:List D×Tag->aE->Prop),R (rs.map Rm.d,tg) S->E f b S R) (hs:∀o,tg.stays (S.set i o) (rs.map Rm.d)) (A:v≠j) (hd:∀r∈rs,r.ae.length<=6) (M:rs.length<=3)
  (q:∀o,Q (.nx (b.set v o) (S.set i (.lst ((aU rs).map dC))))):
  T (jg (fL f) (bJ v) (hZ (Aj (ar j) (ia (bD [none,some v] (fL (aR (aQ fJ (ar v) (cF (.int 4))))) (bJ 0) bK (bg (aq (aQ fJ (ar 1) (cF (.int 0))) (aq (aQ fJ (ar 0) (cF (.int 0))) av)))))))) b S Q:=by
 refine gZ (j2 (H _ ?_))
 have N:i<S.length:=(gQs.mp y).1
 have g:∀o:Option D,(b.set v o)[v]?=some o:=λo=>Qyq K
 have t:∀o:Option D,(b.set v o)[j]?=some (some (.ref i)):=λo=>by rw[QKq A];exact B
 refine⟨λn c w=>(n=0->c=b)/\(∃o,c=b.set v o)/\w=S.set i (.lst ((aU (rs.take n)).map dC)),⟨λ_=>rfl,?_,?_⟩,λn c w h=> ?_,λn d c w u ⟨_,⟨o,m⟩,s⟩=> ?_,λc w ⟨U,⟨o,m⟩,s⟩=> ?_⟩
 ·exact⟨b[v],by rw[List.set_getElem_self]⟩
 ·apply List.ext_getElem?
  intro x
  rw[List.getElem?_set]
  split
  ·rename_i e
   subst e
   rw[y]
   rfl
  ·rfl
 ·rw[h.2.2];exact hs _
 ·obtain⟨r,k,rfl⟩:∃r,rs[n]?=some r/\d=r.d:=by
   rw[gQm] at u
   obtain⟨z,J,e⟩:=oQm.mp u
   exact⟨z,J,e.symm⟩
  subst m s
  have P:=(gQs.mp k).1
  refine aV (d_ (IQ ?_))
  rw[List.set_set]
  refine aw (t _) ?_
  refine⟨_,_,rfl,cP y,qH (DB (λd=>match d with|.tup (a::_)=>.tup [.str r.name,a]|d=>d) ?_)⟩
  refine bV (aY (aw (g _) (cH (ay rfl (cx ?_)))))
  have I:=hd r (mQg k)
  refine⟨trivial,by simp;omega,λd hd=> ?_,?_⟩
  ·obtain⟨p,_,rfl⟩:=Qkq.mp hd
   have C:(pI [none,some v] (b.set v (some r.d))).set 0 (some (g7 p))= [some (g7 p),some r.d]:=by
    show [some (g7 p),(b.set v (some r.d)).getD v none]=_
    rw[Qlq,g]
    rfl
   rw[C]
   symm
   apply ay rfl ?_
   apply ay rfl ?_
   exact⟨by show 2<=_;decide,rfl,rfl⟩
  ·have G:∀l:List Rm,(∀r∈l,r.ae.length<=6)->(aU l).length<=6*l.length:=by
    intro l
    induction l with
    |nil=>intro _;simp[aU]
    | cons a l F=>
      intro h
      have:=F λr k=>h r (Qpq _ k)
      have:=h a (QBq ..)
      simp only[aU,QSq,lQa,lQm,Qnq] at *
      omega
   have L:=G (rs.take n) λr k=>hd r (List.mem_of_mem_take k)
   rw[Qxq] at L
   refine⟨_,cP y,⟨rfl,?_⟩,λz=>absurd z (by omega),⟨_,rfl⟩,?_⟩
   ·simp only[lQm]
    exact nQl (bq (by omega))
   ·rw[List.set_set,QYq,k]
    congr 2
    simp only[aU,List.flatMap_append,Qzq,Option.toList_some,QSq,List.flatMap_nil,List.append_nil,QPq]
    rfl
 ·subst m s
  rw[lQm,QEq]
  exact q o
def Kb(d:Str):∀a b:Str,d++a=d++b->a=b:=by
 intro a b h
 have f:(d++a).cps.toList=(d++b).cps.toList:=by rw[h]
 have e:∀c:Str,(d++c).cps.toList=d.cps.toList++c.cps.toList:=λc=>by
  show(d.cps++c.cps).toList=_
  simp
 rw[e,e] at f
 exact Str.ext' (Array.toList_inj.mp (List.append_cancel_left f))
def Gw(c:Str):(six.map (c++·)).Nodup:=by
 have d:six.Nodup:=by decide +kernel
 exact List.Pairwise.map (R:=(·≠·)) (S:=(·≠·)) _ (λa b n e=>n (Kb c a b e)) d
def IC{S S0:aE}{k m bm u:Nat}{ms:List Str}{Q:Res->aE->Prop}(x:Ex k S0 S)(nm:m≠k)(gm:S[m]?=some (.lst (ms.map D.str)))(b2:∀s∈ms,s="at once" \/s="when free")(m0:0<ms.length)(m9:ms.length<9)(a8:bm<=Jp)(hm:u<=3)
  (h:∀(rs:List Rm) (G:aE),(rs.map (·.name)).Nodup->rs.length<=3->(∀r∈rs,wU (aU rs) r)->Ex k S0 G->Ex k S G->G.length=S.length->Q (.d (.tup (rs.map Rm.d))) G):
  Fn jz [.ref k,.int u,.ref m,.int bm] S Q:=by
 have y:Ex k S S:=by obtain⟨a,b,c,hh⟩:=x.pot;exact Ex.refl hh
 have kl:=x.lt
 have ml:=(gQs.mp gm).1
 refine bZ ?_
 unfold tR
 symm
 apply i0 y (by omega) (by omega) (by decide) λe L hp b3 e1 b5 l1=> ?_
 refine⟨by decide,?_⟩
 have nn:e.Nodup:=by
  obtain⟨l,hp⟩:=hp
  exact(List.nodup_append.mp (hp.nodup_iff.mpr (Gw _))).1
 generalize ha:L.length=a
 generalize J:a+1=r
 have w:(L++ [O.lst (e.map D.str)]).length=r:=by simp[ha,J]
 rw[w]
 have e2:Ex k S (L++ [O.lst (e.map D.str)]++ [O.lst []]):=e1.app.app
 have ga:(L++ [O.lst (e.map D.str)]++ [O.lst []])[a]?=some (.lst (e.map D.str)):=by rw[←ha];exact aO aM
 have gr:(L++ [O.lst (e.map D.str)]++ [O.lst []])[r]?=some (.lst []):=by rw[←w];exact aM
 have b4:=e1.lt
 generalize (L++ [O.lst (e.map D.str)]++ [O.lst []])=S2 at e2 ga gr⊢
 have sa:S.length<=a:=by rw[←ha];exact e1.len
 have ka:a≠k:=by omega
 have kr:r≠k:=by omega
 refine aI (MO (λq a1 G=>∃(o6 o7 o8:Option D) (n:List Str) (rs:List Rm),a1= [some (.ref k),some (.int u),some (.ref m),some (.int bm),some (.ref a),some (.ref r),o6,o7,o8]/\Ex k S G/\G[a]?=some (.lst (n.map D.str))/\G[r]?=some (.lst (rs.map Rm.d))/\n.length=q/\(rs.map (·.name)++n).Perm e/\∀x∈rs,wU (aU rs) x) ?_ 4 e.length _ _ (by omega) ?_)
 ·rintro q a1 t ⟨o6,o7,o8,n,rs,rfl,e3,ga3,gr3,F,hpm,hok⟩
  have C:=hpm.length_eq
  rw[lQa,lQm] at C
  symm
  refine a_ ga3 ?_
  refine⟨⟨rfl,ga3⟩,?_⟩
  dsimp only[a9,aN,a7,bR,bU,eZ]
  refine aK (λc=> ?_) (λc=> ?_)
  ·have Y:0<n.length:=by
    cases n with
    |nil=>simp at c
    |cons a b=>simp
   apply⟨n.length-1,by omega,?_⟩
   refine⟨by decide,?_⟩
   refine aI ?_
   have k3:t.length≠k:=by have:=e3.lt;omega
   have r3:=(gQs.mp gr3).1
   have a3:=(gQs.mp ga3).1
   have M:∀o,Tag.stays ((t++ [O.lst []]).set t.length o) (rs.map Rm.d) (.st r):=λo=>fE (by omega) (aO gr3)
   refine Bm (i:=t.length) (j:=6) (v:=7) (rs:=rs) (tg:=.st r) (by simp) rfl aM (λR hR=>bV (aw rfl (a_ (aO gr3) hR))) M (by decide) (λr J=>(hok r J).l3) (by omega) (λo=> ?_)
   have e4:Ex k S ((t++ [O.lst []]).set t.length (.lst ((aU rs).map dC))):=e3.app.put e3.len kl
   have B:((t++ [O.lst []]).set t.length (.lst ((aU rs).map dC)))[a]?=some (.lst (n.map D.str)):=fE (by omega) (aO ga3)
   have a0:((t++ [O.lst []]).set t.length (.lst ((aU rs).map dC)))[r]?=some (.lst (rs.map Rm.d)):=fE (by omega) (aO gr3)
   have a2:((t++ [O.lst []]).set t.length (.lst ((aU rs).map dC)))[t.length]?=some (.lst ((aU rs).map dC)):=cP aM
   have lg:(aU rs).length<=100:=by
    have a6:∀l:List Rm,(∀r∈l,r.ae.length<=6)->(aU l).length<=6*l.length:=by
     intro l
     induction l with
     |nil=>intro _;simp[aU]
     | cons a l ih=>
       intro h
       have:=ih λr J=>h r (Qpq _ J)
       have:=h a (QBq ..)
       simp only[aU,QSq,lQa,lQm,Qnq] at *
       omega
    have:=a6 rs λr J=>(hok r J).l3
    omega
   generalize ((t++ [O.lst []]).set t.length (.lst ((aU rs).map dC)))=S4 at e4 B a0 a2⊢
   dsimp only[a9,aN,a7,bR,bU,eZ]
   apply aI (cK (fK ?_))
   apply⟨_,_,rfl,B,?_⟩
   apply a_ B ?_
   refine bQ e4 (by simp only[lQm];omega) (by simp only[lQm];omega) λj U hj e5 H l5=> ?_
   dsimp only[a9,aN,a7,bR,bU,eZ]
   symm
   have A:j<n.length:=by simpa using hj
   have W:=H.keep _ _ ka B
   refine⟨_,W,?_⟩
   refine Ow (d:=((n.map D.str).eraseIdx j,D.str n[j])) ?_ ?_
   ·simp only[gN]
    rw[Qhq ⟨by omega,by omega⟩,lQm,HW A (by omega)]
    simp[gQe A]
   dsimp only[a9,aN,a7,bR,bU,eZ]
   refine d_ (fK ?_)
   have e6:Ex k S (U.set a (.lst ((n.map D.str).eraseIdx j))):=e5.put sa kl
   have P:(U.set a (.lst ((n.map D.str).eraseIdx j)))[a]?=some (.lst ((n.eraseIdx j).map D.str)):=by rw[cP W,sf]
   have I:(U.set a (.lst ((n.map D.str).eraseIdx j)))[r]?=some (.lst (rs.map Rm.d)):=fE (by omega) (H.keep _ _ kr a0)
   have X:(U.set a (.lst ((n.map D.str).eraseIdx j)))[t.length]?=some (.lst ((aU rs).map dC)):=fE (by omega) (H.keep _ _ k3 a2)
   generalize (U.set a (.lst ((n.map D.str).eraseIdx j)))=S6 at e6 P I X⊢
   symm
   apply⟨_,_,rfl,I,?_⟩
   apply Kd (goals:=aU rs) e6 k3 nm X (e6.keep _ _ nm gm) b2 m0 m9 a8 lg λN S7 a5 b1 e7 Z l7=> ?_
   have a4:=Z.keep _ _ kr I
   refine⟨_,a4,fD (bq (by simp only[lQm];omega)) ?_⟩
   have b0:aU (rs++ [N])=aU rs++N.ae.map λp=>(N.name,p.1):=by simp[aU]
   refine⟨_,_,_,n.eraseIdx j,rs++ [N],rfl,e7.put (by omega) kl,fE (by omega) (Z.keep _ _ ka P),?_,?_,?_,λq F=> ?_⟩
   ·rw[cP a4]
    simp
   ·rw[List.length_eraseIdx_of_lt A]
   ·rw[Qzq]
    show((rs.map (·.name)++ [N.name])++n.eraseIdx j).Perm e
    rw[a5]
    exact BA A hpm
   ·rw[b0]
    rcases mQa.mp F with F|F
    ·exact(hok q F).sub λg K=>List.mem_append_left _ K
    ·rw[Qfq.mp F,a5]
     exact b1
  ·have Y:n= []:=by
    cases n with
    |nil=>rfl
    |cons a b=>simp at c
   subst Y
   rw[List.append_nil] at hpm
   apply eV (rZ (qH (Ko ?_)))
   refine a_ gr3 ?_
   have l3:rs.length<=3:=by simp at C;omega
   refine⟨rfl,_,E7 rs,⟨by simpa using l3,hpm.nodup_iff.mpr nn⟩,?_⟩
   obtain⟨ys,hy,he⟩:=Gr (f:=Rm.d) (ss:=rs.map (·.name)) (xs:=rs) ⟨"","",[],[],[]⟩ l3
   rw[he]
   refine mY e3 x.lt (λk z=>(nomatch z)) (by simp only[cu];exact bf λq _=>dY q.low) λa b c=> ?_
   refine h ys _ ((hy.map _).nodup_iff.mpr (hpm.nodup_iff.mpr nn)) (by rw[hy.length_eq];exact l3) (λq F=>(hok q (hy.mem_iff.mp F)).sub λg K=> ?_) x.set y.set (by simp)
   simp only[aU,QOq] at K⊢
   obtain⟨z,hz,K⟩:=K
   exact⟨z,hy.mem_iff.mpr hz,K⟩
 ·exact⟨none,none,none,e,[],rfl,e2,ga,gr,rfl,by simp,by simp⟩
def L_{S S0:aE}{k g w p:Nat}{words ai:List Str}{goals:List (Str×Str)}{Q:Res->aE->Prop}(x:Ex k S0 S)(ng:g≠k)(nw:w≠k)(np:p≠k)(gg:S[g]?=some (.lst (goals.map dC)))(gw:S[w]?=some (.lst (words.map D.str)))(gp:S[p]?=some (.lst (ai.map D.str)))
  (lg:goals.length<500) (lw:words.length<500) (lp:ai.length<500)
  (h:∀(rs:List Rw) (Y:aE),v9 ⟨true,words,words,[],goals,ai⟩ rs->0<rs.length->rs.length<=9->Ex k S0 Y->Ex k S Y->Y.length=S.length->Q (.d (.tup (rs.map Rw.d))) Y):
  Fn nE [.ref k,.ref g,.ref w,.ref p,.int 4] S Q:=by
 have y:Ex k S S:=by obtain⟨a,b,c,hh⟩:=x.pot;exact Ex.refl hh
 have kl:=x.lt
 have gl:=(gQs.mp gg).1
 have wl:=(gQs.mp gw).1
 have pl:=(gQs.mp gp).1
 generalize Z:(⟨true,words,words,[],goals,ai⟩:Sc)=sc at h
 have so:sc.own=true:=by rw[←Z]
 have sw:sc.ws=words:=by rw[←Z]
 have sp:sc.ps=words:=by rw[←Z]
 have sb:sc.bs= []:=by rw[←Z]
 have sg:sc.gs=goals:=by rw[←Z]
 have st:sc.ts=ai:=by rw[←Z]
 refine bZ ?_
 unfold sJ
 symm
 refine⟨by decide,?_⟩
 generalize hr:S.length=r
 have ir:(S++ [O.lst []])[r]?=some (.lst []):=by rw[←hr];exact aM
 have e0:Ex k S (S++ [O.lst []]):=y.app
 generalize (S++ [O.lst []])=S1 at e0 ir⊢
 have X:r≠k:=by omega
 apply aI (gZ ?_)
 apply bQ e0 (by decide) (by decide) λa1 S2 b8 e2 c0 l2=> ?_
 refine⟨_,rfl,⟨by omega,by omega⟩,?_⟩
 let Inv:Nat->cB->aE->Prop:=λn a8 Y=>∃(o6 o7:Option D) (rs:List Rw),a8= [some (.ref k),some (.ref g),some (.ref w),some (.ref p),some (.int 4),some (.ref r),o6,o7]∧
  Ex k S Y/\Y[r]?=some (.lst (rs.map Rw.d))/\rs.length<=2*n/\n<=rs.length/\n<=4/\∀q∈rs,q.Ok sc rs.length
 have u:∀m:Nat,m<=100->m<sizeLine:=λm hm=>Nat.lt_of_le_of_lt hm (by decide)
 have a0:sc.ws.length<1000:=by rw[sw];omega
 have b5:sc.ps.length<900:=by rw[sp];omega
 have b3:sc.gs.length<1000:=by rw[sg];omega
 have up:∀{t':Tr} {d:Nat},t'.Ok sc.ws []->t'.dep<=d+1->d<=3->D8 sc t':=λh1 h2 h3=>⟨by rw[sb];exact h1,by omega⟩
 refine⟨Inv,⟨_,_,[],rfl,e2,c0.keep _ _ X ir,by simp,by simp,by omega,by simp⟩,λ_ _ _ _=>trivial,?_,?_⟩
 ·rintro n d a8 S3 hd ⟨o6,o7,rs,rfl,e3,hr3,hl1,hl2,hn4,W⟩
  have c3:n<4:=by
   have:=(gQs.mp hd).1
   simp only[jO,lQm,QVq] at this
   omega
  apply aV ?_
  refine bQ e3 (by decide) (by decide) λa5 S4 c2 J a6 l4=> ?_
  dsimp only[a9,aN,a7,bR,bU,eZ]
  have e:=a6.keep _ _ X hr3
  have L:=J.keep _ _ nw gw
  have b0:=J.keep _ _ ng gg
  have U:=J.keep _ _ np gp
  rw[←sw] at L
  rw[←sg] at b0
  rw[←st] at U
  have a2:=L
  rw[sw,←sp] at a2
  have C:∀(ms:List Rw) (I:aE),Ex k S I->I[r]?=some (.lst (rs.map Rw.d++ms.map Rw.d))->1<=ms.length->ms.length<=2->(∀q∈ms,q.Ok sc (rs.length+ms.length))→
    Inv (n+1) [some (.ref k),some (.ref g),some (.ref w),some (.ref p),some (.int 4),some (.ref r),some d,some (.int a5)] I:=by
   intro ms I H h2 h3 h4 h5
   refine⟨_,_,rs++ms,rfl,H,by rw[h2,Qzq],by rw[lQa];omega,by rw[lQa];omega,by omega,λq N=> ?_⟩
   rw[lQa]
   rcases mQa.mp N with N|N
   ·exact(W q N).mono (by omega)
   ·exact h5 q N
  have lr:(rs.map Rw.d).length=rs.length:=by simp
  have a3:∀I (q5:List Rw),Ex k S I->I[r]?=some (.lst (q5.map Rw.d))->q5.length<=50->∀(R:Out->Prop),(∀(t:Tr) (S6:aE),D8 sc t->Ex k S S6->S6[r]?=some (.lst ((q5++ [Rw.say t]).map Rw.d))->R (.nx [some (.ref k),some (.ref g),some (.ref w),some (.ref p),some (.int 4),some (.ref r),some d,some (.int a5)] S6))→
    T (hZ (jf fA (ar 5) (aq (bg (aq (cF (.str "say")) (aq (ax (bC 4) (aq (ar 0) (aq (ar 2) (aq (bO (bB av)) (aq (cF (.int 1)) av))))) av))) av))) [some (.ref k),some (.ref g),some (.ref w),some (.ref p),some (.int 4),some (.ref r),some d,some (.int a5)] I R:=by
   intro I q5 H B c4 R hR
   apply d_ (fK ?_)
   apply⟨_,_,rfl,B,?_⟩
   apply⟨by decide,?_⟩
   have w5:=H.keep _ _ nw gw
   rw[←sw] at w5
   refine jA 4 (deep:=1) (bs:= []) (H.app (G:= [O.lst []])) nw (j:=I.length) (by have:=H.lt;omega) (aO w5) aM a0 (by decide) (by decide) λt3 S6 h3 h4 e6 K l6=> ?_
   symm
   refine⟨by show 2<=_;decide,?_⟩
   symm
   have A:=K.keep _ _ X (aO B)
   refine⟨_,A,fD (u _ (by simp;omega)) ?_⟩
   refine hR t3 _ (up h3 h4 (by omega)) (e6.put (by omega) kl) ?_
   rw[cP A]
   simp[Rw.d]
  refine bP (uO rfl rfl b0 λc hc=>aK (λP=> ?_) (λP=> ?_))
  ·apply d_ (fK ?_)
   apply⟨_,_,rfl,e,?_⟩
   apply K2 (n:=rs.length+1) (sc:=sc) J ng nw nw b0 a2 L (by simpa using hc P) b3 b5 a0 λq I h1 H i l5=> ?_
   have B:=i.keep _ _ X e
   refine⟨_,B,fD (u _ (by rw[lr];omega)) ?_⟩
   exact C [q] _ (H.put (by omega) kl) (cP B) (by simp) (by simp) λq' F=>by rw[Qfq.mp F];exact h1
  refine bP (uI rfl rfl U λc hc=>aK (λP=> ?_) (λP=> ?_))
  ·apply d_ (fK ?_)
   apply⟨_,_,rfl,e,?_⟩
   apply⟨by decide,?_⟩
   refine bQ (J.app (G:= [O.lst [.str "take",.str "give"]])) (by decide) (by decide) λv I hv H i l5=> ?_
   dsimp only[a9,aN,a7,bR,bU,eZ]
   have b6:∃(f:Str->Rw) (s:Str),(∀z,(f z).d=.tup [.str s,.str z])/\(∀z n,z∈sc.ts->(f z).Ok sc n)/\kj ([.str "take",.str "give"]:List D) (v:Int)=some (.str s):=by
    rcases v with _|_|v
    ·exact⟨.take,"take",λ_=>rfl,λz n hz=>⟨so,hz⟩,rfl⟩
    ·exact⟨.give,"give",λ_=>rfl,λz n hz=>⟨so,hz⟩,rfl⟩
    ·omega
   obtain⟨f,s,hf,b9,hs⟩:=b6
   refine bL (i.keep _ _ (by have:=J.lt;omega) aM) hs ?_
   symm
   refine fu H np (i.keep _ _ np (aO U)) (hc P) (by rw[st];simp;omega) eG gB λv2 S6 M e6 K l6=> ?_
   obtain⟨z,hz,rfl⟩:=Qkq.mp M
   symm
   refine⟨by show 2<=_;decide,?_⟩
   symm
   have A:=K.keep _ _ X (i.keep _ _ X (aO e))
   refine⟨_,A,fD (u _ (by rw[lr];omega)) ?_⟩
   refine C [f z] _ (e6.put (by omega) kl) ?_ (by simp) (by simp) λq' F=>by rw[Qfq.mp F];exact b9 _ _ hz
   rw[cP A]
   simp[hf]
  refine bP (uI rfl rfl U λc hc=>aK (λP=> ?_) (λP=> ?_))
  ·apply d_ (fK ?_)
   apply⟨_,_,rfl,e,?_⟩
   refine fu J np U (hc P) (by rw[st];simp;omega) eG gB λv2 I M H i l5=> ?_
   obtain⟨z,hz,rfl⟩:=Qkq.mp M
   symm
   refine fu H np (i.keep _ _ np U) (hc P) (by rw[st];simp;omega) eG gB λv3 S6 b4 e6 K l6=> ?_
   obtain⟨z2,b7,rfl⟩:=Qkq.mp b4
   symm
   refine⟨by show 3<=_;decide,?_⟩
   symm
   have A:=K.keep _ _ X (i.keep _ _ X e)
   refine⟨_,A,fD (u _ (by rw[lr];omega)) ?_⟩
   exact C [.pass z z2] _ (e6.put (by omega) kl) (cP A) (by simp) (by simp) λq' F=>by rw[Qfq.mp F];exact⟨so,hz,b7⟩
  refine bP (uI rfl rfl L λc hc=>aK (λP=> ?_) (λP=> ?_))
  ·apply d_ (fK ?_)
   apply⟨_,_,rfl,e,?_⟩
   refine fu J nw L (hc P) (by simp;omega) eG gB λv2 I M H i l5=> ?_
   obtain⟨z,hz,rfl⟩:=Qkq.mp M
   symm
   apply⟨by decide,?_⟩
   refine jA 4 (deep:=2) (bs:= []) (H.app (G:= [O.lst []])) nw (j:=I.length) (by have:=H.lt;omega) (aO (i.keep _ _ nw L)) aM a0 (by decide) (by decide) λt3 S6 h3 h4 e6 K l6=> ?_
   symm
   refine⟨by show 3<=_;decide,?_⟩
   symm
   have A:=K.keep _ _ X (aO (i.keep _ _ X e))
   refine⟨_,A,fD (u _ (by rw[lr];omega)) ?_⟩
   exact C [.put z t3] _ (e6.put (by omega) kl) (cP A) (by simp) (by simp) λq' F=>by rw[Qfq.mp F];exact⟨by rw[sp,←sw];exact hz,up h3 h4 (by omega)⟩
  refine bP (KR rfl λc=>aK (λP=> ?_) (λP=> ?_))
  ·apply aI (d_ (fK ?_))
   apply⟨_,_,rfl,e,?_⟩
   apply⟨by decide,?_⟩
   refine jA 4 (deep:=2) (bs:= []) (J.app (G:= [O.lst []])) nw (j:=S4.length) (by have:=J.lt;omega) (aO L) aM a0 (by decide) (by decide) λt3 I h3 h4 H i l5=> ?_
   symm
   have B:=i.keep _ _ X (aO e)
   apply a_ B ?_
   refine⟨by show 3<=_;decide,?_⟩
   symm
   refine⟨_,B,fD (u _ (by rw[lr];omega)) ?_⟩
   dsimp only[a9,aN,a7,bR,bU,eZ]
   have A:(I.set r (.lst (rs.map Rw.d++ [.tup [.str "unless",t3.d,.int (((rs.map Rw.d).length:Int)+2)]])))[r]?=some (.lst ((rs++ [Rw.unl t3 (rs.length+2)]).map Rw.d)):=by
    rw[cP B]
    simp[Rw.d]
   refine a3 _ (rs++ [Rw.unl t3 (rs.length+2)]) (H.put (by omega) kl) A (by simp;omega) _ λt4 S6 h5 e6 a4=> ?_
   refine C [.unl t3 (rs.length+2),.say t4] _ e6 (by rw[a4];simp) (by simp) (by simp) λq N=> ?_
   simp only[Qsq,QXq,or_false] at N
   rcases N with rfl|rfl
   ·exact⟨up h3 h4 (by omega),Qmq _⟩
   ·exact⟨so,h5⟩
  ·refine a3 _ rs J e (by omega) _ λt4 S6 h5 e6 a4=> ?_
   exact C [.say t4] _ e6 (by rw[a4];simp) (by simp) (by simp) λq' F=>by rw[Qfq.mp F];exact⟨so,h5⟩
 ·rintro a8 S3 ⟨o6,o7,rs,rfl,e3,hr3,hl1,hl2,hn4,W⟩
  have b1:(jO 0 (1+(a1:Int))).length=a1+1:=by simp only[jO,lQm,QVq];omega
  rw[b1] at hl1 hl2 hn4
  have b2:∀(rs:List Rw) (S4:aE),Ex k S S4->S4[r]?=some (.lst (rs.map Rw.d))->(∀q∈rs,q.Ok sc rs.length)->0<rs.length->rs.length<=9->T (cy (tupQ (cM (aR (ar 5))))) [some (.ref k),some (.ref g),some (.ref w),some (.ref p),some (.int 4),some (.ref r),o6,o7] S4 λo=>match o with
    |.nx _ Y=>Op (settle S .non Y) λp=>Q p.1 p.2|.rt d Y=>Op (settle S d Y) λp=>Q p.1 p.2|.rl l Y=>Op (eJ S l Y) λp=>Q p.1 p.2|_=>False:=by
   intro rs S4 J e W h1 h2
   symm
   refine a_ e ?_
   refine⟨rfl,?_⟩
   dsimp only[a9,aN,a7,bR,bU,eZ]
   refine mY J x.lt (λk z=>(nomatch z)) (by simp only[cu];exact bf λq _=>dY q.low) λa b c=> ?_
   exact h rs _ W h1 h2 x.set y.set (by simp)
  apply aI (bP ?_)
  apply bQ e3 (by decide) (by decide) λv S4 hv J a6 l4=> ?_
  refine dR ?_
  dsimp only[a9,aN,a7,bR,bU,eZ]
  have e:=a6.keep _ _ X hr3
  refine aK (λc=> ?_) (λc=> ?_)
  ·apply d_ (fK ?_)
   apply⟨_,_,rfl,e,?_⟩
   apply a_ e ?_
   refine bQ J (by simp only[lQm];omega) (by simp only[lQm];omega) λv2 I M H i l5=> ?_
   symm
   refine⟨by show 2<=_;decide,?_⟩
   symm
   have B:=i.keep _ _ X e
   refine⟨_,B,fD (u _ (by simp;omega)) ?_⟩
   dsimp only[a9,aN,a7,bR,bU,eZ]
   simp only[lQm] at M
   refine b2 (rs++ [Rw.go v2]) _ (H.put (by omega) kl) (by rw[cP B];simp[Rw.d]) (λq N=> ?_) (by simp) (by simp;omega)
   rw[lQa]
   rcases mQa.mp N with N|N
   ·exact(W q N).mono (by simp)
   ·rw[Qfq.mp N]
    show v2<=rs.length+1
    omega
  ·exact bX (b2 rs S4 J e W (by omega) (by omega))
def eY(p:List (Str×Nat)×List Rw):D:=.tup [.tup (p.1.map lP),.tup (p.2.map Rw.d)]
structure dE where
 aj:List Rm
 ai:List (Str×Nat)
 ak:List (Str×Nat)
 af:List (List (Str×Nat)×List Rw)
def dE.d(w:dE):D:=.tup [.tup (w.aj.map Rm.d),.tup (w.ai.map lP),.tup (w.ak.map lP),.tup (w.af.map eY)]
structure C2(gs:List (Str×Str))(ak ai:List Str)(h:List (Str×Nat)×List Rw):Prop where
 tv:∀p∈h.1,p.2<=9
 l1:h.1.length<=6
 l2:h.2.length<=9
 l0:0<h.2.length
 dj:∀x∈h.1.map (·.1),x∉ak
 pr:v9 ⟨true,h.1.map (·.1)++ak,h.1.map (·.1)++ak,[],gs,ai⟩ h.2
structure eW(w:dE):Prop where
 nd:(w.aj.map (·.name)).Nodup
 l1:w.aj.length<=3
 l2:w.ai.length<=6
 l3:w.ak.length<=6
 l4:w.af.length<=4
 l0:0<w.af.length
 pv:∀p∈w.ai,p.2<=9
 sv:∀p∈w.ak,p.2<=9
 rm:∀r∈w.aj,wU (aU w.aj) r
 hd:∀h∈w.af,C2 (aU w.aj) (w.ak.map (·.1)) (w.ai.map (·.1)) h
 pz:w.ai.length<=J4
def IR(p:List (Str×Nat)×List Rw):cu 0 (eY p)=true:=by
 simp only[eY,cu,cg,Bool.and_true,Bool.true_and,QCq]
 exact⟨bf λ_ _=>rfl,bf λr _=>r.low⟩
def dE.low(w:dE):cu 0 w.d=true:=by
 simp only[dE.d,cu,cg,Bool.and_true,Bool.true_and,QCq]
 exact⟨bf λr _=>r.low,bf λ_ _=>rfl,bf λ_ _=>rfl,bf λp _=>IR p⟩
def FI{rs:List Rm}(hd:∀r∈rs,r.ae.length<=6):(aU rs).length<=6*rs.length:=by
 induction rs with
 |nil=>simp[aU]
 | cons a l c=>
   have:=c λr b=>hd r (Qpq _ b)
   have:=hd a (QBq ..)
   simp only[aU,QSq,lQa,lQm,Qnq] at *
   omega
def CL{a ak:List Str}(b:∃l,(a++l).Perm (six.map (("":Str)++·)))(c:∃l,(ak++l).Perm (six.map (("o":Str)++·))):∀x∈a,x∉ak:=λx d e=>by
 obtain⟨l,b⟩:=b
 obtain⟨m,c⟩:=c
 have g:=b.mem_iff.mp (mQa.mpr (.inl d))
 have h:=c.mem_iff.mp (mQa.mpr (.inl e))
 have f:∀x∈six.map (("":Str)++·),x∉six.map (("o":Str)++·):=by decide +kernel
 exact f x g h
def IV{S S0:aE}{k af pm:Nat}{rs:List Rm}{Q:Res->aE->Prop}(x:Ex k S0 S)(h0:0<af)(h4:af<=4)(c0:pm<=J4)(nd:(rs.map (·.name)).Nodup)(hl:rs.length<=3)(W:∀r∈rs,wU (aU rs) r)
  (h:∀(w:dE) (F:aE),eW w->Ex k S0 F->Ex k S F->F.length=S.length->Q (.d w.d) F):
  Fn jm [.ref k,.tup (rs.map Rm.d),.int af,.int pm] S Q:=by
 have y:Ex k S S:=by obtain⟨a,b,c,hh⟩:=x.pot;exact Ex.refl hh
 have kl:=x.lt
 have d6:pm<=2:=QAq c0 (by decide)
 have d4:=FI λr hr=>(W r hr).l3
 refine bZ ?_
 unfold mf
 symm
 refine⟨by decide,?_⟩
 refine aI ?_
 refine Bm (i:=S.length) (j:=4) (v:=5) (rs:=rs) (tg:=.tu) (by simp +zetaDelta) rfl aM (λR hR=>bV (aw rfl (cx hR))) (λ_=>trivial) (by decide) (λr hr=>(W r hr).l3) hl (λo=> ?_)
 have e1:Ex k S ((S++ [O.lst []]).set S.length (.lst ((aU rs).map dC))):=y.app.put (Qmq _) kl
 have Y:((S++ [O.lst []]).set S.length (.lst ((aU rs).map dC)))[S.length]?=some (.lst ((aU rs).map dC)):=cP aM
 generalize ((S++ [O.lst []]).set S.length (.lst ((aU rs).map dC)))=S1 at e1 Y⊢
 generalize hg:S.length=g at Y⊢
 have ng:g≠k:=by omega
 symm
 apply bQ e1 (by omega) (by omega) λnp S2 f0 e2 d1 l2=> ?_
 apply i0 e2 (by omega) (by omega) (by decide) λai s _ d2 e3 c5 l3=> ?_
 apply⟨by decide,?_⟩
 have k3:s.length≠k:=by have:=e3.lt;omega
 have b0:(s++ [O.lst (ai.map D.str)])[g]?=some (.lst ((aU rs).map dC)):=aO (c5.keep _ _ ng (d1.keep _ _ ng Y))
 have a8:(s++ [O.lst (ai.map D.str)])[s.length]?=some (.lst (ai.map D.str)):=aM
 have a2:Ex k S (s++ [O.lst (ai.map D.str)]):=e3.app
 have f3:S.length<=s.length:=e3.len
 have c1:(s++ [O.lst (ai.map D.str)]).length=s.length+1:=by simp
 generalize (s++ [O.lst (ai.map D.str)])=T3 at b0 a8 a2 c1⊢
 refine bQ (a2.app (G:= [O.lst [.int 0,.int 0,.int 1,.int 2]])) (by decide) (by decide) λv S4 hv e4 H l4=> ?_
 dsimp only[a9,aN,a7,bR,bU,eZ]
 obtain⟨ns,f5,ha⟩:∃n:Nat,n<=2/\kj ([.int 0,.int 0,.int 1,.int 2]:List D) (v:Int)=some (.int n):=by
  rcases v with _|_|_|_|v
  ·exact⟨0,by omega,rfl⟩
  ·exact⟨0,by omega,rfl⟩
  ·exact⟨1,by omega,rfl⟩
  ·exact⟨2,by omega,rfl⟩
  ·omega
 refine bL (H.keep _ _ (by have:=a2.lt;omega) aM) ha ?_
 symm
 apply i0 e4 (by omega) (by omega) (by decide) λl q b5 f4 e5 U l5=> ?_
 refine⟨by decide,?_⟩
 have k5:q.length≠k:=by have:=e5.lt;omega
 have a6:(q++ [O.lst (l.map D.str)]++ [O.lst []])[g]?=some (.lst ((aU rs).map dC)):=aO (aO (U.keep _ _ ng (H.keep _ _ ng (aO b0))))
 have b7:(q++ [O.lst (l.map D.str)]++ [O.lst []])[s.length]?=some (.lst (ai.map D.str)):=aO (aO (U.keep _ _ k3 (H.keep _ _ k3 (aO a8))))
 have b6:(q++ [O.lst (l.map D.str)]++ [O.lst []])[q.length]?=some (.lst (l.map D.str)):=aO aM
 have d7:s.length<q.length:=by
  have:=U.len
  have:=H.len
  simp only[lQa,Qnq,QGq] at *
  omega
 have e6:Ex k S (q++ [O.lst (l.map D.str)]++ [O.lst []]):=e5.app.app
 generalize hr:q.length+1=r
 have B:(q++ [O.lst (l.map D.str)]).length=r:=by simp[hr]
 rw[B]
 have gr:(q++ [O.lst (l.map D.str)]++ [O.lst []])[r]?=some (.lst []):=by rw[←B];exact aM
 generalize (q++ [O.lst (l.map D.str)]++ [O.lst []])=S6 at e6 a6 b7 b6 gr⊢
 have kr:r≠k:=by have:=e5.lt;omega
 apply aI (gZ ?_)
 refine⟨_,rfl,⟨by omega,by omega⟩,?_⟩
 let Inv:Nat->cB->aE->Prop:=λn a3 F=>∃(o9 a0 a4:Option D) (u:List (List (Str×Nat)×List Rw)),a3= [some (.ref k),some (.tup (rs.map Rm.d)),some (.int af),some (.int pm),some (.ref g),o,some (.ref s.length),some (.ref q.length),some (.ref r),o9,a0,a4,none]∧
  Ex k S F/\F[g]?=some (.lst ((aU rs).map dC))/\F[s.length]?=some (.lst (ai.map D.str))/\F[q.length]?=some (.lst (l.map D.str))/\F[r]?=some (.lst (u.map eY))/\u.length=n/\(∀p∈u,C2 (aU rs) l ai p)
 refine⟨Inv,⟨none,none,none,[],rfl,e6,a6,b7,b6,gr,rfl,by simp⟩,λ_ _ _ _=>trivial,?_,?_⟩
 ·rintro n d a3 S7 hd ⟨o9,a0,a4,u,rfl,e7,gg7,gp7,gs7,gr7,hn,hpr⟩
  have b8:n<4:=by
   have:=(gQs.mp hd).1
   simp only[jO,lQm,QVq] at this
   omega
  apply aV ?_
  apply⟨by decide,?_⟩
  refine bQ (e7.app (G:= [O.lst [.int 0,.int 1,.int 1,.int 2]])) (by decide) (by decide) λv S8 hv e8 t l8=> ?_
  dsimp only[a9,aN,a7,bR,bU,eZ]
  obtain⟨nw,e0,ha⟩:∃n:Nat,n<=2/\kj ([.int 0,.int 1,.int 1,.int 2]:List D) (v:Int)=some (.int n):=by
   rcases v with _|_|_|_|v
   ·exact⟨0,by omega,rfl⟩
   ·exact⟨1,by omega,rfl⟩
   ·exact⟨1,by omega,rfl⟩
   ·exact⟨2,by omega,rfl⟩
   ·omega
  refine bL (t.keep _ _ (by have:=e7.lt;omega) aM) ha ?_
  symm
  apply i0 e8 (by omega) (by omega) (by decide) λf N b2 d3 e9 J l9=> ?_
  have k9:N.length≠k:=by have:=e9.lt;omega
  have e:∀{i:Nat} {o:O},i≠k->S7[i]?=some o->(N++ [O.lst (f.map D.str)])[i]?=some o:=λn h=>aO (J.keep _ _ n (t.keep _ _ n (aO h)))
  have I:(N++ [O.lst (f.map D.str)])[N.length]?=some (.lst (f.map D.str)):=aM
  have P:Ex k S (N++ [O.lst (f.map D.str)]):=e9.app
  have a1:=e ng gg7
  have Z:=e k3 gp7
  have a5:=e k5 gs7
  have b4:=e kr gr7
  have r9:r<N.length:=by
   have:=(gQs.mp gr7).1
   have:=t.len
   have:=J.len
   simp only[lQa,Qnq,QGq] at *
   omega
  generalize (N++ [O.lst (f.map D.str)])=T9 at I P a1 Z a5 b4⊢
  apply yj ?_
  apply a_ I ?_
  refine a_ a5 ?_
  refine⟨⟨rfl,rfl,I,by simp only[lQm];exact nQl (bq (by omega))⟩,?_⟩
  rw[←Qzq]
  symm
  refine L_ (words:=f++l) (ai:=ai) (goals:=aU rs) (P.app (G:= [O.lst ((f++l).map D.str)])) ng (by have:=P.lt;omega) k3 (aO a1) aM (aO Z) (by omega) (by rw[lQa];omega) (by omega) λpr d5 h1 h2 h3 c9 C d8=> ?_
  symm
  apply fK ?_
  have L:=C.keep _ _ kr (aO b4)
  apply⟨_,_,rfl,L,?_⟩
  apply EV (m:=3) c9 rfl rfl (C.keep _ _ k9 (aO I)) k9 (by decide) (by decide) (by omega) λts c6 X c2 b9 K f2=> ?_
  refine⟨by show 2<=_;decide,?_⟩
  symm
  have M:=K.keep _ _ kr L
  refine⟨_,M,fD (bq (by simp only[lQm];omega)) ?_⟩
  have kp:∀{i:Nat} {o:O},i≠k->i≠r->T9[i]?=some o->∀o',(c6.set r o')[i]?=some o:=λn n2 h o'=>fE n2 (K.keep _ _ n (C.keep _ _ n (aO h)))
  have f6:ts.length=f.length:=by rw[←X];simp
  refine⟨_,_,_,u++ [(ts,pr)],rfl,b9.put (by omega) kl,kp ng (by omega) a1 _,kp k3 (by omega) Z _,kp k5 (by omega) a5 _,?_,by simp[hn],λp A=> ?_⟩
  ·rw[cP M]
   simp[eY]
  ·rcases mQa.mp A with A|A
   ·exact hpr p A
   ·rw[Qfq.mp A]
    refine⟨λp A=>by have:=c2 p A;omega,by show ts.length<=6;omega,h3,h2,by rw[X];exact CL b2 b5,?_⟩
    show v9 ⟨true,ts.map (·.1)++l,ts.map (·.1)++l,[],_,_⟩ pr
    rw[X]
    exact h1
 ·rintro a3 S7 ⟨o9,a0,a4,u,rfl,e7,gg7,gp7,gs7,gr7,hn,hpr⟩
  have b8:u.length=af:=by
   rw[hn]
   simp only[jO,lQm,QVq]
   omega
  symm
  apply EV (m:=3) e7 rfl rfl gp7 k3 (by decide) (by decide) (by omega) λps S8 b3 c4 e8 t l8=> ?_
  apply EV (m:=3) e8 rfl rfl (t.keep _ _ k5 gs7) k5 (by decide) (by decide) (by omega) λss N b1 c3 e9 J l9=> ?_
  refine a_ (J.keep _ _ kr (t.keep _ _ kr gr7)) ?_
  apply⟨rfl,?_⟩
  refine⟨by show 4<=_;decide,?_⟩
  have f1:ps.length=ai.length:=by rw[←b3];simp
  have d9:ss.length=l.length:=by rw[←b1];simp
  refine mY (d:=(dE.mk rs ps ss u).d) e9 x.lt (λk z=>(nomatch z)) (dY (dE.low _)) λa b c=> ?_
  refine h ⟨rs,ps,ss,u⟩ _ ⟨nd,hl,by show ps.length<=6;omega,by show ss.length<=6;omega,by show u.length<=4;omega,by show 0<u.length;omega,λp A=>by have:=c4 p A;omega,λp A=>by have:=c3 p A;omega,W,?_,by show ps.length<=J4;omega⟩ x.set y.set (by simp)
  show∀h∈u,C2 (aU rs) (ss.map (·.1)) (ps.map (·.1)) h
  rw[b1,b3]
  exact hpr
end W28
namespace DL
open PySem PySem.Spec L2
def Lh{k:cB}{S:aE}{js:List (Option Nat)}{f:fw}{g:nI}{i:bH}{Q:List D->aE->Prop}(P:cB->Prop)(F:D->D)(x:P (pI js k)) (h:E f k S λp e=>p.2.stays e p.1/\p.1.length<=1000∧
   (∀d∈p.1,∀a,P a->Tg g d a e λb S2=>S2=e/\P b/\E i b e λy m=>y=F d/\m=e)/\Q (p.1.map F) e):E (bD js (fL f) g bK i) k S Q:=by
 refine jD (j2 (h.mono λp e s=> ?_))
 obtain⟨r,z,t,q⟩:=s
 refine⟨λn a j c=>j=e/\c=(p.1.take n).map F/\P a,⟨rfl,rfl,x⟩,λn a j c h=>by rw[h.1];exact r,λn d a j c l h=> ?_,λa j c h=> ?_⟩
 ·obtain⟨rfl,rfl,h3⟩:=h
  obtain⟨b,S2,v,rfl,h4,h5⟩:=t d (mQg l) a h3
  refine⟨b,S2,v,nc ?_⟩
  rw[Qhq rfl]
  refine h5.mono λy m w=> ?_
  obtain⟨o,u⟩:=w
  subst o u
  have A:=(gQs.mp l).1
  refine⟨?_,rfl,?_,h4⟩
  ·rw[lQm,Qxq]
   exact bq (by omega)
  ·rw[QYq,l]
   simp
 ·obtain⟨rfl,rfl,_⟩:=h
  rw[QEq]
  exact q
def iU{α:Type}{o:cB}{S:aE}{js:List (Option Nat)}{f:fw}{g:nI}{k:bH}{Q:List D->aE->Prop}(P:cB->Prop)(enc G:α->D)(C:P (pI js o)) (h:E f o S λp i=>∃xs:List α,p.1=xs.map enc/\p.2.stays i p.1/\xs.length<=1000∧
   (∀x∈xs,∀a,P a->Tg g (enc x) a i λb S2=>S2=i/\P b/\E k b i λy r=>y=G x/\r=i)/\Q (xs.map G) i):E (bD js (fL f) g bK k) o S Q:=by
 refine jD (j2 (h.mono λp i v=> ?_))
 obtain⟨xs,s,u,F,w,q⟩:=v
 refine⟨λn a l c=>l=i/\c=(xs.take n).map G/\P a,⟨rfl,rfl,C⟩,λn a l c h=>by rw[h.1];exact u,λn d a l c m h=> ?_,λa l c h=> ?_⟩
 ·obtain⟨rfl,rfl,h3⟩:=h
  have m:p.1[n]?=some d:=m
  rw[s,gQm] at m
  obtain⟨x,j,rfl⟩:=oQm.mp m
  obtain⟨b,S2,A,rfl,h4,h5⟩:=w x (mQg j) a h3
  refine⟨b,S2,A,nc ?_⟩
  rw[Qhq rfl]
  refine h5.mono λy r B=> ?_
  obtain⟨t,z⟩:=B
  subst t z
  have H:=(gQs.mp j).1
  refine⟨?_,rfl,?_,h4⟩
  ·rw[lQm,Qxq]
   exact bq (by omega)
  ·rw[QYq,j]
   simp
 ·obtain⟨rfl,rfl,_⟩:=h
  have e:p.1.length=xs.length:=by rw[s,lQm]
  show Q ((xs.take p.1.length).map G) _
  rw[e,QEq]
  exact q
def cW{S:aE}{d:D}{Q:Res->aE->Prop}(hd:∀k,d≠.ref k)(a:cu 0 d=true)(q:Q (.d d) S):Op (settle S d S) λp=>Q p.1 p.2:=iL vk (QEq) hd (dY a) q
def GD{S:aE}{ds:List D}{Q:Res->aE->Prop}(a:cg 0 ds=true)(q:Q (.l ds) S):Op (eJ S ds S) λp=>Q p.1 p.2:=pM vk (QEq) (jS a) q
end DL
namespace W28
open PySem PySem.Spec L2 DL
structure cz where
 room:Int
 deed:Int
 row:Int
 given:Int
 told:Int
structure de where
 vals:List Int
 within:Int
 row:List Int
 ag:List Int
 aa:List (List (Int×Int))
structure bE where
 aj:List de
 ai:List (Int×List Int)
 ak:List Int
 af:List (List Int×List cz)
def dq(l:List Int):D:=.tup (l.map D.int)
def cz.d(f:cz):D:=.tup [.int f.room,.int f.deed,.int f.row,.int f.given,.int f.told]
def pairD(p:Int×Int):D:=.tup [.int p.1,.int p.2]
def e_(l:List (Int×Int)):D:=.tup (l.map pairD)
def de.d(r:de):D:=.tup [dq r.vals,.int r.within,dq r.row,dq r.ag,.tup (r.aa.map e_)]
def Ik(p:Int×List Int):D:=.tup [.int p.1,dq p.2]
def tw(h:List Int×List cz):D:=.tup [dq h.1,.tup (h.2.map cz.d)]
def bE.d(s:bE):D:=.tup [.tup (s.aj.map de.d),.tup (s.ai.map Ik),dq s.ak,.tup (s.af.map tw)]
def mQ(l:List Int):cu 0 (dq l)=true:=by simp only[dq,cu];exact bf λ_ _=>rfl
def wm(l:List (Int×Int)):cu 0 (e_ l)=true:=by simp only[e_,cu];exact bf λ_ _=>rfl
def de.low(r:de):cu 0 r.d=true:=by
 simp only[de.d,cu,cg,mQ,Bool.and_true,Bool.true_and]
 exact bf λl _=>wm l
def MA(p:Int×List Int):cu 0 (Ik p)=true:=by simp only[Ik,cu,cg,mQ,Bool.and_true]
def Dv(h:List Int×List cz):cu 0 (tw h)=true:=by
 simp only[tw,cu,cg,mQ,Bool.and_true,Bool.true_and]
 exact bf λ_ _=>rfl
def bE.low(s:bE):cu 0 s.d=true:=by
 simp only[bE.d,cu,cg,mQ,Bool.and_true,Bool.true_and,QCq]
 exact⟨bf λr _=>r.low,bf λp _=>MA p,bf λh _=>Dv h⟩
def bN(ts:List (Str×Nat)):List Int:=ts.map λp=>(p.2:Int)
def cq(r:Rm):de:=⟨bN r.ao,-1,[],[],r.aa.map λ_=> []⟩
def xp:cz:=⟨-1,-1,0,0,0⟩
def df(w:dE):bE:=⟨w.aj.map cq,w.ai.map λp=>((p.2:Int),[]),bN w.ak,w.af.map λh=>(bN h.1,[xp])⟩
section
variable{S:aE}{Q:Res->aE->Prop}
def kA{ts:List (Str×Nat)}(l:ts.length<=1000)(h:Q (.d (dq (bN ts))) S):Fn gP [.tup (ts.map lP)] S Q:=by
 refine bZ ?_
 unfold oP
 symm
 apply Lh (λc=>∃a b,c= [a,b]) (λd=>match d with|.tup [_,v]=>v|d=>d) ⟨none,none,rfl⟩ ?_
 refine⟨trivial,by simpa using l,λd g c f=> ?_,?_⟩
 ·obtain⟨p,_,rfl⟩:=Qkq.mp g
  obtain⟨a,b,rfl⟩:=f
  refine gc rfl (aA (aV (aA (aV (bA ?_)))))
  apply⟨rfl,⟨_,_,rfl⟩,?_⟩
  exact⟨rfl,rfl⟩
 ·have e:(ts.map lP).map (λd=>match d with|.tup [_,v]=>v|d=>d)=(bN ts).map D.int:=by
   simp only[bN,QPq]
   rfl
  rw[e]
  exact cW (d:=dq (bN ts)) (λk z=>(nomatch z)) (mQ _) h
def w6{r:Rm}(a:r.ao.length<=6)(b:r.aa.length<=6)(h:Q (.d (cq r).d) S):Fn jq [r.d] S Q:=by
 refine bZ ?_
 unfold mU
 symm
 apply gc rfl (aA (aV (aA (aV (aA (aV (aA (aV (aA (aV (bA ?_)))))))))))
 apply kA (by omega) ?_
 apply⟨by decide,?_⟩
 apply⟨by decide,?_⟩
 apply DB (λ_=>.tup []) ?_
 refine⟨trivial,by simp;omega,λd c=> ?_,?_⟩
 ·symm
  exact⟨by decide,rfl,rfl⟩
 ·symm
  refine⟨by show 5<=_;decide,?_⟩
  have e:D.tup ((r.aa.map ze).map λ_=>D.tup [])=D.tup ((cq r).aa.map e_):=by
   simp only[cq,QPq]
   rfl
  rw[e]
  exact cW (d:=(cq r).d) (λk z=>(nomatch z)) (de.low _) h
def HJ{w:dE}(o:eW w)(h:Q (.d (df w).d) S):Fn zU [w.d] S Q:=by
 refine bZ ?_
 unfold DH
 symm
 apply gc rfl (aA (aV (aA (aV (aA (aV (aA (aV (bA ?_)))))))))
 apply⟨by decide,?_⟩
 have l:=o.l1
 have q:=o.l2
 have m:=o.l3
 have n:=o.l4
 apply iU (α:=Rm) (λc=>∃a,c= [a]) Rm.d (λr=>(cq r).d) ⟨none,rfl⟩ ?_
 refine⟨w.aj,rfl,trivial,by omega,λr f c e=> ?_,?_⟩
 ·obtain⟨a,rfl⟩:=e
  apply aV ⟨rfl,⟨_,rfl⟩,?_⟩
  exact w6 (o.rm r f).l1 (o.rm r f).l2 ⟨rfl,rfl⟩
 symm
 apply iU (α:=Str×Nat) (λc=>∃a b,c= [a,b]) lP (λp=>Ik ((p.2:Int),[])) ⟨none,none,rfl⟩ ?_
 refine⟨w.ai,rfl,trivial,by omega,λr f c e=> ?_,?_⟩
 ·obtain⟨a,b,rfl⟩:=e
  refine gc rfl (aA (aV (aA (aV (bA ?_)))))
  apply⟨rfl,⟨_,_,rfl⟩,?_⟩
  apply⟨by decide,?_⟩
  exact⟨by show 2<=_;decide,rfl,rfl⟩
 symm
 apply kA (by omega) ?_
 apply iU (α:=List (Str×Nat)×List Rw) (λc=>∃a b,c= [a,b,some xp.d]) eY (λh=>tw (bN h.1,[xp])) ⟨none,none,rfl⟩ ?_
 refine⟨w.af,rfl,trivial,by omega,λr f c e=> ?_,?_⟩
 ·obtain⟨a,b,rfl⟩:=e
  refine gc rfl (aA (aV (aA (aV (bA ?_)))))
  apply⟨rfl,⟨_,_,rfl⟩,?_⟩
  refine kA (by have:=(o.hd r f).l1;omega) ?_
  symm
  refine⟨by show 1<=_;decide,?_⟩
  symm
  exact⟨by show 2<=_;decide,rfl,rfl⟩
 symm
 refine⟨by show 4<=_;decide,?_⟩
 have j:w.aj.map (λr=>(cq r).d)=(df w).aj.map de.d:=by simp only[df,QPq];rfl
 have g:w.ai.map (λp=>Ik ((p.2:Int),[]))=(df w).ai.map Ik:=by simp only[df,QPq];rfl
 have i:w.af.map (λh=>tw (bN h.1,[xp]))=(df w).af.map tw:=by simp only[df,QPq];rfl
 rw[j,g,i]
 exact cW (d:=(df w).d) (λk z=>(nomatch z)) (bE.low _) h
end
end W28
namespace DL
open PySem PySem.Spec L2
section
variable{Γ:cB}{S:aE}
def ke{f:bH}{Q:D->aE->Prop}(h:E f Γ S λd a=>∃i,d=.int i/\Q (.int (-i)) a):E (h_ f) Γ S Q:=by
 obtain⟨d,a,b,i,rfl,q⟩:=h
 exact⟨_,a,by unfold h_;rw[b];rfl,q⟩
def dz{Q:Option Int->aE->Prop}(q:Q none S):E uT Γ S Q:=⟨_,_,rfl,q⟩
def dF{f:bH}{Q:Option Int->aE->Prop}(h:E f Γ S λd a=>∃i,d=.int i/\Q (some i) a):E (ur f) Γ S Q:=by
 obtain⟨d,a,b,i,rfl,q⟩:=h
 exact⟨_,a,by unfold ur;rw[b];rfl,q⟩
def nq{f:bH}{lo hi:MI}{Q:D->aE->Prop}(h:E f Γ S λd b=>E lo Γ b λl S2=>E hi Γ S2 λu a=>∃ds,d=.tup ds/\Q (.tup (kE ds l u)) a):E (ud f lo hi) Γ S Q:=by
 obtain⟨d,b,g,l,S2,c,u,a,e,ds,rfl,q⟩:=h
 exact⟨_,a,by unfold ud;rw[g];simp only[Qbq];rw[c];simp only[Qbq];rw[e];rfl,q⟩
def Ng{i j:Nat}{f:ie}{Q:Out->Prop}(h:E f Γ S λds c=>∃a b,ds= [a,b]/\Q (.nx ((Γ.set i (some a)).set j (some b)) c)):T (Ke i j f) Γ S Q:=by
 obtain⟨ds,c,d,a,b,rfl,q⟩:=h
 exact⟨_,by unfold Ke;rw[d];rfl,q⟩
end
def Ia{α:Type}{xs:List α}{i:Nat}(h:i<=xs.length):kE xs none (some (i:Int))=xs.take i:=by
 unfold kE
 rw[HT.vH,HT.Eg,Nat.min_eq_left h]
 simp
def jR{α:Type}{xs:List α}{i:Nat}(h:i<=xs.length):kE xs (some (i:Int)) none=xs.drop i:=by
 unfold kE
 rw[HT.vH,HT.Eg,Nat.min_eq_left h]
 rw[List.take_of_length_le]
 simp
def AI{α:Type}{xs:List α}(h:0<xs.length):kE xs none (some (-1))=xs.dropLast:=by
 unfold kE
 rw[HT.vH]
 show(xs.drop 0).take (HT.fN xs.length xs.length (some (-1))-0)=_
 rw[show HT.fN xs.length xs.length (some (-1))=xs.length-1 by simp only[HT.fN];rw[Qhq (by omega)];omega]
 simp[List.dropLast_eq_take]
def wG{α:Type}{xs:List α}{x:α}(h:xs.getLast? =some x):kj xs (-1)=some x:=by
 have c:0<xs.length:=by
  cases xs with
  |nil=>cases h
  |cons a b=>simp
 unfold kj CD
 rw[Quq (by omega),Qhq (by omega)]
 rw[List.getLast?_eq_getElem?] at h
 simp only[Qbq]
 rw[show((-1:Int)+(xs.length:Int)).toNat=xs.length-1 by omega]
 exact h
end DL
namespace W28
open PySem PySem.Spec L2 DL
section
variable{S:aE}{Q:Res->aE->Prop}
def cm{s:bE}{h:Nat}{vs:List Int}{fs:List cz}{f:cz}(a:s.af[h]?=some (vs,fs))(b:fs.getLast? =some f)(q:Q (.d f.d) S):Fn c7 [s.d,.int h] S Q:=by
 refine bZ ?_
 unfold mK
 symm
 apply ay rfl ?_
 refine ay (d:=tw (vs,fs)) (aW (by rw[gQm,a];rfl)) ?_
 symm
 refine ay rfl ?_
 apply ke ?_
 refine⟨1,rfl,?_⟩
 refine ay (d:=f.d) (wG (by rw[QfQ,b];rfl)) ?_
 exact cW (λk z=>(nomatch z)) rfl q
def progOf(w:dE)(h:Nat)(f:cz):Option (List Rw):=
 if f.room= -1 then(w.af[h]?).map (·.2) else if 0<=f.room/\0<=f.deed then(w.aj[f.room.toNat]?).bind λr=>(r.ae[f.deed.toNat]?).map (·.2) else none
def iK{α:Type}{xs:List α}{i:Int}{x:α}(a:0<=i)(h:xs[i.toNat]?=some x):kj xs i=some x:=by
 obtain⟨n,rfl⟩:∃n:Nat,i=n:=⟨i.toNat,by omega⟩
 exact aW (by simpa using h)
def vL(rs:List Rw):cu 0 (.tup (rs.map Rw.d))=true:=by simp only[cu];exact bf λr _=>r.low
def gW{w:dE}{h:Nat}{f:cz}{pr:List Rw}(a:progOf w h f=some pr)(q:Q (.d (.tup (pr.map Rw.d))) S):Fn fV [w.d,.int h,f.d] S Q:=by
 refine bZ ?_
 unfold sT
 apply aI (Ng ?_)
 apply ay rfl ?_
 apply ay rfl ?_
 apply⟨_,_,rfl,?_⟩
 refine dR ?_
 dsimp only[a9,aN,a7,bR,bU,eZ]
 unfold progOf at a
 by_cases c:f.room= -1
 ·rw[Qhq c] at a
  obtain⟨j,b,rfl⟩:=oQm.mp a
  rw[Qeq c,Qhq rfl]
  symm
  apply ay rfl ?_
  refine ay (d:=eY j) (aW (by rw[gQm,b];rfl)) ?_
  symm
  refine ay rfl ?_
  exact cW (λk z=>(nomatch z)) (vL _) q
 ·rw[Quq c] at a
  split at a
  ·rename_i e
   obtain⟨r,b,a⟩:=au a
   obtain⟨g,i,rfl⟩:=oQm.mp a
   rw[Qdq c,Quq (by decide)]
   symm
   apply ay rfl ?_
   refine ay (d:=r.d) (iK e.1 (by rw[gQm,b];rfl)) ?_
   symm
   apply ay rfl ?_
   refine ay (d:=g7 g) (iK e.2 (by rw[gQm,i];rfl)) ?_
   symm
   refine ay rfl ?_
   exact cW (λk z=>(nomatch z)) (vL _) q
  ·cases a
def ft{xs:List D}{i:Nat}{d:D}(hi:i<xs.length)(m:xs.length<=900)(f:cg 0 xs=true)(g:cu 0 d=true)(q:Q (.d (.tup (xs.set i d))) S):Fn dP [.tup xs,.int i,d] S Q:=by
 refine bZ ?_
 unfold pD
 symm
 apply nq ?_
 apply dz (dF ?_)
 apply⟨_,rfl,_,rfl,?_⟩
 refine⟨by show 1<=_;decide,?_⟩
 rw[Ia (by omega)]
 refine fo (by simp only[Qxq,Qnq,QGq];exact nQl (bq (by omega))) ?_
 apply nq ?_
 apply dF ?_
 refine⟨_,rfl,dz ⟨_,rfl,?_⟩⟩
 rw[show((i:Int)+1)=((i+1:Nat):Int) by omega,jR (by omega)]
 refine fo (by simp only[lQa,Qxq,List.length_drop,Qnq,QGq];exact nQl (bq (by omega))) ?_
 have e:xs.take i++ [d]++xs.drop (i+1)=xs.set i d:=by
  rw[List.set_eq_take_append_cons_drop,Qhq hi]
  simp
 rw[e]
 refine cW (λk z=>(nomatch z)) ?_ q
 simp only[cu]
 refine z9 λz b=> ?_
 rcases QTq b with b|rfl
 ·have c:∀l:List D,cg 0 l=true->∀z∈l,cu 0 z=true:=by
   intro l
   induction l with
   |nil=>intro _ z b;cases b
   | cons a l j=>
     intro h z b
     simp only[cg,QCq] at h
     rcases Qsq.mp b with rfl|b
     · exact h.1
     · exact j h.2 z b
  exact c xs f z b
 ·exact g
end
section
variable{S:aE}{Q:Res->aE->Prop}
def map_set{α b:Type}(f:α->b)(l:List α)(i:Nat)(a:α):(l.set i a).map f=(l.map f).set i (f a):=by
 rw[List.map_set]
def bt(s:bE):∀k,s.d≠.ref k:=λk z=>(nomatch z)
def dH{s:bE}{i:Nat}{r:de}(hi:i<s.aj.length)(a:s.aj.length<=900)(q:Q (.d ({s with aj:=s.aj.set i r}:bE).d) S):Fn dk [s.d,.int i,r.d] S Q:=by
 refine bZ ?_
 unfold pe
 symm
 apply ay rfl ?_
 apply ft (by simpa using hi) (by simpa using a) (bf λr _=>r.low) r.low ?_
 refine⟨by show 1<=_;decide,?_⟩
 apply nq ?_
 apply dF ?_
 refine⟨_,rfl,dz ⟨_,rfl,?_⟩⟩
 refine fo (by show 4<=_;decide) ?_
 refine cW (d:=({s with aj:=s.aj.set i r}:bE).d) (bt _) (bE.low _) q|>λz=> ?_
 rw[←map_set]
 exact z
def iI{s:bE}{i:Nat}{vs:List Int}{fs:List cz}(hi:i<s.af.length)(a:s.af.length<=900)(q:Q (.d ({s with af:=s.af.set i (vs,fs)}:bE).d) S):Fn fR [s.d,.int i,dq vs,.tup (fs.map cz.d)] S Q:=by
 refine bZ ?_
 unfold oU
 apply eV (aY (nq ?_))
 apply dz (dF ?_)
 apply⟨_,rfl,_,rfl,?_⟩
 apply ay rfl ?_
 refine⟨by show 2<=_;decide,?_⟩
 symm
 apply ft (d:=tw (vs,fs)) (by simpa using hi) (by simpa using a) (bf λr _=>Dv r) (Dv (vs,fs)) ?_
 refine⟨by show 1<=_;decide,?_⟩
 refine fo (by show 4<=_;decide) ?_
 refine cW (d:=({s with af:=s.af.set i (vs,fs)}:bE).d) (bt _) (bE.low _) q|>λz=> ?_
 rw[←map_set]
 exact z
def iS{s:bE}{h:Nat}{vs:List Int}{fs:List cz}{f:cz}(a:s.af[h]?=some (vs,fs))(c:0<fs.length)(g:fs.length<=900)(b:s.af.length<=900)(q:Q (.d ({s with af:=s.af.set h (vs,fs.dropLast++ [f])}:bE).d) S):Fn dX [s.d,.int h,f.d] S Q:=by
 refine bZ ?_
 unfold gR
 symm
 apply ay rfl ?_
 refine ay (d:=tw (vs,fs)) (aW (by rw[gQm,a];rfl)) ?_
 apply gc rfl (aA (aV (aA (aV (bA ?_)))))
 apply nq ?_
 apply dz (dF (ke ?_))
 apply⟨1,rfl,_,rfl,_,rfl,?_⟩
 refine⟨by show 1<=_;decide,?_⟩
 rw[AI (by simpa using c)]
 refine fo (by simp only[List.length_dropLast,lQm,Qnq,QGq];exact nQl (bq (by omega))) ?_
 symm
 have e:(fs.map cz.d).dropLast++ [f.d]=(fs.dropLast++ [f]).map cz.d:=by rw[Qzq,List.map_dropLast];rfl
 rw[e]
 refine iI (gQs.mp a).1 b ?_
 exact cW (bt _) (bE.low _) q
def sM{s:bE}{h:Nat}{vs:List Int}{fs:List cz}{f:cz}{n:Int}(c:s.af[h]?=some (vs,fs))(e:fs.getLast? =some f)(j:fs.length<=900)(g:s.af.length<=900)(q:Q (.d ({s with af:=s.af.set h (vs,fs.dropLast++ [{f with row:=n}])}:bE).d) S):Fn lD [s.d,.int h,.int n] S Q:=by
 refine bZ ?_
 unfold zC
 symm
 apply cm c e ?_
 apply nq ?_
 apply dz (dF ?_)
 apply⟨_,rfl,_,rfl,?_⟩
 refine⟨by show 1<=_;decide,?_⟩
 refine fo (by show 3<=_;decide) ?_
 apply nq ?_
 apply dF ?_
 refine⟨_,rfl,dz ⟨_,rfl,?_⟩⟩
 refine fo (by show 5<=_;decide) ?_
 symm
 have i:0<fs.length:=by
  cases fs with
  |nil=>cases e
  |cons a b=>simp
 refine iS (f:={f with row:=n}) c i j g ?_
 exact cW (bt _) (bE.low _) q
def gD(r:de)(h:Int):de:=if r.within= -1 then{r with within:=h} else{r with row:=r.row++ [h]}
def dt(r:de):de:=match r.ag,r.row with
 |a::l,_=>{r with within:=a,ag:=l}
 | [],a::l=>{r with within:=a,row:=l}
 | [],[]=>{r with within:= -1}
def vN{s:bE}{i:Nat}{h:Int}{r:de}(b:s.aj[i]?=some r)(a:s.aj.length<=900)(lr:r.row.length<=900)(q:Q (.d ({s with aj:=s.aj.set i (gD r h)}:bE).d) S):Fn m_ [s.d,.int i,.int h] S Q:=by
 have f:=(gQs.mp b).1
 refine bZ ?_
 unfold vc
 symm
 apply ay rfl ?_
 refine ay (d:=r.d) (aW (by rw[gQm,b];rfl)) ?_
 apply gc rfl (aA (aV (aA (aV (aA (aV (aA (aV (aA (aV (bA ?_)))))))))))
 refine dR ?_
 dsimp only[a9,aN,a7,bR,bU,eZ]
 unfold gD at q
 by_cases c:r.within= -1
 ·rw[Qhq c] at q
  rw[Qeq c,Qhq rfl]
  symm
  refine⟨by show 5<=_;decide,?_⟩
  symm
  refine dH (r:={r with within:=h}) f a ?_
  exact cW (bt _) (bE.low _) q
 ·rw[Quq c] at q
  rw[Qdq c,Quq (by decide)]
  symm
  refine⟨by show 1<=_;decide,?_⟩
  refine fo (by simp only[lQm,Qnq,QGq];exact nQl (bq (by omega))) ?_
  symm
  refine⟨by show 5<=_;decide,?_⟩
  symm
  have e:D.tup (r.row.map D.int++ [D.int h])=dq (r.row++ [h]):=by simp[dq]
  rw[e]
  refine dH (r:={r with row:=r.row++ [h]}) f a ?_
  exact cW (bt _) (bE.low _) q
end
section
variable{S:aE}{Q:Res->aE->Prop}
def AU{α:Type}{a:α}{l:List α}:kj (a::l) 0=some a:=aW (j:=0) rfl
def CF{S:aE}{ds:List D}{Q:Bool->Prop}(q:Q (!ds.isEmpty)):Op (C_ S (.tup ds)) Q:=⟨_,rfl,q⟩
def BE{s:bE}{i:Nat}{r:de}(m:s.aj[i]?=some r)(h:s.aj.length<=900)(q:Q (.d ({s with aj:=s.aj.set i (dt r)}:bE).d) S):Fn rX [s.d,.int i] S Q:=by
 have k:=(gQs.mp m).1
 refine bZ ?_
 unfold CJ
 symm
 apply ay rfl ?_
 refine ay (d:=r.d) (aW (by rw[gQm,m];rfl)) ?_
 refine gc rfl (aA (aV (aA (aV (aA (aV (aA (aV (aA (aV (bA ?_)))))))))))
 obtain⟨b,g,f,n,j⟩:=r
 symm
 refine CF ?_
 cases n with
 | cons a l=>
   apply aK (λ_=> ?_) (λc=>by cases c)
   apply ay (d:=.int a) AU ?_
   apply nq ?_
   apply dF ?_
   apply⟨_,rfl,dz ⟨_,rfl,?_⟩⟩
   refine⟨by show 5<=_;decide,?_⟩
   symm
   have e:D.tup (kE ((a::l).map D.int) (some 1) none)=dq l:=by
     rw[show(some (1:Int))=some ((1:Nat):Int) from rfl,jR (by simp)]
     rfl
   rw[e]
   refine dH (r:=⟨b,a,f,l,j⟩) k h ?_
   exact cW (bt _) (bE.low _) q
 | nil=>
   refine aK (λc=>by cases c) (λ_=> ?_)
   apply bX ?_
   refine CF ?_
   cases f with
   | cons a l=>
     apply aK (λ_=> ?_) (λc=>by cases c)
     apply ay (d:=.int a) AU ?_
     apply nq ?_
     apply dF ?_
     apply⟨_,rfl,dz ⟨_,rfl,?_⟩⟩
     refine⟨by show 5<=_;decide,?_⟩
     symm
     have e:D.tup (kE ((a::l).map D.int) (some 1) none)=dq l:=by
       rw[show(some (1:Int))=some ((1:Nat):Int) from rfl,jR (by simp)]
       rfl
     rw[e]
     refine dH (r:=⟨b,a,l,[],j⟩) k h ?_
     exact cW (bt _) (bE.low _) q
   | nil=>
     refine aK (λc=>by cases c) (λ_=> ?_)
     apply bX ?_
     refine⟨by show 5<=_;decide,?_⟩
     symm
     refine dH (r:=⟨b,-1,[],[],j⟩) k h ?_
     exact cW (bt _) (bE.low _) q
def fU{α:Type}{enc:α->D}{nm:α->Str}{xs:List α}(he:∀a,∃r,enc a=.tup (.str (nm a)::r))(d:xs.length<=1000)(q:Q (.l ((xs.map nm).map D.str)) S):Fn eR [.tup (xs.map enc)] S Q:=by
 refine bZ ?_
 unfold rp
 symm
 apply iU (α:=α) (λb=>∃a,b= [a]) enc (λa=>.str (nm a)) ⟨none,rfl⟩ ?_
 refine⟨xs,rfl,trivial,d,λr f b c=> ?_,?_⟩
 ·obtain⟨a,rfl⟩:=c
  refine aV ⟨rfl,⟨_,rfl⟩,?_⟩
  obtain⟨g,e⟩:=he r
  rw[e]
  symm
  exact ay AU ⟨rfl,rfl⟩
 ·have e:xs.map (λa=>D.str (nm a))=(xs.map nm).map D.str:=by rw[QPq];rfl
  rw[e]
  exact GD (bf λ_ _=>rfl) q
theorem gK:∀ss:List Str,qt (ss.map D.str)=some (ss.map V.str)
 | []=>rfl
 |s::ss=>by simp only[QDq,qt,xc,Qbq];rw[gK ss];rfl
theorem uG{x:Str}:∀{ns:List Str},x∈ns->∃j,qg (.str x) (ns.map V.str)=some j/\ns[j]?=some x
 | [],h=>by cases h
 | n::ns,h=>by
   by_cases c:n=x
   · subst c
     exact⟨0,by simp[qg,uM],rfl⟩
   · obtain⟨j,a,b⟩:=uG (ns:=ns) ((Qsq.mp h).resolve_left (Ne.symm c))
     exact⟨j+1,by simp only[QDq,qg];rw[a];simp[uM,c],by simpa using b⟩
end
end W28
namespace DL
open PySem PySem.Spec L2
section
variable{Γ:cB}{S:aE}
def vn{T:String}{f:bH}{Q:D->aE->Prop}(h:E f Γ S λd a=>Op (J8 a T d) λk=>Q (.bl k) a):E (oJ T f) Γ S Q:=by
 obtain⟨d,a,c,k,b,q⟩:=h
 exact⟨_,a,by unfold oJ;rw[c];simp only[Qbq];rw[b];rfl,q⟩
def se{b:Bool}{Q:Bool->Prop}(q:Q b):Op (C_ S (.bl b)) Q:=⟨_,rfl,q⟩
def Jn{f g:bH}{Q:D->aE->Prop}(h:E f Γ S λx b=>E g Γ b λy S2=>∃k a z v,x=.ref k/\y=.str z/\S2[k]?=some (.dct a)/\iC a (.inr z)=some v/\Q v S2):E (LV f g) Γ S Q:=by
 obtain⟨x,b,d,y,S2,c,k,a,z,v,rfl,rfl,h1,h2,q⟩:=h
 exact⟨v,S2,by unfold LV;rw[d];simp only[Qbq];rw[c];simp only[Qbq,h1,w_,h2],q⟩
def mh{i j:Int}{Q:D->Prop}(q:Q (.bl (!decide (i=j)))):Op (du true S (.int i) (.int j)) Q:=⟨_,by simp[du,xc,C6],q⟩
def Ih{i j:Int}{Q:D->Prop}(q:Q (.int (if j<i then j else i))):Op (minD [.int i,.int j]) Q:=⟨_,rfl,q⟩
def G1{i j:Int}{Q:D->Prop}(q:Q (.int (if j>i then j else i))):Op (maxD [.int i,.int j]) Q:=⟨_,rfl,q⟩
end
end DL
namespace W28
open PySem PySem.Spec L2 DL
def KJ(o:Str)(a b:Int):Int:=
 if o="plus" then(if 9<a+b then 9 else a+b) else if o="minus" then(if 0>a-b then 0 else a-b) else if o="less" then(if a<b then 1 else 0)
 else if o="same" then(if a=b then 1 else 0) else(if a≠0/\b≠0 then 1 else 0)
def oa(th wt:Str->Int):Tr->Int
 |.num n=>n
 |.word x=>th x
 |.waits b=>if 0<wt b then 1 else 0
 |.no t=>if oa th wt t=0 then 1 else 0
 |.two o a b=>KJ o (oa th wt a) (oa th wt b)
def Gd{o:Str}{a b:Int}(c:0<=a/\a<=9)(d:0<=b/\b<=9):0<=KJ o a b/\KJ o a b<=9:=by
 unfold KJ
 repeat' split
 all_goals omega
theorem iJ{th wt:Str->Int}{ws bs:List Str}(h:∀x∈ws,0<=th x/\th x<=9):∀{t:Tr},t.Ok ws bs->0<=oa th wt t/\oa th wt t<=9
 |.num n,ho=>by have:n<=9:=ho;simp only[oa];omega
 |.word x,ho=>h x ho
 |.waits b,_=>by simp only[oa];split <;>omega
 |.no t,_=>by simp only[oa];split <;>omega
 |.two o a b,ho=>Gd (iJ h ho.2.1) (iJ h ho.2.2)
section
variable{S:aE}{Q:Res->aE->Prop}
def cX{S:aE}{i:Int}{Q:Res->aE->Prop}(q:Q (.d (.int i)) S):Op (settle S (.int i) S) λp=>Q p.1 p.2:=cW (λk z=>(nomatch z)) rfl q
def uz{o:Str}{a b:Int}(q:Q (.d (.int (KJ o a b))) S):Fn gX [.str o,.int a,.int b] S Q:=by
 refine bZ ?_
 unfold jI
 unfold KJ at q
 symm
 refine gE ?_
 dsimp only[a9,aN,a7,bR,bU,eZ]
 by_cases i:o="plus"
 ·rw[Qhq i] at q
  rw[Qeq i,Qhq rfl]
  symm
  refine Ih ?_
  exact cX q
 rw[Quq i] at q
 rw[Qdq i,Quq (by decide)]
 apply bX ?_
 refine gE ?_
 dsimp only[a9,aN,a7,bR,bU,eZ]
 by_cases h:o="minus"
 ·rw[Qhq h] at q
  rw[Qeq h,Qhq rfl]
  symm
  refine G1 ?_
  exact cX q
 rw[Quq h] at q
 rw[Qdq h,Quq (by decide)]
 apply bX ?_
 refine gE ?_
 dsimp only[a9,aN,a7,bR,bU,eZ]
 by_cases g:o="less"
 ·rw[Qhq g] at q
  rw[Qeq g,Qhq rfl]
  symm
  by_cases c:a<b
  ·rw[Qhq c] at q
   rw[Qeq c,Qhq rfl]
   symm
   exact cX q
  ·rw[Quq c] at q
   rw[Qdq c,Quq (by decide)]
   symm
   exact cX q
 rw[Quq g] at q
 rw[Qdq g,Quq (by decide)]
 apply bX ?_
 refine gE ?_
 dsimp only[a9,aN,a7,bR,bU,eZ]
 by_cases e:o="same"
 ·rw[Qhq e] at q
  rw[Qeq e,Qhq rfl]
  symm
  refine dR ?_
  dsimp only[a9,aN,a7,bR,bU,eZ]
  by_cases c:a=b
  ·rw[Qhq c] at q
   rw[Qeq c,Qhq rfl]
   symm
   exact cX q
  ·rw[Quq c] at q
   rw[Qdq c,Quq (by decide)]
   symm
   exact cX q
 rw[Quq e] at q
 rw[Qdq e,Quq (by decide)]
 apply bX ?_
 refine mh ?_
 dsimp only[a9,aN,a7,bR,bU,eZ]
 by_cases j:a=0
 ·rw[Quq (λz=>z.1 j)] at q
  rw[Qeq j]
  show if (false=true) then _ else _
  rw[Quq (by decide)]
  show if (false=true) then _ else _
  rw[Quq (by decide)]
  symm
  exact cX q
 ·rw[Qdq j]
  show if (true=true) then _ else _
  rw[Qhq rfl]
  symm
  refine mh ?_
  dsimp only[a9,aN,a7,bR,bU,eZ]
  by_cases f:b=0
  ·rw[Quq (λz=>z.2 f)] at q
   rw[Qeq f]
   show if (false=true) then _ else _
   rw[Quq (by decide)]
   symm
   exact cX q
  ·rw[Qhq ⟨j,f⟩] at q
   rw[Qdq f]
   show if (true=true) then _ else _
   rw[Qhq rfl]
   symm
   exact cX q
end
def b_{a:cB}{S:aE}{T:String}{f:bH}{d:D}{b:Bool}{Q:Bool->aE->Prop}(h:E f a S λx c=>x=d/\c=S)(hd:J8 S T d=some b)(q:Q b S):E (j0 (oJ T f)) a S Q:=by
 refine Ct (vn (h.mono λx c e=> ?_))
 obtain⟨i,g⟩:=e
 subst i g
 exact⟨b,hd,se q⟩
def Eb{o:Str}(h:o∈ops):o≠"waits" /\o≠"not":=by
 simp only[ops,Qsq,QXq,or_false] at h
 rcases h with rfl|rfl|rfl|rfl|rfl <;>exact⟨by decide +kernel,by decide +kernel⟩
theorem g8{th wt:Str->Int}{ws bs:List Str}{i j:Nat}{e kws:List (Key×D)}{S:aE}(hi:S[i]?=some (.dct e))(f:S[j]?=some (.dct kws))(g:∀x∈ws,iC e (.inr x)=some (.int (th x)))(h:∀b∈bs,iC kws (.inr b)=some (.int (wt b))):
  ∀(n:Nat) (t:Tr) {Q:Res->aE->Prop},t.Ok ws bs->t.dep<=n->Q (.d (.int (oa th wt t))) S->Fn (gM n) [t.d,.ref i,.ref j] S Q
 |0,t,Q,_,hd,_=>by cases t <;>simp[Tr.dep] at hd
 | n+1,t,Q,ho,hd,q=>by
   refine bZ ?_
   unfold rf
   cases t with
   | num v=>
     refine aI (bP (b_ (d:=.int v) (aw rfl ⟨rfl,rfl⟩) rfl ?_))
     apply aK (λ_=> ?_) (λc=>by cases c)
     exact cX q
   | word x=>
     refine aI (bP (b_ (d:=.str x) (aw rfl ⟨rfl,rfl⟩) rfl ?_))
     refine aK (λc=>by cases c) (λ_=>bX ?_)
     refine aI (bP (b_ (d:=.str x) (aw rfl ⟨rfl,rfl⟩) rfl ?_))
     refine aK (λ_=> ?_) (λc=>by cases c)
     apply eV (Jn ?_)
     refine⟨_,_,_,_,rfl,rfl,hi,g x ho,?_⟩
     exact cX q
   | waits b=>
     refine aI (bP (b_ (d:=.tup [.str "waits",.str b]) (aw rfl ⟨rfl,rfl⟩) rfl ?_))
     refine aK (λc=>by cases c) (λ_=>bX ?_)
     refine aI (bP (b_ (d:=.tup [.str "waits",.str b]) (aw rfl ⟨rfl,rfl⟩) rfl ?_))
     apply aK (λc=>by cases c) (λ_=>bX ?_)
     apply ay rfl ?_
     refine gE ?_
     dsimp only[a9,aN,a7,bR,bU,eZ]
     rw[Qeq rfl,Qhq rfl]
     symm
     apply Jn ?_
     refine ay rfl ?_
     apply⟨_,_,_,_,rfl,rfl,f,h b ho,?_⟩
     simp only[oa] at q
     by_cases c:0<wt b
     · rw[Qhq c] at q
       rw[Qeq c,Qhq rfl]
       symm
       exact cX q
     · rw[Quq c] at q
       rw[Qdq c,Quq (by decide)]
       symm
       exact cX q
   | no t=>
     have l:t.dep<=n:=by simp only[Tr.dep] at hd;omega
     refine aI (bP (b_ (d:=.tup [.str "not",t.d]) (aw rfl ⟨rfl,rfl⟩) rfl ?_))
     refine aK (λc=>by cases c) (λ_=>bX ?_)
     refine aI (bP (b_ (d:=.tup [.str "not",t.d]) (aw rfl ⟨rfl,rfl⟩) rfl ?_))
     apply aK (λc=>by cases c) (λ_=>bX ?_)
     apply ay rfl ?_
     refine gE ?_
     dsimp only[a9,aN,a7,bR,bU,eZ]
     rw[Qdq (show¬(("not":Str)="waits") by decide +kernel),Quq (by decide)]
     apply bX ?_
     apply ay rfl ?_
     apply g8 hi f g h n t ho l ?_
     apply ay rfl ?_
     refine gE ?_
     dsimp only[a9,aN,a7,bR,bU,eZ]
     rw[Qeq rfl,Qhq rfl]
     symm
     refine dR ?_
     dsimp only[a9,aN,a7,bR,bU,eZ]
     simp only[oa] at q
     by_cases c:oa th wt t=0
     · rw[Qhq c] at q
       rw[Qeq c,Qhq rfl]
       symm
       exact cX q
     · rw[Quq c] at q
       rw[Qdq c,Quq (by decide)]
       symm
       exact cX q
   | two o a b=>
     have m:a.dep<=n:=by simp only[Tr.dep] at hd;omega
     have k:b.dep<=n:=by simp only[Tr.dep] at hd;omega
     obtain⟨r,p⟩:=Eb ho.1
     refine aI (bP (b_ (d:=.tup [.str o,a.d,b.d]) (aw rfl ⟨rfl,rfl⟩) rfl ?_))
     refine aK (λc=>by cases c) (λ_=>bX ?_)
     refine aI (bP (b_ (d:=.tup [.str o,a.d,b.d]) (aw rfl ⟨rfl,rfl⟩) rfl ?_))
     apply aK (λc=>by cases c) (λ_=>bX ?_)
     apply ay rfl ?_
     refine gE ?_
     dsimp only[a9,aN,a7,bR,bU,eZ]
     rw[Qdq r,Quq (by decide)]
     apply bX ?_
     apply ay rfl ?_
     apply g8 hi f g h n a ho.2.1 m ?_
     apply ay rfl ?_
     refine gE ?_
     dsimp only[a9,aN,a7,bR,bU,eZ]
     rw[Qdq p,Quq (by decide)]
     apply bX ?_
     apply ay rfl ?_
     apply ay rfl ?_
     apply g8 hi f g h n b ho.2.2 k ?_
     refine uz ?_
     exact cX q
end W28
namespace DL
open PySem PySem.Spec L2
def xG{l:List (Key×D)}{k:Key}(h:k∈l.map (·.1)):∃d,iC l k=some d/\(k,d)∈l:=by
 unfold iC
 cases e:l.find? λg=>decide (g.1=k) with
 | none=>
   obtain⟨p,b,rfl⟩:=Qkq.mp h
   have:=List.find?_eq_none.mp e p b
   simp at this
 | some p=>
   have c:=List.find?_some e
   have f:=List.mem_of_find?_eq_some e
   have a:p.1=k:=by simpa using c
   exact⟨p.2,rfl,by rw[←a];exact f⟩
def Ca{l:List (Key×D)}{k:Key}{v:D}{p:Key×D}(h:p∈putD l k v):p∈l\/p=(k,v):=by
 unfold putD at h
 split at h
 ·obtain⟨q,a,e⟩:=Qkq.mp h
  split at e
  ·rename_i c
   rw[←e,c]
   exact .inr rfl
  ·rw[←e]
   exact .inl a
 ·rcases mQa.mp h with h|h
  ·exact .inl h
  ·exact .inr (Qfq.mp h)
def jU{l:List (Key×D)}{k x:Key}{v:D}(h:x=k\/x∈l.map (·.1)):x∈(putD l k v).map (·.1):=by
 unfold putD
 split
 ·rename_i c
  have a:∀p∈l,(if p.1=k then(p.1,v) else p).1=p.1:=λp _=>by split <;>rfl
  have e:(l.map λp=>if p.1=k then(p.1,v) else p).map (·.1)=l.map (·.1):=by
   rw[QPq]
   exact List.map_congr_left a
  rw[e]
  rcases h with rfl|h
  ·obtain⟨p,d,b⟩:=List.any_eq_true.mp c
   exact Qkq.mpr ⟨p,d,by simpa using b⟩
  ·exact h
 ·rw[Qzq]
  rcases h with rfl|h
  ·exact Qoq _ (by simp)
  ·exact List.mem_append_left _ h
theorem kW:∀{more l:List (Key×D)} {p:Key×D},p∈bu l more->p∈l\/p∈more
 | [],l,p,h=>.inl h
 | q::more,l,p,h=>by
   rcases kW (more:=more) (l:=putD l q.1 q.2) h with h|h
   · rcases Ca h with h|rfl
     · exact .inl h
     · exact .inr (QBq ..)
   · exact .inr (Qpq _ h)
theorem fm:∀{more l:List (Key×D)} {x:Key},x∈l.map (·.1)\/x∈more.map (·.1)->x∈(bu l more).map (·.1)
 | [],l,x,h=>h.elim id λz=>by cases z
 | q::more,l,x,h=>by
   refine fm (more:=more) (l:=putD l q.1 q.2) ?_
   rcases h with h|h
   · exact .inl (jU (.inr h))
   · rcases Qsq.mp h with rfl|h
     · exact .inl (jU (.inl rfl))
     · exact .inr h
theorem vG:∀ss:List Str,AE (ss.map D.str)=some (ss.map Sum.inr)
 | []=>rfl
 |s::ss=>by simp only[QDq,AE,w_,Qbq];rw[vG ss];rfl
section
variable{Γ:cB}{S:aE}
def N8{Q:D->aE->Prop}(q:Q (.ref S.length) (S++ [.dct []])):E OW Γ S Q:=⟨_,_,rfl,q⟩
def Fh{f g:fw}{Q:D->aE->Prop}(h:E f Γ S λp a=>E g Γ a λr S2=>∃ss:List Str,p.1=ss.map D.str/\(p.2.stays S2 p.1/\p.1.length=r.1.length)/\Q (.ref S2.length) (S2++ [.dct (bu [] ((ss.map Sum.inr).zip r.1))])):E (Kv f g) Γ S Q:=by
 obtain⟨p,a,e,r,S2,b,ss,c,d,q⟩:=h
 refine⟨_,_,?_,q⟩
 unfold Kv
 rw[e]
 simp only[Qbq]
 rw[b]
 simp only[Qbq]
 rw[Qhq d,c,vG]
 rfl
def Og{f g:bH}{Q:D->aE->Prop}(h:E f Γ S λx a=>E g Γ a λy S2=>∃k j b l m,x=.ref k/\y=.ref j/\k≠j/\a[k]?=some (.dct b)/\S2[k]?=some (.dct l)/\S2[j]?=some (.dct m)/\l.length+m.length<=sizeLine/\Q .non (S2.set k (.dct (bu l m)))):E (Ji f g) Γ S Q:=by
 obtain⟨x,a,d,y,S2,c,k,j,b,l,m,rfl,rfl,hn,h0,h1,h2,h3,q⟩:=h
 exact⟨_,_,by unfold Ji;rw[d];simp only[Qbq];rw[c];simp only[Qbq];rw[Qhq hn];simp only[h0,h1,h2];rw[Qhq h3],q⟩
def Od{f g h:bH}{Q:Out->Prop}(w:E h Γ S λd b=>E f Γ b λx S2=>E g Γ S2 λy a=>∃k l z,x=.ref k/\y=.str z/\a[k]?=some (.dct l)/\l.length<sizeLine/\Q (.nx Γ (a.set k (.dct (putD l (.inr z) d))))):T (NV f g h) Γ S Q:=by
 obtain⟨d,b,i,x,S2,c,y,a,e,k,l,z,rfl,rfl,h1,h2,q⟩:=w
 exact⟨_,by unfold NV;rw[i];simp only[Qbq];rw[c];simp only[Qbq];rw[e];simp only[Qbq,h1,w_];rw[Qhq h2],q⟩
def O_{α:Type}{n:Nat}{js:List (Option Nat)}{i:yb}{g:nI}{u w:bH}{Q:Out->Prop}(P:cB->Prop)(enc:α->D)(j:α->Str)(f:α->D)(N:P (pI js Γ)) (h:E i Γ S λp d=>∃xs:List α,p.1=xs.map enc/\p.2 d/\xs.length<=1000∧
   (∀x∈xs,∀b,P b->Tg g (enc x) b d λe S2=>S2=d/\P e/\E u e d λy B=>y=.str (j x)/\B=d/\E w e d λz C=>z=f x/\C=d)∧
   Q (.nx (Γ.set n (some (.ref d.length))) (d++ [.dct (bu [] (xs.map λx=>(Sum.inr (j x),f x)))]))):T (Ni n (rD js i g bK u w)) Γ S Q:=by
 obtain⟨⟨R,W⟩,d,L,xs,rfl,hW,hl,hs,q⟩:=h
 have J:∀(l:List (Key×D)) (k:Key) (v:D),(putD l k v).length<=l.length+1:=λl k v=>by
  unfold putD
  split <;>simp
 have I:∀(m:List α) (b:cB) (c:List (Key×D)),(∀y∈m,y∈xs)->P b->c.length+m.length<=1000->∃r,jC g bK u w W (m.map enc) b d c=some (r,d)/\r=bu c (m.map λx=>(Sum.inr (j x),f x)):=by
  intro m
  induction m with
  |nil=>intro b c _ _ _;exact⟨c,by simp only[List.map_nil,jC];rw[Qhq hW],rfl⟩
  | cons a m F=>
    intro b c A K o
    obtain⟨e,S2,t,rfl,hp1,y,B,e3,rfl,rfl,z,C,e4,rfl,rfl⟩:=hs a (A a (QBq ..)) b K
    have s:=J c (Sum.inr (j a)) (f a)
    simp only[Qnq] at o
    obtain⟨r,H,G⟩:=F e (putD c (Sum.inr (j a)) (f a)) (λy M=>A y (Qpq _ M)) hp1 (by omega)
    refine⟨r,?_,G⟩
    simp only[QDq,jC]
    rw[Qhq hW,t]
    simp only[Qbq,bK,if_true]
    rw[e3]
    simp only[Qbq]
    rw[e4]
    simp only[Qbq,w_]
    rw[Qhq (bq (by omega))]
    exact H
 obtain⟨r,t,rfl⟩:=I xs _ [] (λ_ h=>h) N (by simpa using hl)
 exact⟨_,by unfold Ni rD;rw[L];simp only[Qbq];rw[t];rfl,q⟩
end
def Hx{a:cB}{S:aE}{f g:fw}{Q:(List D×(aE->Prop))->aE->Prop}(h:E f a S λp b=>E g a b λr S2=>(p.2.stays S2 p.1/\p.1.length<=r.1.length)/\Q (Cf p.1 r.1,λS=>p.2.stays S p.1/\r.2.stays S r.1) S2):E (Iz f g) a S Q:=by
 obtain⟨p,b,e,r,S2,d,c,q⟩:=h
 exact⟨_,S2,by unfold Iz;rw[e];simp only[Qbq];rw[d];simp only[Qbq];rw[Qhq c],q⟩
def jh(l:List (Key×D)):Prop:=∀p∈l,∃v:Int,p.2=.int v/\0<=v/\v<=9
def jh.merge{l m:List (Key×D)}(b:jh l)(c:jh m):jh (bu l m):=λp a=>(kW a).elim (b p) (c p)
def jh.put{l:List (Key×D)}{k:Key}{v:Int}(h:jh l)(b:0<=v)(c:v<=9):jh (putD l k (.int v)):=λp a=>by
 rcases Ca a with a|rfl
 ·exact h p a
 ·exact⟨v,rfl,b,c⟩
def numAt(l:List (Key×D))(x:Str):Int:=match iC l (.inr x) with|some (.int v)=>v|_=>0
def g9{l:List (Key×D)}(h:jh l){x:Str}(c:(Sum.inr x:Key)∈l.map (·.1)):iC l (.inr x)=some (.int (numAt l x))/\0<=numAt l x/\numAt l x<=9:=by
 obtain⟨d,b,g⟩:=xG c
 obtain⟨v,a,f,i⟩:=h _ g
 have a:d=.int v:=a
 subst a
 have e:numAt l x=v:=by unfold numAt;rw[b]
 rw[e]
 exact⟨b,f,i⟩
def HR{ss:List Str}{vs:List Int}(h:∀v∈vs,0<=v/\v<=9):jh ((ss.map (Sum.inr:Str->Key)).zip (vs.map D.int)):=λp a=>by
 have c:p.2∈vs.map D.int:=(QeQ (show(p.1,p.2)∈_ from a)).2
 obtain⟨v,b,e⟩:=Qkq.mp c
 exact⟨v,e.symm,h v b⟩
def Ii{ss:List Str}{ds:List D}(h:ss.length=ds.length):((ss.map (Sum.inr:Str->Key)).zip ds).map (·.1)=ss.map Sum.inr:=by
 rw[List.map_fst_zip]
 simpa using Nat.le_of_eq h
end DL
namespace W28
open PySem PySem.Spec L2 DL
def d0(ts:List (Str×Nat))(vs:List Int):List (Key×D):=bu [] (((ts.map (·.1)).map Sum.inr).zip (vs.map D.int))
def qj(w:dE)(s:bE)(ts:List (Str×Nat))(vs:List Int):List (Key×D):=bu (d0 w.ak s.ak) (d0 ts vs)
def ix(r:Rm)(rs:de)(a:Int):List (Key×D):=putD (d0 r.ao rs.vals) (.inr "given") (.int a)
def xD(r:Rm)(rs:de):List (Key×D):=bu [] ((r.aa.zip rs.aa).map λp=>(Sum.inr p.1.1,D.int (p.2.length:Nat)))
def dW{ts:List (Str×Nat)}{vs:List Int}(h:∀v∈vs,0<=v/\v<=9):jh (d0 ts vs):=jh.merge (λp a=>by cases a) (HR h)
def dv{ts:List (Str×Nat)}{vs:List Int}(a:ts.length=vs.length){x:Str}(h:x∈ts.map (·.1)):(Sum.inr x:Key)∈(d0 ts vs).map (·.1):=by
 refine fm (.inr ?_)
 rw[Ii (by simpa using a)]
 exact Qkq.mpr ⟨x,h,rfl⟩
structure rG(S S':aE):Prop where
 len:S.length<=S'.length
 eq:∀j,j<S.length->S'[j]?=S[j]?
def rG.refl{S:aE}:rG S S:=⟨Qmq _,λ_ _=>rfl⟩
def rG.app{S a G:aE}(x:rG S a):rG S (a++G):=⟨by rw[lQa];have:=x.len;omega,λj b=>by rw[QHq (by have:=x.len;omega)];exact x.eq j b⟩
def rG.put{S a:aE}{r:Nat}{o:O}(x:rG S a)(c:S.length<=r):rG S (a.set r o):=⟨by simpa using x.len,λj b=>by rw[QKq (by omega)];exact x.eq j b⟩
def v5{S a:aE}{d:D}{Q:Res->aE->Prop}(x:rG S a)(hd:∀k,d≠.ref k)(c:cu 0 d=true)(q:Q (.d d) S):Op (settle S d a) λp=>Q p.1 p.2:=by
 refine iL ⟨x.len,λk o f e=>.inl (by rw[←x.eq k f];exact e)⟩ ?_ hd (dY c) q
 apply List.ext_getElem?
 intro j
 by_cases b:j<S.length
 ·rw[List.getElem?_take_of_lt b]
  exact x.eq j b
 ·rw[List.getElem?_eq_none (by rw[Qxq];omega),List.getElem?_eq_none (by omega)]
def kQ:∀a:Str×Nat,∃r,lP a=.tup (.str a.1::r):=λa=>⟨_,rfl⟩
def Ej:∀a:Str×Str,∃r,ze a=.tup (.str a.1::r):=λa=>⟨_,rfl⟩
section
variable{S:aE}{Q:Res->aE->Prop}
theorem pE:∀{m l:List (Key×D)},(bu l m).length<=l.length+m.length
 | [],l=>Qmq _
 | q::m,l=>by
   have b:(bu (putD l q.1 q.2) m).length<=(putD l q.1 q.2).length+m.length:=pE
   have a:(putD l q.1 q.2).length<=l.length+1:=by unfold putD;split <;>simp
   show(bu (putD l q.1 q.2) m).length<=_
   simp only[Qnq]
   omega
def wo{ts:List (Str×Nat)}{vs:List Int}:(d0 ts vs).length<=ts.length:=by
 refine QAq pE ?_
 simp only[QGq,List.length_zip,lQm]
 omega
def z_{w:dE}{s:bE}{h:Nat}{ts:List (Str×Nat)}{pr:List Rw}{vs:List Int}{fs:List cz}{f:cz}{t:Tr}(F:w.af[h]?=some (ts,pr))(hs:s.af[h]?=some (vs,fs))(B:fs.getLast? =some f)(u:f.room= -1)
  (g:w.ak.length=s.ak.length) (n:ts.length=vs.length) (K:w.ak.length<=100) (J:ts.length<=100) (A:∀v∈s.ak,0<=v/\v<=9) (G:∀v∈vs,0<=v/\v<=9)
  (C:t.Ok (ts.map (·.1)++w.ak.map (·.1)) []) (hd:t.dep<=6) (q:Q (.d (.int (oa (numAt (qj w s ts vs)) (λ_=>0) t))) S):Fn dS [w.d,s.d,.int h,t.d] S Q:=by
 have a:jh (qj w s ts vs):=jh.merge (dW A) (dW G)
 refine bZ ?_
 unfold nz
 symm
 apply cm hs B ?_
 apply ay (d:=.int f.room) rfl ?_
 refine dR ?_
 dsimp only[a9,aN,a7,bR,bU,eZ]
 rw[Qeq u,Qhq rfl]
 symm
 apply Fh ?_
 apply ay rfl ?_
 apply fU (enc:=lP) (nm:=(·.1)) kQ (by omega) ?_
 refine ay rfl ?_
 refine cx (ds:=s.ak.map D.int) ?_
 refine⟨_,rfl,⟨trivial,by simp only[lQm];exact g⟩,?_⟩
 dsimp only[a9,aN,a7,bR,bU,eZ]
 rw[show bu [] (((w.ak.map (·.1)).map (Sum.inr:Str->Key)).zip (s.ak.map D.int))=d0 w.ak s.ak from rfl]
 apply aI (d_ (Og ?_))
 apply Fh ?_
 apply ay rfl ?_
 refine ay (d:=eY (ts,pr)) (aW (by rw[gQm,F];rfl)) ?_
 symm
 apply ay rfl ?_
 apply fU (enc:=lP) (nm:=(·.1)) kQ (by omega) ?_
 apply ay rfl ?_
 refine ay (d:=tw (vs,fs)) (aW (by rw[gQm,hs];rfl)) ?_
 symm
 refine ay rfl ?_
 refine cx (ds:=vs.map D.int) ?_
 refine⟨_,rfl,⟨trivial,by simp only[lQm];exact n⟩,?_⟩
 dsimp only[a9,aN,a7,bR,bU,eZ]
 rw[show bu [] (((ts.map (·.1)).map (Sum.inr:Str->Key)).zip (vs.map D.int))=d0 ts vs from rfl]
 have e:(S++ [O.dct (d0 w.ak s.ak)])[S.length]?=some (.dct (d0 w.ak s.ak)):=aM
 have o:(S++ [O.dct (d0 w.ak s.ak)]).length=S.length+1:=by simp
 have y:rG S (S++ [O.dct (d0 w.ak s.ak)]):=rG.refl.app
 show∃k j r l m,D.ref S.length=.ref k/\D.ref (S++ [O.dct (d0 w.ak s.ak)]).length=.ref j/\k≠j/\(S++ [O.dct (d0 w.ak s.ak)])[k]?=some (.dct r)/\(S++ [O.dct (d0 w.ak s.ak)]++ [O.dct (d0 ts vs)])[k]?=some (.dct l)/\(S++ [O.dct (d0 w.ak s.ak)]++ [O.dct (d0 ts vs)])[j]?=some (.dct m)/\_
 refine⟨_,_,_,_,_,rfl,rfl,by omega,e,aO e,aM,?_,?_⟩
 ·have I:=wo (ts:=w.ak) (vs:=s.ak)
  have L:=wo (ts:=ts) (vs:=vs)
  exact nQl (bq (by omega))
 have p:((S++ [O.dct (d0 w.ak s.ak)]++ [O.dct (d0 ts vs)]).set S.length (.dct (bu (d0 w.ak s.ak) (d0 ts vs))))[S.length]?=some (.dct (qj w s ts vs)):=cP (aO e)
 have i:rG S ((S++ [O.dct (d0 w.ak s.ak)]++ [O.dct (d0 ts vs)]).set S.length (.dct (bu (d0 w.ak s.ak) (d0 ts vs)))):=y.app.put (Qmq _)
 generalize ((S++ [O.dct (d0 w.ak s.ak)]++ [O.dct (d0 ts vs)]).set S.length (.dct (bu (d0 w.ak s.ak) (d0 ts vs))))=S2 at p i⊢
 symm
 apply N8 ?_
 refine g8 (th:=numAt (qj w s ts vs)) (wt:=λ_=>0) (ws:=ts.map (·.1)++w.ak.map (·.1)) (bs:= []) (aO p) aM (λx c=> ?_) (λb H=>by cases H) 6 t C hd ?_
 ·refine(g9 a ?_).1
  refine fm ?_
  rcases mQa.mp c with c|c
  ·exact .inr (dv n c)
  ·exact .inl (dv g c)
 ·exact v5 i.app (λk z=>(nomatch z)) rfl q
end
section
variable{S:aE}{Q:Res->aE->Prop}
theorem B1:∀(bs:List (Str×Str)) (ls:List (List (Int×Int))),Cf ((bs.map (·.1)).map D.str) (ls.map e_)=(bs.zip ls).map λp=>D.tup [.str p.1.1,e_ p.2]
 | [],_=>rfl
 |_::_,[]=>rfl
 | b::bs,l::ls=>by
   have:=B1 bs ls
   simp only[Cf,QDq,List.zipWith_cons_cons,List.zip_cons_cons] at this⊢
   rw[this]
def tm(r:Rm)(rs:de)(x:Str):Int:=numAt (xD r rs) x
def AM{r:Rm}{rs:de}(k:r.aa.length=rs.aa.length){x:Str}(h:x∈r.aa.map (·.1)):iC (xD r rs) (.inr x)=some (.int (tm r rs x)):=by
 have g:(Sum.inr x:Key)∈(xD r rs).map (·.1):=by
  refine fm (.inr ?_)
  rw[QPq]
  obtain⟨b,j,rfl⟩:=Qkq.mp h
  obtain⟨i,c,e⟩:=QbQ j
  refine Qkq.mpr ⟨(b,rs.aa[i]'(by omega)),?_,rfl⟩
  rw[←e]
  have:(r.aa.zip rs.aa)[i]?=some (r.aa[i],rs.aa[i]'(by omega)):=by
   rw[List.getElem?_zip_eq_some]
   exact⟨gQe c,gQe (by omega)⟩
  exact mQg this
 obtain⟨d,f,a⟩:=xG g
 have c:∃v:Int,d=.int v:=by
  rcases kW a with a|a
  ·cases a
  ·obtain⟨p,_,e⟩:=Qkq.mp a
   exact⟨_,(congrArg (·.2) e).symm⟩
 obtain⟨v,rfl⟩:=c
 unfold tm DL.numAt
 rw[f]
def xi{w:dE}{s:bE}{h i:Nat}{vs:List Int}{fs:List cz}{f:cz}{r:Rm}{rs:de}{t:Tr}(hs:s.af[h]?=some (vs,fs))(F:fs.getLast? =some f)(A:f.room=i)(o:w.aj[i]?=some r)(e:s.aj[i]?=some rs)
  (m:r.ao.length=rs.vals.length) (H:r.aa.length=rs.aa.length) (L:r.ao.length<=100) (J:r.aa.length<=100) (C:∀v∈rs.vals,0<=v/\v<=9) (u:0<=f.given/\f.given<=9)
  (G:t.Ok (r.ao.map (·.1)++fF) (r.aa.map (·.1))) (hd:t.dep<=6) (q:Q (.d (.int (oa (numAt (ix r rs f.given)) (tm r rs) t))) S):Fn dS [w.d,s.d,.int h,t.d] S Q:=by
 have c:jh (ix r rs f.given):=(dW C).put u.1 u.2
 refine bZ ?_
 unfold nz
 symm
 apply cm hs F ?_
 apply ay (d:=.int f.room) rfl ?_
 refine dR ?_
 dsimp only[a9,aN,a7,bR,bU,eZ]
 rw[Qdq (show¬f.room= -1 by omega),Quq (by decide),A]
 apply bX ?_
 apply Fh ?_
 apply ay rfl ?_
 refine ay (d:=r.d) (aW (by rw[gQm,o];rfl)) ?_
 symm
 apply ay rfl ?_
 apply fU (enc:=lP) (nm:=(·.1)) kQ (by omega) ?_
 apply ay rfl ?_
 refine ay (d:=rs.d) (aW (by rw[gQm,e];rfl)) ?_
 symm
 refine ay rfl ?_
 refine cx (ds:=rs.vals.map D.int) ?_
 refine⟨_,rfl,⟨trivial,by simp only[lQm];exact m⟩,?_⟩
 dsimp only[a9,aN,a7,bR,bU,eZ]
 rw[show bu [] (((r.ao.map (·.1)).map (Sum.inr:Str->Key)).zip (rs.vals.map D.int))=d0 r.ao rs.vals from rfl]
 have B:rG S (S++ [O.dct (d0 r.ao rs.vals)]):=rG.refl.app
 apply aI (Od ?_)
 apply ay (d:=.int f.given) rfl ?_
 refine⟨_,_,_,rfl,rfl,aM,bq (by have:=wo (ts:=r.ao) (vs:=rs.vals);omega),?_⟩
 have y:((S++ [O.dct (d0 r.ao rs.vals)]).set S.length (.dct (putD (d0 r.ao rs.vals) (.inr "given") (.int f.given))))[S.length]?=some (.dct (ix r rs f.given)):=cP aM
 have n:rG S ((S++ [O.dct (d0 r.ao rs.vals)]).set S.length (.dct (putD (d0 r.ao rs.vals) (.inr "given") (.int f.given)))):=B.put (Qmq _)
 generalize ((S++ [O.dct (d0 r.ao rs.vals)]).set S.length (.dct (putD (d0 r.ao rs.vals) (.inr "given") (.int f.given))))=S2 at y n⊢
 apply aI (O_ (α:=(Str×Str)×List (Int×Int)) (λj=>∃a b,j= [a,b]) (λp=>D.tup [.str p.1.1,e_ p.2]) (λp=>p.1.1) (λp=>.int (p.2.length:Nat)) ⟨none,none,rfl⟩ (Hx ?_))
 apply ay rfl ?_
 refine ay (d:=r.d) (aW (by rw[gQm,o];rfl)) ?_
 symm
 apply ay rfl ?_
 apply fU (enc:=ze) (nm:=(·.1)) Ej (by omega) ?_
 apply ay rfl ?_
 refine ay (d:=rs.d) (aW (by rw[gQm,e];rfl)) ?_
 symm
 refine ay rfl ?_
 refine cx (ds:=rs.aa.map e_) ?_
 refine⟨⟨trivial,by simp only[lQm];omega⟩,r.aa.zip rs.aa,B1 _ _,⟨trivial,trivial⟩,by rw[List.length_zip];omega,λp K j l=> ?_,?_⟩
 ·obtain⟨a,b,rfl⟩:=l
  refine gc rfl (aA (aV (aA (aV (bA ?_)))))
  apply⟨rfl,⟨_,_,rfl⟩,?_⟩
  apply⟨rfl,rfl,?_⟩
  refine cx (ds:=p.2.map pairD) ?_
  exact⟨by simp,rfl⟩
 symm
 refine g8 (th:=numAt (ix r rs f.given)) (wt:=tm r rs) (ws:=r.ao.map (·.1)++fF) (bs:=r.aa.map (·.1)) (kws:=xD r rs) (aO y) aM (λx g=> ?_) (λb I=>AM H I) 6 t G hd ?_
 ·refine(g9 c ?_).1
  refine jU ?_
  rcases mQa.mp g with g|g
  ·exact .inr (dv m g)
  ·left
   rw[Qfq.mp g]
 ·exact v5 n.app (λk z=>(nomatch z)) rfl q
end
end W28
namespace DL
open PySem PySem.Spec L2
def yK{b:cB}{S:aE}{a:Bool}{f:bH}{g:fw}{Q:D->aE->Prop}(h:E f b S λx c=>E g b c λp S2=>∃v vs,xc x=some v/\qt p.1=some vs/\Q (.bl (if a then !Hh v vs else Hh v vs)) S2):E (Bx a f g) b S Q:=by
 obtain⟨x,c,j,p,S2,d,v,vs,e,i,q⟩:=h
 exact⟨_,S2,by unfold Bx;rw[j];simp only[Qbq];rw[d];simp only[Qbq];rw[e,i];rfl,q⟩
def Au{x:Str}{ss:List Str}:Hh (.str x) (ss.map V.str)=decide (x∈ss):=by
 induction ss with
 |nil=>rfl
 | cons a ss b=>
   show(uM (.str a) (.str x)||Hh (.str x) (ss.map V.str))=_
   rw[b]
   simp only[uM,Qsq]
   by_cases c:a=x
   · subst c;simp
   · have d:¬x=a:=λz=>c z.symm
     simp[c,d]
end DL
namespace W28
open PySem PySem.Spec L2 DL
section
variable{S:aE}{Q:Res->aE->Prop}
def eM(ns:List Str)(vs:List Int)(x:Str)(v:Int):List Int:=vs.set ((qg (.str x) (ns.map V.str)).getD 0) v
def qf{α:Type}{enc:α->D}{nm:α->Str}{xs:List α}{x:Str}(he:∀a,∃r,enc a=.tup (.str (nm a)::r))(g:xs.length<=1000)(i:x∈xs.map nm)(q:((qg (.str x) ((xs.map nm).map V.str)).getD 0)<xs.length->Q (.d (.int ((qg (.str x) ((xs.map nm).map V.str)).getD 0:Nat))) S):Fn dw [.tup (xs.map enc),.str x] S Q:=by
 refine bZ ?_
 unfold sC
 obtain⟨j,e,l⟩:=uG i
 have f:j<xs.length:=by have:=(gQs.mp l).1;simpa using this
 rw[e] at q
 refine eV ?_
 have c:E (ia (dZ eR (aq (ar 0) av))) ([D.tup (xs.map enc),D.str x].map some++List.replicate (2- [D.tup (xs.map enc),D.str x].length) none) S λp b=>p=((xs.map nm).map D.str,.fr)/\b=S:=by
  symm
  exact fU he g ⟨rfl,rfl⟩
 obtain⟨p,b,h,rfl,rfl⟩:=c
 refine⟨.int j,b,?_,cW (λk z=>(nomatch z)) rfl (q f)⟩
 unfold HG
 rw[h]
 simp only[Qbq]
 rw[Qhq (show Tag.fr.isL=true from rfl)]
 show((ar 1 _ b).bind _)=_
 rw[show ar 1 ([D.tup (xs.map enc),D.str x].map some++List.replicate (2- [D.tup (xs.map enc),D.str x].length) none) b=some (.str x,b) from rfl]
 simp only[Qbq]
 rw[Qhq (show Tag.stays b _ .fr from trivial)]
 show(xc (.str x)).bind _=_
 simp only[xc,Qbq]
 rw[gK]
 simp only[Qbq]
 rw[e]
 rfl
def IM{w:dE}{s:bE}{h i:Nat}{vs:List Int}{fs:List cz}{f:cz}{r:Rm}{rs:de}{x:Str}{v:Int}(hs:s.af[h]?=some (vs,fs))(c:fs.getLast? =some f)(b:f.room=i)(g:w.aj[i]?=some r)(a:s.aj[i]?=some rs)
  (l:r.ao.length=rs.vals.length) (n:r.ao.length<=100) (m:s.aj.length<=100) (j:x∈r.ao.map (·.1))
  (q:Q (.d ({s with aj:=s.aj.set i {rs with vals:=eM (r.ao.map (·.1)) rs.vals x v}}:bE).d) S):Fn fT [w.d,s.d,.int h,.str x,.int v] S Q:=by
 refine bZ ?_
 unfold kq
 symm
 apply cm hs c ?_
 apply ay (d:=.int f.room) rfl ?_
 refine mh ?_
 dsimp only[a9,aN,a7,bR,bU,eZ]
 rw[Qdq (show¬f.room= -1 by omega),b]
 show if (true=true) then _ else _
 rw[Qhq rfl]
 symm
 apply ay rfl ?_
 refine ay (d:=r.d) (aW (by rw[gQm,g];rfl)) ?_
 symm
 apply ay rfl ?_
 apply qf (enc:=lP) (nm:=(·.1)) kQ (by omega) j λk=> ?_
 apply ay rfl ?_
 refine ay (d:=rs.d) (aW (by rw[gQm,a];rfl)) ?_
 symm
 apply ay rfl ?_
 refine ft (xs:=rs.vals.map D.int) (by rw[lQm];omega) (by rw[lQm];omega) (bf λ_ _=>rfl) rfl ?_
 symm
 refine⟨by show 1<=_;decide,?_⟩
 apply nq ?_
 apply ay rfl ?_
 refine ay (d:=rs.d) (aW (by rw[gQm,a];rfl)) ?_
 apply dF ?_
 refine⟨_,rfl,dz ⟨_,rfl,?_⟩⟩
 refine fo (by show 5<=_;decide) ?_
 symm
 have e:({rs with vals:=eM (r.ao.map (·.1)) rs.vals x v}:de).d=.tup ([.tup ((rs.vals.map D.int).set ((qg (.str x) ((r.ao.map (·.1)).map V.str)).getD 0) (.int v))]++kE [dq rs.vals,.int rs.within,dq rs.row,dq rs.ag,.tup (rs.aa.map e_)] (some 1) none):=by
  show D.tup [dq (eM _ _ _ _),_,_,_,_]=_
  unfold eM dq
  rw[map_set]
  rfl
 rw[←e]
 refine dH (gQs.mp a).1 (by omega) ?_
 exact cW (bt _) (bE.low _) q
end
section
variable{S:aE}{Q:Res->aE->Prop}
def mT(w:dE)(s:bE)(h:Nat)(ts:List (Str×Nat))(vs:List Int)(fs:List cz)(x:Str)(v:Int):bE:=
 if x∈w.ak.map (·.1) then{s with ak:=eM (w.ak.map (·.1)) s.ak x v} else{s with af:=s.af.set h (eM (ts.map (·.1)) vs x v,fs)}
def JZ{w:dE}{s:bE}{h:Nat}{ts:List (Str×Nat)}{pr:List Rw}{vs:List Int}{fs:List cz}{f:cz}{x:Str}{v:Int}(i:w.af[h]?=some (ts,pr))(hs:s.af[h]?=some (vs,fs))(g:fs.getLast? =some f)(e:f.room= -1)
  (n:w.ak.length=s.ak.length) (r:ts.length=vs.length) (t:w.ak.length<=100) (o:ts.length<=100) (u:s.af.length<=100) (l:x∈ts.map (·.1)++w.ak.map (·.1))
  (q:Q (.d (mT w s h ts vs fs x v).d) S):Fn fT [w.d,s.d,.int h,.str x,.int v] S Q:=by
 refine bZ ?_
 unfold kq
 symm
 apply cm hs g ?_
 apply ay (d:=.int f.room) rfl ?_
 refine mh ?_
 dsimp only[a9,aN,a7,bR,bU,eZ]
 rw[Qeq e]
 refine aK (λc=>by cases c) (λ_=>bX ?_)
 apply aI (bP (cD (yK ?_)))
 apply ay rfl ?_
 apply fU (enc:=lP) (nm:=(·.1)) kQ (by omega) ?_
 refine⟨_,_,rfl,gK _,?_⟩
 unfold mT at q
 show if Hh (.str x) ((w.ak.map (·.1)).map V.str)=true then _ else _
 rw[Au]
 by_cases c:x∈w.ak.map (·.1)
 ·rw[Qhq c] at q
  rw[Qeq c,Qhq rfl]
  symm
  apply ay rfl ?_
  apply ay rfl ?_
  apply qf (enc:=lP) (nm:=(·.1)) kQ (by omega) c λb=> ?_
  refine ft (xs:=s.ak.map D.int) (by rw[lQm];omega) (by rw[lQm];omega) (bf λ_ _=>rfl) rfl ?_
  symm
  apply ay rfl ?_
  apply ay rfl ?_
  apply ay rfl ?_
  refine⟨by show 4<=_;decide,?_⟩
  rw[←map_set]
  exact cW (d:=({s with ak:=eM (w.ak.map (·.1)) s.ak x v}:bE).d) (bt _) (bE.low _) q
 ·rw[Quq c] at q
  rw[Qdq c,Quq (by decide)]
  refine bX ?_
  have a:x∈ts.map (·.1):=(mQa.mp l).resolve_right c
  symm
  apply ay rfl ?_
  refine ay (d:=tw (vs,fs)) (aW (by rw[gQm,hs];rfl)) ?_
  apply gc rfl (aA (aV (aA (aV (bA ?_)))))
  apply ay rfl ?_
  refine ay (d:=eY (ts,pr)) (aW (by rw[gQm,i];rfl)) ?_
  symm
  apply ay rfl ?_
  apply qf (enc:=lP) (nm:=(·.1)) kQ (by omega) a λb=> ?_
  refine ft (xs:=vs.map D.int) (by rw[lQm];omega) (by rw[lQm];omega) (bf λ_ _=>rfl) rfl ?_
  symm
  rw[←map_set]
  rw[show D.tup ((vs.set ((qg (.str x) ((ts.map (·.1)).map V.str)).getD 0) v).map D.int)=dq (eM (ts.map (·.1)) vs x v) from rfl]
  generalize eM (ts.map (·.1)) vs x v=nv at q⊢
  have m:h<s.af.length:=(gQs.mp hs).1
  have k:s.af.length<=900:=by omega
  have j:Op (settle S ({s with af:=s.af.set h (nv,fs)}:bE).d S) λp=>Q p.1 p.2:=cW (bt _) (bE.low _) q
  exact iI m k j
end
section
variable{S:aE}{Q:Res->aE->Prop}
def fB(ns:List Str)(x:Str):Nat:=(qg (.str x) (ns.map V.str)).getD 0
def iQ{ns:List Str}{x:Str}(h:x∈ns):fB ns x<ns.length/\ns[fB ns x]?=some x:=by
 obtain⟨j,b,a⟩:=uG h
 unfold fB
 rw[b]
 exact⟨(gQs.mp a).1,a⟩
def sA{α:Type}{enc:α->D}{nm:α->Str}{xs:List α}{x:Str}(he:∀a,∃r,enc a=.tup (.str (nm a)::r))(c:xs.length<=1000)(b:x∈xs.map nm)(q:Q (.d (.int (fB (xs.map nm) x:Nat))) S):Fn dw [.tup (xs.map enc),.str x] S Q:=qf he c b λ_=>q
def oZ{w:dE}{s:bE}{h i:Nat}{vs:List Int}{fs:List cz}{f:cz}{r:Rm}{x:Str}(hs:s.af[h]?=some (vs,fs))(c:fs.getLast? =some f)(b:f.room=i)(e:w.aj[i]?=some r)(g:r.aa.length<=100)(a:x∈r.aa.map (·.1))
  (q:Q (.d (.tup [.int i,.int (fB (r.aa.map (·.1)) x:Nat)])) S):Fn jN [w.d,s.d,.int h,.str x] S Q:=by
 refine bZ ?_
 unfold uX
 symm
 apply cm hs c ?_
 refine ay (d:=.int f.room) rfl ?_
 rw[b]
 symm
 apply ay rfl ?_
 refine ay (d:=r.d) (aW (by rw[gQm,e];rfl)) ?_
 symm
 apply ay rfl ?_
 apply sA (enc:=ze) (nm:=(·.1)) Ej (by omega) a ?_
 refine⟨by show 2<=_;decide,?_⟩
 exact cW (λk z=>(nomatch z)) rfl q
def kD{s:bE}{i b:Nat}{rs:de}{l:List (Int×Int)}(a:s.aj[i]?=some rs)(k:b<rs.aa.length)(m:rs.aa.length<=100)(j:s.aj.length<=100)
  (q:Q (.d ({s with aj:=s.aj.set i {rs with aa:=rs.aa.set b l}}:bE).d) S):Fn fS [s.d,.int i,.int b,e_ l] S Q:=by
 refine bZ ?_
 unfold oT
 symm
 apply ay rfl ?_
 refine ay (d:=rs.d) (aW (by rw[gQm,a];rfl)) ?_
 symm
 apply nq ?_
 apply dz (dF ?_)
 apply⟨_,rfl,_,rfl,?_⟩
 apply ay rfl ?_
 refine ft (xs:=rs.aa.map e_) (by rw[lQm];omega) (by rw[lQm];omega) (bf λl _=>wm l) (wm l) ?_
 symm
 refine⟨by show 1<=_;decide,?_⟩
 refine fo (by show 5<=_;decide) ?_
 symm
 rw[←map_set]
 generalize h:rs.aa.set b l=nb at q⊢
 have e:({rs with aa:=nb}:de).d=.tup (kE [dq rs.vals,.int rs.within,dq rs.row,dq rs.ag,.tup (rs.aa.map e_)] none (some 4)++ [.tup (nb.map e_)]):=rfl
 rw[←e]
 have c:i<s.aj.length:=(gQs.mp a).1
 have f:s.aj.length<=900:=by omega
 have g:Op (settle S ({s with aj:=s.aj.set i {rs with aa:=nb}}:bE).d S) λp=>Q p.1 p.2:=cW (bt _) (bE.low _) q
 exact dH c f g
def Et(p:Int×List Int)(h:Int):Int×List Int:=if 0<p.1 then(p.1-1,p.2) else(p.1,p.2++ [h])
def AS(p:Int×List Int):Int×List Int:=match p.2 with
 |_::l=>(p.1,l)
 | []=>(if 9<p.1+1 then 9 else p.1+1,[])
end
section
variable{S:aE}{Q:Res->aE->Prop}
def F_{b sd hd a:D}{s:bE}(q:Q (.d s.d) S):Fn uN [b,s.d,hd,a] S Q:=by
 refine bZ ?_
 unfold zR
 symm
 exact cW (bt _) (bE.low _) q
def HS{b:D}{s:bE}{h n:Nat}{vs:List Int}{fs:List cz}{f:cz}(e:s.af[h]?=some (vs,fs))(g:fs.getLast? =some f)(i:fs.length<=900)(c:s.af.length<=900)(q:Q (.d ({s with af:=s.af.set h (vs,fs.dropLast++ [{f with row:=n}])}:bE).d) S):Fn yX [b,s.d,.int h,(Rw.go n).d] S Q:=by
 refine bZ ?_
 unfold DP
 symm
 apply ay (d:=.int n) rfl ?_
 have a:Op (settle S ({s with af:=s.af.set h (vs,fs.dropLast++ [{f with row:=n}])}:bE).d S) λp=>Q p.1 p.2:=cW (bt _) (bE.low _) q
 exact sM e g i c a
end
section
variable{S:aE}{Q:Res->aE->Prop}
def C4(w:dE)(s:bE)(h:Nat)(t:Tr)(v:Int):Prop:=∀(S:aE) (Q:Res->aE->Prop),Q (.d (.int v)) S->Fn dS [w.d,s.d,.int h,t.d] S Q
def Puts(w:dE)(s:bE)(h:Nat)(x:Str)(v:Int)(a:bE):Prop:=∀(S:aE) (Q:Res->aE->Prop),Q (.d a.d) S->Fn fT [w.d,s.d,.int h,.str x,.int v] S Q
def Fu{w:dE}{s a:bE}{h:Nat}{x:Str}{t:Tr}{v:Int}(b:C4 w s h t v)(c:Puts w s h x v a)(q:Q (.d a.d) S):Fn uL [w.d,s.d,.int h,(Rw.put x t).d] S Q:=by
 refine bZ ?_
 unfold yH
 symm
 apply ay (d:=.str x) rfl ?_
 apply ay (d:=t.d) rfl ?_
 apply b _ _ ?_
 refine c _ _ ?_
 exact cW (bt _) (bE.low _) q
def zV{w:dE}{s:bE}{h n:Nat}{t:Tr}{v:Int}{vs:List Int}{fs:List cz}{f:cz}(b:C4 w s h t v)(a:s.af[h]?=some (vs,fs))(j:fs.getLast? =some f)(i:fs.length<=900)(e:s.af.length<=900)
  (q:Q (.d (if v=0 then({s with af:=s.af.set h (vs,fs.dropLast++ [{f with row:=n}])}:bE) else s).d) S):Fn lB [w.d,s.d,.int h,(Rw.unl t n).d] S Q:=by
 refine bZ ?_
 unfold pN
 symm
 apply ay (d:=t.d) rfl ?_
 apply b _ _ ?_
 refine dR ?_
 dsimp only[a9,aN,a7,bR,bU,eZ]
 by_cases c:v=0
 ·rw[Qhq c] at q
  rw[Qeq c,Qhq rfl]
  symm
  apply ay (d:=.int n) rfl ?_
  have g:Op (settle S ({s with af:=s.af.set h (vs,fs.dropLast++ [{f with row:=n}])}:bE).d S) λp=>Q p.1 p.2:=cW (bt _) (bE.low _) q
  exact sM a j i e g
 ·rw[Quq c] at q
  rw[Qdq c,Quq (by decide)]
  apply bX ?_
  exact cW (bt _) (bE.low _) q
end
section
variable{S:aE}{Q:Res->aE->Prop}
def DR{w:dE}{s:bE}{h:Nat}{t:Tr}{v:Int}{vs:List Int}{fs:List cz}{f:cz}(g:C4 w s h t v)(c:s.af[h]?=some (vs,fs))(e:fs.getLast? =some f)(k:fs.length<=900)(i:s.af.length<=900)
  (q:Q (.d ({s with af:=s.af.set h (vs,fs.dropLast++ [{f with told:=v}])}:bE).d) S):Fn qz [w.d,s.d,.int h,(Rw.tell t).d] S Q:=by
 refine bZ ?_
 unfold vj
 symm
 apply ay (d:=t.d) rfl ?_
 apply g _ _ ?_
 apply nq ?_
 refine cm c e ?_
 apply dz (dF ?_)
 apply⟨_,rfl,_,rfl,?_⟩
 refine⟨by show 1<=_;decide,?_⟩
 refine fo (by show 5<=_;decide) ?_
 symm
 have l:0<fs.length:=by
  cases fs with
  |nil=>cases e
  |cons a b=>simp
 have j:Op (settle S ({s with af:=s.af.set h (vs,fs.dropLast++ [{f with told:=v}])}:bE).d S) λp=>Q p.1 p.2:=cW (bt _) (bE.low _) q
 exact iS (f:={f with told:=v}) c l k i j
def FO{w:dE}{s:bE}{h i:Nat}{vs:List Int}{fs:List cz}{f:cz}{r:Rm}{rs:de}{x:Str}(hs:s.af[h]?=some (vs,fs))(k:fs.getLast? =some f)(j:f.room=i)(m:w.aj[i]?=some r)(a:s.aj[i]?=some rs)(g:r.aa.length<=100)(t:r.aa.length=rs.aa.length)(o:s.aj.length<=100)(e:x∈r.aa.map (·.1))
  (q:Q (.d ({s with aj:=s.aj.set i {rs with aa:=rs.aa.set (fB (r.aa.map (·.1)) x) []}}:bE).d) S):Fn uE [w.d,s.d,.int h,(Rw.all x).d] S Q:=by
 have c:=(iQ e).1
 rw[lQm] at c
 refine bZ ?_
 unfold zH
 symm
 apply ay (d:=.str x) rfl ?_
 refine oZ hs k j m g e ?_
 refine gc rfl (aA (aV (aA (aV (bA ?_)))))
 generalize fB (r.aa.map (·.1)) x=b at c q⊢
 symm
 apply⟨by decide,?_⟩
 have n:Op (settle S ({s with aj:=s.aj.set i {rs with aa:=rs.aa.set b []}}:bE).d S) λp=>Q p.1 p.2:=cW (bt _) (bE.low _) q
 exact kD (l:= []) a (by omega) (by omega) o n
end
section
variable{S:aE}{Q:Res->aE->Prop}
def Me:∀a:Rm,∃r,a.d=.tup (.str a.name::r):=λa=>⟨_,rfl⟩
def IJ:∀a:Str×List Rw,∃r,g7 a=.tup (.str a.1::r):=λa=>⟨_,rfl⟩
def HM{w:dE}{s:bE}{h:Nat}{g:Option Str}{a b:Str}{t:Tr}{v:Int}{vs:List Int}{fs:List cz}{r:Rm}{rs:de}(m:C4 w s h t v)(hs:s.af[h]?=some (vs,fs))(f:a∈w.aj.map (·.name))(k:w.aj[fB (w.aj.map (·.name)) a]?=some r)(c:s.aj[fB (w.aj.map (·.name)) a]?=some rs)(j:b∈r.ae.map (·.1))
  (B:w.aj.length<=100) (x:r.ae.length<=100) (A:s.aj.length<=100) (o:rs.row.length<=900) (z:fs.length<=900) (y:s.af.length<=100)
  (q:Q (.d ({s with af:=s.af.set h (vs,fs++ [⟨(fB (w.aj.map (·.name)) a:Nat),(fB (r.ae.map (·.1)) b:Nat),0,v,0⟩]),aj:=s.aj.set (fB (w.aj.map (·.name)) a) (gD rs h)}:bE).d) S):Fn zc [w.d,s.d,.int h,(Rw.do_ g a b t).d] S Q:=by
 refine bZ ?_
 unfold DS
 symm
 apply ay rfl ?_
 apply ay (d:=.str a) rfl ?_
 refine sA (enc:=Rm.d) (nm:=(·.name)) Me (by omega) f ?_
 generalize fB (w.aj.map (·.name)) a=i at k c q⊢
 symm
 apply ay rfl ?_
 refine ay (d:=r.d) (aW (by rw[gQm,k];rfl)) ?_
 symm
 apply ay rfl ?_
 apply ay (d:=.str b) rfl ?_
 refine sA (enc:=g7) (nm:=(·.1)) IJ (by omega) j ?_
 generalize fB (r.ae.map (·.1)) b=dd at q⊢
 symm
 apply ay (d:=t.d) rfl ?_
 apply m _ _ ?_
 refine⟨by show 5<=_;decide,?_⟩
 symm
 apply ay rfl ?_
 refine ay (d:=tw (vs,fs)) (aW (by rw[gQm,hs];rfl)) ?_
 apply gc rfl (aA (aV (aA (aV (bA ?_)))))
 refine⟨by show 1<=_;decide,?_⟩
 refine fo (by simp only[lQm,Qnq,QGq];exact nQl (bq (by omega))) ?_
 symm
 have e:fs.map cz.d++ [D.tup [.int i,.int dd,.int 0,.int v,.int 0]]=(fs++ [(⟨i,dd,0,v,0⟩:cz)]).map cz.d:=by rw[Qzq];rfl
 rw[e]
 generalize l:fs++ [(⟨i,dd,0,v,0⟩:cz)]=nf at q⊢
 have u:h<s.af.length:=(gQs.mp hs).1
 apply iI (vs:=vs) (fs:=nf) u (by omega) ?_
 have n:Op (settle S ({s with af:=s.af.set h (vs,nf),aj:=s.aj.set i (gD rs h)}:bE).d S) λp=>Q p.1 p.2:=cW (bt _) (bE.low _) q
 exact vN (s:={s with af:=s.af.set h (vs,nf)}) c (by show s.aj.length<=900;omega) o n
end
section
variable{S:aE}{Q:Res->aE->Prop}
def lU(free:Bool)(rs:de)(b:Nat)(h:Int):de:=match rs.aa[b]? with
 |some (p::l)=>if free then{rs with aa:=rs.aa.set b l} else{rs with aa:=rs.aa.set b l,within:=p.2,ag:=rs.ag++ [h]}
 |_=>rs
def C9{w:dE}{s:bE}{h i:Nat}{vs:List Int}{fs:List cz}{f:cz}{r:Rm}{rs:de}{x:Str}(hs:s.af[h]?=some (vs,fs))(C:fs.getLast? =some f)(A:f.room=i)(t:w.aj[i]?=some r)(k:s.aj[i]?=some rs)(z:r.aa.length<=100)(J:r.aa.length=rs.aa.length)(I:s.aj.length<=100)(K:rs.ag.length<=900)(y:x∈r.aa.map (·.1))
  (q:Q (.d ({s with aj:=s.aj.set i (lU (decide (r.ah="when free")) rs (fB (r.aa.map (·.1)) x) h)}:bE).d) S):Fn qD [w.d,s.d,.int h,(Rw.call x).d] S Q:=by
 have u:=(iQ y).1
 rw[lQm] at u
 have o:i<s.aj.length:=(gQs.mp k).1
 refine bZ ?_
 unfold wb
 symm
 apply ay (d:=.str x) rfl ?_
 refine oZ hs C A t z y ?_
 refine gc rfl (aA (aV (aA (aV (bA ?_)))))
 generalize fB (r.aa.map (·.1)) x=b at u q⊢
 have v:b<rs.aa.length:=by omega
 obtain⟨m,a⟩:∃l,rs.aa[b]?=some l:=⟨_,gQe v⟩
 have g:Op (settle S ({s with aj:=s.aj.set i (lU (decide (r.ah="when free")) rs b h)}:bE).d S) λp=>Q p.1 p.2:=cW (bt _) (bE.low _) q
 unfold lU at g
 rw[a] at g
 symm
 apply ay rfl ?_
 refine ay (d:=rs.d) (aW (by rw[gQm,k];rfl)) ?_
 symm
 apply ay rfl ?_
 refine ay (d:=e_ m) (aW (by rw[gQm,a];rfl)) ?_
 symm
 refine CF ?_
 cases m with
 | nil=>
   apply aK (λ_=> ?_) (λc=>by cases c)
   have e:s.aj.set i rs=s.aj:=by
     apply List.ext_getElem?
     intro j
     rw[List.getElem?_set]
     split
     · rename_i c
       subst c
       rw[k]
       first|done|simp[o]
     · rfl
   have B:({s with aj:=s.aj.set i rs}:bE)=s:=by rw[e]
   have n:Op (settle S ({s with aj:=s.aj.set i rs}:bE).d S) λp=>Q p.1 p.2:=g
   rw[B] at n
   exact n
 | cons p l=>
   apply aK (λc=>by cases c) (λ_=>bX ?_)
   apply nq ?_
   apply dF ?_
   apply⟨_,rfl,dz ⟨_,rfl,?_⟩⟩
   have e:D.tup (kE ((p::l).map pairD) (some 1) none)=e_ l:=by
     rw[show(some (1:Int))=some ((1:Nat):Int) from rfl,jR (by simp)]
     rfl
   rw[e]
   refine kD k v (by omega) I ?_
   dsimp only at g
   generalize G:rs.aa.set b l=nb at g⊢
   symm
   apply ay rfl ?_
   refine ay (d:=r.d) (aW (by rw[gQm,t];rfl)) ?_
   symm
   apply ay (d:=.str r.ah) rfl ?_
   refine gE ?_
   dsimp only[a9,aN,a7,bR,bU,eZ]
   by_cases c:r.ah="when free"
   · rw[Qeq c] at g⊢
     rw[Qhq rfl] at g
     rw[Qhq rfl]
     symm
     exact g
   · rw[Qdq c] at g⊢
     rw[Quq (by decide)] at g
     rw[Quq (by decide)]
     apply bX ?_
     refine ay rfl ?_
     have F:((s.aj.set i {rs with aa:=nb}).map de.d)[i]?=some ({rs with aa:=nb}:de).d:=by rw[gQm,Qyq o];rfl
     symm
     refine ay (d:=({rs with aa:=nb}:de).d) (aW F) ?_
     apply gc rfl (aA (aV (aA (aV (aA (aV (aA (aV (aA (aV (bA ?_)))))))))))
     apply ay (d:=pairD p) AU ?_
     apply ay (d:=.int p.2) rfl ?_
     refine⟨by show 1<=_;decide,?_⟩
     refine fo (by simp only[lQm,Qnq,QGq];exact nQl (bq (by omega))) ?_
     symm
     refine⟨by show 5<=_;decide,?_⟩
     symm
     have H:D.tup [dq rs.vals,.int p.2,dq rs.row,.tup (rs.ag.map D.int++ [.int h]),.tup (nb.map e_)]=({rs with aa:=nb,within:=p.2,ag:=rs.ag++ [(h:Int)]}:de).d:=by simp[de.d,dq]
     rw[H]
     have n:Op (settle S ({s with aj:=(s.aj.set i {rs with aa:=nb}).set i {rs with aa:=nb,within:=p.2,ag:=rs.ag++ [(h:Int)]}}:bE).d S) λp=>Q p.1 p.2:=by rw[List.set_set];exact g
     exact dH (s:={s with aj:=s.aj.set i {rs with aa:=nb}}) (by simpa using o) (by simp;omega) n
end
end W28
namespace DL
open PySem PySem.Spec L2
def nN{α:Type}{u:cB}{S:aE}{js:List (Option Nat)}{i:yb}{g:nI}{t:jL}{o:bH}{Q:List D->aE->Prop}(P:cB->Prop)(enc G:α->D)(c:α->Bool)(R:P (pI js u)) (h:E i u S λp f=>∃xs:List α,p.1=xs.map enc/\p.2 f/\xs.length<=1000∧
   (∀x∈xs,∀a,P a->Tg g (enc x) a f λb S2=>S2=f/\P b/\E t b f λk w=>w=f/\k=c x/\(c x=true->E o b f λy A=>y=G x/\A=f))/\Q ((xs.filter c).map G) f):E (bD js i g t o) u S Q:=by
 refine jD (h.mono λp f J=> ?_)
 obtain⟨xs,B,H,U,L,q⟩:=J
 refine⟨λn a r j=>r=f/\j=((xs.take n).filter c).map G/\P a,⟨rfl,rfl,R⟩,λn a r j h=>by rw[h.1];exact H,λn d a r j s h=> ?_,λa r j h=> ?_⟩
 ·obtain⟨rfl,rfl,h3⟩:=h
  have s:p.1[n]?=some d:=s
  rw[B,gQm] at s
  obtain⟨x,m,rfl⟩:=oQm.mp s
  obtain⟨b,S2,N,rfl,h4,h5⟩:=L x (mQg m) a h3
  refine⟨b,S2,N,?_⟩
  refine h5.mono λk w v=> ?_
  obtain⟨F,M,K⟩:=v
  subst F M
  have W:=(gQs.mp m).1
  have z:((xs.take (n+1)).filter c).map G=((xs.take n).filter c).map G++if c x=true then [G x] else []:=by
   rw[QYq,m]
   cases l:c x <;>simp[l]
  by_cases l:c x=true
  ·rw[Qhq l]
   refine(K l).mono λy A v=> ?_
   obtain⟨I,C⟩:=v
   subst I C
   refine⟨?_,rfl,?_,h4⟩
   ·rw[lQm]
    have:=List.length_filter_le c (xs.take n)
    rw[Qxq] at this
    exact bq (by omega)
   ·rw[z,Qhq l]
  ·rw[Quq l]
   refine⟨rfl,?_,h4⟩
   rw[z,Quq l,List.append_nil]
 ·obtain⟨rfl,rfl,_⟩:=h
  have e:p.1.length=xs.length:=by rw[B,lQm]
  show Q (((xs.take p.1.length).filter c).map G) _
  rw[e,QEq]
  exact q
end DL
namespace W28
open PySem PySem.Spec L2 DL
section
variable{S:aE}{Q:Res->aE->Prop}
def ue(l:List (Int×Int))(t h:Int):List (Int×Int):=l.take (l.filter λp=>decide (p.1<=t)).length++ [(t,h)]++l.drop (l.filter λp=>decide (p.1<=t)).length
def DW{w:dE}{s:bE}{h i:Nat}{vs:List Int}{fs:List cz}{f:cz}{r:Rm}{rs:de}{x u:Str}{t:Tr}{v:Int}{g:List (Int×Int)}(hs:s.af[h]?=some (vs,fs))(U:fs.getLast? =some f)(P:f.room=i)(J:w.aj[i]?=some r)(m:s.aj[i]?=some rs)(N:r.aa.length<=100)(l2:r.aa.length=rs.aa.length)(Y:s.aj.length<=100)(L:x∈r.aa.map (·.1))
  (z:r.aa[fB (r.aa.map (·.1)) x]?=some (x,u)) (k:rs.aa[fB (r.aa.map (·.1)) x]?=some g) (b4:g.length<=900) (I:C4 w s h t v)
  (q:Q (.d ({s with aj:=s.aj.set i (dt {rs with aa:=rs.aa.set (fB (r.aa.map (·.1)) x) (ue g (if u="turns" then v else 0) h)})}:bE).d) S):Fn qv [w.d,s.d,.int h,(Rw.wait x t).d] S Q:=by
 have H:=(iQ L).1
 rw[lQm] at H
 have M:i<s.aj.length:=(gQs.mp m).1
 refine bZ ?_
 unfold vf
 symm
 apply ay (d:=.str x) rfl ?_
 refine oZ hs U P J N L ?_
 refine gc rfl (aA (aV (aA (aV (bA ?_)))))
 generalize fB (r.aa.map (·.1)) x=b at H q z k⊢
 have W:b<rs.aa.length:=by omega
 symm
 apply ay rfl ?_
 refine ay (d:=r.d) (aW (by rw[gQm,J];rfl)) ?_
 symm
 apply ay rfl ?_
 refine ay (d:=ze (x,u)) (aW (by rw[gQm,z];rfl)) ?_
 symm
 apply ay (d:=.str u) rfl ?_
 refine gE ?_
 dsimp only[a9,aN,a7,bR,bU,eZ]
 have B:∀j:Int,j=(if u="turns" then v else 0)->T (aD (aS 7 (aQ fJ (aQ fJ (aQ fJ (aQ fJ (ar 1) (cF (.int 0))) (ar 4)) (cF (.int 4))) (ar 5)))
   (aD (aS 8 (hJ (ia (bD [none,none,some 6] (fL (aR (ar 7))) (lM (nG 2 (aJ (bJ 0) (aJ (bJ 1) dG)))) (aH (aQ OD (ar 0) (ar 2))) (ar 0)))))
   (aD (aS 9 (ax fS (aq (ar 1) (aq (ar 4) (aq (ar 5) (aq (aQ cA (aQ cA (ud (ar 7) uT (ur (ar 8))) (bg (aq (bg (aq (ar 6) (aq (ar 2) av))) av))) (ud (ar 7) (ur (ar 8)) uT)) av))))))
   (cy (ax rX (aq (ar 9) (aq (ar 4) av)))))))
   [some w.d,some s.d,some (.int h),some (Rw.wait x t).d,some (.int i),some (.int b),some (.int j),none,none,none] S (λo=>match o with
   |.nx _ y=>Op (settle S .non y) λp=>Q p.1 p.2|.rt d y=>Op (settle S d y) λp=>Q p.1 p.2|.rl l y=>Op (eJ S l y) λp=>Q p.1 p.2|_=>False):=by
  intro j C
  rw[←C] at q
  symm
  apply ay rfl ?_
  refine ay (d:=rs.d) (aW (by rw[gQm,m];rfl)) ?_
  symm
  apply ay rfl ?_
  refine ay (d:=e_ g) (aW (by rw[gQm,k];rfl)) ?_
  symm
  apply nN (α:=Int×Int) (λA=>∃a b,A= [a,b,some (.int j)]) pairD (λp=>.int p.1) (λp=>decide (p.1<=j)) ⟨none,none,rfl⟩ ?_
  refine cx (ds:=g.map pairD) ?_
  refine⟨g,rfl,trivial,by omega,λp H A G=> ?_,?_⟩
  ·obtain⟨a,b,rfl⟩:=G
   refine gc rfl (aA (aV (aA (aV (bA ?_)))))
   apply⟨rfl,⟨_,_,rfl⟩,?_⟩
   apply⟨rfl,rfl,λ_=> ?_⟩
   exact⟨rfl,rfl⟩
  have R:((g.filter λp=>decide (p.1<=j)).map λp=>D.int p.1).length=(g.filter λp=>decide (p.1<=j)).length:=lQm ..
  have F:=List.length_filter_le (λp=>decide (p.1<=j)) g
  unfold ue at q
  symm
  rw[R]
  generalize (g.filter λp=>decide (p.1<=j)).length=n at q F⊢
  apply nq ?_
  apply dz (dF ?_)
  refine⟨_,rfl,g.map pairD,rfl,?_⟩
  rw[Ia (by rw[lQm];exact F)]
  symm
  refine⟨by show 2<=_;decide,?_⟩
  symm
  refine⟨by show 1<=_;decide,?_⟩
  refine fo (by simp only[lQm,Qxq,Qnq,QGq];exact nQl (bq (by omega))) ?_
  apply nq ?_
  apply dF ?_
  refine⟨_,rfl,dz ⟨g.map pairD,rfl,?_⟩⟩
  rw[jR (by rw[lQm];exact F)]
  refine fo (by simp only[lQa,lQm,Qxq,List.length_drop,Qnq,QGq];exact nQl (bq (by omega))) ?_
  symm
  have e:D.tup ((g.map pairD).take n++ [D.tup [.int j,.int h]]++(g.map pairD).drop n)=e_ (g.take n++ [(j,(h:Int))]++g.drop n):=by
   simp only[e_,Qzq,List.map_take,List.map_drop]
   rfl
  rw[e]
  generalize g.take n++ [(j,(h:Int))]++g.drop n=nl at q⊢
  apply kD m W (by omega) Y ?_
  have K:Op (settle S ({s with aj:=s.aj.set i (dt {rs with aa:=rs.aa.set b nl})}:bE).d S) λp=>Q p.1 p.2:=cW (bt _) (bE.low _) q
  generalize X:({rs with aa:=rs.aa.set b nl}:de)=nr at K⊢
  have Z:Op (settle S ({s with aj:=(s.aj.set i nr).set i (dt nr)}:bE).d S) λp=>Q p.1 p.2:=by rw[List.set_set];exact K
  exact BE (s:={s with aj:=s.aj.set i nr}) (Qyq M) (by simp;omega) Z
 by_cases c:u="turns"
 ·rw[Qeq c,Qhq rfl]
  symm
  apply ay (d:=t.d) rfl ?_
  refine I _ _ ?_
  exact B v (by rw[Qhq c])
 ·rw[Qdq c,Quq (by decide)]
  refine bX ?_
  exact B 0 (by rw[Quq c])
end
end W28
namespace DL
open PySem PySem.Spec L2
section
variable{Γ:cB}{S:aE}
def Pv{a:List (Str×Str)}{g:bH}{Q:D->aE->Prop}(h:E g Γ S λy b=>∃x nm,y=.str x/\a.lookup x=some nm/\Q (.fn nm) b):E (OG a g) Γ S Q:=by
 obtain⟨y,b,c,x,nm,rfl,e2,q⟩:=h
 exact⟨_,b,by unfold OG;rw[c];simp only[Qbq];rw[e2];rfl,q⟩
def JN{i:Nat}{T:List (Str×cR)}{g:ie}{x:Str}{F:cR}{Q:D->aE->Prop}(a:Γ[i]?=some (some (.fn x)))(b:T.lookup x=some F)(h:E (ax F g) Γ S Q):E (vo i T g) Γ S Q:=by
 obtain⟨y,c,d,q⟩:=h
 exact⟨_,c,by unfold vo;rw[a];show(T.lookup x).bind _=_;rw[b];exact d,q⟩
def MC{f:bH}{Q:D->aE->Prop}(h:E f Γ S λd a=>∃k,d=.bl k/\Q (.bl (!k)) a):E (JK f) Γ S Q:=by
 obtain⟨d,a,b,k,rfl,q⟩:=h
 exact⟨_,a,by unfold JK;rw[b];rfl,q⟩
def Ef{a:Bool}{x:D}{Q:D->Prop}(q:Q (.bl (if a then !isNone x else isNone x))):Op (Bk a S x .non) Q:=⟨_,rfl,q⟩
end
def yg{α:Type}{xs:List α}{a b:α}:kj (xs++ [a,b]) (-2)=some a:=by
 unfold kj CD
 rw[Quq (by omega),Qhq (by simp;omega)]
 simp only[Qbq]
 rw[show((-2:Int)+((xs++ [a,b]).length:Int)).toNat=xs.length by simp;omega]
 simp
end DL
namespace W28
open PySem PySem.Spec L2 DL
section
variable{S:aE}{Q:Res->aE->Prop}
def QP:Rw->cR
 |.put _ _=>uL
 |.unl _ _=>lB
 |.go _=>yX
 |.do_ _ _ _ _=>zc
 |.wait _ _=>qv
 |.call _=>qD
 |.all _=>uE
 |.tell _=>qz
 |.take _=>v7
 |.give _=>vP
 |.pass _ _=>vW
 |.say _=>uN
def Rw.kind:Rw->Str
 |.put _ _=>"put"
 |.unl _ _=>"unless"
 |.go _=>"go"
 |.do_ _ _ _ _=>"do"
 |.wait _ _=>"wait"
 |.call _=>"call"
 |.all _=>"all"
 |.tell _=>"tell"
 |.take _=>"take"
 |.give _=>"give"
 |.pass _ _=>"pass"
 |.say _=>"say"
def Rw.d_kind(r:Rw):∃l,r.d=.tup (.str r.kind::l):=by cases r <;>exact⟨_,rfl⟩
def JO(r:Rw):∃nm,nH.lookup r.kind=some nm/\vt.lookup nm=some (QP r):=by
 cases r
 ·exact⟨"by_put",rfl,rfl⟩
 ·exact⟨"by_unless",rfl,rfl⟩
 ·exact⟨"by_go",rfl,rfl⟩
 ·exact⟨"by_do",rfl,rfl⟩
 ·exact⟨"by_wait",rfl,rfl⟩
 ·exact⟨"by_call",rfl,rfl⟩
 ·exact⟨"by_all",rfl,rfl⟩
 ·exact⟨"by_tell",rfl,rfl⟩
 ·exact⟨"by_take",rfl,rfl⟩
 ·exact⟨"by_give",rfl,rfl⟩
 ·exact⟨"by_pass",rfl,rfl⟩
 ·exact⟨"by_say",rfl,rfl⟩
def L1(w:dE)(s:bE)(h:Nat)(r:Rw)(a:bE):Prop:=∀(S:aE) (Q:Res->aE->Prop),Q (.d a.d) S->Fn (QP r) [w.d,s.d,.int h,r.d] S Q
def AF{w:dE}{s c:bE}{h:Nat}{r:Rw}(hd:L1 w s h r c)(q:Q (.d c.d) S):Fn jT [w.d,s.d,.int h,r.d] S Q:=by
 obtain⟨b,f,e⟩:=JO r
 obtain⟨l,a⟩:=r.d_kind
 refine bZ ?_
 unfold x_
 apply aI (cK (Pv ?_))
 rw[a]
 refine ay (d:=.str r.kind) AU ?_
 rw[←a]
 refine⟨_,b,rfl,f,?_⟩
 apply eV (JN (x:=b) rfl e ?_)
 refine hd _ _ ?_
 exact cW (bt _) (bE.low _) q
def tf{w:dE}{s o:bE}{h i:Nat}{vs:List Int}{e:List cz}{b f:cz}{rs:de}{pr:List Rw}{g:Option Str}{r p:Str}{t:Tr}(hs:s.af[h]?=some (vs,e++ [b,f]))(u:f.room=i)(m:s.aj[i]?=some rs)(z:s.aj.length<=900)(y:s.af.length<=900)
  (v:progOf w h b=some pr) (B:1<=b.row) (k:pr[(b.row-1).toNat]?=some (.do_ g r p t))
  (j:∀a:bE,a={s with aj:=s.aj.set i (dt rs),af:=s.af.set h (vs,e++ [b])}->match g with|none=>o=a|some x=>Puts w a h x f.told o)
  (q:Q (.d o.d) S):Fn jP [w.d,s.d,.int h] S Q:=by
 have A:h<s.af.length:=(gQs.mp hs).1
 refine bZ ?_
 unfold sk
 symm
 apply ay rfl ?_
 refine ay (d:=tw (vs,e++ [b,f])) (aW (by rw[gQm,hs];rfl)) ?_
 refine gc rfl (aA (aV (aA (aV (bA ?_)))))
 have n:(e++ [b,f]).map cz.d=e.map cz.d++ [b.d,f.d]:=by simp
 dsimp only[a9,aN,a7,bR,bU,eZ]
 rw[n]
 symm
 apply ke ?_
 refine⟨1,rfl,?_⟩
 refine ay (d:=f.d) (wG (by simp)) ?_
 refine gc rfl (aA (aV (aA (aV (aA (aV (aA (aV (aA (aV (bA ?_)))))))))))
 rw[u]
 symm
 apply BE m z ?_
 apply nq ?_
 apply dz (dF (ke ?_))
 refine⟨1,rfl,_,rfl,_,rfl,?_⟩
 rw[AI (by simp)]
 have l:D.tup ((e.map cz.d++ [b.d,f.d]).dropLast)=.tup ((e++ [b]).map cz.d):=by
  rw[show e.map cz.d++ [b.d,f.d]=(e.map cz.d++ [b.d])++ [f.d] by simp,List.dropLast_concat]
  simp
 rw[l]
 symm
 refine iI (s:={s with aj:=s.aj.set i (dt rs)}) A y ?_
 have j:=j _ rfl
 dsimp only at j⊢
 generalize ({s with aj:=s.aj.set i (dt rs),af:=s.af.set h (vs,e++ [b])}:bE)=a at j⊢
 symm
 apply ke ?_
 refine⟨2,rfl,?_⟩
 apply ay (d:=b.d) yg ?_
 apply gW v ?_
 apply ke ?_
 refine⟨2,rfl,?_⟩
 apply ay (d:=b.d) yg ?_
 apply ay (d:=.int b.row) rfl ?_
 refine ay (d:=(Rw.do_ g r p t).d) (iK (by omega) (by rw[gQm,k];rfl)) ?_
 symm
 apply ay (d:=Ho g) rfl ?_
 refine Ef ?_
 cases g with
 | none=>
   dsimp only at j
   subst j
   apply aK (λ_=> ?_) (λc=>by cases c)
   exact cW (bt _) (bE.low _) q
 | some x=>
   apply aK (λc=>by cases c) (λ_=>bX ?_)
   apply ay (d:=.str x) rfl ?_
   refine j _ _ ?_
   exact cW (bt _) (bE.low _) q
end
section
variable{S:aE}{Q:Res->aE->Prop}
def N6(h:Nat):Option Int->D
 |none=>.non
 |some v=>.tup [.int h,.int v]
def Jl(h:Nat)(e:Option Int):cu 0 (N6 h e)=true:=by cases e <;>rfl
def JJ(s:bE)(h:Nat)(e:Option Int):D:=.tup [s.d,N6 h e]
def uK(s:bE)(h:Nat)(e:Option Int):cu 0 (JJ s h e)=true:=by
 simp only[JJ,cu,cg,Jl,bE.low,Bool.and_true]
def A7(w:dE)(s:bE)(h:Nat)(a:bE)(e:Option Int):Prop:=∀(S:aE) (Q:Res->aE->Prop),Q (.d (JJ a h e)) S->Fn qy [w.d,s.d,.int h] S Q
def Ga{w:dE}{s:bE}{h i:Nat}{vs:List Int}{fs:List cz}{f:cz}{rs:de}(hs:s.af[h]?=some (vs,fs))(c:fs.getLast? =some f)(b:f.room=i)(a:s.aj[i]?=some rs)(e:rs.within≠h)(j:s.aj.length<=900)(g:rs.row.length<=900):
  A7 w s h {s with aj:=s.aj.set i (gD rs h)} none:=by
 intro S Q q
 refine bZ ?_
 unfold lT
 symm
 apply cm hs c ?_
 apply ay (d:=.int f.room) rfl ?_
 refine mh ?_
 dsimp only[a9,aN,a7,bR,bU,eZ]
 rw[Qdq (show¬f.room= -1 by omega),b]
 show if (true=true) then _ else _
 rw[Qhq rfl]
 symm
 apply ay rfl ?_
 refine ay (d:=rs.d) (aW (by rw[gQm,a];rfl)) ?_
 symm
 apply ay (d:=.int rs.within) rfl ?_
 refine mh ?_
 dsimp only[a9,aN,a7,bR,bU,eZ]
 rw[Qdq e]
 show if (true=true) then _ else _
 rw[Qhq rfl]
 symm
 apply vN a j g ?_
 refine⟨by show 2<=_;decide,?_⟩
 exact cW (d:=JJ _ h none) (λk z=>(nomatch z)) (uK _ _ _) q
def Here(s:bE)(h:Nat)(f:cz):Prop:=f.room= -1\/∃(i:Nat) (a:de),f.room=i/\s.aj[i]?=some a/\a.within=h
def yu{w:dE}{s:bE}{h:Nat}{f:cz}{a b c d:Option D}{Q:Bool->aE->Prop}(k:Here s h f)(q:Q false S):E (ij (aH (aQ (du true) (ar 4) (cF (.int (-1))))) (aH (aQ (du true) (aQ fJ (aQ fJ (aQ fJ (ar 1) (cF (.int 0))) (ar 4)) (cF (.int 1))) (ar 2)))) [some w.d,some s.d,some (.int h),some f.d,some (.int f.room),a,b,c] S Q:=by
 rcases k with e|⟨i,j,e,g,l⟩
 ·symm
  refine mh ?_
  dsimp only[a9,aN,a7,bR,bU,eZ]
  rw[Qeq e]
  show if (false=true) then _ else _
  rw[Quq (by decide)]
  exact q
 ·symm
  refine mh ?_
  dsimp only[a9,aN,a7,bR,bU,eZ]
  rw[Qdq (show¬f.room= -1 by omega),e]
  show if (true=true) then _ else _
  rw[Qhq rfl]
  symm
  apply ay rfl ?_
  refine ay (d:=j.d) (aW (by rw[gQm,g];rfl)) ?_
  symm
  apply ay (d:=.int j.within) rfl ?_
  refine mh ?_
  dsimp only[a9,aN,a7,bR,bU,eZ]
  rw[Qeq l]
  exact q
def BU{w:dE}{s b:bE}{h:Nat}{vs:List Int}{fs:List cz}{f:cz}{pr:List Rw}(hs:s.af[h]?=some (vs,fs))(e:fs.getLast? =some f)(i:Here s h f)(g:progOf w h f=some pr)(a:f.row=pr.length)
  (he:∀(S:aE) (Q:Res->aE->Prop),Q (.d b.d) S->Fn jP [w.d,s.d,.int h] S Q):A7 w s h b none:=by
 intro S Q q
 refine bZ ?_
 unfold lT
 symm
 apply cm hs e ?_
 refine ay (d:=.int f.room) rfl ?_
 refine aI (bP (yu (d:=none) i ?_))
 apply aK (λc=>by cases c) (λ_=>bX ?_)
 apply gW g ?_
 apply ay (d:=.int f.row) rfl ?_
 refine dR ?_
 dsimp only[a9,aN,a7,bR,bU,eZ]
 rw[lQm,Qeq a,Qhq rfl]
 symm
 apply he _ _ ?_
 refine⟨by show 2<=_;decide,?_⟩
 exact cW (d:=JJ _ h none) (λk z=>(nomatch z)) (uK _ _ _) q
def Lj(w:dE)(s:bE)(h:Nat)(r:Rw)(e:Option Int):Prop:=match r with
 |.say t=>∃v,e=some v/\C4 w s h t v
 |_=>e=none
def Bq{w:dE}{s m:bE}{h:Nat}{vs:List Int}{fs:List cz}{f:cz}{pr:List Rw}{r:Rw}{e:Option Int}(hs:s.af[h]?=some (vs,fs))(j:fs.getLast? =some f)(B:Here s h f)(x:progOf w h f=some pr)(y:0<=f.row)(b:pr[f.row.toNat]?=some r)(A:fs.length<=900)(n:s.af.length<=900)
  (a:Lj w s h r e) (hd:L1 w {s with af:=s.af.set h (vs,fs.dropLast++ [{f with row:=f.row+1}])} h r m):A7 w s h m e:=by
 intro S Q q
 have u:=(gQs.mp b).1
 refine bZ ?_
 unfold lT
 symm
 apply cm hs j ?_
 refine ay (d:=.int f.room) rfl ?_
 refine aI (bP (yu (d:=none) B ?_))
 apply aK (λc=>by cases c) (λ_=>bX ?_)
 apply gW x ?_
 apply ay (d:=.int f.row) rfl ?_
 refine dR ?_
 dsimp only[a9,aN,a7,bR,bU,eZ]
 rw[lQm,Qdq (show¬f.row=(pr.length:Int) by omega),Quq (by decide)]
 apply bX ?_
 refine ay (d:=.int f.row) rfl ?_
 refine ay (d:=r.d) (iK y (by rw[gQm,b];rfl)) ?_
 symm
 obtain⟨l,C⟩:=r.d_kind
 have i:T (cy (bg (aq (ax jT (aq (ar 0) (aq (ax lD (aq (ar 1) (aq (ar 2) (aq (aQ cA (aQ fJ (ar 3) (cF (.int 2))) (cF (.int 1))) av)))) (aq (ar 2) (aq (ar 6) av))))) (aq (ar 7) av))))
   [some w.d,some s.d,some (.int h),some f.d,some (.int f.room),some (.tup (pr.map Rw.d)),some r.d,some (N6 h e)] S (λo=>match o with
   |.nx _ g=>Op (settle S .non g) λp=>Q p.1 p.2|.rt d g=>Op (settle S d g) λp=>Q p.1 p.2|.rl l g=>Op (eJ S l g) λp=>Q p.1 p.2|_=>False):=by
  symm
  apply ay (d:=.int f.row) rfl ?_
  apply sM hs j A n ?_
  apply AF hd ?_
  refine⟨by show 2<=_;decide,?_⟩
  exact cW (d:=JJ _ h e) (λk z=>(nomatch z)) (uK _ _ _) q
 cases r with
 | say t=>
   obtain⟨v,rfl,hv⟩:=a
   apply ay (d:=.str "say") rfl ?_
   refine gE ?_
   dsimp only[a9,aN,a7,bR,bU,eZ]
   rw[Qeq rfl,Qhq rfl]
   symm
   apply ay (d:=t.d) rfl ?_
   apply hv _ _ ?_
   refine⟨by show 2<=_;decide,?_⟩
   exact i
 | _=>
   have a:e=none:=a
   subst a
   apply ay rfl ?_
   refine gE ?_
   dsimp only[a9,aN,a7,bR,bU,eZ]
   refine aK (λc=>absurd (QZq c) (by decide +kernel)) (λ_=>bX ?_)
   exact i
end
end W28
namespace DL
open PySem PySem.Spec L2
section
variable{Γ:cB}{S:aE}
def Ha{f:bH}{g:fw}{Q:D->aE->Prop}(h:E f Γ S λx b=>∃k a,x=.ref k/\b[k]?=some (.lst a)/\E g Γ b λp S2=>∃ds,S2[k]?=some (.lst ds)/\(p.2.isL=false/\ds.length+p.1.length<=sizeLine)/\Q .non (S2.set k (.lst (ds++p.1)))):E (ye f g) Γ S Q:=by
 obtain⟨x,b,c,k,a,rfl,h1,p,S2,e2,ds,h2,h3,q⟩:=h
 exact⟨_,_,by unfold ye;rw[c];simp only[Qbq,e2,h1,h2];rw[Qhq h3],q⟩
end
def DY{S a:aE}{k:Nat}{ds:List D}{Q:Res×aE->Prop}(c:qk S a)(e:S.length<=k)(d:a[k]?=some (.lst ds))(b:cg S.length ds=true)(q:Q (.l ds,a.take S.length)):Op (settle S (.ref k) a) Q:=by
 refine⟨_,?_,q⟩
 unfold settle
 rw[Qhq c]
 show(if k<S.length then _ else _)=_
 rw[Quq (by omega),d]
 show(if cg S.length ds=true then _ else _)=_
 rw[Qhq b]
def zt{n:Nat}(h:n<=100000):n<=sizeLine:=QAq h (by decide)
theorem fQ:∀ss:List Int,qt (ss.map D.int)=some (ss.map V.int)
 | []=>rfl
 |s::ss=>by simp only[QDq,qt,xc,Qbq];rw[fQ ss];rfl
def nK{x:Int}{ss:List Int}:Hh (.int x) (ss.map V.int)=decide (x∈ss):=by
 induction ss with
 |nil=>rfl
 | cons a ss b=>
   show(uM (.int a) (.int x)||Hh (.int x) (ss.map V.int))=_
   rw[b]
   simp only[uM,Qsq]
   by_cases c:a=x
   · subst c;simp
   · have d:¬x=a:=λz=>c z.symm
     simp[c,d]
end DL
namespace W28
open PySem PySem.Spec L2 DL
section
variable{S:aE}{Q:Res->aE->Prop}
def AD{S a:aE}(x:rG S a):a.take S.length=S:=by
 apply List.ext_getElem?
 intro j
 by_cases b:j<S.length
 ·rw[List.getElem?_take_of_lt b]
  exact x.eq j b
 ·rw[List.getElem?_eq_none (by rw[Qxq];omega),List.getElem?_eq_none (by omega)]
def Lr{S a:aE}{ds:List D}{Q:Res->aE->Prop}(x:rG S a)(b:cg 0 ds=true)(q:Q (.l ds) S):Op (eJ S ds a) λp=>Q p.1 p.2:=
 pM ⟨x.len,λk o c e=>.inl (by rw[←x.eq k c];exact e)⟩ (AD x) (jS b) q
def ID{S a:aE}{k:Nat}{ds:List D}{Q:Res->aE->Prop}(x:rG S a)(b:S.length<=k)(d:a[k]?=some (.lst ds))(c:cg 0 ds=true)(q:Q (.l ds) S):Op (settle S (.ref k) a) λp=>Q p.1 p.2:=
 DY ⟨x.len,λk o b e=>.inl (by rw[←x.eq k b];exact e)⟩ b d (jS c) (by rw[AD x];exact q)
def Bg{l:List (Int×Int)}(f:l.length<=1000)(q:Q (.l ((l.map (·.2)).map D.int)) S):Fn nQ [e_ l] S Q:=by
 refine bZ ?_
 unfold rO
 symm
 apply iU (α:=Int×Int) (λc=>∃a b,c= [a,b]) pairD (λp=>.int p.2) ⟨none,none,rfl⟩ ?_
 refine cx (ds:=l.map pairD) ?_
 refine⟨l,rfl,trivial,f,λp g c d=> ?_,?_⟩
 ·obtain⟨a,b,rfl⟩:=d
  refine gc rfl (aA (aV (aA (aV (bA ?_)))))
  apply⟨rfl,⟨_,_,rfl⟩,?_⟩
  exact⟨rfl,rfl⟩
 ·have e:l.map (λp=>D.int p.2)=(l.map (·.2)).map D.int:=by rw[QPq];rfl
  rw[e]
  exact GD (bf λ_ _=>rfl) q
def ip(r:de):List Int:=r.row++r.ag++r.aa.flatMap λl=>l.map (·.2)
def held(s:bE):List Int:=s.ai.flatMap (·.2)++s.aj.flatMap ip
theorem ql{α d:Type}{f:α->List d}{n:Nat}:∀{l:List α},(∀a∈l,(f a).length<=n)->(l.flatMap f).length<=n*l.length
 | [],_=>by simp
 | a::l,h=>by
   have e:=h a (QBq ..)
   have g:=ql (f:=f) (l:=l) λb c=>h b (Qpq _ c)
   rw[QSq,lQa,Qnq,Nat.mul_add]
   omega
def rF{α b:Type}{f:α->List b}{l:List α}{n:Nat}{a:α}(h:l[n]?=some a):(l.take (n+1)).flatMap f=(l.take n).flatMap f++f a:=by
 rw[QYq,h]
 simp
def rY{s:bE}{n:Nat}(P:n<=100)(b1:s.ai.length<=100)(b2:s.aj.length<=20)(N:∀p∈s.ai,p.2.length<=n)(r1:∀r∈s.aj,r.row.length<=n/\r.ag.length<=n/\r.aa.length<=10/\∀l∈r.aa,l.length<=n)
  (q:Q (.l ((held s).map D.int)) S):Fn ff [s.d] S Q:=by
 have X:∀o:List D,rG S (S++ [.lst o]):=λo=>rG.refl.app
 have C:∀r∈s.aj,∀j:Nat,((r.aa.take j).flatMap λl=>l.map (·.2)).length<=1000:=λr C j=>by
  obtain⟨_,_,L,M⟩:=r1 r C
  have G:=ql (f:=λl:List (Int×Int)=>l.map (·.2)) (n:=n) (l:=r.aa.take j) λl v=>by rw[lQm];exact M l (List.mem_of_mem_take v)
  have F:(r.aa.take j).length<=10:=by rw[Qxq];omega
  have W:n*(r.aa.take j).length<=100*10:=Nat.mul_le_mul P F
  omega
 have K:∀r∈s.aj,(ip r).length<=1200:=λr h=>by
  have I:=C r h r.aa.length
  obtain⟨Z,L,_⟩:=r1 r h
  rw[QEq] at I
  simp only[ip,lQa]
  omega
 have x:∀j:Nat,((s.ai.take j).flatMap (·.2)).length<=10000:=λj=>by
  have G:=ql (f:=λp:Int×List Int=>p.2) (n:=n) (l:=s.ai.take j) λl v=>N l (List.mem_of_mem_take v)
  have F:(s.ai.take j).length<=100:=by rw[Qxq];omega
  have W:n*(s.ai.take j).length<=100*100:=Nat.mul_le_mul P F
  omega
 have J:∀j:Nat,((s.aj.take j).flatMap ip).length<=24000:=λj=>by
  have G:=ql (f:=ip) (n:=1200) (l:=s.aj.take j) λl v=>K l (List.mem_of_mem_take v)
  have F:(s.aj.take j).length<=20:=by rw[Qxq];omega
  omega
 refine bZ ?_
 unfold i6
 symm
 refine⟨by decide,?_⟩
 apply aI (gZ (j2 ?_))
 refine ay rfl ?_
 refine cx (ds:=s.ai.map Ik) ?_
 refine⟨λj k u=>(∃a b c d e f g,k= [some s.d,some (.ref S.length),a,b,c,d,e,f,g])/\u=S++ [.lst (((s.ai.take j).flatMap (·.2)).map D.int)],⟨⟨_,_,_,_,_,_,_,rfl⟩,rfl⟩,λ_ _ _ _=>trivial,?_,?_⟩
 ·rintro j d k u t ⟨⟨a,b,c,H,e,f,g,rfl⟩,rfl⟩
  have t:(s.ai.map Ik)[j]?=some d:=t
  rw[gQm] at t
  obtain⟨p,R,rfl⟩:=oQm.mp t
  refine gc rfl (aA (aV (aA (aV (bA ?_)))))
  apply d_ (Ha ?_)
  apply⟨_,_,rfl,aM,?_⟩
  refine cx (ds:=p.2.map D.int) ?_
  refine⟨_,aM,⟨rfl,?_⟩,⟨_,_,_,_,_,_,_,rfl⟩,?_⟩
  ·have:=x j
   have:=N p (mQg R)
   simp only[lQm]
   exact zt (by omega)
  ·rw[rF R,Qzq]
   simp
 rintro k u ⟨⟨a,b,c,H,e,f,g,rfl⟩,rfl⟩
 have v:(s.ai.map Ik).length=s.ai.length:=lQm ..
 rw[v,QEq]
 apply aI (gZ (j2 ?_))
 refine ay rfl ?_
 refine cx (ds:=s.aj.map de.d) ?_
 refine⟨λj k u=>(∃a b c d e f g,k= [some s.d,some (.ref S.length),a,b,c,d,e,f,g])/\u=S++ [.lst ((s.ai.flatMap (·.2)++(s.aj.take j).flatMap ip).map D.int)],⟨⟨_,_,_,_,_,_,_,rfl⟩,by simp⟩,λ_ _ _ _=>trivial,?_,?_⟩
 ·rintro j d k u t ⟨⟨a,b,c,H,e,f,g,rfl⟩,rfl⟩
  have t:(s.aj.map de.d)[j]?=some d:=t
  rw[gQm] at t
  obtain⟨r,y,rfl⟩:=oQm.mp t
  have w:=mQg y
  obtain⟨Z,L,M,G⟩:=r1 r w
  have A:(s.ai.flatMap (·.2)++(s.aj.take j).flatMap ip).length<=34000:=by
   have:=x s.ai.length
   rw[QEq] at this
   have:=J j
   rw[lQa]
   omega
  generalize B:s.ai.flatMap (·.2)++(s.aj.take j).flatMap ip=o at A⊢
  refine gc rfl (aA (aV (aA (aV (aA (aV (aA (aV (aA (aV (bA ?_)))))))))))
  apply aI (d_ (Ha ?_))
  apply⟨_,_,rfl,aM,?_⟩
  refine fo (i:=r.row.map D.int) (j:=r.ag.map D.int) (by simp only[lQm];exact zt (by omega)) ?_
  refine cx ?_
  refine⟨_,aM,⟨rfl,?_⟩,?_⟩
  ·simp only[lQa,lQm]
   exact zt (by omega)
  dsimp only[a9,aN,a7,bR,bU,eZ]
  have Y:(S++ [O.lst (o.map D.int)]).set S.length (.lst (o.map D.int++(r.row.map D.int++r.ag.map D.int)))=S++ [.lst ((o++(r.row++r.ag)).map D.int)]:=by simp
  rw[Y]
  apply gZ (j2 ?_)
  refine⟨λj k u=>(∃a b c d e f g,k= [some s.d,some (.ref S.length),a,b,c,d,e,f,g])/\u=S++ [.lst ((o++(r.row++r.ag)++(r.aa.take j).flatMap λl=>l.map (·.2)).map D.int)],⟨⟨_,_,_,_,_,_,_,rfl⟩,by simp⟩,λ_ _ _ _=>trivial,?_,?_⟩
  ·rintro m d k u t ⟨⟨a,b,c,H,e,f,g,rfl⟩,rfl⟩
   have t:(r.aa.map e_)[m]?=some d:=t
   rw[gQm] at t
   obtain⟨l,z,rfl⟩:=oQm.mp t
   have U:=G l (mQg z)
   refine aV ?_
   apply d_ (IQ ?_)
   apply⟨_,_,rfl,aM,?_⟩
   apply Bg (by omega) ?_
   refine⟨_,aM,⟨rfl,?_⟩,⟨_,_,_,_,_,_,_,rfl⟩,?_⟩
   ·have:=C r w m
    simp only[lQa,lQm]
    exact zt (by omega)
   ·rw[rF z,←Qvq,Qzq]
    simp
  ·rintro k u ⟨I,rfl⟩
   refine⟨I,?_⟩
   have v:(r.aa.map e_).length=r.aa.length:=lQm ..
   rw[v,QEq,rF y]
   subst B
   simp only[ip,Qvq]
 ·rintro k u ⟨⟨a,b,c,H,e,f,g,rfl⟩,rfl⟩
  have v:(s.aj.map de.d).length=s.aj.length:=lQm ..
  rw[v,QEq]
  symm
  exact ID (X _) (Qmq _) aM (bf λ_ _=>rfl) q
end
section
variable{S:aE}{Q:Res->aE->Prop}
def Bw(s:bE)(h:Nat):Option cz:=(s.af[h]?).bind λp=>p.2.getLast?
def ja(w:dE)(s:bE)(h:Nat):Bool:=match Bw s h with
 |some f=>decide (f.room= -1)&&decide (f.row=(((progOf w h f).getD []).length:Int))
 |none=>false
def sF{w:dE}{s:bE}{h:Nat}{vs:List Int}{fs:List cz}{f:cz}{pr:List Rw}(hs:s.af[h]?=some (vs,fs))(b:fs.getLast? =some f)(a:progOf w h f=some pr)(q:Q (.d (.bl (ja w s h))) S):Fn gu [w.d,s.d,.int h] S Q:=by
 have e:ja w s h=(decide (f.room= -1)&&decide (f.row=(pr.length:Int))):=by
  unfold ja Bw
  rw[hs]
  show(match fs.getLast? with|some f=>_|none=>_)=_
  rw[b]
  simp only[a,Option.getD_some]
 rw[e] at q
 refine bZ ?_
 unfold jb
 symm
 apply cm hs b ?_
 apply mR ?_
 apply ay (d:=.int f.room) rfl ?_
 refine dR ?_
 refine⟨_,rfl,?_⟩
 by_cases c:f.room= -1
 ·rw[Qeq c] at q⊢
  rw[Qhq rfl]
  symm
  apply ay (d:=.int f.row) rfl ?_
  apply gW a ?_
  refine dR ?_
  rw[lQm]
  exact cW (λk z=>(nomatch z)) rfl q
 ·rw[Qdq c] at q⊢
  rw[Quq (by decide)]
  exact cW (λk z=>(nomatch z)) rfl q
def qm(w:dE)(s:bE):List Nat:=(List.range s.af.length).filter λh=> !decide ((h:Int)∈held s)&& !ja w s h
def mM(h:Nat):D:=.int h
def L7(w:dE)(s:bE):Prop:=∀(S:aE) (Q:Res->aE->Prop),Q (.l ((qm w s).map mM)) S->Fn nM [w.d,s.d] S Q
def Co{w:dE}{s:bE}(o:∀(S:aE) (Q:Res->aE->Prop),Q (.l ((held s).map D.int)) S->Fn ff [s.d] S Q)(m:∀h<s.af.length,∃vs fs f pr,s.af[h]?=some (vs,fs)/\fs.getLast? =some f/\progOf w h f=some pr)(p:s.af.length<=100):L7 w s:=by
 intro S Q q
 refine bZ ?_
 unfold rV
 symm
 apply o _ _ ?_
 apply nN (α:=Nat) (λb=>∃a,b= [a,some w.d,some s.d,some (.ref S.length)]) (λ(i:Nat)=>D.int (0+(i:Int))) mM (λh=> !decide ((h:Int)∈held s)&& !ja w s h) ⟨none,rfl⟩ ?_
 apply ay rfl ?_
 refine⟨_,rfl,?_,?_⟩
 ·simp only[lQm]
  omega
 refine⟨List.range s.af.length,?_,trivial,by simp;omega,λh j b e=> ?_,?_⟩
 ·simp only[jO,lQm]
  rfl
 ·obtain⟨a,rfl⟩:=e
  obtain⟨vs,fs,f,pr,k,n,g⟩:=m h (List.mem_range.mp j)
  refine aV ⟨rfl,⟨_,rfl⟩,?_⟩
  rw[Int.zero_add]
  apply pV (cD (yK ?_))
  refine a_ (ds:=(held s).map D.int) aM ?_
  refine⟨_,_,rfl,fQ _,?_⟩
  rw[nK]
  by_cases c:(h:Int)∈held s
  ·rw[Qeq c]
   refine aK (λc=>by cases c) (λ_=> ?_)
   exact⟨rfl,rfl,λc=>by cases c⟩
  ·rw[Qdq c]
   apply aK (λ_=> ?_) (λc=>by cases c)
   refine sF k n g ?_
   dsimp only[a9,aN,a7,bR,bU,eZ]
   refine se ?_
   apply⟨rfl,rfl,λ_=> ?_⟩
   exact⟨rfl,rfl⟩
 ·refine Lr (rG.refl.app) (bf λ_ _=>rfl) q
def CK{w:dE}{s b:bE}{h:Nat}{e:Option Int}(f:L7 w s)(i:h∈qm w s)(a:A7 w s h b e)(q:Q (.d (JJ b h e)) S):Fn qe [w.d,s.d,.int h] S Q:=by
 refine bZ ?_
 unfold vy
 apply aI (bP (cD (yK ?_)))
 refine f _ _ ?_
 dsimp only[a9,aN,a7,bR,bU,eZ]
 have g:(qm w s).map mM=((qm w s).map λh:Nat=>(h:Int)).map D.int:=by rw[QPq];rfl
 refine⟨_,_,rfl,by rw[g];exact fQ _,?_⟩
 rw[nK,Qeq (Qkq.mpr ⟨h,i,rfl⟩)]
 apply aK (λc=>by cases c) (λ_=>bX ?_)
 refine a _ _ ?_
 exact cW (λk z=>(nomatch z)) (uK _ _ _) q
end
structure kS(n:Nat)(r:Rm)(rs:de):Prop where
 lv:r.ao.length=rs.vals.length
 lb:r.aa.length=rs.aa.length
 vv:∀v∈rs.vals,0<=v/\v<=9
 br:rs.row.length<=n
 bl:rs.ag.length<=n
 bb:∀l∈rs.aa,l.length<=n
structure Iy(w:dE)(h:Nat)(f:cz):Prop where
 pr:∃pr,progOf w h f=some pr/\0<=f.row/\f.row<=pr.length
 gv:0<=f.given/\f.given<=9
 tv:0<=f.told/\f.told<=9
def PQ(w:dE)(h:Nat)(f:cz):Prop:=∃a g b c t,progOf w h f=some a/\1<=f.row/\a[(f.row-1).toNat]?=some (.do_ g b c t)
def kf:List cz->Prop
 | []=>False
 |f0::tl=>f0.room= -1/\∀f∈tl,f.room≠-1
structure j7(w:dE)(n h:Nat)(ts:List (Str×Nat))(vs:List Int)(fs:List cz):Prop where
 lv:ts.length=vs.length
 vv:∀v∈vs,0<=v/\v<=9
 lf:fs.length<=n
 fr:∀f∈fs,Iy w h f
 hd:kf fs
 ch:∀f∈fs.dropLast,PQ w h f
structure di(w:dE)(n:Nat)(s:bE):Prop where
 lr:w.aj.length=s.aj.length
 rm:∀(i:Nat) (r:Rm) (rs:de),w.aj[i]?=some r->s.aj[i]?=some rs->kS n r rs
 lp:w.ai.length=s.ai.length
 ps:∀p∈s.ai,p.2.length<=n
 ls:w.ak.length=s.ak.length
 sv:∀v∈s.ak,0<=v/\v<=9
 lh:w.af.length=s.af.length
 hd:∀(h:Nat) (ts:List (Str×Nat)) (pr:List Rw) (vs:List Int) (fs:List cz),w.af[h]?=some (ts,pr)->s.af[h]?=some (vs,fs)->j7 w n h ts vs fs
def kS.mono{n m:Nat}{r:Rm}{rs:de}(h:kS n r rs)(l:n<=m):kS m r rs:=⟨h.lv,h.lb,h.vv,QAq h.br l,QAq h.bl l,λx a=>QAq (h.bb x a) l⟩
def j7.mono{w:dE}{n m h:Nat}{ts:List (Str×Nat)}{vs:List Int}{fs:List cz}(x:j7 w n h ts vs fs)(l:n<=m):j7 w m h ts vs fs:=⟨x.lv,x.vv,QAq x.lf l,x.fr,x.hd,x.ch⟩
def di.mono{w:dE}{n m:Nat}{s:bE}(x:di w n s)(l:n<=m):di w m s:=⟨x.lr,λi r f a b=>(x.rm i r f a b).mono l,x.lp,λp e=>QAq (x.ps p e) l,x.ls,x.sv,x.lh,λh j g c d a b=>(x.hd h j g c d a b).mono l⟩
def get_set{α:Type}{l:List α}{i j:Nat}{a b:α}(h:(l.set i a)[j]?=some b):(j=i/\b=a)\/(j≠i/\l[j]?=some b):=by
 rw[List.getElem?_set] at h
 split at h
 ·rename_i c
  split at h
  ·cases h;exact .inl ⟨c.symm,rfl⟩
  ·cases h
 ·rename_i c
  exact .inr ⟨λz=>c z.symm,h⟩
def di.room{w:dE}{n i:Nat}{s:bE}{r:Rm}{d:de}(x:di w n s)(g:w.aj[i]?=some r)(e:kS n r d):di w n {s with aj:=s.aj.set i d} where
 lr:=by simpa using x.lr
 rm:=λj f a b c=>by
  rcases get_set c with⟨rfl,rfl⟩|⟨_,c⟩
  ·rw[g] at b;cases b;exact e
  ·exact x.rm j f a b c
 lp:=x.lp
 ps:=x.ps
 ls:=x.ls
 sv:=x.sv
 lh:=x.lh
 hd:=x.hd
def di.share{w:dE}{n:Nat}{s:bE}{vs:List Int}(x:di w n s)(a:vs.length=s.ak.length)(b:∀v∈vs,0<=v/\v<=9):di w n {s with ak:=vs}:=⟨x.lr,x.rm,x.lp,x.ps,by rw[x.ls,←a],b,x.lh,x.hd⟩
def di.hand{w:dE}{n h:Nat}{s:bE}{ts:List (Str×Nat)}{pr:List Rw}{vs:List Int}{fs:List cz}(x:di w n s)(k:w.af[h]?=some (ts,pr))(i:j7 w n h ts vs fs):di w n {s with af:=s.af.set h (vs,fs)} where
 lr:=x.lr
 rm:=x.rm
 lp:=x.lp
 ps:=x.ps
 ls:=x.ls
 sv:=x.sv
 lh:=by simpa using x.lh
 hd:=λj f a d c b g=>by
  rcases get_set g with⟨rfl,e⟩|⟨_,g⟩
  ·rw[k] at b;cases b;cases e;exact i
  ·exact x.hd j f a d c b g
def fO{α:Type}{l:List α}{a:α}(h:l.getLast? =some a):l=l.dropLast++ [a]:=by
 cases l with
 |nil=>cases h
 | cons x y=>
   have b:x::y≠[]:=by simp
   rw[List.getLast?_eq_some_getLast b] at h
   cases h
   exact(List.dropLast_concat_getLast b).symm
def kf.last{fs:List cz}{f f':cz}:∀{c:List cz},kf (c++ [f])->f'.room=f.room->kf (c++ [f'])
 | [],h,e=>⟨by rw[e];exact h.1,λ_ z=>by cases z⟩
 | a::l,h,e=>⟨h.1,λx b=>by
   rcases mQa.mp b with b|b
   · exact h.2 x (mQa.mpr (.inl b))
   · rw[Qfq.mp b,e];exact h.2 f (mQa.mpr (.inr (Qfq.mpr rfl)))⟩
def kf.push{f':cz}:∀{fs:List cz},kf fs->f'.room≠-1->kf (fs++ [f'])
 | [],h,_=>h.elim
 | a::l,h,e=>⟨h.1,λx b=>by
   rcases mQa.mp b with b|b
   · exact h.2 x b
   · rw[Qfq.mp b];exact e⟩
def kf.pop{c f:cz}:∀{d:List cz},kf (d++ [c,f])->kf (d++ [c])
 | [],h=>⟨h.1,λ_ z=>by cases z⟩
 | a::l,h=>⟨h.1,λx b=>h.2 x (by
   rcases mQa.mp b with b|b
   · exact mQa.mpr (.inl b)
   · exact mQa.mpr (.inr (by rw[Qfq.mp b];simp)))⟩
def kf.two{f:cz}:∀{b:List cz},kf (b++ [f])->f.room≠-1->∃d c,b=d++ [c]
 | [],h,e=>absurd h.1 e
 |a::l,h,e=>⟨(a::l).dropLast,(a::l).getLast (by simp),(List.dropLast_concat_getLast (by simp)).symm⟩
section
variable{w:dE}{n h:Nat}{ts:List (Str×Nat)}{vs:List Int}{fs:List cz}{f f' f2:cz}
def j7.setLast(x:j7 w n h ts vs fs)(d:fs.getLast? =some f)(e:f'.room=f.room)(i:Iy w h f'):j7 w n h ts vs (fs.dropLast++ [f']):=by
 have c:=fO d
 have b:=x.hd
 rw[c] at b
 refine⟨x.lv,x.vv,?_,λg a=> ?_,kf.last (fs:=fs) b e,λg a=> ?_⟩
 ·have:=congrArg List.length c
  have:=x.lf
  simp only[lQa,Qnq,QGq] at *
  omega
 ·rcases mQa.mp a with a|a
  ·exact x.fr g (List.dropLast_subset _ a)
  ·rw[Qfq.mp a];exact i
 ·rw[List.dropLast_concat] at a
  exact x.ch g a
def j7.push(x:j7 w n h ts vs fs)(b:fs.getLast? =some f)(d:PQ w h f)(e:f'.room≠-1)(i:Iy w h f'):j7 w (n+1) h ts vs (fs++ [f']):=by
 refine⟨x.lv,x.vv,?_,λg a=> ?_,x.hd.push e,λg a=> ?_⟩
 ·have:=x.lf
  simp only[lQa,Qnq,QGq]
  omega
 ·rcases mQa.mp a with a|a
  ·exact x.fr g a
  ·rw[Qfq.mp a];exact i
 ·rw[List.dropLast_concat,fO b] at a
  rcases mQa.mp a with a|a
  ·exact x.ch g a
  ·rw[Qfq.mp a];exact d
def j7.pop{b:List cz}(x:j7 w n h ts vs (b++ [f2,f])):j7 w n h ts vs (b++ [f2])/\PQ w h f2:=by
 have e:(b++ [f2,f]).dropLast=b++ [f2]:=by rw[show b++ [f2,f]=(b++ [f2])++ [f] by simp,List.dropLast_concat]
 have c:=x.ch
 rw[e] at c
 refine⟨⟨x.lv,x.vv,?_,λg a=>x.fr g ?_,x.hd.pop,λg a=>c g ?_⟩,c f2 (by simp)⟩
 ·have:=x.lf
  simp only[lQa,Qnq,QGq] at *
  omega
 ·rcases mQa.mp a with a|a
  ·exact mQa.mpr (.inl a)
  ·exact mQa.mpr (.inr (by rw[Qfq.mp a];simp))
 ·rw[List.dropLast_concat] at a
  exact mQa.mpr (.inl a)
def j7.vals{a:List Int}(x:j7 w n h ts vs fs)(b:a.length=vs.length)(c:∀v∈a,0<=v/\v<=9):j7 w n h ts a fs:=⟨by rw[x.lv,b],c,x.lf,x.fr,x.hd,x.ch⟩
def j7.last(x:j7 w n h ts vs fs):∃f,fs.getLast? =some f/\Iy w h f:=by
 have:=x.hd
 cases fs with
 |nil=>exact this.elim
 | cons a l=>
   refine⟨_,List.getLast?_eq_some_getLast (by simp),x.fr _ (List.getLast_mem (by simp))⟩
end
def i7{w:dE}{h:Nat}{f:cz}{pr:List Rw}(a:progOf w h f=some pr):(f.room= -1/\∃ts,w.af[h]?=some (ts,pr))\/∃(i j:Nat) (r:Rm) (e:Str),f.room=i/\f.deed=j/\w.aj[i]?=some r/\r.ae[j]?=some (e,pr):=by
 unfold progOf at a
 split at a
 ·rename_i c
  obtain⟨⟨ts,b⟩,d,g⟩:=oQm.mp a
  cases g
  exact .inl ⟨c,ts,d⟩
 ·split at a
  ·rename_i c
   obtain⟨r,d,g⟩:=au a
   obtain⟨⟨e,b⟩,k,l⟩:=oQm.mp g
   cases l
   exact .inr ⟨f.room.toNat,f.deed.toNat,r,e,by omega,by omega,d,k⟩
  ·cases a
def FA{w:dE}{h i j:Nat}{f:cz}{r:Rm}{d:Str}{pr:List Rw}(c:f.room=i)(e:f.deed=j)(a:w.aj[i]?=some r)(b:r.ae[j]?=some (d,pr)):progOf w h f=some pr:=by
 unfold progOf
 rw[Quq (by omega),Qhq ⟨by omega,by omega⟩,c,e]
 show(w.aj[i]?).bind _=_
 rw[a]
 show(r.ae[j]?).map _=_
 rw[b]
 rfl
def yO(w:dE)(h:Nat)(f:cz):Option Sc:=if f.room= -1 then(w.af[h]?).map λp=>⟨true,p.1.map (·.1)++w.ak.map (·.1),p.1.map (·.1)++w.ak.map (·.1),[],aU w.aj,w.ai.map (·.1)⟩
 else(w.aj[f.room.toNat]?).map λr=>⟨false,r.ao.map (·.1)++fF,r.ao.map (·.1),r.aa.map (·.1),aU w.aj,[]⟩
def Cd{w:dE}{h:Nat}{f:cz}{pr:List Rw}(o:eW w)(e:progOf w h f=some pr):∃sc,yO w h f=some sc/\v9 sc pr:=by
 unfold yO
 rcases i7 e with⟨c,g,a⟩|⟨i,j,r,k,a,l,b,d⟩
 ·rw[Qhq c,a]
  exact⟨_,rfl,(o.hd _ (mQg a)).pr⟩
 ·rw[Quq (by omega),a]
  refine⟨_,by rw[show((i:Int)).toNat=i by omega,b];rfl,((o.rm _ (mQg b)).pr _ (mQg d)).1⟩
def FG{w:dE}(o:eW w):di w 1 (df w) where
 lr:=by simp[df]
 rm:=λi r s c d=>by
  simp only[df,gQm,c,Option.map_some,Option.some.injEq] at d
  subst d
  have e:=o.rm r (mQg c)
  refine⟨by simp[cq,bN],by simp[cq],λv b=> ?_,by simp[cq],by simp[cq],λl j=> ?_⟩
  ·simp only[cq,bN,Qkq] at b
   obtain⟨p,a,rfl⟩:=b
   have:=e.tv p a
   omega
  ·simp only[cq,Qkq] at j
   obtain⟨p,a,rfl⟩:=j
   simp
 lp:=by simp[df]
 ps:=λp a=>by
  simp only[df,Qkq] at a
  obtain⟨p,a,rfl⟩:=a
  simp
 ls:=by simp[df,bN]
 sv:=λv b=>by
  simp only[df,bN,Qkq] at b
  obtain⟨p,a,rfl⟩:=b
  have:=o.sv p a
  omega
 lh:=by simp[df]
 hd:=λh q k m n c d=>by
  simp only[df,gQm,c,Option.map_some,Option.some.injEq] at d
  cases d
  have e:=o.hd _ (mQg c)
  refine⟨by simp[bN],λv b=> ?_,by simp,λf g=> ?_,⟨rfl,λ_ z=>by cases z⟩,λf g=>by cases g⟩
  ·simp only[bN,Qkq] at b
   obtain⟨p,a,rfl⟩:=b
   have:=e.tv p a
   omega
  ·rw[Qfq.mp g]
   refine⟨⟨k,?_,by decide,?_⟩,by decide,by decide⟩
   ·unfold progOf
    rw[Qhq (show xp.room= -1 from rfl),c]
    rfl
   ·show(0:Int)<=_
    omega
def EL(s:bE)(h:Nat):List Int×List cz:=(s.af[h]?).getD ([],[])
def OK(w:dE)(h:Nat):List (Str×Nat)×List Rw:=(w.af[h]?).getD ([],[])
def jM(s:bE)(h:Nat):cz:=((EL s h).2.getLast?).getD xp
def Jc(w:dE)(i:Nat):Rm:=(w.aj[i]?).getD ⟨"","",[],[],[]⟩
def CC(s:bE)(i:Nat):de:=(s.aj[i]?).getD ⟨[],0,[],[],[]⟩
def Nr(s:bE)(k:Nat):Int×List Int:=(s.ai[k]?).getD (0,[])
def CZ(s:bE)(h:Nat)(f:cz):bE:={s with af:=s.af.set h ((EL s h).1,(EL s h).2.dropLast++ [f])}
def eg(s:bE)(i:Nat)(r:de):bE:={s with aj:=s.aj.set i r}
def G0(s:bE)(k:Nat)(p:Int×List Int):bE:={s with ai:=s.ai.set k p}
def cV(w:dE)(s:bE)(h:Nat)(t:Tr):Int:=
 if (jM s h).room= -1 then oa (numAt (qj w s (OK w h).1 (EL s h).1)) (λ_=>0) t
 else oa (numAt (ix (Jc w (jM s h).room.toNat) (CC s (jM s h).room.toNat) (jM s h).given)) (tm (Jc w (jM s h).room.toNat) (CC s (jM s h).room.toNat)) t
def mV(w:dE)(s:bE)(h:Nat)(x:Str)(v:Int):bE:=
 if (jM s h).room= -1 then mT w s h (OK w h).1 (EL s h).1 (EL s h).2 x v
 else eg s (jM s h).room.toNat {CC s (jM s h).room.toNat with vals:=eM ((Jc w (jM s h).room.toNat).ao.map (·.1)) (CC s (jM s h).room.toNat).vals x v}
def A4(r:Rm)(rs:de)(b:Str)(v:Int)(h:Nat):de:=
 dt {rs with aa:=rs.aa.set (fB (r.aa.map (·.1)) b) (ue ((rs.aa[fB (r.aa.map (·.1)) b]?).getD []) (if ((r.aa[fB (r.aa.map (·.1)) b]?).getD ("","")).2="turns" then v else 0) h)}
def lO(w:dE)(s:bE)(h:Nat):Rw->bE
 |.put x t=>mV w s h x (cV w s h t)
 |.unl t n=>if cV w s h t=0 then CZ s h {jM s h with row:=n} else s
 |.go n=>CZ s h {jM s h with row:=n}
 |.do_ _ a c t=>eg {s with af:=s.af.set h ((EL s h).1,(EL s h).2++ [⟨(fB (w.aj.map (·.name)) a:Nat),(fB ((Jc w (fB (w.aj.map (·.name)) a)).ae.map (·.1)) c:Nat),0,cV w s h t,0⟩])} (fB (w.aj.map (·.name)) a) (gD (CC s (fB (w.aj.map (·.name)) a)) h)
 |.wait b t=>eg s (jM s h).room.toNat (A4 (Jc w (jM s h).room.toNat) (CC s (jM s h).room.toNat) b (cV w s h t) h)
 |.call b=>eg s (jM s h).room.toNat (lU (decide ((Jc w (jM s h).room.toNat).ah="when free")) (CC s (jM s h).room.toNat) (fB ((Jc w (jM s h).room.toNat).aa.map (·.1)) b) h)
 |.all b=>eg s (jM s h).room.toNat {CC s (jM s h).room.toNat with aa:=(CC s (jM s h).room.toNat).aa.set (fB ((Jc w (jM s h).room.toNat).aa.map (·.1)) b) []}
 |.tell t=>CZ s h {jM s h with told:=cV w s h t}
 |.take p=>G0 s (fB (w.ai.map (·.1)) p) (Et (Nr s (fB (w.ai.map (·.1)) p)) h)
 |.give p=>G0 s (fB (w.ai.map (·.1)) p) (AS (Nr s (fB (w.ai.map (·.1)) p)))
 |.pass p q=>G0 (G0 s (fB (w.ai.map (·.1)) p) (AS (Nr s (fB (w.ai.map (·.1)) p)))) (fB (w.ai.map (·.1)) q) (Et (Nr (G0 s (fB (w.ai.map (·.1)) p) (AS (Nr s (fB (w.ai.map (·.1)) p)))) (fB (w.ai.map (·.1)) q)) h)
 |.say _=>s
def lQ(s:bE)(h:Nat):bE:=eg {s with af:=s.af.set h ((EL s h).1,(EL s h).2.dropLast)} (jM s h).room.toNat (dt (CC s (jM s h).room.toNat))
def G9(w:dE)(s:bE)(h:Nat):Option Rw:=(progOf w h (jM s h)).bind λa=>a[((jM s h).row-1).toNat]?
def qI(w:dE)(s:bE)(h:Nat):bE:=match G9 w (lQ s h) h with
 |some (.do_ (some x) _ _ _)=>mV w (lQ s h) h x (jM s h).told
 |_=>lQ s h
def iA(s:bE)(h:Nat):bE:=CZ s h {jM s h with row:=(jM s h).row+1}
def Dy(w:dE)(s:bE)(h:Nat):Rw->Option Int
 |.say t=>some (cV w s h t)
 |_=>none
def eQ(w:dE)(s:bE)(h:Nat):bE×Option Int:=
 if (jM s h).room≠-1/\(CC s (jM s h).room.toNat).within≠h then(eg s (jM s h).room.toNat (gD (CC s (jM s h).room.toNat) h),none)
 else match progOf w h (jM s h) with
  |none=>(s,none)
  | some a=>if (jM s h).row=a.length then(qI w s h,none) else match a[(jM s h).row.toNat]? with
    |none=>(s,none)
    |some r=>(lO w (iA s h) h r,Dy w s h r)
section
variable{w:dE}{h:Nat}{s:bE}{vs:List Int}{fs:List cz}{f:cz}
def gG(hs:s.af[h]?=some (vs,fs)):EL s h=(vs,fs):=by unfold EL;rw[hs];rfl
def eO(hs:s.af[h]?=some (vs,fs))(a:fs.getLast? =some f):jM s h=f:=by unfold jM;rw[gG hs];show(fs.getLast?).getD _=f;rw[a];rfl
def zL{p:List (Str×Nat)×List Rw}(a:w.af[h]?=some p):OK w h=p:=by unfold OK;rw[a];rfl
def ig{i:Nat}{r:Rm}(a:w.aj[i]?=some r):Jc w i=r:=by unfold Jc;rw[a];rfl
def dM{i:Nat}{r:de}(a:s.aj[i]?=some r):CC s i=r:=by unfold CC;rw[a];rfl
def gV{g:cz}(hs:s.af[h]?=some (vs,fs)):CZ s h g={s with af:=s.af.set h (vs,fs.dropLast++ [g])}:=by unfold CZ;rw[gG hs]
end
section
variable{w:dE}{n h:Nat}{s:bE}{vs:List Int}{fs:List cz}{f:cz}{sc:Sc}
def di.whand(x:di w n s)(hs:s.af[h]?=some (vs,fs)):∃ts pr,w.af[h]?=some (ts,pr)/\j7 w n h ts vs fs:=by
 have a:h<w.af.length:=by rw[x.lh];exact(gQs.mp hs).1
 exact⟨_,_,gQe a,x.hd h _ _ vs fs (gQe a) hs⟩
def di.wroom{i:Nat}{r:Rm}(x:di w n s)(b:w.aj[i]?=some r):∃rs,s.aj[i]?=some rs/\kS n r rs:=by
 have a:i<s.aj.length:=by rw[←x.lr];exact(gQs.mp b).1
 exact⟨_,gQe a,x.rm i r _ b (gQe a)⟩
def fH{t:Sc}(a:yO w h f=some t):(f.room= -1/\∃ts pr,w.af[h]?=some (ts,pr)/\t=⟨true,ts.map (·.1)++w.ak.map (·.1),ts.map (·.1)++w.ak.map (·.1),[],aU w.aj,w.ai.map (·.1)⟩)∨
  (f.room≠-1/\∃r,w.aj[f.room.toNat]?=some r/\t=⟨false,r.ao.map (·.1)++fF,r.ao.map (·.1),r.aa.map (·.1),aU w.aj,[]⟩):=by
 unfold yO at a
 split at a
 ·rename_i c
  obtain⟨⟨ts,pr⟩,b,d⟩:=oQm.mp a
  exact .inl ⟨c,ts,pr,b,d.symm⟩
 ·rename_i c
  obtain⟨r,b,d⟩:=oQm.mp a
  exact .inr ⟨c,r,b,d.symm⟩
def gI(x:Iy w h f)(c:f.room≠-1):f.room=(f.room.toNat:Int):=by
 obtain⟨e,a,_⟩:=x.pr
 rcases i7 a with⟨b,_⟩|⟨i,_,_,_,d,_⟩
 ·exact absurd b c
 ·omega
def lF{t:Tr}(o:eW w)(x:di w n s)(hs:s.af[h]?=some (vs,fs))(i:fs.getLast? =some f)(v:yO w h f=some sc)(ht:D8 sc t):(0<=cV w s h t/\cV w s h t<=9)/\C4 w s h t (cV w s h t):=by
 obtain⟨z,J,l,d⟩:=x.whand hs
 have G:=o.hd _ (mQg l)
 have m:=d.fr f (QcQ i)
 have K:=o.l3
 have F:=G.l1
 have A:=x.ls
 rcases fH v with⟨c,C,B,j,rfl⟩|⟨c,r,hr,rfl⟩
 ·rw[l] at j
  cases j
  have a:jh (qj w s z vs):=jh.merge (dW x.sv) (dW d.vv)
  have p:cV w s h t=oa (numAt (qj w s z vs)) (λ_=>0) t:=by unfold cV;rw[eO hs i,Qhq c,zL l,gG hs]
  rw[p]
  refine⟨?_,λS Q q=>z_ l hs i c A d.lv (by omega) (by dsimp only at F;omega) x.sv d.vv ht.1 (by have:=ht.2;omega) q⟩
  refine iJ (ws:=z.map (·.1)++w.ak.map (·.1)) (bs:= []) (λy b=> ?_) ht.1
  refine(g9 a (fm ?_)).2
  rcases mQa.mp b with b|b
  ·exact .inr (dv d.lv b)
  ·exact .inl (dv A b)
 ·obtain⟨u,k,g⟩:=x.wroom hr
  have e:=o.rm r (mQg hr)
  have I:=e.l1
  have H:=e.l2
  have a:jh (ix r u f.given):=(dW g.vv).put m.gv.1 m.gv.2
  have p:cV w s h t=oa (numAt (ix r u f.given)) (tm r u) t:=by unfold cV;rw[eO hs i,Quq c,ig hr,dM k]
  rw[p]
  refine⟨?_,λS Q q=>xi hs i (gI m c) hr k g.lv g.lb (by omega) (by omega) g.vv m.gv ht.1 (by have:=ht.2;omega) q⟩
  refine iJ (ws:=r.ao.map (·.1)++fF) (bs:=r.aa.map (·.1)) (λy b=> ?_) ht.1
  refine(g9 a (jU ?_)).2
  rcases mQa.mp b with b|b
  ·exact .inr (dv g.lv b)
  ·left
   rw[Qfq.mp b]
def pJ{ns:List Str}{y:Str}{v:Int}{a:List Int}(c:∀v∈a,0<=v/\v<=9)(d:0<=v/\v<=9):(eM ns a y v).length=a.length/\∀u∈eM ns a y v,0<=u/\u<=9:=by
 unfold eM
 refine⟨by simp,λz b=> ?_⟩
 rcases QTq b with b|rfl
 ·exact c z b
 ·exact d
def D6{y:Str}{v:Int}(o:eW w)(x:di w n s)(hs:s.af[h]?=some (vs,fs))(d:fs.getLast? =some f)(t:yO w h f=some sc)(z:y∈sc.ps)(p:0<=v/\v<=9):Puts w s h y v (mV w s h y v)/\di w n (mV w s h y v):=by
 obtain⟨A,N,e,k⟩:=x.whand hs
 have G:=o.hd _ (mQg e)
 have H:=k.fr f (QcQ d)
 have M:=o.l1
 have P:=o.l3
 have F:=G.l1
 have J:=o.l4
 have I:=x.lr
 have K:=x.lh
 rcases fH t with⟨c,C,B,i,rfl⟩|⟨c,r,hr,rfl⟩
 ·rw[e] at i
  cases i
  have l:mV w s h y v=mT w s h A vs fs y v:=by unfold mV;rw[eO hs d,Qhq c,zL e,gG hs]
  rw[l]
  refine⟨λS Q q=>JZ e hs d c x.ls k.lv (by omega) (by dsimp only at F;omega) (by omega) z q,?_⟩
  unfold mT
  split
  ·obtain⟨b,g⟩:=pJ (ns:=w.ak.map (·.1)) (y:=y) x.sv p
   exact x.share b g
  ·obtain⟨b,g⟩:=pJ (ns:=A.map (·.1)) (y:=y) k.vv p
   exact x.hand e (k.vals b g)
 ·obtain⟨u,j,a⟩:=x.wroom hr
  have m:=o.rm r (mQg hr)
  have L:=m.l1
  have l:mV w s h y v={s with aj:=s.aj.set f.room.toNat {u with vals:=eM (r.ao.map (·.1)) u.vals y v}}:=by unfold mV;rw[eO hs d,Quq c,ig hr,dM j];rfl
  rw[l]
  refine⟨λS Q q=>IM hs d (gI H c) hr j a.lv (by omega) (by omega) z q,?_⟩
  obtain⟨b,g⟩:=pJ (ns:=r.ao.map (·.1)) (y:=y) a.vv p
  exact x.room hr ⟨by rw[a.lv,←b],a.lb,g,a.br,a.bl,a.bb⟩
def di.goes{m:Int}{pr:List Rw}(x:di w n s)(hs:s.af[h]?=some (vs,fs))(b:fs.getLast? =some f)(g:progOf w h f=some pr)(e:0<=m)(i:m<=pr.length):di w n {s with af:=s.af.set h (vs,fs.dropLast++ [{f with row:=m}])}:=by
 obtain⟨k,d,j,c⟩:=x.whand hs
 have a:=c.fr f (QcQ b)
 exact x.hand j (c.setLast b rfl ⟨⟨pr,g,e,i⟩,a.gv,a.tv⟩)
def di.tells{v:Int}(x:di w n s)(hs:s.af[h]?=some (vs,fs))(b:fs.getLast? =some f)(e:0<=v/\v<=9):di w n {s with af:=s.af.set h (vs,fs.dropLast++ [{f with told:=v}])}:=by
 obtain⟨i,d,g,c⟩:=x.whand hs
 have a:=c.fr f (QcQ b)
 exact x.hand g (c.setLast b rfl ⟨a.pr,a.gv,e⟩)
def kS.come{r:Rm}{rs:de}{k:Int}(x:kS n r rs):kS (n+1) r (gD rs k):=by
 unfold gD
 have:=x.br
 split
 ·exact⟨x.lv,x.lb,x.vv,by show rs.row.length<=_;omega,Nat.le_succ_of_le x.bl,λl a=>Nat.le_succ_of_le (x.bb l a)⟩
 ·exact⟨x.lv,x.lb,x.vv,by simp;omega,Nat.le_succ_of_le x.bl,λl a=>Nat.le_succ_of_le (x.bb l a)⟩
def kS.leave{r:Rm}{rs:de}(x:kS n r rs):kS n r (dt rs):=by
 obtain⟨g,b,c,i,j⟩:=rs
 have d:=x.br
 have e:=x.bl
 unfold dt
 dsimp only at d e⊢
 cases i with
 |cons a l=>exact⟨x.lv,x.lb,x.vv,x.br,by simp at e;show l.length<=n;omega,x.bb⟩
 | nil=>
   cases c with
   |cons a l=>exact⟨x.lv,x.lb,x.vv,by simp at d;show l.length<=n;omega,x.bl,x.bb⟩
   |nil=>exact⟨x.lv,x.lb,x.vv,x.br,x.bl,x.bb⟩
def kS.line{r:Rm}{rs:de}{b:Nat}{l:List (Int×Int)}(x:kS n r rs)(c:l.length<=n):kS n r {rs with aa:=rs.aa.set b l}:=⟨x.lv,by simp;exact x.lb,x.vv,x.br,x.bl,λk a=>by
 rcases QTq a with a|rfl
 ·exact x.bb k a
 ·exact c⟩
def kS.call{r:Rm}{rs:de}{b:Nat}{k:Int}{a:Bool}(x:kS n r rs):kS (n+1) r (lU a rs b k):=by
 unfold lU
 split
 ·rename_i p l e
  have c:=x.bb _ (mQg e)
  have y:=(x.mono (Nat.le_succ n)).line (b:=b) (l:=l) (by simp at c;omega)
  have z:=x.bl
  split
  ·exact y
  ·exact⟨y.lv,y.lb,y.vv,y.br,by simp;omega,y.bb⟩
 ·exact x.mono (Nat.le_succ n)
def Hv{l:List (Int×Int)}{a b:Int}:(ue l a b).length=l.length+1:=by
 unfold ue
 have:=List.length_filter_le (λp:Int×Int=>decide (p.1<=a)) l
 simp only[lQa,Qxq,List.length_drop,Qnq,QGq]
 omega
def ET{a j:Str}(o:eW w)(d:(a,j)∈aU w.aj):a∈w.aj.map (·.name)/\∃r,w.aj[fB (w.aj.map (·.name)) a]?=some r/\j∈r.ae.map (·.1):=by
 unfold aU at d
 obtain⟨r,b,q⟩:=QOq.mp d
 obtain⟨p,k,e⟩:=Qkq.mp q
 cases e
 have c:r.name∈w.aj.map (·.name):=Qkq.mpr ⟨r,b,rfl⟩
 refine⟨c,r,?_,Qkq.mpr ⟨p,k,rfl⟩⟩
 obtain⟨t,m⟩:=iQ c
 obtain⟨i,g,e⟩:=QbQ b
 have l:(w.aj.map (·.name))[i]?=some r.name:=by rw[gQm,gQe g,e];rfl
 rw[mF o.nd m l,gQe g,e]
def rE{w:dE}(o:eW w){y:Str}(a:y∈w.ai.map (·.1)):False:=by
 have b:=List.length_pos_of_mem a
 rw[lQm] at b
 have d:=o.pz
 have c:J4=0:=rfl
 omega
def Em{r:Rw}{pr:List Rw}(o:eW w)(x:di w n s)(hn:n<=100)(hs:s.af[h]?=some (vs,fs))(A:fs.getLast? =some f)(X:progOf w h f=some pr)(h1:1<=f.row)(N:pr[(f.row-1).toNat]?=some r):L1 w s h r (lO w s h r)/\di w (n+1) (lO w s h r):=by
 have e1:=gG hs
 have Y:=eO hs A
 obtain⟨sc,k,a8⟩:=Cd o X
 have b:=a8 r (mQg N)
 obtain⟨ts,W,hw,hi⟩:=x.whand hs
 have fi:=hi.fr f (QcQ A)
 have b1:=o.l1
 have b2:=o.l2
 have b3:=o.l3
 have b4:=o.l4
 have lr:=x.lr
 have lp:=x.lp
 have lh:=x.lh
 have lf:=hi.lf
 have L:=x.mono (Nat.le_succ n)
 have u:sc.own=false->∃(i:Nat) (r:Rm) (H:de),f.room=i/\w.aj[i]?=some r/\s.aj[i]?=some H/\kS n r H/\wU (aU w.aj) r/\sc.bs=r.aa.map (·.1):=λho=>by
  rcases fH k with⟨c,Z,W,a4,rfl⟩|⟨c,r,B,rfl⟩
  ·cases ho
  ·obtain⟨H,e,F⟩:=x.wroom B
   exact⟨_,r,H,gI fi c,B,e,F,o.rm r (mQg B),rfl⟩
 have G:sc.own=true->sc.ts=w.ai.map (·.1):=λho=>by
  rcases fH k with⟨c,Z,W,a4,rfl⟩|⟨c,r,B,rfl⟩
  ·rfl
  ·cases ho
 have a5:∀y,y∈w.ai.map (·.1)->∀ps:List (Int×List Int),w.ai.length=ps.length->∃p,ps[fB (w.ai.map (·.1)) y]?=some p:=λy j ps hl=>by
  have:=(iQ j).1
  rw[lQm] at this
  exact⟨_,gQe (by omega)⟩
 have b0:∀p:Int×List Int,p.2.length<=n->(Et p h).2.length<=n+1:=λp X=>by
  unfold Et
  split
  ·show p.2.length<=_;omega
  ·simp;omega
 have b9:∀p:Int×List Int,p.2.length<=n->(AS p).2.length<=n:=λp X=>by
  obtain⟨v,l⟩:=p
  unfold AS
  cases l with
  |nil=>simp
  |cons a l=>simp at X;show l.length<=n;omega
 cases r with
 | put y t=>
   obtain⟨U,B⟩:=lF o x hs A k b.2
   obtain⟨b8,c0⟩:=D6 o x hs A k b.1 U
   exact⟨λS Q q=>Fu B b8 q,c0.mono (Nat.le_succ n)⟩
 | unl t m=>
   obtain⟨U,B⟩:=lF o x hs A k b.1
   have I:lO w s h (.unl t m)=if cV w s h t=0 then{s with af:=s.af.set h (vs,fs.dropLast++ [{f with row:=m}])} else s:=by simp only[lO,Y,gV hs]
   rw[I]
   refine⟨λS Q q=>zV B hs A (by omega) (by omega) q,?_⟩
   split
   · exact L.goes hs A X (by omega) (by have:=b.2;omega)
   · exact L
 | go m=>
   have I:lO w s h (.go m)={s with af:=s.af.set h (vs,fs.dropLast++ [{f with row:=m}])}:=by simp only[lO,Y,gV hs]
   rw[I]
   exact⟨λS Q q=>HS hs A (by omega) (by omega) q,L.goes hs A X (by omega) (by have:m<=pr.length:=b;omega)⟩
 | do_ g M R t=>
   obtain⟨U,B⟩:=lF o x hs A k b.2.2
   have ev:lO w s h (.do_ g M R t)=lO w s h (.do_ g M R t):=rfl
   generalize a6:cV w s h t=v at U B
   have c4:sc.gs=aU w.aj:=by
     rcases fH k with⟨c,Z,W,a4,rfl⟩|⟨c,r,B,rfl⟩ <;>rfl
   have a2:=b.2.1
   rw[c4] at a2
   obtain⟨c3,r,d,a0⟩:=ET o a2
   obtain⟨H,e,F⟩:=x.wroom d
   have C:=o.rm r (mQg d)
   have b5:=C.l3
   have b6:=F.br
   have I:lO w s h (.do_ g M R t)={s with af:=s.af.set h (vs,fs++ [⟨(fB (w.aj.map (·.name)) M:Nat),(fB (r.ae.map (·.1)) R:Nat),0,v,0⟩]),aj:=s.aj.set (fB (w.aj.map (·.name)) M) (gD H h)}:=by simp only[lO,e1,ig d,dM e,a6,eg]
   rw[I]
   refine⟨λS Q q=>HM B hs c3 d e a0 (by omega) (by omega) (by omega) (by omega) (by omega) (by omega) q,?_⟩
   have c1:=iQ a0
   have a3:=c1.1
   rw[lQm] at a3
   obtain⟨⟨c5,a1⟩,c2⟩:∃p,r.ae[fB (r.ae.map (·.1)) R]?=some p:=⟨_,gQe a3⟩
   have pf:progOf w h ⟨(fB (w.aj.map (·.name)) M:Nat),(fB (r.ae.map (·.1)) R:Nat),0,v,0⟩=some a1:=FA rfl rfl d c2
   have hh:=hi.push (f':=⟨(fB (w.aj.map (·.name)) M:Nat),(fB (r.ae.map (·.1)) R:Nat),0,v,0⟩) A ⟨pr,g,M,R,t,X,h1,N⟩ (by show((fB (w.aj.map (·.name)) M:Nat):Int)≠-1;omega) ⟨⟨a1,pf,by show(0:Int)<=0;omega,by show(0:Int)<=_;omega⟩,U,by show(0:Int)<=0/\(0:Int)<=9;omega⟩
   exact(L.hand hw hh).room d F.come
 | wait y t=>
   obtain⟨i,r,H,J,d,e,F,C,K⟩:=u b.1
   obtain⟨U,B⟩:=lF o x hs A k b.2.2
   have j:=b.2.1
   rw[K] at j
   have b6:=C.l2
   have lb:=F.lb
   obtain⟨k1,k2⟩:=iQ j
   rw[lQm] at k1
   rw[gQm] at k2
   obtain⟨⟨y',so⟩,k3,k4⟩:=oQm.mp k2
   have k4:y'=y:=k4
   subst k4
   obtain⟨P,hl⟩:∃l,H.aa[fB (r.aa.map (·.1)) y']?=some l:=⟨_,gQe (by omega)⟩
   have ll:=F.bb P (mQg hl)
   have ti:f.room.toNat=i:=by omega
   have I:lO w s h (.wait y' t)={s with aj:=s.aj.set i (dt {H with aa:=H.aa.set (fB (r.aa.map (·.1)) y') (ue P (if so="turns" then cV w s h t else 0) h)})}:=by simp only[lO,A4,eg,Y,ti,ig d,dM e,hl,k3,Option.getD_some]
   rw[I]
   refine⟨λS Q q=>DW hs A J d e (by omega) lb (by omega) j k3 hl (by omega) B q,?_⟩
   exact L.room d (((F.mono (Nat.le_succ n)).line (by rw[Hv];omega)).leave)
 | call y=>
   obtain⟨i,r,H,J,d,e,F,C,K⟩:=u b.1
   have j:=b.2
   rw[K] at j
   have b6:=C.l2
   have b7:=F.bl
   have ti:f.room.toNat=i:=by omega
   have I:lO w s h (.call y)={s with aj:=s.aj.set i (lU (decide (r.ah="when free")) H (fB (r.aa.map (·.1)) y) h)}:=by simp only[lO,eg,Y,ti,ig d,dM e]
   rw[I]
   refine⟨λS Q q=>C9 hs A J d e (by omega) F.lb (by omega) (by omega) j q,?_⟩
   exact L.room d F.call
 | all y=>
   obtain⟨i,r,H,J,d,e,F,C,K⟩:=u b.1
   have j:=b.2
   rw[K] at j
   have b6:=C.l2
   have ti:f.room.toNat=i:=by omega
   have I:lO w s h (.all y)={s with aj:=s.aj.set i {H with aa:=H.aa.set (fB (r.aa.map (·.1)) y) []}}:=by simp only[lO,eg,Y,ti,ig d,dM e]
   rw[I]
   refine⟨λS Q q=>FO hs A J d e (by omega) F.lb (by omega) j q,?_⟩
   exact L.room d ((F.mono (Nat.le_succ n)).line (by simp))
 | tell t=>
   obtain⟨U,B⟩:=lF o x hs A k b.2
   have I:lO w s h (.tell t)={s with af:=s.af.set h (vs,fs.dropLast++ [{f with told:=cV w s h t}])}:=by simp only[lO,Y,gV hs]
   rw[I]
   exact⟨λS Q q=>DR B hs A (by omega) (by omega) q,L.tells hs A U⟩
 | take y=>
   have j:=b.2
   rw[G b.1] at j
   exact(rE o j).elim
 | give y=>
   have j:=b.2
   rw[G b.1] at j
   exact(rE o j).elim
 | pass y z=>
   have j:=b.2.1
   rw[G b.1] at j
   exact(rE o j).elim
 |say t=>exact⟨λS Q q=>F_ (sd:=.non) q,L⟩
end
section
variable{w:dE}{n h:Nat}{s:bE}{vs:List Int}{fs:List cz}{f:cz}{sc:Sc}
def di.mays(o:eW w)(x:di w n s)(m:n<=100):L7 w s:=by
 have F:=o.l1
 have z:=o.l2
 have B:=o.l4
 have v:=x.lr
 have A:=x.lp
 have C:=x.lh
 refine Co (λS Q q=>rY m (by omega) (by omega) x.ps (λk j=> ?_) q) (λh u=> ?_) (by omega)
 ·obtain⟨i,c,e⟩:=QbQ j
  have b:s.aj[i]?=some k:=by rw[gQe c,e]
  have g:w.aj[i]?=some (w.aj[i]'(by omega)):=gQe (by omega)
  have a:=x.rm i _ k g b
  have:=(o.rm _ (mQg g)).l2
  have:=a.lb
  exact⟨a.br,a.bl,by omega,a.bb⟩
 ·obtain⟨⟨vs,fs⟩,b⟩:∃p,s.af[h]?=some p:=⟨_,gQe u⟩
  obtain⟨G,y,g,c⟩:=x.whand b
  obtain⟨f,l,t⟩:=c.last
  obtain⟨d,r,_⟩:=t.pr
  exact⟨vs,fs,f,d,b,l,r⟩
def JS(o:eW w)(x:di w n s)(hn:n<=100)(hm:h∈qm w s)(hs:s.af[h]?=some (vs,fs))(l:fs.getLast? =some f):A7 w s h (eQ w s h).1 (eQ w s h).2/\di w (n+1) (eQ w s h).1:=by
 have e1:=gG hs
 have M:=eO hs l
 obtain⟨ts,a0,hw,Y⟩:=x.whand hs
 have fi:=Y.fr f (QcQ l)
 obtain⟨pr,b,W,a6⟩:=fi.pr
 have b1:=o.l1
 have b4:=o.l4
 have lr:=x.lr
 have lh:=x.lh
 have lf:=Y.lf
 have nb:¬(f.room= -1/\f.row=pr.length):=by
  rintro⟨c1,c2⟩
  have:=(List.mem_filter.mp hm).2
  rw[QCq] at this
  have hb:ja w s h=true:=by
   unfold ja Bw
   rw[hs]
   show(match fs.getLast? with|some f=>_|none=>_)=_
   rw[l]
   simp only[b,Option.getD_some,c1,c2,decide_true,Bool.and_true]
  rw[hb] at this
  exact absurd this.2 (by decide)
 by_cases c:f.room= -1
 ·
  have G:pr=a0:=by
   unfold progOf at b
   rw[Qhq c,hw] at b
   cases b;rfl
  subst G
  have J:f.row.toNat<pr.length:=by
   have:f.row≠pr.length:=λz=>nb ⟨c,z⟩
   omega
  have a:pr[f.row.toNat]?=some (pr[f.row.toNat]):=gQe J
  generalize pr[f.row.toNat]=r at a
  obtain⟨sc,I,F⟩:=Cd o b
  have k:=F r (mQg a)
  have U:Lj w s h r (Dy w s h r):=by
   cases r with
   |say t=>exact⟨_,rfl,(lF o x hs l I k.2).2⟩
   |_=>rfl
  have C:eQ w s h=(lO w {s with af:=s.af.set h (vs,fs.dropLast++ [{f with row:=f.row+1}])} h r,Dy w s h r):=by
   unfold eQ iA
   rw[M,Quq (λz=>z.1 c),b]
   simp only
   rw[Quq (λz=>nb ⟨c,z⟩),a,gV hs]
  rw[C]
  have K:=x.goes hs l b (m:=f.row+1) (by omega) (by omega)
  have N:h<s.af.length:=(gQs.mp hs).1
  obtain⟨L,u⟩:=Em (f:={f with row:=f.row+1}) (r:=r) (pr:=pr) o K hn (Qyq N) (by simp) b (by show 1<=f.row+1;omega) (by show pr[(f.row+1-1).toNat]?=_;rw[show f.row+1-1=f.row by omega];exact a)
  exact⟨Bq hs l (.inl c) b W a (by omega) (by omega) U L,u⟩
 ·
  rcases i7 b with⟨c',_⟩|⟨i,j,r,dn,X,h2,h3,h4⟩
  ·exact absurd c' c
  obtain⟨H,d,ri⟩:=x.wroom h3
  have br:=ri.br
  have ti:f.room.toNat=i:=by omega
  by_cases R:H.within=h
  ·have p:Here s h f:=.inr ⟨i,H,X,d,R⟩
   by_cases ce:f.row=pr.length
   ·
    have P:=fO l
    have L:=Y.hd
    rw[P] at L
    obtain⟨B,A,hg⟩:=L.two c
    have a4:fs=B++ [A,f]:=by rw[P,hg];simp
    subst a4
    obtain⟨a2,a3⟩:=Y.pop
    obtain⟨a5,g,rn,a1,t,Z,p2,p3⟩:=a3
    have eo:lQ s h={s with aj:=s.aj.set i (dt H),af:=s.af.set h (vs,B++ [A])}:=by
     unfold lQ
     rw[M,e1,ti,dM d]
     simp only[eg]
     rw[show B++ [A,f]=(B++ [A])++ [f] by simp,List.dropLast_concat]
    have ho:(lQ s h).af[h]?=some (vs,B++ [A]):=by rw[eo];exact Qyq (gQs.mp hs).1
    have eb:G9 w (lQ s h) h=some (.do_ g rn a1 t):=by
     unfold G9
     rw[eO ho (f:=A) (by simp),Z]
     exact p3
    have C:eQ w s h=(qI w s h,none):=by
     unfold eQ
     rw[M,ti,dM d,Quq (λz=>z.2 R),b]
     simp only
     rw[Qhq ce]
    have K:di w n {s with aj:=s.aj.set i (dt H),af:=s.af.set h (vs,B++ [A])}:=(x.hand hw a2).room h3 ri.leave
    obtain⟨sc,I,F⟩:=Cd o Z
    have k:=F _ (mQg p3)
    have N:h<s.af.length:=(gQs.mp hs).1
    cases g with
    | none=>
      have ee:qI w s h={s with aj:=s.aj.set i (dt H),af:=s.af.set h (vs,B++ [A])}:=by unfold qI;rw[eb];exact eo
      rw[C,ee]
      exact⟨BU hs l p b ce λS Q q=>tf hs X d (by omega) (by omega) Z p2 p3 (λ_ e=>e.symm) q,K.mono (Nat.le_succ n)⟩
    | some y=>
      obtain⟨G,u⟩:=D6 (y:=y) (v:=f.told) o K (Qyq N) (by simp) I (k.1 y rfl) fi.tv
      have ee:qI w s h=mV w {s with aj:=s.aj.set i (dt H),af:=s.af.set h (vs,B++ [A])} h y f.told:=by unfold qI;rw[eb,eo,M]
      rw[C,ee]
      exact⟨BU hs l p b ce λS Q q=>tf hs X d (by omega) (by omega) Z p2 p3 (λ_ e=>by rw[e];exact G) q,u.mono (Nat.le_succ n)⟩
   ·
    have J:f.row.toNat<pr.length:=by omega
    have a:pr[f.row.toNat]?=some (pr[f.row.toNat]):=gQe J
    generalize pr[f.row.toNat]=r' at a
    have k:=((o.rm _ (mQg h3)).pr _ (mQg h4)).1 r' (mQg a)
    have he:Lj w s h r' none:=by
     cases r' with
     |say t=>exact absurd k.1 (show¬(false=true) by decide)
     |_=>rfl
    have K:=x.goes hs l b (m:=f.row+1) (by omega) (by omega)
    have N:h<s.af.length:=(gQs.mp hs).1
    have C:eQ w s h=(lO w {s with af:=s.af.set h (vs,fs.dropLast++ [{f with row:=f.row+1}])} h r',none):=by
     unfold eQ iA
     rw[M,ti,dM d,Quq (λz=>z.2 R),b]
     simp only
     rw[Quq ce,a,gV hs]
     refine congrArg (Prod.mk _) ?_
     cases r' with
     |say t=>exact absurd k.1 (show¬(false=true) by decide)
     |_=>rfl
    rw[C]
    obtain⟨L,u⟩:=Em (f:={f with row:=f.row+1}) (r:=r') (pr:=pr) o K hn (Qyq N) (by simp) b (by show 1<=f.row+1;omega) (by show pr[(f.row+1-1).toNat]?=_;rw[show f.row+1-1=f.row by omega];exact a)
    exact⟨Bq hs l p b W a (by omega) (by omega) he L,u⟩
  ·
   have C:eQ w s h=({s with aj:=s.aj.set i (gD H h)},none):=by
    unfold eQ
    rw[M,ti,dM d,Qhq ⟨c,R⟩]
    rfl
   rw[C]
   exact⟨Ga hs l X d R (by omega) (by omega),(x.mono (Nat.le_succ n)).room h3 ri.come⟩
end
abbrev Cell:=Nat×O
def xx(S:aE)(L:List Cell):Prop:=∀p∈L,S[p.1]?=some p.2
def xK{L:List Cell}(nd:(L.map (·.1)).Nodup):∀{p q:Cell},p∈L->q∈L->p.1=q.1->p=q:=by
 induction L with
 |nil=>intro p q h;cases h
 | cons a L g=>
   rw[QDq,List.nodup_cons] at nd
   intro p q f d e
   rcases Qsq.mp f with b|b <;>rcases Qsq.mp d with c|c
   · rw[b,c]
   · exact absurd (Qkq.mpr ⟨q,c,by rw[←e,b]⟩) nd.1
   · exact absurd (Qkq.mpr ⟨p,b,by rw[e,c]⟩) nd.1
   · exact g nd.2 b c e
def xx.set{S:aE}{L a:List Cell}{b:Nat}{o:O}(H:xx S L)(nd:(a.map (·.1)).Nodup)(g:(b,o)∈a)(hs:∀p∈a,p.1≠b->p∈L)(f:b<S.length):xx (S.set b o) a:=λp d=>by
 by_cases c:p.1=b
 ·have e:=xK nd d g c
  rw[e]
  exact Qyq f
 ·rw[QKq (Ne.symm c)]
  exact H p (hs p d c)
def cQ(l:List Int):O:=.lst (l.map D.int)
structure FJ where
 a:Nat
 v:Nat
 r:Nat
 l:Nat
 b:Nat
 bs:List Nat
structure CB where
 a:Nat
 v:Nat
 f:Nat
 fs:List Nat
structure GB where
 a:Nat
 r:Nat
structure zB where
 k:Nat
 r:Nat
 p:Nat
 s:Nat
 h:Nat
 rs:List FJ
 ps:List GB
 hs:List CB
def qW(f:cz):O:=.lst [.int f.room,.int f.deed,.int f.row,.int f.given,.int f.told]
def AK(l:List (Int×Int)):O:=.lst (l.map pairD)
def Bf(t:FJ)(r:de):List Cell:= [(t.a,.lst [.ref t.v,.int r.within,.ref t.r,.ref t.l,.ref t.b]),(t.v,cQ r.vals),(t.r,cQ r.row),(t.l,cQ r.ag),(t.b,.lst (t.bs.map D.ref))]++(t.bs.zip r.aa).map λp=>(p.1,AK p.2)
def wQ(t:CB)(h:List Int×List cz):List Cell:= [(t.a,.lst [.ref t.v,.ref t.f]),(t.v,cQ h.1),(t.f,.lst (t.fs.map D.ref))]++(t.fs.zip h.2).map λp=>(p.1,qW p.2)
def KW(t:GB)(p:Int×List Int):List Cell:= [(t.a,.lst [.int p.1,.ref t.r]),(t.r,cQ p.2)]
def EM(t:zB)(s:bE):List Cell:= [(t.k,.lst [.ref t.r,.ref t.p,.ref t.s,.ref t.h]),(t.r,.lst (t.rs.map λx=>.ref x.a)),(t.p,.lst (t.ps.map λx=>.ref x.a)),(t.s,cQ s.ak),(t.h,.lst (t.hs.map λx=>.ref x.a))]++
 ((t.rs.zip s.aj).flatMap (λp=>Bf p.1 p.2)++((t.ps.zip s.ai).flatMap (λp=>KW p.1 p.2)++(t.hs.zip s.af).flatMap λp=>wQ p.1 p.2))
def Cz(t:FJ):List Nat:= [t.a,t.v,t.r,t.l,t.b]++t.bs
def AJ(t:CB):List Nat:= [t.a,t.v,t.f]++t.fs
def KD(t:GB):List Nat:= [t.a,t.r]
def zX(t:zB):List Nat:= [t.k,t.r,t.p,t.s,t.h]++(t.rs.flatMap Cz++(t.ps.flatMap KD++t.hs.flatMap AJ))
theorem zu{α a:Type}:∀(xs:List α) (ys:List a),((xs.zip ys).map (·.1)).Sublist xs
 | [],_=>by simp
 |_::_,[]=>by simp
 |x::xs,y::ys=>by simpa using (zu xs ys)
theorem me{α a:Type}{f:α×a->List Cell}{g:α->List Nat}(h:∀p,((f p).map (·.1)).Sublist (g p.1)):∀(xs:List α) (ys:List a),(((xs.zip ys).flatMap f).map (·.1)).Sublist (xs.flatMap g)
 | [],_=>by simp
 |_::_,[]=>by simp
 | x::xs,y::ys=>by
   rw[List.zip_cons_cons,QSq,QSq,Qzq]
   exact(h (x,y)).append (me h xs ys)
def Dj(p:FJ×de):((Bf p.1 p.2).map (·.1)).Sublist (Cz p.1):=by
 unfold Bf Cz
 rw[Qzq,QPq]
 exact(QjQ _).append (zu _ _)
def Dg(p:CB×(List Int×List cz)):((wQ p.1 p.2).map (·.1)).Sublist (AJ p.1):=by
 unfold wQ AJ
 rw[Qzq,QPq]
 exact(QjQ _).append (zu _ _)
def Lz(p:GB×(Int×List Int)):((KW p.1 p.2).map (·.1)).Sublist (KD p.1):=QjQ _
def yB(t:zB)(s:bE):((EM t s).map (·.1)).Sublist (zX t):=by
 unfold EM zX
 rw[Qzq,Qzq,Qzq]
 exact(QjQ _).append ((me Dj _ _).append ((me Lz _ _).append (me Dg _ _)))
structure Nw(lo:Nat)(S:aE)(t:zB)(s:bE):Prop where
 ho:xx S (EM t s)
 nd:(zX t).Nodup
 lo:∀a∈zX t,lo<=a
 lr:t.rs.length=s.aj.length
 lp:t.ps.length=s.ai.length
 lh:t.hs.length=s.af.length
 lb:∀p∈t.rs.zip s.aj,p.1.bs.length=p.2.aa.length
 lf:∀p∈t.hs.zip s.af,p.1.fs.length=p.2.2.length
theorem cJ{α a:Type}:∀{xs:List α} {ys:List a} {i:Nat} {x:α} {y:a},xs[i]?=some x->ys[i]?=some y->(x,y)∈xs.zip ys
 | [],_,_,_,_,h,_=>by simp at h
 |_::_,[],_,_,_,_,h=>by simp at h
 |_::_,_::_,0,_,_,h1,h2=>by simp at h1 h2;subst h1 h2;simp
 | _::xs,_::ys,i+1,x,y,h1,h2=>by
   have:=cJ (xs:=xs) (ys:=ys) (i:=i) (x:=x) (y:=y) (by simpa using h1) (by simpa using h2)
   simp[this]
theorem jH{α a:Type}:∀{xs:List α} {ys:List a} {p:α×a},p∈xs.zip ys->∃i:Nat,xs[i]?=some p.1/\ys[i]?=some p.2
 | [],_,_,h=>by cases h
 |_::_,[],_,h=>by cases h
 | x::xs,y::ys,p,h=>by
   rcases Qsq.mp h with rfl|h
   · exact⟨0,rfl,rfl⟩
   · obtain⟨i,b,c⟩:=jH h
     exact⟨i+1,by simpa using b,by simpa using c⟩
def yV{α c:Type}{xs:List α}{ys:List c}{i:Nat}{x x':α}{y d:c}(k:xs[i]?=some x)(l:ys[i]?=some y){p:α×c}(h:p∈(xs.set i x').zip (ys.set i d)):p=(x',d)\/p∈xs.zip ys:=by
 obtain⟨j,b,a⟩:=jH h
 rcases get_set b with⟨rfl,e1⟩|⟨n1,b⟩
 ·rcases get_set a with⟨_,g⟩|⟨f,_⟩
  ·exact .inl (Prod.ext e1 g)
  ·exact absurd rfl f
 ·rcases get_set a with⟨e,_⟩|⟨_,a⟩
  ·exact absurd e n1
  ·exact .inr (cJ b a)
def qZ{α:Type}{xs:List α}{i:Nat}{x:α}(h:xs[i]?=some x):xs.set i x=xs:=by
 apply List.ext_getElem?
 intro j
 by_cases c:i=j
 ·subst c;rw[Qyq (gQs.mp h).1,h]
 ·rw[QKq c]
section
variable{lo:Nat}{S:aE}{t:zB}{s:bE}{i b:Nat}{o:O}
def Nw.lt(N:Nw lo S t s){p:Cell}(h:p∈EM t s):p.1<S.length:=(gQs.mp (N.ho p h)).1
def Nw.top(N:Nw lo S t s):S[t.k]?=some (.lst [.ref t.r,.ref t.p,.ref t.s,.ref t.h]):=N.ho (t.k,_) (by simp[EM])
def Nw.tr(N:Nw lo S t s):S[t.r]?=some (.lst (t.rs.map λx=>.ref x.a)):=N.ho (t.r,_) (by simp[EM])
def Nw.tp(N:Nw lo S t s):S[t.p]?=some (.lst (t.ps.map λx=>.ref x.a)):=N.ho (t.p,_) (by simp[EM])
def Nw.ts(N:Nw lo S t s):S[t.s]?=some (cQ s.ak):=N.ho (t.s,cQ s.ak) (mQa.mpr (.inl (by simp)))
def Nw.th(N:Nw lo S t s):S[t.h]?=some (.lst (t.hs.map λx=>.ref x.a)):=N.ho (t.h,_) (by simp[EM])
def lI{x:FJ}{r:de}{p:Cell}(h:(x,r)∈t.rs.zip s.aj)(a:p∈Bf x r):p∈EM t s:=mQa.mpr (.inr (mQa.mpr (.inl (QOq.mpr ⟨_,h,a⟩))))
def wz{x:GB}{r:Int×List Int}{p:Cell}(h:(x,r)∈t.ps.zip s.ai)(a:p∈KW x r):p∈EM t s:=mQa.mpr (.inr (mQa.mpr (.inr (mQa.mpr (.inl (QOq.mpr ⟨_,h,a⟩))))))
def qJ{x:CB}{r:List Int×List cz}{p:Cell}(h:(x,r)∈t.hs.zip s.af)(a:p∈wQ x r):p∈EM t s:=mQa.mpr (.inr (mQa.mpr (.inr (mQa.mpr (.inr (QOq.mpr ⟨_,h,a⟩))))))
def p6{p:Cell}(h:p∈EM t s):(p∈[(t.k,.lst [.ref t.r,.ref t.p,.ref t.s,.ref t.h]),(t.r,.lst (t.rs.map λx=>.ref x.a)),(t.p,.lst (t.ps.map λx=>.ref x.a)),(t.s,cQ s.ak),(t.h,.lst (t.hs.map λx=>.ref x.a))])∨
  (∃q∈t.rs.zip s.aj,p∈Bf q.1 q.2)\/(∃q∈t.ps.zip s.ai,p∈KW q.1 q.2)\/∃q∈t.hs.zip s.af,p∈wQ q.1 q.2:=by
 rcases mQa.mp h with h|h
 ·exact .inl h
 ·rcases mQa.mp h with h|h
  ·exact .inr (.inl (QOq.mp h))
  ·rcases mQa.mp h with h|h
   ·exact .inr (.inr (.inl (QOq.mp h)))
   ·exact .inr (.inr (.inr (QOq.mp h)))
def Nw.app(N:Nw lo S t s){G:aE}:Nw lo (S++G) t s:=⟨λp a=>aO (N.ho p a),N.nd,N.lo,N.lr,N.lp,N.lh,N.lb,N.lf⟩
def Nw.room(N:Nw lo S t s){x:FJ}{r r':de}(g:t.rs[i]?=some x)(j:s.aj[i]?=some r)(w:(b,o)∈Bf x r')(hs:∀p∈Bf x r',p.1≠b->p∈Bf x r)(d:r'.aa.length=r.aa.length):Nw lo (S.set b o) t (eg s i r'):=by
 have f:=cJ g j
 have z:=(gQs.mp j).1
 have n:(x,r')∈t.rs.zip (eg s i r').aj:=cJ g (Qyq z)
 have v:∀q∈t.rs.zip (eg s i r').aj,q=(x,r')\/q∈t.rs.zip s.aj:=λq a=>yV (x':=x) g j (by rw[qZ g];exact a)
 have y:=lI n w
 refine⟨xx.set N.ho ((yB _ _).nodup N.nd) y (λp m A=> ?_) ?_,N.nd,N.lo,by simpa [eg] using N.lr,N.lp,N.lh,λq a=> ?_,N.lf⟩
 ·rcases p6 m with h|⟨q,a,h⟩|⟨q,a,h⟩|⟨q,a,h⟩
  ·exact mQa.mpr (.inl h)
  ·rcases v q a with rfl|a
   ·exact lI f (hs p h A)
   ·exact lI a h
  ·exact wz a h
  ·exact qJ a h
 ·have:b∈(Bf x r).map (·.1):=by
   have k:b∈(Bf x r').map (·.1):=Qkq.mpr ⟨_,w,rfl⟩
   have e:(Bf x r').map (·.1)=(Bf x r).map (·.1):=by
    have u:=N.lb _ f
    have c:∀l:List (List (Int×Int)),x.bs.length=l.length->((x.bs.zip l).map λp=>((p.1,AK p.2):Cell)).map (·.1)=x.bs:=λl d=>by
     rw[QPq]
     exact List.map_fst_zip (Nat.le_of_eq d)
    unfold Bf
    rw[Qzq,Qzq,c _ u,c _ (by rw[d];exact u)]
    rfl
   rw[←e]
   exact k
  obtain⟨p,m,e⟩:=Qkq.mp this
  rw[←e]
  exact N.lt (lI f m)
 ·rcases v q a with rfl|a
  ·show x.bs.length=r'.aa.length
   rw[d]
   exact N.lb _ f
  ·exact N.lb q a
def Nw.share(N:Nw lo S t s){c:List Int}:Nw lo (S.set t.s (cQ c)) t {s with ak:=c}:=by
 refine⟨xx.set N.ho ((yB _ _).nodup N.nd) (by simp[EM]) (λp e d=> ?_) (gQs.mp N.ts).1,N.nd,N.lo,N.lr,N.lp,N.lh,N.lb,N.lf⟩
 rcases p6 e with h|⟨q,a,h⟩|⟨q,a,h⟩|⟨q,a,h⟩
 ·refine mQa.mpr (.inl ?_)
  simp only[Qsq,QXq,or_false] at h⊢
  rcases h with h|h|h|h|h
  ·exact .inl h
  ·exact .inr (.inl h)
  ·exact .inr (.inr (.inl h))
  ·rw[h] at d;exact absurd rfl d
  ·exact .inr (.inr (.inr (.inr h)))
 ·exact lI a h
 ·exact wz a h
 ·exact qJ a h
def Nw.hand(N:Nw lo S t s){x x':CB}{r r':List Int×List cz}(e:t.hs[i]?=some x)(f:s.af[i]?=some r)(C:x'.a=x.a)(B:(b,o)∈wQ x' r')(hs:∀p∈wQ x' r',p.1≠b->p∈wQ x r\/S[p.1]?=some p.2)(w:b<S.length)(y:x'.fs.length=r'.2.length)
  (nd:(zX {t with hs:=t.hs.set i x'}).Nodup) (g:∀a∈zX {t with hs:=t.hs.set i x'},lo<=a):Nw lo (S.set b o) {t with hs:=t.hs.set i x'} {s with af:=s.af.set i r'}:=by
 have z:=cJ e f
 have v:=(gQs.mp f).1
 have n:=(gQs.mp e).1
 have j:(x',r')∈(t.hs.set i x').zip (s.af.set i r'):=cJ (Qyq n) (Qyq v)
 have m:∀q∈(t.hs.set i x').zip (s.af.set i r'),q=(x',r')\/q∈t.hs.zip s.af:=λq d=>yV e f d
 have u:(b,o)∈EM {t with hs:=t.hs.set i x'} {s with af:=s.af.set i r'}:=qJ j B
 have A:(t.hs.set i x').map (λx=>D.ref x.a)=t.hs.map λx=>.ref x.a:=by
  rw[List.map_set,C]
  exact qZ (by rw[gQm,e];rfl)
 refine⟨λp l=> ?_,nd,g,N.lr,N.lp,by simpa using N.lh,N.lb,λq d=> ?_⟩
 ·by_cases c:p.1=b
  ·rw[xK ((yB _ _).nodup nd) l u c]
   exact Qyq w
  ·rw[QKq (Ne.symm c)]
   rcases p6 l with h|⟨q,d,h⟩|⟨q,d,h⟩|⟨q,d,h⟩
   ·refine N.ho p (mQa.mpr (.inl ?_))
    have h:p∈[(t.k,O.lst [.ref t.r,.ref t.p,.ref t.s,.ref t.h]),(t.r,.lst (t.rs.map λx=>.ref x.a)),(t.p,.lst (t.ps.map λx=>.ref x.a)),(t.s,cQ s.ak),(t.h,.lst ((t.hs.set i x').map λx=>.ref x.a))]:=h
    rw[A] at h
    exact h
   ·exact N.ho p (lI d h)
   ·exact N.ho p (wz d h)
   ·rcases m q d with rfl|d
    ·rcases hs p h c with h|h
     ·exact N.ho p (qJ z h)
     ·exact h
    ·exact N.ho p (qJ d h)
 ·rcases m q d with rfl|d
  ·exact y
  ·exact N.lf q d
end
end W28
namespace DL
open PySem PySem.Spec L2
section
variable{Γ:cB}{S:aE}
def M6{f:fw}{Q:D->aE->Prop}(h:E f Γ S λp a=>p.2.isL=true/\∃bs,G_ p.1=some bs/\Q (.bl (bs.all id)) a):E (Km f) Γ S Q:=by
 obtain⟨p,a,c,l,bs,b,q⟩:=h
 exact⟨_,a,by unfold Km;rw[c];simp only[Qbq];rw[Qhq l,b];rfl,q⟩
def Hl{i j:Int}{Q:D->Prop}(h:IA i j)(q:Q (.int (i^j.toNat))):Op (yC S (.int i) (.int j)) Q:=⟨_,by simp only[yC,intD];rw[Qhq h],q⟩
def LA{i j:Int}{Q:D->Prop}(h:IntMulOk i j)(q:Q (.int (i*j))):Op (n0 S (.int i) (.int j)) Q:=⟨_,by simp only[n0,intD];rw[Qhq h],q⟩
end
theorem BV:∀n:Nat,G_ (List.replicate n (.bl true))=some (List.replicate n true)
 |0=>rfl
 |n+1=>by simp only[QNq,G_];rw[BV n];rfl
end DL
namespace W28
open PySem PySem.Spec L2 DL
section
variable{S S0:aE}{Q:Res->aE->Prop}
def FY(l:List Nat):l.map mM=(l.map λh:Nat=>(h:Int)).map D.int:=by rw[QPq];rfl
def kY{l:List Nat}:∀d∈l.map mM,(∀k,d≠.ref k)/\cu 0 d=true:=λd b=>by
 obtain⟨a,_,rfl⟩:=Qkq.mp b
 exact⟨λk z=>(nomatch z),rfl⟩
def Kh{k i:Nat}{l:List Nat}{e:Int}(x:Ex k S0 S)(hi:i≠k)(t:S[i]?=some (.lst (l.map mM)))(B:0<l.length)(w:l.length<1000)
  (h:∀(m:Nat) (f:aE),m∈l->Ex k S0 f->Ex k S f->f.length=S.length->Q (.d (.int m)) f):Fn kP [.ref k,.ref i,.int e] S Q:=by
 have y:Ex k S S:=by obtain⟨a,b,c,C⟩:=x.pot;exact Ex.refl C
 have g:∀q,Ex k S q->q.length=S.length->T (cy (ax bM (aq (ar 0) (aq (ar 1) av)))) [some (.ref k),some (.ref i),some (.int e)] q (λo=>match o with
   |.nx _ f=>Op (settle S .non f) λp=>Q p.1 p.2|.rt d f=>Op (settle S d f) λp=>Q p.1 p.2|.rl l f=>Op (eJ S l f) λp=>Q p.1 p.2|_=>False):=λq v F=>by
  symm
  refine fu (xs:=l.map mM) v hi (v.keep _ _ hi t) (by simpa using B) (by simpa using w) kY (λd j=>dY (kY d j).2) λd f j r A n=> ?_
  obtain⟨m,s,rfl⟩:=Qkq.mp j
  dsimp only[a9,aN,a7,bR,bU,eZ]
  refine mY r x.lt (kY _ j).1 (dY (kY _ j).2) λa b c=> ?_
  exact h m _ s x.set y.set (by simp)
 refine bZ ?_
 unfold o_
 apply aI (bP (pV (cD (yK ?_))))
 refine a_ t ?_
 refine⟨_,_,rfl,by rw[FY];exact fQ _,?_⟩
 rw[nK]
 show if decide (e∈l.map λh:Nat=>(h:Int))=true then _ else _
 by_cases c:e∈l.map λh:Nat=>(h:Int)
 ·rw[Qeq c,Qhq rfl]
  obtain⟨m,s,rfl⟩:=Qkq.mp c
  symm
  apply bQ y (by decide) (by decide) λd f j r A n=> ?_
  refine dR ?_
  dsimp only[a9,aN,a7,bR,bU,eZ]
  by_cases u:(d:Int)=0
  ·rw[Qeq u,Qhq rfl]
   symm
   refine mY r x.lt (λk z=>(nomatch z)) rfl λa b c=> ?_
   exact h m _ s x.set y.set (by simp)
  ·rw[Qdq u,Quq (by decide)]
   refine bX ?_
   exact g f r n
 ·rw[Qdq c,Quq (by decide)]
  rw[Quq (by decide)]
  refine bX ?_
  exact g S y rfl
end
end W28
namespace DL
open PySem PySem.Spec L2
def B5{n:Nat}{b:cC}{ds:List D}{S:aE}{Q:Res->aE->Prop} (h:T b (ds.map some++List.replicate (n-ds.length) none) S λo=>match o with
   |.nx _ a=>Q (.d .non) a|.rt d a=>Q (.d d) a|.rl l a=>Q (.l l) a|_=>False):Fn (CA n b) ds S Q:=by
 obtain⟨o,c,q⟩:=h
 cases o with
 |nx e a=>exact⟨_,_,by unfold CA;rw[c];rfl,q⟩
 |rt d a=>exact⟨_,_,by unfold CA;rw[c];rfl,q⟩
 |rl d a=>exact⟨_,_,by unfold CA;rw[c];rfl,q⟩
 |bk=>exact q.elim
 |ct=>exact q.elim
def Dd{b:cB}{S:aE}{n k:Nat}{g:pS}{ds:List D}{Q:cB->aE->Prop}(f:S[k]?=some (.lst ds))(d:ds.length=n)(h:NK g ds b S Q):Tg (HV (nG n g)) (.ref k) b S Q:=by
 obtain⟨a,c,e,q⟩:=h
 exact⟨a,c,by unfold HV;simp only[f];unfold nG;rw[Qhq d];exact e,q⟩
def yM{a:D}{l:List D}{Q:List D×D->Prop}(q:Q (l,a))(b:l.length<999):Op (gN (a::l) [.int 0]) Q:=by
 refine⟨_,?_,q⟩
 unfold gN
 have h:seqIndex? (0:Int) (a::l).length=some 0:=W28.HW (n:=(a::l).length) (j:=0) (by simp) (by simp;omega)
 simp only
 rw[Qhq (by decide),h]
 rfl
def J5{a:D}{l:List D}{Q:List D×D->Prop}(q:Q (l,a)):Op (F1 (l++ [a]) []) Q:=⟨_,by unfold F1;simp,q⟩
def jw{ds:List D}{y:D}{Q:List D×D->Prop}(a:ds.length<999)(q:Q (ds++ [y],.non)):Op (fA ds [y]) Q:=⟨_,by unfold fA;exact Qhq (bq (by omega)),q⟩
end DL
namespace W28
open PySem PySem.Spec L2 DL
structure AX(lo:Nat)(S S':aE):Prop where
 len:S.length<=S'.length
 eq:∀j,j<lo->S'[j]?=S[j]?
def AX.refl{lo:Nat}{S:aE}:AX lo S S:=⟨Qmq _,λ_ _=>rfl⟩
def AX.put{lo b:Nat}{S a:aE}{o:O}(k:AX lo S a)(h:lo<=b):AX lo S (a.set b o):=⟨by simpa using k.len,λj c=>by rw[QKq (by omega)];exact k.eq j c⟩
structure Go(lo:Nat)(S0 S:aE)(t:zB)(s:bE):Prop where
 n:Nw lo S t s
 k:AX lo S0 S
 l:lo<=S0.length
section
variable{lo:Nat}{S0 S:aE}{t:zB}{s:bE}{i:Nat}
def Go.app(g:Go lo S0 S t s){G:aE}:Go lo S0 (S++G) t s:=⟨g.n.app,⟨by rw[lQa];have:=g.k.len;omega,λj a=>by rw[QHq (by have:=g.k.len;have:=g.l;omega)];exact g.k.eq j a⟩,g.l⟩
def AL{x:FJ}(b:t.rs[i]?=some x){a:Nat}(h:a∈Cz x):a∈zX t:=mQa.mpr (.inr (mQa.mpr (.inl (QOq.mpr ⟨x,mQg b,h⟩))))
def EI{x:CB}(b:t.hs[i]?=some x){a:Nat}(h:a∈AJ x):a∈zX t:=mQa.mpr (.inr (mQa.mpr (.inr (mQa.mpr (.inr (QOq.mpr ⟨x,mQg b,h⟩))))))
section
variable{x:FJ}{r:de}(g:Go lo S0 S t s)(hx:t.rs[i]?=some x)(hr:s.aj[i]?=some r)
include g hx hr
def Go.ca:S[x.a]?=some (.lst [.ref x.v,.int r.within,.ref x.r,.ref x.l,.ref x.b]):=g.n.ho (x.a,_) (lI (cJ hx hr) (mQa.mpr (.inl (by simp))))
def Go.cv:S[x.v]?=some (cQ r.vals):=g.n.ho (x.v,cQ r.vals) (lI (cJ hx hr) (mQa.mpr (.inl (by simp))))
def Go.cr:S[x.r]?=some (cQ r.row):=g.n.ho (x.r,cQ r.row) (lI (cJ hx hr) (mQa.mpr (.inl (by simp))))
def Go.cl:S[x.l]?=some (cQ r.ag):=g.n.ho (x.l,cQ r.ag) (lI (cJ hx hr) (mQa.mpr (.inl (by simp))))
def Go.cb:S[x.b]?=some (.lst (x.bs.map D.ref)):=g.n.ho (x.b,_) (lI (cJ hx hr) (mQa.mpr (.inl (by simp))))
def Go.cbs{j a:Nat}{l:List (Int×Int)}(b:x.bs[j]?=some a)(c:r.aa[j]?=some l):S[a]?=some (AK l):=g.n.ho (a,_) (lI (cJ hx hr) (mQa.mpr (.inr (Qkq.mpr ⟨_,cJ b c,rfl⟩))))
def Go.lb:x.bs.length=r.aa.length:=g.n.lb _ (cJ hx hr)
def Go.within(v:Int):Go lo S0 (S.set x.a (.lst [.ref x.v,.int v,.ref x.r,.ref x.l,.ref x.b])) t (eg s i {r with within:=v}):=
 ⟨g.n.room hx hr (mQa.mpr (.inl (QBq ..))) (λp d c=>by
  rcases Qsq.mp d with h|h
  ·rw[h] at c;exact absurd rfl c
  ·exact Qpq _ h) rfl,g.k.put (g.n.lo _ (AL hx (by simp[Cz]))),g.l⟩
def Go.vals(b:List Int):Go lo S0 (S.set x.v (cQ b)) t (eg s i {r with vals:=b}):=
 ⟨g.n.room hx hr (mQa.mpr (.inl (Qpq _ (QBq ..)))) (λp a c=>by
  rcases Qsq.mp a with h|a
  ·exact Qsq.mpr (.inl h)
  ·rcases Qsq.mp a with h|h
   ·rw[h] at c;exact absurd rfl c
   ·exact Qpq _ (Qpq _ h)) rfl,g.k.put (g.n.lo _ (AL hx (by simp[Cz]))),g.l⟩
def Go.row(b:List Int):Go lo S0 (S.set x.r (cQ b)) t (eg s i {r with row:=b}):=
 ⟨g.n.room hx hr (mQa.mpr (.inl (by simp))) (λp a c=>by
  rcases Qsq.mp a with h|a
  ·exact Qsq.mpr (.inl h)
  ·rcases Qsq.mp a with h|a
   ·exact Qpq _ (Qsq.mpr (.inl h))
   ·rcases Qsq.mp a with h|h
    ·rw[h] at c;exact absurd rfl c
    ·exact Qpq _ (Qpq _ (Qpq _ h))) rfl,g.k.put (g.n.lo _ (AL hx (by simp[Cz]))),g.l⟩
def Go.ag(b:List Int):Go lo S0 (S.set x.l (cQ b)) t (eg s i {r with ag:=b}):=
 ⟨g.n.room hx hr (mQa.mpr (.inl (by simp))) (λp a c=>by
  rcases Qsq.mp a with h|a
  ·exact Qsq.mpr (.inl h)
  ·rcases Qsq.mp a with h|a
   ·exact Qpq _ (Qsq.mpr (.inl h))
   ·rcases Qsq.mp a with h|a
    ·exact Qpq _ (Qpq _ (Qsq.mpr (.inl h)))
    ·rcases Qsq.mp a with h|h
     ·rw[h] at c;exact absurd rfl c
     ·exact Qpq _ (Qpq _ (Qpq _ (Qpq _ h)))) rfl,g.k.put (g.n.lo _ (AL hx (by simp[Cz]))),g.l⟩
def Go.bell{j a:Nat}{l:List (Int×Int)}(b:x.bs[j]?=some a)(d:r.aa[j]?=some l)(c:List (Int×Int)):Go lo S0 (S.set a (AK c)) t (eg s i {r with aa:=r.aa.set j c}):=
 ⟨g.n.room hx hr (mQa.mpr (.inr (Qkq.mpr ⟨(a,c),cJ b (Qyq (gQs.mp d).1),rfl⟩))) (λp o f=>by
  rcases mQa.mp o with h|h
  ·exact mQa.mpr (.inl h)
  ·obtain⟨q,m,rfl⟩:=Qkq.mp h
   rcases yV (x':=a) b d (by rw[qZ b];exact m) with e|e
   ·rw[e] at f;exact absurd rfl f
   ·exact mQa.mpr (.inr (Qkq.mpr ⟨q,e,rfl⟩))) (by simp),g.k.put (g.n.lo _ (AL hx (by unfold Cz;exact mQa.mpr (.inr (mQg b))))),g.l⟩
end
def jc{r1 a:de}:eg (eg s i r1) i a=eg s i a:=by unfold eg;simp
def nF{r1:de}{r:de}(a:s.aj[i]?=some r):(eg s i r1).aj[i]?=some r1:=Qyq (gQs.mp a).1
section
variable{x:FJ}{r:de}{Q:Res->aE->Prop}(g:Go lo S0 S t s)(hx:t.rs[i]?=some x)(hr:s.aj[i]?=some r)
include g hx hr
def BB{h:Int}(j: -1<=r.within)(f:r.row.length<900)(q:∀b,Go lo S0 b t (eg s i (gD r h))->Q (.d .non) b):Fn g6 [.ref x.a,.int h] S Q:=by
 refine B5 ?_
 unfold l_
 symm
 apply bL (g.ca hx hr) (d:=.int r.within) rfl ?_
 refine aK (λc=> ?_) (λc=> ?_)
 ·have c:r.within<0:=QZq c
  have e:gD r h={r with within:=h}:=Qhq (by omega)
  rw[e] at q
  symm
  exact⟨_,_,_,_,rfl,rfl,g.ca hx hr,rfl,q _ (g.within hx hr h)⟩
 ·have c:¬r.within<0:=QaQ c
  have e:gD r h={r with row:=r.row++ [h]}:=Quq (by omega)
  rw[e] at q
  apply d_ (fK ?_)
  refine bL (g.ca hx hr) (d:=.ref x.r) rfl ?_
  apply⟨_,_,rfl,g.cr hx hr,?_⟩
  refine⟨_,g.cr hx hr,jw (by rw[lQm];omega) ?_⟩
  have:=q _ (g.row hx hr (r.row++ [h]))
  unfold cQ at this
  rw[Qzq] at this
  exact this
def tH(o:r.row.length<900)(m:r.ag.length<900)(q:∀n,Go lo S0 n t (eg s i (dt r))->Q (.d .non) n):Fn hU [.ref x.a] S Q:=by
 refine B5 ?_
 unfold my
 symm
 apply ke ?_
 refine⟨1,rfl,?_⟩
 refine Jy (aw rfl (cH ⟨_,_,_,_,rfl,rfl,g.ca hx hr,rfl,?_⟩))
 have f:=g.within hx hr (-1)
 have e:=nF (r1:={r with within:= -1}) hr
 show T _ _ (S.set x.a (.lst [.ref x.v,.int (-1),.ref x.r,.ref x.l,.ref x.b])) _
 generalize S.set x.a (.lst [.ref x.v,.int (-1),.ref x.r,.ref x.l,.ref x.b])=S1 at f⊢
 obtain⟨vals,within,row,ag,aa⟩:=r
 apply bP (cD (qw ?_))
 refine bL (f.ca hx e) (d:=.ref x.l) rfl ?_
 refine a_ (f.cl hx e) ?_
 refine⟨⟨rfl,f.cl hx e⟩,?_⟩
 dsimp only[a9,aN,a7,bR,bU,eZ]
 cases ag with
 | cons a l=>
   refine aK (λ_=> ?_) (λc=>by cases c)
   apply uh (fK ?_)
   refine bL (f.ca hx e) (d:=.ref x.l) rfl ?_
   apply⟨_,_,rfl,f.cl hx e,?_⟩
   refine⟨_,f.cl hx e,yM ?_ (by rw[lQm];simp at m;omega)⟩
   have k:=f.ag hx e l
   have h:=nF (r1:={vals:=vals,within:= -1,row:=row,ag:=l,aa:=aa}) e
   refine Jy (aw rfl (cH ⟨_,_,_,_,rfl,rfl,k.ca hx h,rfl,?_⟩))
   have j:=k.within hx h a
   rw[jc,jc] at j
   exact q _ j
 | nil=>
   refine aK (λc=>by cases c) (λ_=> ?_)
   apply bP (cD (qw ?_))
   refine bL (f.ca hx e) (d:=.ref x.r) rfl ?_
   refine a_ (f.cr hx e) ?_
   refine⟨⟨rfl,f.cr hx e⟩,?_⟩
   dsimp only[a9,aN,a7,bR,bU,eZ]
   cases row with
   | cons a l=>
     refine aK (λ_=> ?_) (λc=>by cases c)
     apply uh (fK ?_)
     refine bL (f.ca hx e) (d:=.ref x.r) rfl ?_
     apply⟨_,_,rfl,f.cr hx e,?_⟩
     refine⟨_,f.cr hx e,yM ?_ (by rw[lQm];simp at o;omega)⟩
     have k:=f.row hx e l
     have h:=nF (r1:={vals:=vals,within:= -1,row:=l,ag:= [],aa:=aa}) e
     refine Jy (aw rfl (cH ⟨_,_,_,_,rfl,rfl,k.ca hx h,rfl,?_⟩))
     have j:=k.within hx h a
     rw[jc,jc] at j
     exact q _ j
   | nil=>
     refine aK (λc=>by cases c) (λ_=>bX ?_)
     exact q _ f
end
end
end W28
namespace DL
open PySem PySem.Spec L2
def GV{S:aE}{k:Nat}{ds:List D}{Q:List D×Tag->Prop}(a:S[k]?=some (.frz ds))(q:Q (ds,.fz k)):Op (wA S (.ref k)) Q:=⟨_,by simp only[wA,a],q⟩
def NP{S:aE}{k:Nat}{ds:List D}{i:Int}{d:D}{Q:D->Prop}(a:S[k]?=some (.frz ds))(h:kj ds i=some d)(q:Q d):Op (fJ S (.ref k) (.int i)) Q:=⟨_,by simp only[fJ,a];exact h,q⟩
def NX{i:Int}{Q:D->Prop}(q:Q (.int (if i<0 then -i else i))):Op (Jz [.int i]) Q:=⟨_,rfl,q⟩
def g_{b:Bool}{Q:D->Prop}(q:Q (.int (if b then 1 else 0))):Op (intOfD [.bl b]) Q:=⟨_,rfl,q⟩
def wM{j:Nat}{n:Nat}{d:D}(h:(jO 0 (j:Int))[n]?=some d):d=.int n/\n<j:=by
 have a:n<j:=by
  have:=(gQs.mp h).1
  unfold jO at this
  simpa using this
 unfold jO at h
 rw[gQm,List.getElem?_range (by simpa using a)] at h
 cases h
 exact⟨by simp,a⟩
def G8{j:Nat}:(jO 0 (j:Int)).length=j:=by
 unfold jO
 simp
end DL
namespace W28
open PySem PySem.Spec L2 DL
section
variable{S:aE}{Q:Res->aE->Prop}
def LN{ns:List Int}{k:Nat}(i:S[0]?=some (.frz (ns.map D.int)))(q:∀a b:Int,Q (.l [.int a,.int b,.int 0]) S):Fn nJ [.ref 0,.int k] S Q:=by
 refine bZ ?_
 unfold sr
 have g:∀f:Int,T (aD (aS 3 (aQ n0 (aQ uu (ar 2) (aQ n0 (aQ yC (cF (.int 10)) (cF (.int 60))) (aQ yC (cF (.int 10)) (cF (.int 60))))) (uq intOfD (aq (aQ Oo (ar 2) (aQ yC (cF (.int 10)) (cF (.int 18)))) av))))
   (Gz (bB (aq (ar 3) (aq (aQ uu (aQ cA (aQ cA (ar 2) (aQ n0 (cF (.int 104729)) (ar 1))) (cF (.int 7))) (cF (.int 2305843009213693951))) (aq (cF (.int 0)) av))))))
   [some (.ref 0),some (.int k),some (.int f),none] S (λo=>match o with
   |.nx _ e=>Op (settle S .non e) λp=>Q p.1 p.2|.rt d e=>Op (settle S d e) λp=>Q p.1 p.2|.rl l e=>Op (eJ S l e) λp=>Q p.1 p.2|_=>False):=by
  intro f
  symm
  apply Hl ⟨by decide,by decide,by decide⟩ ?_
  apply Hl ⟨by decide,by decide,by decide⟩ ?_
  refine LA (IntMulOk.of_bits (by decide +kernel) (by decide +kernel)) ?_
  refine wC (show(0:Int)<10^(60:Int).toNat*10^(60:Int).toNat by decide +kernel) ?_
  generalize f%(10^(60:Int).toNat*10^(60:Int).toNat)=c1
  symm
  refine Hl ⟨by decide,by decide,by decide⟩ ?_
  generalize (10:Int)^(18:Int).toNat=c2
  symm
  refine g_ ?_
  have h:I0 c1 (if decide (c2<=f)=true then 1 else 0):=by
   right
   split <;>decide
  generalize (if decide (c2<=f)=true then(1:Int) else 0)=c3 at h⊢
  apply wF h ?_
  apply wF (.inl ⟨by decide,by decide⟩) ?_
  apply wC (by decide) ?_
  refine⟨by show 3<=_;decide,?_⟩
  exact GD rfl (q _ _)
 symm
 apply GV i ?_
 rw[lQm]
 by_cases c:(k:Int)<ns.length
 ·rw[Qeq c,Qhq rfl]
  have j:k<ns.length:=by omega
  symm
  refine NP i (aW (x:=.int ns[k]) (by rw[gQm,gQe j];rfl)) ?_
  symm
  refine NX ?_
  exact g _
 ·rw[Qdq c,Quq (by decide)]
  refine bX ?_
  exact g 0
end
section
variable{S:aE}{Q:Res->aE->Prop}
def jQ{α:Type}{enc:α->D}{nm:α->Str}{xs:List α}{g:cB}{f:fw}{tg:Tag}{Q:List D->aE->Prop}(he:∀a,∃r,enc a=.tup (.str (nm a)::r))(h:xs.length<=1000)(i:E f g S λp d=>p=(xs.map enc,tg)/\d=S)(ht:tg.stays S (xs.map enc))(q:Q ((xs.map nm).map D.str) S):
  E (bD [none] (fL f) (bJ 0) bK (aQ fJ (ar 0) (cF (.int 0)))) g S Q:=by
 refine iU (α:=α) (λb=>∃a,b= [a]) enc (λa=>.str (nm a)) ⟨none,rfl⟩ (i.mono λp d j=> ?_)
 obtain⟨rfl,rfl⟩:=j
 refine⟨xs,rfl,ht,h,λr l b c=> ?_,?_⟩
 ·obtain⟨a,rfl⟩:=c
  refine aV ⟨rfl,⟨_,rfl⟩,?_⟩
  obtain⟨k,e⟩:=he r
  rw[e]
  symm
  exact ay AU ⟨rfl,rfl⟩
 ·have e:xs.map (λa=>D.str (nm a))=(xs.map nm).map D.str:=by rw[QPq];rfl
  rw[e]
  exact q
def nO{α:Type}{enc:α->D}{nm:α->Str}{xs:List α}{x:Str}(he:∀a,∃r,enc a=.tup (.str (nm a)::r))(f:xs.length<=1000)(h:x∈xs.map nm)(q:Q (.d (.int (fB (xs.map nm) x:Nat))) S):Fn dg [.tup (xs.map enc),.str x] S Q:=by
 refine bZ ?_
 unfold oY
 obtain⟨j,e,i⟩:=uG h
 unfold fB at q
 rw[e] at q
 refine eV ?_
 have c:E (ia (bD [none] (fL (aR (ar 0))) (bJ 0) bK (aQ fJ (ar 0) (cF (.int 0))))) ([D.tup (xs.map enc),D.str x].map some++List.replicate (2- [D.tup (xs.map enc),D.str x].length) none) S λp b=>p=((xs.map nm).map D.str,.fr)/\b=S:=
  qH (jQ (tg:=.tu) he f (bV (aw rfl (cx ⟨rfl,rfl⟩))) trivial ⟨rfl,rfl⟩)
 obtain⟨p,b,g,rfl,rfl⟩:=c
 refine⟨.int j,b,?_,cW (λk z=>(nomatch z)) rfl q⟩
 unfold HG
 rw[g]
 simp only[Qbq]
 rw[Qhq (show Tag.fr.isL=true from rfl)]
 show((ar 1 _ b).bind _)=_
 rw[show ar 1 ([D.tup (xs.map enc),D.str x].map some++List.replicate (2- [D.tup (xs.map enc),D.str x].length) none) b=some (.str x,b) from rfl]
 simp only[Qbq]
 rw[Qhq (show Tag.stays b _ .fr from trivial)]
 show(xc (.str x)).bind _=_
 simp only[xc,Qbq]
 rw[gK]
 simp only[Qbq]
 rw[e]
 rfl
end
def iz{c:cB}{S:aE}{i:Nat}{a b:Str}{l:List D}{Q:Bool->aE->Prop}(h:c[i]?=some (some (.tup (.str a::l))))(q:Q (decide (a=b)) S):E (aH (aQ (du false) (aQ fJ (ar i) (cF (.int 0))) (cF (.str b)))) c S Q:=
 cD (aY (aY (aw h (cH (ay (d:=.str a) AU (cH (gE q)))))))
theorem rN{th wt:Str->Int}{ws bs:List Str}{i j:Nat}{s kws:List (Key×D)}{S:aE}(hi:S[i]?=some (.dct s))(K:S[j]?=some (.dct kws))(L:∀x∈ws,iC s (.inr x)=some (.int (th x)))(N:∀b∈bs,iC kws (.inr b)=some (.int (wt b)))(H:∀x∈ws,0<=th x/\th x<=9):
  ∀(n:Nat) (t:Tr) {Q:Res->aE->Prop},t.Ok ws bs->t.dep<=n->Q (.d (.int (oa th wt t))) S->Fn (eD n) [t.d,.ref i,.ref j] S Q
 |0,t,Q,_,hd,_=>by cases t <;>simp[Tr.dep] at hd
 | n+1,t,Q,ho,hd,q=>by
   refine bZ ?_
   unfold m4
   have g:∀(o:Str) (h:List Tr) (k:Nat) {R:List D->aE->Prop},h.length<=2->(∀u∈h,u.Ok ws bs/\u.dep<=n)->R (h.map λu=>.int (oa th wt u)) S→
       E (bD [none,some 1,some 2] (fL (aR (ud (ar 0) (ur (cF (.int 1))) uT))) (bJ 0) bK (ax (eD n) (aq (ar 0) (aq (ar 1) (aq (ar 2) av))))) [some (.tup (.str o::h.map Tr.d)),some (.ref i),some (.ref j),none,none,none] S R:=λo h k R Y C q=>by
     refine iU (α:=Tr) (λB=>∃a,B= [a,some (.ref i),some (.ref j)]) Tr.d (λu=>.int (oa th wt u)) ⟨none,rfl⟩ ?_
     refine bV (nq (aw rfl (dF (cH ⟨1,rfl,dz ⟨_,rfl,?_⟩⟩))))
     rw[show kE (D.str o::h.map Tr.d) (some 1) none=h.map Tr.d from jR (i:=1) (by simp)]
     refine cx ⟨h,rfl,trivial,by omega,λu l B I=> ?_,q⟩
     obtain⟨a,rfl⟩:=I
     apply aV ⟨rfl,⟨_,rfl⟩,?_⟩
     exact rN hi K L N H n u (C u l).1 (C u l).2 ⟨rfl,rfl⟩
   cases t with
   | num v=>
     refine aI (bP (b_ (d:=.int v) (aw rfl ⟨rfl,rfl⟩) rfl ?_))
     apply aK (λ_=> ?_) (λc=>by cases c)
     exact cX q
   | word x=>
     refine aI (bP (b_ (d:=.str x) (aw rfl ⟨rfl,rfl⟩) rfl ?_))
     refine aK (λc=>by cases c) (λ_=>bX ?_)
     refine aI (bP (b_ (d:=.str x) (aw rfl ⟨rfl,rfl⟩) rfl ?_))
     refine aK (λ_=> ?_) (λc=>by cases c)
     apply eV (Jn ?_)
     refine⟨_,_,_,_,rfl,rfl,hi,L x ho,?_⟩
     exact cX q
   | waits b=>
     refine aI (bP (b_ (d:=.tup [.str "waits",.str b]) (aw rfl ⟨rfl,rfl⟩) rfl ?_))
     refine aK (λc=>by cases c) (λ_=>bX ?_)
     refine aI (bP (b_ (d:=.tup [.str "waits",.str b]) (aw rfl ⟨rfl,rfl⟩) rfl ?_))
     refine aK (λc=>by cases c) (λ_=>bX ?_)
     refine aI (bP (iz (a:="waits") rfl ?_))
     refine aK (λ_=> ?_) (λc=>absurd (QaQ c) (by simp))
     apply eV (AH (az (aY (Jn ?_))))
     refine ay (d:=.str b) rfl ?_
     apply⟨_,_,_,_,rfl,rfl,K,N b ho,?_⟩
     refine g_ ?_
     simp only[oa] at q
     have e:(if decide (0<wt b)=true then(1:Int) else 0)=if 0<wt b then 1 else 0:=by by_cases c:0<wt b <;>simp[c]
     rw[e]
     exact cX q
   | no u=>
     refine aI (bP (b_ (d:=.tup [.str "not",u.d]) (aw rfl ⟨rfl,rfl⟩) rfl ?_))
     refine aK (λc=>by cases c) (λ_=>bX ?_)
     refine aI (bP (b_ (d:=.tup [.str "not",u.d]) (aw rfl ⟨rfl,rfl⟩) rfl ?_))
     refine aK (λc=>by cases c) (λ_=>bX ?_)
     refine aI (bP (iz (a:="not") rfl ?_))
     refine aK (λc=>absurd (QZq c) (by decide +kernel)) (λ_=>bX ?_)
     refine aI (cK (dU (g "not" [u] 0 (by simp) (λZ l=>by
       rw[Qfq.mp l]
       simp only[Tr.dep] at hd
       exact⟨ho,by omega⟩) ?_)))
     refine aI (bP (iz (a:="not") rfl ?_))
     refine aK (λ_=> ?_) (λc=>absurd (QaQ c) (by simp))
     refine eV (AH (az (aY (aY (aw rfl (cH (bL aM (d:=.int (oa th wt u)) rfl (cH (dR (aZ (g_ ?_)))))))))))
     simp only[oa] at q
     have e:(if decide (oa th wt u=0)=true then(1:Int) else 0)=if oa th wt u=0 then 1 else 0:=by by_cases c:oa th wt u=0 <;>simp[c]
     rw[e]
     exact v5 rG.refl.app (λk z=>(nomatch z)) rfl q
   | two o a b=>
     obtain⟨G,r,A⟩:=ho
     obtain⟨X,P⟩:=Eb G
     simp only[Tr.dep] at hd
     have U:=iJ (wt:=wt) (ws:=ws) (bs:=bs) H r
     have W:=iJ (wt:=wt) (ws:=ws) (bs:=bs) H A
     refine aI (bP (b_ (d:=.tup [.str o,a.d,b.d]) (aw rfl ⟨rfl,rfl⟩) rfl ?_))
     refine aK (λc=>by cases c) (λ_=>bX ?_)
     refine aI (bP (b_ (d:=.tup [.str o,a.d,b.d]) (aw rfl ⟨rfl,rfl⟩) rfl ?_))
     refine aK (λc=>by cases c) (λ_=>bX ?_)
     refine aI (bP (iz (a:=o) rfl ?_))
     refine aK (λc=>absurd (QZq c) X) (λ_=>bX ?_)
     refine aI (cK (dU (g o [a,b] 0 (by simp) (λu l=>by
       simp only[Qsq,QXq,or_false] at l
       rcases l with rfl|rfl
       · exact⟨r,by omega⟩
       · exact⟨A,by omega⟩) ?_)))
     simp only[QDq,List.map_nil]
     refine aI (bP (iz (a:=o) rfl ?_))
     refine aK (λc=>absurd (QZq c) P) (λ_=>bX ?_)
     refine aI (uh (aw rfl (Dd aM rfl (aA (aV (aA (aV (bA ?_))))))))
     simp only[oa] at q
     generalize oa th wt a=va at q U⊢
     generalize oa th wt b=vb at q W⊢
     have f:∀{v:Int},v=KJ o va vb->Op (settle S (.int v) (S++ [.lst [.int va,.int vb]])) λp=>Q p.1 p.2:=λe=>by
       rw[e]
       exact v5 rG.refl.app (λk z=>(nomatch z)) rfl q
     unfold KJ at f
     refine aI (bP (iz (a:=o) rfl ?_))
     refine aK (λc=> ?_) (λc=>bX ?_)
     · have c:=QZq c
       refine eV (AH (az (cH (az (aY (aw rfl (aw rfl (KZ (aZ (Ih (f ?_)))))))))))
       rw[Qhq c]
       repeat' split
       all_goals omega
     have m:=QaQ c
     refine aI (bP (iz (a:=o) rfl ?_))
     refine aK (λc=> ?_) (λc=>bX ?_)
     · have c:=QZq c
       refine eV (AH (az (cH (az (aY (aw rfl (aw rfl (gq (aZ (G1 (f ?_)))))))))))
       rw[Quq m,Qhq c]
       repeat' split
       all_goals omega
     have F:=QaQ c
     refine aI (bP (iz (a:=o) rfl ?_))
     refine aK (λc=> ?_) (λc=>bX ?_)
     · have c:=QZq c
       refine eV (AH (az (aY (aw rfl (aw rfl (gq (aZ (g_ (f ?_)))))))))
       rw[Quq m,Quq F,Qhq c]
       by_cases z:va<vb <;>simp[z]
     have J:=QaQ c
     refine eV (AH (az (NQ (iz (a:=o) rfl ?_))))
     refine aK (λc=> ?_) (λc=> ?_)
     · have c:=QZq c
       refine aY (aw rfl (aw rfl (dR (aZ (g_ (f ?_))))))
       rw[Quq m,Quq F,Quq J,Qhq c]
       by_cases z:va=vb <;>simp[z]
     · have M:=QaQ c
       refine mR (aY (aw rfl (cH (gq ⟨_,rfl,?_⟩))))
       refine aK (λz=> ?_) (λz=> ?_)
       · have z:=QZq z
         refine aY (aw rfl (cH (gq (aZ (g_ (f ?_))))))
         rw[Quq m,Quq F,Quq J,Quq M]
         by_cases y:0<vb
         · rw[Qeq y,Qhq rfl,Qhq ⟨by omega,by omega⟩]
         · rw[Qdq y,Quq (by decide),Quq (λw=>by omega)]
       · have z:=QaQ z
         refine aZ (g_ (f ?_))
         rw[Quq m,Quq F,Quq J,Quq M,Quq (by decide),Quq (λw=>by omega)]
end W28
namespace DL
open PySem PySem.Spec L2
def vF{l:List (Key×D)}{a k:Key}{v:D}:iC (putD l a v) k=if a=k then some v else iC l k:=by
 unfold putD
 split
 ·rename_i h
  induction l with
  |nil=>simp at h
  | cons p l i=>
    unfold iC at i⊢
    rw[QDq,List.find?_cons,List.find?_cons]
    by_cases c:p.1=a
    · rw[Qhq c]
      by_cases d:a=k
      · rw[Qhq d]
        simp[c,d]
      · rw[Quq d]
        have n:¬p.1=k:=by rw[c];exact d
        simp only[n,decide_false]
        by_cases e:(l.any λb=>decide (b.1=a))=true
        · have:=i e
          rw[Quq d] at this
          exact this
        · have f:l.map (λb=>if b.1=a then(b.1,v) else b)=l:=by
            rw[List.map_congr_left (g:=id) (λq j=> ?_),List.map_id]
            have:¬q.1=a:=λz=>e (List.any_eq_true.mpr ⟨q,j,Qeq z⟩)
            rw[Quq this]
            rfl
          rw[f]
    · rw[Quq c]
      have r:(l.any λb=>decide (b.1=a))=true:=by simpa [c] using h
      by_cases d:p.1=k
      · simp only[d,decide_true]
        rw[Quq (λz=>c (d.trans z.symm))]
      · simp only[d,decide_false]
        exact i r
 ·rename_i h
  unfold iC
  rw[List.find?_append]
  cases m:l.find? λb=>decide (b.1=k) with
  | some q=>
    have j:=List.find?_some m
    have o:=List.mem_of_find?_eq_some m
    have n:¬a=k:=λz=>h (List.any_eq_true.mpr ⟨q,o,by rw[z];exact j⟩)
    rw[Quq n]
    rfl
  | none=>
    by_cases d:a=k
    · rw[Qhq d];simp[d]
    · rw[Quq d];simp[d]
theorem mi{k:Key}:∀{m l:List (Key×D)},k∉m.map Prod.fst->iC (bu l m) k=iC l k
 | [],l,_=>rfl
 | p::m,l,h=>by
   have a:bu l (p::m)=bu (putD l p.1 p.2) m:=rfl
   rw[a,mi (λz=>h (Qpq _ z)),vF,Quq (λz=>h (by rw[QDq,z];exact QBq ..))]
theorem As{k:Key}:∀{m l l':List (Key×D)},k∈m.map Prod.fst->iC (bu l m) k=iC (bu l' m) k
 | [],_,_,h=>by cases h
 | p::m,l,l',h=>by
   have a:∀l,bu l (p::m)=bu (putD l p.1 p.2) m:=λ_=>rfl
   rw[a,a]
   by_cases c:k∈m.map Prod.fst
   · exact As c
   · have e:p.1=k:=by
       rcases Qsq.mp h with z|z
       · exact z.symm
       · exact absurd z c
     rw[mi c,mi c,vF,vF,Qhq e,Qhq e]
def Di{l m:List (Key×D)}{k:Key}(h:k∈(bu l m).map Prod.fst):k∈l.map Prod.fst\/k∈m.map Prod.fst:=by
 obtain⟨p,a,e⟩:=Qkq.mp h
 rcases kW a with z|z
 ·exact .inl (Qkq.mpr ⟨p,z,e⟩)
 ·exact .inr (Qkq.mpr ⟨p,z,e⟩)
def Gv{l:List (Key×D)}{a:Key}{v:D}(h:(l.map Prod.fst).Nodup):((putD l a v).map Prod.fst).Nodup:=by
 unfold putD
 split
 ·have e:(l.map λd=>if d.1=a then(d.1,v) else d).map Prod.fst=l.map Prod.fst:=by
   rw[QPq]
   refine List.map_congr_left λp _=> ?_
   show(if p.1=a then(p.1,v) else p).1=p.1
   split <;>rfl
  rw[e]
  exact h
 ·rename_i c
  rw[Qzq,List.nodup_append]
  refine⟨h,by simp,λx f y b e=> ?_⟩
  obtain⟨p,g,i⟩:=Qkq.mp f
  have b:y=a:=by simpa using b
  exact c (List.any_eq_true.mpr ⟨p,g,Qeq (by rw[i,e,b])⟩)
theorem s_:∀{m l:List (Key×D)},(l.map Prod.fst).Nodup->((bu l m).map Prod.fst).Nodup
 | [],_,h=>h
 |p::m,l,h=>s_ (m:=m) (Gv h)
theorem xT:∀{m l:List (Key×D)},((l++m).map Prod.fst).Nodup->bu l m=l++m
 | [],l,_=>by simp[bu]
 | p::m,l,h=>by
   have b:bu l (p::m)=bu (putD l p.1 p.2) m:=rfl
   have e:putD l p.1 p.2=l++ [p]:=by
     unfold putD
     rw[Quq]
     intro z
     obtain⟨q,a,e⟩:=List.any_eq_true.mp z
     rw[Qzq,List.nodup_append] at h
     exact h.2.2 q.1 (Qkq.mpr ⟨q,a,rfl⟩) p.1 (by simp) (QZq e)
   rw[b,e,xT (by simpa using h)]
   simp
def Fl{l:List (Key×D)}{k:Key}:iC (bu [] (bu [] l)) k=iC (bu [] l) k:=by
 rw[xT (m:=bu [] l) (l:= []) (by simpa using s_ (m:=l) (l:= []) .nil)]
 rfl
def Fj{l m n:List (Key×D)}:bu l (m++n)=bu (bu l m) n:=List.foldl_append
end DL
namespace W28
open PySem PySem.Spec L2 DL
def G7{w:dE}{s:bE}{ts:List (Str×Nat)}{vs:List Int}{x:Str}(ls:w.ak.length=s.ak.length)(f:ts.length=vs.length)(n:∀v∈s.ak,0<=v/\v<=9)(q:∀v∈vs,0<=v/\v<=9)(l:∀y∈ts.map (·.1),y∉w.ak.map (·.1))(j:x∈ts.map (·.1)++w.ak.map (·.1)):
  iC (bu [] ((((ts++w.ak).map (·.1)).map Sum.inr).zip ((vs++s.ak).map D.int))) (.inr x)=some (.int (numAt (qj w s ts vs) x)):=by
 have d:jh (qj w s ts vs):=jh.merge (dW n) (dW q)
 have o:(Sum.inr x:Key)∈(qj w s ts vs).map (·.1):=fm (by
  rcases mQa.mp j with h|h
  ·exact .inr (dv f h)
  ·exact .inl (dv ls h))
 rw[←(g9 d o).1]
 rw[Qzq,Qzq,Qzq,List.zip_append (by simpa using f),Fj]
 unfold qj
 have g:∀{a:List (Str×Nat)} {b:List Int},a.length=b.length->((((a.map (·.1)).map Sum.inr:List Key).zip (b.map D.int)).map (·.1))=(a.map (·.1)).map Sum.inr:=λh=>List.map_fst_zip (by simp[h])
 have i:∀{a:List (Str×Nat)} {y:Str},(Sum.inr y:Key)∈(a.map (·.1)).map Sum.inr↔y∈a.map (·.1):=λ{a y}=>by
  constructor
  ·intro h
   obtain⟨z,p,e⟩:=Qkq.mp h
   cases e
   exact p
  ·exact λh=>Qkq.mpr ⟨y,h,rfl⟩
 have k:∀{a:List (Str×Nat)} {b:List Int} {y:Str},a.length=b.length->((Sum.inr y:Key)∈(d0 a b).map (·.1)↔y∈a.map (·.1)):=λ{a b y} hl=>by
  constructor
  ·intro h
   have:=Di h
   rcases this with h|h
   ·cases h
   ·rw[g hl] at h
    exact i.mp h
  ·exact dv hl
 by_cases c:x∈ts.map (·.1)
 ·rw[mi (by rw[g ls];exact λz=>l x c (i.mp z)),As (l':= []) ((k f).mpr c)]
  exact Fl.symm
 ·have r:x∈w.ak.map (·.1):=(mQa.mp j).resolve_left c
  rw[mi (m:=d0 ts vs) (λz=>c ((k f).mp z))]
  exact As (by rw[g ls];exact i.mpr r)
section
variable{lo:Nat}{S0 S:aE}{t:zB}{s:bE}{h i:Nat}{vs:List Int}{fs:List cz}{f:cz}{w:dE}{n:Nat}{sc:Sc}
def Go.hx(g:Go lo S0 S t s)(hs:s.af[h]?=some (vs,fs)):∃x,t.hs[h]?=some x:=⟨_,gQe (by rw[g.n.lh];exact(gQs.mp hs).1)⟩
def Go.rx{r:de}(g:Go lo S0 S t s)(a:s.aj[i]?=some r):∃x,t.rs[i]?=some x:=⟨_,gQe (by rw[g.n.lr];exact(gQs.mp a).1)⟩
section
variable{x:CB}(g:Go lo S0 S t s)(hx:t.hs[h]?=some x)(hs:s.af[h]?=some (vs,fs))
include g hx hs
def Go.ha:S[x.a]?=some (.lst [.ref x.v,.ref x.f]):=g.n.ho (x.a,_) (qJ (cJ hx hs) (mQa.mpr (.inl (by simp))))
def Go.hv:S[x.v]?=some (cQ vs):=g.n.ho (x.v,cQ vs) (qJ (cJ hx hs) (mQa.mpr (.inl (by simp))))
def Go.hf:S[x.f]?=some (.lst (x.fs.map D.ref)):=g.n.ho (x.f,_) (qJ (cJ hx hs) (mQa.mpr (.inl (by simp))))
def Go.hfs{j a:Nat}{f:cz}(b:x.fs[j]?=some a)(c:fs[j]?=some f):S[a]?=some (qW f):=g.n.ho (a,qW f) (qJ (cJ hx hs) (mQa.mpr (.inr (Qkq.mpr ⟨_,cJ b c,rfl⟩))))
def Go.lf:x.fs.length=fs.length:=g.n.lf _ (cJ hx hs)
def Go.last(b:fs.getLast? =some f):∃a,x.fs.getLast? =some a/\S[a]?=some (qW f):=by
 have l:=g.lf hx hs
 rw[List.getLast?_eq_getElem?] at b
 have c:=(gQs.mp b).1
 have e:x.fs.getLast? =x.fs[fs.length-1]? :=by rw[List.getLast?_eq_getElem?,l]
 rw[e]
 exact⟨_,gQe (by omega),g.hfs hx hs (gQe (by omega)) b⟩
end
def xI{xs:List Nat}{a:Nat}(h:xs.getLast? =some a):kj (xs.map D.ref) (-1)=some (.ref a):=wG (by rw[QfQ,h];rfl)
def vD{b:cB}{v:Nat}{x:CB}{Q:D->aE->Prop}(g:Go lo S0 S t s)(c:t.hs[h]?=some x)(hs:s.af[h]?=some (vs,fs))(e:b[1]?=some (some (.ref t.k)))(j:b[v]?=some (some (.int h)))(q:Q (.ref x.f) S):
  E (aQ fJ (aQ fJ (aQ fJ (ar 1) (cF (.int 3))) (ar v)) (cF (.int 1))) b S Q:=
 aY (aY (aY (aw e (cH (bL g.n.top (d:=.ref t.h) rfl (aw j (bL g.n.th (d:=.ref x.a) (aW (by rw[gQm,c];rfl)) (cH (bL (g.ha c hs) (d:=.ref x.f) rfl q)))))))))
def nU{b:cB}{v:Nat}{x:CB}{a:Nat}{Q:D->aE->Prop}(g:Go lo S0 S t s)(c:t.hs[h]?=some x)(hs:s.af[h]?=some (vs,fs))(d:x.fs.getLast? =some a)(e:b[1]?=some (some (.ref t.k)))(j:b[v]?=some (some (.int h)))(q:Q (.ref a) S):
  E (aQ fJ (aQ fJ (aQ fJ (aQ fJ (ar 1) (cF (.int 3))) (ar v)) (cF (.int 1))) (h_ (cF (.int 1)))) b S Q:=
 aY (vD g c hs e j (ke (cH ⟨1,rfl,bL (g.hf c hs) (xI d) q⟩)))
def EW{b:cB}{v:Nat}{x:CB}{Q:D->aE->Prop}(g:Go lo S0 S t s)(c:t.hs[h]?=some x)(hs:s.af[h]?=some (vs,fs))(e:b[1]?=some (some (.ref t.k)))(j:b[v]?=some (some (.int h)))(q:Q (.ref x.v) S):
  E (aQ fJ (aQ fJ (aQ fJ (ar 1) (cF (.int 3))) (ar v)) (cF (.int 0))) b S Q:=
 aY (aY (aY (aw e (cH (bL g.n.top (d:=.ref t.h) rfl (aw j (bL g.n.th (d:=.ref x.a) (aW (by rw[gQm,c];rfl)) (cH (bL (g.ha c hs) (d:=.ref x.v) rfl q)))))))))
def mG{b:cB}{x:FJ}{e:bH}{Q:D->aE->Prop}(g:Go lo S0 S t s)(j:t.rs[i]?=some x)(l:b[1]?=some (some (.ref t.k)))(he:E e b S λd c=>d=.int i/\c=S)(q:Q (.ref x.a) S):
  E (aQ fJ (aQ fJ (ar 1) (cF (.int 0))) e) b S Q:=by
 refine aY (aY (aw l (cH (bL g.n.top (d:=.ref t.r) rfl (he.mono λd c m=> ?_)))))
 obtain⟨rfl,rfl⟩:=m
 exact bL g.n.tr (d:=.ref x.a) (aW (by rw[gQm,j];rfl)) q
def hV{b:cB}{a j:Nat}{k v:Int}{f:cz}{Q:D->aE->Prop}(c:S[a]?=some (qW f))(d:b[j]?=some (some (.ref a)))(e:kj ([.int f.room,.int f.deed,.int f.row,.int f.given,.int f.told]:List D) k=some (.int v))(q:Q (.int v) S):E (aQ fJ (ar j) (cF (.int k))) b S Q:=
 aY (aw d (cH (bL c e q)))
def xR:∀a:Str×Nat,∃r,lP a=.tup (.str a.1::r):=λ_=>⟨_,rfl⟩
def KY:∀a:Str×Str,∃r,ze a=.tup (.str a.1::r):=λ_=>⟨_,rfl⟩
def Fk{r:Rm}{rs:de}(d:r.aa.length=rs.aa.length):bu [] (((r.aa.map (·.1)).map Sum.inr).zip (rs.aa.map λl=>D.int (l.length:Nat)))=xD r rs:=by
 unfold xD
 congr 1
 rw[QPq]
 generalize rs.aa=c at d⊢
 generalize r.aa=e at d⊢
 induction e generalizing c with
 |nil=>rfl
 | cons a e g=>
   cases c with
   |nil=>simp at d
   | cons b c=>
     have:=g c (by simpa using d)
     simp only[QDq,List.zip_cons_cons]
     rw[this]
     rfl
def xH{tr:Tr}{Q:Res->aE->Prop}(g:Go lo S0 S t s)(o:eW w)(x:di w n s)(hs:s.af[h]?=some (vs,fs))(Y:fs.getLast? =some f)(a2:yO w h f=some sc)(ht:D8 sc tr)(q:Q (.d (.int (cV w s h tr))) S):Fn cN [w.d,.ref t.k,.int h,tr.d] S Q:=by
 obtain⟨hd,F⟩:=g.hx hs
 obtain⟨a,ha,C⟩:=g.last F hs Y
 obtain⟨H,pr,Z,W⟩:=x.whand hs
 have o2:=o.hd _ (mQg Z)
 have fi:=W.fr f (QcQ Y)
 have b3:=o.l3
 have b4:H.length<=6:=o2.l1
 have ls:=x.ls
 have lv:=W.lv
 refine bZ ?_
 unfold kM
 refine aI (cK (nU g F hs ha rfl rfl ?_))
 refine aI (bP (cD (aY (hV C rfl (v:=f.room) rfl (cH (gq ?_))))))
 rcases fH a2 with⟨c,a5,a3,N,rfl⟩|⟨c,r,hr,rfl⟩
 ·rw[Z] at N
  cases N
  rw[c]
  refine u6 ?_
  refine aK (λ_=> ?_) (λz=>by cases z)
  have er:cV w s h tr=oa (numAt (qj w s H vs)) (λ_=>0) tr:=by unfold cV;rw[eO hs Y,Qhq c,zL Z,gG hs]
  rw[er] at q
  symm
  apply ay (d:=.tup (w.af.map eY)) rfl ?_
  refine ay (d:=eY (H,pr)) (aW (by rw[gQm,Z];rfl)) ?_
  symm
  apply ay (d:=.tup (H.map lP)) rfl ?_
  refine ay (d:=.tup (w.ak.map lP)) rfl ?_
  refine fo (by rw[lQm,lQm];exact QAq (show _<=12 by omega) (by decide)) ?_
  rw[←Qzq]
  refine aI (cK (dU (yj ?_)))
  refine bV (EW g F hs rfl rfl (a_ (g.hv F hs) ?_))
  refine bV (aY (aw rfl (cH (bL g.n.top (d:=.ref t.s) rfl (a_ g.n.ts ?_)))))
  refine⟨⟨rfl,rfl,g.hv F hs,by rw[lQm,lQm];exact QAq (show _<=12 by omega) (by decide)⟩,?_⟩
  rw[←Qzq]
  refine eV (cn (az (aw rfl (az (Fh (qH ?_))))))
  refine jQ (enc:=lP) (nm:=(·.1)) (xs:=H++w.ak) (tg:=.tu) xR (by rw[lQa];omega) (bV (aw rfl (cx ⟨rfl,rfl⟩))) trivial ?_
  refine bV (aw rfl (a_ aM ⟨(H++w.ak).map (·.1),rfl,⟨trivial,by simp only[lQm,lQa];omega⟩,?_⟩))
  refine az (N8 (aZ ?_))
  have b5:=ht.2
  refine rN (th:=numAt (qj w s H vs)) (wt:=λ_=>0) (ws:=H.map (·.1)++w.ak.map (·.1)) (bs:= []) (aO aM) aM (λy A=>G7 ls lv x.sv W.vv o2.dj A) (λb hb=>by cases hb) (λy A=> ?_) 5 tr ht.1 (by omega) ?_
  ·have B:jh (qj w s H vs):=jh.merge (dW x.sv) (dW W.vv)
   refine(g9 B (fm ?_)).2
   rcases mQa.mp A with A|A
   ·exact .inr (dv lv A)
   ·exact .inl (dv ls A)
  ·exact v5 rG.refl.app.app.app (λk z=>(nomatch z)) rfl q
 ·obtain⟨u,m,X⟩:=x.wroom hr
  have K:=o.rm r (mQg hr)
  have P:=gI fi c
  obtain⟨I,e⟩:=g.rx m
  have b5:=K.l1
  have b6:=K.l2
  have b7:=ht.2
  have a4:=X.lv
  have L:=X.lb
  refine aK (λz=>by have:=QZq z;omega) (λ_=>bX ?_)
  have er:cV w s h tr=oa (numAt (ix r u f.given)) (tm r u) tr:=by unfold cV;rw[eO hs Y,Quq c,ig hr,dM m]
  rw[er] at q
  generalize f.room.toNat=i at hr m e P
  have he:∀{Γ:cB} {S:aE},Γ[4]?=some (some (.ref a))->S[a]?=some (qW f)->E (aQ fJ (ar 4) (cF (.int 0))) Γ S λd J=>d=.int i/\J=S:=λh1 h2=>hV h2 h1 (v:=f.room) rfl ⟨by rw[P],rfl⟩
  refine aI (cK (aY (aY (aw rfl (cH (ay (d:=.tup (w.aj.map Rm.d)) rfl ((he rfl C).mono λd J hd=> ?_)))))))
  obtain⟨rfl,rfl⟩:=hd
  refine ay (d:=r.d) (aW (by rw[gQm,hr];rfl)) ?_
  refine aI (cK (Fh (qH ?_)))
  refine jQ (enc:=lP) (nm:=(·.1)) (xs:=r.ao) (tg:=.tu) xR (by omega) (bV (aY (aw rfl (cH (ay (d:=.tup (r.ao.map lP)) rfl (cx ⟨rfl,rfl⟩)))))) trivial ?_
  refine bV (aY (mG g e rfl (he rfl C) (cH (bL (g.ca e m) (d:=.ref I.v) rfl (a_ (g.cv e m) ⟨r.ao.map (·.1),rfl,⟨trivial,by simp only[lQm];omega⟩,?_⟩)))))
  refine aI (Od ?_)
  refine hV (aO C) rfl (v:=f.given) rfl ?_
  refine aw rfl (cH ⟨_,_,_,rfl,rfl,aM,?_,?_⟩)
  ·refine Nat.lt_of_le_of_lt (pE (l:= [])) ?_
   rw[List.length_zip,lQm,lQm,lQm]
   exact Nat.lt_of_le_of_lt (show _<=6 by simp;omega) (by decide)
  have gd:(J++ [O.dct (bu [] (((r.ao.map (·.1)).map Sum.inr).zip (u.vals.map D.int)))]).set J.length (.dct (ix r u f.given))=J++ [O.dct (ix r u f.given)]:=by simp
  have a0:putD (bu [] (((r.ao.map (·.1)).map Sum.inr).zip (u.vals.map D.int))) (.inr "given") (.int f.given)=ix r u f.given:=rfl
  rw[a0,gd]
  have M:=g.app (G:= [O.dct (ix r u f.given)])
  have R:(J++ [O.dct (ix r u f.given)])[a]?=some (qW f):=aO C
  refine aI (cK (dU ?_))
  refine iU (α:=Nat×List (Int×Int)) (λU=>∃a,U= [a]) (λp=>.ref p.1) (λp=>.int (p.2.length:Nat)) ⟨none,rfl⟩ ?_
  refine bV (aY (mG M e rfl (he rfl R) (cH (bL (M.ca e m) (d:=.ref I.b) rfl (a_ (M.cb e m) ?_)))))
  have lz:=g.lb e m
  refine⟨I.bs.zip u.aa,?_,M.cb e m,by rw[List.length_zip];omega,λp hp U a1=> ?_,?_⟩
  ·show I.bs.map D.ref=(I.bs.zip u.aa).map ((λk=>D.ref k)∘Prod.fst)
   rw[←QPq,List.map_fst_zip (by omega)]
  ·obtain⟨a',rfl⟩:=a1
   obtain⟨j,k1,k2⟩:=jH hp
   refine aV ⟨rfl,⟨_,rfl⟩,?_⟩
   refine xX (bV (aw rfl (a_ (M.cbs e m k1 k2) ⟨?_,rfl⟩)))
   rw[lQm]
  have eb:(I.bs.zip u.aa).map (λp=>D.int (p.2.length:Nat))=u.aa.map λl=>D.int (l.length:Nat):=by
   show(I.bs.zip u.aa).map ((λl:List (Int×Int)=>D.int (l.length:Nat))∘Prod.snd)=_
   rw[←QPq,List.map_snd_zip (by omega)]
  rw[eb]
  refine aI (cK (Fh (qH ?_)))
  refine jQ (enc:=ze) (nm:=(·.1)) (xs:=r.aa) (tg:=.tu) KY (by omega) (bV (aY (aw rfl (cH (ay (d:=.tup (r.aa.map ze)) rfl (cx ⟨rfl,rfl⟩)))))) trivial ?_
  refine bV (aw rfl (a_ aM ⟨r.aa.map (·.1),rfl,⟨trivial,by simp only[lQm];omega⟩,?_⟩))
  rw[Fk L]
  refine eV (cn (az (aw rfl (az (aw rfl (az (aw rfl (aZ ?_))))))))
  have B:jh (ix r u f.given):=(dW X.vv).put fi.gv.1 fi.gv.2
  have kk:∀y∈r.ao.map (·.1)++fF,(Sum.inr y:Key)∈(ix r u f.given).map (·.1):=λy A=>jU (by
   rcases mQa.mp A with A|A
   ·exact .inr (dv X.lv A)
   ·left
    rw[Qfq.mp A])
  refine rN (th:=numAt (ix r u f.given)) (wt:=tm r u) (ws:=r.ao.map (·.1)++fF) (bs:=r.aa.map (·.1)) (aO (aO aM)) aM (λy A=>(g9 B (kk y A)).1) (λb hb=>AM L hb) (λy A=>(g9 B (kk y A)).2) 5 tr ht.1 (by omega) ?_
  exact v5 rG.refl.app.app.app (λk z=>(nomatch z)) rfl q
end
end W28
namespace DL
open PySem PySem.Spec L2
def J1{n j:Nat}(h:j<n):CD n (j:Int)=some j:=by unfold CD;rw[Qhq (by omega),Qhq (by omega)];simp
def t_{b:cB}{S:aE}{f e:bH}{d:D}{k j:Nat}{ds:List D}{Q:cB->aE->Prop}(g:E f b S λx a=>x=.ref k/\a=S)(he:E e b S λy a=>y=.int j/\a=S)(h:S[k]?=some (.lst ds))(c:j<ds.length)(q:Q b (S.set k (.lst (ds.set j d)))):Tg (wO f e) d b S Q:=by
 refine Jy (g.mono λx a i=> ?_)
 obtain⟨rfl,rfl⟩:=i
 refine he.mono λy m l=> ?_
 obtain⟨rfl,rfl⟩:=l
 exact⟨_,_,_,_,rfl,rfl,h,J1 c,q⟩
end DL
namespace W28
open PySem PySem.Spec L2 DL
theorem qE{α c:Type}{f:α->List c}:∀{l:List α} {i:Nat} {a b:α},l[i]?=some a->(f b).Sublist (f a)->((l.set i b).flatMap f).Sublist (l.flatMap f)
 | [],_,_,_,h,_=>by simp at h
 | x::l,0,a,b,h,s=>by
   simp at h
   subst h
   rw[List.set_cons_zero,QSq,QSq]
   exact s.append (QjQ _)
 | x::l,i+1,a,b,h,s=>by
   rw[List.set_cons_succ,QSq,QSq]
   exact(QjQ _).append (qE (by simpa using h) s)
theorem oG{α c:Type}{f:α->List c}:∀{l:List α} {i:Nat} {a b:α} {n:c},l[i]?=some a->(f b).Perm (n::f a)->((l.set i b).flatMap f).Perm (n::l.flatMap f)
 | [],_,_,_,_,h,_=>by simp at h
 | x::l,0,a,b,n,h,s=>by
   simp at h
   subst h
   rw[List.set_cons_zero,QSq,QSq]
   exact s.append_right _
 | x::l,i+1,a,b,n,h,s=>by
   rw[List.set_cons_succ,QSq,QSq]
   exact((oG (by simpa using h) s).append_left (f x)).trans List.perm_middle
section
variable{lo:Nat}{S0 S:aE}{t:zB}{s:bE}{h i:Nat}{vs:List Int}{fs:List cz}{f:cz}{w:dE}{n:Nat}{sc:Sc}{Q:Res->aE->Prop}
def Go.all_lt(g:Go lo S0 S t s):∀a∈zX t,a<S.length:=λa o=>by
 rcases mQa.mp o with z|z
 ·simp only[Qsq,QXq,or_false] at z
  rcases z with rfl|rfl|rfl|rfl|rfl
  ·exact(gQs.mp g.n.top).1
  ·exact(gQs.mp g.n.tr).1
  ·exact(gQs.mp g.n.tp).1
  ·exact(gQs.mp g.n.ts).1
  ·exact(gQs.mp g.n.th).1
 ·rcases mQa.mp z with z|z
  ·obtain⟨x,b,z⟩:=QOq.mp z
   obtain⟨i,c,e⟩:=QbQ b
   have b:t.rs[i]?=some x:=by rw[gQe c,e]
   obtain⟨r,d⟩:∃r,s.aj[i]?=some r:=⟨_,gQe (by rw[←g.n.lr];exact c)⟩
   rcases mQa.mp z with z|z
   ·simp only[Qsq,QXq,or_false] at z
    rcases z with rfl|rfl|rfl|rfl|rfl
    ·exact(gQs.mp (g.ca b d)).1
    ·exact(gQs.mp (g.cv b d)).1
    ·exact(gQs.mp (g.cr b d)).1
    ·exact(gQs.mp (g.cl b d)).1
    ·exact(gQs.mp (g.cb b d)).1
   ·obtain⟨j,k,e⟩:=QbQ z
    exact(gQs.mp (g.cbs b d (j:=j) (by rw[gQe k,e]) (gQe (by rw[←g.lb b d];exact k)))).1
  ·rcases mQa.mp z with z|z
   ·obtain⟨x,b,z⟩:=QOq.mp z
    obtain⟨i,c,e⟩:=QbQ b
    have b:t.ps[i]?=some x:=by rw[gQe c,e]
    obtain⟨p,m⟩:∃p,s.ai[i]?=some p:=⟨_,gQe (by rw[←g.n.lp];exact c)⟩
    simp only[KD,Qsq,QXq,or_false] at z
    rcases z with rfl|rfl
    ·exact g.n.lt (wz (cJ b m) (QBq ..))
    ·exact g.n.lt (p:=(x.r,cQ p.2)) (wz (cJ b m) (Qpq _ (QBq ..)))
   ·obtain⟨x,b,z⟩:=QOq.mp z
    obtain⟨i,c,e⟩:=QbQ b
    have b:t.hs[i]?=some x:=by rw[gQe c,e]
    obtain⟨⟨vs,fs⟩,l⟩:∃p,s.af[i]?=some p:=⟨_,gQe (by rw[←g.n.lh];exact c)⟩
    rcases mQa.mp z with z|z
    ·simp only[Qsq,QXq,or_false] at z
     rcases z with rfl|rfl|rfl
     ·exact(gQs.mp (g.ha b l)).1
     ·exact(gQs.mp (g.hv b l)).1
     ·exact(gQs.mp (g.hf b l)).1
    ·obtain⟨j,k,e⟩:=QbQ z
     exact(gQs.mp (g.hfs b l (j:=j) (by rw[gQe k,e]) (gQe (by rw[←g.lf b l];exact k)))).1
section
variable{x:CB}(g:Go lo S0 S t s)(hx:t.hs[h]?=some x)(hs:s.af[h]?=some (vs,fs))
include g hx hs
def Go.hvals(a:List Int):Go lo S0 (S.set x.v (cQ a)) t {s with af:=s.af.set h (a,fs)}:=by
 have e:{t with hs:=t.hs.set h x}=t:=by rw[qZ hx]
 have j:=(gQs.mp (g.hv hx hs)).1
 have:=g.n.hand (x':=x) (r':=(a,fs)) (b:=x.v) (o:=cQ a) hx hs rfl (mQa.mpr (.inl (by simp))) (λp c d=>.inl (by
  rcases Qsq.mp c with z|c
  ·exact Qsq.mpr (.inl z)
  ·rcases Qsq.mp c with z|z
   ·rw[z] at d;exact absurd rfl d
   ·exact Qpq _ (Qpq _ z))) j (g.lf hx hs) (by rw[e];exact g.n.nd) (by rw[e];exact g.n.lo)
 rw[e] at this
 exact⟨this,g.k.put (g.n.lo _ (EI hx (by simp[AJ]))),g.l⟩
def Go.frame{a:Nat}(r:x.fs.getLast? =some a)(u:fs.getLast? =some f)(f':cz):Go lo S0 (S.set a (qW f')) t {s with af:=s.af.set h (vs,fs.dropLast++ [f'])}:=by
 have e:{t with hs:=t.hs.set h x}=t:=by rw[qZ hx]
 have l:=g.lf hx hs
 have A:x.fs=x.fs.dropLast++ [a]:=fO r
 have C:=fO u
 have F:x.fs.dropLast.length=fs.dropLast.length:=by rw[List.length_dropLast,List.length_dropLast,l]
 obtain⟨b,y,q⟩:=g.last hx hs u
 rw[r] at y
 cases y
 have B:=(gQs.mp q).1
 have c:x.fs.length=(fs.dropLast++ [f']).length:=by
  have G:0<x.fs.length:=by rw[A];simp
  rw[lQa,List.length_dropLast,←l]
  simp
  omega
 have j:∀d,(x.fs.zip (fs.dropLast++ [d])).map (λp=>((p.1,qW p.2):Cell))=(x.fs.dropLast.zip fs.dropLast).map (λp=>(p.1,qW p.2))++ [(a,qW d)]:=λd=>by
  conv=>lhs;rw[A]
  rw[List.zip_append F,Qzq]
  rfl
 have:=g.n.hand (x':=x) (r':=(vs,fs.dropLast++ [f'])) (b:=a) (o:=qW f') hx hs rfl (by
   unfold wQ
   rw[j]
   simp) (λp m v=>.inl (by
  unfold wQ at m⊢
  rw[j] at m
  rw[C,j]
  rcases mQa.mp m with z|z
  ·exact mQa.mpr (.inl z)
  ·rcases mQa.mp z with z|z
   ·exact mQa.mpr (.inr (mQa.mpr (.inl z)))
   ·rw[Qfq.mp z] at v;exact absurd rfl v)) B c (by rw[e];exact g.n.nd) (by rw[e];exact g.n.lo)
 rw[e] at this
 exact⟨this,g.k.put (g.n.lo _ (EI hx (mQa.mpr (.inr (QcQ r))))),g.l⟩
def Go.pop(e:0<fs.length):Go lo S0 (S.set x.f (.lst (x.fs.dropLast.map D.ref))) {t with hs:=t.hs.set h {x with fs:=x.fs.dropLast}} {s with af:=s.af.set h (vs,fs.dropLast)}:=by
 have o:=(gQs.mp (g.hf hx hs)).1
 have l:=g.lf hx hs
 have b:(zX {t with hs:=t.hs.set h {x with fs:=x.fs.dropLast}}).Sublist (zX t):=(QjQ _).append ((QjQ _).append ((QjQ _).append (qE hx ((QjQ _).append (List.dropLast_sublist _)))))
 have v:∀p∈(x.fs.dropLast.zip fs.dropLast).map (λp=>((p.1,qW p.2):Cell)),p∈(x.fs.zip fs).map λp=>(p.1,qW p.2):=λp e=>by
  obtain⟨q,r,rfl⟩:=Qkq.mp e
  obtain⟨j,d,c⟩:=jH r
  refine Qkq.mpr ⟨q,cJ (i:=j) ?_ ?_,rfl⟩
  ·rw[List.getElem?_dropLast] at d
   split at d
   ·exact d
   ·cases d
  ·rw[List.getElem?_dropLast] at c
   split at c
   ·exact c
   ·cases c
 refine⟨g.n.hand (x':={x with fs:=x.fs.dropLast}) (r':=(vs,fs.dropLast)) hx hs rfl (mQa.mpr (.inl (by simp))) (λp e m=>.inl ?_) o (by show x.fs.dropLast.length=fs.dropLast.length;rw[List.length_dropLast,List.length_dropLast,l]) (b.nodup g.n.nd) (λa u=>g.n.lo a (b.mem u)),g.k.put (g.n.lo _ (EI hx (by simp[AJ]))),g.l⟩
 rcases mQa.mp e with z|z
 ·refine mQa.mpr (.inl ?_)
  simp only[Qsq,QXq,or_false] at z⊢
  rcases z with z|z|z
  ·exact .inl z
  ·exact .inr (.inl z)
  ·rw[z] at m;exact absurd rfl m
 ·exact mQa.mpr (.inr (v p z))
def Go.push(f':cz):Go lo S0 ((S++ [qW f']).set x.f (.lst ((x.fs++ [S.length]).map D.ref))) {t with hs:=t.hs.set h {x with fs:=x.fs++ [S.length]}} {s with af:=s.af.set h (vs,fs++ [f'])}:=by
 have c:=g.app (G:= [qW f'])
 have m:=(gQs.mp (c.hf hx hs)).1
 have l:=g.lf hx hs
 have e:(zX {t with hs:=t.hs.set h {x with fs:=x.fs++ [S.length]}}).Perm (S.length::zX t):=by
  unfold zX
  refine((List.Perm.append_left _ (List.Perm.append_left _ (List.Perm.append_left _ (oG (n:=S.length) hx ?_)))).trans ?_)
  ·show([x.a,x.v,x.f]++(x.fs++ [S.length])).Perm (S.length::([x.a,x.v,x.f]++x.fs))
   rw[←Qvq]
   simpa using List.perm_middle (l₁:= [x.a,x.v,x.f]++x.fs) (a:=S.length) (l₂:= [])
  ·refine(List.Perm.append_left _ ((List.Perm.append_left _ List.perm_middle).trans List.perm_middle)).trans List.perm_middle
 have o:S.length∉zX t:=λz=>by
  have:∀a∈zX t,a<S.length:=λa b=>g.all_lt a b
  exact absurd (this _ z) (Nat.lt_irrefl _)
 have q:(({x with fs:=x.fs++ [S.length]}:CB).fs.zip (fs++ [f'])).map (λp=>((p.1,qW p.2):Cell))=(x.fs.zip fs).map (λp=>(p.1,qW p.2))++ [(S.length,qW f')]:=by
  show((x.fs++ [S.length]).zip (fs++ [f'])).map _=_
  rw[List.zip_append l,Qzq]
  rfl
 refine⟨c.n.hand (x':={x with fs:=x.fs++ [S.length]}) (r':=(vs,fs++ [f'])) hx hs rfl (mQa.mpr (.inl (by simp))) (λp d j=> ?_) m (by simp[l]) (e.nodup_iff.mpr (List.nodup_cons.mpr ⟨o,g.n.nd⟩)) (λa b=> ?_),c.k.put (g.n.lo _ (EI hx (by simp[AJ]))),g.l⟩
 ·unfold wQ at d
  rw[q] at d
  rcases mQa.mp d with z|z
  ·refine .inl (mQa.mpr (.inl ?_))
   simp only[Qsq,QXq,or_false] at z⊢
   rcases z with z|z|z
   ·exact .inl z
   ·exact .inr (.inl z)
   ·rw[z] at j;exact absurd rfl j
  ·rcases mQa.mp z with z|z
   ·exact .inl (mQa.mpr (.inr z))
   ·rw[Qfq.mp z]
    exact .inr aM
 ·rcases Qsq.mp (e.mem_iff.mp b) with rfl|b
  ·have:=g.k.len
   have:=g.l
   omega
  ·exact g.n.lo a b
end
end
section
variable{lo:Nat}{S0 S:aE}{t:zB}{s:bE}{h i:Nat}{vs:List Int}{fs:List cz}{f:cz}{w:dE}{n:Nat}{sc:Sc}{Q:Res->aE->Prop}
def wL{a:List Int}{j:Nat}{v:Int}:(a.map D.int).set j (.int v)=(a.set j v).map D.int:=by rw[List.map_set]
def Ht{y:Str}{v:Int}(g:Go lo S0 S t s)(o:eW w)(x:di w n s)(hs:s.af[h]?=some (vs,fs))(H:fs.getLast? =some f)(N:yO w h f=some sc)(G:y∈sc.ps)(q:∀P,Go lo S0 P t (mV w s h y v)->Q (.d .non) P):Fn jZ [w.d,.ref t.k,.int h,.str y,.int v] S Q:=by
 obtain⟨Z,e⟩:=g.hx hs
 obtain⟨a,ha,B⟩:=g.last e hs H
 obtain⟨p,pr,I,R⟩:=x.whand hs
 have o2:=o.hd _ (mQg I)
 have fi:=R.fr f (QcQ H)
 have b3:=o.l3
 have b4:p.length<=6:=o2.l1
 have ls:=x.ls
 have lv:=R.lv
 refine B5 ?_
 unfold rQ
 refine aI (cK (nU g e hs ha rfl rfl ?_))
 refine bP (cD (aY (hV B rfl (v:=f.room) rfl (cH (gq ?_)))))
 rcases fH N with⟨c,a2,a0,C,rfl⟩|⟨c,r,hr,rfl⟩
 ·rw[I] at C
  cases C
  refine aK (λz=>by have:=QZq z;omega) (λ_=> ?_)
  have K:mV w s h y v=mT w s h p vs fs y v:=by unfold mV;rw[eO hs H,Qhq c,zL I,gG hs]
  rw[K] at q
  unfold mT at q
  have W:∀{u:cB} {Q:D->aE->Prop},u[0]?=some (some w.d)->u[2]?=some (some (.int h))->Q (.tup (p.map lP)) S->E (aQ fJ (aQ fJ (aQ fJ (ar 0) (cF (.int 3))) (ar 2)) (cF (.int 0))) u S Q:=λL h2 q=>by
   refine aY (aY (aY (aw L (cH (ay (d:=.tup (w.af.map eY)) rfl (aw h2 (ay (d:=eY (p,pr)) (aW (by rw[gQm,I];rfl)) (cH (ay (d:=.tup (p.map lP)) rfl q)))))))))
  refine bP (cD (yK (aw rfl (qH (jQ (enc:=lP) (nm:=(·.1)) (xs:=p) (tg:=.tu) xR (by omega) (bV (W rfl rfl (cx ⟨rfl,rfl⟩))) trivial ?_)))))
  refine⟨_,_,rfl,gK _,?_⟩
  rw[Au]
  refine aK (λz=> ?_) (λz=> ?_)
  ·have z:y∈p.map (·.1):=QZq z
   have A:=(iQ z).1
   rw[lQm] at A
   rw[Quq (o2.dj y z)] at q
   refine uh (aw rfl (t_ (j:=fB (p.map (·.1)) y) (EW g e hs rfl rfl ⟨rfl,rfl⟩) ?_ (g.hv e hs) (by rw[lQm];omega) ?_))
   ·refine cn (az (W rfl rfl (az (aw rfl (aZ ?_)))))
    exact nO xR (by omega) z ⟨rfl,rfl⟩
   ·rw[wL]
    exact q _ (g.hvals e hs _)
  ·have z:y∉p.map (·.1):=QaQ z
   have J:y∈w.ak.map (·.1):=(mQa.mp G).resolve_left z
   have A:=(iQ J).1
   rw[lQm] at A
   rw[Qhq J] at q
   refine uh (aw rfl (t_ (j:=fB (w.ak.map (·.1)) y) (aY (aw rfl (cH (bL g.n.top (d:=.ref t.s) rfl ⟨rfl,rfl⟩)))) ?_ g.n.ts (by rw[lQm];omega) ?_))
   ·refine cn (az (aY (aw rfl (cH (ay (d:=.tup (w.ak.map lP)) rfl (az (aw rfl (aZ ?_))))))))
    exact nO xR (by omega) J ⟨rfl,rfl⟩
   ·rw[wL]
    exact q _ ⟨g.n.share,g.k.put (g.n.lo _ (by simp[zX])),g.l⟩
 ·obtain⟨Y,b,ri⟩:=x.wroom hr
  have M:=o.rm r (mQg hr)
  have F:=gI fi c
  obtain⟨rx,m⟩:=g.rx b
  have b5:=M.l1
  have a1:=ri.lv
  refine aK (λ_=> ?_) (λz=>by have:=QaQ z;omega)
  have K:mV w s h y v=eg s f.room.toNat {Y with vals:=eM (r.ao.map (·.1)) Y.vals y v}:=by unfold mV;rw[eO hs H,Quq c,ig hr,dM b]
  rw[K] at q
  generalize f.room.toNat=i at hr b m F q
  have X:∀{u:cB},u[5]?=some (some (.ref a))->E (aQ fJ (ar 5) (cF (.int 0))) u S λd U=>d=.int i/\U=S:=λL=>hV B L (v:=f.room) rfl ⟨by rw[F],rfl⟩
  have G:y∈r.ao.map (·.1):=G
  have A:=(iQ G).1
  rw[lQm] at A
  refine uh (aw rfl (t_ (j:=fB (r.ao.map (·.1)) y) (aY (mG g m rfl (X rfl) (cH (bL (g.ca m b) (d:=.ref rx.v) rfl ⟨rfl,rfl⟩)))) ?_ (g.cv m b) (by rw[lQm];omega) ?_))
  ·refine cn (az (aY (aY (aY (aw rfl (cH (ay (d:=.tup (w.aj.map Rm.d)) rfl ((X rfl).mono λd U Z=> ?_))))))))
   obtain⟨rfl,rfl⟩:=Z
   refine ay (d:=r.d) (aW (by rw[gQm,hr];rfl)) (cH (ay (d:=.tup (r.ao.map lP)) rfl (az (aw rfl (aZ ?_)))))
   exact nO xR (by omega) G ⟨rfl,rfl⟩
  ·rw[wL]
   exact q _ (g.vals m b _)
def sV{a:Nat}{pr:List Rw}(g:S[a]?=some (qW f))(o:progOf w h f=some pr)(q:Q (.d (.tup (pr.map Rw.d))) S):Fn fI [w.d,.int h,.ref a] S Q:=by
 refine bZ ?_
 unfold jF
 refine aI (bP (cD (aY (hV g rfl (v:=f.room) rfl (cH (gq ?_))))))
 have b:Op (settle S (.tup (pr.map Rw.d)) S) λp=>Q p.1 p.2:=cW (λk z=>(nomatch z)) (vL pr) q
 rcases i7 o with⟨c,y,e⟩|⟨i,j,r,u,e,x,l,m⟩
 ·rw[c]
  apply u6 (aK (λ_=> ?_) (λz=>by cases z))
  apply ay (d:=.tup (w.af.map eY)) rfl ?_
  refine ay (d:=eY (y,pr)) (aW (by rw[gQm,e];rfl)) ?_
  symm
  refine ay (d:=.tup (pr.map Rw.d)) rfl ?_
  exact b
 ·refine aK (λz=>by have:=QZq z;omega) (λ_=>bX ?_)
  refine eV (aY (aY (aY (aY (aY (aw rfl (cH (ay (d:=.tup (w.aj.map Rm.d)) rfl (hV g rfl (v:=f.room) rfl ?_)))))))))
  rw[e]
  refine ay (d:=r.d) (aW (by rw[gQm,l];rfl)) (cH (ay (d:=.tup (r.ae.map g7)) rfl (hV g rfl (v:=f.deed) rfl ?_)))
  rw[x]
  refine ay (d:=g7 (u,pr)) (aW (by rw[gQm,m];rfl)) (cH (ay (d:=.tup (pr.map Rw.d)) rfl ?_))
  exact b
section
variable{x:GB}{p:Int×List Int}(g:Go lo S0 S t s)(hx:t.ps[i]?=some x)(hp:s.ai[i]?=some p)
include g hx hp
def Go.pa:S[x.a]?=some (.lst [.int p.1,.ref x.r]):=g.n.ho (x.a,_) (wz (cJ hx hp) (QBq ..))
def Go.pr:S[x.r]?=some (cQ p.2):=g.n.ho (x.r,cQ p.2) (wz (cJ hx hp) (Qpq _ (QBq ..)))
end
end
structure Rn(rs:de):Prop where
 w: -1<=rs.within
 r:∀x∈rs.row,0<=x
 l:∀x∈rs.ag,0<=x
 b:∀l∈rs.aa,∀p∈l,0<=p.2
def Nn(s:bE):Prop:=∀r∈s.aj,Rn r
section
variable{s:bE}{h i:Nat}{r:de}{w:dE}
def Nn.at(x:Nn s):Rn (CC s i):=by
 unfold CC
 cases e:s.aj[i]? with
 |some r=>exact x r (mQg e)
 |none=>exact⟨by decide,λx a=>(nomatch a),λx a=>(nomatch a),λx a=>(nomatch a)⟩
def Nn.set(x:Nn s)(y:Rn r):Nn (eg s i r):=λq a=>by
 rcases QTq a with a|rfl
 ·exact x q a
 ·exact y
def Rn.come(x:Rn r):Rn (gD r h):=by
 unfold gD
 split
 ·exact⟨by show(-1:Int)<=h;omega,x.r,x.l,x.b⟩
 ·exact⟨x.w,λy a=>by
   rcases mQa.mp a with a|a
   ·exact x.r y a
   ·rw[Qfq.mp a];omega,x.l,x.b⟩
def Rn.leave(x:Rn r):Rn (dt r):=by
 obtain⟨f,c,e,g,j⟩:=r
 cases g with
 | cons a l=>
   have:=x.l a (QBq ..)
   exact⟨by show(-1:Int)<=a;omega,x.r,λy d=>x.l y (Qpq _ d),x.b⟩
 | nil=>
   cases e with
   | cons a l=>
     have:=x.r a (QBq ..)
     exact⟨by show(-1:Int)<=a;omega,λy d=>x.r y (Qpq _ d),x.l,x.b⟩
   |nil=>exact⟨by show(-1:Int)<= -1;omega,x.r,x.l,x.b⟩
def Rn.line{b:Nat}{l:List (Int×Int)}(x:Rn r)(c:∀p∈l,0<=p.2):Rn {r with aa:=r.aa.set b l}:=⟨x.w,x.r,x.l,λk a=>by
 rcases QTq a with a|rfl
 ·exact x.b k a
 ·exact c⟩
def Rn.wait{rm:Rm}{b:Str}{v:Int}(x:Rn r):Rn (A4 rm r b v h):=by
 unfold A4
 refine(x.line λp a=> ?_).leave
 have c:∀p∈(r.aa[fB (rm.aa.map (·.1)) b]?).getD [],0<=p.2:=λp a=>by
  cases e:r.aa[fB (rm.aa.map (·.1)) b]? with
  |none=>rw[e] at a;cases a
  |some l=>rw[e] at a;exact x.b l (mQg e) p a
 unfold ue at a
 rcases mQa.mp a with a|a
 ·rcases mQa.mp a with a|a
  ·exact c p (List.mem_of_mem_take a)
  ·rw[Qfq.mp a];show(0:Int)<=h;omega
 ·exact c p (List.mem_of_mem_drop a)
def Rn.call{d:Bool}{b:Nat}(x:Rn r):Rn (lU d r b h):=by
 unfold lU
 split
 ·rename_i p l e
  have c:=x.b _ (mQg e)
  have y:=x.line (b:=b) (l:=l) λq f=>c q (Qpq _ f)
  split
  ·exact y
  ·have:=c p (QBq ..)
   exact⟨by show(-1:Int)<=p.2;omega,y.r,λz a=>by
    rcases mQa.mp a with a|a
    ·exact x.l z a
    ·rw[Qfq.mp a];omega,y.b⟩
 ·exact x
def Nn.put{y:Str}{v:Int}(x:Nn s):Nn (mV w s h y v):=by
 unfold mV
 split
 ·unfold mT
  split <;>exact x
 ·have:=x.at (i:=(jM s h).room.toNat)
  exact x.set ⟨this.w,this.r,this.l,this.b⟩
def Nn.does(x:Nn s)(r:Rw):Nn (lO w s h r):=by
 cases r with
 |put y t=>exact x.put
 | unl t n=>
   simp only[lO]
   split <;>exact x
 |do_ g d c t=>exact Nn.set (s:={s with af:=s.af.set h _}) x x.at.come
 |wait b t=>exact x.set x.at.wait
 |call b=>exact x.set x.at.call
 |all b=>exact x.set (x.at.line λp a=>by cases a)
 |_=>exact x
def Nn.step(x:Nn s):Nn (eQ w s h).1:=by
 have a:Nn (lQ s h):=Nn.set (s:={s with af:=s.af.set h _}) x x.at.leave
 unfold eQ
 split
 ·exact x.set x.at.come
 ·split
  ·exact x
  ·split
   ·show Nn (qI w s h)
    unfold qI
    split
    ·exact a.put
    ·exact a
   ·split
    ·exact x
    ·exact Nn.does (s:=iA s h) x _
end
end W28
namespace DL
open PySem PySem.Spec L2
def Mo{ds:List D}{y:D}{k:Nat}{Q:List D×D->Prop}(b:k<=ds.length)(a:ds.length<999)(q:Q (ds.take k++y::ds.drop k,.non)):Op (FZ ds [.int (k:Nat),y]) Q:=⟨_,by unfold FZ;exact Qhq ⟨by omega,by omega,by omega,bq (by omega)⟩,q⟩
end DL
namespace W28
open PySem PySem.Spec L2 DL
section
variable{lo:Nat}{S0 S:aE}{t:zB}{s:bE}{h i:Nat}{vs:List Int}{fs:List cz}{f:cz}{w:dE}{n:Nat}{sc:Sc}{Q:Res->aE->Prop}
def HB{l:List (Int×Int)}{u k:Int}:(l.map pairD).take (l.filter λp=>decide (p.1<=u)).length++pairD (u,k)::(l.map pairD).drop (l.filter λp=>decide (p.1<=u)).length=(ue l u k).map pairD:=by
 unfold ue
 rw[Qzq,Qzq,List.map_take,List.map_drop]
 simp
def uU{a:cB}{r:Rm}{k:Nat}{e:bH}{R:D->aE->Prop}(j:w.aj[i]?=some r)(c:a[0]?=some (some w.d))(he:E e a S λd b=>d=.int i/\b=S)(q:R r.d S):E (aQ fJ (aQ fJ (ar 0) (cF (.int 0))) e) a S R:=by
 refine aY (aY (aw c (cH (ay (d:=.tup (w.aj.map Rm.d)) rfl (he.mono λd b g=> ?_)))))
 obtain⟨rfl,rfl⟩:=g
 exact ay (d:=r.d) (aW (by rw[gQm,j];rfl)) q
def zp{r:Rw}{y:Str}{rm:Rm}{rs:de}(g:Go lo S0 S t s)(o:eW w)(x:di w n s)(hn:n<=100)(hs:s.af[h]?=some (vs,fs))(hf:fs.getLast? =some f)(U:yO w h f=some sc)(a1:f.room=i)(B:w.aj[i]?=some rm)(A:s.aj[i]?=some rs)(hy:y∈rm.aa.map (·.1))
  (C:match r with|.wait z tr=>z=y/\D8 sc tr|.call z=>z=y|.all z=>z=y|_=>False) (q:∀S',Go lo S0 S' t (lO w s h r)->Q (.d .non) S'):Fn kI [w.d,.ref t.k,.int h,r.d] S Q:=by
 obtain⟨hd,R⟩:=g.hx hs
 obtain⟨a,ha,a0⟩:=g.last R hs hf
 obtain⟨rx,v⟩:=g.rx A
 have Z:=x.rm i rm rs B A
 have N:=o.rm rm (mQg B)
 have ti:f.room.toNat=i:=by omega
 have e2:=eO hs hf
 have b6:=N.l2
 have lb:=Z.lb
 have lz:=g.lb v A
 have br:=Z.br
 have bl:=Z.bl
 obtain⟨k1,k2⟩:=iQ hy
 rw[lQm] at k1
 rw[gQm] at k2
 obtain⟨⟨X,M⟩,k3,k4⟩:=oQm.mp k2
 have k4:X=y:=k4
 subst k4
 generalize hb:fB (rm.aa.map (·.1)) X=b at k1 k3
 obtain⟨m,J⟩:∃l,rs.aa[b]?=some l:=⟨_,gQe (by omega)⟩
 obtain⟨ba,F⟩:∃a,rx.bs[b]?=some a:=⟨_,gQe (by omega)⟩
 have ll:=Z.bb m (mQg J)
 have H:=g.cbs v A F J
 obtain⟨rk,L⟩:=r.d_kind
 have Y:kj (.str r.kind::rk) (1:Int)=some (.str X):=by
  cases r <;>first|exact C.elim|skip
  all_goals (cases L)
  ·rw[C.1];rfl
  ·rw[C];rfl
  ·rw[C];rfl
 refine B5 ?_
 unfold pF
 refine aI (cK (aY (nU g R hs ha rfl rfl (cH (bL a0 (d:=.int f.room) rfl ?_)))))
 rw[a1]
 refine aI (cK (mG g v rfl (aw rfl ⟨rfl,rfl⟩) ?_))
 refine aI (cK (cn (az (aY (uU (k:=0) B rfl (aw rfl ⟨rfl,rfl⟩) (cH (ay (d:=.tup (rm.aa.map ze)) rfl (az (aY (aw rfl (cH ?_)))))))))))
 rw[L]
 refine ay Y (aZ ?_)
 rw[←L]
 refine nO KY (by omega) hy ?_
 rw[hb]
 refine aI (cK (aY (aY (aw rfl (cH (bL (g.ca v A) (d:=.ref rx.b) rfl (aw rfl (bL (g.cb v A) (d:=.ref ba) (aW (by rw[gQm,F];rfl)) ?_))))))))
 cases r with
 | wait z tr=>
   obtain⟨rfl,ht⟩:=C
   obtain⟨hv,_⟩:=lF o x hs hf U ht
   refine bP (iz (a:="wait") rfl ?_)
   refine aK (λ_=> ?_) (λc=>absurd (QaQ c) (by simp))
   refine aI (cK (aY (cn (az (aw rfl (az (aw rfl (az (aw rfl (az (aY (aw rfl (cH (ay (d:=tr.d) rfl (aZ ?_)))))))))))))))
   refine xH g o x hs hf U ht ?_
   refine AH (az (aY (aY (aY (aY (uU (k:=0) B rfl (aw rfl ⟨rfl,rfl⟩) (cH (ay (d:=.tup (rm.aa.map ze)) rfl (aw rfl (ay (d:=ze (z,M)) (aW (by rw[gQm,k3];rfl)) (cH (ay (d:=.str M) rfl (cH (gE (aZ (g_ ?_))))))))))))))))
   have em:∀k:Int,0<=k/\k<=1->I0 (cV w s h tr) k:=λk hk=>.inr ⟨by omega,by omega⟩
   refine wF (em _ (by split <;>omega)) ?_
   have et:cV w s h tr*(if decide (M="turns")=true then(1:Int) else 0)=if M="turns" then cV w s h tr else 0:=by by_cases c:M="turns" <;>simp[c]
   rw[et]
   generalize hu:(if M="turns" then cV w s h tr else 0)=u
   refine aI (d_ (fK (aw rfl ⟨_,_,rfl,H,az (xX (qH ?_))⟩)))
   refine nN (α:=Int×Int) (λW=>∃a,W= [a,some (.int u)]) pairD pairD (λp=>decide (p.1<=u)) ⟨none,rfl⟩ ?_
   refine j2 (bV (aw rfl (a_ H ⟨m,rfl,H,by omega,λp hp W a2=> ?_,?_⟩)))
   · obtain⟨a',rfl⟩:=a2
     refine aV ⟨rfl,⟨_,rfl⟩,?_⟩
     refine cD (aY (aY (aw rfl (cH (ay (d:=.int p.1) rfl (aw rfl (gq ⟨rfl,rfl,λ_=>aw rfl ⟨rfl,rfl⟩⟩)))))))
   have lf:=List.length_filter_le (λp:Int×Int=>decide (p.1<=u)) m
   refine az (tN (az (aw rfl (az (aw rfl (aZ ⟨by show 2<=_;decide,aZ ⟨_,H,?_⟩⟩))))))
   dsimp only[a9,aN,a7,bR,bU,eZ]
   rw[lQm]
   refine Mo (by rw[lQm];omega) (by rw[lQm];omega) ?_
   · show T _ _ (S.set ba (.lst ((m.map pairD).take (m.filter λp=>decide (p.1<=u)).length++pairD (u,h)::(m.map pairD).drop (m.filter λp=>decide (p.1<=u)).length))) _
     rw[HB]
     have P:=g.bell v A F J (ue m u h)
     have G:=nF (r1:={rs with aa:=rs.aa.set b (ue m u h)}) A
     refine d_ (cn (az (aw rfl (aZ ?_))))
     refine tH P v G (by show rs.row.length<900;omega) (by show rs.ag.length<900;omega) λS' K=>q _ ?_
     have e:lO w s h (.wait z tr)=eg s i (dt {rs with aa:=rs.aa.set b (ue m u h)}):=by simp only[lO,A4,e2,ti,ig B,dM A,hb,J,k3,Option.getD_some,hu]
     rw[e]
     rw[jc] at K
     exact K
 | all z=>
   have C:z=X:=C
   subst C
   refine bP (iz (a:="all") rfl ?_)
   refine aK (λc=>absurd (QZq c) (by decide +kernel)) (λ_=> ?_)
   refine bP (iz (a:="all") rfl ?_)
   refine aK (λ_=> ?_) (λc=>absurd (QaQ c) (by simp))
   refine d_ (fK (aw rfl ⟨_,_,rfl,H,aZ ⟨_,H,⟨([],.non),rfl,?_⟩⟩⟩))
   have e:lO w s h (.all z)=eg s i {rs with aa:=rs.aa.set b []}:=by simp only[lO,e2,ti,ig B,dM A,hb]
   rw[e] at q
   exact q _ (g.bell v A F J [])
 | call z=>
   have C:z=X:=C
   subst C
   have e:lO w s h (.call z)=eg s i (lU (decide (rm.ah="when free")) rs b h):=by simp only[lO,e2,ti,ig B,dM A,hb]
   rw[e] at q
   unfold lU at q
   rw[J] at q
   refine bP (iz (a:="call") rfl ?_)
   refine aK (λc=>absurd (QZq c) (by decide +kernel)) (λ_=> ?_)
   refine bP (iz (a:="call") rfl ?_)
   refine aK (λc=>absurd (QZq c) (by decide +kernel)) (λ_=> ?_)
   refine bP (cD (qw (bV (aw rfl (a_ H ⟨⟨rfl,H⟩,?_⟩)))))
   have gb:=g.bell v A F J
   cases m with
   | nil=>
     refine u6 (aK (λc=>by cases c) (λ_=>bX ?_))
     have e0:eg s i rs=s:=by unfold eg;rw[qZ A]
     simp only[e0] at q
     exact q _ g
   | cons p l=>
     refine u6 (aK (λ_=> ?_) (λc=>by cases c))
     refine aI (cK (fK (aw rfl ⟨_,_,rfl,H,az (cH (aZ ⟨_,H,yM ?_ ?_⟩))⟩)))
     · have P:=gb l
       have G:=nF (r1:={rs with aa:=rs.aa.set b l}) A
       refine bP (cD (aY (aY (uU (k:=0) B rfl (aw rfl ⟨rfl,rfl⟩) (cH (ay (d:=.str rm.ah) rfl (cH (gE ?_))))))))
       simp only at q
       refine aK (λc=> ?_) (λc=> ?_)
       · have c:rm.ah="at once":=QZq c
         rw[Quq (by rw[c];decide +kernel)] at q
         refine aI (uh (aY (aw rfl (cH (ay (d:=.int p.2) rfl ?_)))))
         refine t_ (j:=1) (aw rfl ⟨rfl,rfl⟩) (cH ⟨rfl,rfl⟩) (P.ca v G) (by simp) ?_
         have K:=P.within v G p.2
         have I:=nF (r1:={rs with aa:=rs.aa.set b l,within:=p.2}) G
         refine d_ (fK (aY (aw rfl (cH (bL (K.ca v I) (d:=.ref rx.l) rfl ⟨_,_,rfl,K.cl v I,az (aw rfl (aZ ⟨_,K.cl v I,jw (by rw[lQm];show rs.ag.length<999;omega) ?_⟩))⟩)))))
         have g3:=K.ag v I (rs.ag++ [(h:Int)])
         rw[jc,jc] at g3
         unfold cQ at g3
         rw[Qzq] at g3
         exact q _ g3
       · have c:rm.ah≠"at once":=QaQ c
         have c2:=N.mn.resolve_left c
         rw[Qhq (Qeq c2)] at q
         exact bX (q _ P)
     · rw[lQm];simp at ll;omega
 |_=>exact C.elim
end
section
variable{lo:Nat}{S0 S:aE}{t:zB}{s:bE}{h i:Nat}{vs:List Int}{fs:List cz}{f:cz}{w:dE}{n:Nat}{sc:Sc}{Q:Res->aE->Prop}
theorem qK{α b:Type}{f:α->List b}:∀{l:List α} {a:α},a∈l->(f a).Sublist (l.flatMap f)
 | x::l,a,h=>by
   rw[QSq]
   rcases Qsq.mp h with rfl|h
   · exact List.sublist_append_left ..
   · exact(qK h).trans (List.sublist_append_right ..)
def Go.nf{x:CB}(g:Go lo S0 S t s)(c:t.hs[h]?=some x):x.f∉x.fs:=λz=>by
 have a:(AJ x).Sublist (zX t):=((qK (f:=AJ) (mQg c)).trans (List.sublist_append_right ..)).trans ((List.sublist_append_right ..).trans (List.sublist_append_right ..))
 have b:=a.nodup g.n.nd
 unfold AJ at b
 exact(List.nodup_append.mp b).2.2 x.f (by simp) x.f z rfl
def LQ{rs:de}{j:List cz}{b:cz}{pr:List Rw}{v:Option Str}{W U:Str}{tr:Tr}(g:Go lo S0 S t s)(o:eW w)(hn:n<=100)(hs:s.af[h]?=some (vs,j++ [b,f]))(N:f.room=i)(p:s.aj[i]?=some rs)(b1:rs.row.length<900)(b2:rs.ag.length<900)
  (x2:di w n (lQ s h)) (P:progOf w h b=some pr) (h1:1<=b.row) (e:pr[(b.row-1).toNat]?=some (.do_ v W U tr)) (q:∀I t',t'.k=t.k->Go lo S0 I t' (qI w s h)->Q (.d .non) I):Fn nR [w.d,.ref t.k,.int h] S Q:=by
 obtain⟨x,u⟩:=g.hx hs
 have hf:(j++ [b,f]).getLast? =some f:=by simp
 obtain⟨a,ha,L⟩:=g.last u hs hf
 obtain⟨rx,F⟩:=g.rx p
 have ef:x.fs=x.fs.dropLast++ [a]:=fO ha
 have cf:=g.hf u hs
 have ti:f.room.toNat=i:=by omega
 have e1:=gG hs
 have Z:=eO hs hf
 have H:=g.pop u hs (by simp)
 have ed:(j++ [b,f]).dropLast=j++ [b]:=by rw[show j++ [b,f]=(j++ [b])++ [f] by simp,List.dropLast_concat]
 rw[ed] at H
 have na:a≠x.f:=λz=>g.nf u (by rw[←z];exact QcQ ha)
 refine B5 ?_
 unfold rJ
 refine aI (cK (vD g u hs rfl rfl ?_))
 refine aI (uh (fK (aw rfl ⟨_,_,rfl,cf,aZ ⟨_,cf,?_⟩⟩)))
 rw[ef,Qzq]
 refine J5 ?_
 refine Dd (ds:= [.int f.room,.int f.deed,.int f.row,.int f.given,.int f.told]) (by rw[QKq (Ne.symm na)];exact L) rfl (aA (aV (aA (aV (aA (aV (aA (aV (aA (aV (bA ?_)))))))))))
 rw[N]
 have G:(t.hs.set h {x with fs:=x.fs.dropLast})[h]?=some {x with fs:=x.fs.dropLast}:=Qyq (gQs.mp u).1
 show T _ _ (S.set x.f (.lst (x.fs.dropLast.map D.ref))) _
 generalize S.set x.f (.lst (x.fs.dropLast.map D.ref))=S1 at H⊢
 refine aI (d_ (cn (az (mG H F rfl (aw rfl ⟨rfl,rfl⟩) (aZ ?_)))))
 refine tH H F p b1 b2 λS2 A=> ?_
 have Y:lQ s h=eg {s with af:=s.af.set h (vs,j++ [b])} i (dt rs):=by
  unfold lQ
  rw[Z,e1,ti,dM p]
  show eg {s with af:=s.af.set h (vs,(j++ [b,f]).dropLast)} i (dt rs)=_
  rw[ed]
 rw[←Y] at A
 have l:(lQ s h).af[h]?=some (vs,j++ [b]):=by rw[Y];exact Qyq (gQs.mp hs).1
 have r:(j++ [b]).getLast? =some b:=by simp
 obtain⟨a2,M,m⟩:=A.last G l r
 have K:=A.hf G l
 have le:∀{Γ:cB} {R:D->aE->Prop},Γ[3]?=some (some (.ref x.f))->R (.ref a2) S2->E (aQ fJ (ar 3) (h_ (cF (.int 1)))) Γ S2 R:=λh3 q=>aY (aw h3 (ke (cH ⟨1,rfl,bL K (xI M) q⟩)))
 refine aI (cK (aY (cn (az (aw rfl (az (aw rfl (az (le rfl (aZ ?_))))))))))
 refine sV m P ?_
 refine aY (aY (le rfl (cH (bL m (d:=.int b.row) rfl (cH (gq ?_))))))
 refine ay (d:=(Rw.do_ v W U tr).d) (iK (by omega) (by rw[gQm,e];rfl)) ?_
 refine bP (cD (aY (aY (aw rfl (cH (ay (d:=Ho v) rfl (cH (Ef ?_))))))))
 have eb:G9 w (lQ s h) h=some (.do_ v W U tr):=by
  unfold G9
  rw[eO l r,P]
  exact e
 cases v with
 | none=>
   refine u6 (aK (λc=>by cases c) (λ_=>bX (q _ {t with hs:=t.hs.set h {x with fs:=x.fs.dropLast}} rfl ?_)))
   have J:qI w s h=lQ s h:=by unfold qI;rw[eb]
   rw[J]
   exact A
 | some y=>
   refine u6 (aK (λ_=> ?_) (λc=>by cases c))
   have J:qI w s h=mV w (lQ s h) h y f.told:=by unfold qI;rw[eb,Z]
   rw[J] at q
   obtain⟨a0,B,C⟩:=Cd o P
   have X:=C _ (mQg e)
   refine d_ (cn (az (aw rfl (az (aw rfl (az (aw rfl (az (aY (aw rfl (cH (ay (d:=.str y) rfl (az (aw rfl (aZ ?_)))))))))))))))
   exact Ht (t:={t with hs:=t.hs.set h {x with fs:=x.fs.dropLast}}) A o x2 l r B (X.1 y rfl) λI g'=>q _ {t with hs:=t.hs.set h {x with fs:=x.fs.dropLast}} rfl g'
def FB{tr:Tr}(hs:s.af[h]?=some (vs,fs))(a:fs.getLast? =some f):cV w (iA s h) h tr=cV w s h tr:=by
 have c:=(gQs.mp hs).1
 have b:(iA s h).af[h]?=some (vs,fs.dropLast++ [{f with row:=f.row+1}]):=by unfold iA;rw[eO hs a,gV hs];exact Qyq c
 unfold cV
 rw[eO hs a,eO b (f:={f with row:=f.row+1}) (by simp),gG b,gG hs]
 rfl
end
section
variable{lo:Nat}{S0 S:aE}{t:zB}{s:bE}{h i:Nat}{vs:List Int}{fs:List cz}{f:cz}{w:dE}{n:Nat}{sc:Sc}{Q:Res->aE->Prop}
def N2:∀a:Rm,∃r,Rm.d a=.tup (.str a.name::r):=λ_=>⟨_,rfl⟩
def Nq:∀a:Str×List Rw,∃r,g7 a=.tup (.str a.1::r):=λ_=>⟨_,rfl⟩
def fY{c:cB}{a b:Str}{l:List D}{A B:cC}{R:Out->Prop}(h:c[3]?=some (some (.tup (.str a::l))))(n:a≠b)(q:T B c S R):T (cZ (aH (aQ (du false) (aQ fJ (ar 3) (cF (.int 0))) (cF (.str b)))) A B) c S R:=bP (iz h (by rw[Qdq n];exact q))
def xN{b:cB}{a:Str}{l:List D}{A B:cC}{R:Out->Prop}(h:b[3]?=some (some (.tup (.str a::l))))(q:T A b S R):T (cZ (aH (aQ (du false) (aQ fJ (ar 3) (cF (.int 0))) (cF (.str a)))) A B) b S R:=bP (iz h (by rw[Qeq rfl];exact q))
def Kg{c:cB}{a:Str}{l:List D}{A B:cC}{R:Out->Prop}{b:Bool}(h:c[3]?=some (some (.tup (.str a::l))))(e:decide (a∈(["wait","call","all"]:List Str))=b)(q:if b=true then T A c S R else T B c S R):T (cZ (aH (Bx false (aQ fJ (ar 3) (cF (.int 0))) (aR (bg (aq (cF (.str "wait")) (aq (cF (.str "call")) (aq (cF (.str "all")) av))))))) A B) c S R:=by
 refine bP (cD (yK (aY (aw h (cH (ay (d:=.str a) AU (bV (tN (az (cH (az (cH (az (cH (aZ ⟨by show 3<=_;decide,cx ⟨_,_,rfl,gK ["wait","call","all"],?_⟩⟩)))))))))))))))
 rw[Au]
 show if decide _=true then _ else _
 rw[e]
 exact q
def Jt{r:Rw}{pr:List Rw}(g:Go lo S0 S t s)(nn:Nn s)(o:eW w)(x:di w n s)(hn:n<=100)(hs:s.af[h]?=some (vs,fs))(M:fs.getLast? =some f)(hp:progOf w h f=some pr)(h1:1<=f.row)(a0:pr[(f.row-1).toNat]?=some r)
  (q:∀Y t',t'.k=t.k->Go lo S0 Y t' (lO w s h r)->Q (.d (N6 h (Dy w s h r))) Y):Fn kb [w.d,.ref t.k,.int h,r.d] S Q:=by
 obtain⟨sc,C,a5⟩:=Cd o hp
 have e:=a5 r (mQg a0)
 obtain⟨hd,H⟩:=g.hx hs
 obtain⟨a,ha,W⟩:=g.last H hs M
 obtain⟨ts,U,hw,hi⟩:=x.whand hs
 have fi:=hi.fr f (QcQ M)
 have e1:=gG hs
 have e2:=eO hs M
 have b1:=o.l1
 have lr:=x.lr
 have lf:=hi.lf
 obtain⟨rk,b0⟩:=r.d_kind
 have A:sc.own=false->∃(i:Nat) (r:Rm) (N:de),f.room=i/\w.aj[i]?=some r/\s.aj[i]?=some N/\wU (aU w.aj) r/\sc.bs=r.aa.map (·.1):=λho=>by
  rcases fH C with⟨c,a1,U,a3,rfl⟩|⟨c,r,hr,rfl⟩
  ·cases ho
  ·obtain⟨N,p,ri⟩:=x.wroom hr
   exact⟨_,r,N,gI fi c,hr,p,o.rm r (mQg hr),rfl⟩
 have G:sc.own=true->sc.ts=w.ai.map (·.1):=λho=>by
  rcases fH C with⟨c,a1,U,a3,rfl⟩|⟨c,r,hr,rfl⟩
  ·rfl
  ·cases ho
 have B:∀{Γ:cB} {k:Int} {tr:Tr} {R:D->aE->Prop},Γ[0]?=some (some w.d)->Γ[1]?=some (some (.ref t.k))->Γ[2]?=some (some (.int h))->Γ[3]?=some (some r.d)->(∃l,r.d=.tup l/\kj l k=some tr.d)->D8 sc tr->R (.int (cV w s h tr)) S→
   E (ax cN (aq (ar 0) (aq (ar 1) (aq (ar 2) (aq (aQ fJ (ar 3) (cF (.int k))) av))))) Γ S R:=λz0 z1 z2 z3 hk ht q=>by
  obtain⟨l,hl,hk⟩:=hk
  rw[hl] at z3
  exact cn (az (aw z0 (az (aw z1 (az (aw z2 (az (aY (aw z3 (cH (ay hk (aZ (xH g o x hs M C ht q)))))))))))))
 have I:∀f':cz,Go lo S0 (S.set a (qW f')) t (CZ s h f'):=λf'=>by rw[gV hs];exact g.frame H hs ha M f'
 refine B5 ?_
 unfold rj
 refine aI (cK (nU g H hs ha rfl rfl ?_))
 cases r with
 | put y tr=>
   refine aI (xN (a:="put") rfl ?_)
   refine d_ (cn (az (aw rfl (az (aw rfl (az (aw rfl (az (aY (aw rfl (cH (ay (d:=.str y) rfl (az (B (tr:=tr) rfl rfl rfl rfl ⟨_,rfl,rfl⟩ e.2 (aZ ?_)))))))))))))))
   apply Ht g o x hs M C e.1 λY X=> ?_
   exact q _ t rfl X
 | unl tr m=>
   refine aI (fY (a:="unless") rfl (by decide +kernel) ?_)
   refine xN (a:="unless") rfl ?_
   refine bP (cD (aY (B (tr:=tr) rfl rfl rfl rfl ⟨_,rfl,rfl⟩ e.1 (cH (dR ?_)))))
   have q:=q
   simp only[lO] at q
   refine aK (λc=> ?_) (λc=>bX ?_)
   · rw[Qhq (QZq c),e2] at q
     refine uh (aY (aw rfl (cH (ay (d:=.int m) rfl ?_))))
     apply t_ (j:=2) (aw rfl ⟨rfl,rfl⟩) (cH ⟨rfl,rfl⟩) W (by simp) ?_
     exact q _ t rfl (I {f with row:=m})
   · rw[Quq (QaQ c)] at q
     symm
     exact q _ t rfl g
 | go m=>
   refine aI (fY (a:="go") rfl (by decide +kernel) ?_)
   refine fY (a:="go") rfl (by decide +kernel) ?_
   refine xN (a:="go") rfl ?_
   have q:=q
   simp only[lO,e2] at q
   refine uh (aY (aw rfl (cH (ay (d:=.int m) rfl ?_))))
   apply t_ (j:=2) (aw rfl ⟨rfl,rfl⟩) (cH ⟨rfl,rfl⟩) W (by simp) ?_
   exact q _ t rfl (I {f with row:=m})
 | do_ gg rn dn tr=>
   have a8:sc.gs=aU w.aj:=by
     rcases fH C with⟨c,a1,U,a3,rfl⟩|⟨c,r,hr,rfl⟩ <;>rfl
   have a2:=e.2.1
   rw[a8] at a2
   obtain⟨a6,P,u,a4⟩:=ET o a2
   obtain⟨N,p,ri⟩:=x.wroom u
   have L:=o.rm P (mQg u)
   have b5:=L.l3
   have br:=ri.br
   obtain⟨rx,Z⟩:=g.rx p
   refine aI (fY (a:="do") rfl (by decide +kernel) ?_)
   refine fY (a:="do") rfl (by decide +kernel) ?_
   refine fY (a:="do") rfl (by decide +kernel) ?_
   refine xN (a:="do") rfl ?_
   refine aI (cK (B (tr:=tr) rfl rfl rfl rfl ⟨_,rfl,rfl⟩ e.2.2 ?_))
   refine aI (cK (cn (az (aY (aw rfl (cH (ay (d:=.tup (w.aj.map Rm.d)) rfl (az (aY (aw rfl (cH (ay (d:=.str rn) rfl (aZ ?_)))))))))))))
   refine nO N2 (by omega) a6 ?_
   have q:=q
   have er:lO w s h (.do_ gg rn dn tr)=eg {s with af:=s.af.set h (vs,fs++ [⟨(fB (w.aj.map (·.name)) rn:Nat),(fB (P.ae.map (·.1)) dn:Nat),0,cV w s h tr,0⟩])} (fB (w.aj.map (·.name)) rn) (gD N h):=by simp only[lO,e1,ig u,dM p]
   rw[er] at q
   generalize fB (w.aj.map (·.name)) rn=i at u p Z q⊢
   generalize cV w s h tr=v at q⊢
   have cf:=g.hf H hs
   refine aI (d_ (fK (vD g H hs rfl rfl ⟨_,_,rfl,cf,?_⟩)))
   refine az (dU (dA (az (aw rfl (az (cn (az (aY (uU (k:=0) u rfl (aw rfl ⟨rfl,rfl⟩) (cH (ay (d:=.tup (P.ae.map g7)) rfl (az (aY (aw rfl (cH (ay (d:=.str dn) rfl (aZ ?_)))))))))))))))))
   refine nO Nq (by omega) a4 ?_
   generalize fB (P.ae.map (·.1)) dn=dd at q⊢
   refine az (cH (az (aw rfl (az (cH (aZ ⟨by show 5<=_;decide,aZ ⟨_,aO cf,?_⟩⟩))))))
   have lx:=g.lf H hs
   refine jw (by rw[lQm];omega) ?_
   have g1:=g.push H hs ⟨i,dd,0,v,0⟩
   rw[Qzq] at g1
   refine d_ (cn (az (mG g1 Z rfl (aw rfl ⟨rfl,rfl⟩) (az (aw rfl (aZ ?_))))))
   apply BB g1 Z p (nn N (mQg p)).w (by omega) λY g2=> ?_
   exact q _ {t with hs:=t.hs.set h {hd with fs:=hd.fs++ [S.length]}} rfl g2
 | tell tr=>
   refine aI (fY (a:="tell") rfl (by decide +kernel) ?_)
   refine fY (a:="tell") rfl (by decide +kernel) ?_
   refine fY (a:="tell") rfl (by decide +kernel) ?_
   refine fY (a:="tell") rfl (by decide +kernel) ?_
   refine xN (a:="tell") rfl ?_
   have q:=q
   simp only[lO,e2] at q
   refine uh (B (tr:=tr) rfl rfl rfl rfl ⟨_,rfl,rfl⟩ e.2 ?_)
   apply t_ (j:=4) (aw rfl ⟨rfl,rfl⟩) (cH ⟨rfl,rfl⟩) W (by simp) ?_
   exact q _ t rfl (I {f with told:=cV w s h tr})
 | wait y tr=>
   obtain⟨i,P,N,J,u,p,L,K⟩:=A e.1
   have F:y∈sc.bs:=e.2.1
   rw[K] at F
   refine aI (fY (a:="wait") rfl (by decide +kernel) ?_)
   refine fY (a:="wait") rfl (by decide +kernel) ?_
   refine fY (a:="wait") rfl (by decide +kernel) ?_
   refine fY (a:="wait") rfl (by decide +kernel) ?_
   refine fY (a:="wait") rfl (by decide +kernel) ?_
   refine Kg (a:="wait") (b:=true) rfl (by decide +kernel) ?_
   rw[Qhq rfl]
   refine d_ (cn (az (aw rfl (az (aw rfl (az (aw rfl (az (aw rfl (aZ ?_))))))))))
   apply zp (y:=y) g o x hn hs M C J u p F ⟨rfl,e.2.2⟩ λY X=> ?_
   exact q _ t rfl X
 | call y=>
   obtain⟨i,P,N,J,u,p,L,K⟩:=A e.1
   have F:y∈sc.bs:=e.2
   rw[K] at F
   refine aI (fY (a:="call") rfl (by decide +kernel) ?_)
   refine fY (a:="call") rfl (by decide +kernel) ?_
   refine fY (a:="call") rfl (by decide +kernel) ?_
   refine fY (a:="call") rfl (by decide +kernel) ?_
   refine fY (a:="call") rfl (by decide +kernel) ?_
   refine Kg (a:="call") (b:=true) rfl (by decide +kernel) ?_
   rw[Qhq rfl]
   refine d_ (cn (az (aw rfl (az (aw rfl (az (aw rfl (az (aw rfl (aZ ?_))))))))))
   apply zp (y:=y) g o x hn hs M C J u p F rfl λY X=> ?_
   exact q _ t rfl X
 | all y=>
   obtain⟨i,P,N,J,u,p,L,K⟩:=A e.1
   have F:y∈sc.bs:=e.2
   rw[K] at F
   refine aI (fY (a:="all") rfl (by decide +kernel) ?_)
   refine fY (a:="all") rfl (by decide +kernel) ?_
   refine fY (a:="all") rfl (by decide +kernel) ?_
   refine fY (a:="all") rfl (by decide +kernel) ?_
   refine fY (a:="all") rfl (by decide +kernel) ?_
   refine Kg (a:="all") (b:=true) rfl (by decide +kernel) ?_
   rw[Qhq rfl]
   refine d_ (cn (az (aw rfl (az (aw rfl (az (aw rfl (az (aw rfl (aZ ?_))))))))))
   apply zp (y:=y) g o x hn hs M C J u p F rfl λY X=> ?_
   exact q _ t rfl X
 | say tr=>
   refine aI (fY (a:="say") rfl (by decide +kernel) ?_)
   refine fY (a:="say") rfl (by decide +kernel) ?_
   refine fY (a:="say") rfl (by decide +kernel) ?_
   refine fY (a:="say") rfl (by decide +kernel) ?_
   refine fY (a:="say") rfl (by decide +kernel) ?_
   refine Kg (a:="say") (b:=false) rfl (by decide +kernel) ?_
   rw[Quq (by decide)]
   refine xN (a:="say") rfl ?_
   refine eV (tN (az (aw rfl (az (B (tr:=tr) rfl rfl rfl rfl ⟨_,rfl,rfl⟩ e.2 (aZ ⟨by show 2<=_;decide,?_⟩))))))
   exact q _ t rfl g
 | take y=>
   have F:=e.2
   rw[G e.1] at F
   exact(rE o F).elim
 | give y=>
   have F:=e.2
   rw[G e.1] at F
   exact(rE o F).elim
 | pass y z=>
   have F:=e.2.1
   rw[G e.1] at F
   exact(rE o F).elim
end
section
variable{lo:Nat}{S0 S:aE}{t:zB}{s:bE}{h i:Nat}{vs:List Int}{fs:List cz}{f:cz}{w:dE}{n:Nat}{sc:Sc}{Q:Res->aE->Prop}
def Ig(g:Go lo S0 S t s)(nn:Nn s)(o:eW w)(x:di w n s)(hn:n<=100)(hm:h∈qm w s)(q:∀u t',t'.k=t.k->Go lo S0 u t' (eQ w s h).1->Q (.d (N6 h (eQ w s h).2)) u):Fn lG [w.d,.ref t.k,.int h] S Q:=by
 have K:h<s.af.length:=List.mem_range.mp (List.mem_filter.mp hm).1
 obtain⟨⟨vs,fs⟩,y⟩:∃p,s.af[h]?=some p:=⟨_,gQe K⟩
 obtain⟨ts,a3,hw,hi⟩:=x.whand y
 obtain⟨f,G,fi⟩:=hi.last
 obtain⟨pr,B,a6,a8⟩:=fi.pr
 obtain⟨hd,H⟩:=g.hx y
 obtain⟨a,ha,e⟩:=g.last H y G
 have e1:=gG y
 have C:=eO y G
 have nb:¬(f.room= -1/\f.row=pr.length):=by
  rintro⟨c1,c2⟩
  have:=(List.mem_filter.mp hm).2
  rw[QCq] at this
  have hb:ja w s h=true:=by
   unfold ja Bw
   rw[y]
   show(match fs.getLast? with|some f=>_|none=>_)=_
   rw[G]
   simp only[B,Option.getD_some,c1,c2,decide_true,Bool.and_true]
  rw[hb] at this
  exact absurd this.2 (by decide)
 have x2:f.row<pr.length->di w n (iA s h):=λc=>by
  unfold iA
  rw[C,gV y]
  exact x.goes y G B (by omega) (by omega)
 have gn:Go lo S0 (S.set a (qW {f with row:=f.row+1})) t (iA s h):=by
  unfold iA
  rw[C,gV y]
  exact g.frame H y ha G _
 have EL:(iA s h).af[h]?=some (vs,fs.dropLast++ [{f with row:=f.row+1}]):=by unfold iA;rw[C,gV y];exact Qyq K
 refine B5 ?_
 unfold pZ
 refine aI (cK (nU g H y ha rfl rfl ?_))
 refine aI (cK (cn (az (aw rfl (az (aw rfl (az (aw rfl (aZ ?_)))))))))
 refine sV e B ?_
 have row:∀r,f.row<pr.length->pr[f.row.toNat]?=some r->eQ w s h=(lO w (iA s h) h r,Dy w s h r)->T (aD (ko (aQ cA (aQ fJ (ar 3) (cF (.int 2))) (cF (.int 1))) (wO (ar 3) (cF (.int 2)))) (cy (ax kb (aq (ar 0) (aq (ar 1) (aq (ar 2) (aq (aQ fJ (ar 4) (aQ jB (aQ fJ (ar 3) (cF (.int 2))) (cF (.int 1)))) av))))))) [some w.d,some (.ref t.k),some (.int h),some (.ref a),some (.tup (pr.map Rw.d))] S (λo=>match o with
   |.nx a1 Z=>T (cy (cF .non)) a1 Z (λo=>match o with|.nx _ u=>Q (.d .non) u|.rt d u=>Q (.d d) u|.rl l u=>Q (.l l) u|_=>False)|o=>match o with|.nx _ u=>Q (.d .non) u|.rt d u=>Q (.d d) u|.rl l u=>Q (.l l) u|_=>False):=λr I b W=>by
  refine aI (uh (aY (hV e rfl (v:=f.row) rfl (cH (KZ ?_)))))
  refine t_ (j:=2) (aw rfl ⟨rfl,rfl⟩) (cH ⟨rfl,rfl⟩) e (by simp) ?_
  have F:(S.set a (qW {f with row:=f.row+1}))[a]?=some (qW {f with row:=f.row+1}):=Qyq (gQs.mp e).1
  show T _ _ (S.set a (qW {f with row:=f.row+1})) _
  generalize S.set a (qW {f with row:=f.row+1})=Z at gn F⊢
  refine eV (cn (az (aw rfl (az (aw rfl (az (aw rfl (az (aY (aw rfl (aY (hV F rfl (v:=f.row+1) rfl (cH (gq ?_))))))))))))))
  refine ay (d:=r.d) (iK (by omega) (by rw[show f.row+1-1=f.row by omega,gQm,b];rfl)) (aZ ?_)
  refine Jt (r:=r) (pr:=pr) (f:={f with row:=f.row+1}) gn (show Nn (iA s h) from nn) o (x2 I) hn EL (by simp) B (by show 1<=f.row+1;omega) (by show pr[(f.row+1-1).toNat]?=_;rw[show f.row+1-1=f.row by omega];exact b) λu t' ht M=> ?_
  have es:Dy w (iA s h) h r=Dy w s h r:=by
   cases r with
   |say tr=>exact congrArg some (FB y G)
   |_=>rfl
  rw[es]
  rw[W] at q
  exact q u t' ht M
 by_cases c:f.room= -1
 ·
  have I:f.row<pr.length:=by
   have:f.row≠pr.length:=λz=>nb ⟨c,z⟩
   omega
  have b:pr[f.row.toNat]?=some (pr[f.row.toNat]'(by omega)):=gQe (by omega)
  generalize pr[f.row.toNat]'(by omega)=r at b
  refine aI (bP (pV (cD (aY (hV e rfl (v:=f.room) rfl (cH (gq ?_)))))))
  rw[c]
  refine u6 (aK (λz=>by cases z) (λ_=> ?_))
  refine aK (λz=>by cases z) (λ_=> ?_)
  refine bP (cD (aY (hV e rfl (v:=f.row) rfl (xX (bV (aw rfl (cx (dR ?_))))))))
  rw[lQm]
  refine aK (λz=>by have:=QZq z;omega) (λ_=> ?_)
  refine row r I b ?_
  unfold eQ
  rw[C,Quq (λz=>z.1 c),B]
  simp only
  rw[Quq (by omega),b]
 ·rcases i7 B with⟨c',_⟩|⟨i,j,rm,dn,h1,h2,h3,h4⟩
  ·exact absurd c' c
  obtain⟨R,m,ri⟩:=x.wroom h3
  have br:=ri.br
  have bl:=ri.bl
  have ti:f.room.toNat=i:=by omega
  obtain⟨rx,A⟩:=g.rx m
  have he:∀{Γ:cB},Γ[3]?=some (some (.ref a))->E (aQ fJ (ar 3) (cF (.int 0))) Γ S λd Z=>d=.int i/\Z=S:=λz=>hV e z (v:=f.room) rfl ⟨by rw[h1],rfl⟩
  refine aI (bP (pV (cD (aY (hV e rfl (v:=f.room) rfl (cH (gq ?_)))))))
  refine aK (λ_=> ?_) (λz=>by have:=QaQ z;omega)
  refine cD (aY (aY (mG g A rfl (he rfl) (cH (bL (g.ca A m) (d:=.int R.within) rfl (aw rfl (mh ?_)))))))
  by_cases N:R.within=h
  ·rw[Qeq N]
   refine u6 (aK (λz=>by cases z) (λ_=> ?_))
   refine bP (cD (aY (hV e rfl (v:=f.row) rfl (xX (bV (aw rfl (cx (dR ?_))))))))
   rw[lQm]
   by_cases ce:f.row=pr.length
   ·rw[Qeq ce]
    refine u6 (aK (λ_=> ?_) (λz=>by cases z))
    have L:=fO G
    have P:=hi.hd
    rw[L] at P
    obtain⟨Y,X,hg⟩:=P.two c
    have J:fs=Y++ [X,f]:=by rw[L,hg];simp
    have U:=hi
    rw[J] at U
    obtain⟨a0,a2⟩:=U.pop
    obtain⟨a4,gg,rn,a5,tr,p1,p2,p3⟩:=a2
    have eo:lQ s h={s with aj:=s.aj.set i (dt R),af:=s.af.set h (vs,Y++ [X])}:=by
     unfold lQ
     rw[C,e1,ti,dM m]
     simp only[eg]
     rw[J,show Y++ [X,f]=(Y++ [X])++ [f] by simp,List.dropLast_concat]
    have xo:di w n (lQ s h):=by rw[eo];exact(x.hand hw a0).room h3 ri.leave
    have W:eQ w s h=(qI w s h,none):=by
     unfold eQ
     rw[C,ti,dM m,Quq (λz=>z.2 N),B]
     simp only
     rw[Qhq ce]
    rw[W] at q
    refine d_ (cn (az (aw rfl (az (aw rfl (az (aw rfl (aZ ?_))))))))
    apply LQ g o hn (by rw[y,J]) h1 m (by omega) (by omega) xo p1 p2 p3 λu t' ht M=> ?_
    exact q _ t' ht M
   ·rw[Qdq ce]
    refine u6 (aK (λz=>by cases z) (λ_=> ?_))
    have b:pr[f.row.toNat]?=some (pr[f.row.toNat]'(by omega)):=gQe (by omega)
    generalize pr[f.row.toNat]'(by omega)=r' at b
    refine row r' (by omega) b ?_
    unfold eQ
    rw[C,ti,dM m,Quq (λz=>z.2 N),B]
    simp only
    rw[Quq ce,b]
  ·rw[Qdq N]
   refine u6 (aK (λ_=> ?_) (λz=>by cases z))
   have W:eQ w s h=(eg s i (gD R h),none):=by
    unfold eQ
    rw[C,ti,dM m,Qhq ⟨c,N⟩]
   rw[W] at q
   refine d_ (cn (az (mG g A rfl (he rfl) (az (aw rfl (aZ ?_))))))
   apply BB g A m (nn R (mQg m)).w (by omega) λu M=> ?_
   exact q _ t rfl M
end
end W28
namespace DL
open PySem PySem.Spec L2
def K_{b:cB}{S:aE}{f:fw}{Q:D->aE->Prop}(h:E f b S λp a=>p.2.isL=true/\∃bs,G_ p.1=some bs/\Q (.bl (bs.any id)) a):E (JA f) b S Q:=by
 obtain⟨p,a,d,l,bs,c,q⟩:=h
 exact⟨_,a,by unfold JA;rw[d];simp only[Qbq];rw[Qhq l,c];rfl,q⟩
theorem EN{α:Type}{f:α->Bool}:∀xs:List α,G_ (xs.map λa=>D.bl (f a))=some (xs.map f)
 | []=>rfl
 |a::xs=>by simp only[QDq,G_];rw[EN xs];rfl
end DL
namespace W28
open PySem PySem.Spec L2 DL
section
variable{lo:Nat}{S0 S:aE}{t:zB}{s:bE}{h i:Nat}{w:dE}{n:Nat}{Q:Res->aE->Prop}
def Go.ref_at{j:Nat}{d:D}(g:Go lo S0 S t s)(hd:(t.rs.map λx=>D.ref x.a)[j]?=some d):∃x r,t.rs[j]?=some x/\s.aj[j]?=some r/\d=.ref x.a:=by
 rw[gQm] at hd
 obtain⟨x,b,rfl⟩:=oQm.mp hd
 exact⟨x,_,b,gQe (by rw[←g.n.lr];exact(gQs.mp b).1),rfl⟩
def Br(g:Go lo S0 S t s)(o:eW w)(x:di w n s)(hn:n<=100)(q:Q (.d (.bl (decide ((h:Int)∈held s)))) S):Fn gk [.ref t.k,.int h] S Q:=by
 have b2:=o.l2
 have lp:=x.lp
 have lr:=x.lr
 refine bZ ?_
 unfold iY
 have C:(h:Int)∈held s->Op (settle S (.bl true) S) λp=>Q p.1 p.2:=λz=>by
  rw[Qeq z] at q
  exact cW (λk z=>(nomatch z)) rfl q
 have G:∀{j:Nat} {r:de},s.aj[j]?=some r->(h:Int)∈ip r->(h:Int)∈held s:=λA z=>mQa.mpr (.inr (QOq.mpr ⟨_,mQg A,z⟩))
 refine aI (gZ (j2 (bV (aY (aw rfl (cH (bL g.n.top (d:=.ref t.r) rfl (a_ g.n.tr ?_))))))))
 refine⟨λj u B=>(∃a b c d e f,u= [some (.ref t.k),some (.int h),a,b,c,d,e,f])/\B=S/\∀k r,k<j->s.aj[k]?=some r->(h:Int)∉ip r,⟨⟨_,_,_,_,_,_,rfl⟩,rfl,λk r M=>by omega⟩,λ_ _ _ z=>by rw[z.2.1];exact g.n.tr,?_,?_⟩
 ·rintro j d u B P ⟨⟨a,b,c,d',e,f,rfl⟩,hSS,F⟩
  subst B
  obtain⟨y,r,R,A,rfl⟩:=g.ref_at P
  have Y:w.aj[j]?=some (w.aj[j]'(by have:=(gQs.mp A).1;omega)):=gQe _
  have Z:=x.rm j _ r Y A
  have b6:=(o.rm _ (mQg Y)).l2
  have k1:=Z.br
  have W:=Z.bl
  have k3:=Z.lb
  have lz:=g.lb R A
  refine Dd (g.ca R A) rfl (aA (aV (aA (aV (aA (aV (aA (aV (aA (aV (bA ?_)))))))))))
  have cr:=g.cr R A
  have cl:=g.cl R A
  have cb:=g.cb R A
  refine aI (bP (cD (yK (aw rfl (qH (yj (bV (aw rfl (a_ cr (bV (aw rfl (a_ cl ?_))))))))))))
  refine⟨⟨rfl,rfl,cr,by rw[lQm,lQm];exact QAq (show _<=200 by omega) (by decide)⟩,_,_,rfl,by rw[←Qzq];exact fQ _,?_⟩
  rw[nK]
  refine aK (λz=> ?_) (λz=>bX ?_)
  ·symm
   exact C (G A (mQa.mpr (.inl (QZq z))))
  have z:(h:Int)∉r.row++r.ag:=QaQ z
  refine gZ (j2 (bV (aw rfl (a_ cb ?_))))
  refine⟨λm u B=>(∃f,u= [some (.ref t.k),some (.int h),some (.ref y.v),some (.int r.within),some (.ref y.r),some (.ref y.l),some (.ref y.b),f])/\B=S/\∀k l,k<m->r.aa[k]?=some l->(h:Int)∉l.map (·.2),⟨⟨_,rfl⟩,rfl,λk r M=>by omega⟩,λ_ _ _ z=>by rw[z.2.1];exact cb,?_,?_⟩
  ·rintro m d u B P ⟨⟨f,rfl⟩,hSS,hno2⟩
   subst B
   have P:(y.bs.map D.ref)[m]?=some d:=P
   rw[gQm] at P
   obtain⟨ba,U,rfl⟩:=oQm.mp P
   obtain⟨l,L⟩:∃l,r.aa[m]?=some l:=⟨_,gQe (by have:=(gQs.mp U).1;omega)⟩
   have X:=g.cbs R A U L
   have ll:=Z.bb l (mQg L)
   refine aV (bP (cD (yK (aw rfl (qH ?_)))))
   refine nN (α:=Int×Int) (λu=>∃a b,u= [a,b]) pairD (λp=>.int p.2) (λ_=>true) ⟨none,none,rfl⟩ ?_
   refine j2 (bV (aw rfl (a_ X ⟨l,rfl,X,by omega,λp N u J=> ?_,?_⟩)))
   ·obtain⟨a,b,rfl⟩:=J
    refine gc rfl (aA (aV (aA (aV (bA ⟨rfl,⟨_,_,rfl⟩,nc ⟨rfl,rfl,λ_=>aw rfl ⟨rfl,rfl⟩⟩⟩)))))
   have el:(l.filter λ_=>true).map (λp=>D.int p.2)=(l.map (·.2)).map D.int:=by rw[List.filter_eq_self.mpr (λ_ _=>rfl),QPq];rfl
   refine⟨_,_,rfl,by rw[el];exact fQ _,?_⟩
   rw[nK]
   refine aK (λz=> ?_) (λz=>bX ?_)
   ·symm
    exact C (G A (mQa.mpr (.inr (QOq.mpr ⟨l,mQg L,QZq z⟩))))
   ·refine⟨⟨_,rfl⟩,rfl,λk l' M I=> ?_⟩
    by_cases e:k=m
    ·subst e
     rw[L] at I
     cases I
     exact QaQ z
    ·exact hno2 k l' (by omega) I
  ·rintro u B ⟨⟨f,rfl⟩,hSS,hno2⟩
   subst B
   refine⟨⟨_,_,_,_,_,_,rfl⟩,rfl,λk r' M K=> ?_⟩
   by_cases e:k=j
   ·subst e
    rw[A] at K
    cases K
    intro H
    rcases mQa.mp H with H|H
    ·exact z H
    ·obtain⟨l,L,H⟩:=QOq.mp H
     obtain⟨m,hm,e⟩:=QbQ L
     exact hno2 m l (by show m<(y.bs.map D.ref).length;rw[lQm];omega) (by rw[gQe hm,e]) H
   ·exact F k r' (by omega) K
 ·rintro u B ⟨⟨a,b,c,d',e,f,rfl⟩,hSS,F⟩
  subst B
  have F:∀r∈s.aj,(h:Int)∉ip r:=λr A=>by
   obtain⟨k,M,e⟩:=QbQ A
   exact F k r (by show k<(t.rs.map _).length;rw[lQm,g.n.lr];exact M) (by rw[gQe M,e])
  refine eV (K_ (qH ?_))
  have a1:=g.n.lp
  refine nN (α:=GB×(Int×List Int)) (λu=>∃a b,u= [a,b,some (.int h)]) (λp=>.ref p.1.a) (λp=>.bl (decide ((h:Int)∈p.2.2))) (λ_=>true) ⟨none,none,rfl⟩ ?_
  refine j2 (bV (aY (aw rfl (cH (bL g.n.top (d:=.ref t.p) rfl (a_ g.n.tp ⟨t.ps.zip s.ai,?_,g.n.tp,by rw[List.length_zip];omega,λp N u J=> ?_,?_⟩))))))
  ·show t.ps.map (λx=>D.ref x.a)=(t.ps.zip s.ai).map ((λx:GB=>D.ref x.a)∘Prod.fst)
   rw[←QPq,List.map_fst_zip (by omega)]
  ·obtain⟨a,b,rfl⟩:=J
   obtain⟨m,k1,W⟩:=jH N
   refine Dd (g.pa k1 W) rfl (aA (aV (aA (aV (bA ⟨rfl,⟨_,_,rfl⟩,nc ⟨rfl,rfl,λ_=> ?_⟩⟩)))))
   refine yK (aw rfl (bV (aw rfl (a_ (g.pr k1 W) ⟨_,_,rfl,fQ _,?_⟩))))
   rw[nK]
   exact⟨rfl,rfl⟩
  ·refine⟨rfl,_,by rw[List.filter_eq_self.mpr (λ_ _=>rfl)];exact EN _,?_⟩
   have e:((t.ps.zip s.ai).map λp=>decide ((h:Int)∈p.2.2)).any id=decide ((h:Int)∈held s):=by
    rw[Bool.eq_iff_iff,List.any_eq_true,decide_eq_true_iff]
    constructor
    ·rintro⟨b,hb,a0⟩
     obtain⟨p,N,rfl⟩:=Qkq.mp hb
     obtain⟨m,_,W⟩:=jH N
     exact mQa.mpr (.inl (QOq.mpr ⟨p.2,mQg W,QZq a0⟩))
    ·intro z
     rcases mQa.mp z with z|z
     ·obtain⟨p,N,z⟩:=QOq.mp z
      obtain⟨m,hm,e⟩:=QbQ N
      refine⟨true,Qkq.mpr ⟨(t.ps[m]'(by omega),p),cJ (i:=m) (gQe _) (by rw[gQe hm,e]),Qeq z⟩,rfl⟩
     ·obtain⟨r,A,z⟩:=QOq.mp z
      exact absurd z (F r A)
   rw[e]
   exact cW (λk z=>(nomatch z)) rfl q
end
section
variable{lo:Nat}{S0 S:aE}{t:zB}{s:bE}{h i:Nat}{w:dE}{n:Nat}{Q:Res->aE->Prop}
def J2(g:Go lo S0 S t s)(o:eW w)(x:di w n s)(U:n<=100)(q:Q (.l ((qm w s).map mM)) S):Fn nT [w.d,.ref t.k] S Q:=by
 have b4:=o.l4
 have lh:=x.lh
 refine bZ ?_
 unfold rh
 refine aI (cK (dU (dA (aZ ⟨by decide,?_⟩))))
 refine aI (gZ (GM (xX (bV (aY (aw rfl (cH (ay (d:=.tup (w.af.map eY)) rfl (cx ?_)))))))))
 refine⟨(w.af.length:Nat),by rw[lQm],by omega,?_⟩
 refine⟨λj m F=>(∃a b c,m= [some w.d,some (.ref t.k),some (.ref S.length),a,b,c])/\F=S++ [.lst (((List.range j).filter λh:Nat=> !decide ((h:Int)∈held s)&& !ja w s h).map mM)],⟨⟨_,_,_,rfl⟩,rfl⟩,λ_ _ _ _=>trivial,?_,?_⟩
 ·rintro j d m F hd ⟨⟨a,b,c,rfl⟩,rfl⟩
  obtain⟨rfl,hj⟩:=wM hd
  obtain⟨⟨vs,Y⟩,u⟩:∃p,s.af[j]?=some p:=⟨_,gQe (by omega)⟩
  obtain⟨ts,C,K,P⟩:=x.whand u
  obtain⟨f,J,fi⟩:=P.last
  have B:=g.app (G:= [.lst (((List.range j).filter λh:Nat=> !decide ((h:Int)∈held s)&& !ja w s h).map mM)])
  obtain⟨W,A⟩:=g.hx u
  obtain⟨fa,ha,e⟩:=B.last A u J
  have r:((List.range (j+1)).filter λh:Nat=> !decide ((h:Int)∈held s)&& !ja w s h)=((List.range j).filter λh:Nat=> !decide ((h:Int)∈held s)&& !ja w s h)++if (!decide ((j:Int)∈held s)&& !ja w s j)=true then [j] else []:=by
   rw[List.range_succ,List.filter_append]
   cases X:(!decide ((j:Int)∈held s)&& !ja w s j) <;>simp[X]
  have N:=List.length_filter_le (λh:Nat=> !decide ((h:Int)∈held s)&& !ja w s h) (List.range j)
  rw[QVq] at N
  have H:ja w s j=(decide (f.room<0)&&decide (f.row=(C.length:Int))):=by
   unfold ja Bw
   rw[u]
   show(match Y.getLast? with|some f=>_|none=>_)=_
   rw[J]
   show(decide (f.room= -1)&&decide (f.row=(((progOf w j f).getD []).length:Int)))=_
   by_cases c:f.room= -1
   ·have Z:progOf w j f=some C:=by unfold progOf;rw[Qhq c,K];rfl
    rw[Qeq c,Qeq (by omega:f.room<0),Z]
    rfl
   ·have:=gI fi c
    rw[Qdq c,Qdq (by omega:¬f.room<0)]
    rfl
  generalize hL:((List.range j).filter λh:Nat=> !decide ((h:Int)∈held s)&& !ja w s h)=L at B e N r⊢
  refine aV ?_
  refine aI (cK (nU B A u ha rfl rfl ?_))
  refine aI (cK ?_)
  have I:∀{R:D->aE->Prop},R (.bl (ja w s j)) (S++ [.lst (L.map mM)])->E (qX (aQ Cw (aQ fJ (ar 4) (cF (.int 0))) (cF (.int 0))) (aQ (du false) (aQ fJ (ar 4) (cF (.int 2))) (hJ (aR (aQ fJ (aQ fJ (aQ fJ (ar 0) (cF (.int 3))) (ar 3)) (cF (.int 1))))))) [some w.d,some (.ref t.k),some (.ref S.length),some (.int j),some (.ref fa),c] (S++ [.lst (L.map mM)]) R:=λq=>by
   rw[H] at q
   refine mR (aY (hV e rfl (v:=f.room) rfl (cH (gq ⟨_,rfl,?_⟩))))
   refine aK (λz=> ?_) (λz=> ?_)
   ·rw[z,Bool.true_and] at q
    refine aY (hV e rfl (v:=f.row) rfl (xX (bV (aY (aY (aY (aw rfl (cH (ay (d:=.tup (w.af.map eY)) rfl (aw rfl (ay (d:=eY (ts,C)) (aW (by rw[gQm,K];rfl)) (cH (ay (d:=.tup (C.map Rw.d)) rfl (cx (dR ?_)))))))))))))))
    rw[lQm]
    exact q
   ·rw[z,Bool.false_and] at q
    exact q
  refine I ?_
  refine bP (pV (vO (Ct (aw rfl (se ?_)))))
  have M:(S++ [O.lst (L.map mM)])[S.length]?=some (.lst (L.map mM)):=aM
  refine aK (λz=> ?_) (λz=> ?_)
  ·refine vO (Ct (cn (az (aw rfl (az (aw rfl (aZ ?_)))))))
   refine Br B o x U (se ?_)
   have z:ja w s j=false:=by simpa using z
   rw[z] at r
   refine aK (λy=> ?_) (λy=>bX ?_)
   ·refine d_ (fK (aw rfl ⟨_,_,rfl,M,az (aw rfl (aZ ⟨_,M,jw (by rw[lQm];omega) ?_⟩))⟩))
    refine⟨⟨_,_,_,rfl⟩,?_⟩
    rw[r,y]
    simp[mM]
   ·refine⟨⟨_,_,_,rfl⟩,?_⟩
    rw[r,y]
    simp
  ·refine aK (λz=>by cases z) (λ_=>bX ?_)
   have z:ja w s j=true:=by simpa using z
   rw[z] at r
   refine⟨⟨_,_,_,rfl⟩,?_⟩
   rw[r]
   simp
 ·rintro m F ⟨⟨a,b,c,rfl⟩,rfl⟩
  rw[G8,lh]
  symm
  exact ID rG.refl.app (Qmq _) aM (bf λ_ _=>rfl) q
def Bn{α a:Type}{f:α->Nat}{xs:List α}{ys:List a}(h:xs.length=ys.length):xs.map (λx=>D.ref (f x))=(xs.zip ys).map λp=>.ref (f p.1):=by
 show _=(xs.zip ys).map ((λx=>D.ref (f x))∘Prod.fst)
 rw[←QPq,List.map_fst_zip (by omega)]
def E9{α a b:Type}{f:a->b}{xs:List α}{ys:List a}(h:xs.length=ys.length):(xs.zip ys).map (λp=>f p.2)=ys.map f:=by
 show(xs.zip ys).map (f∘Prod.snd)=_
 rw[←QPq,List.map_snd_zip (by omega)]
def Hz{α e:Type}{j:cB}{k v:Nat}{xs:List α}{ys:List e}{f:α->Nat}{c:e->List D}{R:D->aE->Prop}(r:j[v]?=some (some (.ref k)))(l:S[k]?=some (.lst (xs.map λx=>.ref (f x))))(g:xs.length=ys.length)(u:xs.length<=900)(m:∀p∈xs.zip ys,S[f p.1]?=some (.lst (c p.2)))(q:R (.tup (ys.map λy=>.tup (c y))) S):
  E (tupQ (ia (bD [none] (fL (aR (ar v))) (bJ 0) bK (tupQ (cM (aR (ar 0))))))) j S R:=by
 refine rZ (qH ?_)
 refine iU (α:=α×e) (λb=>∃a,b= [a]) (λp=>.ref (f p.1)) (λp=>.tup (c p.2)) ⟨none,rfl⟩ ?_
 refine bV (aw r (a_ l ⟨xs.zip ys,Bn g,l,by rw[List.length_zip];omega,λp o b d=> ?_,?_⟩))
 ·obtain⟨a,rfl⟩:=d
  exact aV ⟨rfl,⟨_,rfl⟩,rZ (sO (bV (aw rfl (a_ (m p o) ⟨rfl,rfl,rfl⟩))))⟩
 ·show R (.tup ((xs.zip ys).map λp=>.tup (c p.2))) S
  rw[E9 (f:=λy=>D.tup (c y)) g]
  exact q
def oO{a:cB}{k v:Nat}{ds:List D}{R:D->aE->Prop}(c:a[v]?=some (some (.ref k)))(b:S[k]?=some (.lst ds))(q:R (.tup ds) S):E (tupQ (cM (aR (ar v)))) a S R:=rZ (sO (bV (aw c (a_ b ⟨rfl,q⟩))))
def Gx(g:Go lo S0 S t s)(o:eW w)(x:di w n s)(hn:n<=100)(q:Q (.d s.d) S):Fn iB [.ref t.k] S Q:=by
 have b1:=o.l1
 have b2:=o.l2
 have b4:=o.l4
 have lr:=x.lr
 have lp:=x.lp
 have lh:=x.lh
 have W:=g.n.lr
 have N:=g.n.lp
 have Z:=g.n.lh
 refine bZ ?_
 unfold kF
 refine aI (cK (dU (dA (aZ ⟨by decide,?_⟩))))
 have g1:=g.app (G:= [O.lst []])
 refine aI (gZ (j2 (bV (aY (aw rfl (cH (bL g1.n.top (d:=.ref t.r) rfl (a_ g1.n.tr ?_))))))))
 refine⟨λj u C=>(∃a b c d e,u= [some (.ref t.k),some (.ref S.length),a,b,c,d,e,none,none])/\C=S++ [.lst ((s.aj.take j).map de.d)],⟨⟨_,_,_,_,_,rfl⟩,rfl⟩,λ_ _ _ z=>by rw[z.2];exact(g.app).n.tr,?_,?_⟩
 ·rintro j d u C L ⟨⟨a,b,c,Y,e,rfl⟩,rfl⟩
  have H:=g.app (G:= [O.lst ((s.aj.take j).map de.d)])
  obtain⟨y,r,A,B,rfl⟩:=H.ref_at L
  have hj:=(gQs.mp B).1
  have U:w.aj[j]?=some (w.aj[j]'(by omega)):=gQe _
  have ri:=x.rm j _ r U B
  have b6:=(o.rm _ (mQg U)).l2
  have k3:=ri.lb
  have lz:=g.lb A B
  have P:(S++ [O.lst ((s.aj.take j).map de.d)])[S.length]?=some (.lst ((s.aj.take j).map de.d)):=aM
  refine Dd (H.ca A B) rfl (aA (aV (aA (aV (aA (aV (aA (aV (aA (aV (bA ?_)))))))))))
  refine d_ (fK (aw rfl ⟨_,_,rfl,P,?_⟩))
  refine az (tN (az (oO rfl (H.cv A B) (az (aw rfl (az (oO rfl (H.cr A B) (az (oO rfl (H.cl A B) (az ?_))))))))))
  refine Hz (f:=λk:Nat=>k) (c:=λl:List (Int×Int)=>l.map pairD) (xs:=y.bs) (ys:=r.aa) rfl (H.cb A B) lz (by omega) (λp R=> ?_) ?_
  ·obtain⟨m,J,K⟩:=jH R
   exact H.cbs A B J K
  refine aZ ⟨by show 5<=_;decide,aZ ⟨_,P,jw (by rw[lQm,Qxq];omega) ?_⟩⟩
  refine⟨⟨_,_,_,_,_,rfl⟩,?_⟩
  rw[QYq,B]
  simp[de.d,dq,e_]
 rintro u C ⟨⟨a,b,c,Y,e,rfl⟩,v⟩
 have er:s.aj.take (t.rs.map λx=>D.ref x.a).length=s.aj:=by rw[lQm,W,QEq]
 have v:C=S++ [.lst (s.aj.map de.d)]:=by rw[v];show S++ [O.lst ((s.aj.take (t.rs.map λx=>D.ref x.a).length).map de.d)]=_;rw[er]
 subst v
 refine aI (cK (dU (dA (aZ ⟨by decide,?_⟩))))
 have g3:=(g.app (G:= [O.lst (s.aj.map de.d)])).app (G:= [O.lst []])
 have e7:(S++ [O.lst (s.aj.map de.d)]).length=S.length+1:=by simp
 rw[e7]
 refine aI (gZ (j2 (bV (aY (aw rfl (cH (bL g3.n.top (d:=.ref t.h) rfl (a_ g3.n.th ?_))))))))
 refine⟨λj u C=>(∃a b c d e f,u= [some (.ref t.k),some (.ref S.length),a,b,c,d,e,some (.ref (S.length+1)),f])/\C=S++ [.lst (s.aj.map de.d)]++ [.lst ((s.af.take j).map tw)],⟨⟨_,_,_,_,_,_,rfl⟩,rfl⟩,λ_ _ _ z=>by rw[z.2];exact((g.app).app).n.th,?_,?_⟩
 ·rintro j d u C L ⟨⟨a,b,c,Y,e,f,rfl⟩,rfl⟩
  have M:=(g.app (G:= [O.lst (s.aj.map de.d)])).app (G:= [O.lst ((s.af.take j).map tw)])
  have L:(t.hs.map λx=>D.ref x.a)[j]?=some d:=L
  rw[gQm] at L
  obtain⟨y,A,rfl⟩:=oQm.mp L
  have hj:=(gQs.mp A).1
  obtain⟨⟨vs,fs⟩,I⟩:∃p,s.af[j]?=some p:=⟨_,gQe (by omega)⟩
  obtain⟨ts,pr,hw,hi⟩:=x.whand I
  have lf:=hi.lf
  have lx:=M.lf A I
  have P:(S++ [O.lst (s.aj.map de.d)]++ [O.lst ((s.af.take j).map tw)])[S.length+1]?=some (.lst ((s.af.take j).map tw)):=by
   have:=aM (S:=S++ [O.lst (s.aj.map de.d)]) (o:=O.lst ((s.af.take j).map tw))
   simpa using this
  refine Dd (M.ha A I) rfl (aA (aV (aA (aV (bA ?_)))))
  refine d_ (fK (aw rfl ⟨_,_,rfl,P,?_⟩))
  refine az (tN (az (oO rfl (M.hv A I) (az ?_))))
  refine Hz (f:=λk:Nat=>k) (c:=λf:cz=> [.int f.room,.int f.deed,.int f.row,.int f.given,.int f.told]) (xs:=y.fs) (ys:=fs) rfl (M.hf A I) lx (by omega) (λp R=> ?_) ?_
  ·obtain⟨m,J,K⟩:=jH R
   exact M.hfs A I J K
  refine aZ ⟨by show 2<=_;decide,aZ ⟨_,P,jw (by rw[lQm,Qxq];omega) ?_⟩⟩
  refine⟨⟨_,_,_,_,_,_,rfl⟩,?_⟩
  rw[QYq,I]
  simp[tw,dq]
  exact λ_ _=>rfl
 rintro u C ⟨⟨a,b,c,Y,e,f,rfl⟩,v⟩
 have eh:s.af.take (t.hs.map λx=>D.ref x.a).length=s.af:=by rw[lQm,Z,QEq]
 have v:C=S++ [.lst (s.aj.map de.d)]++ [.lst (s.af.map tw)]:=by rw[v];show S++ [O.lst (s.aj.map de.d)]++ [O.lst ((s.af.take (t.hs.map λx=>D.ref x.a).length).map tw)]=_;rw[eh]
 subst v
 have F:=(g.app (G:= [O.lst (s.aj.map de.d)])).app (G:= [O.lst (s.af.map tw)])
 have gr:(S++ [O.lst (s.aj.map de.d)]++ [O.lst (s.af.map tw)])[S.length]?=some (.lst (s.aj.map de.d)):=aO aM
 have gh:(S++ [O.lst (s.aj.map de.d)]++ [O.lst (s.af.map tw)])[S.length+1]?=some (.lst (s.af.map tw)):=by
  have:=aM (S:=S++ [O.lst (s.aj.map de.d)]) (o:=O.lst (s.af.map tw))
  simpa using this
 refine eV (tN (az (oO rfl gr (az (rZ (qH ?_))))))
 refine iU (α:=GB×(Int×List Int)) (λu=>∃a b,u= [a,b]) (λp=>.ref p.1.a) (λp=>Ik p.2) ⟨none,none,rfl⟩ ?_
 refine bV (aY (aw rfl (cH (bL F.n.top (d:=.ref t.p) rfl (a_ F.n.tp ⟨t.ps.zip s.ai,Bn N,F.n.tp,by rw[List.length_zip];omega,λp R u X=> ?_,?_⟩)))))
 ·obtain⟨a,b,rfl⟩:=X
  obtain⟨m,J,K⟩:=jH R
  refine Dd (F.pa J K) rfl (aA (aV (aA (aV (bA ⟨rfl,⟨_,_,rfl⟩,?_⟩)))))
  exact tN (az (aw rfl (az (oO rfl (F.pr J K) (aZ ⟨by show 2<=_;decide,rfl,rfl⟩)))))
 show E _ _ _ _
 rw[E9 (f:=λp:Int×List Int=>Ik p) N]
 refine az (rZ (sO (bV (aY (aw rfl (cH (bL F.n.top (d:=.ref t.s) rfl (a_ F.n.ts ⟨rfl,?_⟩))))))))
 refine az (oO rfl gh (aZ ⟨by show 4<=_;decide,?_⟩))
 exact v5 (d:=s.d) rG.refl.app.app (bt _) (bE.low _) q
end
structure Bl(lo:Nat)(S:aE)(N:List Nat)(L:List Cell):Prop where
 ho:xx S L
 nd:N.Nodup
 bd:∀a∈N,lo<=a/\a<S.length
def Fy{l m:List Nat}{b:Nat}(f:l.Nodup)(g:m.Nodup)(u:∀a∈l,a<b)(v:∀a∈m,b<=a):(l++m).Nodup:=List.nodup_append.mpr ⟨f,g,λx c y d e=>by have:=u x c;have:=v y d;omega⟩
def Bl.nil{lo:Nat}{S:aE}:Bl lo S [] []:=⟨λp c=>(nomatch c),.nil,λa b=>(nomatch b)⟩
def Bl.add{lo:Nat}{S G:aE}{N M:List Nat}{L K:List Cell}(x:Bl lo S N L)(f:lo<=S.length)(e:xx (S++G) K)(nd:M.Nodup)(c:∀a∈M,S.length<=a/\a<(S++G).length):Bl lo (S++G) (N++M) (L++K):=by
 refine⟨λp d=> ?_,Fy x.nd nd (λa b=>(x.bd a b).2) λa b=>(c a b).1,λa b=> ?_⟩
 ·rcases mQa.mp d with h|h
  ·exact aO (x.ho p h)
  ·exact e p h
 ·rcases mQa.mp b with h|h
  ·have:=x.bd a h
   rw[lQa]
   omega
  ·have:=c a h
   omega
def Bl.put{lo a:Nat}{S:aE}{N:List Nat}{L:List Cell}{o:O}(x:Bl lo S N L)(f:a<lo)(d:∀p∈L,p.1∈N):Bl lo (S.set a o) N L:=⟨λp c=>by
 have:=x.bd p.1 (d p c)
 rw[QKq (by omega)]
 exact x.ho p c,x.nd,λb e=>by simpa using x.bd b e⟩
def Ld{p:FJ×de}{c:Cell}(h:c∈Bf p.1 p.2):c.1∈Cz p.1:=(Dj p).mem (Qkq.mpr ⟨c,h,rfl⟩)
def Eu{α a:Type}{f:α×a->List Cell}{g:α->List Nat}(h:∀p,((f p).map (·.1)).Sublist (g p.1)){xs:List α}{ys:List a}:∀c∈(xs.zip ys).flatMap f,c.1∈xs.flatMap g:=λc b=>(me h xs ys).mem (Qkq.mpr ⟨c,b,rfl⟩)
def mH{α a:Type}{xs:List α}{ys:List a}{x:α}{y:a}(h:xs.length=ys.length):(xs++ [x]).zip (ys++ [y])=xs.zip ys++ [(x,y)]:=by rw[List.zip_append h];rfl
section
variable{S:aE}
def Dl{g:cB}{v:Nat}{ts:List (Str×Nat)}{R:List D->aE->Prop}{f:fw}(j:E f g S λp i=>p=(ts.map lP,.tu)/\i=S)(k:ts.length<=900)(q:R ((bN ts).map D.int) S):E (bD [none,none] (fL f) (lM (nG 2 (aJ (bJ 0) (aJ (bJ 1) dG)))) bK (ar 1)) g S R:=by
 refine iU (α:=Str×Nat) (λc=>∃a b,c= [a,b]) lP (λp=>.int (p.2:Int)) ⟨none,none,rfl⟩ (j.mono λp i h=> ?_)
 obtain⟨rfl,rfl⟩:=h
 refine⟨ts,rfl,trivial,by omega,λp h c d=> ?_,?_⟩
 ·obtain⟨a,b,rfl⟩:=d
  exact gc rfl (aA (aV (aA (aV (bA ⟨rfl,⟨_,_,rfl⟩,aw rfl ⟨rfl,rfl⟩⟩)))))
 ·have e:ts.map (λp=>D.int (p.2:Int))=(bN ts).map D.int:=by unfold bN;rw[QPq];rfl
  rw[e]
  exact q
def Ms{g:cB}{v:Nat}{bs:List (Str×Str)}{R:List D->aE->Prop}(j:g[v]?=some (some (.tup (bs.map ze))))(l:bs.length<=900)(q:R ((List.range bs.length).map λi=>.ref (S.length+i)) (S++List.replicate bs.length (.lst []))):E (bD [none] (fL (aR (ar v))) (bJ 0) bK (bO (bB av))) g S R:=by
 refine jD (j2 (bV (aw j (cx ?_))))
 refine⟨λn b f c=>(∃a,b= [a])/\f=S++List.replicate n (.lst [])/\c=(List.range n).map λi=>.ref (S.length+i),⟨⟨_,rfl⟩,by simp,rfl⟩,λ_ _ _ _ _=>trivial,?_,?_⟩
 ·rintro n d b f c k ⟨⟨a,rfl⟩,rfl,rfl⟩
  have h:=(gQs.mp k).1
  have h:n<bs.length:=by simpa using h
  refine aV (nc ?_)
  rw[Qhq rfl]
  refine dU (dA (aZ ⟨by decide,?_⟩))
  refine⟨bq (by rw[lQm,QVq];omega),⟨_,rfl⟩,?_,?_⟩
  ·rw[Qvq,List.replicate_succ']
  ·rw[List.range_succ,Qzq]
   simp
 ·rintro b f c ⟨⟨a,rfl⟩,rfl,rfl⟩
  have e:(bs.map ze).length=bs.length:=by simp
  show R ((List.range (bs.map ze).length).map _) (S++List.replicate (bs.map ze).length _)
  rw[e]
  exact q
end
section
variable{S:aE}{w:dE}{Q:Res->aE->Prop}
def iV(m:Nat)(r:Rm):FJ:=⟨m+3+r.aa.length+1,m,m+1,m+2,m+3+r.aa.length,(List.range r.aa.length).map (m+3+·)⟩
def nh(m:Nat)(r:Rm):aE:= [cQ (bN r.ao),.lst [],.lst []]++List.replicate r.aa.length (.lst [])++ [.lst ((List.range r.aa.length).map λi=>.ref (m+3+i))]++ [.lst [.ref m,.int (-1),.ref (m+1),.ref (m+2),.ref (m+3+r.aa.length)]]
def GP{m:Nat}{r:Rm}:(nh m r).length=3+r.aa.length+2:=by simp[nh];omega
def nL{r:Rm}{i:Nat}{o:O}(h:(nh S.length r)[i]?=some o):(S++nh S.length r)[S.length+i]?=some o:=by
 rw[QQq (by omega),show S.length+i-S.length=i by omega]
 exact h
def GY(r:Rm):xx (S++nh S.length r) (Bf (iV S.length r) (cq r)):=λp k=>by
 have m:∀j,j<r.aa.length->(nh S.length r)[3+j]?=some (.lst []):=λj d=>by
  unfold nh
  rw[Qvq,Qvq,QQq (by simp),QHq (by simp;omega)]
  simp[d]
 have n:(nh S.length r)[3+r.aa.length]?=some (.lst ((List.range r.aa.length).map λi=>.ref (S.length+3+i))):=by
  unfold nh
  rw[Qvq,QQq (by simp;omega),show 3+r.aa.length-([cQ (bN r.ao),O.lst [],O.lst []]++List.replicate r.aa.length (O.lst [])).length=0 by simp;omega]
  rfl
 have e:(nh S.length r)[3+r.aa.length+1]?=some (.lst [.ref S.length,.int (-1),.ref (S.length+1),.ref (S.length+2),.ref (S.length+3+r.aa.length)]):=by
  unfold nh
  rw[QQq (by simp;omega),show 3+r.aa.length+1-([cQ (bN r.ao),O.lst [],O.lst []]++List.replicate r.aa.length (O.lst [])++ [O.lst ((List.range r.aa.length).map λi=>D.ref (S.length+3+i))]).length=0 by simp;omega]
  rfl
 rcases mQa.mp k with h|h
 ·simp only[Qsq,QXq,or_false] at h
  rcases h with rfl|rfl|rfl|rfl|rfl
  ·have:=nL (S:=S) e
   rw[show S.length+(3+r.aa.length+1)=S.length+3+r.aa.length+1 by omega] at this
   exact this
  ·exact nL (S:=S) (i:=0) rfl
  ·exact nL (S:=S) (i:=1) rfl
  ·exact nL (S:=S) (i:=2) rfl
  ·have:=nL (S:=S) n
   rw[show S.length+(3+r.aa.length)=S.length+3+r.aa.length by omega] at this
   show _=some (O.lst (((List.range r.aa.length).map (S.length+3+·)).map D.ref))
   rw[QPq]
   exact this
 ·obtain⟨q,g,rfl⟩:=Qkq.mp h
  obtain⟨j,a,c⟩:=jH g
  have a:((List.range r.aa.length).map (S.length+3+·))[j]?=some q.1:=a
  have c:(r.aa.map λ_=>([]:List (Int×Int)))[j]?=some q.2:=c
  rw[gQm] at a c
  obtain⟨o,a,l⟩:=oQm.mp a
  obtain⟨b,c,f⟩:=oQm.mp c
  have d:=(gQs.mp c).1
  rw[List.getElem?_range d] at a
  cases a
  have:=nL (S:=S) (m j d)
  rw[show S.length+(3+j)=S.length+3+j by omega] at this
  show(S++nh S.length r)[q.1]?=some (AK q.2)
  rw[←l,←f]
  exact this
def Im(m:Nat)(r:Rm):(Cz (iV m r)).Nodup/\∀a∈Cz (iV m r),m<=a/\a<m+(3+r.aa.length+2):=by
 have k:((List.range r.aa.length).map (m+3+·)).Nodup:=List.Pairwise.map (R:=(·≠·)) (S:=(·≠·)) _ (λa b n e=>n (by omega)) List.nodup_range
 have d:∀a∈(List.range r.aa.length).map (m+3+·),m+3<=a/\a<m+3+r.aa.length:=λa c=>by
  obtain⟨j,i,rfl⟩:=Qkq.mp c
  have:=List.mem_range.mp i
  omega
 constructor
 ·unfold Cz
  rw[List.nodup_append]
  refine⟨?_,k,λx f y g e=> ?_⟩
  ·simp only[iV,List.nodup_cons,Qsq,QXq,or_false,not_or,not_false_eq_true,List.nodup_nil,and_true]
   omega
  ·have:=d y g
   simp only[iV,Qsq,QXq,or_false] at f
   omega
 ·intro a c
  rcases mQa.mp c with h|h
  ·simp only[iV,Qsq,QXq,or_false] at h
   omega
  ·have:=d a h
   omega
def iR(m:Nat):CB:=⟨m+3,m,m+2,[m+1]⟩
def BD(m:Nat)(h:List (Str×Nat)×List Rw):aE:= [cQ (bN h.1),qW xp,.lst [.ref (m+1)],.lst [.ref m,.ref (m+2)]]
def FL(h:List (Str×Nat)×List Rw):xx (S++BD S.length h) (wQ (iR S.length) (bN h.1,[xp])):=λp b=>by
 have a:∀{i:Nat} {o:O},(BD S.length h)[i]?=some o->(S++BD S.length h)[S.length+i]?=some o:=λ{i o} z=>by
  rw[QQq (by omega),show S.length+i-S.length=i by omega]
  exact z
 simp only[wQ,iR,List.zip_cons_cons,List.zip_nil_right,QDq,List.map_nil,List.cons_append,List.nil_append,Qsq,QXq,or_false] at b
 rcases b with rfl|rfl|rfl|rfl
 ·exact a (i:=3) rfl
 ·exact a (i:=0) rfl
 ·exact a (i:=2) rfl
 ·exact a (i:=1) rfl
def El(m:Nat):(AJ (iR m)).Nodup/\∀a∈AJ (iR m),m<=a/\a<m+4:=by
 constructor
 ·simp only[AJ,iR,List.cons_append,List.nil_append,List.nodup_cons,Qsq,QXq,or_false,not_or,not_false_eq_true,List.nodup_nil,and_true]
  omega
 ·intro a b
  simp only[AJ,iR,List.cons_append,List.nil_append,Qsq,QXq,or_false] at b
  omega
def Ew{T X:aE}{o a:O}:(T++o::X).set T.length a=T++a::X:=by
 rw[List.set_append_right _ _ (Qmq _)]
 simp
end
section
variable{S:aE}{w:dE}{Q:Res->aE->Prop}
def mB(h:List (Str×Nat)×List Rw):List Int×List cz:=(bN h.1,[xp])
def mW(p:Str×Nat):Int×List Int:=((p.2:Int),[])
def zv{T X:aE}{o:O}:(T++o::X)[T.length]?=some o:=by rw[QQq (Qmq _)];simp
def Ir(o:eW w)(q:∀(L:aE) (t:zB),t.k=L.length->Go S.length S (L++ [.lst [.ref t.r,.ref t.p,.ref t.s,.ref t.h]]) t (df w)->Q (.l [.ref t.r,.ref t.p,.ref t.s,.ref t.h]) L):Fn jn [w.d] S Q:=by
 have b1:=o.l1
 have b2:=o.l2
 have b3:=o.l3
 have b4:=o.l4
 refine B5 ?_
 unfold m5
 refine aI (cK (dU (dA (aZ ⟨by decide,?_⟩))))
 refine aI (gZ (j2 (bV (aY (aw rfl (cH (ay (d:=.tup (w.aj.map Rm.d)) rfl (cx ?_))))))))
 refine⟨λj A L=>(∃a b c d e,A= [some w.d,some (.ref S.length),a,b,c,d,e,none,none])/\∃(g:List FJ) (X:aE),L=S++.lst (g.map λx=>.ref x.a)::X/\g.length=j/\Bl (S.length+1) L (g.flatMap Cz) ((g.zip ((w.aj.take j).map cq)).flatMap λp=>Bf p.1 p.2)/\∀p∈g.zip ((w.aj.take j).map cq),p.1.bs.length=p.2.aa.length,⟨⟨_,_,_,_,_,rfl⟩,[],[],rfl,rfl,by simpa using Bl.nil,λp I=>by simp at I⟩,λ_ _ _ _=>trivial,?_,?_⟩
 ·rintro j d A L P ⟨⟨a,b,c,d',e,rfl⟩,g,X,rfl,Z,bl,lb⟩
  have P:(w.aj.map Rm.d)[j]?=some d:=P
  rw[gQm] at P
  obtain⟨r,hr,rfl⟩:=oQm.mp P
  have hj:=(gQs.mp hr).1
  have a2:=o.rm r (mQg hr)
  have k1:=a2.l1
  have k2:=a2.l2
  have gA:(S++O.lst (g.map λx=>D.ref x.a)::X)[S.length]?=some (.lst (g.map λx=>.ref x.a)):=zv
  have a0:(S++O.lst (g.map λx=>D.ref x.a)::X).length=S.length+1+X.length:=by simp;omega
  have hG:=GP (m:=(S++O.lst (g.map λx=>D.ref x.a)::X).length) (r:=r)
  have N:=bl.add (G:=nh (S++O.lst (g.map λx=>D.ref x.a)::X).length r) (by omega) (GY r) (Im _ r).1 (λa ha=>by
   have:=(Im (S++O.lst (g.map λx=>D.ref x.a)::X).length r).2 a ha
   rw[lQa (bs:=nh _ r),hG]
   omega)
  refine gc rfl (aA (aV (aA (aV (aA (aV (aA (aV (aA (aV (bA ?_)))))))))))
  refine d_ (fK (aw rfl ⟨_,_,rfl,gA,?_⟩))
  generalize hT:S++O.lst (g.map λx=>D.ref x.a)::X=T at gA a0 hG bl N⊢
  refine az (dU (dA (az (dU (Dl (v:=0) (ts:=r.ao) (bV (aw rfl (cx ⟨rfl,rfl⟩))) (by omega) ?_)))))
  refine az (ke (cH ⟨1,rfl,az (dU (dA (aZ ⟨by decide,az (dU (dA (aZ ⟨by decide,az (dU (Ms (bs:=r.aa) rfl (by omega) ?_))⟩)))⟩)))⟩))
  refine aZ ⟨by show 5<=_;decide,aZ ?_⟩
  have eS:T++ [O.lst ((bN r.ao).map D.int)]++ [O.lst []]++ [O.lst []]++List.replicate r.aa.length (O.lst [])++ [O.lst ((List.range r.aa.length).map λi=>D.ref ((T++ [O.lst ((bN r.ao).map D.int)]++ [O.lst []]++ [O.lst []]).length+i))]++ [O.lst [.ref T.length,.int (-1),.ref (T++ [O.lst ((bN r.ao).map D.int)]).length,.ref (T++ [O.lst ((bN r.ao).map D.int)]++ [O.lst []]).length,.ref (T++ [O.lst ((bN r.ao).map D.int)]++ [O.lst []]++ [O.lst []]++List.replicate r.aa.length (O.lst [])).length]]=T++nh T.length r:=by
   unfold nh
   simp[cQ]
   omega
  have eL:(T++ [O.lst ((bN r.ao).map D.int)]++ [O.lst []]++ [O.lst []]++List.replicate r.aa.length (O.lst [])++ [O.lst ((List.range r.aa.length).map λi=>D.ref ((T++ [O.lst ((bN r.ao).map D.int)]++ [O.lst []]++ [O.lst []]).length+i))]).length=(iV T.length r).a:=by
   simp[iV]
   omega
  rw[eS,eL]
  refine⟨_,aO gA,jw (by rw[lQm];omega) ?_⟩
  refine⟨⟨_,_,_,_,_,rfl⟩,g++ [iV T.length r],X++nh T.length r,?_,by simp[Z],?_,?_⟩
  ·rw[←hT,Qzq,Qvq,List.cons_append,Ew]
   rfl
  ·have:=N.put (a:=S.length) (o:=.lst (g.map (λx=>D.ref x.a)++ [.ref (iV T.length r).a])) (by omega) (λp I=>by
    rcases mQa.mp I with h|h
    ·exact mQa.mpr (.inl (Eu Dj p h))
    ·exact mQa.mpr (.inr (Ld (p:=(iV T.length r,cq r)) h)))
   rw[QYq,hr,Qzq]
   show Bl _ _ ((g++ [iV T.length r]).flatMap Cz) (((g++ [iV T.length r]).zip ((w.aj.take j).map cq++ [cq r])).flatMap _)
   rw[mH (by rw[lQm,Qxq];omega),List.flatMap_append,List.flatMap_append]
   simpa using this
  ·rw[QYq,hr,Qzq]
   show∀p∈(g++ [iV T.length r]).zip ((w.aj.take j).map cq++ [cq r]),_
   rw[mH (by rw[lQm,Qxq];omega)]
   intro p I
   rcases mQa.mp I with h|h
   ·exact lb p h
   ·rw[Qfq.mp h]
    simp[iV,cq]
 rintro A B ⟨⟨a,b,c,d',e,rfl⟩,g,X,hS2,Z,H,lb⟩
 have Z:g.length=(w.aj.map Rm.d).length:=Z
 rw[lQm] at Z
 have a5:w.aj.take (w.aj.map Rm.d).length=w.aj:=by rw[lQm,QEq]
 have H:Bl (S.length+1) B (g.flatMap Cz) ((g.zip ((w.aj.take (w.aj.map Rm.d).length).map cq)).flatMap λp=>Bf p.1 p.2):=H
 have lb:∀p∈g.zip ((w.aj.take (w.aj.map Rm.d).length).map cq),p.1.bs.length=p.2.aa.length:=lb
 rw[a5] at H lb
 have gA:B[S.length]?=some (.lst (g.map λx=>.ref x.a)):=by rw[hS2];exact zv
 have a8:S.length+1<=B.length:=by rw[hS2];simp
 refine aI (cK (dU (dA (aZ ⟨by decide,?_⟩))))
 refine aI (gZ (j2 (bV (aY (aw rfl (cH (ay (d:=.tup (w.af.map eY)) rfl (cx ?_))))))))
 refine⟨λj A L=>(∃a b c d e f,A= [some w.d,some (.ref S.length),a,b,c,d,e,some (.ref B.length),f])/\∃(n:List CB) (X:aE),L=B++.lst (n.map λx=>.ref x.a)::X/\n.length=j/\Bl (B.length+1) L (n.flatMap AJ) ((n.zip ((w.af.take j).map mB)).flatMap λp=>wQ p.1 p.2)/\∀p∈n.zip ((w.af.take j).map mB),p.1.fs.length=p.2.2.length,⟨⟨_,_,_,_,_,_,rfl⟩,[],[],rfl,rfl,by simpa using Bl.nil,λp I=>by simp at I⟩,λ_ _ _ _=>trivial,?_,?_⟩
 ·rintro j d A L P ⟨⟨a,b,c,d',e,f,rfl⟩,n,Y,rfl,U,bl,lf⟩
  have P:(w.af.map eY)[j]?=some d:=P
  rw[gQm] at P
  obtain⟨r,hr,rfl⟩:=oQm.mp P
  have hj:=(gQs.mp hr).1
  have k1:=(o.hd r (mQg hr)).l1
  have gH:(B++O.lst (n.map λx=>D.ref x.a)::Y)[B.length]?=some (.lst (n.map λx=>.ref x.a)):=zv
  have a0:(B++O.lst (n.map λx=>D.ref x.a)::Y).length=B.length+1+Y.length:=by simp;omega
  have N:=bl.add (G:=BD (B++O.lst (n.map λx=>D.ref x.a)::Y).length r) (by omega) (K:=wQ (iR (B++O.lst (n.map λx=>D.ref x.a)::Y).length) (mB r)) (FL r) (El _).1 (λa ha=>by
   have:=(El (B++O.lst (n.map λx=>D.ref x.a)::Y).length).2 a ha
   rw[lQa (bs:=BD _ r)]
   show _/\_<_+4
   omega)
  refine gc rfl (aA (aV (aA (aV (bA ?_)))))
  refine d_ (fK (aw rfl ⟨_,_,rfl,gH,?_⟩))
  generalize hT:B++O.lst (n.map λx=>D.ref x.a)::Y=T at gH a0 bl N⊢
  refine az (dU (dA (az (dU (Dl (v:=0) (ts:=r.1) (bV (aw rfl (cx ⟨rfl,rfl⟩))) (by omega) ?_)))))
  refine az (dU (dA (az (dU (dA (az (ke (cH ⟨1,rfl,az (ke (cH ⟨1,rfl,az (cH (az (cH (az (cH (aZ ⟨by show 5<=_;decide,aZ ⟨by show 1<=_;decide,aZ ⟨by show 2<=_;decide,aZ ?_⟩⟩⟩))))))⟩))⟩))))))))
  have eS:T++ [O.lst ((bN r.1).map D.int)]++ [O.lst [.int (-1),.int (-1),.int 0,.int 0,.int 0]]++ [O.lst [.ref (T++ [O.lst ((bN r.1).map D.int)]).length]]++ [O.lst [.ref T.length,.ref (T++ [O.lst ((bN r.1).map D.int)]++ [O.lst [.int (-1),.int (-1),.int 0,.int 0,.int 0]]).length]]=T++BD T.length r:=by
   simp[BD,cQ,qW,xp]
  have eL:(T++ [O.lst ((bN r.1).map D.int)]++ [O.lst [.int (-1),.int (-1),.int 0,.int 0,.int 0]]++ [O.lst [.ref (T++ [O.lst ((bN r.1).map D.int)]).length]]).length=(iR T.length).a:=by
   simp[iR]
  rw[eS,eL]
  refine⟨_,aO gH,jw (by rw[lQm];omega) ?_⟩
  refine⟨⟨_,_,_,_,_,_,rfl⟩,n++ [iR T.length],Y++BD T.length r,?_,by simp[U],?_,?_⟩
  ·rw[←hT,Qzq,Qvq,List.cons_append,Ew]
   rfl
  ·have:=N.put (a:=B.length) (o:=.lst (n.map (λx=>D.ref x.a)++ [.ref (iR T.length).a])) (by omega) (λp I=>by
    rcases mQa.mp I with h|h
    ·exact mQa.mpr (.inl (Eu Dg p h))
    ·exact mQa.mpr (.inr ((Dg (iR T.length,mB r)).mem (Qkq.mpr ⟨p,h,rfl⟩))))
   rw[QYq,hr,Qzq]
   show Bl _ _ ((n++ [iR T.length]).flatMap AJ) (((n++ [iR T.length]).zip ((w.af.take j).map mB++ [mB r])).flatMap _)
   rw[mH (by rw[lQm,Qxq];omega),List.flatMap_append,List.flatMap_append]
   simpa using this
  ·rw[QYq,hr,Qzq]
   show∀p∈(n++ [iR T.length]).zip ((w.af.take j).map mB++ [mB r]),_
   rw[mH (by rw[lQm,Qxq];omega)]
   intro p I
   rcases mQa.mp I with h|h
   ·exact lf p h
   ·rw[Qfq.mp h]
    rfl
 rintro A S4 ⟨⟨a,b,c,d',e,f,rfl⟩,n,Y,hS4,U,F,lf⟩
 have U:n.length=(w.af.map eY).length:=U
 rw[lQm] at U
 have a3:w.af.take (w.af.map eY).length=w.af:=by rw[lQm,QEq]
 have F:Bl (B.length+1) S4 (n.flatMap AJ) ((n.zip ((w.af.take (w.af.map eY).length).map mB)).flatMap λp=>wQ p.1 p.2):=F
 have lf:∀p∈n.zip ((w.af.take (w.af.map eY).length).map mB),p.1.fs.length=p.2.2.length:=lf
 rw[a3] at F lf
 have gH:S4[B.length]?=some (.lst (n.map λx=>.ref x.a)):=by rw[hS4];exact zv
 have b0:B.length+1<=S4.length:=by rw[hS4];simp
 refine Ma (dA (az (aw rfl (az (dU (jD (j2 (bV (aY (aw rfl (cH (ay (d:=.tup (w.ai.map lP)) rfl (cx ?_)))))))))))))
 refine⟨λj A L a1=>(∃a b,A= [a,b])/\∃(u:List GB) (G:aE),L=S4++G/\u.length=j/\a1=u.map (λx=>.ref x.a)/\Bl S4.length L (u.flatMap KD) ((u.zip ((w.ai.take j).map mW)).flatMap λp=>KW p.1 p.2),⟨⟨_,_,rfl⟩,[],[],by simp,rfl,rfl,by simpa using Bl.nil⟩,λ_ _ _ _ _=>trivial,?_,?_⟩
 ·rintro j d A L a1 P ⟨⟨a,b,rfl⟩,u,G,rfl,R,rfl,bl⟩
  have P:(w.ai.map lP)[j]?=some d:=P
  rw[gQm] at P
  obtain⟨p,I,rfl⟩:=oQm.mp P
  have hj:=(gQs.mp I).1
  generalize hT:S4++G=T at bl⊢
  have a4:S4.length<=T.length:=by rw[←hT];simp
  have N:=bl.add (G:= [O.lst [],O.lst [.int (p.2:Int),.ref T.length]]) (M:=KD ⟨T.length+1,T.length⟩) (K:=KW ⟨T.length+1,T.length⟩ (mW p)) a4 (λc hc=>by
   simp only[KW,mW,Qsq,QXq,or_false] at hc
   rcases hc with rfl|rfl
   ·show(T++ [O.lst [],O.lst [.int (p.2:Int),.ref T.length]])[T.length+1]?=_
    rw[QQq (by omega),show T.length+1-T.length=1 by omega]
    rfl
   ·show(T++ [O.lst [],O.lst [.int (p.2:Int),.ref T.length]])[T.length]?=_
    rw[QQq (by omega),show T.length-T.length=0 by omega]
    rfl) (by simp[KD]) (λa ha=>by
   simp only[KD,Qsq,QXq,or_false] at ha
   rw[lQa]
   show _/\_<_+2
   omega)
  refine gc rfl (aA (aV (aA (aV (bA (nc ?_))))))
  rw[Qhq rfl]
  refine dU (dA (az (aw rfl (az (dU (dA (aZ ⟨by decide,aZ ⟨by show 2<=_;decide,?_⟩⟩)))))))
  refine⟨bq (by rw[lQm];omega),⟨_,_,rfl⟩,u++ [⟨T.length+1,T.length⟩],G++ [O.lst [],O.lst [.int (p.2:Int),.ref T.length]],?_,by simp[R],?_,?_⟩
  ·rw[←Qvq,hT]
   simp
  ·simp
  ·rw[QYq,I,Qzq]
   show Bl _ _ ((u++ [(⟨T.length+1,T.length⟩:GB)]).flatMap KD) (((u++ [(⟨T.length+1,T.length⟩:GB)]).zip ((w.ai.take j).map mW++ [mW p])).flatMap _)
   rw[mH (by rw[lQm,Qxq];omega),List.flatMap_append,List.flatMap_append]
   simpa using N
 rintro A J a1 ⟨⟨a',b',rfl⟩,u,G,hS5,R,rfl,C⟩
 have R:u.length=(w.ai.map lP).length:=R
 rw[lQm] at R
 have a6:w.ai.take (w.ai.map lP).length=w.ai:=by rw[lQm,QEq]
 have C:Bl S4.length J (u.flatMap KD) ((u.zip ((w.ai.take (w.ai.map lP).length).map mW)).flatMap λp=>KW p.1 p.2):=C
 rw[a6] at C
 have b5:S4.length<=J.length:=by rw[hS5];simp
 refine az (dU (Dl (v:=0) (ts:=w.ak) (bV (aY (aw rfl (cH (ay (d:=.tup (w.ak.map lP)) rfl (cx ⟨rfl,rfl⟩)))))) (by omega) ?_))
 refine az (aw rfl (aZ ⟨by show 4<=_;decide,?_⟩))
 have e6:(J++ [O.lst (u.map λx=>D.ref x.a)]).length=J.length+1:=by simp
 rw[e6]
 refine q _ ⟨J.length+2,S.length,J.length,J.length+1,B.length,g,u,n⟩ (by simp) ?_
 generalize hW:J++ [O.lst (u.map λx=>D.ref x.a)]++ [O.lst ((bN w.ak).map D.int)]++ [O.lst [.ref S.length,.ref J.length,.ref (J.length+1),.ref B.length]]=W
 have w5:∀{j:Nat} {o:O},J[j]?=some o->W[j]?=some o:=λz=>by rw[←hW];exact aO (aO (aO z))
 have w4:∀{j:Nat} {o:O},S4[j]?=some o->W[j]?=some o:=λz=>w5 (by rw[hS5];exact aO z)
 have w2:∀{j:Nat} {o:O},B[j]?=some o->W[j]?=some o:=λz=>w4 (by rw[hS4];exact aO z)
 have w0:∀{j:Nat} {o:O},S[j]?=some o->W[j]?=some o:=λz=>w2 (by rw[hS2];exact aO z)
 have wl:W.length=J.length+3:=by rw[←hW];simp
 have er:(df w).aj=w.aj.map cq:=rfl
 have ep:(df w).ai=w.ai.map mW:=rfl
 have eh:(df w).af=w.af.map mB:=rfl
 refine⟨⟨λp I=> ?_,?_,?_,by rw[er,lQm];exact Z,by rw[ep,lQm];exact R,by rw[eh,lQm];exact U,lb,lf⟩,⟨by omega,λj hj=> ?_⟩,Qmq _⟩
 ·rcases p6 I with h|⟨c,hc,h⟩|⟨c,hc,h⟩|⟨c,hc,h⟩
  ·simp only[Qsq,QXq,or_false] at h
   rcases h with rfl|rfl|rfl|rfl|rfl
   ·rw[←hW]
    have:=aM (S:=J++ [O.lst (u.map λx=>D.ref x.a)]++ [O.lst ((bN w.ak).map D.int)]) (o:=O.lst [.ref S.length,.ref J.length,.ref (J.length+1),.ref B.length])
    simpa using this
   ·exact w2 gA
   ·rw[←hW]
    exact aO (aO aM)
   ·rw[←hW]
    have:=aM (S:=J++ [O.lst (u.map λx=>D.ref x.a)]) (o:=O.lst ((bN w.ak).map D.int))
    rw[e6] at this
    exact aO this
   ·exact w4 gH
  ·exact w2 (H.ho p (QOq.mpr ⟨c,hc,h⟩))
  ·exact w5 (C.ho p (QOq.mpr ⟨c,hc,h⟩))
  ·exact w4 (F.ho p (QOq.mpr ⟨c,hc,h⟩))
 ·unfold zX
  rw[List.nodup_append,List.nodup_append,List.nodup_append]
  refine⟨?_,⟨H.nd,⟨C.nd,F.nd,λx hx y hy e=> ?_⟩,λx hx y hy e=> ?_⟩,λx hx y hy e=> ?_⟩
  ·simp only[List.nodup_cons,Qsq,QXq,or_false,not_or,not_false_eq_true,List.nodup_nil,and_true]
   omega
  ·have:=C.bd x hx
   have:=F.bd y hy
   omega
  ·have:=H.bd x hx
   rcases mQa.mp hy with h|h
   ·have:=C.bd y h
    omega
   ·have:=F.bd y h
    omega
  ·simp only[Qsq,QXq,or_false] at hx
   rcases mQa.mp hy with h|h
   ·have:=H.bd y h
    omega
   ·rcases mQa.mp h with h|h
    ·have:=C.bd y h
     omega
    ·have:=F.bd y h
     omega
 ·intro a ha
  rcases mQa.mp ha with h|h
  ·simp only[Qsq,QXq,or_false] at h
   omega
  ·rcases mQa.mp h with h|h
   ·have:=H.bd a h
    omega
   ·rcases mQa.mp h with h|h
    ·have:=C.bd a h
     omega
    ·have:=F.bd a h
     omega
 ·exact(w0 (gQe hj)).trans (gQe hj).symm
end
section
variable{S S0:aE}{Q:Res->aE->Prop}
def Pl:Nat->D->Prop
 |0,_=>False
 |_+1,.int _=>True
 |_+1,.str _=>True
 |_+1,.non=>True
 |n+1,.tup ds=>ds.length<=1000/\∀d∈ds,Pl n d
 |_+1,_=>False
theorem Ck:∀ds:List D,Cf ds ds=ds.map λd=>D.tup [d,d]
 | []=>rfl
 | d::ds=>by
   have:=Ck ds
   simp only[Cf,List.zipWith_cons_cons,QDq] at this⊢
   rw[this]
theorem D4:∀(n:Nat) (d:D) {S:aE} {Q:Res->aE->Prop},Pl n d->Q (.d (.bl true)) S->Fn (gL n) [d,d] S Q
 |0,_,_,_,h,_=>h.elim
 | n+1,.int i,S,Q,_,q=>by
   refine bZ ?_
   unfold gS
   refine aI (bP (b_ (d:=.int i) (aw rfl ⟨rfl,rfl⟩) rfl ?_))
   refine aK (λc=>by cases c) (λ_=>bX ?_)
   refine aI (bP (Ea (b_ (d:=.int i) (aw rfl ⟨rfl,rfl⟩) rfl ?_)))
   apply aK (λc=>by cases c) (λ_=> ?_)
   refine Ef ?_
   refine aK (λc=>by cases c) (λ_=>bX ?_)
   refine eV (mR (vn (aw rfl ⟨_,rfl,true,rfl,?_⟩)))
   rw[Qhq rfl]
   refine mR (MC (vn (aw rfl ⟨_,rfl,false,rfl,true,rfl,?_⟩)))
   rw[Qhq rfl]
   symm
   refine dR ?_
   rw[Qeq rfl]
   exact cW (λk z=>(nomatch z)) rfl q
 | n+1,.str i,S,Q,_,q=>by
   refine bZ ?_
   unfold gS
   refine aI (bP (b_ (d:=.str i) (aw rfl ⟨rfl,rfl⟩) rfl ?_))
   refine aK (λc=>by cases c) (λ_=>bX ?_)
   refine aI (bP (Ea (b_ (d:=.str i) (aw rfl ⟨rfl,rfl⟩) rfl ?_)))
   refine aK (λ_=> ?_) (λc=>by cases c)
   refine aK (λ_=> ?_) (λc=>by cases c)
   refine eV (mR (aY (vn (aw rfl ⟨_,rfl,vn (aw rfl ⟨_,rfl,.bl true,rfl,true,rfl,?_⟩)⟩))))
   rw[Qhq rfl]
   symm
   refine gE ?_
   rw[Qeq rfl]
   exact cW (λk z=>(nomatch z)) rfl q
 | n+1,.non,S,Q,_,q=>by
   refine bZ ?_
   unfold gS
   refine aI (bP (b_ (d:=.non) (aw rfl ⟨rfl,rfl⟩) rfl ?_))
   refine aK (λc=>by cases c) (λ_=>bX ?_)
   refine aI (bP (Ea (b_ (d:=.non) (aw rfl ⟨rfl,rfl⟩) rfl ?_)))
   apply aK (λc=>by cases c) (λ_=> ?_)
   refine Ef ?_
   refine aK (λ_=> ?_) (λc=>by cases c)
   refine eV (mR (aY (vn (aw rfl ⟨_,rfl,vn (aw rfl ⟨_,rfl,.bl true,rfl,true,rfl,?_⟩)⟩))))
   rw[Qhq rfl]
   symm
   refine⟨.bl true,rfl,?_⟩
   exact cW (λk z=>(nomatch z)) rfl q
 | n+1,.tup ds,S,Q,h,q=>by
   refine bZ ?_
   unfold gS
   refine aI (bP (b_ (d:=.tup ds) (aw rfl ⟨rfl,rfl⟩) rfl ?_))
   refine aK (λ_=> ?_) (λc=>by cases c)
   refine aI (bP (Ea (vO (b_ (d:=.tup ds) (aw rfl ⟨rfl,rfl⟩) rfl ?_))))
   apply aK (λc=>by cases c) (λ_=> ?_)
   refine mh ?_
   rw[Qeq rfl]
   refine aK (λc=>by cases c) (λ_=>bX ?_)
   refine eV (M6 (qH ?_))
   apply nN (α:=D) (λe=>∃a b,e= [a,b]) (λd=>D.tup [d,d]) (λ_=>.bl true) (λ_=>true) ⟨none,none,rfl⟩ (Hx ?_)
   refine⟨⟨trivial,Qmq _⟩,ds,Ck ds,⟨trivial,trivial⟩,h.1,λd g e f=> ?_,?_⟩
   · obtain⟨a,b,rfl⟩:=f
     refine gc rfl (aA (aV (aA (aV (bA ?_)))))
     apply⟨rfl,⟨_,_,rfl⟩,nc ⟨rfl,rfl,λ_=> ?_⟩⟩
     exact D4 n d (h.2 d g) ⟨rfl,rfl⟩
   · refine⟨rfl,List.replicate ds.length true,?_,?_⟩
     · rw[←BV]
       congr 1
       rw[List.filter_eq_self.mpr (λ_ _=>rfl),List.map_const']
     · have:(List.replicate ds.length true).all id=true:=by simp
       rw[this]
       exact cW (λk z=>(nomatch z)) rfl q
end
section
variable{S S0:aE}{Q:Res->aE->Prop}
def nB{n:Nat}{l:List Int}(h:l.length<=1000):Pl (n+2) (dq l):=⟨by simpa using h,λd b=>by
 obtain⟨a,_,rfl⟩:=Qkq.mp b
 exact trivial⟩
def sE{α:Type}{n:Nat}{f:α->D}{l:List α}(h:l.length<=1000)(c:∀a∈l,Pl n (f a)):Pl (n+1) (.tup (l.map f)):=⟨by simpa using h,λd e=>by
 obtain⟨a,b,rfl⟩:=Qkq.mp e
 exact c a b⟩
def G3{w:dE}{n:Nat}{s:bE}(o:eW w)(x:di w n s)(H:n<=100):Pl 9 s.d:=by
 have N:=o.l1
 have C:=o.l2
 have R:=o.l3
 have K:=o.l4
 have A:=x.lr
 have J:=x.lp
 have M:=x.ls
 have L:=x.lh
 refine⟨by show 4<=1000;decide,λd a=> ?_⟩
 simp only[Qsq,QXq,or_false] at a
 rcases a with rfl|rfl|rfl|rfl
 ·refine sE (n:=7) (by omega) λr m=> ?_
  obtain⟨i,j,e⟩:=QbQ m
  have k:s.aj[i]?=some r:=by rw[gQe j,e]
  have g:w.aj[i]?=some (w.aj[i]'(by omega)):=gQe (by omega)
  have c:=x.rm i _ r g k
  have b:=o.rm _ (mQg g)
  have q:=b.l1
  have y:=b.l2
  have v:=c.lv
  have I:=c.lb
  have F:=c.br
  have z:=c.bl
  refine⟨by show 5<=1000;decide,λd a=> ?_⟩
  simp only[Qsq,QXq,or_false] at a
  rcases a with rfl|rfl|rfl|rfl|rfl
  ·exact nB (by omega)
  ·exact trivial
  ·exact nB (by omega)
  ·exact nB (by omega)
  ·refine sE (n:=5) (by omega) λl u=> ?_
   have:=c.bb l u
   refine sE (n:=4) (by omega) λp h=> ?_
   refine⟨by show 2<=1000;decide,λd a=> ?_⟩
   simp only[Qsq,QXq,or_false] at a
   rcases a with rfl|rfl <;>exact trivial
 ·refine sE (n:=7) (by omega) λp h=> ?_
  have:=x.ps p h
  refine⟨by show 2<=1000;decide,λd a=> ?_⟩
  simp only[Qsq,QXq,or_false] at a
  rcases a with rfl|rfl
  ·exact trivial
  ·exact nB (by omega)
 ·exact nB (by omega)
 ·refine sE (n:=7) (by omega) λp h=> ?_
  obtain⟨i,j,e⟩:=QbQ h
  have k:s.af[i]?=some (p.1,p.2):=by rw[gQe j,e]
  obtain⟨P,B,g,t⟩:=x.whand k
  have q:=(o.hd _ (mQg g)).l1
  have y:=t.lv
  have v:=t.lf
  refine⟨by show 2<=1000;decide,λd a=> ?_⟩
  simp only[Qsq,QXq,or_false] at a
  rcases a with rfl|rfl
  ·exact nB (by dsimp only at q;omega)
  ·refine sE (n:=5) (by omega) λf G=> ?_
   refine⟨by show 5<=1000;decide,λd a=> ?_⟩
   simp only[Qsq,QXq,or_false] at a
   rcases a with rfl|rfl|rfl|rfl|rfl <;>exact trivial
def Oh{w:dE}{n h:Nat}{s:bE}{e:Option Int}(o:eW w)(x:di w n s)(b:n<=100):Pl 10 (JJ s h e):=by
 refine⟨by show 2<=1000;decide,λd a=> ?_⟩
 simp only[Qsq,QXq,or_false] at a
 rcases a with rfl|rfl
 ·exact G3 o x b
 ·cases e with
  |none=>exact trivial
  | some v=>
    refine⟨by show 2<=1000;decide,λd a=> ?_⟩
    simp only[Qsq,QXq,or_false] at a
    rcases a with rfl|rfl <;>exact trivial
def IE{w:dE}:Nn (df w):=λr a=>by
 obtain⟨q,_,rfl⟩:=Qkq.mp a
 exact⟨by show -1<=(-1:Int);decide,λ_ h=>(nomatch h),λ_ h=>(nomatch h),λl c p d=>by
  obtain⟨b,_,rfl⟩:=Qkq.mp c
  exact(nomatch d)⟩
def Go.re{lo k:Nat}{S0 S a:aE}{t:zB}{s:bE}(g:Go lo S0 S t s)(c:k<lo)(x:Ex k S a):Go lo a a t s:=
 ⟨⟨λp b=>x.keep p.1 p.2 (by have:=g.n.lo p.1 ((yB t s).mem (Qkq.mpr ⟨p,b,rfl⟩));omega) (g.n.ho p b),g.n.nd,g.n.lo,g.n.lr,g.n.lp,g.n.lh,g.n.lb,g.n.lf⟩,AX.refl,by have:=g.k.len;have:=g.l;have:=x.len;omega⟩
def Ex.kept{k:Nat}{S d S2:aE}(x:Ex k S d)(e:k<S.length)(y:AX S.length d S2):Ex k S S2:=by
 obtain⟨a,b,c,h⟩:=x.pot
 exact⟨QAq x.len y.len,λj o n h=>by rw[y.eq j (gQs.mp h).1];exact x.keep j o n h,a,b,c,by rw[y.eq k e];exact h⟩
def Iv{w:dE}{k m:Nat}(o:eW w)(x:Ex k S0 S)(hm:m<=60)(q:∀i,Ex k S0 i->Q (.d (.bl true)) i):Fn k8 [.ref k,w.d,.int m] S Q:=by
 have y:Ex k S S:=by obtain⟨a,b,c,B⟩:=x.pot;exact Ex.refl B
 have I:=x.lt
 refine bZ ?_
 unfold pd
 refine aI (cK (dU (EC (az (aw rfl (aZ (Ir o λS1 t ht g=> ?_)))))))
 refine PM ?_
 rw[←ht]
 have A:=y.kept I g.k
 symm
 apply HJ o ?_
 apply ke ?_
 refine⟨1,rfl,?_⟩
 refine aI (gZ (GM (aw rfl ⟨m,rfl,by omega,?_⟩)))
 refine⟨λj v i=>∃(s:bE) (e:Int) (M L R W:Option D) (F:zB) (S0:aE),v= [some (.ref k),some w.d,some (.int m),some (.ref t.k),some s.d,some (.int e),M,L,R,W]/\F.k=t.k/\Go S.length S0 i F s/\Nn s/\di w (1+j) s/\Ex k S i,⟨df w,-1,_,_,_,_,t,S,rfl,rfl,g,IE,FG o,A⟩,λ_ _ _ _=>trivial,?_,?_⟩
 ·rintro j d v i hd ⟨s,e,M,L,R,W,F,H,rfl,htk,g,nn,hinv,A⟩
  obtain⟨rfl,hj⟩:=wM (j:=m) hd
  refine aV ?_
  have U:=hinv.mays o (by omega)
  have Y:k<i.length:=A.lt
  refine aI (cK (dU (EC (az (aw rfl (az (aw rfl (aZ ?_))))))))
  rw[←htk]
  apply J2 g o hinv (by omega) ?_
  apply a_ aM ?_
  apply⟨⟨rfl,aM⟩,?_⟩
  by_cases r:qm w s= []
  ·rw[r]
   refine aK (λc=>by cases c) (λ_=>bX ?_)
   exact⟨s,e,_,_,_,_,F,H,rfl,rfl,g.app,nn,hinv.mono (by omega),A.app⟩
  ·have C:0<(qm w s).length:=List.length_pos_iff.mpr r
   have P:(!((qm w s).map mM).isEmpty)=true:=by
    cases hc:qm w s with
    |nil=>exact absurd hc r
    |cons a l=>rfl
   rw[P,Qhq rfl]
   have a0:(qm w s).length<=4:=by
    have Z:=List.length_filter_le (λh:Nat=> !decide ((h:Int)∈held s)&& !ja w s h) (List.range s.af.length)
    have h2:=hinv.lh
    have h3:=o.l4
    rw[QVq] at Z
    unfold qm
    omega
   symm
   refine Kh (S0:=S) A.app (by omega) aM C (by omega) λh S3 B e1 e2 _=> ?_
   have g3:=(g.app (G:= [O.lst ((qm w s).map mM)])).re I e2
   have N:h<s.af.length:=List.mem_range.mp (List.mem_filter.mp B).1
   obtain⟨⟨vs,fs⟩,X⟩:∃p,s.af[h]?=some p:=⟨_,gQe N⟩
   obtain⟨ts,pr,hw,hi⟩:=hinv.whand X
   obtain⟨f,hf,fi⟩:=hi.last
   obtain⟨J,n⟩:=JS o hinv (by omega) B X hf
   refine aI (cK (cn (az (aw rfl (az (aw rfl (az (aw rfl (aZ ?_)))))))))
   apply Ig g3 nn o hinv (by omega) B λS4 t4 u K=> ?_
   refine CK U B J ?_
   refine aI (bP (vO (Ct (cn (az (aw rfl (az (tN (az (cn (az (aw rfl (aZ ?_)))))))))))))
   rw[←u]
   apply Gx K o n (by omega) ?_
   refine⟨by show 2<=_;decide,?_⟩
   symm
   refine D4 10 (JJ (eQ w s h).1 h (eQ w s h).2) (Oh o n (by omega)) ?_
   refine se ?_
   apply aK (λc=>by cases c) (λ_=>bX ?_)
   refine ay (d:=(eQ w s h).1.d) rfl ?_
   rw[u]
   exact⟨_,_,_,_,_,_,t4,S3,rfl,u,K,nn.step,n.mono (by omega),e1.kept I K.k⟩
 ·rintro v i ⟨s,e,M,L,R,W,F,H,rfl,htk,g,nn,hinv,A⟩
  symm
  refine mY A I (λk z=>(nomatch z)) rfl λa b c=>q _ x.set
end
def Iq:∀ns:List Int,ns.length<=63->∃b,Kw [.ref 0] [.frz (ns.map D.int)]=some (.d (.bl true),b):=by
 intro ns R
 suffices h:Fn Kw [.ref 0] [.frz (ns.map D.int)] λr _=>r=.d (.bl true) by
  obtain⟨r,b,e,rfl⟩:=h
  exact⟨b,e⟩
 refine bZ ?_
 unfold MF
 refine aI (gZ ?_)
 apply GM ?_
 apply GV rfl ?_
 apply Ih ?_
 refine G1 ?_
 obtain⟨m,F,G⟩:∃m:Nat,(if (if (4:Int)<((ns.map D.int).length:Nat) then(4:Int) else((ns.map D.int).length:Nat))>(1:Int) then(if (4:Int)<((ns.map D.int).length:Nat) then(4:Int) else((ns.map D.int).length:Nat)) else 1)=(m:Int)/\m<=4:=by
  refine⟨(if (if (4:Int)<((ns.map D.int).length:Nat) then(4:Int) else((ns.map D.int).length:Nat))>(1:Int) then(if (4:Int)<((ns.map D.int).length:Nat) then(4:Int) else((ns.map D.int).length:Nat)) else 1).toNat,?_,?_⟩ <;>(repeat' split) <;>omega
 refine⟨m,congrArg D.int F,by omega,?_⟩
 refine⟨λn f b=>(∃v x t,f= [some (.ref 0),v,x,t])/\b[0]?=some (.frz (ns.map D.int)),⟨⟨_,_,_,rfl⟩,rfl⟩,λ_ _ _ _=>trivial,?_,?_⟩
 ·rintro n d f S Q ⟨⟨v,x,t,rfl⟩,hS⟩
  obtain⟨rfl,_⟩:=wM Q
  apply aV ?_
  refine LN hS λi j=> ?_
  have g:Ex S.length (S++ [rL i j 0]) (S++ [rL i j 0]):=Ex.refl aM
  have u:(S++ [rL i j 0])[0]?=some (.frz (ns.map D.int)):=aO hS
  have U:0≠S.length:=by
   have:=(gQs.mp hS).1
   omega
  refine aI (cK (cn (az (aw rfl (az (aY (cH (cn (az (aw rfl (az (cH (aZ (bQ g (by decide) (by decide) λC S2 P y _ _=> ?_))))))))))))))
  refine⟨_,rfl,?_⟩
  refine az (dU (dA (az (cH (aZ ⟨by show 1<=_;decide,az (cH (aZ ?_))⟩)))))
  have H:Ex S.length (S++ [rL i j 0]) (S2++ [O.lst ((["when free"]:List Str).map D.str)]):=y.app
  have L:=y.lt
  rw[show(1:Int)+(C:Int)=((1+C:Nat):Int) by omega]
  refine IC (ms:= ["when free"]) (bm:=3) H (by omega) aM (λs J=>.inr (by simpa using J)) (by decide) (by decide) (by decide) (by omega) λrs X I q p W _ _=> ?_
  refine bP (vO (Ct (cn (az (aw rfl (az (cn (az (aw rfl (az (aw rfl (az (aY (cH (cn (az (aw rfl (az (cH (aZ (bQ W (by decide) (by decide) λB Z N K _ _=> ?_)))))))))))))))))))))
  refine⟨_,rfl,?_⟩
  refine az (cH (aZ ?_))
  rw[show(2:Int)+(B:Int)=((2+B:Nat):Int) by omega]
  refine IV (pm:=0) K (by omega) (by omega) (by decide) I q p λw S5 ok x6 _ _=> ?_
  refine az (cH (aZ ?_))
  refine Iv (m:=50) ok x6 (by decide) λY M=> ?_
  refine se ?_
  refine aK (λc=>by cases c) (λ_=>bX ?_)
  exact⟨⟨_,_,_,rfl⟩,M.keep 0 _ U u⟩
 ·rintro f b ⟨⟨v,x,t,rfl⟩,hS⟩
  symm
  have q:=(gQs.mp hS).1
  refine iL (S2:= [.frz (ns.map D.int)]) ⟨by show 1<=b.length;omega,λk o A e=> ?_⟩ ?_ (λk z=>(nomatch z)) rfl rfl
  ·have A:k<1:=A
   have:k=0:=by omega
   subst this
   rw[hS] at e
   exact .inl e
  ·cases b with
   |nil=>simp at q
   | cons a l=>
     simp at hS
     subst hS
     rfl
end W28
open PySem PySem.W PyProof.Rows L2 DL
theorem PySem.Challenge.cw_calledroom_k24_called_when_free_holds : PySem.Challenge.rw_calledroom_k24_called_when_free.Holds := by
  w_on; o_law; k_head; (case hw => w_witness2)
  k_fill
  refine DL.MZ (l := PySem.Challenge.rw_calledroom_k24_called_when_free) (k := 15) rfl rfl ⟨rfl, by decide, by decide⟩ (λw h Y => PySem.W.kIn_of Y) (λw => ?nl) ?F
  case nl => rfl
  case F =>
    intro w mg fa h KX G hmg
    refine' W28.all_mk KX G hmg ?_ ?_ ?_ ?_ ?_ ?_ ?_ ?_ ?_ ?_ ?_ ?_ ?_ ?_ ?_ ?_ ?_ ?_ ?_ ?_ ?_ ?_ ?_ ?_ ?_ ?_ ?_ ?_ ?_ ?_ ?_ ?_ ?_ ?_ ?_ ?_ ?_ ?_ ?_ ?_ ?_ ?_ ?_ ?_ ?_ ?_ ?_ ?_ ?_ ?_ ?_ ?_ ?_ ?_ ?_ ?_ ?_ ?_ ?_ ?_ ?_ ?_ ?_ ?_ ?_ ?_ ?_ ?_ ?_ ?_ ?_ ?_ ?_ ?_ ?_ ?_ ?_ ?_ ?_ ?_ ?_ ?_ ?_ ?_ ?_ ?_ ?_ ?_ ?_ ?_ ?_ ?_ ?_ ?_ ?_ ?_ ?_ ?_ ?_ ?_ ?_ ?_ ?_ W28.Iq
    any_goals first | exact DL.aX.of (by k_is) (by k_is) (by k_is) (by k_is) | k_is
