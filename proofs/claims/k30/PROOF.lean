import PyProof.Rows.All
import Wide.All
import OpenK.AllK
import Wide.FinOn
import Lean
import PyProof.EqAt
import PyProof.EqKinds
import PyProof.TupleCall
import PyProof.NeKinds
import PyProof.ListRange
import PyProof.ConsumeWalk
import PyProof.StrWalks
import PyProof.Rows.StrJoin2
import PyProof.Rows.SetFrom
import PyProof.SetNew
import PyProof.DictUpdate
import PyProof.FactsAll.dict_0
import PyProof.FactsAll.dict_1
import PyProof.FactsAll.dict_2
import PyProof.FactsAll.dict_3
import PyProof.FactsAll.dict_4
import PyProof.AttrMissSeq
import PyProof.AttrMissHeap
import KE.KEqDict
import PyProof.TupleKey
import PyProof.SetRoads
import PyProof.SetScanFacts
import PyProof.ForWalkI
import PyProof.FactsAll.set_0
import PyProof.FactsAll.set_1
import PyProof.FactsAll.set_2
import PyProof.CollectWalk
import PyProof.Rows.SortStr
import PyProof.Rows.SortShellK
import PyProof.ZipIter
import KE.KSortTup
import PyProof.ReprRoads
import PyProof.StrLawsRepr
import PyProof.CallFns
import PyProof.FactsAll.zip
import PyProof.DictCompW
import PyProof.EnumFor
import PyProof.EnumStmt
import PyProof.Draws
import PyProof.P3Eq
import PyProof.NeData
import PySem.Challenge.RW_calledroom_k30_whole_let_on_in_order
set_option Elab.async false
set_option linter.all false
set_option maxRecDepth 100000
set_option maxHeartbeats 8000000
namespace PySem.W.Fast
def tw17987033943662388375:True:=⟨⟩
def tw9524762021966741214:True:=⟨⟩
def tw18287396517212130834:True:=⟨⟩
def tw1505205685060030459:True:=⟨⟩
def tw12816247037220046241:True:=⟨⟩
def tw18302136548709731742:True:=⟨⟩
def tw8203673449711023079:True:=⟨⟩
def tw14036266244793476995:True:=⟨⟩
def tw9581930104387411134:True:=⟨⟩
def tw6021127170496668941:True:=⟨⟩
def tw17114587002568410381:True:=⟨⟩
def tw17827574206049596992:True:=⟨⟩
def tw17443540163767361814:True:=⟨⟩
def tw13921912658833777362:True:=⟨⟩
def tw2100541833991885058:True:=⟨⟩
def tw17423428496575579165:True:=⟨⟩
def tw10549010588291238734:True:=⟨⟩
def tw13362441980006343019:True:=⟨⟩
def tw8320845045796367806:True:=⟨⟩
def tw14581315546964514822:True:=⟨⟩
def tw7981749517961238657:True:=⟨⟩
def tw679949211081156828:True:=⟨⟩
def tw7263953092806227511:True:=⟨⟩
def tw16850125661118279796:True:=⟨⟩
def tw3120978114693213927:True:=⟨⟩
def tw4821258430430838369:True:=⟨⟩
def tw1821698919649143758:True:=⟨⟩
def tw15087748260892234403:True:=⟨⟩
def tw9511304543651641361:True:=⟨⟩
def tw17493861184326305638:True:=⟨⟩
def tw16836742432586374540:True:=⟨⟩
def tw11135375356297233655:True:=⟨⟩
def tw9207756358866850019:True:=⟨⟩
def tw10965093099140312987:True:=⟨⟩
def tw9624413527816658315:True:=⟨⟩
def tw15921651306628133112:True:=⟨⟩
def tw1704949076260210223:True:=⟨⟩
def tw7462203495316505719:True:=⟨⟩
def tw9198369123497816323:True:=⟨⟩
def tw16440811008105528117:True:=⟨⟩
def tw16719378188079514946:True:=⟨⟩
def tw632507679380594954:True:=⟨⟩
def tw7134721749090897802:True:=⟨⟩
def tw17061194301441360725:True:=⟨⟩
def tw3170843412487208600:True:=⟨⟩
def tw13321772279544088419:True:=⟨⟩
def tw1092845467491714058:True:=⟨⟩
def tw5751440360345277690:True:=⟨⟩
def tw2490068447359420355:True:=⟨⟩
def tw3184902481356879452:True:=⟨⟩
def tw11392419147940412833:True:=⟨⟩
def tw7816326739751512437:True:=⟨⟩
def tw18036281720546051320:True:=⟨⟩
def tw1625361586982995898:True:=⟨⟩
def tw5000569029061140704:True:=⟨⟩
def tw11535083460999629707:True:=⟨⟩
def tw2602541117874338114:True:=⟨⟩
def tw10359664561446622082:True:=⟨⟩
def tw6402525993682848762:True:=⟨⟩
def tw613927669809688759:True:=⟨⟩
def tw13488368690506820041:True:=⟨⟩
def tw10806845044350942249:True:=⟨⟩
def tw9132390477990542395:True:=⟨⟩
def tw6809131834043821956:True:=⟨⟩
def tw2058048188557619834:True:=⟨⟩
def tw14162654715758327137:True:=⟨⟩
def tw12810628859355958704:True:=⟨⟩
def tw6746506614198356213:True:=⟨⟩
def tw2310097818644624610:True:=⟨⟩
def tw13049483344459644316:True:=⟨⟩
def tw12071587292409483971:True:=⟨⟩
def tw7244103385093857060:True:=⟨⟩
def tw11431038271193545600:True:=⟨⟩
def tw11018295625873969255:True:=⟨⟩
def tw12801526112872860698:True:=⟨⟩
def tw14762895106963442199:True:=⟨⟩
def tw8357314539561624604:True:=⟨⟩
def tw6831893976620728779:True:=⟨⟩
def tw1690664128849399826:True:=⟨⟩
def tw5736039780636472778:True:=⟨⟩
def tw11812020820013246236:True:=⟨⟩
def tw7320979667781230843:True:=⟨⟩
def tw6545037314790906673:True:=⟨⟩
def tw13582707571975485727:True:=⟨⟩
def tw12418892506037677787:True:=⟨⟩
def tw7234142646892295887:True:=⟨⟩
def tw8561146657797787164:True:=⟨⟩
def tw14326397137758184290:True:=⟨⟩
def tw18211289599092647388:True:=⟨⟩
def tw4457575261627643170:True:=⟨⟩
def tw7099507987189613417:True:=⟨⟩
def tw7582244197228395288:True:=⟨⟩
def tw13793177796660615980:True:=⟨⟩
def tw17579273652694620317:True:=⟨⟩
def tw7331043191721192022:True:=⟨⟩
def tw11578890947479511732:True:=⟨⟩
def tw17835285855603020427:True:=⟨⟩
def tw14611146796280689046:True:=⟨⟩
def tw9887812510721626213:True:=⟨⟩
def tw18305734503607208354:True:=⟨⟩
def tw16045552645205242242:True:=⟨⟩
def tw8531161309015551865:True:=⟨⟩
def tw9845014185650181345:True:=⟨⟩
def tw11785861064741765884:True:=⟨⟩
def tw4703440186121103229:True:=⟨⟩
def tw652872362148938457:True:=⟨⟩
def tw5345570421189663769:True:=⟨⟩
def tw13365746194420249555:True:=⟨⟩
def tw13301711646265342281:True:=⟨⟩
def tw7658012497542707539:True:=⟨⟩
def tw1693027249625450934:True:=⟨⟩
def tw14239582623305266661:True:=⟨⟩
def tw4498082734359079003:True:=⟨⟩
def tw13318205296062076353:True:=⟨⟩
def tw16472458379646047217:True:=⟨⟩
def tw14520652340958795441:True:=⟨⟩
def tw15539943461498199581:True:=⟨⟩
def tw5629473594488723463:True:=⟨⟩
def tw751948525671599747:True:=⟨⟩
def tw5351693511260957397:True:=⟨⟩
def tw17913321538592421147:True:=⟨⟩
def tw17230391881441605589:True:=⟨⟩
def tw10986794489413129236:True:=⟨⟩
def tw10686516780815522773:True:=⟨⟩
def tw18175399632896526866:True:=⟨⟩
def tw8779740040318822335:True:=⟨⟩
def tw17455458153710760412:True:=⟨⟩
def tw359417805371462312:True:=⟨⟩
def tw17374022577189427038:True:=⟨⟩
def tw4851922499015699050:True:=⟨⟩
def tw7222453183313770496:True:=⟨⟩
def tw17145926363484963607:True:=⟨⟩
def tw9738399367187915443:True:=⟨⟩
def tw11528635128413607191:True:=⟨⟩
def tw16363099368269731973:True:=⟨⟩
def tw997584240459781667:True:=⟨⟩
def tw18064001424904580176:True:=⟨⟩
def tw14675519098567511946:True:=⟨⟩
def tw7067009316952727847:True:=⟨⟩
def tw8648893417703643726:True:=⟨⟩
def tw6914333063476364704:True:=⟨⟩
def tw584839226229262559:True:=⟨⟩
def tw6470497547349770107:True:=⟨⟩
def tw16849366701345341057:True:=⟨⟩
def tw12933182777295409332:True:=⟨⟩
def tw5047060204148153008:True:=⟨⟩
def tw3282809021375157121:True:=⟨⟩
def tw1971971361525662447:True:=⟨⟩
def tw12825895494428962869:True:=⟨⟩
def tw7633115152271628924:True:=⟨⟩
def tw8051861641286187984:True:=⟨⟩
def tw11123203203168783640:True:=⟨⟩
def tw7012477186968024741:True:=⟨⟩
def tw12292377586539465234:True:=⟨⟩
def tw12943865880774952719:True:=⟨⟩
def tw17514747982414015820:True:=⟨⟩
def tw2787074204767687180:True:=⟨⟩
def tw9306804931481354261:True:=⟨⟩
def tw570351286202441127:True:=⟨⟩
def tw13922183030202779017:True:=⟨⟩
def tw7488654245980720176:True:=⟨⟩
def tw15932475619774200834:True:=⟨⟩
def tw18384167916006920690:True:=⟨⟩
def tw4581877883950774563:True:=⟨⟩
def tw4229209895825918913:True:=⟨⟩
def tw7612178356977539738:True:=⟨⟩
def tw7806072739382520939:True:=⟨⟩
def tw13731384162622429555:True:=⟨⟩
def tw6463265739395772249:True:=⟨⟩
def tw15267515512771796620:True:=⟨⟩
def tw11486052008057881193:True:=⟨⟩
def tw6583428203013300112:True:=⟨⟩
def tw17075897297669086818:True:=⟨⟩
def tw404461048278081273:True:=⟨⟩
def tw6778663885449710056:True:=⟨⟩
def tw443164466825972753:True:=⟨⟩
def tw17194369510487437746:True:=⟨⟩
def tw11654339343606654956:True:=⟨⟩
def tw329689926196486177:True:=⟨⟩
def tw9355532536753704924:True:=⟨⟩
def tw3776029571705565782:True:=⟨⟩
def tw14142355109529259420:True:=⟨⟩
def tw11349021233293399171:True:=⟨⟩
def tw14899054973322257085:True:=⟨⟩
def tw11922098612683095650:True:=⟨⟩
def tw13850104363489320157:True:=⟨⟩
def tw685723704584240465:True:=⟨⟩
def tw657538409799080860:True:=⟨⟩
def tw14471029233333902720:True:=⟨⟩
def tw9960371426374229670:True:=⟨⟩
def tw15548265489837382147:True:=⟨⟩
def tw16665781993980032868:True:=⟨⟩
def tw18288105164084536634:True:=⟨⟩
def tw6486483903902526446:True:=⟨⟩
def tw5272578226818303887:True:=⟨⟩
def tw12096832423911950659:True:=⟨⟩
def tw12607924434567214377:True:=⟨⟩
def tw17525761044318719339:True:=⟨⟩
def tw8910767470097318411:True:=⟨⟩
def tw13431810645334378666:True:=⟨⟩
def tw9492242791597187590:True:=⟨⟩
def tw13733647502371621376:True:=⟨⟩
def tw15403867680230711726:True:=⟨⟩
def tw2853543485298415399:True:=⟨⟩
def tw5633834354246360676:True:=⟨⟩
def tw8034393033496148226:True:=⟨⟩
def tw17510770070644450562:True:=⟨⟩
def tw10592043756222739556:True:=⟨⟩
def tw120428815436013858:True:=⟨⟩
def tw8046328726062624246:True:=⟨⟩
def tw16247442011223703512:True:=⟨⟩
def tw8631724117623657729:True:=⟨⟩
def tw3574640413871923255:True:=⟨⟩
def tw2536403511513838346:True:=⟨⟩
def tw2759231139393576445:True:=⟨⟩
def tw13749011697675239698:True:=⟨⟩
def tw9487853929368228797:True:=⟨⟩
def tw15002030961269806064:True:=⟨⟩
def tw5386425339953434164:True:=⟨⟩
def tw8136241629817436992:True:=⟨⟩
def tw869878233302731048:True:=⟨⟩
def tw7412931551031980865:True:=⟨⟩
def tw11865686868117426905:True:=⟨⟩
def tw13784297995593276264:True:=⟨⟩
def tw12162996770865333943:True:=⟨⟩
def tw14654556846774950459:True:=⟨⟩
def tw9424221086004146772:True:=⟨⟩
def tw7115933769808781699:True:=⟨⟩
def tw11717015208555232398:True:=⟨⟩
def tw7272658393146574370:True:=⟨⟩
def tw10100966639618938612:True:=⟨⟩
def tw9251002554915757162:True:=⟨⟩
def tw11762179703802245187:True:=⟨⟩
def tw3657834544620006091:True:=⟨⟩
def tw6840973753787222227:True:=⟨⟩
def tw5060950429442879012:True:=⟨⟩
def tw7382413364084530634:True:=⟨⟩
def tw13272563980891421986:True:=⟨⟩
def tw7521317091801765318:True:=⟨⟩
def tw1021077557713261085:True:=⟨⟩
def tw6235544141001843227:True:=⟨⟩
def tw875626014983652348:True:=⟨⟩
def tw6611978822761950784:True:=⟨⟩
def tw9333277826524031699:True:=⟨⟩
def tw9228039207109886230:True:=⟨⟩
def tw7228571328249517228:True:=⟨⟩
def tw16804006413707628165:True:=⟨⟩
def tw16828432575060991024:True:=⟨⟩
def tw13605638731804097319:True:=⟨⟩
def tw1623532324405189267:True:=⟨⟩
def tw10003086127394296002:True:=⟨⟩
def tw4412822370540685485:True:=⟨⟩
def tw16937711211249401478:True:=⟨⟩
def tw12086136899452589595:True:=⟨⟩
def tw17575575825380006189:True:=⟨⟩
def tw14793046819027758771:True:=⟨⟩
def tw11604002759621145019:True:=⟨⟩
def tw6724262796690483038:True:=⟨⟩
def tw9705490496890780693:True:=⟨⟩
def tw18107712321730568264:True:=⟨⟩
def tw14333457319720399417:True:=⟨⟩
def tw5524539428057204408:True:=⟨⟩
def tw11642609910669752008:True:=⟨⟩
def tw14557581139384796371:True:=⟨⟩
def tw16404806167297579056:True:=⟨⟩
def tw3053564162686752192:True:=⟨⟩
def tw9590225082845239744:True:=⟨⟩
def tw1292618274493605840:True:=⟨⟩
def tw13840165431240933415:True:=⟨⟩
def tw15765977375865029852:True:=⟨⟩
def tw11242413073261905761:True:=⟨⟩
def tw16815768810790362239:True:=⟨⟩
def tw8430990230454427386:True:=⟨⟩
def tw13525600376904067935:True:=⟨⟩
def tw4064020084391109145:True:=⟨⟩
def tw14111170343762331233:True:=⟨⟩
def tw10011738290985641303:True:=⟨⟩
def tw6397592434614415946:True:=⟨⟩
def tw5313251358137482373:True:=⟨⟩
def tw15668590676296838330:True:=⟨⟩
def tw918268573392320262:True:=⟨⟩
def tw8292091998015734487:True:=⟨⟩
def tw944669366257979158:True:=⟨⟩
def tw2837960040387224277:True:=⟨⟩
def tw18197203804522993303:True:=⟨⟩
def tw2444999881790769165:True:=⟨⟩
def tw376637511555907870:True:=⟨⟩
def tw4901011256902779769:True:=⟨⟩
def tw16004989067581787186:True:=⟨⟩
def tw9632416515582296473:True:=⟨⟩
def tw16540274872362981894:True:=⟨⟩
def tw13365135328745232221:True:=⟨⟩
def tw16358628512185682767:True:=⟨⟩
end PySem.W.Fast
set_option bootstrap.genMatcherCode false
noncomputable section
abbrev gQm:=@List.getElem?_map
abbrev lQm:=@List.length_map
abbrev mQg:=@List.mem_of_getElem?
abbrev oQm:=@Option.map_eq_some_iff
abbrev gQe:=@List.getElem?_eq_getElem
abbrev gQs:=@List.getElem?_eq_some_iff
abbrev lQa:=@List.length_append
abbrev nQl:=@Nat.le_of_lt
abbrev mQa:=@List.mem_append
abbrev Qaq:=@PySem.wpAny_bind
abbrev Qbq:=@Option.bind_some
abbrev Qcq:=@PySem.Heap.get?_push_of_some
abbrev Qdq:=@decide_eq_false
abbrev Qeq:=@decide_eq_true
abbrev Qfq:=@List.mem_singleton
abbrev Qgq:=@PySem.wpAny_pure
abbrev Qhq:=@if_pos
abbrev Qiq:=@PySem.Heap.lt_size
abbrev Qjq:=@List.size_toArray
abbrev Qkq:=@List.mem_map
abbrev Qlq:=@List.getD_eq_getElem?_getD
abbrev Qmq:=@Nat.le_refl
abbrev Qnq:=@List.length_cons
abbrev Qoq:=@List.mem_append_right
abbrev Qpq:=@List.mem_cons_of_mem
abbrev Qqq:=@Nat.lt_of_lt_of_le
abbrev Qrq:=@PySem.Heap.get?_push_size
abbrev Qsq:=@List.mem_cons
abbrev Qtq:=@Bool.false_ne_true
abbrev Quq:=@if_neg
abbrev Qvq:=@List.append_assoc
abbrev Qwq:=@Nat.ne_of_lt
abbrev Qxq:=@List.length_take
abbrev Qyq:=@List.getElem?_set_self
abbrev Qzq:=@List.map_append
abbrev QAq:=@Nat.le_trans
abbrev QBq:=@List.mem_cons_self
abbrev QCq:=@Bool.and_eq_true
abbrev QDq:=@List.map_cons
abbrev QEq:=@List.take_length
abbrev QFq:=@PySem.W.mg_none_of
abbrev QGq:=@List.length_nil
abbrev QHq:=@List.getElem?_append_left
abbrev QIq:=@List.length_replicate
abbrev QJq:=@List.Perm.append_right
abbrev QKq:=@List.getElem?_set_ne
abbrev QLq:=@PySem.wpAny_holding
abbrev QMq:=@PySem.wpAny_field
abbrev QNq:=@List.replicate_succ
abbrev QOq:=@List.mem_flatMap
abbrev QPq:=@List.map_map
abbrev QQq:=@List.getElem?_append_right
abbrev QRq:=@PySem.wpAny_mono
abbrev QSq:=@List.flatMap_cons
abbrev QTq:=@List.mem_or_eq_of_mem_set
abbrev QUq:=@List.all_eq_true
abbrev QVq:=@List.length_range
abbrev QWq:=@List.drop_eq_getElem_cons
abbrev QXq:=@List.not_mem_nil
abbrev QYq:=@List.take_add_one
namespace L2
open PySem PySem.Spec PyProof.Rows
abbrev Key:=Sum Int Str
def qz:Key->Value->Bool
 |.inl k,v=>Value.isInt k v
 |.inr x,v=>Value.isStrOf x v
def Me(w:World):Key->Int
 |.inl k=>hashInt k
 |.inr x=>hashStr w x
def dM:∀{k:Key} {v:Value},qz k v=true->(∃i t,k=Sum.inl i/\v=Value.int i t)\/(∃x t,k=Sum.inr x/\v=Value.str x t)
 | .inl i,v,h=>by
   obtain⟨t,e⟩:=Value.isInt_shape (k:=i) (v:=v) h
   exact .inl ⟨i,t,rfl,e⟩
 | .inr x,v,h=>by
   obtain⟨t,e⟩:=Value.isStrOf_shape (x:=x) (v:=v) h
   exact .inr ⟨x,t,rfl,e⟩
def Dj(i:Int)(t:Tok):qz (.inl i) (.int i t)=true:=by simp[qz,Value.isInt]
def pZ(x:Str)(t:Tok):qz (.inr x) (.str x t)=true:=by simp[qz,Value.isStrOf]
def Iq(a b:Int):decide ((Sum.inl a:Key)=Sum.inl b)=(a==b):=by
 by_cases e:a=b
 ·subst e;simp
 ·have h:¬(Sum.inl a:Key)=Sum.inl b:=fun q=>e (Sum.inl.inj q)
  rw[Qdq h]
  exact(beq_eq_false_iff_ne.mpr e).symm
def Jm(a b:Str):decide ((Sum.inr a:Key)=Sum.inr b)=decide (a=b):=by
 by_cases e:a=b
 ·subst e;simp
 ·have h:¬(Sum.inr a:Key)=Sum.inr b:=fun q=>e (Sum.inr.inj q)
  rw[Qdq h,Qdq e]
def IY(a:Int)(b:Str):decide ((Sum.inl a:Key)=Sum.inr b)=false:=Qdq (fun q=>nomatch q)
def Kb(a:Str)(b:Int):decide ((Sum.inr a:Key)=Sum.inl b)=false:=Qdq (fun q=>nomatch q)
def cq(prog:Program)(w:World):PySem.KeyKind prog w Key where
 is:=qz
 hash:=Me w
 inj:=fun v a b ha hb=>by
  rcases dM ha with⟨i,t,rfl,rfl⟩|⟨x,t,rfl,rfl⟩
  ·rcases dM hb with⟨j,u,rfl,e⟩|⟨y,u,rfl,e⟩
   ·injection e with e1 _;rw[e1]
   ·exact nomatch e
  ·rcases dM hb with⟨j,u,rfl,e⟩|⟨y,u,rfl,e⟩
   ·exact nomatch e
   ·injection e with e1 _;rw[e1]
 byValue:=fun k v h=>by
  rcases dM h with⟨i,t,rfl,rfl⟩|⟨x,t,rfl,rfl⟩ <;>rfl
 pyHash:=fun hv h=>by
  rcases dM hv with⟨i,t,rfl,rfl⟩|⟨x,t,rfl,rfl⟩
  ·exact wpAny_pyHash_int h
  ·exact wpAny_pyHash_str h
 eqBool:=fun hu hv h=>by
  rcases dM hu with⟨i,t,rfl,rfl⟩|⟨x,t,rfl,rfl⟩
  ·rcases dM hv with⟨j,u,rfl,rfl⟩|⟨y,u,rfl,rfl⟩
   ·rw[Iq] at h;exact wpAny_eqBool_int h
   ·rw[IY] at h;exact SeqAt.EqAt.int_str i t y u _ _ _ _ h
  ·rcases dM hv with⟨j,u,rfl,rfl⟩|⟨y,u,rfl,rfl⟩
   ·rw[Kb] at h;exact SeqAt.EqAt.str_int x t j u _ _ _ _ h
   ·rw[Jm] at h;exact wpAny_eqBool_str h
 «strs»:=fun k x t v h=>by
  rcases dM h with⟨i,u,rfl,e⟩|⟨y,u,rfl,e⟩
  ·exact nomatch e
  ·injection e with e1 _
   subst e1
   cases v <;>rfl
def y3(prog:Program)(w:World)(i:Int)(t:Tok):(cq prog w).is (.inl i) (.int i t)=true:=Dj i t
def zw(prog:Program)(w:World)(x:Str)(t:Tok):(cq prog w).is (.inr x) (.str x t)=true:=pZ x t
inductive V where
 |non|bl (b:Bool)|int (i:Int)|str (x:Str)|byt (b:Array UInt8)|flt (b:UInt64)|ref (a:Addr)|ty (n:String)
 deriving DecidableEq
def RelV:V->Value->Prop
 |.non,u=>u=Value.none
 |.bl b,u=>u=Value.bool b
 |.int i,u=>∃t,u=Value.int i t
 |.str x,u=>∃t,u=Value.str x t
 |.byt b,u=>∃t,u=Value.bytes b t
 |.flt b,u=>∃t,u=Value.float b t
 |.ref a,u=>u=Value.ref a
 |.ty n,u=>u=Value.type n
abbrev bS:List V->List Value->Prop:=Paired RelV
def bS.length{xs:List V}{us:List Value}(r:bS xs us):xs.length=us.length:=Paired.length r
theorem bS.get:∀{xs:List V} {us:List Value} {i:Nat} {x:V},bS xs us->xs[i]?=some x->∃u,us[i]?=some u/\RelV x u
 |_,_,_,_,.nil,e=>by simp at e
 |_,_,0,_,.cons r _,e=>by simp at e;subst e;exact⟨_,rfl,r⟩
 | _,_,i+1,x,.cons _ t,e=>by
   obtain⟨u,h1,h2⟩:=bS.get (i:=i) (x:=x) t (by simpa using e)
   exact⟨u,by simpa using h1,h2⟩
theorem bS.set{x:V}{u:Value}(r:RelV x u):∀{xs:List V} {us:List Value} (i:Nat),bS xs us->bS (xs.set i x) (us.set i u)
 |_,_,_,.nil=>.nil
 |_,_,0,.cons _ t=>.cons r t
 |_,_,i+1,.cons q t=>.cons q (bS.set r i t)
theorem bS.append:∀{xs ys:List V} {us ws:List Value},bS xs us->bS ys ws->bS (xs++ys) (us++ws)
 |_,_,_,_,.nil,s=>s
 |_,_,_,_,.cons r t,s=>.cons r (bS.append t s)
theorem bS.take:∀{xs:List V} {us:List Value} (n:Nat),bS xs us->bS (xs.take n) (us.take n)
 |_,_,0,_=>.nil
 |_,_,_+1,.nil=>.nil
 |_,_,n+1,.cons r t=>.cons r (bS.take n t)
theorem bS.drop:∀{xs:List V} {us:List Value} (n:Nat),bS xs us->bS (xs.drop n) (us.drop n)
 |_,_,0,r=>r
 |_,_,_+1,.nil=>.nil
 |_,_,n+1,.cons _ t=>bS.drop n t
def tF:Option V->Option Value->Prop
 |some v,some u=>RelV v u
 |none,none=>True
 |_,_=>False
def KV{κ:Type}:List (κ×V)->List (κ×Value)->Prop:=Paired fun(p:κ×V) (q:κ×Value)=>p.1=q.1/\RelV p.2 q.2
def kV:Key->V
 |.inl i=>.int i
 |.inr x=>.str x
inductive HO where
 |lst (xs:List V)
 |tup (xs:List V)
 |dK (kvs:List (Key×V))|dT (kvs:List (List Key×V))
 |set (S:Int->Bool) (n:Nat)
 |ins (C dx:Addr) (fs:List (Str×V))
 |own (x:Addr)
 |xd (fs:List (Str×V))
 |met (f x:Addr)
 |rng (lo hi:Int)
 |frz (o:Obj) (u:HO)
 |tbl (ps:Array Value)
 |ext (φ:Heap->Prop)
abbrev Hp:=Addr->Option HO
def upd(H:Hp)(a:Addr)(o:HO):Hp:=fun b=>if b=a then some o else H b
def b_{H:Hp}{a:Addr}{o:HO}:upd H a o a=some o:=by unfold upd;rw[Qhq rfl]
def bC{H:Hp}{a b:Addr}{o:HO}(h:b≠a):upd H a o b=H b:=by unfold upd;rw[Quq h]
def ER{H:Hp}{a b:Addr}{o u:HO}(h:H a=some o)(h':H b=some u)(d:o≠u):a≠b:=by
 intro e;subst e;rw[h] at h';exact d (Option.some.inj h')
def fO{H:Hp}{a b:Addr}{o:HO}(h:H a=some o)(h':H b=none):a≠b:=by
 intro e;subst e;rw[h] at h';cases h'
def y2(h:Heap)(a:Addr)(items:Array Value):Prop:=∃o,h.get? a=some o/\o.cls=.type "tuple" /\o.dict=none/\∃n,o.data=.seq items n
def y2.it{h:Heap}{a:Addr}{items:Array Value}(x:y2 h a items):IsTup h a items:=by
 obtain⟨o,e,c,_,d⟩:=x
 exact⟨o,e,c,d⟩
def y2.new(h:Heap)(items:Array Value):y2 (h.push {cls:=.type "tuple",data:=.seq items}) h.objs.size items:=⟨_,Qrq _ rfl,rfl,rfl,_,rfl⟩
section
variable(P:Program)(w:World)
def du(H:Hp)(h:Heap)(a:Addr):HO->Prop
 |.lst xs=>xs.length<=sizeLine/\∃(its:List Value) (n:Nat),bS xs its/\h.get? a=some {cls:=.type "list",data:=.seq its.toArray n}
 |.tup xs=>xs.length<=sizeLine/\∃its:List Value,bS xs its/\y2 h a its.toArray
 |.dK kvs=>kvs.length<=sizeLine/\(a==sysModules)=false/\∃vs,KV kvs vs/\h.DictOf (cq P w) a vs
 |.dT kvs=>kvs.length<=sizeLine/\(a==sysModules)=false/\∃xs:List (List Key×Addr×Value),
   Paired (fun(p:List Key×V) (q:List Key×Addr×Value)=>p.1=q.1/\H q.2.1=some (.tup (p.1.map kV))/\RelV p.2 q.2.2) kvs xs∧
   ∃o es ep,h.get? a=some o/\o.ExactDict/\o.data=.dict es ep/\es.toList=xs.map (entryOfKey (tupleKind (cq P w)))/\(xs.map (·.1)).Nodup
 |.set S n=>h.SetOf (intKind P w) a S n
 |.ins C dx fs=>H dx=some (.own a)/\fs.length<=1000/\dx≠a/\h.get? a=some (PySem.W.instObj C dx)∧
   ∃mA,h.Ns1 dx mA/\(∀f,tF (fs.lookup f) (mA f))/\PySem.Within mA (fs.map (·.1))
 |.own _=>∃o,h.get? a=some o
 |.xd fs=>∃mA,h.Ns1 a mA/\∀f,tF (fs.lookup f) (mA f)
 |.rng lo hi=>∃t u v,h.get? a=some {cls:=.type "range",data:=.fields #[.int lo t,.int hi u,.int 1 v]}
 |.frz o u=>h.get? a=some o/\du H h a u
 |.tbl ps=>h.get? a=some {cls:=.none,data:=.fields ps}
 |.met f x=>h.get? a=some (PySem.W.methodObj (.ref f) (.ref x))
 |.ext φ=>φ h/\(∃o,h.get? a=some o)/\∀h1 h2:Heap,φ h1->(∀o,h1.get? a=some o->h2.get? a=some o)->φ h2
def nY(H:Hp)(h:Heap):Prop:=∀a o,H a=some o->du P w H h a o
end
section
variable{P:Program}{w:World}{H H':Hp}{h h':Heap}{a:Addr}{o:HO}
theorem du.lt(x:du P w H h a o):a<h.objs.size:=by
 cases o with
 |lst xs=>obtain⟨_,_,_,_,e⟩:=x;exact Qiq e
 |tup xs=>obtain⟨_,_,_,p⟩:=x;exact p.it.lt
 |dK kvs=>obtain⟨_,_,_,_,o,_,_,e,_⟩:=x;exact Qiq e
 |dT kvs=>obtain⟨_,_,_,_,o,_,_,e,_⟩:=x;exact Qiq e
 |set S n=>obtain⟨o,_,_,_,e,_⟩:=x;exact Qiq e
 |ins C dx fs=>obtain⟨_,_,_,e,_⟩:=x;exact Qiq e
 |own y=>obtain⟨_,e⟩:=x;exact Qiq e
 |xd fs=>obtain⟨_,⟨_,_,_,e,_⟩,_⟩:=x;exact Qiq e
 |rng lo hi=>obtain⟨_,_,_,e⟩:=x;exact Qiq e
 |frz ob u=>obtain⟨e,_⟩:=x;exact Qiq e
 |tbl ps=>exact Qiq (show h.get? a=some _ from x)
 |met f y=>exact Qiq (show h.get? a=some _ from x)
 |ext φ=>obtain⟨_,⟨_,e⟩,_⟩:=x;exact Qiq e
theorem Paired.mapP{α β:Type}{F G:α->β->Prop}:∀{l₁:List α} {l₂:List β},Paired F l₁ l₂->(∀a b,F a b->G a b)->Paired G l₁ l₂
 |_,_,.nil,_=>.nil
 |_,_,.cons r t,f=>.cons (f _ _ r) (Paired.mapP t f)
def du.stay(x:du P w H h a o)(k:∀b u,(b=a\/H b=some (.own a))->h.get? b=some u->h'.get? b=some u)
  (ho:∀b,H b=some (.own a)->H' b=some (.own a)) (ht:∀b xs,H b=some (.tup xs)->H' b=some (.tup xs)):du P w H' h' a o:=by
 induction o with
 |lst xs=>obtain⟨z,its,n,r,e⟩:=x;exact⟨z,its,n,r,k _ _ (.inl rfl) e⟩
 |tup xs=>obtain⟨z,its,r,ob,e,c⟩:=x;exact⟨z,its,r,ob,k _ _ (.inl rfl) e,c⟩
 |dK kvs=>obtain⟨z,y,vs,r,ob,es,ep,e,c⟩:=x;exact⟨z,y,vs,r,ob,es,ep,k _ _ (.inl rfl) e,c⟩
 | dT kvs=>
   obtain⟨z,y,xs,r,ob,es,ep,e,c⟩:=x
   exact⟨z,y,xs,Paired.mapP r fun p q z=>⟨z.1,ht _ _ z.2.1,z.2.2⟩,ob,es,ep,k _ _ (.inl rfl) e,c⟩
 |set S n=>obtain⟨ob,es,ep,t,e,c⟩:=x;exact⟨ob,es,ep,t,k _ _ (.inl rfl) e,c⟩
 | ins C dx fs=>
   obtain⟨d,z,ne,e,mA,⟨od,es,ep,e2,c⟩,r⟩:=x
   exact⟨ho _ d,z,ne,k _ _ (.inl rfl) e,mA,⟨od,es,ep,k _ _ (.inr d) e2,c⟩,r⟩
 |own y=>obtain⟨ob,e⟩:=x;exact⟨ob,k _ _ (.inl rfl) e⟩
 |xd fs=>obtain⟨mA,⟨od,es,ep,e,c⟩,r⟩:=x;exact⟨mA,⟨od,es,ep,k _ _ (.inl rfl) e,c⟩,r⟩
 |rng lo hi=>obtain⟨t,u,v,e⟩:=x;exact⟨t,u,v,k _ _ (.inl rfl) e⟩
 |frz ob u ih=>obtain⟨e,q⟩:=x;exact⟨k _ _ (.inl rfl) e,ih q⟩
 | tbl ps=>
   have e:h.get? a=some {cls:=.none,data:=.fields ps}:=x
   show h'.get? a=some {cls:=.none,data:=.fields ps}
   exact k a _ (.inl rfl) e
 | met f y=>
   have e:h.get? a=some (PySem.W.methodObj (.ref f) (.ref y)):=x
   show h'.get? a=some (PySem.W.methodObj (.ref f) (.ref y))
   exact k a _ (.inl rfl) e
 |ext φ=>obtain⟨p,⟨o,e⟩,st⟩:=x;exact⟨st _ _ p fun o q=>k _ _ (.inl rfl) q,⟨o,k _ _ (.inl rfl) e⟩,st⟩
def nY.lt(x:nY P w H h)(e:H a=some o):a<h.objs.size:=(x a o e).lt
def nY.fresh(x:nY P w H h)(e:h.objs.size<=a):H a=none:=by
 cases q:H a with
 |none=>rfl
 |some u=>exact absurd (Qqq (x.lt q) e) (Nat.lt_irrefl _)
def nY.kept(x:nY P w H h)(k:∀b u,h.get? b=some u->h'.get? b=some u):nY P w H h':=fun a o e=>
 (x a o e).stay (fun b u _ q=>k b u q) (fun _ q=>q) fun _ _ q=>q
def nY.laid(x:nY P w H h)(k:∀b u,h.get? b=some u->h'.get? b=some u)(hp:h.objs.size<=a)(new:du P w (upd H a o) h' a o):nY P w (upd H a o) h':=fun b u e=>by
 have hn:=x.fresh hp
 by_cases hb:b=a
 ·subst hb;rw[b_] at e;cases e;exact new
 ·rw[bC hb] at e
  exact(x b u e).stay (fun c v _ q=>k c v q) (fun c q=>by rw[bC (fO q hn)];exact q) fun c xs q=>by rw[bC (fO q hn)];exact q
end
def Rd(H:Hp)(a:Addr)(u:HO):Prop:=H a=some u\/∃o,H a=some (.frz o u)
def Rd.ok{P:Program}{w:World}{H:Hp}{h:Heap}{a:Addr}{u:HO}(r:Rd H a u)(x:nY P w H h):du P w H h a u:=by
 rcases r with r|⟨o,r⟩
 ·exact x a u r
 ·obtain⟨_,q⟩:=x a _ r
  exact q
def KD:Option HO->Prop
 |some (.lst _)=>True
 |some (.dK _)=>True
 |some (.dT _)=>True
 |some (.set _ _)=>True
 |some (.ins _ _ _)=>True
 |some (.ext _)=>True
 |_=>False
section
variable{P:Program}{w:World}{H:Hp}{h h':Heap}{x e:Addr}{o':HO}
def nY.write(ok:nY P w H h)(mu:KD (H x))(he:e=x\/H e=some (.own x))(k:∀b u,b≠e->h.get? b=some u->h'.get? b=some u)(heo:∃u,h'.get? e=some u)
  (new:du P w (upd H x o') h' x o'):nY P w (upd H x o') h':=fun b u q=>by
 have nown:∀c y,H c=some (.own y)->c≠x:=fun c y r z=>by subst z;rw[r] at mu;exact mu
 have ntup:∀c xs,H c=some (.tup xs)->c≠x:=fun c xs r z=>by subst z;rw[r] at mu;exact mu
 by_cases hb:b=x
 ·subst hb;rw[b_] at q;cases q;exact new
 ·rw[bC hb] at q
  by_cases hbe:b=e
  ·have q':H b=some (.own x):=by
    rcases he with z|z
    ·exact absurd (hbe.trans z) hb
    ·rw[hbe];exact z
   rw[q] at q';cases q'
   obtain⟨v,hv⟩:=heo
   exact⟨v,by rw[hbe];exact hv⟩
  ·refine(ok b u q).stay (fun c v hc r=>k c v ?_ r) (fun c r=>by rw[bC (nown c b r)];exact r) fun c xs r=>by rw[bC (ntup c xs r)];exact r
   rcases hc with rfl|hc
   ·exact hbe
   ·rintro rfl
    rcases he with z|z
    ·exact nown c b hc z
    ·rw[hc] at z;cases z;exact hb rfl
end
structure Un(fs ex:List Addr)(H H':Hp)(h h':Heap):Prop where
 keep:∀b o,h.get? b=some o->H b=none->b∉fs->b∉ex->h'.get? b=some o
 slot:∀b o,h.get? b=some o->H b=none->b∈fs->b∉ex->∃sl,h'.get? b=some {o with slots:=sl}
 free:∀b o,h.get? b=some o->H b=none->b∉ex->H' b=none
 there:∀b o,h.get? b=some o->b∉ex->∃o',h'.get? b=some o'
 tups:∀b xs,H b=some (.tup xs)->H' b=some (.tup xs)
 frzs:∀b o u,H b=some (.frz o u)->H' b=some (.frz o u)
 tbls:∀b ps,H b=some (.tbl ps)->∃more,H' b=some (.tbl (ps++more))
section
variable{fs fs' ex ex':List Addr}{H H1 H2:Hp}{h h1 h2 h':Heap}{a x e:Addr}{o:HO}
def Un.any(u:Un fs ex H H1 h h1){b:Addr}{ob:Obj}(q:h.get? b=some ob)(n:H b=none)(hx:b∉ex):∃sl,h1.get? b=some {ob with slots:=sl}:=by
 by_cases hb:b∈fs
 ·exact u.slot b ob q n hb hx
 ·exact⟨ob.slots,u.keep b ob q n hb hx⟩
def Un.kept(k:∀b u,h.get? b=some u->h'.get? b=some u):Un fs ex H H h h':=
 ⟨fun b ob q _ _ _=>k b ob q,fun b ob q _ _ _=>⟨ob.slots,k b ob q⟩,fun _ _ _ n _=>n,fun b ob q _=>⟨ob,k b ob q⟩,fun _ _ q=>q,fun _ _ _ q=>q,fun _ ps q=>⟨#[],by rw[q];simp⟩⟩
def Un.refl:Un fs ex H H h h:=Un.kept fun _ _ q=>q
def Un.laid(k:∀b u,h.get? b=some u->h'.get? b=some u)(hp:h.objs.size<=a)(hn:H a=none):Un fs ex H (upd H a o) h h' where
 keep:=fun b u q _ _ _=>k b u q
 slot:=fun b u q _ _ _=>⟨u.slots,k b u q⟩
 free:=fun b u q n _=>by rw[bC (Qwq (Qqq (Qiq q) hp))];exact n
 there:=fun b u q _=>⟨u,k b u q⟩
 tups:=fun b xs q=>by rw[bC (fO q hn)];exact q
 frzs:=fun b u xs q=>by rw[bC (fO q hn)];exact q
 tbls:=fun b ps q=>⟨#[],by rw[bC (fO q hn),q];simp⟩
def Un.write(mu:KD (H x))(he:e=x\/H e=some (.own x))(k:∀b u,b≠e->h.get? b=some u->h'.get? b=some u)(heo:∃u,h'.get? e=some u):Un fs ex H (upd H x o) h h':=by
 have hx:∀b,H b=none->b≠x:=fun b n z=>by subst z;rw[n] at mu;exact mu
 have hb:∀b,H b=none->b≠e:=fun b n z=>by
  subst z
  rcases he with r|r
  ·exact hx b n r
  ·rw[n] at r;cases r
 have hm:∀b u,H b=some u->¬KD (some u)->b≠x:=fun b u q nm z=>by subst z;rw[q] at mu;exact nm mu
 refine⟨fun b u q n _ _=>k b u (hb b n) q,fun b u q n _ _=>⟨u.slots,k b u (hb b n) q⟩,fun b u q n _=>by rw[bC (hx b n)];exact n,fun b u q _=> ?_,
  fun b xs q=>by rw[bC (hm b _ q fun z=>z)];exact q,fun b u xs q=>by rw[bC (hm b _ q fun z=>z)];exact q,fun b ps q=>⟨#[],by rw[bC (hm b _ q fun z=>z),q];simp⟩⟩
 by_cases hbe:b=e
 ·subst hbe;exact heo
 ·exact⟨u,k b u hbe q⟩
end
def Mc(h:Heap)(H:Hp):List Addr:=(List.range h.objs.size).filter fun a=>(H a).isSome
def wB(h:Heap)(H:Hp):Heap:=PySem.W.hideAll h (Mc h H)
def DM(h:Heap)(H:Hp):(wB h H).objs.size=h.objs.size:=PySem.W.hideAll_size _ _
def FI{h:Heap}{H:Hp}{b:Addr}{o:Obj}(e:h.get? b=some o)(n:H b=none):(wB h H).get? b=some o:=
 PySem.W.hideAll_get _ e fun hm=>by
  have q:(H b).isSome=true:=(List.mem_filter.mp hm).2
  rw[n] at q;simp at q
def HF{h:Heap}{H:Hp}{b:Addr}{o:Obj}(e:(wB h H).get? b=some o):h.get? b=some o/\H b=none:=by
 have e':h.get? b=some o:=PySem.W.of_hideAll (Mc h H) e
 refine⟨e',?_⟩
 cases q:H b with
 |none=>rfl
 | some x=>
   have hm:b∈Mc h H:=List.mem_filter.mpr ⟨List.mem_range.mpr (Qiq e'),by simp[q]⟩
   have z:(wB h H).get? b=none:=PySem.W.hideAll_none (Mc h H) hm
   rw[z] at e;cases e
structure Mod(K:PySem.W.Frag)(mg:Str->Option Value)(base:Heap):Prop where
 kin:K.In base
 glob:base.Ns mainGlobals mg
 blt:∃mb,base.Ns builtinsNs mb/\∀x:Str,x≠"__name__" ->mb x=bootBuiltins x
 nolimit:base.NoLimit
structure Cx where
 prog:Program
 w:World
 K:PySem.W.Frag
 mg:Str->Option Value
 base:Heap
 A:Around
 N:List Str
 s₀:Shared
 H₀:Hp
 env:Env
 outer:List Env
 stack:List Env
 ex:List Addr
 fn:Str->Bool
 calm:Bool
 pn:List (Addr×Obj)
 xe:Value->Shared->Prop
def EG(l:List Env):List Addr:=l.filterMap (·.frame)
abbrev Cx.fs(X:Cx):List Addr:=EG X.outer
def HM(sc:Scope)(x:Str):Prop:=sc.names.lookup x=some .local\/sc.names.lookup x=some .cell\/sc.names.lookup x=some .free
def Loc(sc:Scope)(x:Str):Prop:=sc.names.lookup x=some .local\/sc.names.lookup x=some .cell
def Look(env:Env)(h:Heap)(m:Str->Option Value)(x:Str)(u:Value):Prop:=
 (env.kindOf x=some .local/\m x=some u)\/((env.kindOf x=some .cell\/env.kindOf x=some .free)/\∃c,env.cells.lookup x=some c/\h.IsCell c (some u))
structure Cx.Ok(X:Cx):Prop where
 mod:Mod X.K X.mg X.base
 kind:X.env.scope.kind=.function
 glob:X.env.globals=mainGlobals
 blt:X.env.builtins=builtinsNs
 above:X.s₀.heap.objs.size<=X.env.locals
 inj:∀x y c,X.env.cells.lookup x=some c->X.env.cells.lookup y=some c->x=y
 has:∀x,(X.env.kindOf x=some .cell\/X.env.kindOf x=some .free)->∃c,X.env.cells.lookup x=some c
 cab:∀x c,X.fn x=true->X.env.cells.lookup x=some c->X.s₀.heap.objs.size<=c
 hd:X.calm=true->X.A.handled=none
 frames:X.A.frames=some X.stack
 stk:X.stack=X.outer\/(X.stack=X.env::X.outer/\X.env.frame=some X.env.locals)
 exf:∀b∈X.ex,b≠X.env.locals/\∀x c,X.env.cells.lookup x=some c->c≠b
 bs:∀b o,X.base.get? b=some o->X.s₀.heap.get? b=some o/\X.H₀ b=none
 bsz:X.base.objs.size<=X.s₀.heap.objs.size
 noex:∀b o,X.base.get? b=some o->b∉X.ex
 exfs:∀b∈X.ex,b∉X.fs
 funs:X.s₀.heap.FunFrames X.base X.outer
 frf:∀b∈X.fs,X.H₀ b=none
structure Inv(X:Cx)(pins:List (Addr×Obj))(σ:List (Option V))(H:Hp)(s:Shared):Prop where
 ok:X.Ok
 os:s.os=X.s₀.os
 bare:AllBare s.gens
 base:Un X.fs X.ex X.H₀ H X.s₀.heap s.heap
 loc:∃m,s.heap.Ns X.env.locals m/\∀(i:Nat) (x:Str) (v:V),X.N[i]?=some x->σ[i]?=some (some v)->HM X.env.scope x->∃u,RelV v u/\Look X.env s.heap m x u
 cell:∀x c,X.env.cells.lookup x=some c->∃v,s.heap.IsCell c v
 free:H X.env.locals=none
 freeC:∀x c,X.env.cells.lookup x=some c->H c=none
 pin:∀p∈X.pn++pins,s.heap.get? p.1=some p.2/\H p.1=none/\p.1≠X.env.locals/\p.1∉X.fs/\∀v,p.2.data≠.cell v
 hok:nY X.prog X.w H s.heap
 len:σ.length=X.N.length
section
variable{X:Cx}{pins:List (Addr×Obj)}{σ:List (Option V)}{H H':Hp}{s:Shared}{h':Heap}
def Cx.Ok.nofr(ok:X.Ok){b:Addr}{o:Obj}(e:X.base.get? b=some o):b∉X.fs:=fun hb=>by
 have:=(ok.funs.mem hb).1
 rw[e] at this;cases this
def Inv.bs(I:Inv X pins σ H s):∀b o,X.base.get? b=some o->s.heap.get? b=some o/\H b=none:=fun b o e=>
 ⟨I.base.keep b o (I.ok.bs b o e).1 (I.ok.bs b o e).2 (I.ok.nofr e) (I.ok.noex b o e),I.base.free b o (I.ok.bs b o e).1 (I.ok.bs b o e).2 (I.ok.noex b o e)⟩
def Inv.bk(I:Inv X pins σ H s):∀b o,X.base.get? b=some o->s.heap.get? b=some o:=fun b o e=>(I.bs b o e).1
def Inv.mod(I:Inv X pins σ H s):Mod X.K X.mg X.base:=I.ok.mod
def Inv.kIn(I:Inv X pins σ H s):X.K.In s.heap:=I.ok.mod.kin.keeps I.bk
def Inv.lt(I:Inv X pins σ H s):X.env.locals<s.heap.objs.size:=let ⟨_,hn,_⟩:=I.loc;hn.lt
def Inv.sz(I:Inv X pins σ H s):X.s₀.heap.objs.size<=s.heap.objs.size:=QAq I.ok.above (nQl I.lt)
def Inv.nofs(I:Inv X pins σ H s){a:Addr}(h:s.heap.objs.size<=a):a∉X.fs:=fun hb=>by
 obtain⟨_,o,ho,_⟩:=I.ok.funs.mem hb
 exact absurd (Qqq (Qiq ho) (QAq I.sz h)) (Nat.lt_irrefl _)
def Inv.cne(I:Inv X pins σ H s):∀x c,X.env.cells.lookup x=some c->c≠X.env.locals:=fun x c e z=>by
 obtain⟨v,o,ho,hd⟩:=I.cell x c e
 obtain⟨m,⟨o',es,ep,ho',hd',_⟩,_⟩:=I.loc
 rw[z,ho'] at ho;cases ho;rw[hd'] at hd;cases hd
theorem Inv.funs(I:Inv X pins σ H s):s.heap.FunFrames X.base X.outer:=by
 have all:∀(l:List Env),(∀b∈EG l,b∈X.fs)->X.s₀.heap.FunFrames X.base l->s.heap.FunFrames X.base l:=by
  intro l
  induction l with
  |nil=>intro _ _;trivial
  | cons env r ih=>
    intro hs hl
    obtain⟨hk,⟨L,o,hf,hn,ho,hd⟩,hr⟩:=hl
    have hL:L∈X.fs:=hs L (by unfold EG;rw[List.filterMap_cons,hf];exact QBq)
    obtain⟨sl,e⟩:=I.base.slot L o ho (I.ok.frf L hL) hL fun z=>I.ok.exfs L z hL
    exact⟨hk,⟨L,_,hf,hn,e,hd⟩,ih (fun b hb=>hs b (by unfold EG;rw[List.filterMap_cons,hf];exact Qpq _ hb)) hr⟩
 exact all X.outer (fun _ hb=>hb) I.ok.funs
def Inv.stack(I:Inv X pins σ H s):s.heap.FunFrames X.base X.stack:=by
 rcases I.ok.stk with e|⟨e,hf⟩
 ·rw[e];exact I.funs
 ·rw[e]
  obtain⟨m,hn,_⟩:=I.loc
  refine .cons (by rw[I.ok.kind];decide) hf hn ?_ I.funs
  exact Heap.get?_none_of_le (QAq I.ok.bsz I.ok.above)
def Inv.stkSub(I:Inv X pins σ H s):∀b∈EG X.stack,b∈X.env.locals::X.fs:=fun b hb=>by
 rcases I.ok.stk with e|⟨e,hf⟩
 ·rw[e] at hb;exact Qpq _ hb
 ·rw[e] at hb
  unfold EG at hb
  rw[List.filterMap_cons,hf] at hb
  exact hb
def Inv.stkFree(I:Inv X pins σ H s):∀b∈EG X.stack,H b=none:=fun b hb=>by
 rcases Qsq.mp (I.stkSub b hb) with e|hb
 ·rw[e];exact I.free
 ·obtain⟨_,o,ho,_⟩:=I.ok.funs.mem hb
  exact I.base.free b o ho (I.ok.frf b hb) fun z=>I.ok.exfs b z hb
def Inv.step{g':Array GenState}{t':Nat}{d':Drawn}{ch:List Addr}(I:Inv X pins σ H s)
  (hch:∀b∈ch,(b∈X.ex\/X.s₀.heap.objs.size<=b)/\b≠X.env.locals/\(∀x c,X.env.cells.lookup x=some c->c≠b)/\∀p∈X.pn++pins,p.1≠b)
  (keep:∀b o,b≠X.env.locals->b∉X.fs->b∉ch->s.heap.get? b=some o->H b=none->h'.get? b=some o)
  (slot:∀b o,b≠X.env.locals->b∈X.fs->b∉ch->s.heap.get? b=some o->H b=none->∃sl,h'.get? b=some {o with slots:=sl}) (free:∀b o,b∉ch->s.heap.get? b=some o->H b=none->H' b=none)
  (there:∀b o,b∉ch->s.heap.get? b=some o->∃o',h'.get? b=some o')
  (tups:∀b xs,H b=some (.tup xs)->H' b=some (.tup xs)) (frzs:∀b o u,H b=some (.frz o u)->H' b=some (.frz o u)) (tbls:∀b ps,H b=some (.tbl ps)->∃more,H' b=some (.tbl (ps++more)))
  (ns:∀m,s.heap.Ns X.env.locals m->h'.Ns X.env.locals m) (hok:nY X.prog X.w H' h') (hg:AllBare g'):
  Inv X pins σ H' {s with heap:=h',gens:=g',drawn:=d',toks:=t'}:=by
 have neL:∀b o,X.s₀.heap.get? b=some o->b≠X.env.locals:=fun b o e=>Qwq (Qqq (Qiq e) I.ok.above)
 have neC:∀b o,X.s₀.heap.get? b=some o->b∉X.ex->b∉ch:=fun b o e hx hb=>by
  rcases(hch b hb).1 with z|z
  ·exact hx z
  ·exact absurd (Qqq (Qiq e) z) (Nat.lt_irrefl _)
 have cellK:∀x c,X.env.cells.lookup x=some c->∀v,s.heap.IsCell c v->h'.IsCell c v:=fun x c e v qq=>by
  obtain⟨o,ho,hd⟩:=qq
  have nch:c∉ch:=fun z=>(hch c z).2.2.1 x c e rfl
  by_cases hc:c∈X.fs
  ·obtain⟨sl,q⟩:=slot c o (I.cne x c e) hc nch ho (I.freeC x c e)
   exact⟨_,q,hd⟩
  ·exact⟨o,keep c o (I.cne x c e) hc nch ho (I.freeC x c e),hd⟩
 refine⟨I.ok,I.os,hg,⟨fun b o e n hb hx=> ?_,fun b o e n hb hx=> ?_,fun b o e n hx=> ?_,fun b o e hx=> ?_,fun b xs e=>tups b xs (I.base.tups b xs e),fun b o xs e=>frzs b o xs (I.base.frzs b o xs e),fun b ps e=> ?_⟩,?_,fun x c e=> ?_,?_,fun x c e=> ?_,fun p hp=> ?_,hok,I.len⟩
 ·exact keep b o (neL b o e) hb (neC b o e hx) (I.base.keep b o e n hb hx) (I.base.free b o e n hx)
 ·obtain⟨sl,e1⟩:=I.base.slot b o e n hb hx
  obtain⟨sl',e2⟩:=slot b _ (neL b o e) hb (neC b o e hx) e1 (I.base.free b o e n hx)
  exact⟨sl',e2⟩
 ·obtain⟨o',e1⟩:=I.base.there b o e hx
  exact free b o' (neC b o e hx) e1 (I.base.free b o e n hx)
 ·obtain⟨o',e1⟩:=I.base.there b o e hx
  exact there b o' (neC b o e hx) e1
 ·obtain⟨m1,e1⟩:=I.base.tbls b ps e
  obtain⟨m2,e2⟩:=tbls b _ e1
  exact⟨m1++m2,by rw[e2,Array.append_assoc]⟩
 ·obtain⟨m,hn,hl⟩:=I.loc
  refine⟨m,ns m hn,fun i x v e1 e2 e3=> ?_⟩
  obtain⟨u,r,l⟩:=hl i x v e1 e2 e3
  refine⟨u,r,?_⟩
  rcases l with l|⟨k,c,e,z⟩
  ·exact .inl l
  ·exact .inr ⟨k,c,e,cellK x c e _ z⟩
 ·obtain⟨v,z⟩:=I.cell x c e
  exact⟨v,cellK x c e v z⟩
 ·obtain⟨m,⟨o,_,_,ho,_⟩,_⟩:=I.loc
  exact free _ o (fun z=>(hch _ z).2.1 rfl) ho I.free
 ·obtain⟨v,o,ho,hd⟩:=I.cell x c e
  exact free c o (fun z=>(hch c z).2.2.1 x c e rfl) ho (I.freeC x c e)
 ·obtain⟨e,n,ne,nf,d⟩:=I.pin p hp
  have nch:p.1∉ch:=fun z=>(hch p.1 z).2.2.2 p hp rfl
  exact⟨keep p.1 p.2 ne nf nch e n,free p.1 p.2 nch e n,ne,nf,d⟩
def Inv.un{t':Nat}(I:Inv X pins σ H s)(u:Un X.fs [] H H' s.heap h')(hok:nY X.prog X.w H' h'):Inv X pins σ H' {s with heap:=h',toks:=t'}:=by
 obtain⟨m,⟨o,es,ep,ho,r⟩,_⟩:=id I.loc
 obtain⟨sl,hL⟩:=u.any ho I.free (by simp)
 exact I.step (g':=s.gens) (d':=s.drawn) (ch:= []) (fun _ z=>nomatch z) (fun b o _ hb _ e n=>u.keep b o e n hb (by simp)) (fun b o _ hb _ e n=>u.slot b o e n hb (by simp)) (fun b o _ e n=>u.free b o e n (by simp)) (fun b o _ e=>u.there b o e (by simp)) u.tups u.frzs u.tbls (fun m' hm=>by
  obtain⟨o',es',ep',ho',r'⟩:=hm
  rw[ho] at ho';cases ho'
  exact⟨_,es',ep',hL,r'⟩) hok I.bare
def Inv.call{g':Array GenState}{t':Nat}{d':Drawn}{ch:List Addr}(I:Inv X pins σ H s)(u:Un (EG X.stack) ch H H' s.heap h')(hok:nY X.prog X.w H' h')(hg:AllBare g')
  (hch:∀b∈ch,(b∈X.ex\/X.s₀.heap.objs.size<=b)/\b≠X.env.locals/\(∀x c,X.env.cells.lookup x=some c->c≠b)/\∀p∈X.pn++pins,p.1≠b):
  Inv X pins σ H' {s with heap:=h',gens:=g',drawn:=d',toks:=t'}:=by
 obtain⟨m,⟨o,es,ep,ho,r⟩,_⟩:=id I.loc
 obtain⟨sl,hL⟩:=u.any ho I.free fun z=>(hch _ z).2.1 rfl
 exact I.step (ch:=ch) hch (fun b o hL hb hc e n=>u.keep b o e n (fun z=>(Qsq.mp (I.stkSub b z)).elim hL hb) hc) (fun b o _ _ hc e n=>u.any e n hc) (fun b o hc e n=>u.free b o e n hc) (fun b o hc e=>u.there b o e hc) u.tups u.frzs u.tbls (fun m' hm=>by
  obtain⟨o',es',ep',ho',r'⟩:=hm
  rw[ho] at ho';cases ho'
  exact⟨_,es',ep',hL,r'⟩) hok hg
def Inv.turned{t':Nat}{it:Addr}(I:Inv X pins σ H s)(k:∀b o,b≠it->s.heap.get? b=some o->h'.get? b=some o)(hn:H it=none)(hL:it≠X.env.locals)
  (h1:it∈X.ex\/X.s₀.heap.objs.size<=it) (h2:∀x c,X.env.cells.lookup x=some c->c≠it) (h3:∀p∈X.pn++pins,p.1≠it):Inv X pins σ H {s with heap:=h',toks:=t'}:=by
 have nit:∀b u,H b=some u->b≠it:=fun b u e z=>by rw[z,hn] at e;cases e
 refine I.step (g':=s.gens) (d':=s.drawn) (ch:= [it]) (fun b hb=> ?_) (fun b o _ _ hc e _=>k b o (fun z=>hc (by simp[z])) e) (fun b o _ _ hc e _=>⟨o.slots,k b o (fun z=>hc (by simp[z])) e⟩) (fun _ _ _ _ n=>n)
  (fun b o hc e=>⟨o,k b o (fun z=>hc (by simp[z])) e⟩) (fun _ _ e=>e) (fun _ _ _ e=>e) (fun b ps e=>⟨#[],by rw[e];simp⟩) (fun m hm=> ?_) (fun b u e=> ?_) I.bare
 ·have e:b=it:=by simpa using hb
  subst e
  exact⟨h1,hL,h2,h3⟩
 ·obtain⟨o,es,ep,ho,r⟩:=hm
  exact⟨o,es,ep,k _ o (Ne.symm hL) ho,r⟩
 ·refine(I.hok b u e).stay (fun c v hc q=>k c v ?_ q) (fun _ q=>q) fun _ _ q=>q
  rcases hc with z|z
  ·rw[z];exact nit b u e
  ·exact nit c _ z
def Inv.tok(I:Inv X pins σ H s)(t:Nat):Inv X pins σ H {s with toks:=t}:=I.un (h':=s.heap) (t':=t) Un.refl I.hok
def Inv.kept{t':Nat}(I:Inv X pins σ H s)(k:∀b u,s.heap.get? b=some u->h'.get? b=some u):Inv X pins σ H {s with heap:=h',toks:=t'}:=I.un (Un.kept k) (I.hok.kept k)
def Inv.laid{a:Addr}{o:HO}{t':Nat}(I:Inv X pins σ H s)(k:∀b u,s.heap.get? b=some u->h'.get? b=some u)(hp:s.heap.objs.size<=a)(new:du X.prog X.w (upd H a o) h' a o):
  Inv X pins σ (upd H a o) {s with heap:=h',toks:=t'}:=I.un (Un.laid k hp (I.hok.fresh hp)) (I.hok.laid k hp new)
def Inv.write{x e:Addr}{o:HO}{t':Nat}(I:Inv X pins σ H s)(mu:KD (H x))(he:e=x\/H e=some (.own x))(k:∀b u,b≠e->s.heap.get? b=some u->h'.get? b=some u)(heo:∃u,h'.get? e=some u)
  (new:du X.prog X.w (upd H x o) h' x o):Inv X pins σ (upd H x o) {s with heap:=h',toks:=t'}:=I.un (Un.write mu he k heo) (I.hok.write mu he k heo new)
def Inv.pins_of{pins':List (Addr×Obj)}(I:Inv X pins σ H s)(h:∀p∈pins',s.heap.get? p.1=some p.2/\H p.1=none/\p.1≠X.env.locals/\p.1∉X.fs/\∀v,p.2.data≠.cell v):Inv X pins' σ H s:=
 ⟨I.ok,I.os,I.bare,I.base,I.loc,I.cell,I.free,I.freeC,fun p hp=>(mQa.mp hp).elim (fun z=>I.pin p (List.mem_append_left _ z)) (h p),I.hok,I.len⟩
def zy{N:List Str}(hN:N.Nodup){i j:Nat}{x:Str}(a:N[i]?=some x)(b:N[j]?=some x):i=j:=by
 obtain⟨h1,e1⟩:=gQs.mp a
 obtain⟨h2,e2⟩:=gQs.mp b
 exact(List.getElem_inj hN).mp (e1.trans e2.symm)
def CQ{M:Model}{A:Around}{E:Value->Shared->Prop}{i:Nat}{x:Str}{v:V}{u:Value}{Q:Unit->Shared->Prop}(I:Inv X pins σ H s)(hN:X.N.Nodup)(hi:X.N[i]?=some x)(hx:Loc X.env.scope x)(r:RelV v u)
  (h:∀s',Inv X pins (σ.set i (some v)) H s'->(∃a,Heap.SameBut a s.heap s'.heap/\(a=X.env.locals\/X.env.cells.lookup x=some a))->Q () s') (hf:X.fn x=true\/X.env.scope.names.lookup x=some .local:=by first|exact .inl rfl|exact .inr rfl|assumption):wpAny M A (storeName X.env x u) Q E s:=by
 obtain⟨m,hn,hl⟩:=id I.loc
 have hcls:(X.env.scope.kind==.class||(X.env.scope.kind==.module&&X.env.locals !=X.env.globals))=false:=by rw[I.ok.kind];rfl
 have hiσ:i<σ.length:=by rw[I.len];exact(gQs.mp hi).1
 have cne:=I.cne
 have tracked:∀{a:Addr} {h':Heap},(∃o,s.heap.get? a=some o/\H a=none)->Heap.SameBut a s.heap h'->nY X.prog X.w H h':=fun{a h'} ha hs b ob e=>by
  obtain⟨_,_,hfree⟩:=ha
  refine(I.hok b ob e).stay (fun c w' hc q=>(hs.2 c ?_).trans q) (fun _ q=>q) fun _ _ q=>q
  rintro rfl
  rcases hc with rfl|hc
  ·rw[hfree] at e;cases e
  ·rw[hfree] at hc;cases hc
 rcases hx with hk|hk
 ·refine wpAny_storeName_local hk hn (fun h' hn' hs=> ?_) hcls
  obtain⟨oL,_,_,hoL,_⟩:=id hn
  refine h _ ⟨I.ok,I.os,I.bare,⟨fun b o e n hb hx=> ?_,fun b o e n hb hx=> ?_,I.base.free,fun b o e hx=> ?_,I.base.tups,I.base.frzs,I.base.tbls⟩,⟨_,hn',fun j y v' e1 e2 e3=> ?_⟩,fun y c e=> ?_,I.free,I.freeC,fun p hp=> ?_,tracked ⟨oL,hoL,I.free⟩ hs,by simpa using I.len⟩ ⟨_,hs,.inl rfl⟩
  ·exact(hs.2 b (Qwq (Qqq (Qiq e) I.ok.above))).trans (I.base.keep b o e n hb hx)
  ·obtain⟨sl,e1⟩:=I.base.slot b o e n hb hx
   exact⟨sl,(hs.2 b (Qwq (Qqq (Qiq e) I.ok.above))).trans e1⟩
  ·obtain⟨o',e1⟩:=I.base.there b o e hx
   exact⟨o',(hs.2 b (Qwq (Qqq (Qiq e) I.ok.above))).trans e1⟩
  ·by_cases hj:j=i
   ·subst hj
    rw[hi] at e1;cases e1
    rw[Qyq hiσ] at e2
    cases e2
    exact⟨u,r,.inl ⟨hk,by simp⟩⟩
   ·rw[QKq (Ne.symm hj)] at e2
    obtain⟨u',r',q⟩:=hl j y v' e1 e2 e3
    refine⟨u',r',?_⟩
    rcases q with⟨k,e⟩|⟨k,c,e,z⟩
    ·refine .inl ⟨k,?_⟩
     have:y≠x:=fun e=>hj (zy hN e1 (e▸hi))
     simp[this,e]
    ·exact .inr ⟨k,c,e,z.sameBut hs (cne y c e)⟩
  ·obtain⟨w',z⟩:=I.cell y c e
   exact⟨w',z.sameBut hs (cne y c e)⟩
  ·obtain⟨e,n,ne,nf,d⟩:=I.pin p hp
   exact⟨(hs.2 p.1 ne).trans e,n,ne,nf,d⟩
 ·have hfn:X.fn x=true:=by
   rcases hf with z|z
   ·exact z
   ·rw[z] at hk;cases hk
  obtain⟨c,hc⟩:=I.ok.has x (.inl hk)
  obtain⟨w',z⟩:=I.cell x c hc
  refine wpAny_storeName_cell I.ok.kind hk hc z (fun h' hc' hs=> ?_)
  obtain⟨oc,hoc,hocd⟩:=id z
  refine h {s with heap:=h'} ⟨I.ok,I.os,I.bare,⟨fun b o e n hb hx=> ?_,fun b o e n hb hx=> ?_,I.base.free,fun b o e hx=> ?_,I.base.tups,I.base.frzs,I.base.tbls⟩,⟨m,hn.sameBut hs (Ne.symm (cne x c hc)),fun j y v' e1 e2 e3=> ?_⟩,fun y c' e=> ?_,I.free,I.freeC,fun p hp=> ?_,tracked ⟨oc,hoc,I.freeC x c hc⟩ hs,by simpa using I.len⟩ ⟨c,hs,.inr hc⟩
  ·exact(hs.2 b (Qwq (Qqq (Qiq e) (I.ok.cab x c hfn hc)))).trans (I.base.keep b o e n hb hx)
  ·obtain⟨sl,e1⟩:=I.base.slot b o e n hb hx
   exact⟨sl,(hs.2 b (Qwq (Qqq (Qiq e) (I.ok.cab x c hfn hc)))).trans e1⟩
  ·obtain⟨o',e1⟩:=I.base.there b o e hx
   exact⟨o',(hs.2 b (Qwq (Qqq (Qiq e) (I.ok.cab x c hfn hc)))).trans e1⟩
  ·by_cases hj:j=i
   ·subst hj
    rw[hi] at e1;cases e1
    rw[Qyq hiσ] at e2
    cases e2
    exact⟨u,r,.inr ⟨.inl hk,c,hc,hc'⟩⟩
   ·rw[QKq (Ne.symm hj)] at e2
    obtain⟨u',r',q⟩:=hl j y v' e1 e2 e3
    refine⟨u',r',?_⟩
    rcases q with q|⟨k,c',e,z'⟩
    ·exact .inl q
    ·refine .inr ⟨k,c',e,z'.sameBut hs ?_⟩
     rintro rfl
     exact hj (zy hN e1 (I.ok.inj _ _ _ e hc▸hi))
  ·by_cases hcc:c'=c
   ·subst hcc;exact⟨_,hc'⟩
   ·obtain⟨w2,z2⟩:=I.cell y c' e
    exact⟨w2,z2.sameBut hs hcc⟩
  ·obtain⟨e,n,ne,nf,d⟩:=I.pin p hp
   refine⟨(hs.2 p.1 ?_).trans e,n,ne,nf,d⟩
   intro q
   rw[q,hoc] at e
   have q':oc=p.2:=Option.some.inj e
   exact d w' (by rw[←q'];exact hocd)
def oY{M:Model}{A:Around}{E:Value->Shared->Prop}{i:Nat}{x:Str}{v:V}{u:Value}{Q:Unit->Shared->Prop}(I:Inv X pins σ H s)(hN:X.N.Nodup)(hi:X.N[i]?=some x)(hx:Loc X.env.scope x)(r:RelV v u)
  (h:∀s',Inv X pins (σ.set i (some v)) H s'->Q () s') (hf:X.fn x=true\/X.env.scope.names.lookup x=some .local:=by first|exact .inl rfl|exact .inr rfl|assumption):wpAny M A (storeName X.env x u) Q E s:=
 CQ I hN hi hx r (fun s' I' _=>h s' I') hf
def Inv.call'{s':Shared}{ch:List Addr}(I:Inv X pins σ H s)(ho:s'.os=s.os)(u:Un (EG X.stack) ch H H' s.heap s'.heap)(hok:nY X.prog X.w H' s'.heap)(hg:AllBare s'.gens)
  (hch:∀b∈ch,(b∈X.ex\/X.s₀.heap.objs.size<=b)/\b≠X.env.locals/\(∀x c,X.env.cells.lookup x=some c->c≠b)/\∀p∈X.pn++pins,p.1≠b):Inv X pins σ H' s':=by
 obtain⟨h',g',d',t',o'⟩:=s'
 have e:o'=s.os:=ho
 subst e
 exact I.call (g':=g') (t':=t') (d':=d') u hok hg hch
end
abbrev XK:=Value->Option Addr->Hp->Prop
abbrev St:=List (Option V)
abbrev VK:=V->Hp->Prop
abbrev TE:=St->Hp->VK->Prop
abbrev TT:=St->Hp->(Bool->Hp->Prop)->Prop
abbrev TA:=St->Hp->(List V->Hp->Prop)->Prop
structure Ends where
 nx:St->Hp->Prop
 rt:VK
 bk:St->Hp->Prop:=fun _ _=>False
 ct:St->Hp->Prop:=fun _ _=>False
abbrev TS:=Ends->St->Hp->Prop
def EP(X:Cx)(pins:List (Addr×Obj))(σ:St)(Q:VK)(u:Value)(s':Shared):Prop:=∃v H',Inv X pins σ H' s'/\RelV v u/\Q v H'
def TP(X:Cx)(pins:List (Addr×Obj))(σ:St)(Q:Bool->Hp->Prop)(b:Bool)(s':Shared):Prop:=∃H',Inv X pins σ H' s'/\Q b H'
def AP(X:Cx)(pins:List (Addr×Obj))(σ:St)(Q:List V->Hp->Prop)(us:List Value)(s':Shared):Prop:=∃vs H',Inv X pins σ H' s'/\bS vs us/\Q vs H'
def SP(X:Cx)(pins:List (Addr×Obj))(D:Ends)(f:Flow)(s':Shared):Prop:=
 match f with
 |.next=>∃σ' H',Inv X pins σ' H' s'/\D.nx σ' H'
 |.brk=>∃σ' H',Inv X pins σ' H' s'/\D.bk σ' H'
 |.cont=>∃σ' H',Inv X pins σ' H' s'/\D.ct σ' H'
 |.ret u=>∃v σ' H',Inv X pins σ' H' s'/\RelV v u/\D.rt v H'
def PE(X:Cx)(e:Expr)(t:TE):Prop:=
 ∀(pins:List (Addr×Obj)) (s:Shared) (σ:St) (H:Hp) (Q:VK),Inv X pins σ H s->t σ H Q->wpAny (model X.prog X.w) X.A (eval e X.env) (EP X pins σ Q) X.xe s
def PT(X:Cx)(e:Expr)(t:TT):Prop:=
 ∀(pins:List (Addr×Obj)) (s:Shared) (σ:St) (H:Hp) (Q:Bool->Hp->Prop),Inv X pins σ H s->t σ H Q->wpAny (model X.prog X.w) X.A (isTrue e X.env (eval e X.env)) (TP X pins σ Q) X.xe s
def PW(X:Cx)(e:Expr)(t:TT):Prop:=
 ∀(whole:Sem Value) (pins:List (Addr×Obj)) (s:Shared) (σ:St) (H:Hp) (Q:Bool->Hp->Prop),Inv X pins σ H s->t σ H Q->wpAny (model X.prog X.w) X.A (isTrue e X.env whole) (TP X pins σ Q) X.xe s
def PW.pt{X:Cx}{e:Expr}{t:TT}(h:PW X e t):PT X e t:=h _
def PA(X:Cx)(es:List Expr)(t:TA):Prop:=
 ∀(pos:Pos) (pins:List (Addr×Obj)) (s:Shared) (σ:St) (H:Hp) (Q:List V->Hp->Prop),Inv X pins σ H s->t σ H Q->wpAny (model X.prog X.w) X.A (spliced (backTo pos (starEach es X.env))) (AP X pins σ Q) X.xe s
def PS(X:Cx)(st:Stmt)(t:TS):Prop:=
 ∀(pins:List (Addr×Obj)) (s:Shared) (σ:St) (H:Hp) (D:Ends),Inv X pins σ H s->t D σ H->wpAny (model X.prog X.w) X.A (exec st X.env) (SP X pins D) X.xe s
def rV(X:Cx)(st:List Stmt)(t:TS):Prop:=
 ∀(pins:List (Addr×Obj)) (s:Shared) (σ:St) (H:Hp) (D:Ends),Inv X pins σ H s->t D σ H->wpAny (model X.prog X.w) X.A (execs st X.env) (SP X pins D) X.xe s
def dr{α:Type}{t:Sem α}{Q Q':α->Shared->Prop}{M:Model}{A:Around}{E:Value->Shared->Prop}{s:Shared}(h:wpAny M A t Q E s)(hQ:∀a s,Q a s->Q' a s):wpAny M A t Q' E s:=QRq h hQ fun _ _ x=>x
section
variable{X:Cx}
def Jf(i:Nat):TE:=fun σ H Q=>∃v,σ[i]?=some (some v)/\Q v H
def tC(v:V):TE:=fun _ H Q=>Q v H
def DZ{i:Nat}{x:Str}{pos:Pos}(hN:X.N[i]?=some x)(hv:HM X.env.scope x)(hd:(x==("__debug__":Str))=false:=by decide)(hcd:(x==("__classdict__":Str))=false:=by decide):PE X (.Name x pos) (Jf i):=by
 intro pins s σ H Q I h
 obtain⟨v,e,h⟩:=h
 obtain⟨m,hn,hl⟩:=I.loc
 obtain⟨u,r,l⟩:=hl i x v hN e hv
 have fin:EP X pins σ Q u s:=⟨v,H,I,r,h⟩
 rcases l with⟨hk,hm⟩|⟨hk,c,hc,hcell⟩
 ·exact wpAny_Name (wpAny_loadName_local I.ok.kind hk hn hm fin) hd
 ·rcases hk with hk|hk
  ·exact wpAny_Name (wpAny_loadName_cell I.ok.kind hk hc hcell fin) hd
  ·exact wpAny_Name (wpAny_loadName_free I.ok.kind hk hc hcell fin hcd) hd
def JD{i j pos}:PE X (.Constant (.int i) j pos) (tC (.int i)):=fun _ _ _ H _ I h=>wpAny_Constant_int ⟨.int i,H,I.tok _,⟨_,rfl⟩,h⟩
def LL{b j pos}:PE X (.Constant (.bool b) j pos) (tC (.bl b)):=fun _ _ _ H _ I h=>Constant_bool ⟨.bl b,H,I,rfl,h⟩
def JB{j pos}:PE X (.Constant .none j pos) (tC .non):=fun _ _ _ H _ I h=>Constant_none ⟨.non,H,I,rfl,h⟩
def ID{x j pos}:PE X (.Constant (.str x) j pos) (tC (.str x)):=fun _ _ _ H _ I h=>Calls.Constant_str ⟨.str x,H,I.tok _,⟨_,rfl⟩,h⟩
def Gl(X:Cx)(x:Str):Prop:=X.env.kindOf x=some .globalImplicit
def xP{E:Value->Shared->Prop}{pins:List (Addr×Obj)}{s:Shared}{σ:St}{H:Hp}{x:Str}{u:Value}{pos:Pos}{Q:Value->Shared->Prop}(I:Inv X pins σ H s)(hg:Gl X x)(hm:X.mg x=some u)(h:Q u s)
  (hd:(x==("__debug__":Str))=false:=by decide):wpAny (model X.prog X.w) X.A (eval (.Name x pos) X.env) Q E s:=
 Calls.Name_function_global I.ok.kind hg (Calls.loadGlobal_global (by rw[I.ok.glob];exact I.mod.glob.keeps I.bk) hm h) hd
def lC{E:Value->Shared->Prop}{pins:List (Addr×Obj)}{s:Shared}{σ:St}{H:Hp}{x:Str}{u:Value}{pos:Pos}{Q:Value->Shared->Prop}(I:Inv X pins σ H s)(hg:Gl X x)(hm:X.mg x=none)(hv:bootBuiltins x=some u)(h:Q u s)
  (hn:x≠"__name__":=by decide) (hd:(x==("__debug__":Str))=false:=by decide):wpAny (model X.prog X.w) X.A (eval (.Name x pos) X.env) Q E s:=by
 obtain⟨mb,h1,h2⟩:=I.mod.blt
 exact Calls.Name_function_global I.ok.kind hg (Calls.loadGlobal_builtin (by rw[I.ok.glob];exact I.mod.glob.keeps I.bk) hm (by rw[I.ok.blt];exact h1.keeps I.bk) ((h2 x hn).trans hv) h) hd
def fG{x:Str}{v:V}{u:Value}{pos:Pos}(hg:Gl X x)(hm:X.mg x=some u)(r:RelV v u)(hd:(x==("__debug__":Str))=false:=by decide):PE X (.Name x pos) (tC v):=
 fun _ _ _ H _ I h=>xP I hg hm ⟨v,H,I,r,h⟩ hd
def Cg{x:Str}{v:V}{u:Value}{pos:Pos}(hg:Gl X x)(hm:X.mg x=none)(hv:bootBuiltins x=some u)(r:RelV v u)(hn:x≠"__name__":=by decide)(hd:(x==("__debug__":Str))=false:=by decide):PE X (.Name x pos) (tC v):=
 fun _ _ _ H _ I h=>lC I hg hm hv ⟨v,H,I,r,h⟩ hn hd
variable{a b:Expr}{ta tb:TE}{pos:Pos}
variable{tA tB':TT}{rest:List Expr}
def MQ(t u:TT):TT:=fun σ H Q=>t σ H fun c H1=>if c=true then u σ H1 Q else Q false H1
def Ni(t u:TT):TT:=fun σ H Q=>t σ H fun c H1=>if c=true then Q true H1 else u σ H1 Q
def MM(t:TT):TT:=fun σ H Q=>t σ H fun c H1=>Q (!c) H1
def Gc(ha:PT X a tA):PW X (.BoolOp .And [a] pos) tA:=by
 intro wh pins s σ H Q I h
 refine isTrue_and (dr (ha pins s σ H Q I h) fun c s1 e=> ?_)
 cases c with
 |true=>exact isTrue_and_nil e
 |false=>exact e
def Jh(ha:PT X a tA):PW X (.BoolOp .Or [a] pos) tA:=by
 intro wh pins s σ H Q I h
 refine isTrue_or (dr (ha pins s σ H Q I h) fun c s1 e=> ?_)
 cases c with
 |false=>exact isTrue_or_nil e
 |true=>exact e
def JN(ha:PT X a tA)(hb:PW X (.BoolOp .And (b::rest) pos) tB'):PW X (.BoolOp .And (a::b::rest) pos) (MQ tA tB'):=by
 intro wh pins s σ H Q I h
 refine isTrue_and (dr (ha pins s σ H _ I h) fun c s1 qr=> ?_)
 obtain⟨H1,I1,q1⟩:=qr
 cases c with
 |true=>exact hb wh pins s1 σ H1 Q I1 q1
 |false=>exact⟨H1,I1,q1⟩
def KG(ha:PT X a tA)(hb:PW X (.BoolOp .Or (b::rest) pos) tB'):PW X (.BoolOp .Or (a::b::rest) pos) (Ni tA tB'):=by
 intro wh pins s σ H Q I h
 refine isTrue_or (dr (ha pins s σ H _ I h) fun c s1 qr=> ?_)
 obtain⟨H1,I1,q1⟩:=qr
 cases c with
 |true=>exact⟨H1,I1,q1⟩
 |false=>exact hb wh pins s1 σ H1 Q I1 q1
def I_(ha:PT X a tA):PT X (.UnaryOp .Not a pos) (MM tA):=by
 intro pins s σ H Q I h
 exact isTrue_not (ha pins s σ H (fun c H1=>Q (!c) H1) I h)
def Kz(ta tb:TE):TE:=fun σ H Q=>ta σ H fun x H1=>∃c,x=.bl c/\if c=true then tb σ H1 Q else Q (.bl false) H1
def Kc{op}{t:TE}(h:PE X a t):PE X (.BoolOp op [a] pos) t:=fun pins s σ H Q I hw=>BoolOp_one (h pins s σ H Q I hw)
def Jw(ha:PE X a ta)(hb:PE X (.BoolOp .And (b::rest) pos) tb):PE X (.BoolOp .And (a::b::rest) pos) (Kz ta tb):=by
 intro pins s σ H Q I h
 refine BoolOp_and (dr (ha pins s σ H _ I h) fun v s1 qr=> ?_)
 obtain⟨x,H1,I1,r1,q1⟩:=qr
 obtain⟨c,rfl,q1⟩:=q1
 cases r1
 refine wpAny_truthy_bool ?_
 cases c with
 |true=>exact hb pins s1 σ H1 Q I1 q1
 |false=>exact⟨.bl false,H1,I1,rfl,q1⟩
def Nk(t:TT)(ta tb:TE):TE:=fun σ H Q=>t σ H fun c H1=>if c=true then ta σ H1 Q else tb σ H1 Q
def Ff{c:Expr}(hc:PT X c tA)(ha:PE X a ta)(hb:PE X b tb):PE X (.IfExp c a b pos) (Nk tA ta tb):=by
 intro pins s σ H Q I h
 refine wpAny_IfExp (dr (hc pins s σ H _ I h) fun d s1 qr=> ?_)
 obtain⟨H1,I1,q1⟩:=qr
 cases d with
 |true=>exact ha pins s1 σ H1 Q I1 q1
 |false=>exact hb pins s1 σ H1 Q I1 q1
end
def ik(K:PySem.W.Frag)(H:Hp)(a:Addr)(xs:List V):Prop:=
 Rd H a (.lst xs)∨
  ∃(o:Obj) (its:Array Value) (n:Nat),K.lookup a=some o/\o.cls=.type "list" /\o.dict=none/\o.data=.seq its n/\its.size<=sizeLine/\bS xs its.toList
def iW(K:PySem.W.Frag)(H:Hp)(a:Addr)(xs:List V):Prop:=
 Rd H a (.tup xs)∨
  ∃(o:Obj) (its:Array Value) (n:Nat),K.lookup a=some o/\o.cls=.type "tuple" /\o.data=.seq its n/\its.size<=sizeLine/\bS xs its.toList
def ML:Value->Option V
 |.none=>some .non
 |.bool b=>some (.bl b)
 |.int i _=>some (.int i)
 |.str x _=>some (.str x)
 |.bytes b _=>some (.byt b)
 |.float b _=>some (.flt b)
 |.ref a=>some (.ref a)
 |.type n=>some (.ty n)
 |_=>none
def RelV.abs{x:V}{u:Value}(r:RelV x u):ML u=some x:=by
 cases x with
 |non=>cases r;rfl
 |bl _=>cases r;rfl
 |int _=>obtain⟨t,rfl⟩:=r;rfl
 |str _=>obtain⟨t,rfl⟩:=r;rfl
 |byt _=>obtain⟨t,rfl⟩:=r;rfl
 |flt _=>obtain⟨t,rfl⟩:=r;rfl
 |ref _=>cases r;rfl
 |ty _=>cases r;rfl
def RelV.inj{x y:V}{u:Value}(r:RelV x u)(q:RelV y u):x=y:=Option.some.inj (r.abs.symm.trans q.abs)
theorem bS.inj:∀{xs ys:List V} {us:List Value},bS xs us->bS ys us->xs=ys
 |_,_,_,.nil,.nil=>rfl
 |_,_,_,.cons r t,.cons r' t'=>by rw[r.inj r',bS.inj t t']
section
variable{X:Cx}{pins:List (Addr×Obj)}{σ:St}{H:Hp}{s:Shared}{a:Addr}{xs ys:List V}
def ik.of{K:PySem.W.Frag}(h:H a=some (.lst xs)):ik K H a xs:=.inl (.inl h)
def iW.of{K:PySem.W.Frag}(h:H a=some (.tup xs)):iW K H a xs:=.inl (.inl h)
def Inv.list(I:Inv X pins σ H s)(h:ik X.K H a xs):∃its:List Value,bS xs its/\PlainL s.heap a its.toArray/\xs.length<=sizeLine:=by
 rcases h with h|⟨o,its,n,hk,hc,hd,hs,hz,r⟩
 ·obtain⟨z,its,n,r,e⟩:=h.ok I.hok
  exact⟨its,r,⟨_,n,e,rfl,rfl,rfl⟩,z⟩
 ·refine⟨its.toList,r,⟨o,n,I.kIn a o hk,hc,hd,by simpa using hs⟩,?_⟩
  have e:=r.length
  simp only[Array.length_toList] at e
  omega
def Inv.tuple(I:Inv X pins σ H s)(h:iW X.K H a xs):∃its:List Value,bS xs its/\IsTup s.heap a its.toArray/\xs.length<=sizeLine:=by
 rcases h with h|⟨o,its,n,hk,hc,hs,hz,r⟩
 ·obtain⟨z,its,r,p⟩:=h.ok I.hok
  exact⟨its,r,p.it,z⟩
 ·refine⟨its.toList,r,⟨o,I.kIn a o hk,hc,n,by simpa using hs⟩,?_⟩
  have e:=r.length
  simp only[Array.length_toList] at e
  omega
def Inv.list_inj(I:Inv X pins σ H s)(h:ik X.K H a xs)(h':ik X.K H a ys):xs=ys:=by
 obtain⟨its,r,⟨o,n,e,_,_,d⟩,_⟩:=I.list h
 obtain⟨its',r',⟨o',n',e',_,_,d'⟩,_⟩:=I.list h'
 rw[e] at e';cases e'
 rw[d] at d'
 injection d' with d1 _
 have:its=its':=by simpa using congrArg Array.toList d1
 subst this
 exact r.inj r'
def Inv.tuple_inj(I:Inv X pins σ H s)(h:iW X.K H a xs)(h':iW X.K H a ys):xs=ys:=by
 obtain⟨its,r,⟨o,e,_,n,d⟩,_⟩:=I.tuple h
 obtain⟨its',r',⟨o',e',_,n',d'⟩,_⟩:=I.tuple h'
 rw[e] at e';cases e'
 rw[d] at d'
 injection d' with d1 _
 have:its=its':=by simpa using congrArg Array.toList d1
 subst this
 exact r.inj r'
end
abbrev Cx.wish(X:Cx)(E:Value->Shared->Prop):Cx:={X with xe:=E}
abbrev Cx.nox(X:Cx):Cx:=X.wish fun _ _=>False
def Cx.Ok.wish{X:Cx}(ok:X.Ok)(E:Value->Shared->Prop):(X.wish E).Ok:=
 ⟨ok.mod,ok.kind,ok.glob,ok.blt,ok.above,ok.inj,ok.has,ok.cab,ok.hd,ok.frames,ok.stk,ok.exf,ok.bs,ok.bsz,ok.noex,ok.exfs,ok.funs,ok.frf⟩
def Cx.Ok.unwish{X:Cx}{E:Value->Shared->Prop}(ok:(X.wish E).Ok):X.Ok:=
 ⟨ok.mod,ok.kind,ok.glob,ok.blt,ok.above,ok.inj,ok.has,ok.cab,ok.hd,ok.frames,ok.stk,ok.exf,ok.bs,ok.bsz,ok.noex,ok.exfs,ok.funs,ok.frf⟩
section
variable{X:Cx}{pins:List (Addr×Obj)}{σ:St}{H:Hp}{s:Shared}{E:Value->Shared->Prop}
def Inv.wish(I:Inv X pins σ H s)(E:Value->Shared->Prop):Inv (X.wish E) pins σ H s:=⟨I.ok.wish E,I.os,I.bare,I.base,I.loc,I.cell,I.free,I.freeC,I.pin,I.hok,I.len⟩
def Inv.unwish(I:Inv (X.wish E) pins σ H s):Inv X pins σ H s:=⟨I.ok.unwish,I.os,I.bare,I.base,I.loc,I.cell,I.free,I.freeC,I.pin,I.hok,I.len⟩
theorem SP.unwish{D:Ends}{f:Flow}{s':Shared}(h:SP (X.wish E) pins D f s'):SP X pins D f s':=by
 cases f with
 |next=>obtain⟨σ',H',I,q⟩:=h;exact⟨σ',H',I.unwish,q⟩
 |brk=>obtain⟨σ',H',I,q⟩:=h;exact⟨σ',H',I.unwish,q⟩
 |cont=>obtain⟨σ',H',I,q⟩:=h;exact⟨σ',H',I.unwish,q⟩
 |ret u=>obtain⟨v,σ',H',I,r,q⟩:=h;exact⟨v,σ',H',I.unwish,r,q⟩
def rV.nox{st:List Stmt}{t:TS}(h:rV X.nox st t):rV X st t:=fun pins s σ H D I hw=>
 QRq (h pins s σ H D (I.wish _) hw) (fun _ _ q=>q.unwish) fun _ _ z=>False.elim z
end
section
variable{X:Cx}{st:Stmt}{rest:List Stmt}{t u:TS}{e:Expr}{te:TE}{pos:Pos}
def Ku:TS:=fun D σ H=>D.nx σ H
def MF(t u:TS):TS:=fun D σ H=>t {D with nx:=u D} σ H
def Hq:rV X [] Ku:=fun _ _ σ H _ I h=>wpAny_execs_nil ⟨σ,H,I,h⟩
def ES(h1:PS X st t)(h2:rV X rest u):rV X (st::rest) (MF t u):=by
 intro pins s σ H D I h
 refine wpAny_execs_cons (dr (h1 pins s σ H {D with nx:=u D} I h) fun f s1 q=> ?_)
 cases f with
 | next=>
   obtain⟨σ',H',I',q⟩:=q
   exact h2 pins s1 σ' H' D I' q
 |ret v=>exact q
 |brk=>exact q
 |cont=>exact q
def Gd(h1:PS X st t):rV X [st] t:=by
 intro pins s σ H D I h
 refine wpAny_execs_cons (dr (h1 pins s σ H D I h) fun f s1 q=> ?_)
 cases f with
 |next=>exact wpAny_execs_nil q
 |ret v=>exact q
 |brk=>exact q
 |cont=>exact q
def Inv.quiet{pins:List (Addr×Obj)}{σ:St}{H:Hp}{s:Shared}(I:Inv X pins σ H s):interactive X.env=false:=by simp[interactive,I.ok.kind]
def KJ(te:TE):TS:=fun D σ H=>te σ H fun _ H1=>D.nx σ H1
def Hc(he:PE X e te)(hs:swapsWith e none pos.line X.env=pure false:=by rfl):PS X (.Expr e pos) (KJ te):=by
 intro pins s σ H D I h
 exact wpAny_Expr_any (dr (he pins s σ H _ I h) fun v s1 ⟨x,H1,I1,r1,q1⟩=>⟨σ,H1,I1,q1⟩) I.quiet hs
def My(te:TE):TS:=fun D σ H=>te σ H D.rt
def Fs(he:PE X e te):PS X (.Return (some e) pos) (My te):=by
 intro pins s σ H D I h
 exact wpAny_Return_some (dr (he pins s σ H _ I h) fun v s1 ⟨x,H1,I1,r1,q1⟩=>⟨x,σ,H1,I1,r1,q1⟩)
def Mv(c:TT)(t u:TS):TS:=fun D σ H=>c σ H fun b H1=>if b=true then t D σ H1 else u D σ H1
def KN{c:Expr}{a b:List Stmt}{tc:TT}(hc:PT X c tc)(ha:rV X a t)(hb:rV X b u):PS X (.If c a b pos) (Mv tc t u):=by
 intro pins s σ H D I h
 refine wpAny_If (dr (hc pins s σ H _ I h) fun d s1 qr=> ?_)
 obtain⟨H1,I1,q1⟩:=qr
 cases d with
 |true=>exact ha pins s1 σ H1 D I1 q1
 |false=>exact hb pins s1 σ H1 D I1 q1
def J9:TS:=fun _ _ _=>False
def Ef:PS X st J9:=fun _ _ _ _ _ _ h=>h.elim
end
abbrev TG:=V->St->Hp->(St->Hp->Prop)->Prop
abbrev He:=List V->St->Hp->(St->Hp->Prop)->Prop
def PG(X:Cx)(target:Expr)(t:TG):Prop:=
 ∀ (pins:List (Addr×Obj)) (s:Shared) (σ:St) (H:Hp) (v:V) (u:Value) (Q:St->Hp->Prop),Inv X pins σ H s->RelV v u->t v σ H Q→
   wpAny (model X.prog X.w) X.A (assign target X.env u) (fun _ s'=>∃σ' H',Inv X pins σ' H' s'/\Q σ' H') X.xe s
def Ga(X:Cx)(ts:List Expr)(t:He):Prop:=
 ∀ (pins:List (Addr×Obj)) (s:Shared) (σ:St) (H:Hp) (vs:List V) (us:List Value) (Q:St->Hp->Prop),Inv X pins σ H s->bS vs us->t vs σ H Q→
   wpAny (model X.prog X.w) X.A (assignInOrder ((assignEach ts X.env).map (·.2)) us) (fun _ s'=>∃σ' H',Inv X pins σ' H' s'/\Q σ' H') X.xe s
abbrev Fi:=V->V->V->Hp->(Hp->Prop)->Prop
def J5(X:Cx)(t:Fi):Prop:=
 ∀ (pins:List (Addr×Obj)) (s:Shared) (σ:St) (H:Hp) (o i v:V) (ov iv u:Value) (Q:Hp->Prop),Inv X pins σ H s->RelV o ov->RelV i iv->RelV v u->t o i v H Q→
   wpAny (model X.prog X.w) X.A (setItem ov iv u) (fun _ s'=>∃H',Inv X pins σ H' s'/\Q H') X.xe s
abbrev Ma:=V->V->Hp->VK->Prop
def M7(X:Cx)(op:Operator)(t:Ma):Prop:=
 ∀ (pins:List (Addr×Obj)) (s:Shared) (σ:St) (H:Hp) (x y:V) (v u:Value) (Q:VK),Inv X pins σ H s->RelV x v->RelV y u->t x y H Q→
   wpAny (model X.prog X.w) X.A (inplaceOp op v u) (EP X pins σ Q) X.xe s
section
variable{X:Cx}{pos:Pos}
def su(i:Nat):TG:=fun v σ H Q=>Q (σ.set i (some v)) H
def wK{i:Nat}{x:Str}(hN:X.N.Nodup)(hi:X.N[i]?=some x)(hx:Loc X.env.scope x)(hf:X.fn x=true\/X.env.scope.names.lookup x=some .local:=by first|exact .inl rfl|exact .inr rfl|assumption):PG X (.Name x pos) (su i):=by
 intro pins s σ H v u Q I r h
 exact wpAny_assign_Name (oY I hN hi hx r (fun s' I'=>⟨_,H,I',h⟩) hf)
def Mn:He:=fun vs σ H Q=>vs= []/\Q σ H
def Lw(t:TG)(u:He):He:=fun vs σ H Q=>∃v r,vs=v::r/\t v σ H fun σ' H'=>u r σ' H' Q
def GC:Ga X [] Mn:=by
 intro pins s σ H vs us Q I r h
 obtain⟨e,h⟩:=h
 subst e
 cases r
 exact assignInOrder_nil ⟨σ,H,I,h⟩
def Ek{e:Expr}{es:List Expr}{t:TG}{u:He}(h1:PG X e t)(h2:Ga X es u)
  (hs:(assignEach (e::es) X.env).map (·.2)=assign e X.env::(assignEach es X.env).map (·.2):=by rfl):Ga X (e::es) (Lw t u):=by
 intro pins s σ H vs us Q I r h
 obtain⟨v,vr,e1,h⟩:=h
 subst e1
 cases r with
 | cons r rr=>
   rw[hs]
   refine assignInOrder_cons (dr (h1 pins s σ H _ _ _ I r h) fun _ s1 qr=> ?_)
   obtain⟨σ1,H1,I1,q1⟩:=qr
   exact h2 pins s1 σ1 H1 _ _ Q I1 rr q1
def Mz(K:PySem.W.Frag)(n:Nat)(t:He):TG:=fun v σ H Q=>∃a xs,v=.ref a/\iW K H a xs/\xs.length=n/\t xs σ H Q
def JF{es:List Expr}{k:Nat}{t:He}{n:Nat}(hc:X.calm=true)(h:Ga X es t)
  (hn:(assignEach es X.env).length=n:=by rfl) (hst:(assignEach es X.env).findIdx? (·.1)=none:=by rfl):PG X (.Tuple es k pos) (Mz X.K n t):=by
 intro pins s σ H v u Q I r hw
 obtain⟨a,xs,e1,hq,hl,hw⟩:=hw
 subst e1
 cases r
 obtain⟨its,rv,ht,hz⟩:=I.tuple hq
 refine assign_Tuple_tuple (I.ok.hd hc) ht (by simp[hn,←hl,rv.length]) hst fun h' hx=> ?_
 have I1:Inv X pins σ H {s with heap:=h'}:=I.kept (t':=s.toks) fun b o e=>hx b o (Qwq (Qiq e)) e
 exact h pins _ σ H xs _ Q I1 (by simpa using rv) hw
def LS(to ti:TE)(t:Fi):TG:=fun v σ H Q=>to σ H fun o H1=>ti σ H1 fun i H2=>t o i v H2 fun H3=>Q σ H3
def Jn{o i:Expr}{to ti:TE}{t:Fi}(ho:PE X o to)(hi:PE X i ti)(hs:J5 X t)
  (ha:∀v,assign (.Subscript o i pos) X.env v=(do
   let ov←holding [v] (eval o X.env)
   let iv←holding [v,ov] (eval i X.env)
   standAt pos
   holding [v,ov,iv] (setItem ov iv v)
   release [v,ov,iv] []):=by intro _;rfl):PG X (.Subscript o i pos) (LS to ti t):=by
 intro pins s σ H v u Q I r h
 rw[ha]
 refine Qaq (QLq (dr (ho pins s σ H _ I h) fun ov s1 qr=> ?_))
 obtain⟨x,H1,I1,r1,q1⟩:=qr
 refine Qaq (QLq (dr (hi pins s1 σ H1 _ I1 q1) fun iv s2 qr=> ?_))
 obtain⟨y,H2,I2,r2,q2⟩:=qr
 refine Qaq (wpAny_standAt (Qaq (QLq (dr (hs pins s2 σ H2 x y v ov iv u _ I2 r1 r2 r q2) fun _ s3 qr=> ?_))))
 obtain⟨H3,I3,q3⟩:=qr
 exact wpAny_release ⟨σ,H3,I3,q3⟩
def Dq(te:TE)(g:TG):TS:=fun D σ H=>te σ H fun x H1=>g x σ H1 D.nx
def Jt{tg e:Expr}{te:TE}{g:TG}(he:PE X e te)(hg:PG X tg g)(hs:swapsWithSole [tg] e pos.line X.env=pure false:=by rfl)(hw:swappedStores [tg] e X.env=pure none:=by rfl)
  (h1:(assignEach [tg] X.env).map (·.2)= [assign tg X.env]:=by rfl):PS X (.Assign [tg] e pos) (Dq te g):=by
 intro pins s σ H D I h
 refine wpAny_Assign_stores (dr (he pins s σ H _ I h) fun v s1 ⟨x,H1,I1,r1,q1⟩=> ?_) hs hw
 rw[h1]
 exact dr (hg pins s1 σ H1 x v _ I1 r1 q1) fun _ s2 q=>q
def Js{i:Nat}{x:Str}{e:Expr}{te:TE}{pos':Pos}(hN:X.N.Nodup)(hi:X.N[i]?=some x)(hx:Loc X.env.scope x)(he:PE X e te)(hs:swapsWith e (some (.Name x pos')) pos.line X.env=pure false:=by rfl)(hf:X.fn x=true\/X.env.scope.names.lookup x=some .local:=by first|exact .inl rfl|exact .inr rfl|assumption):
  PS X (.Assign [.Name x pos'] e pos) (Dq te (su i)):=by
 intro pins s σ H D I h
 refine wpAny_Assign_Name (dr (he pins s σ H _ I h) fun v s1 ⟨y,H1,I1,r1,q1⟩=> ?_) hs
 exact oY I1 hN hi hx r1 (fun s2 I2=>⟨_,H1,I2,q1⟩) hf
def KM(i j:Nat)(ta:TA):TS:=fun D σ H=>ta σ H fun vs H1=>∃v w,vs= [v,w]/\D.nx ((σ.set i (some v)).set j (some w)) H1
def JT{i j:Nat}{x y:Str}{a b:Expr}{ta:TA}{px py pt:Pos}{kt k2 pt2}(hc:X.calm=true)(hN:X.N.Nodup)(hi:X.N[i]?=some x)(hj:X.N[j]?=some y)(hij:i≠j)
  (hx:X.env.scope.names.lookup x=some .local) (hy:X.env.scope.names.lookup y=some .local) (ha:PA X [a,b] ta)
  (hw:swappedStores [.Tuple [.Name x px,.Name y py] kt pt] (.Tuple [a,b] k2 pt2) X.env=pure (some [x,y]))
  (hs:swapsWithSole [.Tuple [.Name x px,.Name y py] kt pt] (.Tuple [a,b] k2 pt2) pos.line X.env=pure false:=by rfl):
  PS X (.Assign [.Tuple [.Name x px,.Name y py] kt pt] (.Tuple [a,b] k2 pt2) pos) (KM i j ta):=by
 intro pins s σ H D I h
 rw[exec_Assign_arm]
 refine Qaq (wpAny_standAt ?_)
 rw[hs]
 refine Qaq (Qgq ?_)
 rw[Quq (by decide)]
 refine Qaq (Tuple_ (dr (ha _ pins s σ H _ I h) fun us s1 qr=> ?_))
 obtain⟨vs,H1,I1,r1,q1⟩:=qr
 obtain⟨v,w,e1,q1⟩:=q1
 subst e1
 obtain⟨u1,u2,rfl,rv,rw'⟩:∃u1 u2,us= [u1,u2]/\RelV v u1/\RelV w u2:=by
  cases r1 with
  | cons p q=>
    cases q with
    | cons p' q'=>
      cases q'
      exact⟨_,_,rfl,p,p'⟩
 refine wpAny_newObj_type ?_ (by show 2<=_;decide)
 have I2:Inv X pins σ H1 {s1 with heap:=s1.heap.push {cls:=.type "tuple",data:=.seq [u1,u2].toArray}}:=I1.kept (t':=s1.toks) fun b o e=>Qcq _ e
 rw[hw]
 refine Qaq (Qgq ?_)
 show wpAny (model X.prog X.w) X.A (do rule "assign.swapped-stores";let items←unpackItems (.ref s1.heap.objs.size) 2 none;assignInOrder [fun v=>bindName X.env y v,fun v=>bindName X.env x v] items.reverse;pure Flow.next) _ _ _
 refine Qaq (wpAny_rule (Qaq (unpackItems_tuple (items:= #[u1,u2]) (I.ok.hd hc) (IsTup.new s1.heap _) fun h' hx'=> ?_)))
 have I3:=I2.kept (h':=h') (t':=s1.toks) fun b o e=>hx' b o (Qwq (Qiq e)) e
 show wpAny _ _ (assignInOrder [fun v=>bindName X.env y v,fun v=>bindName X.env x v] [u2,u1] >>= fun _=>pure Flow.next) _ _ _
 refine Qaq (assignInOrder_cons (wpAny_bindName (oY I3 hN hj (.inl hy) rw' (fun s2 I4=> ?_) (.inr hy))))
 refine assignInOrder_cons (wpAny_bindName (oY I4 hN hi (.inl hx) rv (fun s3 I5=>assignInOrder_nil (Qgq ?_)) (.inr hx)))
 rw[List.set_comm _ _ (Ne.symm hij)] at I5
 exact⟨_,H1,I5,q1⟩
def Kr(to ti te:TE)(tget:V->V->Hp->VK->Prop)(tip:Ma)(tset:Fi):TS:=fun D σ H=>to σ H fun o H1=>ti σ H1 fun i H2=>tget o i H2 fun x H3=>te σ H3 fun y H4=>tip x y H4 fun z H5=>tset o i z H5 fun H6=>D.nx σ H6
def Kv(X:Cx)(t:V->V->Hp->VK->Prop):Prop:=
 ∀ (pins:List (Addr×Obj)) (s:Shared) (σ:St) (H:Hp) (o i:V) (ov iv:Value) (Q:VK),Inv X pins σ H s->RelV o ov->RelV i iv->t o i H Q→
   wpAny (model X.prog X.w) X.A (getItem ov iv) (EP X pins σ Q) X.xe s
def HA{o i e:Expr}{to ti te:TE}{tget:V->V->Hp->VK->Prop}{tip:Ma}{tset:Fi}{op:Operator}{tpos:Pos}(ho:PE X o to)(hi:PE X i ti)(hg:Kv X tget)(he:PE X e te)(hp:M7 X op tip)(hs:J5 X tset)
  (ha:∀ov iv new,augStore i ov iv new=(do holding [new,ov,iv] (setItem ov iv new);release [new,ov,iv] [];pure .next):=by intros;rfl):PS X (.AugAssign (.Subscript o i tpos) op e pos) (Kr to ti te tget tip tset):=by
 intro pins s σ H D I h
 refine wpAny_AugAssign_SubscriptAny (dr (ho pins s σ H _ I h) fun ov s1 ⟨x1,H1,I1,r1,q1⟩=> ?_) ha
 refine dr (hi pins s1 σ H1 _ I1 q1) fun iv s2 qr=> ?_
 obtain⟨x2,H2,I2,r2,q2⟩:=qr
 refine dr (hg pins s2 σ H2 x1 x2 ov iv _ I2 r1 r2 q2) fun old s3 qr=> ?_
 obtain⟨x3,H3,I3,r3,q3⟩:=qr
 refine dr (he pins s3 σ H3 _ I3 q3) fun v s4 qr=> ?_
 obtain⟨x4,H4,I4,r4,q4⟩:=qr
 refine dr (hp pins s4 σ H4 x3 x4 old v _ I4 r3 r4 q4) fun new s5 qr=> ?_
 obtain⟨x5,H5,I5,r5,q5⟩:=qr
 exact dr (hs pins s5 σ H5 x1 x2 x5 ov iv new _ I5 r1 r2 r5 q5) fun _ s6 ⟨H6,I6,q6⟩=>⟨σ,H6,I6,q6⟩
def Nf(f:Int->Int->Int):Ma:=fun x y H Q=>∃i j,x=.int i/\y=.int j/\Q (.int (f i j)) H
def IL:M7 X .Add (Nf fun i j=>i+j):=by
 intro pins s σ H x y v u Q I r1 r2 h
 obtain⟨i,j,e1,e2,q⟩:=h
 subst e1;subst e2
 obtain⟨t,rfl⟩:=r1
 obtain⟨t',rfl⟩:=r2
 exact iadd_int ⟨.int _,H,I.tok _,⟨_,rfl⟩,q⟩
end
section
variable{X:Cx}{pos:Pos}
def J1(c:TT)(tb:TS):TS:=fun D σ H=>∃W:Nat->St->Hp->Prop,(∃m,W m σ H)/\∀m σ H,W m σ H→
 c σ H fun b H1=>if b=true then∃N:St->Hp->Prop,(∀σ' H',N σ' H'->∃m',m'<m/\W m' σ' H')/\tb {D with nx:=N,ct:=N,bk:=D.nx} σ H1 else D.nx σ H1
def FF{c:Expr}{body:List Stmt}{tc:TT}{tb:TS}(hp:PassesOwn (model X.prog X.w) X.A X.env X.xe)(hc:PT X c tc)(hb:rV X body tb):PS X (.While c body [] pos) (J1 tc tb):=by
 intro pins s σ H D I h
 obtain⟨W,⟨m0,w0⟩,turn⟩:=h
 refine wpAny_While (codeAny_whileLoop (fun n s'=>∃σ' H',Inv X pins σ' H' s'/\W n σ' H') ?_ m0 ⟨σ,H,I,w0⟩)
 rintro n s1 ⟨σ1,H1,I1,w1⟩
 refine wpAny_passesOwn hp (dr (hc pins s1 σ1 H1 _ I1 (turn n σ1 H1 w1)) fun b s2 qr=> ?_)
 obtain⟨H2,I2,q2⟩:=qr
 cases b with
 | true=>
   obtain⟨N,hN,q2⟩:=q2
   rw[Qhq rfl]
   refine wpAny_passesOwn hp (dr (hb pins s2 σ1 H2 _ I2 q2) fun f s3 q3=> ?_)
   cases f with
   | next=>
     obtain⟨σ3,H3,I3,n3⟩:=q3
     obtain⟨m',hm,w3⟩:=hN σ3 H3 n3
     exact⟨m',hm,σ3,H3,I3,w3⟩
   | cont=>
     obtain⟨σ3,H3,I3,n3⟩:=q3
     obtain⟨m',hm,w3⟩:=hN σ3 H3 n3
     exact⟨m',hm,σ3,H3,I3,w3⟩
   |brk=>exact q3
   |ret v=>exact q3
 | false=>
   rw[Quq Qtq]
   exact wpAny_execs_nil ⟨σ1,H2,I2,q2⟩
end
structure It where
 go:Nat->Hp->Prop
 yld:Nat->Hp->V->Hp->Prop
 stop:Nat->Hp->Prop
def pT(X:Cx)(pins:List (Addr×Obj))(H:Hp)(b:Addr):Prop:=
 H b=none/\b≠X.env.locals/\b∉X.fs/\(b∈X.ex\/X.s₀.heap.objs.size<=b)/\(∀x c,X.env.cells.lookup x=some c->c≠b)/\∀p∈X.pn++pins,p.1≠b
def Inv.fpOk{X:Cx}{pins:List (Addr×Obj)}{σ:St}{H H':Hp}{s:Shared}{b:Addr}(I:Inv X pins σ H s)(hb:s.heap.objs.size<=b)(hn:H' b=none):pT X pins H' b:=by
 refine⟨hn,Nat.ne_of_gt (Qqq I.lt hb),I.nofs hb,.inr (QAq I.sz hb),fun x c e z=> ?_,fun p hp z=> ?_⟩
 ·obtain⟨v,q⟩:=I.cell x c e
  exact absurd (Qqq q.lt (by rw[z];exact hb)) (Nat.lt_irrefl _)
 ·exact absurd (Qqq (Qiq (I.pin p hp).1) (by rw[z];exact hb)) (Nat.lt_irrefl _)
structure Turn(P:Program)(w:World)(K:PySem.W.Frag)(tg:Expr)(J:It)(fp:List Addr)(it:Addr)(tn:Nat->Heap->Prop):Prop where
 mem:it∈fp
 obj:∀i h,tn i h->∀b∈fp,∃o,h.get? b=some o/\∀v,o.data≠.cell v
 keep:∀i h h',tn i h->(∀b∈fp,∀o,h.get? b=some o->h'.get? b=some o)->tn i h'
 item:∀(X:Cx),X.prog=P->X.w=w->X.K=K->X.calm=true->∀(i:Nat) (pins:List (Addr×Obj)) (s:Shared) (σ:St) (H:Hp) (E:Value->Shared->Prop),Inv X pins σ H s->(∀b∈fp,pT X pins H b)->tn i s.heap->J.go i H→
  wpAny (model P w) X.A (pyNext (.ref it)) (fun r s1=>∃u,r=some u∧
   wpAny (model P w) X.A (letOwnedTupleGo tg (.ref it) u) (fun _ s2=>∃x H',Inv X pins σ H' s2/\RelV x u/\J.yld i H x H'/\tn (i+1) s2.heap/\∀b∈fp,H' b=none) E s1) E s
 done:∀(X:Cx),X.prog=P->X.w=w->X.K=K->X.calm=true->∀(i:Nat) (pins:List (Addr×Obj)) (s:Shared) (σ:St) (H:Hp) (E:Value->Shared->Prop),Inv X pins σ H s->(∀b∈fp,pT X pins H b)->tn i s.heap->J.stop i H→
  wpAny (model P w) X.A (pyNext (.ref it)) (fun r s1=>r=none/\Inv X pins σ H s1) E s
 self:∀(A:Around) (i:Nat) (s:Shared) (Q:Value->Shared->Prop) (E:Value->Shared->Prop),tn i s.heap->Q (.ref it) s->wpAny (model P w) A (pyIter (.ref it)) Q E s
abbrev TI:=St->Hp->(It->Hp->Prop)->Prop
def M6(X:Cx)(pins:List (Addr×Obj))(σ:St)(tg:Expr)(R:It->Hp->Prop)(itv:Value)(s2:Shared):Prop:=
 ∃(it:Addr) (fp:List Addr) (tn:Nat->Heap->Prop) (J:It) (H':Hp),itv=.ref it/\Inv X pins σ H' s2/\Turn X.prog X.w X.K tg J fp it tn/\tn 0 s2.heap/\(∀b∈fp,pT X pins H' b)/\R J H'
def PI(X:Cx)(tg iter:Expr)(wi:TI):Prop:=
 ∀ (pins:List (Addr×Obj)) (s:Shared) (σ:St) (H:Hp) (R:It->Hp->Prop),Inv X pins σ H s->wi σ H R→
   wpAny (model X.prog X.w) X.A (eval iter X.env) (fun v s1=>wpAny (model X.prog X.w) X.A (pyIter v) (M6 X pins σ tg R) X.xe s1) X.xe s
def E7{M:Model}{A:Around}{E:Value->Shared->Prop}{s:Shared}{tg:Expr}{it:Addr}{u:Value}{o:Obj}{n:String}{vs:Array Value}{Q:Unit->Shared->Prop}(ho:s.heap.get? it=some o)(hc:o.cls=.type n)(hd:o.data=.fields vs)
    (hn: ["enumerate","zip","dict_itemiterator","dict_reverseitemiterator","odict_iterator","itertools.zip_longest","itertools.pairwise"].contains n=false) (hQ:Q () s):wpAny M A (letOwnedTupleGo tg (.ref it) u) Q E s:=by
  unfold letOwnedTupleGo
  cases tg <;>first
    |exact Qgq hQ
    |(cases u <;>first
        |exact Qgq hQ
        |(refine Qaq (wpAny_load ho ?_)
          rw[hc,hd]
          show wpAny M A (if (["enumerate","zip","dict_itemiterator","dict_reverseitemiterator","odict_iterator","itertools.zip_longest","itertools.pairwise"].contains n&&vs[0]? ==some (rawInt _))=true then _ else _) Q E s
          rw[Quq (by intro h;rw[hn,Bool.false_and] at h;cases h)]
          exact Qgq hQ))
def M4(K:PySem.W.Frag)(a:Addr):It:=
 ⟨fun i H=>∃xs x,ik K H a xs/\xs[i]?=some x,fun i H x H'=>H'=H/\∀xs,ik K H a xs->xs[i]?=some x,fun i H=>∃xs,ik K H a xs/\xs.length<=i⟩
def M9(K:PySem.W.Frag)(a:Addr):It:=
 ⟨fun i H=>∃xs x,iW K H a xs/\xs[i]?=some x,fun i H x H'=>H'=H/\∀xs,iW K H a xs->xs[i]?=some x,fun i H=>∃xs,iW K H a xs/\xs.length<=i⟩
def L1(lo:Int)(n:Nat):It:=⟨fun i _=>i<n,fun i H x H'=>H'=H/\x=.int (lo+i),fun i _=>n<=i⟩
def C_{P:Program}{w:World}{K:PySem.W.Frag}{tg:Expr}(a it:Addr):Turn P w K tg (M4 K a) [it] it (fun i h=>h.IsListIter it a i) where
 mem:=by simp
 obj:=fun i h st b hb=>by
  have e:b=it:=by simpa using hb
  subst e
  obtain⟨o,e,c,d⟩:=st
  exact⟨o,e,fun v z=>by rw[d] at z;cases z⟩
 keep:=fun i h h' st k=>st.at fun o e=>k it (by simp) o e
 item:=by
  intro X hP hw hK hc i pins s σ H E I hf st hg
  subst hP hw hK
  obtain⟨xs,x,hq,hx⟩:=hg
  obtain⟨its,rv,p,hz⟩:=I.list hq
  obtain⟨u,hu,ru⟩:=rv.get hx
  obtain⟨f0,f1,f2,f3,f4,f5⟩:=hf it (by simp)
  refine wpAny_pyNext_list_item st p.isList (x:=u) (by simpa using hu) fun h' st' sb=> ?_
  have I1:Inv X pins σ H {s with heap:=h'}:=I.turned (t':=s.toks) (fun b o hb e=>(sb.2 b hb).trans e) f0 f1 f3 f4 f5
  obtain⟨o,e,c,d⟩:=id st'
  exact⟨u,rfl,E7 (s:={s with heap:=h'}) e c d (by decide) ⟨x,H,I1,ru,⟨rfl,fun ys hy=>by rw[I.list_inj hy hq];exact hx⟩,st',fun b hb=>(hf b hb).1⟩⟩
 done:=by
  intro X hP hw hK hc i pins s σ H E I hf st hg
  subst hP hw hK
  obtain⟨xs,hq,hx⟩:=hg
  obtain⟨its,rv,p,hz⟩:=I.list hq
  obtain⟨f0,f1,f2,f3,f4,f5⟩:=hf it (by simp)
  have hl:=rv.length
  exact wpAny_pyNext_list_end (I.ok.hd hc) st p.isList (by simp;omega) fun h' eb=>⟨rfl,I.turned (t':=s.toks) (fun b o hb e=>eb b o hb e) f0 f1 f3 f4 f5⟩
 self:=fun _ _ _ _ _ st h=>wpAny_pyIter_listiter st h
def AU{P:Program}{w:World}{K:PySem.W.Frag}{tg:Expr}(a it:Addr):Turn P w K tg (M9 K a) [it] it (fun i h=>h.IsTupleIter it a i) where
 mem:=by simp
 obj:=fun i h st b hb=>by
  have e:b=it:=by simpa using hb
  subst e
  obtain⟨o,e,c,d⟩:=st
  exact⟨o,e,fun v z=>by rw[d] at z;cases z⟩
 keep:=fun i h h' st k=>st.at fun o e=>k it (by simp) o e
 item:=by
  intro X hP hw hK hc i pins s σ H E I hf st hg
  subst hP hw hK
  obtain⟨xs,x,hq,hx⟩:=hg
  obtain⟨its,rv,p,hz⟩:=I.tuple hq
  obtain⟨u,hu,ru⟩:=rv.get hx
  obtain⟨f0,f1,f2,f3,f4,f5⟩:=hf it (by simp)
  refine wpAny_pyNext_tuple_item st (show s.heap.IsTuple a its.toArray from p) (x:=u) (by simpa using hu) fun h' st' sb=> ?_
  have I1:Inv X pins σ H {s with heap:=h'}:=I.turned (t':=s.toks) (fun b o hb e=>(sb.2 b hb).trans e) f0 f1 f3 f4 f5
  obtain⟨o,e,c,d⟩:=id st'
  exact⟨u,rfl,E7 (s:={s with heap:=h'}) e c d (by decide) ⟨x,H,I1,ru,⟨rfl,fun ys hy=>by rw[I.tuple_inj hy hq];exact hx⟩,st',fun b hb=>(hf b hb).1⟩⟩
 done:=by
  intro X hP hw hK hc i pins s σ H E I hf st hg
  subst hP hw hK
  obtain⟨xs,hq,hx⟩:=hg
  obtain⟨its,rv,p,hz⟩:=I.tuple hq
  obtain⟨f0,f1,f2,f3,f4,f5⟩:=hf it (by simp)
  have hl:=rv.length
  exact wpAny_pyNext_tuple_end (I.ok.hd hc) st (show s.heap.IsTuple a its.toArray from p) (by simp;omega) fun h' eb=>⟨rfl,I.turned (t':=s.toks) (fun b o hb e=>eb b o hb e) f0 f1 f3 f4 f5⟩
 self:=fun _ _ _ _ _ st h=>wpAny_pyIter_tupleiter st h
def Af{P:Program}{w:World}{K:PySem.W.Frag}{tg:Expr}(it:Addr)(lo:Int)(n:Nat):Turn P w K tg (L1 lo n) [it] it (fun i h=>IsRangeIter h it (lo+(i:Nat)*1) ((n:Int)-(i:Nat)) 1) where
 mem:=by simp
 obj:=fun i h st b hb=>by
  have e:b=it:=by simpa using hb
  subst e
  exact⟨_,st,fun v z=>by
   have z':Data.fields _=Data.cell v:=z
   cases z'⟩
 keep:=fun i h h' st k=>k it (by simp) _ st
 item:=by
  intro X hP hw hK hc i pins s σ H E I hf st hg
  subst hP hw hK
  obtain⟨f0,f1,f2,f3,f4,f5⟩:=hf it (by simp)
  have W:=Walks.range (prog:=X.prog) (w:=X.w) (I.ok.hd hc) it lo 1 n
  refine W.item i s _ _ hg st fun v h' tk hv st' kk=> ?_
  obtain⟨t,rfl⟩:=hv
  have I1:Inv X pins σ H {s with heap:=h',toks:=tk}:=I.turned (fun b o hb e=>kk b o (by simpa using hb) e) f0 f1 f3 f4 f5
  refine⟨_,rfl,E7 (s:={s with heap:=h',toks:=tk}) (n:="range_iterator") st' rfl rfl (by decide) ⟨.int (lo+i),H,I1,⟨t,?_⟩,⟨rfl,rfl⟩,st',fun b hb=>(hf b hb).1⟩⟩
  rw[Int.mul_one]
 done:=by
  intro X hP hw hK hc i pins s σ H E I hf st hg
  subst hP hw hK
  obtain⟨f0,f1,f2,f3,f4,f5⟩:=hf it (by simp)
  exact wpAny_pyNext_range_end (I.ok.hd hc) st (by have:n<=i:=hg;omega) fun h' eb=>⟨rfl,I.turned (t':=s.toks) (fun b o hb e=>eb b o hb e) f0 f1 f3 f4 f5⟩
 self:=fun _ _ _ _ _ st h=>wpAny_pyIter_rangeiter st h
section
variable{X:Cx}{tg:Expr}
def Fm{pins:List (Addr×Obj)}{σ:St}{H:Hp}{s:Shared}{R:It->Hp->Prop}{E:Value->Shared->Prop}{lo hi:Int}{t u v:Tok}{tk:Nat}(I:Inv X pins σ H s)(h1: -(2^62)<=lo)(h2:lo<2^62)(h3: -(2^62)<=hi)(h4:hi<2^62)
  (q:R (L1 lo (hi-lo).toNat) H):wpAny (model X.prog X.w) X.A (pyIter (.ref s.heap.objs.size)) (M6 X pins σ tg R) E {s with heap:=s.heap.push {cls:=.type "range",data:=.fields #[.int lo t,.int hi u,.int 1 v]},toks:=tk}:=by
 refine wpAny_pyIter_range (IsRange.new ..) (small_one h1 h2 h3 h4) ?_
 have I1:Inv X pins σ H {s with heap:=s.heap.push {cls:=.type "range",data:=.fields #[.int lo t,.int hi u,.int 1 v]},toks:=tk}:=I.kept fun b o e=>Qcq _ e
 refine⟨(s.heap.push {cls:=.type "range",data:=.fields #[.int lo t,.int hi u,.int 1 v]}).objs.size,[(s.heap.push {cls:=.type "range",data:=.fields #[.int lo t,.int hi u,.int 1 v]}).objs.size],_,_,H,rfl,
  I1.kept (t':=tk) fun b o e=>Qcq _ e,Af _ lo (hi-lo).toNat,?_,fun b hb=> ?_,q⟩
 ·have e1:lo+((0:Nat):Int)*1=lo:=by simp
  have e2:(((hi-lo).toNat:Nat):Int)-((0:Nat):Int)=Builtin.Range.rangeSize lo hi 1:=by rw[rangeSize_one];split <;>omega
  show IsRangeIter _ _ (lo+((0:Nat):Int)*1) ((((hi-lo).toNat:Nat):Int)-((0:Nat):Int)) 1
  rw[e1,e2]
  exact Qrq _ rfl
 ·have e:b=(s.heap.push {cls:=.type "range",data:=.fields #[.int lo t,.int hi u,.int 1 v]}).objs.size:=by simpa using hb
  subst e
  exact I1.fpOk (Qmq _) (I1.hok.fresh (Qmq _))
def Lx(ta:TA):TI:=fun σ H R=>ta σ H fun vs H1=>∃j:Int,vs= [.int j]/\ -(2^62)<=j/\j<2^62/\R (L1 0 j.toNat) H1
def CM{a:Expr}{ta:TA}{p pos:Pos}(hg:Gl X "range")(hm:X.mg "range"=none)(ha:PA X [a] ta)(hs:starEach [a] X.env= [(false,eval a X.env)]:=by rfl):PI X tg (.Call (.Name "range" p) [a] [] pos) (Lx ta):=by
 intro pins s σ H R I h
 refine Call_ (lC I hg hm boot_range (PyProof.Rows.callWith_type1 (dr (ha pos pins s σ H _ I h) fun us s1 ⟨vs,H1,I1,r1,q1⟩=> ?_) hs rfl))
 obtain⟨j,e,q1,q2,q⟩:=q1
 subst e
 cases r1 with
 | cons r rr=>
   cases rr
   obtain⟨t,rfl⟩:=r
   exact call_range_1 (Fm I1 (by omega) (by omega) q1 q2 (by simpa using q))
def Ml(wi:TI)(g:TG)(tb:TS):TS:=fun D σ H=>wi σ H fun J H1=>∃W:Nat->Nat->St->Hp->Prop,(∃m,W 0 m σ H1)/\∀i m σ H,W i m σ H→
 (J.stop i H/\D.nx σ H)\/(J.go i H/\∃N:St->Hp->Prop,(∀σ' H',N σ' H'->∃m',m'<m/\W (i+1) m' σ' H')/\∀x H',J.yld i H x H'->g x σ H' fun σ2 H2=>tb {D with nx:=N,ct:=N,bk:=D.nx} σ2 H2)
def nc(fp:List Addr)(h:Heap):List (Addr×Obj):=fp.filterMap fun b=>(h.get? b).map fun o=>(b,o)
def dQ{fp:List Addr}{h:Heap}{b:Addr}{o:Obj}(hb:b∈fp)(e:h.get? b=some o):(b,o)∈nc fp h:=List.mem_filterMap.mpr ⟨b,hb,by rw[e];rfl⟩
def CW{fp:List Addr}{h:Heap}{p:Addr×Obj}(hp:p∈nc fp h):p.1∈fp/\h.get? p.1=some p.2:=by
 obtain⟨b,hb,e⟩:=List.mem_filterMap.mp hp
 cases q:h.get? b with
 |none=>rw[q] at e;cases e
 | some o=>
   rw[q] at e
   have e':(b,o)=p:=Option.some.inj e
   subst e'
   exact⟨hb,q⟩
def Inv.pinned{pins:List (Addr×Obj)}{σ:St}{H:Hp}{s:Shared}{fp:List Addr}(I:Inv X pins σ H s)(hf:∀b∈fp,pT X pins H b)(ho:∀b∈fp,∃o,s.heap.get? b=some o/\∀v,o.data≠.cell v):Inv X (pins++nc fp s.heap) σ H s:=
 I.pins_of fun p hp=>(mQa.mp hp).elim (fun z=>I.pin p (Qoq _ z)) fun z=>by
  obtain⟨hb,e⟩:=CW z
  obtain⟨f0,f1,f2,_⟩:=hf p.1 hb
  obtain⟨o,e',d⟩:=ho p.1 hb
  rw[e] at e';cases e'
  exact⟨e,f0,f1,f2,d⟩
def Inv.unpinned{pins pl:List (Addr×Obj)}{σ:St}{H:Hp}{s:Shared}(I:Inv X (pins++pl) σ H s):Inv X pins σ H s:=I.pins_of fun p hp=>I.pin p (Qoq _ (List.mem_append_left _ hp))
def JZ{iter:Expr}{body:List Stmt}{wi:TI}{g:TG}{tb:TS}{pos:Pos}(hp:PassesOwn (model X.prog X.w) X.A X.env X.xe)(hc:X.calm=true)(hi:PI X tg iter wi)(hg:PG X tg g)(hb:rV X body tb)
  (hs:∀x,foldedSetIterable iter X.env x=pure x:=by intro _;rfl):PS X (.For tg iter body [] pos) (Ml wi g tb):=by
 intro pins s σ H D I h
 refine wpAny_For (dr (hi pins s σ H _ I h) fun v s1 h1=>dr h1 fun itv s2 h2=> ?_) hs
 obtain⟨it,fp,tn,J,H2,e,I2,T,st2,f2,W,⟨m0,w0⟩,turn⟩:=h2
 subst e
 have stat:∀{H':Hp},(∀b∈fp,H' b=none)->∀b∈fp,pT X pins H' b:=fun hn b hb=>⟨hn b hb,(f2 b hb).2⟩
 refine codeAny_forLoop_any (fun n s'=>∃i σ' H',Inv X pins σ' H' s'/\tn i s'.heap/\(∀b∈fp,H' b=none)/\W i n σ' H') ?_ m0 ⟨0,σ,H2,I2,st2,fun b hb=>(f2 b hb).1,w0⟩
 rintro n s3 ⟨i,σ3,H3,I3,st3,fr3,w3⟩
 rcases turn i n σ3 H3 w3 with⟨stop,qn⟩|⟨go,N,hN,step⟩
 ·refine wpAny_passesOwn hp (dr (T.done X rfl rfl rfl hc i pins s3 σ3 H3 X.xe I3 (stat fr3) st3 stop) fun r s4 qr=> ?_)
  obtain⟨hr,I4⟩:=qr
  subst hr
  exact wpAny_execs_nil ⟨σ3,H3,I4,qn⟩
 ·refine wpAny_passesOwn hp (dr (T.item X rfl rfl rfl hc i pins s3 σ3 H3 X.xe I3 (stat fr3) st3 go) fun r s4 qr=> ?_)
  obtain⟨u,hr,h4⟩:=qr
  subst hr
  refine wpAny_passesOwn hp (dr h4 fun _ s5 qr=> ?_)
  obtain⟨x,H5,I5,r5,y5,st5,fr5⟩:=qr
  have I5':=I5.pinned (stat fr5) (T.obj _ _ st5)
  refine wpAny_passesOwn hp (dr (hg _ s5 σ3 H5 x u _ I5' r5 (step x H5 y5)) fun _ s6 qr=> ?_)
  obtain⟨σ6,H6,I6,q6⟩:=qr
  refine wpAny_passesOwn hp (dr (hb _ s6 σ6 H6 _ I6 q6) fun f s7 q7=> ?_)
  have again:∀{σ7:St} {H7:Hp},Inv X (pins++nc fp s5.heap) σ7 H7 s7->N σ7 H7->∃m,m<n/\∃i σ' H',Inv X pins σ' H' s7/\tn i s7.heap/\(∀b∈fp,H' b=none)/\W i m σ' H':=fun{σ7 H7} I7 n7=>by
   obtain⟨m',hm,w7⟩:=hN σ7 H7 n7
   refine⟨m',hm,i+1,σ7,H7,I7.unpinned,T.keep _ _ _ st5 fun b hb o e=>(I7.pin (b,o) (Qoq _ (Qoq _ (dQ hb e)))).1,fun b hb=> ?_,w7⟩
   obtain⟨o,e,d⟩:=T.obj _ _ st5 b hb
   exact(I7.pin (b,o) (Qoq _ (Qoq _ (dQ hb e)))).2.1
  cases f with
  |next=>obtain⟨σ7,H7,I7,n7⟩:=q7;exact again I7 n7
  |cont=>obtain⟨σ7,H7,I7,n7⟩:=q7;exact again I7 n7
  |brk=>obtain⟨σ7,H7,I7,q7⟩:=q7;exact⟨σ7,H7,I7.unpinned,q7⟩
  |ret v=>obtain⟨x7,σ7,H7,I7,r7,q7⟩:=q7;exact⟨x7,σ7,H7,I7.unpinned,r7,q7⟩
end
abbrev R2:=V->V->Hp->VK->Prop
def j0(X:Cx)(f:Value->Value->Sem Value)(r:R2):Prop:=
 ∀ (pins:List (Addr×Obj)) (s:Shared) (σ:St) (H:Hp) (x y:V) (v u:Value) (Q:VK),Inv X pins σ H s->RelV x v->RelV y u->r x y H Q→
   wpAny (model X.prog X.w) X.A (f v u) (EP X pins σ Q) X.xe s
def MG(X:Cx)(f:Value->Sem Value)(r:V->Hp->VK->Prop):Prop:=
 ∀ (pins:List (Addr×Obj)) (s:Shared) (σ:St) (H:Hp) (x:V) (v:Value) (Q:VK),Inv X pins σ H s->RelV x v->r x H Q→
   wpAny (model X.prog X.w) X.A (f v) (EP X pins σ Q) X.xe s
def jS(X:Cx)(f:Value)(r:List V->Hp->VK->Prop):Prop:=
 ∀ (pins:List (Addr×Obj)) (s:Shared) (σ:St) (H:Hp) (xs:List V) (us:List Value) (Q:VK),Inv X pins σ H s->bS xs us->r xs H Q→
   wpAny (model X.prog X.w) X.A (call f us) (EP X pins σ Q) X.xe s
def MD(X:Cx)(r:V->Hp->(Bool->Hp->Prop)->Prop):Prop:=
 ∀ (pins:List (Addr×Obj)) (s:Shared) (σ:St) (H:Hp) (x:V) (v:Value) (Q:Bool->Hp->Prop),Inv X pins σ H s->RelV x v->r x H Q→
   wpAny (model X.prog X.w) X.A (truthy v) (TP X pins σ Q) X.xe s
def F_(r:R2)(ta tb:TE):TE:=fun σ H Q=>ta σ H fun x H1=>tb σ H1 fun y H2=>r x y H2 Q
def Nl(r:V->Hp->VK->Prop)(ta:TE):TE:=fun σ H Q=>ta σ H fun x H1=>r x H1 Q
def rI(C:Int->Int->Prop)(g:Int->Int->V):R2:=fun x y H Q=>∃i j,x=.int i/\y=.int j/\C i j/\Q (g i j) H
def DQ(g:Int->Int->V):R2:=fun x y H Q=>∃i j,x=.int i/\y=.int j/\Q (g i j) H
def rU(g:Int->V):V->Hp->VK->Prop:=fun x H Q=>∃i,x=.int i/\Q (g i) H
section
variable{X:Cx}{a b c:Expr}{ta tb tc:TE}{pos:Pos}
def IE(ha:PE X a ta)(hb:PE X b tb){pins:List (Addr×Obj)}{s:Shared}{σ:St}{H:Hp}{R:V->V->Hp->Prop}(I:Inv X pins σ H s)
  (h:ta σ H fun x H1=>tb σ H1 fun y H2=>R x y H2) {Q:Value->Shared->Prop} {f:Value->Value->Sem Value}
  (hf:∀v u s2 x y H2,Inv X pins σ H2 s2->RelV x v->RelV y u->R x y H2->wpAny (model X.prog X.w) X.A (f v u) Q X.xe s2):
  wpAny (model X.prog X.w) X.A (eval a X.env) (fun v s₁=>wpAny (model X.prog X.w) X.A (eval b X.env) (fun u s₂=>wpAny (model X.prog X.w) X.A (f v u) Q X.xe s₂) X.xe s₁) X.xe s:=by
 refine dr (ha pins s σ H _ I h) fun v s1 qr=> ?_
 obtain⟨x,H1,I1,r1,q1⟩:=qr
 refine dr (hb pins s1 σ H1 _ I1 q1) fun u s2 qr=> ?_
 obtain⟨y,H2,I2,r2,q2⟩:=qr
 exact hf v u s2 x y H2 I2 r1 r2 q2
def qy{op:Operator}{r:R2}(ho:j0 X (binaryOp op) r)(ha:PE X a ta)(hb:PE X b tb):PE X (.BinOp a op b pos) (F_ r ta tb):=by
 intro pins s σ H Q I h
 exact wpAny_BinOp (IE ha hb I h fun v u s2 x y H2 I2 rx ry q=>ho pins s2 σ H2 x y v u Q I2 rx ry q)
def Lr{op:UnaryOp}{r:V->Hp->VK->Prop}(ho:MG X (unaryOp op) r)(ha:PE X a ta):PE X (.UnaryOp op a pos) (Nl r ta):=by
 intro pins s σ H Q I h
 exact UnaryOp_ (dr (ha pins s σ H _ I h) fun v s1 ⟨x,H1,I1,r1,q1⟩=>ho pins s1 σ H1 x v Q I1 r1 q1)
def LW{f:Value->Value->Sem Value}{C:Int->Int->Prop}{g:Int->Int->Int}
  (rule:∀(i j:Int) (t u:Tok) (s:Shared) (Q:Value->Shared->Prop) (E:Value->Shared->Prop),C i j->Q (.int (g i j) s.toks) {s with toks:=s.toks+1}->wpAny (model X.prog X.w) X.A (f (.int i t) (.int j u)) Q E s):
  j0 X f (rI C fun i j=>.int (g i j)):=by
 intro pins s σ H x y v u Q I rx ry h
 obtain⟨i,j,rfl,rfl,hc,q⟩:=h
 obtain⟨t,rfl⟩:=rx
 obtain⟨t',rfl⟩:=ry
 exact rule i j t t' s _ _ hc ⟨.int (g i j),H,I.tok _,⟨_,rfl⟩,q⟩
def Li{f:Value->Value->Sem Value}{g:Int->Int->Int}
  (rule:∀(i j:Int) (t u:Tok) (s:Shared) (Q:Value->Shared->Prop) (E:Value->Shared->Prop),Q (.int (g i j) s.toks) {s with toks:=s.toks+1}->wpAny (model X.prog X.w) X.A (f (.int i t) (.int j u)) Q E s):
  j0 X f (DQ fun i j=>.int (g i j)):=by
 intro pins s σ H x y v u Q I rx ry h
 obtain⟨i,j,rfl,rfl,q⟩:=h
 obtain⟨t,rfl⟩:=rx
 obtain⟨t',rfl⟩:=ry
 exact rule i j t t' s _ _ ⟨.int (g i j),H,I.tok _,⟨_,rfl⟩,q⟩
def GT{f:Value->Value->Sem Value}{g:Int->Int->Bool}
  (rule:∀(i j:Int) (t u:Tok) (s:Shared) (Q:Value->Shared->Prop) (E:Value->Shared->Prop),Q (.bool (g i j)) s->wpAny (model X.prog X.w) X.A (f (.int i t) (.int j u)) Q E s):
  j0 X f (DQ fun i j=>.bl (g i j)):=by
 intro pins s σ H x y v u Q I rx ry h
 obtain⟨i,j,rfl,rfl,q⟩:=h
 obtain⟨t,rfl⟩:=rx
 obtain⟨t',rfl⟩:=ry
 exact rule i j t t' s _ _ ⟨.bl (g i j),H,I,rfl,q⟩
def Ew(i j:Int):Prop:=0<j/\j<1073741824
def E6(i j:Int):Prop:=0<=j/\j<=1000000/\i.natAbs<2^64
def Hv(i j:Int):Prop:=(-(2^64)<i/\i<2^64)\/(-(2^64)<j/\j<2^64)
def Hv.ok{i j:Int}(h:Hv i j):IntMulOk i j:=by
 rcases h with⟨h1,h2⟩|⟨h1,h2⟩
 ·exact .of_left (intBits_le_64 h1 h2)
 ·exact .of_right (intBits_le_64 h1 h2)
def IV:j0 X (binaryOp .Add) (DQ fun i j=>.int (i+j)):=Li fun _ _ _ _ _ _ _ q=>add_int q
def Jl:j0 X (binaryOp .Sub) (DQ fun i j=>.int (i-j)):=Li fun _ _ _ _ _ _ _ q=>sub_int q
def Gs:j0 X (binaryOp .FloorDiv) (rI Ew fun i j=>.int (i/j)):=LW fun i j _ _ _ _ _ hc q=>by
 have h1:(0:Int)<j:=hc.1
 have h2:j<1073741824:=hc.2
 exact floordiv_int (by omega) (by rw[Int.fdiv_eq_ediv_of_nonneg i (by omega)];exact q) (.inl (PyProof.noPylong_small (by omega)))
def Ir:j0 X (binaryOp .Mod) (rI (fun _ j=>0<j) fun i j=>.int (i%j)):=LW fun i j _ _ _ _ _ hc q=>by
 have h1:(0:Int)<j:=hc
 exact mod_int' (by omega) (by rw[Int.fmod_eq_emod_of_nonneg i (by omega)];exact q)
def Jb:j0 X (binaryOp .Pow) (rI E6 fun i j=>.int (i^j.toNat)):=LW fun _ _ _ _ _ _ _ hc q=>pow_int_small hc.1 hc.2.1 hc.2.2 q
def Nq{f:Value->Sem Value}{g:Int->Int}
  (rule:∀(i:Int) (t:Tok) (s:Shared) (Q:Value->Shared->Prop) (E:Value->Shared->Prop),Q (.int (g i) s.toks) {s with toks:=s.toks+1}->wpAny (model X.prog X.w) X.A (f (.int i t)) Q E s):
  MG X f (rU fun i=>.int (g i)):=by
 intro pins s σ H x v Q I rx h
 obtain⟨i,rfl,q⟩:=h
 obtain⟨t,rfl⟩:=rx
 exact rule i t s _ _ ⟨.int (g i),H,I.tok _,⟨_,rfl⟩,q⟩
def Jp:MG X (unaryOp .USub) (rU fun i=>.int (-i)):=Nq fun _ _ _ _ _ q=>neg_int q
end
def AO:V->V->Bool
 |.non,.non=>true|.non,.int _=>true|.int _,.non=>true|.non,.bl _=>true|.bl _,.non=>true|.non,.str _=>true|.str _,.non=>true
 |.int _,.int _=>true|.bl _,.bl _=>true|.str _,.str _=>true|.byt _,.byt _=>true
 |.int _,.str _=>true|.str _,.int _=>true|.bl _,.str _=>true|.str _,.bl _=>true
 |_,_=>false
def MU:R2:=fun x y H Q=>AO x y=true/\Q (.bl (decide (x=y))) H
def MS:R2:=fun x y H Q=>AO x y=true/\Q (.bl (!decide (x=y))) H
def Cf{i j:Int}:decide (V.int i=V.int j)=(i==j):=by
 rw[Bool.eq_iff_iff]
 simp
def D4{i j:Bool}:decide (V.bl i=V.bl j)=(i==j):=by
 rw[Bool.eq_iff_iff]
 simp
def B4{i j:Str}:decide (V.str i=V.str j)=(i==j):=by
 rw[Bool.eq_iff_iff]
 simp
def BO{i j:Array UInt8}:decide (V.byt i=V.byt j)=(i.toList==j.toList):=by
 rw[Bool.eq_iff_iff]
 cases i
 cases j
 simp
section
variable{X:Cx}{a b c:Expr}{ta tb tc:TE}{pos:Pos}
def cD{pins:List (Addr×Obj)}{σ:St}{H:Hp}{s:Shared}{Q:VK}{k k':Bool}(I:Inv X pins σ H s)(q:Q (.bl k) H)(e:k=k'):EP X pins σ Q (.bool k') s:=by
 subst e
 exact⟨.bl k,H,I,rfl,q⟩
def cV:j0 X (compareOp .Eq) MU:=by
 intro pins s σ H x y v u Q I rx ry h
 obtain⟨hs,q⟩:=h
 cases x with
 | non=>
   cases rx
   cases y with
   |non=>cases ry;exact PySem.EqNone.eq_none_none (cD I q (by simp))
   |bl j=>cases ry;exact PySem.EqNone.eq_none_bool (cD I q (by simp))
   |int j=>obtain⟨t',rfl⟩:=ry;exact PySem.EqNone.eq_none_int (cD I q (by simp))
   |str j=>obtain⟨t',rfl⟩:=ry;exact PySem.EqNone.eq_none_str (cD I q (by simp))
   |_=>exact absurd (show false=true from hs) Qtq
 | bl i=>
   cases rx
   cases y with
   |non=>cases ry;exact PySem.EqNone.eq_bool_none (cD I q (by simp))
   |bl j=>cases ry;exact eq_bool (cD I q D4)
   |str j=>obtain⟨t',rfl⟩:=ry;exact PySem.EqMixed.eq_bool_str (cD I q (by simp))
   |_=>exact absurd (show false=true from hs) Qtq
 | int i=>
   obtain⟨t,rfl⟩:=rx
   cases y with
   |non=>cases ry;exact PySem.EqNone.eq_int_none (cD I q (by simp))
   |int j=>obtain⟨t',rfl⟩:=ry;exact eq_int (cD I q Cf)
   |str j=>obtain⟨t',rfl⟩:=ry;exact PySem.EqMixed.eq_int_str (cD I q (by simp))
   |_=>exact absurd (show false=true from hs) Qtq
 | str i=>
   obtain⟨t,rfl⟩:=rx
   cases y with
   |non=>cases ry;exact PySem.EqNone.eq_str_none (cD I q (by simp))
   |bl j=>cases ry;exact PySem.EqMixed.eq_str_bool (cD I q (by simp))
   |int j=>obtain⟨t',rfl⟩:=ry;exact PySem.EqMixed.eq_str_int (cD I q (by simp))
   |str j=>obtain⟨t',rfl⟩:=ry;exact eq_str (cD I q B4)
   |_=>exact absurd (show false=true from hs) Qtq
 | byt i=>
   obtain⟨t,rfl⟩:=rx
   cases y with
   |byt j=>obtain⟨t',rfl⟩:=ry;exact PySem.W.eq_bytes (cD I q BO)
   |_=>exact absurd (show false=true from hs) Qtq
 |_=>cases y <;>exact absurd (show false=true from hs) Qtq
def pd:j0 X (compareOp .NotEq) MS:=by
 intro pins s σ H x y v u Q I rx ry h
 obtain⟨hs,q⟩:=h
 cases x with
 | non=>
   cases rx
   cases y with
   |non=>cases ry;exact PySem.EqNone.ne_none_none (cD I q (by simp))
   |bl j=>cases ry;exact PySem.EqNone.ne_none_bool (cD I q (by simp))
   |int j=>obtain⟨t',rfl⟩:=ry;exact PySem.EqNone.ne_none_int (cD I q (by simp))
   |str j=>obtain⟨t',rfl⟩:=ry;exact PySem.EqNone.ne_none_str (cD I q (by simp))
   |_=>exact absurd (show false=true from hs) Qtq
 | bl i=>
   cases rx
   cases y with
   |non=>cases ry;exact PySem.EqNone.ne_bool_none (cD I q (by simp))
   |bl j=>cases ry;exact ne_bool (cD I q (congrArg not D4))
   |str j=>obtain⟨t',rfl⟩:=ry;exact PySem.EqMixed.ne_bool_str (cD I q (by simp))
   |_=>exact absurd (show false=true from hs) Qtq
 | int i=>
   obtain⟨t,rfl⟩:=rx
   cases y with
   |non=>cases ry;exact PySem.EqNone.ne_int_none (cD I q (by simp))
   |int j=>obtain⟨t',rfl⟩:=ry;exact ne_int (cD I q (congrArg not Cf))
   |str j=>obtain⟨t',rfl⟩:=ry;exact PySem.EqMixed.ne_int_str (cD I q (by simp))
   |_=>exact absurd (show false=true from hs) Qtq
 | str i=>
   obtain⟨t,rfl⟩:=rx
   cases y with
   |non=>cases ry;exact PySem.EqNone.ne_str_none (cD I q (by simp))
   |bl j=>cases ry;exact PySem.EqMixed.ne_str_bool (cD I q (by simp))
   |int j=>obtain⟨t',rfl⟩:=ry;exact PySem.EqMixed.ne_str_int (cD I q (by simp))
   |str j=>obtain⟨t',rfl⟩:=ry;exact ne_str (cD I q (congrArg not B4))
   |_=>exact absurd (show false=true from hs) Qtq
 | byt i=>
   obtain⟨t,rfl⟩:=rx
   cases y with
   |byt j=>obtain⟨t',rfl⟩:=ry;exact PySem.W.ne_bytes (cD I q (congrArg not BO))
   |_=>exact absurd (show false=true from hs) Qtq
 |_=>cases y <;>exact absurd (show false=true from hs) Qtq
def qY:j0 X (compareOp .Lt) (DQ fun i j=>.bl (decide (i<j))):=GT fun _ _ _ _ _ _ _ q=>lt_int q
def Ko:j0 X (compareOp .LtE) (DQ fun i j=>.bl (decide (i<=j))):=GT fun _ _ _ _ _ _ _ q=>le_int q
def Cd:j0 X (compareOp .Gt) (DQ fun i j=>.bl (decide (j<i))):=GT fun _ _ _ _ _ _ _ q=>gt_int q
def HQ:j0 X (compareOp .GtE) (DQ fun i j=>.bl (decide (j<=i))):=GT fun _ _ _ _ _ _ _ q=>ge_int q
def JV:j0 X (compareOp .Is) (fun x y H Q=>y=.non/\Q (.bl (decide (x=.non))) H):=by
 intro pins s σ H x y v u Q I rx ry h
 obtain⟨rfl,q⟩:=h
 cases ry
 refine is_none_gen (cD I q ?_)
 cases x <;>first
  |(cases rx;rfl)
  |(obtain⟨t,rfl⟩:=rx;rfl)
def j0.or{f:Value->Value->Sem Value}{r r':R2}(h:j0 X f r)(h':j0 X f r'):j0 X f (fun x y H Q=>r x y H Q\/r' x y H Q):=by
 intro pins s σ H x y v u Q I rx ry q
 rcases q with q|q
 ·exact h pins s σ H x y v u Q I rx ry q
 ·exact h' pins s σ H x y v u Q I rx ry q
def aU(b:Expr){op:CmpOp}(h:op≠.In:=by decide)(h2:op≠.NotIn:=by decide):behindInMarks op b=false:=by
 have e1:(op==CmpOp.In)=false:=by cases op <;>first|rfl|exact absurd rfl h
 have e2:(op==CmpOp.NotIn)=false:=by cases op <;>first|rfl|exact absurd rfl h2
 cases b <;>simp[behindInMarks,e1,e2]
def wx{op:CmpOp}{r:R2}(ho:j0 X (compareOp op) r)(ha:PE X a ta)(hb:PE X b tb)(hm:behindInMarks op b=false):PE X (.Compare a [op] [b] pos) (F_ r ta tb):=by
 intro pins s σ H Q I h
 exact wpAny_Compare1 (IE ha hb I h fun v u s2 x y H2 I2 rx ry q=>ho pins s2 σ H2 x y v u Q I2 rx ry q) hm
def FM(t:TE):TT:=fun σ H Q=>t σ H fun x H'=>∃k,x=.bl k/\Q k H'
def ow{op:CmpOp}{r:R2}(ho:j0 X (compareOp op) r)(ha:PE X a ta)(hb:PE X b tb)(hm:behindInMarks op b=false):PT X (.Compare a [op] [b] pos) (FM (F_ r ta tb)):=by
 intro pins s σ H Q I h
 refine wpAny_isTrue_Compare1 (dr (ha pins s σ H _ I h) fun v s1 ⟨x,H1,I1,r1,q1⟩=>dr (hb pins s1 σ H1 _ I1 q1) fun u s2 ⟨y,H2,I2,r2,q2⟩=>
  dr (ho pins s2 σ H2 x y v u _ I2 r1 r2 q2) fun c s3 ⟨z,H3,I3,r3,k,e,q3⟩=> ?_) hm
 subst e
 cases r3
 exact wpAny_truthy_bool ⟨H3,I3,q3⟩
def JQ(K:PySem.W.Frag)(x:V)(H:Hp)(k:Bool):Prop:=
 match x with
 |.non=>k=false
 |.bl b=>k=b
 |.int i=>k=(i !=0)
 |.str y=>y.length<=sizeLine/\k=((y.length:Int) !=0)
 |.byt y=>y.size<=sizeLine/\k=((y.size:Int) !=0)
 |.ref p=>(∃xs,ik K H p xs/\k= !xs.isEmpty)\/(∃xs,iW K H p xs/\k= !xs.isEmpty)\/∃kvs,H p=some (.dK kvs)/\k= !kvs.isEmpty
 |_=>False
def Bo{κ:Type}{kvs:List (κ×V)}{vs:List (κ×Value)}(r:KV kvs vs):(!vs.isEmpty)= !kvs.isEmpty:=by
 cases r <;>rfl
def sC{xs:List V}{its:List Value}(r:bS xs its):(!its.toArray.isEmpty)= !xs.isEmpty:=by
 cases r <;>simp
def lX:(sizeLine:Nat)<2^63:=by rw[sizeLine_eq];decide
def J_:MD X (fun x H Q=>∃k,JQ X.K x H k/\Q k H):=by
 intro pins s σ H x v Q I rx h
 obtain⟨k,e,q⟩:=h
 have hl:=lX
 have hs:sizeLine=16777216:=sizeLine_eq
 cases x with
 | non=>
   cases rx
   have e':k=false:=e
   subst e'
   exact truthy_none ⟨H,I,q⟩
 | bl b=>
   cases rx
   have e':k=b:=e
   subst e'
   exact wpAny_truthy_bool ⟨H,I,q⟩
 | int i=>
   obtain⟨t,rfl⟩:=rx
   have e':k=(i !=0):=e
   subst e'
   exact PySem.P.truthy_int ⟨H,I,q⟩
 | str y=>
   obtain⟨t,rfl⟩:=rx
   obtain⟨hy,e'⟩:y.length<=sizeLine/\k=((y.length:Int) !=0):=e
   subst e'
   exact PySem.P.truthy_str (by omega) ⟨H,I.tok _,q⟩
 | byt y=>
   obtain⟨t,rfl⟩:=rx
   obtain⟨hy,e'⟩:y.size<=sizeLine/\k=((y.size:Int) !=0):=e
   subst e'
   exact PySem.W.truthy_bytes (by omega) ⟨H,I.tok _,q⟩
 | ref p=>
   cases rx
   have e':(∃xs,ik X.K H p xs/\k= !xs.isEmpty)\/(∃xs,iW X.K H p xs/\k= !xs.isEmpty)\/∃kvs,H p=some (.dK kvs)/\k= !kvs.isEmpty:=e
   rcases e' with⟨xs,hx,e'⟩|⟨xs,hx,e'⟩|⟨kvs,hx,e'⟩
   · subst e'
     obtain⟨its,r,pl,hz⟩:=I.list hx
     have hlen:=r.length
     exact wpAny_truthy_list pl.isList (by simp only[Qjq];omega) ⟨H,I.tok _,by rw[sC r];exact q⟩
   · subst e'
     obtain⟨its,r,pl,hz⟩:=I.tuple hx
     have hlen:=r.length
     exact truthy_tuple pl (by simp only[Qjq];omega) ⟨H,I.tok _,by rw[sC r];exact q⟩
   · subst e'
     obtain⟨hz,hS,vs,r,m⟩:kvs.length<=sizeLine/\(p==sysModules)=false/\∃vs,KV kvs vs/\s.heap.DictOf (cq X.prog X.w) p vs:=I.hok p _ hx
     have hlen:kvs.length=vs.length:=Paired.length r
     exact wpAny_truthy_dict hS m (by omega) ⟨H,I.tok _,by rw[Bo r];exact q⟩
 |_=>exact(show False from e).elim
def DY(ha:PE X a ta)(he:∀whole,isTrue a X.env whole=(do let v←whole;standAt a.pos;holding [v] (truthy v))):
  PT X a (fun σ H Q=>ta σ H fun x H'=>∃k,JQ X.K x H' k/\Q k H'):=by
 intro pins s σ H Q I h
 exact isTrue_plain (dr (ha pins s σ H _ I h) fun v s1 ⟨x,H1,I1,r1,q1⟩=>J_ pins s1 σ H1 x v Q I1 r1 q1) (he _)
def Ai:j0 X (binaryOp .Add) (fun x y H Q=>∃i j,x=.str i/\y=.str j/\i.length+j.length<=sizeLine/\Q (.str (i++j)) H):=by
 intro pins s σ H x y v u Q I rx ry h
 obtain⟨i,j,rfl,rfl,hz,q⟩:=h
 obtain⟨t,rfl⟩:=rx
 obtain⟨t',rfl⟩:=ry
 exact add_str (fun t' tk=>⟨.str (i++j),H,I.tok _,⟨_,rfl⟩,q⟩) hz
def vals1{x:V}{us:List Value}(r:bS [x] us):∃u,us= [u]/\RelV x u:=by
 cases r with
 |cons r1 r2=>cases r2;exact⟨_,rfl,r1⟩
def vals2{x y:V}{us:List Value}(r:bS [x,y] us):∃u w',us= [u,w']/\RelV x u/\RelV y w':=by
 cases r with
 | cons r1 r2=>
   cases r2 with
   |cons r3 r4=>cases r4;exact⟨_,_,rfl,r1,r3⟩
def F2:jS X (.builtin "abs") (fun xs H Q=>∃i,xs= [.int i]/\Q (.int (if i<0 then -i else i)) H):=by
 intro pins s σ H xs us Q I r h
 obtain⟨i,rfl,q⟩:=h
 obtain⟨u,rfl,t,rfl⟩:=vals1 r
 exact call_abs_int fun u tk=>⟨.int (if i<0 then -i else i),H,I.tok _,⟨_,rfl⟩,q⟩
def vN(hc:X.calm=true):jS X (.builtin "max") (fun xs H Q=>∃i j,xs= [.int i,.int j]/\Q (.int (if j>i then j else i)) H):=by
 intro pins s σ H xs us Q I r h
 obtain⟨i,j,rfl,q⟩:=h
 obtain⟨u,w',rfl,⟨t,rfl⟩,⟨t',rfl⟩⟩:=vals2 r
 refine max_two_ints (I.ok.hd hc) fun h' tk k=>⟨_,H,I.kept k,?_,q⟩
 by_cases hj:j>i
 ·rw[Qhq hj,Qhq hj];exact⟨_,rfl⟩
 ·rw[Quq hj,Quq hj];exact⟨_,rfl⟩
def pY(hc:X.calm=true):jS X (.builtin "min") (fun xs H Q=>∃i j,xs= [.int i,.int j]/\Q (.int (if j<i then j else i)) H):=by
 intro pins s σ H xs us Q I r h
 obtain⟨i,j,rfl,q⟩:=h
 obtain⟨u,w',rfl,⟨t,rfl⟩,⟨t',rfl⟩⟩:=vals2 r
 refine min_two_ints (I.ok.hd hc) fun h' tk k=>⟨_,H,I.kept k,?_,q⟩
 by_cases hj:j<i
 ·rw[Qhq hj,Qhq hj];exact⟨_,rfl⟩
 ·rw[Quq hj,Quq hj];exact⟨_,rfl⟩
def mq:jS X (.type "int") (fun xs H Q=>(∃i,xs= [.int i]/\Q (.int i) H)\/∃k,xs= [.bl k]/\Q (.int (if k then 1 else 0)) H):=by
 intro pins s σ H xs us Q I r h
 rcases h with⟨i,rfl,q⟩|⟨k,rfl,q⟩
 ·obtain⟨u,rfl,t,rfl⟩:=vals1 r
  exact call_int_int ⟨.int i,H,I,⟨_,rfl⟩,q⟩
 ·obtain⟨u,rfl,r1⟩:=vals1 r
  cases r1
  exact call_int_bool ⟨.int (if k then 1 else 0),H,I.tok _,⟨_,rfl⟩,q⟩
end
structure Kf(h:Heap)(x dx C:Addr)(mA:Str->Option Value):Prop where
 obj:h.get? x=some (PySem.W.instObj C dx)
 ns:h.Ns1 dx mA
 ne:dx≠x
def CV{h:Heap}{dx:Addr}{mA:Str->Option Value}(n:h.Ns1 dx mA):∃od,h.get? dx=some od/\∀name,PySem.W.lookIn name od=some (mA name):=by
 obtain⟨o,es,ep,ho,hd,hk,_,hm⟩:=n
 refine⟨o,ho,fun name=> ?_⟩
 have e:=hm name
 unfold nsFind findBy at e
 rw[←Array.find?_toList] at e
 unfold PySem.W.lookIn
 rw[hd]
 dsimp only
 split
 ·rename_i y q
  rw[q] at e
  exact congrArg some e
 ·rename_i q
  rw[q] at e
  have a:es.toList.any (·.refKey)=false:=by
   rw[List.any_eq_false]
   intro y hy
   obtain⟨z,t,hkey⟩:=hk y (Array.mem_toList_iff.mp hy)
   simp[DictEntry.refKey,hkey]
  have a':¬es.toList.any (·.refKey)=true:=by rw[a];exact Qtq
  rw[Quq a']
  exact congrArg some e
def Kf.look{h:Heap}{x dx C:Addr}{mA:Str->Option Value}(I:Kf h x dx C mA):∃od,PySem.W.InstAt h x (PySem.W.instObj C dx) C (some od)/\∀name,PySem.W.lookIn name od=some (mA name):=
 let ⟨od,ho,hl⟩:=CV I.ns
 ⟨od,⟨I.obj,rfl,rfl,ho⟩,hl⟩
def tF.some_of{v:V}{o:Option Value}(r:tF (some v) o):∃u,o=some u/\RelV v u:=by
 cases o with
 |none=>exact(show False from r).elim
 |some u=>exact⟨u,rfl,r⟩
section
variable{P:Program}{w:World}{H H':Hp}{h h':Heap}{a C dx:Addr}{fs fs':List (Str×V)}
def GO(hok:nY P w H h)(e:H a=some (.ins C dx fs)):∃mA,Kf h a dx C mA/\(∀f,tF (fs.lookup f) (mA f))/\PySem.Within mA (fs.map (·.1))/\fs.length<=1000/\H dx=some (.own a):=by
 obtain⟨d,z,ne,ob,mA,n,r,q⟩:=(show du P w H h a (.ins C dx fs) from hok a _ e)
 exact⟨mA,⟨ob,n,ne⟩,r,q,z,d⟩
end
structure MN(K:PySem.W.Frag)(C:Addr):Prop where
 pg:PySem.W.plainGet K C Str.empty=true
 hd:PySem.W.hasDictIn K C=true
 po:PySem.W.plainOver K C=true
 sa:PySem.W.findIn K (.ref C) "__setattr__"=some (some (.builtin "object.__setattr__"))
def MN.get{K:PySem.W.Frag}{C:Addr}(c:MN K C)(f:Str):PySem.W.plainGet K C f=true:=c.pg
section
variable{X:Cx}{pins:List (Addr×Obj)}{σ:St}{H:Hp}{s:Shared}{A:Around}{E:Value->Shared->Prop}{Q:Value->Shared->Prop}{c:Value}{b:Bool}
inductive pW(K:PySem.W.Frag)(H:Hp):V->Value->Prop where
 |non:pW K H .non (.type "NoneType")
 |bl (x:Bool):pW K H (.bl x) (.type "bool")
 |int (i:Int):pW K H (.int i) (.type "int")
 |str (x:Str):pW K H (.str x) (.type "str")
 |flt (x:UInt64):pW K H (.flt x) (.type "float")
 |lst {a:Addr} {xs:List V} (e:H a=some (.lst xs)):pW K H (.ref a) (.type "list")
 |frz {a:Addr} {o:Obj} {xs:List V} (e:H a=some (.frz o (.lst xs))):pW K H (.ref a) (.type "list")
 |tup {a:Addr} {xs:List V} (e:H a=some (.tup xs)):pW K H (.ref a) (.type "tuple")
 |dK {a:Addr} {kvs:List (Key×V)} (e:H a=some (.dK kvs)):pW K H (.ref a) (.type "dict")
 |dT {a:Addr} {kvs:List (List Key×V)} (e:H a=some (.dT kvs)):pW K H (.ref a) (.type "dict")
 |ins {a C dx:Addr} {fs:List (Str×V)} (e:H a=some (.ins C dx fs)) (cl:MN K C) (ha:PySem.W.findIn K (.ref C) "__class__"=some (some (.builtin "object.__class__")))
   (hn:PySem.W.specialIn K (.builtin "object.__class__") "__get__"=some (some (.builtin "getset_descriptor.__get__"))) (htk:PySem.W.takesIn K (.builtin "object.__class__")=some true)
   (hm:PySem.W.mroIn K C (.type "object")=some true):pW K H (.ref a) (.ref C)
def C9{x:V}{u t:Value}(I:Inv X pins σ H s)(rx:RelV x u)(ty:pW X.K H x t)(e:PySem.W.kitOne X.K t c=some b)(h:∀tk,Q (.bool b) {s with toks:=tk}):
  wpAny (model X.prog X.w) A (call (.builtin "isinstance") [u,c]) Q E s:=by
 cases ty with
 |non=>cases (show u=Value.none from rx);exact PySem.W.kia_one PySem.W.kitx_none I.kIn True.intro e (fun z=>nomatch z) h
 |bl y=>cases (show u=Value.bool y from rx);exact PySem.W.kia_one PySem.W.kitx_bool I.kIn True.intro e (fun z=>nomatch z) h
 |int i=>obtain⟨t,q⟩:=(show∃t,u=Value.int i t from rx);cases q;exact PySem.W.kia_one PySem.W.kitx_int I.kIn True.intro e (fun z=>nomatch z) h
 |str y=>obtain⟨t,q⟩:=(show∃t,u=Value.str y t from rx);cases q;exact PySem.W.kia_one PySem.W.kitx_str I.kIn True.intro e (fun z=>nomatch z) h
 |flt y=>obtain⟨t,q⟩:=(show∃t,u=Value.float y t from rx);cases q;exact PySem.W.kia_one PySem.W.kitx_float I.kIn True.intro e (fun z=>nomatch z) h
 | @lst a xs ea=>
   cases (show u=Value.ref a from rx)
   obtain⟨_,_,n,_,h1⟩:=(show du X.prog X.w H s.heap a (.lst xs) from I.hok a _ ea)
   exact PySem.W.kia_one PySem.W.kitx_list I.kIn ⟨_,h1,rfl⟩ e (fun z=>nomatch z) h
 | @frz a ob xs ea=>
   cases (show u=Value.ref a from rx)
   obtain⟨_,_,_,n,_,h1⟩:=(show du X.prog X.w H s.heap a (.frz ob (.lst xs)) from I.hok a _ ea)
   exact PySem.W.kia_one PySem.W.kitx_list I.kIn ⟨_,h1,rfl⟩ e (fun z=>nomatch z) h
 | @tup a xs ea=>
   cases (show u=Value.ref a from rx)
   obtain⟨_,_,_,p⟩:=(show du X.prog X.w H s.heap a (.tup xs) from I.hok a _ ea)
   obtain⟨o,h1,h2,_⟩:=p
   exact PySem.W.kia_one PySem.W.kitx_tuple I.kIn ⟨o,h1,h2⟩ e (fun z=>nomatch z) h
 | @dK a kvs ea=>
   cases (show u=Value.ref a from rx)
   obtain⟨_,_,vs,_,p⟩:=(show du X.prog X.w H s.heap a (.dK kvs) from I.hok a _ ea)
   obtain⟨o,es,ep,h1,h2,_⟩:=p
   exact PySem.W.kia_one PySem.W.kitx_dict I.kIn ⟨o,h1,h2.1⟩ e (fun z=>nomatch z) h
 | @dT a kvs ea=>
   cases (show u=Value.ref a from rx)
   obtain⟨_,_,xs,_,o,es,ep,h1,h2,_⟩:=(show du X.prog X.w H s.heap a (.dT kvs) from I.hok a _ ea)
   exact PySem.W.kia_one PySem.W.kitx_dict I.kIn ⟨o,h1,h2.1⟩ e (fun z=>nomatch z) h
 | @ins a C dx fs ea cl ha hn htk hm=>
   cases (show u=Value.ref a from rx)
   obtain⟨mA,O,_⟩:=GO I.hok ea
   obtain⟨od,J,_⟩:=O.look
   exact PySem.W.kia_one (PySem.W.kitx_own (cl.get _) cl.hd ha hn htk hm) I.kIn J e (fun z=>nomatch z) h
end
structure eX(k:Nat)(A:Around):Prop where
 hd:A.handled=none
 dp:A.depth+3*k+5<recursionLimit
 un:A.units+16*k+200<cLine
def eX.mono{j k:Nat}{A:Around}(r:eX k A)(h:j<=k):eX j A:=⟨r.hd,by have:=r.dp;omega,by have:=r.un;omega⟩
def eX.deeper{k:Nat}{A:Around}(r:eX (k+1) A)(env:Env):eX k (A.deeper env):=
 ⟨r.hd,by have:=r.dp;show A.depth+1+3*k+5<_;omega,by have:=r.un;show A.units+3+16*k+200<_;omega⟩
def eX.depth{k:Nat}{A:Around}(r:eX k A):A.depth<recursionLimit:=by have:=r.dp;omega
def eX.units{k:Nat}{A:Around}(r:eX k A):A.units+64<cLine:=by have:=r.un;omega
def eX.units0{k:Nat}{A:Around}(r:eX k A):A.units<cLine:=by have:=r.un;omega
def JX:TA:=fun _ H Q=>Q [] H
def Er(ta:TE)(tr:TA):TA:=fun σ H Q=>ta σ H fun x H1=>tr σ H1 fun xs H2=>Q (x::xs) H2
section
variable{X:Cx}{e:Expr}{es:List Expr}{te:TE}{t:TA}{pos:Pos}
def gK:PA X [] JX:=fun _ _ _ _ H Q I h=>Calls.spliced_nil ⟨[],H,I,.nil,h⟩
def dC(ha:PE X e te)(hr:PA X es t)(hs:starEach (e::es) X.env=(false,eval e X.env)::starEach es X.env:=by rfl):PA X (e::es) (Er te t):=by
 intro pos pins s σ H Q I h
 rw[hs]
 show wpAny _ _ (spliced ((false,eval e X.env)::backTo pos (starEach es X.env))) _ _ s
 refine Calls.spliced_cons (dr (ha pins s σ H _ I h) fun u s1 qr=> ?_)
 obtain⟨x,H1,I1,r1,q1⟩:=qr
 exact dr (hr pos pins s1 σ H1 _ I1 q1) fun us s2 ⟨xs,H2,I2,r2,q2⟩=>⟨x::xs,H2,I2,.cons r1 r2,q2⟩
def Mp(t:TA):TE:=fun σ H Q=>t σ H fun xs H1=>xs.length<=sizeLine/\∀p,H1 p=none->Q (.ref p) (upd H1 p (.tup xs))
def MI(t:TA):TE:=fun σ H Q=>t σ H fun xs H1=>xs.length<=sizeLine/\∀p,H1 p=none->Q (.ref p) (upd H1 p (.lst xs))
def II{x1}(h:PA X es t):PE X (.Tuple es x1 pos) (Mp t):=by
 intro pins s σ H Q I hq
 refine wpAny_Tuple_spliced (dr (h pos pins s σ H _ I hq) fun us s1 ⟨xs,H1,I1,r,z,q⟩=>⟨by rw[←r.length];exact z,?_⟩)
 have hf:H1 s1.heap.objs.size=none:=I1.hok.fresh (Qmq _)
 refine⟨.ref s1.heap.objs.size,upd H1 s1.heap.objs.size (.tup xs),I1.laid (t':=s1.toks) (fun b u e=>Qcq _ e) (Qmq _) ?_,rfl,q _ hf⟩
 exact⟨z,us,r,⟨_,Qrq _ rfl,rfl,rfl,_,rfl⟩⟩
def Je(h:PA X es t):PE X (.List es pos) (MI t):=by
 intro pins s σ H Q I hq
 refine wpAny_List_spliced (dr (h pos pins s σ H _ I hq) fun us s1 ⟨xs,H1,I1,r,z,q⟩=>⟨by rw[←r.length];exact z,?_⟩)
 have hf:H1 s1.heap.objs.size=none:=I1.hok.fresh (Qmq _)
 refine⟨.ref s1.heap.objs.size,upd H1 s1.heap.objs.size (.lst xs),I1.laid (t':=s1.toks) (fun b u e=>Qcq _ e) (Qmq _) ?_,rfl,q _ hf⟩
 exact⟨z,us,0,r,Qrq _ rfl⟩
end
abbrev Sp:=List V->Hp->VK->XK->Prop
abbrev DS:=List Env->Hp->Shared->XK->Value->Shared->Prop
structure GK(P:Program)(w:World)(K:PySem.W.Frag)(mg:Str->Option Value)(base:Heap)(A:Around)(outer:List Env)(s:Shared)(H:Hp):Prop where
 frames:A.frames=some outer
 mod:Mod K mg base
 bs:∀b o,base.get? b=some o->s.heap.get? b=some o/\H b=none
 bsz:base.objs.size<=s.heap.objs.size
 funs:s.heap.FunFrames base outer
 frf:∀b∈EG outer,H b=none
 hok:nY P w H s.heap
 bare:AllBare s.gens
def CE(outer:List Env)(P:Program)(w:World)(H:Hp)(s:Shared)(Q:VK)(u:Value)(s':Shared):Prop:=
 ∃v H',s'.os=s.os/\AllBare s'.gens/\Un (EG outer) [] H H' s.heap s'.heap/\nY P w H' s'.heap/\RelV v u/\Q v H'
def CR(CX:DS)(outer:List Env)(P:Program)(w:World)(H:Hp)(s:Shared)(Q:VK)(E:XK)(r:Result)(s':Shared):Prop:=
 match r with
 |.ok (.ret u)=>CE outer P w H s Q u s'
 |.ok _=>False
 |.error e=>CX outer H s E e s'
structure bJ(P:Program)(w:World)(K:PySem.W.Frag)(mg:Str->Option Value)(base:Heap)(CX:DS)(k:Nat)(f:Addr)(fd:FuncData)(ps:List Str)(sp:Sp):Prop where
 len:∀vs H Q E,sp vs H Q E->vs.length=ps.length
 run:∀(A:Around) (outer:List Env) (s:Shared) (H:Hp) (args:Args) (us:List Value) (vs:List V) (Q:VK) (E:XK),eX k A->GK P w K mg base A outer s H->BindsTo s fd args (ps.zip us)->bS vs us->sp vs H Q E→
  codeAny (model P w) A (.call (.ref f) args) (CR CX outer P w H s Q E) s
def bJ.mono{P:Program}{w:World}{K:PySem.W.Frag}{mg:Str->Option Value}{base:Heap}{CX:DS}{j k:Nat}{f:Addr}{fd:FuncData}{ps:List Str}{sp:Sp}(F:bJ P w K mg base CX j f fd ps sp)(h:j<=k):
  bJ P w K mg base CX k f fd ps sp:=⟨F.len,fun A outer s H args us vs Q E hr=>F.run A outer s H args us vs Q E (hr.mono h)⟩
def bJ.imp{P:Program}{w:World}{K:PySem.W.Frag}{mg:Str->Option Value}{base:Heap}{CX:DS}{k:Nat}{f:Addr}{fd:FuncData}{ps:List Str}{sp sp':Sp}(F:bJ P w K mg base CX k f fd ps sp)
  (h:∀vs H Q E,sp' vs H Q E->sp vs H Q E):bJ P w K mg base CX k f fd ps sp':=
 ⟨fun vs H Q E q=>F.len vs H Q E (h _ _ _ _ q),fun A outer s H args us vs Q E hr he hb hv hs=>F.run A outer s H args us vs Q E hr he hb hv (h _ _ _ _ hs)⟩
section
variable{X:Cx}{pins:List (Addr×Obj)}{σ:St}{H:Hp}{s s':Shared}
def Inv.env0(I:Inv X pins σ H s):GK X.prog X.w X.K X.mg X.base X.A X.stack s H:=
 ⟨I.ok.frames,I.ok.mod,I.bs,QAq I.ok.bsz I.sz,I.stack,I.stkFree,I.hok,I.bare⟩
def Inv.after{Q:VK}{u:Value}(I:Inv X pins σ H s)(h:CE X.stack X.prog X.w H s Q u s'):EP X pins σ Q u s':=by
 obtain⟨v,H',os,bare,un,hok,r,q⟩:=h
 obtain⟨hh,g,d,t,os'⟩:=s'
 obtain rfl:os'=s.os:=os
 exact⟨v,H',I.call (h':=hh) (g':=g) (d':=d) (t':=t) (ch:= []) un hok bare (fun b z=>absurd z (by simp)),r,q⟩
end
def Fo(sp:Sp)(dvs:List V)(E:XK)(t:TA):TE:=fun σ H Q=>t σ H fun vs H1=>sp (vs++dvs) H1 Q E
def Binds(K:PySem.W.Frag)(fd:FuncData)(ps:List Str)(ds:List Value):Prop:=
 ∀(s:Shared) (us:List Value),K.In s.heap->(us++ds).length=ps.length->BindsTo s fd ⟨us,[]⟩ (ps.zip (us++ds))
def Binds.all{K:PySem.W.Frag}{fd:FuncData}{ps:List Str}(h:∀us:List Value,us.length=ps.length->bindArgs fd ⟨us,[]⟩=pure (ps.zip us)):Binds K fd ps []:=fun s us _ hl=>by
 rw[List.append_nil] at hl⊢
 exact .of_eq (h us hl)
def AK(CX:DS)(X:Cx)(E:XK):Prop:=∀(pins:List (Addr×Obj)) (σ:St) (H:Hp) (s:Shared) (e:Value) (s':Shared),Inv X pins σ H s->CX X.stack H s E e s'->X.xe e s'
section
variable{X:Cx}{CX:DS}{k:Nat}{f C:Addr}{fd:FuncData}{ps:List Str}{sp:Sp}{dvs:List V}{ds:List Value}{E:XK}{x m:Str}{p pos apos:Pos}{e o:Expr}{es:List Expr}{ta:TE}{t:TA}
def Eo{pins:List (Addr×Obj)}{σ:St}{H:Hp}{s:Shared}{Q:VK}{us:List Value}{vs:List V}(F:bJ X.prog X.w X.K X.mg X.base CX k f fd ps sp)(hr:eX k X.A)(hb:Binds X.K fd ps ds)(hd:bS dvs ds)(hx:AK CX X E)
  (I:Inv X pins σ H s) (r:bS vs us) (h:sp (vs++dvs) H Q E):wpAny (model X.prog X.w) X.A (call (.ref f) us) (EP X pins σ Q) X.xe s:=by
 have r2:bS (vs++dvs) (us++ds):=r.append hd
 have hl:(us++ds).length=ps.length:=by rw[←r2.length];exact F.len _ _ _ _ h
 refine wpAny_call (codeAny_mono (F.run X.A X.stack s H ⟨us,[]⟩ (us++ds) (vs++dvs) Q E hr I.env0 (hb s us I.kIn hl) r2 h) fun r s' hq=> ?_)
 cases r with
 |error e=>exact hx pins σ H s e s' I hq
 | ok fl=>
   cases fl with
   |ret u=>exact I.after hq
   |next=>exact False.elim hq
   |brk=>exact False.elim hq
   |cont=>exact False.elim hq
def B9(F:bJ X.prog X.w X.K X.mg X.base CX k f fd ps sp)(hr:eX k X.A)(hg:Gl X x)(hm:X.mg x=some (.ref f))(hk:PySem.W.keepIn X.K (.ref f)=true)(hb:Binds X.K fd ps ds)(hd:bS dvs ds)(hx:AK CX X E)
  (ha:PA X (e::es) t) (hdb:(x==("__debug__":Str))=false:=by decide) (he:starEach (e::es) X.env=(false,eval e X.env)::starEach es X.env:=by rfl) (hpl:(backTo pos (starEach es X.env)).any (·.1)=false:=by rfl):
  PE X (.Call (.Name x p) (e::es) [] pos) (Fo sp dvs E t):=by
 intro pins s σ H Q I h
 refine wpAny_Call_Name_kw (xP I hg hm ?_ hdb)
 refine PySem.W.callWith_K (h₀:=X.base) I.ok.mod.kin hk (dr (ha pos pins s σ H _ I h) fun us s1 ⟨vs,H1,I1,r,q⟩=>⟨I1.kIn,?_⟩) he hpl
 exact Eo F hr hb hd hx I1 r q
end
structure aM(N P:List Str)(sc:Scope):Prop where
 kind:sc.kind=.function
 co:sc.isCoroutine=false
 gen:sc.isGenerator=false
 nd:N.Nodup
 pre:N.take P.length=P
 par:∀x∈P,sc.names.lookup x=some .local\/sc.names.lookup x=some .cell
 nofree:∀y∈sc.names,y.2≠.free
theorem vj{kindOf:Str->Option NameKind}{x:Str}:∀{binds:List (Str×Value)} {m:Str->Option Value},(∀v,(x,v)∉binds)->bindL kindOf binds m x=m x
 | [],_,_=>rfl
 | (n,v)::r,m,h=>by
   unfold bindL
   rw[vj fun w hw=>h w (Qpq _ hw)]
   split
   · have:x≠n:=by rintro rfl;exact h v QBq
     simp[this]
   · rfl
theorem vd{kindOf:Str->Option NameKind}{x:Str}:∀{binds:List (Str×Value)} {m:Str->Option Value},(∀v,(x,v)∉binds)->bindC kindOf binds m x=m x
 | [],_,_=>rfl
 | (n,v)::r,m,h=>by
   unfold bindC
   rw[vd fun w hw=>h w (Qpq _ hw)]
   split
   · rfl
   · have:x≠n:=by rintro rfl;exact h v QBq
     simp[this]
theorem vY{kindOf:Str->Option NameKind}{x:Str}{v:Value}:∀{P:List Str} {vs:List Value} {i:Nat} {m:Str->Option Value},P.Nodup->P[i]?=some x->vs[i]?=some v->kindOf x=some .local→
  bindL kindOf (P.zip vs) m x=some v
 | [],_,_,_,_,h,_,_=>by simp at h
 |_::_,[],_,_,_,_,h,_=>by simp at h
 | p::P,w::vs,0,m,nd,h1,h2,hk=>by
   simp at h1 h2;subst h1;subst h2
   show bindL kindOf ((p,w)::P.zip vs) m p=_
   unfold bindL
   rw[vj fun v hv=>(List.nodup_cons.mp nd).1 (List.of_mem_zip hv).1,Qhq hk]
   simp
 | p::P,w::vs,i+1,m,nd,h1,h2,hk=>by
   show bindL kindOf ((p,w)::P.zip vs) m x=_
   unfold bindL
   exact vY (i:=i) (List.nodup_cons.mp nd).2 (by simpa using h1) (by simpa using h2) hk
theorem vD{kindOf:Str->Option NameKind}{x:Str}{v:Value}:∀{P:List Str} {vs:List Value} {i:Nat} {m:Str->Option Value},P.Nodup->P[i]?=some x->vs[i]?=some v->kindOf x≠some .local→
  bindC kindOf (P.zip vs) m x=some v
 | [],_,_,_,_,h,_,_=>by simp at h
 |_::_,[],_,_,_,_,h,_=>by simp at h
 | p::P,w::vs,0,m,nd,h1,h2,hk=>by
   simp at h1 h2;subst h1;subst h2
   show bindC kindOf ((p,w)::P.zip vs) m p=_
   unfold bindC
   rw[vd fun v hv=>(List.nodup_cons.mp nd).1 (List.of_mem_zip hv).1,Quq hk]
   simp
 | p::P,w::vs,i+1,m,nd,h1,h2,hk=>by
   show bindC kindOf ((p,w)::P.zip vs) m x=_
   unfold bindC
   exact vD (i:=i) (List.nodup_cons.mp nd).2 (by simpa using h1) (by simpa using h2) hk
def start(N:List Str)(vs:List V):St:=vs.map some++List.replicate (N.length-vs.length) none
def AZ(CX:DS)(P:Program)(w:World)(K:PySem.W.Frag)(mg:Str->Option Value)(base:Heap)(N:List Str)(qual:Str)(scope:Scope)(f:Addr)(cd:Value)(A:Around)(outer:List Env)(s:Shared)(H:Hp)(E:XK):Cx where
 prog:=P
 w:=w
 K:=K
 mg:=mg
 base:=base
 A:=A.deeper (envOfC qual scope s.heap.objs.size f cd)
 N:=N
 s₀:=s
 H₀:=H
 env:=envOfC qual scope s.heap.objs.size f cd
 outer:=outer
 stack:=envOfC qual scope s.heap.objs.size f cd::outer
 ex:= []
 calm:=true
 fn:=fun _=>true
 pn:= []
 xe:=fun e s'=>wpAny (model P w) (A.deeper (envOfC qual scope s.heap.objs.size f cd)) (leaving (envOfC qual scope s.heap.objs.size f cd) e) (fun _ s''=>CX outer H s E e s'') (fun e' s''=>CX outer H s E e' s'') s'
def yP{sc:Scope}{n:Nat}{x:Str}(h:sc.names.lookup x=some .cell):∃c,(cellsFrom n sc.names []).lookup x=some c:=by
 have q:=PySem.W.cellsFrom_some sc.names n [] (.inl h)
 exact Option.isSome_iff_exists.mp q
def CS{CX:DS}{P:Program}{w:World}{K:PySem.W.Frag}{mg:Str->Option Value}{base:Heap}{N ps:List Str}{qual:Str}{scope:Scope}{f:Addr}{cd:Value}{A:Around}{outer:List Env}{s s1:Shared}{H:Hp}{E:XK}{us:List Value}{vs:List V}
  (S:aM N ps scope) (hd:A.handled=none) (e0:GK P w K mg base A outer s H) (hl:vs.length=ps.length) (r:bS vs us)
  (x:InCallC s s.heap.objs.size (bindL (envOfC qual scope s.heap.objs.size f cd).kindOf (ps.zip us) fun _=>none) (cellsFrom (s.heap.objs.size+1) scope.names []) (bindC (envOfC qual scope s.heap.objs.size f cd).kindOf (ps.zip us) fun _=>none) s1):
  Inv (AZ CX P w K mg base N qual scope f cd A outer s H E) [] (start N vs) H s1:=by
 have hpl:ps.length<=N.length:=by have:=congrArg List.length S.pre;rw[Qxq] at this;omega
 obtain⟨h1,tk,rfl,hk⟩:=x.done
 have noA:∀b:Addr,b∉(AZ CX P w K mg base N qual scope f cd A outer s H E).ex:=fun b z=>absurd (show b∈([]:List Addr) from z) (by simp)
 refine⟨⟨e0.mod,S.kind,rfl,rfl,Qmq _,fun y z c h1 h2=> ?_,fun y hy=> ?_,fun y c _ h=> ?_,fun _=>hd,Around.frames_deeper e0.frames,.inr ⟨rfl,rfl⟩,fun b z=>absurd z (noA b),e0.bs,e0.bsz,fun b _ _=>noA b,fun b z=>absurd z (noA b),e0.funs,e0.frf⟩,
  rfl,e0.bare,Un.kept hk,⟨_,x.toInCall.ns,fun i y v h1 h2 h3=> ?_⟩,fun y c h=>⟨_,x.cell y c h⟩,e0.hok.fresh (Qmq _),fun y c h=> ?_,fun p hp=>absurd (show p∈([]:List (Addr×Obj)) from hp) (by simp),e0.hok.kept hk,?_⟩
 ·exact name_of_addr x.apart (PySem.mem_of_lookup h1) (PySem.mem_of_lookup h2)
 ·have hy:scope.names.lookup y=some .cell\/scope.names.lookup y=some .free:=hy
  rcases hy with hy|hy
  ·exact yP hy
  ·exact absurd rfl (S.nofree _ (PySem.mem_of_lookup hy))
 ·exact nQl (x.above y c (PySem.mem_of_lookup h))
 ·have hi:i<vs.length:=by
   unfold start at h2
   by_cases hi:i<vs.length
   ·exact hi
   ·rw[QQq (by simpa using hi)] at h2
    rw[List.getElem?_replicate] at h2
    split at h2 <;>cases h2
  have ha:vs[i]?=some v:=by
   unfold start at h2
   rw[QHq (by simpa using hi),gQm] at h2
   cases e:vs[i]? with
   |none=>rw[e] at h2;cases h2
   |some a=>rw[e] at h2;cases h2;rfl
  obtain⟨u,hu,rv⟩:=r.get ha
  have hp:ps[i]?=some y:=by
   rw[←S.pre,List.getElem?_take_of_lt (by omega)];exact h1
  have ndP:ps.Nodup:=by rw[←S.pre];exact S.nd.sublist (List.take_sublist _ _)
  refine⟨u,rv,?_⟩
  rcases S.par y (mQg hp) with k|k
  ·exact .inl ⟨k,vY ndP hp hu k⟩
  ·obtain⟨c,e⟩:=yP (n:=s.heap.objs.size+1) k
   refine .inr ⟨.inl k,c,e,?_⟩
   have q:=x.cell y c e
   rw[vD ndP hp hu (by show scope.names.lookup y≠_;rw[k];decide)] at q
   exact q
 ·exact e0.hok.fresh (nQl (x.above y c (PySem.mem_of_lookup h)))
 ·unfold start
  show _=N.length
  rw[lQa,lQm,QIq]
  omega
def Kw{CX:DS}{P:Program}{w:World}{K:PySem.W.Frag}{mg:Str->Option Value}{base:Heap}{k:Nat}{f:Addr}{name qual:Str}{params:Arguments}{body:List Stmt}{scope:Scope}{dV kV doc pm cdv ct oc:Value}{an od:Option Addr}
  {osl:Array (Option Value)} {N ps:List Str} {sp:Sp} (lk:K.lookup f=some ⟨oc,od,.func (PySem.W.fnOf name qual params body scope dV kV doc pm an cdv ct),osl⟩) (hcd:PySem.W.codeIn K cdv qual=true) (S:aM N ps scope)
  (len:∀vs H Q E,sp vs H Q E->vs.length=ps.length)
  (hbody:∀(A:Around) (outer:List Env) (s:Shared) (H:Hp) (vs:List V) (Q:VK) (E:XK),eX k (A.deeper (envOfC qual scope s.heap.objs.size f cdv))->sp vs H Q E→
   ∃t,rV (AZ CX P w K mg base N qual scope f cdv A outer s H E) body t/\t {nx:=fun _ H'=>Q .non H',rt:=Q} (start N vs) H):
  bJ P w K mg base CX (k+1) f (PySem.W.fnOf name qual params body scope dV kV doc pm an cdv ct) ps sp:=by
 refine⟨len,fun A outer s H args us vs Q E hr e0 hb r hsp=> ?_⟩
 have hl:=len _ _ _ _ hsp
 have KX:K.In s.heap:=e0.mod.kin.keeps fun b o e=>(e0.bs b o e).1
 have lim:s.heap.NoLimit:=e0.mod.nolimit.keeps fun b o e=>(e0.bs b o e).1
 have hkind:∀y∈ps.zip us,scope.names.lookup y.1=some .local\/(scope.names.lookup y.1=some .cell/\((cellsFrom (s.heap.objs.size+1) scope.names []).lookup y.1).isSome=true):=fun⟨n,v⟩ hy=>by
  rcases S.par n (List.of_mem_zip hy).1 with q|q
  ·exact .inl q
  ·exact .inr ⟨q,PySem.W.cellsFrom_some _ _ _ (.inl q)⟩
 refine codeAny_call_function hr.depth (KX _ _ lk) rfl S.co S.gen rfl (PySem.W.codeRec_of KX hcd) (hb _ _ _ _ ?_)
 refine wpAny_newFunctionEnv_cells S.kind hkind fun env he s1 x=> ?_
 subst he
 refine⟨lim.keeps x.toInCall.keep,codeAny_func ?_⟩
 obtain⟨t,ht,hq⟩:=hbody A outer s H vs Q E (hr.deeper _) hsp
 have I:Inv (AZ CX P w K mg base N qual scope f cdv A outer s H E) [] (start N vs) H s1:=CS S hr.hd e0 hl r x
 refine QRq (ht [] s1 (start N vs) H _ I hq) (fun fl s' hs=> ?_) fun e s' hs=>hs
 have fin:∀{σ':St} {H':Hp} {v:V} {u:Value},Inv (AZ CX P w K mg base N qual scope f cdv A outer s H E) [] σ' H' s'->RelV v u->Q v H'->CE outer P w H s Q u s':=
  fun{σ' H' v u} J rv q=>⟨v,H',J.os,J.bare,J.base,J.hok,rv,q⟩
 cases fl with
 | ret u=>
   obtain⟨v,σ',H',J,rv,q⟩:=hs
   exact fin J rv q
 | next=>
   obtain⟨σ',H',J,q⟩:=hs
   exact fin (v:=V.non) (u:=Value.none) J rfl q
 | brk=>
   obtain⟨_,_,_,q⟩:=hs
   exact False.elim q
 | cont=>
   obtain⟨_,_,_,q⟩:=hs
   exact False.elim q
section
variable{X:Cx}{x:Str}{p pos:Pos}{e:Expr}{es:List Expr}{t:TA}{id T:String}{r:List V->Hp->VK->Prop}
def L5(r:List V->Hp->VK->Prop)(t:TA):TE:=fun σ H Q=>t σ H fun vs H1=>r vs H1 Q
def eR(hc:jS X (.builtin id) r)(hg:Gl X x)(hm:X.mg x=none)(hv:bootBuiltins x=some (.builtin id))(ha:PA X (e::es) t)(hn:x≠"__name__":=by decide)(hdb:(x==("__debug__":Str))=false:=by decide)
  (he:starEach (e::es) X.env=(false,eval e X.env)::starEach es X.env:=by rfl) (hpl:(backTo pos (starEach es X.env)).any (·.1)=false:=by rfl):PE X (.Call (.Name x p) (e::es) [] pos) (L5 r t):=by
 intro pins s σ H Q I h
 refine wpAny_Call_Name_kw (lC I hg hm hv ?_ hn hdb)
 exact PyProof.Rows.callWith_builtin1 (dr (ha pos pins s σ H _ I h) fun us s1 ⟨vs,H1,I1,r1,q1⟩=>hc pins s1 σ H1 vs us Q I1 r1 q1) he hpl
def ix(hc:jS X (.type T) r)(hg:Gl X x)(hm:X.mg x=none)(hv:bootBuiltins x=some (.type T))(ha:PA X (e::es) t)(hn:x≠"__name__":=by decide)(hdb:(x==("__debug__":Str))=false:=by decide)
  (he:starEach (e::es) X.env=(false,eval e X.env)::starEach es X.env:=by rfl) (hpl:(backTo pos (starEach es X.env)).any (·.1)=false:=by rfl):PE X (.Call (.Name x p) (e::es) [] pos) (L5 r t):=by
 intro pins s σ H Q I h
 refine wpAny_Call_Name_kw (lC I hg hm hv ?_ hn hdb)
 exact PyProof.Rows.callWith_type1 (dr (ha pos pins s σ H _ I h) fun us s1 ⟨vs,H1,I1,r1,q1⟩=>hc pins s1 σ H1 vs us Q I1 r1 q1) he hpl
end
section
variable{κ:Type}[DecidableEq κ]
def pB(kvs:List (κ×V))(k:κ):Option V:=(kvs.find? fun kv=>decide (kv.1=k)).map (·.2)
def putK(kvs:List (κ×V))(k:κ)(v:V):List (κ×V):=
 if (kvs.any fun kv=>decide (kv.1=k))=true then kvs.map (fun kv=>if kv.1=k then(kv.1,v) else kv) else kvs++ [(k,v)]
def sA{p:κ×V}{r:List (κ×V)}{k:κ}(e:p.1=k):pB (p::r) k=some p.2:=by simp[pB,List.find?_cons,e]
def s_{p:κ×V}{r:List (κ×V)}{k:κ}(e:¬p.1=k):pB (p::r) k=pB r k:=by simp[pB,List.find?_cons,e]
theorem zW(k:κ):∀kvs:List (κ×V),(kvs.any fun kv=>decide (kv.1=k))=(pB kvs k).isSome
 | []=>rfl
 | p::r=>by
   rw[List.any_cons]
   by_cases e:p.1=k
   · simp only[sA e,Qeq e,Bool.true_or,Option.isSome_some]
   · rw[s_ e,Qdq e,Bool.false_or];exact zW k r
def je(kvs:List (κ×V))(k:κ)(v:V):(putK kvs k v).length<=kvs.length+1:=by
 unfold putK
 split
 ·rw[lQm];omega
 ·rw[lQa,Qnq,QGq];omega
def tF.isSome_eq{o:Option V}{u:Option Value}(r:tF o u):o.isSome=u.isSome:=by
 cases o with
 | none=>cases u with
   |none=>rfl
   |some _=>exact(show False from r).elim
 | some _=>cases u with
   |none=>exact(show False from r).elim
   |some _=>rfl
def KV.val{kvs:List (κ×V)}{vs:List (κ×Value)}(r:KV kvs vs)(k:κ):tF (pB kvs k) (valueAt vs k):=by
 unfold KV at r
 induction r with
 |nil=>exact True.intro
 | @cons p q ps qs h t ih=>
   obtain⟨h1,h2⟩:=h
   by_cases e:p.1=k
   · have e':q.1=k:=h1.symm.trans e
     have b:valueAt (q::qs) k=some q.2:=by simp[valueAt,List.find?_cons,e']
     rw[sA e,b];exact h2
   · have e':¬q.1=k:=fun z=>e (h1.trans z)
     have b:valueAt (q::qs) k=valueAt qs k:=by simp[valueAt,List.find?_cons,e']
     rw[s_ e,b];exact ih
theorem KV.any{kvs:List (κ×V)}{vs:List (κ×Value)}(r:KV kvs vs)(k:κ):(kvs.any fun kv=>decide (kv.1=k))=vs.any fun kv=>decide (kv.1=k):=by
 unfold KV at r
 induction r with
 |nil=>rfl
 |cons h t ih=>rw[List.any_cons,List.any_cons,ih,h.1]
def KV.repl{kvs:List (κ×V)}{vs:List (κ×Value)}(r:KV kvs vs)(k:κ){y:V}{u:Value}(ry:RelV y u):
  KV (kvs.map fun kv=>if kv.1=k then(kv.1,y) else kv) (vs.map fun kv=>if kv.1=k then(kv.1,u) else kv):=by
 unfold KV at r⊢
 induction r with
 |nil=>exact .nil
 | @cons p q ps qs h t ih=>
   rw[QDq,QDq]
   refine .cons ?_ ih
   obtain⟨h1,h2⟩:=h
   by_cases e:p.1=k
   · rw[Qhq e,Qhq (h1.symm.trans e)];exact⟨h1,ry⟩
   · rw[Quq e,Quq (fun z=>e (h1.trans z))];exact⟨h1,h2⟩
def KV.put{kvs:List (κ×V)}{vs:List (κ×Value)}(r:KV kvs vs)(k:κ){y:V}{u:Value}(ry:RelV y u):KV (putK kvs k y) (stored vs k u):=by
 unfold putK stored
 rw[r.any k]
 by_cases e:(vs.any fun kv=>decide (kv.1=k))=true
 ·rw[Qhq e,Qhq e];exact r.repl k ry
 ·rw[Quq e,Quq e];exact Paired.snoc r ⟨rfl,ry⟩
def KV.length{kvs:List (κ×V)}{vs:List (κ×Value)}(r:KV kvs vs):kvs.length=vs.length:=Paired.length r
end
def zQ{P:Program}{w:World}{k:Key}{u:Value}(r:RelV (kV k) u):(cq P w).is k u=true:=by
 cases k with
 |inl i=>obtain⟨t,e⟩:=(show∃t,u=Value.int i t from r);subst e;exact y3 P w i t
 |inr x=>obtain⟨t,e⟩:=(show∃t,u=Value.str x t from r);subst e;exact zw P w x t
theorem vf{P:Program}{w:World}:∀{ks:List Key} {us:List Value},bS (ks.map kV) us->ItemsAre (cq P w) ks us
 | [],_,r=>by rw[List.map_nil] at r;cases r;exact .nil
 | k::ks,_,r=>by
   rw[QDq] at r
   cases r with
   |cons h t=>exact .cons (zQ h) (vf t)
abbrev KT(H:Hp):List (List Key×V)->List (List Key×Addr×Value)->Prop:=Paired fun p q=>p.1=q.1/\H q.2.1=some (.tup (p.1.map kV))/\RelV p.2 q.2.2
def KT.val{H:Hp}{kvs:List (List Key×V)}{xs:List (List Key×Addr×Value)}(r:KT H kvs xs)(k:List Key):tF (pB kvs k) ((atKey xs k).map (·.2)):=by
 induction r with
 |nil=>exact True.intro
 | @cons p q ps qs h t ih=>
   obtain⟨h1,_,h2⟩:=h
   by_cases e:p.1=k
   · have e':q.1=k:=h1.symm.trans e
     have b:atKey (q::qs) k=some q.2:=by simp[atKey,List.find?_cons,e']
     rw[sA e,b];exact h2
   · have e':¬q.1=k:=fun z=>e (h1.trans z)
     have b:atKey (q::qs) k=atKey qs k:=by simp[atKey,List.find?_cons,e']
     rw[s_ e,b];exact ih
def KT.repl{H:Hp}{kvs:List (List Key×V)}{xs:List (List Key×Addr×Value)}(r:KT H kvs xs)(k:List Key){y:V}{u:Value}(ry:RelV y u):
  KT H (kvs.map fun kv=>if kv.1=k then(kv.1,y) else kv) (xs.map (putAt k u)):=by
 induction r with
 |nil=>exact .nil
 | @cons p q ps qs h t ih=>
   rw[QDq,QDq]
   refine .cons ?_ ih
   obtain⟨h1,h2,h3⟩:=h
   unfold putAt
   by_cases e:p.1=k
   · rw[Qhq e,Qhq (h1.symm.trans e)];exact⟨h1,h2,ry⟩
   · rw[Quq e,Quq (fun z=>e (h1.trans z))];exact⟨h1,h2,h3⟩
def KT.put{H:Hp}{kvs:List (List Key×V)}{xs:List (List Key×Addr×Value)}(r:KT H kvs xs)(k:List Key){b:Addr}{y:V}{u:Value}(hb:H b=some (.tup (k.map kV)))(ry:RelV y u):
  KT H (putK kvs k y) (storedH xs k b u):=by
 have e:(kvs.any fun kv=>decide (kv.1=k))=(atKey xs k).isSome:=by
  rw[zW,(r.val k).isSome_eq,Option.isSome_map]
 unfold putK storedH
 rw[e]
 by_cases q:(atKey xs k).isSome=true
 ·rw[Qhq q,Qhq q];exact r.repl k ry
 ·rw[Quq q,Quq q];exact Paired.snoc r ⟨rfl,hb,ry⟩
def KT.keeps{H H':Hp}{kvs:List (List Key×V)}{xs:List (List Key×Addr×Value)}(r:KT H kvs xs)(ht:∀b ys,H b=some (.tup ys)->H' b=some (.tup ys)):KT H' kvs xs:=
 Paired.mapP r fun _ _ z=>⟨z.1,ht _ _ z.2.1,z.2.2⟩
section
variable{P:Program}{w:World}{H:Hp}{h:Heap}{a:Addr}
def Ig{u:HO}(ok:nY P w H h)(e:Rd H a u):du P w H h a u:=e.ok ok
def E2{kvs:List (Key×V)}(ok:nY P w H h)(e:Rd H a (.dK kvs)):kvs.length<=sizeLine/\(a==sysModules)=false/\∃vs,KV kvs vs/\h.DictOf (cq P w) a vs:=
 show du P w H h a (.dK kvs) from Ig ok e
def yG{kvs:List (Key×V)}(ok:nY P w H h)(e:H a=some (.dK kvs)):kvs.length<=sizeLine/\(a==sysModules)=false/\∃vs,KV kvs vs/\h.DictOf (cq P w) a vs:=E2 ok (.inl e)
def AI{ks:List Key}(ok:nY P w H h)(e:H a=some (.tup (ks.map kV))):(tupleKind (cq P w)).is h ks a:=by
 obtain⟨_,its,r,o,h1,h2,_,n,h3⟩:=(show du P w H h a (.tup (ks.map kV)) from ok a _ e)
 exact⟨o,its.toArray,n,h1,h2,h3,by simpa using vf r⟩
def Ei{kvs:List (List Key×V)}(ok:nY P w H h)(e:Rd H a (.dT kvs)):kvs.length<=sizeLine/\(a==sysModules)=false∧
  ∃xs,KT H kvs xs/\h.DictOfH (tupleKind (cq P w)) a xs:=by
 obtain⟨z,y,xs,r,o,es,ep,h1,h2,h3,h4,h5⟩:=(show du P w H h a (.dT kvs) from Ig ok e)
 refine⟨z,y,xs,r,o,es,ep,h1,h2,h3,h4,fun x hx=> ?_,h5⟩
 have all:∀{l:List (List Key×V)} {m:List (List Key×Addr×Value)},KT H l m->∀x∈m,(tupleKind (cq P w)).is h x.1 x.2.1:=by
  intro l m q
  induction q with
  |nil=>intro x hx;exact nomatch hx
  | @cons p q ps qs hq t ih=>
    intro x hx
    rcases Qsq.mp hx with e|hx
    · subst e
      exact AI ok (by rw[←hq.1];exact hq.2.1)
    · exact ih x hx
 exact all r x hx
def KC{kvs:List (List Key×V)}(ok:nY P w H h)(e:H a=some (.dT kvs)):kvs.length<=sizeLine/\(a==sysModules)=false∧
  ∃xs,KT H kvs xs/\h.DictOfH (tupleKind (cq P w)) a xs:=Ei ok (.inl e)
end
def Dy(H:Hp)(a:Addr)(y:V)(r:Option V):Prop:=
 (∃kvs k,Rd H a (.dK kvs)/\y=kV k/\r=pB kvs k)\/∃kvs k b,Rd H a (.dT kvs)/\y=.ref b/\H b=some (.tup (k.map kV))/\r=pB kvs k
def Et(H:Hp)(a:Addr)(y v:V)(H':Hp):Prop:=
 (∃kvs k,H a=some (.dK kvs)/\y=kV k/\kvs.length<sizeLine/\H'=upd H a (.dK (putK kvs k v)))∨
 ∃kvs k b,H a=some (.dT kvs)/\y=.ref b/\H b=some (.tup (k.map kV))/\kvs.length<sizeLine/\H'=upd H a (.dT (putK kvs k v))
def Dy.k{H:Hp}{a:Addr}{kvs:List (Key×V)}{k:Key}(e:H a=some (.dK kvs)):Dy H a (kV k) (pB kvs k):=.inl ⟨kvs,k,.inl e,rfl,rfl⟩
def Et.k{H:Hp}{a:Addr}{kvs:List (Key×V)}{k:Key}{v:V}(e:H a=some (.dK kvs))(hl:kvs.length<sizeLine):Et H a (kV k) v (upd H a (.dK (putK kvs k v))):=.inl ⟨kvs,k,e,rfl,hl,rfl⟩
section
variable{X:Cx}{pins:List (Addr×Obj)}{σ:St}{H:Hp}{s:Shared}{a:Addr}{y v:V}{u r:Value}{o:Option V}{A:Around}{E:Value->Shared->Prop}
def Inv.big(I:Inv X pins σ H s):sysModules<s.heap.objs.size:=by
 have h:mainGlobals<s.heap.objs.size:=(I.mod.glob.keeps I.bk).lt
 exact Nat.lt_trans (by decide) h
def De{Q:Value->Shared->Prop}(hu:A.units+1<cLine)(I:Inv X pins σ H s)(g:Dy H a y (some v))(ry:RelV y u)(h:∀w' s',Inv X pins σ H s'->RelV v w'->Q w' s'):
  wpAny (model X.prog X.w) A (getItem (.ref a) u) Q E s:=by
 rcases g with⟨kvs,k,e,ey,l⟩|⟨kvs,k,b,e,ey,eb,l⟩
 ·subst ey
  obtain⟨z,hd,vs,rel,dd⟩:=E2 I.hok e
  obtain⟨w',hw,rw'⟩:=tF.some_of (v:=v) (o:=valueAt vs k) (by rw[l];exact rel.val k)
  exact wpAny_getItem_of (zQ ry) dd.mapOf hw (h w' _ (I.tok _) rw')
 ·subst ey
  cases (show u=Value.ref b from ry)
  obtain⟨z,hd,xs,rel,dd⟩:=Ei I.hok e
  obtain⟨w',hw,rw'⟩:=tF.some_of (v:=v) (o:=(atKey xs k).map (·.2)) (by rw[l];exact rel.val k)
  obtain⟨p,hp,hp2⟩:=oQm.mp hw
  refine wpAny_getItem_heap (tupleKind_room_in1 hu) (AI I.hok eb) dd hp ?_
  rw[hp2]
  exact h w' _ (I.tok _) rw'
def rX{h':Heap}{t':Nat}{ob:HO}(I:Inv X pins σ H s)(mu:KD (H a))(hs:Heap.SameBut a s.heap h')(he:∃q,h'.get? a=some q)(new:du X.prog X.w (upd H a ob) h' a ob):
  Inv X pins σ (upd H a ob) {s with heap:=h',toks:=t'}:=
 I.write (x:=a) (e:=a) mu (.inl rfl) (fun b q hb z=>(hs.2 b hb).trans z) he new
def uB{P:Program}{w:World}{H':Hp}{h':Heap}{kvs:List (Key×V)}{vs:List (Key×Value)}(z:kvs.length<=sizeLine)(hd:(a==sysModules)=false)(rel:KV kvs vs)(dd:h'.DictOf (cq P w) a vs):
  du P w H' h' a (.dK kvs):=⟨z,hd,vs,rel,dd⟩
def Dl{H':Hp}{Q:Unit->Shared->Prop}(hu:A.units+1<cLine)(I:Inv X pins σ H s)(g:Et H a y v H')(ry:RelV y u)(rv:RelV v r)(h:∀s',Inv X pins σ H' s'->Q () s'):
  wpAny (model X.prog X.w) A (setItem (.ref a) u r) Q E s:=by
 rcases g with⟨kvs,k,e,ey,l,eH⟩|⟨kvs,k,b,e,ey,eb,l,eH⟩
 ·subst ey eH
  obtain⟨z,hd,vs,rel,dd⟩:=yG I.hok e
  have hz:vs.length<=sizeLine:=by rw[←rel.length];exact z
  have hl:(putK kvs k v).length<=sizeLine:=by have:=je kvs k v;omega
  refine wpAny_setItem_pairs (hsz:=hz) (zQ ry) dd fun h' dd' hs=>h _ ?_
  have he:∃q,h'.get? a=some q:=let ⟨q,_,_,hq,_⟩:=dd';⟨q,hq⟩
  exact rX I (by rw[e];exact True.intro) hs he (uB hl hd (rel.put k rv) dd')
 ·subst ey eH
  cases (show u=Value.ref b from ry)
  obtain⟨z,hd,xs,rel,dd⟩:=KC I.hok e
  have hz:xs.length<=sizeLine:=by rw[←Paired.length rel];exact z
  have hl:(putK kvs k v).length<=sizeLine:=by have:=je kvs k v;omega
  refine wpAny_setItem_heap (hsz:=hz) (tupleKind_room_in1 hu) (AI I.hok eb) dd fun h' dd' hs=>h _ ?_
  obtain⟨q,es,ep,hq,h2,h3,h4,_,h5⟩:=dd'
  refine rX I (by rw[e];exact True.intro) hs ⟨q,hq⟩ ⟨hl,hd,_,(rel.put k eb rv).keeps fun c ys ec=> ?_,q,es,ep,hq,h2,h3,h4,h5⟩
  rw[bC (ER ec e (fun z=>nomatch z))]
  exact ec
end
def Gk(i:Expr):Prop:=∀ov iv,subscripted i false ov iv=operate [ov,iv] (getItem ov iv)
def Bv{prog:Program}{w:World}{A:Around}{E:Value->Shared->Prop}{s:Shared}{env:Env}{value slice:Expr}{pos:Pos}{T id:String}{Q:Value->Shared->Prop}
  (hl:typeLookup (.type T) "__getitem__"=pure (some (.builtin id))) (hs:Gk slice)
  (h:wpAny (model prog w) A (eval value env) (fun o s₁=>wpAny (model prog w) A (eval slice env) (fun i s₂=>s₂.TypeIs o T/\wpAny (model prog w) A (getItem o i) Q E s₂) E s₁) E s):
  wpAny (model prog w) A (eval (.Subscript value slice pos) env) Q E s:=by
 refine Subscript_ (QRq h (fun o s₁ h₁=>QRq h₁ (fun i s₂ h₂=> ?_) fun _ _ x=>x) fun _ _ x=>x)
 obtain⟨hT,h₂⟩:=h₂
 unfold subscriptTail
 refine Qaq ?_
 rw[getitemInPython_of_ne hT.not_modules]
 refine Qaq (wpAny_specialOf hT hl ?_)
 have fin:wpAny (model prog w) A (subscripted slice false o i) (fun r s₃=>wpAny (model prog w) A (letTemporaryGo value o r >>= fun _=>pure r) Q E s₃) E s₂:=by
  rw[hs o i]
  exact wpAny_operating (QRq h₂ (fun r s₃ h₃=>Qaq (wpAny_letTemporaryGo (Qgq h₃))) fun _ _ x=>x)
 first
  |exact Qgq (Qaq fin)
  |exact Qaq (Qgq (Qaq fin))
  |exact Qaq fin
def zT{X:Cx}{pins:List (Addr×Obj)}{σ:St}{H:Hp}{s:Shared}{a:Addr}{y:V}{o:Option V}(I:Inv X pins σ H s)(g:Dy H a y o):s.TypeIs (.ref a) "dict":=by
 rcases g with⟨kvs,k,e,_,_⟩|⟨kvs,k,b,e,_,_,_⟩
 ·obtain⟨_,_,vs,_,dd⟩:=E2 I.hok e
  exact dd.typeIs
 ·obtain⟨_,_,xs,_,dd⟩:=Ei I.hok e
  exact dd.typeIs
def KR(td ty:TE):TE:=fun σ H Q=>td σ H fun x H1=>ty σ H1 fun y H2=>∃a v,x=.ref a/\Dy H2 a y (some v)/\Q v H2
def K5(td ty tv:TE):TS:=fun D σ H=>tv σ H fun v H1=>td σ H1 fun x H2=>ty σ H2 fun y H3=>∃a H4,x=.ref a/\Et H3 a y v H4/\D.nx σ H4
section
variable{X:Cx}{o i e value:Expr}{pos pos' tpos:Pos}{td ty tv:TE}
def Hr(hu:X.A.units+1<cLine)(ho:PE X o td)(hi:PE X i ty)(hs:Gk i):PE X (.Subscript o i pos) (KR td ty):=by
 intro pins s σ H Q I h
 refine Bv PySem.F.slot_dict_getitem.lookup hs (dr (ho pins s σ H _ I h) fun u s1 ⟨x,H1,I1,rx,q1⟩=>dr (hi pins s1 σ H1 _ I1 q1) fun iv s2 qr=> ?_)
 obtain⟨y,H2,I2,ry,a,v,ex,g,q2⟩:=qr
 subst ex
 obtain rfl:u=Value.ref a:=rx
 exact⟨zT I2 g,De hu I2 g ry fun w' s3 I3 rw'=>⟨v,H2,I3,rw',q2⟩⟩
def Gh(hu:X.A.units+1<cLine)(ho:PE X o td)(hi:PE X i ty)(hv:PE X value tv)(hs:swapsWith value (some (.Subscript o i pos')) pos.line X.env=pure false):
  PS X (.Assign [.Subscript o i pos'] value pos) (K5 td ty tv):=by
 intro pins s σ H D I h
 refine wpAny_Assign_Subscript (dr (hv pins s σ H _ I h) fun r s1 ⟨v,H1,I1,rv,q1⟩=>dr (ho pins s1 σ H1 _ I1 q1) fun u s2 ⟨x,H2,I2,rx,q2⟩=>dr (hi pins s2 σ H2 _ I2 q2) fun iv s3 ⟨y,H3,I3,ry,a,H4,ex,g,q3⟩=> ?_) hs
 subst ex
 obtain rfl:u=Value.ref a:=rx
 exact Dl hu I3 g ry rv fun s4 I4=>⟨σ,H4,I4,q3⟩
end
def Fe{P:Program}{w:World}{H:Hp}(h:Heap)(hb:sysModules<h.objs.size):du P w H (h.push {cls:=.type "dict",data:=.dict #[]}) h.objs.size (.dK []):=
 ⟨Nat.zero_le _,beq_eq_false_iff_ne.mpr (Ne.symm (Qwq hb)),[],.nil,Heap.DictOf.new h⟩
def Jj:TE:=fun _ H Q=>∀p,H p=none->Q (.ref p) (upd H p (.dK []))
section
variable{X:Cx}{pos:Pos}
def Ey:PE X (.Dict [] [] pos) Jj:=fun pins s σ H Q I h=>
 wpAny_Dict_empty ⟨.ref s.heap.objs.size,_,I.laid (a:=s.heap.objs.size) (o:=.dK []) (t':=s.toks) (fun _ _ q=>Qcq _ q) (Qmq _) (Fe s.heap I.big),rfl,h _ (I.hok.fresh (Qmq _))⟩
end
def jY(kvs more:List (Key×V)):List (Key×V):=more.foldl (fun acc kv=>putK acc kv.1 kv.2) kvs
def KV.merge:∀{more:List (Key×V)} {rs:List (Key×Value)} {kvs:List (Key×V)} {vs:List (Key×Value)},KV more rs->KV kvs vs->KV (jY kvs more) (merged vs rs):=by
 intro more rs kvs vs r
 unfold KV at r
 induction r generalizing kvs vs with
 |nil=>intro q;exact q
 | @cons p q ps qs h t ih=>
   intro r0
   have e:KV (putK kvs p.1 p.2) (stored vs q.1 q.2):=by
     have:=r0.put p.1 h.2
     rw[←h.1];exact this
   exact ih e
theorem jj:∀(more kvs:List (Key×V)),(jY kvs more).length<=kvs.length+more.length
 | [],kvs=>by show kvs.length<=kvs.length+0;omega
 | p::r,kvs=>by
   have h1:=jj r (putK kvs p.1 p.2)
   have h2:=je kvs p.1 p.2
   show(jY (putK kvs p.1 p.2) r).length<=_
   rw[Qnq];omega
end L2
namespace HT
open PySem PyProof.Rows
section
open PySem.SeqAt
open PySem.AutoSeq1 (wpAny_loadPart')
open PySem.MeetsSeq PySem.MeetsSeq2 PySem.MeetsSeq3
end
section
variable{prog:Program}{w:World}{A:Around}{E:Value->Shared->Prop}{s:Shared}
def GP{t b:Addr}{vs ws:List Value}{Q:Value->Shared->Prop}(ht:IsTup s.heap t vs.toArray)(hb:IsTup s.heap b ws.toArray)(hv:vs≠[])
  (h1:ws= []->Q (.ref t) s) (h2:ws≠[]->Q (.ref s.heap.objs.size) {s with heap:=s.heap.push {cls:=.type "tuple",data:=.seq (vs++ws).toArray}})
  (hsz:vs.length+ws.length<=sizeLine):wpAny (model prog w) A (binaryOp .Add (.ref t) (.ref b)) Q E s:=by
 obtain⟨⟨cls,dd,data,sl⟩,ho,hc,n,hd⟩:=id ht
 obtain⟨⟨cls2,dd2,data2,sl2⟩,ho2,hc2,n2,hd2⟩:=id hb
 simp only at hc hd hc2 hd2
 subst hc hd hc2 hd2
 have e:vs.toArray++ws.toArray=(vs++ws).toArray:=by simp
 by_cases hw:ws= []
 ·exact concat_meets ⟨_,ho,rfl⟩ ⟨_,ho2,rfl⟩ noFill_tuple_add seq_tuple_add PySem.F.slot_tuple_add PySem.F.entry_tuple_add (PySem.F.args_tuple_add_2 _ _)
   (tuple_addW1 t b vs.toArray ws.toArray n n2 dd dd2 sl sl2 (by simpa using hv) (by simp[hw])) ⟨ho,ho2,h1 hw⟩
 ·refine concat_meets ⟨_,ho,rfl⟩ ⟨_,ho2,rfl⟩ noFill_tuple_add seq_tuple_add PySem.F.slot_tuple_add PySem.F.entry_tuple_add (PySem.F.args_tuple_add_2 _ _)
   (tuple_addW2 t b vs.toArray ws.toArray n n2 dd dd2 sl sl2 (by simpa using hv) (by simpa using hw) (by rw[Qjq,Qjq];exact hsz)) ⟨ho,ho2,?_⟩
  rw[e]
  exact h2 hw
def fI(n d:Nat):Option Int->Nat
 |none=>d
 |some v=>if v<0 then(v+(n:Int)).toNat else min v.toNat n
def sL(n d:Nat):fI n d none=d:=rfl
def Ct(n d k:Nat):fI n d (some (k:Int))=min k n:=by
 show(if (k:Int)<0 then((k:Int)+(n:Int)).toNat else min (k:Int).toNat n)=min k n
 rw[Quq (by omega),Int.toNat_natCast]
def JP(n d:Nat)(hd:d<=n)(o:Option Int):fI n d o<=n:=by
 cases o with
 |none=>exact hd
 | some v=>
   show(if v<0 then(v+(n:Int)).toNat else min v.toNat n)<=n
   by_cases hv:v<0
   · rw[Qhq hv];omega
   · rw[Quq hv];exact Nat.min_le_right _ _
def Bx(v:Int)(n d:Nat):(if v<0 then max (v+(n:Int)) 0 else min v (n:Int))=((fI n d (some v):Nat):Int):=by
 show(if v<0 then max (v+(n:Int)) 0 else min v (n:Int))=(((if v<0 then(v+(n:Int)).toNat else min v.toNat n):Nat):Int)
 by_cases hv:v<0
 ·simp only[Qhq hv];omega
 ·simp only[Quq hv];omega
def Ba(lo hi:Option Int)(n:Nat):Builtin.Slice.sliceAdjust lo hi 1 (n:Int)=(((fI n 0 lo:Nat):Int),((fI n n hi:Nat):Int)):=by
 have h1:¬((1:Int)<0):=by omega
 unfold Builtin.Slice.sliceAdjust
 simp only[h1,if_false]
 refine Prod.ext ?_ ?_
 ·cases lo with
  |none=>rfl
  |some v=>exact Bx v n 0
 ·cases hi with
  |none=>rfl
  |some v=>exact Bx v n n
def Aj(i j:Nat):Builtin.Slice.slicePlaces (i:Int) (j:Int) 1=j-i:=by
 unfold Builtin.Slice.slicePlaces
 have h1:(1:Int)>0:=by omega
 simp only[h1,if_true,Int.ediv_one]
 split <;>omega
def sk{v:Value}{o:Option Int}{Q:Option Int->Shared->Prop}(p:IsPart v o)(h:Q o s):wpAny (model prog w) A (Builtin.Slice.slicePartIndex v) Q E s:=by
 cases p with
 |none=>exact slicePart_none h
 |int i t=>exact slicePart_int h
def jE{sl:Addr}{vl vu:Value}{lo hi:Option Int}{n:Nat}{Q:Int×Int×Nat->Shared->Prop}(hs:s.heap.IsSliceOf sl vl vu .none)(pl:IsPart vl lo)(pu:IsPart vu hi)
  (h:Q (((fI n 0 lo:Nat):Int),1,fI n n hi-fI n 0 lo) s):wpAny (model prog w) A (Builtin.Slice.sliceApplied (.ref sl) (pure (n:Int))) Q E s:=by
 obtain⟨os,hos,hcs,hds⟩:=id hs
 unfold Builtin.Slice.sliceApplied Builtin.Slice.sliceFields
 refine Qaq (Qaq (QMq hos hds (x:=vl) rfl (Qaq (QMq hos hds (x:=vu) rfl (Qaq (QMq hos hds (x:=.none) rfl (Qgq ?_)))))))
 refine Qaq (slicePart_none ?_)
 show wpAny _ _ (if ((1:Int)==0)=true then _ else _) _ _ s
 rw[Quq (by decide)]
 refine Qaq (sk pl (Qaq (sk pu (Qaq (Qgq ?_)))))
 show wpAny _ _ (match Builtin.Slice.sliceAdjust lo hi 1 (n:Int) with|(lo,hi)=>pure (lo,(1:Int),Builtin.Slice.slicePlaces lo hi 1)) _ _ s
 rw[Ba lo hi n]
 show wpAny _ _ (pure (((fI n 0 lo:Nat):Int),(1:Int),Builtin.Slice.slicePlaces ((fI n 0 lo:Nat):Int) ((fI n n hi:Nat):Int) 1)) _ _ s
 rw[Aj]
 exact Qgq h
def Fc(xs:Array Value)(i k:Nat):((List.range k).filterMap fun(m:Nat)=>xs[((i:Int)+(m:Int)*1).toNat]?).toArray=((xs.toList.drop i).take k).toArray:=by
 have e:(fun(m:Nat)=>xs[((i:Int)+(m:Int)*1).toNat]?)=fun m=>xs[i+m]? :=by
  funext m
  have:((i:Int)+(m:Int)*1).toNat=i+m:=by omega
  rw[this]
 rw[e]
 have:=pick_run xs i k
 rw[List.filterMap_map] at this
 have e2:((fun x=>xs[x]?)∘fun x=>i+x)=fun m=>xs[i+m]? :=rfl
 rw[e2] at this
 rw[this]
def oa{t sl:Addr}{items:Array Value}{vl vu:Value}{lo hi:Option Int}{Q:Value->Shared->Prop}(ht:IsTup s.heap t items)(hs:s.heap.IsSliceOf sl vl vu .none)(pl:IsPart vl lo)(pu:IsPart vu hi)
  (hw:¬(fI items.size 0 lo=0/\fI items.size items.size hi=items.size))
  (h:Q (.ref s.heap.objs.size) {s with heap:=s.heap.push {cls:=.type "tuple",data:=.seq ((items.toList.drop (fI items.size 0 lo)).take (fI items.size items.size hi-fI items.size 0 lo)).toArray}})
  (hsz:items.size<=sizeLine):wpAny (model prog w) A (getItem (.ref t) (.ref sl)) Q E s:=by
 have htake:sizeOk (.seq ((items.toList.drop (fI items.size 0 lo)).take (fI items.size items.size hi-fI items.size 0 lo)).toArray):=by
  show((items.toList.drop (fI items.size 0 lo)).take (fI items.size items.size hi-fI items.size 0 lo)).toArray.size<=sizeLine
  rw[Qjq,Qxq,List.length_drop,Array.length_toList]
  omega
 have hj:fI items.size items.size hi<=items.size:=JP _ _ (Qmq _) hi
 obtain⟨os,hos,hcs,hds⟩:=id hs
 have hTs:s.TypeIs (.ref sl) "slice":=⟨os,hos,hcs⟩
 unfold getItem
 try with_reducible refine QLq ?_
 first|refine Qaq (Qgq ?_)|skip
 refine Qaq (wpAny_sequenceKey ht.typeIs (by decide) ?_)
 refine Qaq (wpAny_callSpecial?_slot (name:=Str.ofString "__getitem__") ht.typeIs PyProof.Rows.slot_tuple_getitem
  (wpAny_call_entry PyProof.Rows.slot_tuple_getitem ht.typeIs entry_tuple_getitem ?_ (args_tuple_getitem _ _)))
 show wpAny _ _ (Builtin.Tuple.tupleItemsOf (.ref t) >>= _) _ _ s
 refine Qaq (tupleItemsOf_ ht ?_)
 refine Qaq (wpAny_typeOf hTs ?_)
 rw[Qhq (by decide)]
 refine Qaq (jE hs pl pu ?_)
 have hno:¬((((fI items.size 0 lo:Nat):Int)==0&&(1:Int)==1&&(fI items.size items.size hi-fI items.size 0 lo)==items.size)=true):=by
  intro q
  rw[QCq,QCq] at q
  have q1:((fI items.size 0 lo:Nat):Int)=0:=eq_of_beq q.1.1
  have q2:fI items.size items.size hi-fI items.size 0 lo=items.size:=eq_of_beq q.2
  exact hw ⟨by omega,by omega⟩
 show wpAny _ _ (if (((fI items.size 0 lo:Nat):Int)==0&&(1:Int)==1&&(fI items.size items.size hi-fI items.size 0 lo)==items.size)=true then _ else _) _ _ s
 rw[Quq hno,Fc]
 first
  |exact Qaq (m:=Builtin.Tuple.tupleExact _) (wpAny_newObj_type (Qgq ⟨_,rfl,Qgq h⟩) htake)
  |exact Qaq (m:=Builtin.Tuple.tupleExact _) (wpAny_newObj_type (Qaq (Qgq (Qgq ⟨_,rfl,Qgq h⟩))) htake)
  |exact Qaq (Qaq (m:=Builtin.Tuple.tupleExact _) (wpAny_newObj_type (Qgq (Qgq ⟨_,rfl,Qgq h⟩)) htake))
  |exact Qaq (Qaq (m:=Builtin.Tuple.tupleExact _) (wpAny_newObj_type (Qgq ⟨_,rfl,Qgq h⟩) htake))
end
end HT
namespace L2
open PySem PySem.Spec PyProof.Rows
abbrev TO:=St->Hp->(Option Int->Hp->Prop)->Prop
def PO(X:Cx)(e:Option Expr)(t:TO):Prop:=
 ∀ (pins:List (Addr×Obj)) (s:Shared) (σ:St) (H:Hp) (Q:Option Int->Hp->Prop),Inv X pins σ H s->t σ H Q→
   wpAny (model X.prog X.w) X.A (evalPart e X.env) (fun u s'=>∃o H',Inv X pins σ H' s'/\IsPart u o/\Q o H') X.xe s
def Hj:TO:=fun _ H Q=>Q none H
def Ks(t:TE):TO:=fun σ H Q=>t σ H fun x H1=>∃i,x=.int i/\Q (some i) H1
section
variable{X:Cx}{e:Expr}{te:TE}{lo hi:Option Expr}{tl th:TO}{pos p2:Pos}
def G8:PO X none Hj:=by
 intro pins s σ H Q I h
 rw[evalPart_none]
 exact Qgq ⟨none,H,I,.none,h⟩
def Hz(h:PE X e te):PO X (some e) (Ks te):=by
 intro pins s σ H Q I hw
 rw[evalPart_some]
 refine dr (h pins s σ H _ I hw) fun u s1 qr=> ?_
 obtain⟨x,H1,I1,r1,q1⟩:=qr
 obtain⟨i,rfl,q⟩:=q1
 obtain⟨t,rfl⟩:=r1
 exact⟨some i,H1,I1,.int i t,q⟩
def MB(X:Cx)(r:V->Option Int->Option Int->Hp->VK->Prop):Prop:=
 ∀ (pins:List (Addr×Obj)) (s:Shared) (σ:St) (H:Hp) (x:V) (v vl vu:Value) (lo hi:Option Int) (sl:Addr) (Q:VK),Inv X pins σ H s->RelV x v->s.heap.IsSliceOf sl vl vu .none->IsPart vl lo->IsPart vu hi->r x lo hi H Q→
   ∃T id,typeLookup (.type T) "__getitem__"=pure (some (.builtin id))/\s.TypeIs v T/\wpAny (model X.prog X.w) X.A (getItem v (.ref sl)) (EP X pins σ Q) X.xe s
def Nd(r:V->Option Int->Option Int->Hp->VK->Prop)(te:TE)(tl th:TO):TE:=fun σ H Q=>te σ H fun x H1=>tl σ H1 fun l H2=>th σ H2 fun u H3=>r x l u H3 Q
def EA{r:V->Option Int->Option Int->Hp->VK->Prop}(hr:MB X r)(he:PE X e te)(hl:PO X lo tl)(hu:PO X hi th):PE X (.Subscript e (.Slice lo hi none p2) pos) (Nd r te tl th):=by
 intro pins s σ H Q I h
 refine Subscript_ (dr (he pins s σ H _ I h) fun v s1 qr=> ?_)
 obtain⟨x,H1,I1,r1,q1⟩:=qr
 refine wpAny_Slice (dr (hl pins s1 σ H1 _ I1 q1) fun vl s2 ⟨l,H2,I2,pl,q2⟩=>dr (hu pins s2 σ H2 _ I2 q2) fun vu s3 qr=> ?_)
 obtain⟨u,H3,I3,pu,q3⟩:=qr
 rw[evalPart_none]
 refine Qgq ?_
 have I4:Inv X pins σ H3 {s3 with heap:=s3.heap.push {cls:=.type "slice",data:=.fields #[vl,vu,.none]}}:=I3.kept (t':=s3.toks) fun b ob q=>Qcq _ q
 obtain⟨T,id,hT,ht,hg⟩:=hr pins {s3 with heap:=s3.heap.push {cls:=.type "slice",data:=.fields #[vl,vu,.none]}} σ H3 x v vl vu l u s3.heap.objs.size Q I4 r1 (Heap.IsSliceOf.new ..) pl pu q3
 show wpAny (model X.prog X.w) X.A (subscriptTail e (.Slice lo hi none p2) v (.ref s3.heap.objs.size)) (EP X pins σ Q) X.xe {s3 with heap:=s3.heap.push {cls:=.type "slice",data:=.fields #[vl,vu,.none]}}
 exact tail_any (ops:= [.ref s3.heap.objs.size,v]) ht hT hg (by with_unfolding_all rfl)
def A9(xs:List V)(lo hi:Option Int):List V:=(xs.drop (HT.fI xs.length 0 lo)).take (HT.fI xs.length xs.length hi-HT.fI xs.length 0 lo)
def yy(xs:List V)(lo hi:Option Int):(A9 xs lo hi).length<=xs.length:=by
 unfold A9
 rw[Qxq,List.length_drop]
 omega
def MJ(K:PySem.W.Frag):V->Option Int->Option Int->Hp->VK->Prop:=fun x lo hi H Q=>∃a xs,x=.ref a/\iW K H a xs∧
 ¬(HT.fI xs.length 0 lo=0/\HT.fI xs.length xs.length hi=xs.length)/\∀p,H p=none->Q (.ref p) (upd H p (.tup (A9 xs lo hi)))
def Ka:MB X (MJ X.K):=by
 intro pins s σ H x v vl vu lo hi sl Q I rx hs pl pu h
 obtain⟨a,xs,rfl,hx,hw,q⟩:=h
 cases rx
 obtain⟨its,r,ht,hz⟩:=I.tuple hx
 have hlen:its.toArray.size=xs.length:=by rw[Qjq];exact r.length.symm
 refine⟨"tuple",_,PyProof.Rows.slot_tuple_getitem.lookup,ht.typeIs,?_⟩
 refine HT.oa ht hs pl pu (by rw[hlen];exact hw) ?_ (by rw[hlen];exact hz)
 rw[hlen]
 refine⟨.ref s.heap.objs.size,_,I.laid (t':=s.toks) (o:=.tup (A9 xs lo hi)) (fun b ob q=>Qcq _ q) (Qmq _) ?_,rfl,q _ (I.hok.fresh (Qmq _))⟩
 exact⟨QAq (yy xs lo hi) hz,_,(r.drop (HT.fI xs.length 0 lo)).take (HT.fI xs.length xs.length hi-HT.fI xs.length 0 lo),y2.new _ _⟩
def HJ(K:PySem.W.Frag):R2:=fun x y H Q=>∃a b xs ys,x=.ref a/\y=.ref b/\iW K H a xs/\iW K H b ys/\xs≠[]/\xs.length+ys.length<=sizeLine∧
 (ys= []->Q (.ref a) H)/\(ys≠[]->∀p,H p=none->Q (.ref p) (upd H p (.tup (xs++ys))))
def bS.nil_iff{xs:List V}{us:List Value}(r:bS xs us):us= []↔xs= []:=by
 cases r with
 |nil=>simp
 |cons _ _=>simp
def HE:j0 X (binaryOp .Add) (HJ X.K):=by
 intro pins s σ H x y v u Q I rx ry h
 obtain⟨a,b,xs,ys,rfl,rfl,ha,hb,hx,hz,q1,q2⟩:=h
 cases rx
 cases ry
 obtain⟨its,r1,p1,_⟩:=I.tuple ha
 obtain⟨its2,r2,p2,_⟩:=I.tuple hb
 refine HT.GP p1 p2 (fun z=>hx (r1.nil_iff.mp z)) (fun z=>⟨.ref a,H,I,rfl,q1 (r2.nil_iff.mp z)⟩) (fun z=> ?_) (by rw[←r1.length,←r2.length];exact hz)
 refine⟨.ref s.heap.objs.size,_,I.laid (t':=s.toks) (o:=.tup (xs++ys)) (fun b ob q=>Qcq _ q) (Qmq _) ?_,rfl,q2 (fun w=>z (r2.nil_iff.mpr w)) _ (I.hok.fresh (Qmq _))⟩
 exact⟨by rw[lQa];exact hz,_,r1.append r2,y2.new _ _⟩
end
def CD(n:Nat)(i:Int):Option Nat:=if 0<=i then(if i<n then some i.toNat else none) else if -(n:Int)<=i then some (i+n).toNat else none
def kL{α:Type}(xs:List α)(i:Int):Option α:=(CD xs.length i).bind fun j=>xs[j]?
def wg{n:Nat}{i:Int}{j:Nat}(h:CD n i=some j):seqIndex? i n=some j/\j<n/\ -(n:Int)<=i/\i<n:=by
 unfold CD at h
 by_cases h0:0<=i
 ·rw[Qhq h0] at h
  by_cases h1:i<n
  ·rw[Qhq h1] at h
   have e:i.toNat=j:=Option.some.inj h
   exact⟨by rw[seqIndex_of h0 h1,e],by omega,by omega,h1⟩
  ·rw[Quq h1] at h;cases h
 ·rw[Quq h0] at h
  by_cases h1: -(n:Int)<=i
  ·rw[Qhq h1] at h
   have e:(i+n).toNat=j:=Option.some.inj h
   exact⟨by rw[seqIndex_neg (by omega) h1,e],by omega,h1,by omega⟩
  ·rw[Quq h1] at h;cases h
def xQ{α:Type}{xs:List α}{i:Int}{v:α}(h:kL xs i=some v):∃j,seqIndex? i xs.length=some j/\xs[j]?=some v/\j<xs.length/\ -(xs.length:Int)<=i/\i<xs.length:=by
 unfold kL at h
 cases e:CD xs.length i with
 |none=>rw[e] at h;cases h
 | some j=>
   rw[e] at h
   obtain⟨h1,h2,h3,h4⟩:=wg e
   exact⟨j,h1,h,h2,h3,h4⟩
def BQ(b:Expr):Prop:=∀o i,subscripted b false o i=operate [o,i] (getItem o i)
def Gr(X:Cx)(r:R2):Prop:=
 ∀ (value slice:Expr) (pins:List (Addr×Obj)) (s:Shared) (σ:St) (H:Hp) (x y:V) (v u:Value) (Q:VK),Inv X pins σ H s->RelV x v->RelV y u->r x y H Q→
   subscripted slice false v u=operate [v,u] (getItem v u)->wpAny (model X.prog X.w) X.A (subscriptTail value slice v u) (EP X pins σ Q) X.xe s
def Mr(X:Cx)(id:String)(r:V->List V->Hp->VK->Prop):Prop:=
 ∀ (pins:List (Addr×Obj)) (s:Shared) (σ:St) (H:Hp) (x:V) (xs:List V) (v:Value) (us:List Value) (Q:VK),Inv X pins σ H s->RelV x v->bS xs us->r x xs H Q→
   wpAny (model X.prog X.w) X.A (call (.builtin id) (v::us)) (EP X pins σ Q) X.xe s
section
variable{X:Cx}{a b:Expr}{ta tb:TE}{pos:Pos}
def Gr.or{r r':R2}(h:Gr X r)(h':Gr X r'):Gr X (fun x y H Q=>r x y H Q\/r' x y H Q):=by
 intro value slice pins s σ H x y v u Q I rx ry q hs
 rcases q with q|q
 ·exact h value slice pins s σ H x y v u Q I rx ry q hs
 ·exact h' value slice pins s σ H x y v u Q I rx ry q hs
def KW{r:R2}(hr:Gr X r)(ha:PE X a ta)(hb:PE X b tb)(hs:BQ b):PE X (.Subscript a b pos) (F_ r ta tb):=by
 intro pins s σ H Q I h
 exact Subscript_ (IE ha hb I h fun v u s2 x y H2 I2 rx ry q=>hr a b pins s2 σ H2 x y v u Q I2 rx ry q (hs _ _))
def K2(K:PySem.W.Frag):R2:=fun x y H Q=>∃p xs i v,x=.ref p/\y=.int i/\ik K H p xs/\kL xs i=some v/\Q v H
def Lv(K:PySem.W.Frag):R2:=fun x y H Q=>∃p xs i v,x=.ref p/\y=.int i/\iW K H p xs/\kL xs i=some v/\Q v H
def Lj:R2:=fun x y H Q=>∃z i c,x=.str z/\y=.int i/\z.length<=sizeLine/\kL z.cps.toList i=some c/\Q (.str ⟨#[c]⟩) H
def GX:Gr X (K2 X.K):=by
 intro value slice pins s σ H x y v u Q I rx ry h hs
 obtain⟨p,xs,i,z,rfl,rfl,hq,he,q⟩:=h
 cases rx
 obtain⟨t,rfl⟩:=ry
 obtain⟨its,r,pl,hz⟩:=I.list hq
 obtain⟨j,h1,h2,h3,h4,h5⟩:=xQ he
 obtain⟨w,ew,rw'⟩:=r.get h2
 have hl:=r.length
 have hn:=lX
 have fin:EP X pins σ Q w s:=⟨z,H,I,rw',q⟩
 by_cases h0:0<=i
 ·have hj:i.toNat=j:=by
   rw[seqIndex_of h0 h5] at h1
   exact Option.some.inj h1
  exact item_listR pl.isList h0 (by omega) (by rw[hj];simpa using ew) fin hs
 ·have hj:(i+(its.toArray.size:Int)).toNat=j:=by
   rw[seqIndex_neg (by omega) h4] at h1
   rw[Qjq,←hl]
   exact Option.some.inj h1
  exact subscriptTail_builtinR (x:=w) pl.isList.typeIs slot_list_getitem.lookup
   (wpAny_getItem_list_neg (Q:=fun r s'=>r=w/\EP X pins σ Q r s') pl.isList (by omega) (by rw[Qjq] <;>omega) (by omega) (by rw[hj];simpa using ew) ⟨rfl,fin⟩) hs
def Ju:Gr X (Lv X.K):=by
 intro value slice pins s σ H x y v u Q I rx ry h hs
 obtain⟨p,xs,i,z,rfl,rfl,hq,he,q⟩:=h
 cases rx
 obtain⟨t,rfl⟩:=ry
 obtain⟨its,r,pl,hz⟩:=I.tuple hq
 obtain⟨j,h1,h2,h3,h4,h5⟩:=xQ he
 obtain⟨w,ew,rw'⟩:=r.get h2
 have hl:=r.length
 have hn:=lX
 have fin:EP X pins σ Q w s:=⟨z,H,I,rw',q⟩
 exact subscriptTail_builtinR (x:=w) pl.typeIs slot_tuple_getitem.lookup
  (getItem_tuple (j:=j) (Q:=fun r s'=>r=w/\EP X pins σ Q r s') pl (by omega) (by omega) (by rw[Qjq,←hl];exact h1) (by simpa using ew) ⟨rfl,fin⟩) hs
def J2:Gr X Lj:=by
 intro value slice pins s σ H x y v u Q I rx ry h hs
 obtain⟨z,i,c,rfl,rfl,hz,he,q⟩:=h
 obtain⟨t,rfl⟩:=rx
 obtain⟨t',rfl⟩:=ry
 obtain⟨j,h1,h2,h3,h4,h5⟩:=xQ he
 have hl:z.cps.toList.length=z.length:=by simp[Str.length]
 rw[hl] at h1 h4 h5
 have hn:=lX
 exact tail_any (typeIs_str s z t) slot_str_getitem.lookup (getItem_str (c:=c) (by
  have e1:decide (i< -(2^63:Int))=false:=Qdq (by omega)
  have e2:decide (i>=2^63)=false:=Qdq (by omega)
  rw[e1,e2,Bool.or_false]) (by rw[h1];simpa using h2) ⟨.str ⟨#[c]⟩,H,I.tok _,⟨_,rfl⟩,q⟩) hs
def MX(K:PySem.W.Frag):R2:=fun x y H Q=>K2 K x y H Q\/Lv K x y H Q\/Lj x y H Q
def Jv:Gr X (MX X.K):=GX.or (Ju.or J2)
def AS(its:List Value)(n j:Nat)(u:Value):Obj.mapSeq (·.setIfInBounds j u) {cls:=.type "list",data:=.seq its.toArray n}={cls:=.type "list",data:=.seq (its.set j u).toArray n}:=by
 simp[Obj.mapSeq]
def Inv.lst{pins:List (Addr×Obj)}{σ:St}{H:Hp}{s:Shared}{p:Addr}{xs:List V}(I:Inv X pins σ H s)(h:H p=some (.lst xs)):
  ∃(its:List Value) (n:Nat),bS xs its/\s.heap.get? p=some {cls:=.type "list",data:=.seq its.toArray n}/\xs.length<=sizeLine:=by
 obtain⟨z,its,n,r,e⟩:=I.hok p _ h
 exact⟨its,n,r,e,z⟩
def Inv.lstUpd{pins:List (Addr×Obj)}{σ:St}{H:Hp}{s:Shared}{p:Addr}{xs ys:List V}{its its':List Value}{n n':Nat}{f:Obj->Obj}(I:Inv X pins σ H s)(h:H p=some (.lst xs))
  (ho:s.heap.get? p=some {cls:=.type "list",data:=.seq its.toArray n}) (hf:f {cls:=.type "list",data:=.seq its.toArray n}={cls:=.type "list",data:=.seq its'.toArray n'}) (r:bS ys its') (hz:ys.length<=sizeLine) (t:Nat):
  Inv X pins σ (upd H p (.lst ys)) {s with heap:=s.heap.update p f,toks:=t}:=by
 have e:(s.heap.update p f).get? p=some {cls:=.type "list",data:=.seq its'.toArray n'}:=by
  rw[Heap.get?_update_self f ho (by rw[hf] <;>rfl),hf]
 refine I.write (x:=p) (e:=p) (by rw[h];trivial) (.inl rfl) (fun b u hb q=>(Heap.get?_update_other _ _ (Ne.symm hb)).trans q) ⟨_,e⟩ ?_
 exact⟨hz,its',n',r,e⟩
def HY:V->V->V->Hp->(Hp->Prop)->Prop:=fun o i v H Q=>∃p xs k j,o=.ref p/\i=.int k/\H p=some (.lst xs)/\CD xs.length k=some j/\Q (upd H p (.lst (xs.set j v)))
def set_list:J5 X HY:=by
 intro pins s σ H o i v ov iv u Q I ro ri rv h
 obtain⟨p,xs,k,j,rfl,rfl,hp,hj,q⟩:=h
 cases ro
 obtain⟨t,rfl⟩:=ri
 obtain⟨its,n,r,ho,hz⟩:=I.lst hp
 obtain⟨h1,h2,h3,h4⟩:=wg hj
 have hl:=r.length
 have hn:=lX
 have I':Inv X pins σ (upd H p (.lst (xs.set j v))) {s with heap:=s.heap.update p (Obj.mapSeq (·.setIfInBounds j u))}:=
  I.lstUpd hp ho (AS its n j u) (r.set rv j) (by rw[List.length_set];exact hz) s.toks
 by_cases h0:0<=k
 ·have hk:k.toNat=j:=by
   rw[seqIndex_of h0 h4] at h1
   exact Option.some.inj h1
  exact PySem.W.ki_setAt ho h0 (by omega) (by rw[Qjq,←hl];exact h4) (by rw[hk];exact⟨_,I',q⟩)
 ·have hk:(k+(its.toArray.size:Int)).toNat=j:=by
   rw[seqIndex_neg (by omega) h3] at h1
   rw[Qjq,←hl]
   exact Option.some.inj h1
  exact PySem.W.ki_setBack ho (by omega) (by rw[Qjq,←hl];exact h3) (by omega) (by rw[hk];exact⟨_,I',q⟩)
def ia:V->Bool
 |.non=>true
 |.bl _=>true
 |.int _=>true
 |.str _=>true
 |_=>false
def rP:V->V->Bool
 |.non,.non=>true
 |.bl a,.bl b=>a==b
 |.bl a,.int b=>(if a then 1 else 0)==b
 |.int a,.bl b=>a==(if b then 1 else 0)
 |.int a,.int b=>a==b
 |.str a,.str b=>a==b
 |_,_=>false
def D2{A:Around}{s:Shared}{y x:V}{u v:Value}(ry:RelV y u)(rx:RelV x v)(fy:ia y=true)(fx:ia x=true):SeqAt.EqAt A s u v (rP y x):=by
 cases y with
 | non=>
   cases ry
   cases x with
   |non=>cases rx;exact SeqAt.EqAt.same _
   |bl b=>cases rx;exact SeqAt.EqAt.none_bool b
   |int b=>obtain⟨t,rfl⟩:=rx;exact SeqAt.EqAt.none_int b t
   |str b=>obtain⟨t,rfl⟩:=rx;exact SeqAt.EqAt.none_str b t
   |_=>exact absurd (show false=true from fx) Qtq
 | bl a=>
   cases ry
   cases x with
   |non=>cases rx;exact SeqAt.EqAt.bool_none a
   |bl b=>cases rx;exact SeqAt.EqAt.bool_bool a b
   |int b=>obtain⟨t,rfl⟩:=rx;exact SeqAt.EqAt.bool_int a b t
   |str b=>obtain⟨t,rfl⟩:=rx;exact SeqAt.EqAt.bool_str a b t
   |_=>exact absurd (show false=true from fx) Qtq
 | int a=>
   obtain⟨t',rfl⟩:=ry
   cases x with
   |non=>cases rx;exact SeqAt.EqAt.int_none a t'
   |bl b=>cases rx;exact SeqAt.EqAt.int_bool a t' b
   |int b=>obtain⟨t,rfl⟩:=rx;exact SeqAt.EqAt.int_int a t' b t
   |str b=>obtain⟨t,rfl⟩:=rx;exact SeqAt.EqAt.int_str a t' b t
   |_=>exact absurd (show false=true from fx) Qtq
 | str a=>
   obtain⟨t',rfl⟩:=ry
   cases x with
   |non=>cases rx;exact SeqAt.EqAt.str_none a t'
   |bl b=>cases rx;exact SeqAt.EqAt.str_bool a t' b
   |int b=>obtain⟨t,rfl⟩:=rx;exact SeqAt.EqAt.str_int a t' b t
   |str b=>obtain⟨t,rfl⟩:=rx;exact SeqAt.EqAt.str_str a t' b t
   |_=>exact absurd (show false=true from fx) Qtq
 |_=>exact absurd (show false=true from fy) Qtq
def Aa(x:V)(u:Value):Bool:=match u with
 |.none=>rP .non x
 |.bool b=>rP (.bl b) x
 |.int i _=>rP (.int i) x
 |.str z _=>rP (.str z) x
 |_=>false
def wG{x y:V}{u:Value}(r:RelV y u)(f:ia y=true):Aa x u=rP y x:=by
 cases y with
 |non=>cases r;rfl
 |bl b=>cases r;rfl
 |int i=>obtain⟨t,rfl⟩:=r;rfl
 |str z=>obtain⟨t,rfl⟩:=r;rfl
 |_=>exact absurd (show false=true from f) Qtq
theorem oF{x:V}:∀{xs:List V} {us:List Value},bS xs us->xs.all ia=true->us.any (Aa x)=xs.any fun y=>rP y x
 |_,_,.nil,_=>rfl
 | y::xs,u::us,.cons r t,f=>by
   rw[List.all_cons,QCq] at f
   rw[List.any_cons,List.any_cons,wG r f.1,oF t f.2]
theorem jy{A:Around}{s:Shared}{x:V}{v:Value}(rx:RelV x v)(fx:ia x=true):∀{xs:List V} {us:List Value},bS xs us->xs.all ia=true->∀u∈us,SeqAt.EqAt A s u v (Aa x u)
 |_,_,.nil,_=>fun u hu=>by cases hu
 | y::xs,u::us,.cons r t,f=>fun u' hu=>by
   rw[List.all_cons,QCq] at f
   rcases Qsq.mp hu with rfl|hu
   · rw[wG r f.1];exact D2 r rx f.1 fx
   · exact jy rx fx t f.2 u' hu
def Ej(x:V)(xs:List V):Bool:=xs.any fun y=>rP y x
def Mj(K:PySem.W.Frag)(neg:Bool):R2:=fun x y H Q=>∃p xs,y=.ref p/\(ik K H p xs\/iW K H p xs)/\ia x=true/\xs.all ia=true/\Q (.bl (if neg then !Ej x xs else Ej x xs)) H
def CO:j0 X (compareOp .In) (Mj X.K false):=by
 intro pins s σ H x y v u Q I rx ry h
 obtain⟨p,xs,rfl,hq,fx,fs,q⟩:=h
 cases ry
 rcases hq with hq|hq
 ·obtain⟨its,r,pl,hz⟩:=I.list hq
  refine SeqAt.in_listAt (Aa x) pl.isList (fun w hw=>jy rx fx r fs w (by simpa using hw)) ⟨.bl _,H,I,rfl,?_⟩
  rw[show its.toArray.any (Aa x)=its.any (Aa x) by simp,oF r fs]
  exact q
 ·obtain⟨its,r,pl,hz⟩:=I.tuple hq
  refine SeqAt.in_tupleAt (Aa x) pl (fun w hw=>jy rx fx r fs w (by simpa using hw)) ⟨.bl _,H,I,rfl,?_⟩
  rw[show its.toArray.any (Aa x)=its.any (Aa x) by simp,oF r fs]
  exact q
def x9:j0 X (compareOp .NotIn) (Mj X.K true):=by
 intro pins s σ H x y v u Q I rx ry h
 obtain⟨p,xs,rfl,hq,fx,fs,q⟩:=h
 cases ry
 rcases hq with hq|hq
 ·obtain⟨its,r,pl,hz⟩:=I.list hq
  refine SeqAt.notIn_listAt (Aa x) pl.isList (fun w hw=>jy rx fx r fs w (by simpa using hw)) ⟨.bl _,H,I,rfl,?_⟩
  rw[show its.toArray.any (Aa x)=its.any (Aa x) by simp,oF r fs]
  exact q
 ·obtain⟨its,r,pl,hz⟩:=I.tuple hq
  refine SeqAt.notIn_tupleAt (Aa x) pl (fun w hw=>jy rx fx r fs w (by simpa using hw)) ⟨.bl _,H,I,rfl,?_⟩
  rw[show its.toArray.any (Aa x)=its.any (Aa x) by simp,oF r fs]
  exact q
def xR:jS X (.builtin "len") (fun xs H Q=>∃p ys,xs= [.ref p]/\(ik X.K H p ys\/iW X.K H p ys)/\Q (.int ys.length) H):=by
 intro pins s σ H xs us Q I r h
 obtain⟨p,ys,rfl,hq,q⟩:=h
 obtain⟨u,rfl,rx⟩:=vals1 r
 cases rx
 have hn:=lX
 rcases hq with hq|hq
 ·obtain⟨its,r',pl,hz⟩:=I.list hq
  have hlen:=r'.length
  exact Calls.call_len_list pl.isList (by simp only[Qjq] <;>omega) ⟨.int ys.length,H,I.tok _,⟨s.toks+1,by rw[Qjq,hlen]⟩,q⟩
 ·obtain⟨its,r',pl,hz⟩:=I.tuple hq
  have hlen:=r'.length
  exact len_tuple pl (by simp only[Qjq] <;>omega) ⟨.int ys.length,H,I.tok _,⟨s.toks+1,by rw[Qjq,hlen]⟩,q⟩
def w4:jS X (.type "list") (fun xs H Q=>∃p ys,xs= [.ref p]/\(ik X.K H p ys\/iW X.K H p ys)/\∀l,H l=none->Q (.ref l) (upd H l (.lst ys))):=by
 intro pins s σ H xs us Q I r h
 obtain⟨p,ys,rfl,hq,q⟩:=h
 obtain⟨u,rfl,rx⟩:=vals1 r
 cases rx
 have fin:∀(its:List Value),bS ys its->ys.length<=sizeLine->∀(h':Heap) (c':Nat),(∀b o',s.heap.get? b=some o'->h'.get? b=some o')→
   h'.get? s.heap.objs.size=some {cls:=.type "list",dict:=none,data:=.seq its.toArray c',slots:= #[]}->EP X pins σ Q (.ref s.heap.objs.size) {s with heap:=h'}:=fun its r' hz h' c' kp e=>
  ⟨.ref s.heap.objs.size,_,I.laid (t':=s.toks) kp (Qmq _) (show du X.prog X.w _ h' _ (.lst ys) from⟨hz,its,c',r',e⟩),rfl,q _ (I.hok.fresh (Qmq _))⟩
 rcases hq with hq|hq
 ·obtain⟨its,r',pl,hz⟩:=I.list hq
  have hlen:=r'.length
  obtain⟨o,ho,hc,n,hd⟩:=pl.isList
  exact call_list_seq p (.inl rfl) ho hc hd (fun h' c' kp e=>fin its r' hz h' c' kp e) (by simp only[Qjq] <;>omega)
 ·obtain⟨its,r',pl,hz⟩:=I.tuple hq
  have hlen:=r'.length
  obtain⟨o,ho,hc,n,hd⟩:=pl
  exact call_list_seq p (.inr rfl) ho hc hd (fun h' c' kp e=>fin its r' hz h' c' kp e) (by simp only[Qjq] <;>omega)
def uW:jS X (.type "tuple") (fun xs H Q=>∃p ys,xs= [.ref p]/\((ik X.K H p ys/\∀l,H l=none->Q (.ref l) (upd H l (.tup ys)))\/(iW X.K H p ys/\Q (.ref p) H))):=by
 intro pins s σ H xs us Q I r h
 obtain⟨p,ys,rfl,h⟩:=h
 obtain⟨u,rfl,rx⟩:=vals1 r
 cases rx
 rcases h with⟨hq,q⟩|⟨hq,q⟩
 ·obtain⟨its,r',pl,hz⟩:=I.list hq
  have hlen:=r'.length
  refine call_tuple_list pl.isList (fun h' kp=> ?_) (by simp only[Qjq] <;>omega)
  have I1:Inv X pins σ H {s with heap:=h'}:=I.kept (t':=s.toks) kp
  have I2:Inv X pins σ (upd H h'.objs.size (.tup ys)) {s with heap:=h'.push {cls:=.type "tuple",data:=.seq its.toArray}}:=
   I1.laid (t':=s.toks) (fun b o e=>Qcq _ e) (Qmq _) (show du X.prog X.w _ _ _ (.tup ys) from⟨hz,its,r',y2.new _ _⟩)
  exact⟨.ref h'.objs.size,_,I2,rfl,q _ (I1.hok.fresh (Qmq _))⟩
 ·obtain⟨its,r',pl,hz⟩:=I.tuple hq
  exact call_tuple_same pl ⟨.ref p,H,I,rfl,q⟩
def M1(K:PySem.W.Frag)(T:String)(x:V)(H:Hp):Prop:=match x with
 |.str _=>T="str"
 |.int _=>T="int"
 |.ref p=>(T="list" /\∃xs,ik K H p xs)\/(T="tuple" /\∃o,K.lookup p=some o/\o.cls=.type "tuple" /\o.dict=none)∨
   (T="dict" /\((∃kvs,H p=some (.dK kvs))\/∃kvs,H p=some (.dT kvs)))\/(T="set" /\∃S n,H p=some (.set S n))
 |_=>False
def Ji{pins:List (Addr×Obj)}{σ:St}{H:Hp}{s:Shared}{T:String}{x:V}{v:Value}(I:Inv X pins σ H s)(r:RelV x v)(ty:M1 X.K T x H):
  s.TypeIs v T/\∀a,v=.ref a->∃ob,s.heap.get? a=some ob/\ob.dict=none:=by
 cases x with
 | str z=>
   obtain⟨t,rfl⟩:=r
   cases (show T="str" from ty)
   exact⟨typeIs_str s z t,fun _ e=>nomatch e⟩
 | int i=>
   obtain⟨t,rfl⟩:=r
   cases (show T="int" from ty)
   exact⟨typeIs_int s i t,fun _ e=>nomatch e⟩
 | ref p=>
   cases r
   rcases ty with⟨rfl,xs,hq⟩|⟨rfl,o,hk,hc,hd⟩|⟨rfl,hk⟩|⟨rfl,S,n,hk⟩
   · obtain⟨its,_,pl,_⟩:=I.list hq
     refine⟨pl.isList.typeIs,fun a e=> ?_⟩
     cases e
     obtain⟨o,n,e,c,hd,_⟩:=pl
     exact⟨o,e,hd⟩
   · refine⟨⟨o,I.kIn p o hk,hc⟩,fun a e=> ?_⟩
     cases e
     exact⟨o,I.kIn _ o hk,hd⟩
   · have z:∃o,s.heap.get? p=some o/\o.ExactDict:=by
       rcases hk with⟨kvs,hk⟩|⟨kvs,hk⟩
       · obtain⟨_,_,_,_,o,_,_,e,ex,_⟩:=I.hok p _ hk
         exact⟨o,e,ex⟩
       · obtain⟨_,_,_,_,o,_,_,e,ex,_⟩:=I.hok p _ hk
         exact⟨o,e,ex⟩
     obtain⟨o,e,ex⟩:=z
     refine⟨⟨o,e,ex.1⟩,fun a e2=> ?_⟩
     cases e2
     exact⟨o,e,ex.2.1⟩
   · obtain⟨o,_,_,_,e,ex,_⟩:=I.hok p _ hk
     refine⟨⟨o,e,ex.1⟩,fun a e2=> ?_⟩
     cases e2
     exact⟨o,e,ex.2.1⟩
 |_=>exact False.elim ty
def Mb(K:PySem.W.Frag)(T:String)(r:V->List V->Hp->VK->Prop)(to:TE)(t:TA):TE:=fun σ H Q=>to σ H fun x H1=>M1 K T x H1/\t σ H1 fun xs H2=>r x xs H2 Q
variable{o e:Expr}{es:List Expr}{to:TE}{t:TA}{name:Str}{apos cpos:Pos}{T id:String}{r:V->List V->Hp->VK->Prop}
def v9(pa:PlainAttrs T)(slot:Slot T name id)(hty:typeOf (.builtin id)=pure (.type "method_descriptor"))(hm:Mr X id r)(ho:PE X o to)(ha:PA X (e::es) t)
  (hbase:attributeBase o name X.env (eval o X.env)=eval o X.env:=by rfl)
  (hfew:((backTo cpos (starEach (e::es) X.env)).all (fun x=> !x.1)&&(backToKw cpos (keywordEach [] X.env)).all (fun x=>x.1.isSome)
   &&decide ((e::es).length+([]:List Keyword).length+(if ([]:List Keyword).isEmpty then 0 else 1)<30))=true:=by rfl)
  (hline:(apos.endLine==cpos.line)=true:=by rfl) (hs:starEach (e::es) X.env=(false,eval e X.env)::starEach es X.env:=by rfl) (hplain:(backTo cpos (starEach es X.env)).any (·.1)=false:=by rfl):
  PE X (.Call (.Attribute o name apos) (e::es) [] cpos) (Mb X.K T r to t):=by
 intro pins s σ H Q I h
 refine wpAny_Call_method_late hbase hfew hline rfl (dr (ho pins s σ H _ I h) fun v s1 qr=> ?_)
 obtain⟨x,H1,I1,r1,ty,q1⟩:=qr
 obtain⟨h1,h2⟩:=Ji I1 r1 ty
 refine⟨T,id,pa,slot,hty,h1,h2,?_⟩
 have hA:=ha cpos pins s1 σ H1 _ I1 q1
 rw[hs] at hA⊢
 refine Calls.callWith_builtin (by show(false||(backTo cpos (starEach es X.env)).any (·.1))=false;rw[hplain] <;>rfl) (Calls.evalArgs_plain ?_)
 exact dr hA fun us s2 ⟨vs,H2,I2,r2,q2⟩=>hm pins s2 σ H2 x vs v us Q I2 r1 r2 q2
end
def LY(X:Cx)(id:String)(r:V->List V->Hp->VK->Prop):Prop:=
 ∀ (pins:List (Addr×Obj)) (s:Shared) (σ:St) (H:Hp) (x:V) (xs:List V) (v:Value) (us:List Value) (Q:VK),Inv X pins σ H s->RelV x v->bS xs us->r x xs H Q→
   wpAny (model X.prog X.w) X.A (call (.builtin id) (v::us)) (EP X pins σ Q) X.xe s
def bS.one:∀{x:V} {us:List Value},bS [x] us->∃u,us= [u]/\RelV x u
 |_,_,.cons r .nil=>⟨_,rfl,r⟩
theorem bS.eraseIdx:∀{xs:List V} {us:List Value} (i:Nat),bS xs us->bS (xs.eraseIdx i) (us.eraseIdx i)
 |_,_,_,.nil=>.nil
 |_,_,0,.cons _ t=>t
 |_,_,i+1,.cons r t=>.cons r (bS.eraseIdx i t)
theorem bS.rep{xs:List V}{us:List Value}(h:bS xs us):∀k:Nat,bS (List.replicate k xs).flatten (List.replicate k us).flatten
 |0=>.nil
 | k+1=>by
   rw[QNq,QNq,List.flatten_cons,List.flatten_cons]
   exact bS.append h (bS.rep h k)
theorem u_{α:Type}:∀(l:List α) (i:Nat),(l.eraseIdx i).length<=l.length
 | [],_=>Qmq _
 |_::_,0=>Nat.le_succ _
 |_::r,i+1=>Nat.succ_le_succ (u_ r i)
theorem foldl_rep(its:List Value):∀(k:Nat) (acc:List Value),
  List.foldl (fun x1 x2=>x1++x2) acc.toArray (List.replicate k its.toArray)=(acc++(List.replicate k its).flatten).toArray
 |0,acc=>by simp
 | k+1,acc=>by
   have e:acc.toArray++its.toArray=(acc++its).toArray:=by simp
   have e2:(acc++its)++(List.replicate k its).flatten=acc++(List.replicate (k+1) its).flatten:=by
     rw[QNq,List.flatten_cons,Qvq]
   rw[←e2,←foldl_rep its k (acc++its),←e,QNq,List.foldl_cons]
section
variable{X:Cx}{pins:List (Addr×Obj)}{σ:St}{H:Hp}{s:Shared}{l b:Addr}{xs ys zs:List V}
def Inv.lset{its its':List Value}{n:Nat}{f:Array Value->Array Value}{t':Nat}(I:Inv X pins σ H s)(hH:H l=some (.lst xs))
  (e:s.heap.get? l=some {cls:=.type "list",data:=.seq its.toArray n}) (hf:f its.toArray=its'.toArray) (hv:bS ys its') (hz:ys.length<=sizeLine):
  Inv X pins σ (upd H l (.lst ys)) {s with heap:=s.heap.update l (Obj.mapSeq f),toks:=t'}:=by
 have q:=PySem.IsL.update e f
 rw[hf] at q
 refine I.write (x:=l) (e:=l) (by rw[hH];exact trivial) (.inl rfl) (fun b' u hb hu=>(Heap.get?_update_other s.heap (Obj.mapSeq f) (Ne.symm hb)).trans hu) ⟨_,q⟩ ?_
 exact⟨hz,its',_,hv,q⟩
def Inv.lnew{its:List Value}{t':Nat}(I:Inv X pins σ H s)(hv:bS ys its)(hz:ys.length<=sizeLine):
  Inv X pins σ (upd H s.heap.objs.size (.lst ys)) {s with heap:=s.heap.push {cls:=.type "list",data:=.seq its.toArray},toks:=t'}:=
 I.laid (fun _ _ q=>Qcq _ q) (Qmq _) ⟨hz,its,0,hv,Qrq _ rfl⟩
def Inv.fresh(I:Inv X pins σ H s):H s.heap.objs.size=none:=I.hok.fresh (Qmq _)
def Inv.lstM(I:Inv X pins σ H s)(hH:H l=some (.lst xs)):xs.length<=sizeLine/\∃(its:List Value) (n:Nat),bS xs its/\xs.length=its.length/\s.heap.get? l=some {cls:=.type "list",data:=.seq its.toArray n}:=by
 obtain⟨z,its,n,r,e⟩:=I.hok l _ hH
 exact⟨z,its,n,r,r.length,e⟩
def tT{n:Nat}(h:n<=sizeLine):Builtin.List.listTooLong n=false:=by
 unfold Builtin.List.listTooLong
 exact Qdq (by omega)
end
section
variable{X:Cx}
def BG:V->List V->Hp->VK->Prop:=fun x vs H Q=>∃l xs y,x=.ref l/\vs= [y]/\H l=some (.lst xs)/\xs.length<sizeLine/\Q .non (upd H l (.lst (xs++ [y])))
def pP:LY X "list.append" BG:=by
 intro pins s σ H x vs v us Q I rx rv h
 obtain⟨l,xs,y,rfl,rfl,hH,hz,q⟩:=h
 cases rx
 obtain⟨u,rfl,ru⟩:=rv.one
 obtain⟨z,its,n,r,hl,e⟩:=I.lstM hH
 refine call_meets F.slot_list_append ⟨_,e,rfl⟩ F.entry_list_append (F.args_list_append_2 _ _) (PySem.list_append l its.toArray n u (by rw[Qjq];omega)) ⟨e,?_⟩
 refine⟨.non,_,I.lset (its':=its++ [u]) hH e (by simp) (r.append (.cons ru .nil)) ?_,rfl,q⟩
 rw[lQa,List.length_singleton]
 omega
def BB:V->List V->Hp->VK->Prop:=fun x vs H Q=>∃l b xs zs,x=.ref l/\vs= [.ref b]/\H l=some (.lst xs)/\H b=some (.lst zs)/\xs.length+zs.length<=sizeLine/\Q .non (upd H l (.lst (xs++zs)))
def CP:LY X "list.extend" BB:=by
 intro pins s σ H x vs v us Q I rx rv h
 obtain⟨l,b,xs,zs,rfl,rfl,hH,hB,hz,q⟩:=h
 cases rx
 obtain⟨u,rfl,ru⟩:=rv.one
 cases ru
 obtain⟨z,its,n,r,hl,e⟩:=I.lstM hH
 obtain⟨z2,its2,n2,r2,hl2,e2⟩:=I.lstM hB
 have hsz:its.toArray.size+its2.toArray.size<=sizeLine:=by rw[Qjq,Qjq];omega
 have hlong:¬(!its.toArray.isEmpty&&Builtin.List.listTooLong (its.toArray.size+its2.toArray.size))=true:=by
  rw[tT hsz,Bool.and_false]
  exact Qtq
 refine call_meets F.slot_list_extend ⟨_,e,rfl⟩ F.entry_list_extend (F.args_list_extend_2 _ _)
  (AutoSeq1.list_extend_list_list_0 l its.toArray n b its2.toArray n2 hlong (by rw[Qjq];omega) (by omega)) ⟨e,e2,?_⟩
 refine⟨.non,_,I.lset (its':=its++its2) hH e (by simp) (r.append r2) ?_,rfl,q⟩
 rw[lQa]
 omega
def D5:V->List V->Hp->VK->Prop:=fun x vs H Q=>∃l xs i k y,x=.ref l/\vs= [.int i]/\H l=some (.lst xs)/\ -(2^63)<=i/\i<2^63/\seqIndex? i xs.length=some k/\xs[k]?=some y/\Q y (upd H l (.lst (xs.eraseIdx k)))
def Fu:LY X "list.pop" D5:=by
 intro pins s σ H x vs v us Q I rx rv h
 obtain⟨l,xs,i,k,y,rfl,rfl,hH,h1,h2,hk,hy,q⟩:=h
 cases rx
 obtain⟨u,rfl,ru⟩:=rv.one
 obtain⟨t,rfl⟩:=ru
 obtain⟨z,its,n,r,hl,e⟩:=I.lstM hH
 obtain⟨w,hw,rw'⟩:=r.get hy
 refine call_meets F.slot_list_pop ⟨_,e,rfl⟩ F.entry_list_pop (F.args_list_pop_2 _ _)
  (MeetsSeq.list_pop_at l its.toArray n i t k w (fitsIndex_both h1 h2) (by rw[Qjq,←hl];exact hk) (by rw[←Array.getElem?_toList];exact hw) (by rw[Qjq];omega)) ⟨e,?_⟩
 refine⟨y,_,I.lset (its':=its.eraseIdx k) hH e ?_ (r.eraseIdx k) ?_,rw',q⟩
 ·show its.toArray.eraseIdxIfInBounds k=(its.eraseIdx k).toArray
  rw[List.eraseIdxIfInBounds_toArray]
 ·have:=u_ xs k
  omega
def Mo:R2:=fun x y H Q=>∃l b xs zs,x=.ref l/\y=.ref b/\H l=some (.lst xs)/\H b=some (.lst zs)/\xs.length+zs.length<=sizeLine/\∀p,H p=none->Q (.ref p) (upd H p (.lst (xs++zs)))
def JR:j0 X (binaryOp .Add) Mo:=by
 intro pins s σ H x y v u Q I rx ry h
 obtain⟨l,b,xs,zs,rfl,rfl,hH,hB,hz,q⟩:=h
 cases rx
 cases ry
 obtain⟨z,its,n,r,hl,e⟩:=I.lstM hH
 obtain⟨z2,its2,n2,r2,hl2,e2⟩:=I.lstM hB
 refine PySem.P.add_list e e2 ?_ (by rw[Qjq,Qjq];omega)
 have ea:its.toArray++its2.toArray=(its++its2).toArray:=by simp
 rw[ea]
 exact⟨.ref _,_,I.lnew (t':=s.toks) (r.append r2) (by rw[lQa];omega),rfl,q _ I.fresh⟩
def MA:R2:=fun x y H Q=>∃l k xs,x=.ref l/\y=.int k/\H l=some (.lst xs)/\ -(2^63)<=k/\k<2^63/\xs.length*k.toNat<=sizeLine∧
 ∀p,H p=none->Q (.ref p) (upd H p (.lst (List.replicate k.toNat xs).flatten))
def len_rep{α:Type}(xs:List α)(k:Nat):(List.replicate k xs).flatten.length=k*xs.length:=by
 induction k with
 |zero=>simp
 |succ k ih=>rw[QNq,List.flatten_cons,lQa,ih,Nat.succ_mul,Nat.add_comm]
def Jg:j0 X (binaryOp .Mult) MA:=by
 intro pins s σ H x y v u Q I rx ry h
 obtain⟨l,k,xs,rfl,rfl,hH,h1,h2,hz,q⟩:=h
 cases rx
 obtain⟨t,rfl⟩:=ry
 obtain⟨z,its,n,r,hl,e⟩:=I.lstM hH
 have hlen:its.toArray.size*k.toNat<=sizeLine:=by rw[Qjq,←hl];exact hz
 have hcap:¬its.toArray.size*k.toNat>(2^63-1)/8:=by
  have:(sizeLine:Nat)<=(2^63-1)/8:=by decide
  omega
 have hfit:¬(!Builtin.List.listFitsIndex k)=true:=by
  rw[fitsIndex_both h1 h2]
  exact Qtq
 have hlong:¬Builtin.List.listTooLong (its.toArray.size*k.toNat)=true:=by
  rw[tT hlen]
  exact Qtq
 have hnew:List.foldl (fun x1 x2=>x1++x2) #[] (List.replicate (if its.toArray.isEmpty=true then 0 else k.toNat) its.toArray)=(List.replicate k.toNat its).flatten.toArray:=by
  have f0:∀m:Nat,List.foldl (fun x1 x2=>x1++x2) #[] (List.replicate m its.toArray)=(List.replicate m its).flatten.toArray:=fun m=>by
   have:=foldl_rep its m []
   rw[List.nil_append] at this
   exact this
  rw[f0]
  cases its with
  |nil=>simp
  |cons a r'=>rw[Quq (by simp)]
 refine wpAny_binaryOp_repeat_ref (T:="list") (U:="int") (by decide) ⟨_,e,rfl⟩ (fun s'=>typeIs_int s' k t) noFill_list_mul F.fills_int_mul F.slot_int_rmul repeat_list F.slot_int_index.lookup
  (call_meets F.slot_int_rmul (typeIs_int s k t) F.entry_int_rmul (F.args_int_rmul_2 _ _) (int___rmul___int_list k t l its.toArray n)
   ⟨e,rfl,⟨_,e,rfl⟩,call_meets F.slot_list_mul ⟨_,e,rfl⟩ F.entry_list_mul (F.args_list_mul_2 _ _) (AutoListH.list___mul___list_int_3 l its.toArray n k t hfit hcap hlong) ⟨e,?_⟩⟩)
 rw[hnew]
 exact⟨.ref _,_,I.lnew (t':=s.toks) (r.rep k.toNat) (by rw[len_rep,Nat.mul_comm];exact hz),rfl,q _ I.fresh⟩
end
end L2
namespace Att
open PySem PySem.W PySem.Calls PyProof.Rows
def rN{P:Params}{h:Heap}:∀(ns:List Int) (vs:List Value),WellAll P h vs (ns.map WData.int)->IntsAre vs ns:=by
 intro ns
 induction ns with
 | nil=>
   intro vs w
   rw[List.map_nil] at w
   cases w
   exact .nil
 | cons n ns ih=>
   intro vs w
   rw[QDq] at w
   cases w with
   | cons a b=>
     cases a
     exact .cons _ _ (ih _ b)
def CG{l:OpenLaw}{n:Nat}(hn:l.most=some n){P:Params}{h:Heap}{args:List WData}{vals:List Value}
  (hpre:l.row.toRowW.claim.pre args=true) (hwl:WellAll P h vals args):
  ∃a vs ns,vals= [Value.ref a]/\args= [WData.list (ns.map WData.int)]/\h.get? a=some {cls:=.type "list",data:=.seq vs.toArray}/\IntsAre vs ns/\ns.length<=n:=by
 have hsh:WShape.hasAll [] args [.list .int]=true:=(pre_splitW hpre).1
 have hc:l.pre.holds [] {args:=args}=true:=(pre_splitW hpre).2
 obtain⟨d,r,rfl,h1,h2⟩:=hasAllW_cons hsh
 obtain rfl:=hasAllW_nil h2
 obtain⟨xs,rfl,h3⟩:=hasW_list h1
 obtain⟨ns,rfl⟩:=items_int h3
 have hlen:ns.length<=n:=by
  unfold OpenLaw.pre at hc
  have h4:(WTm.not (.lt (.lit (.int (n:Int))) (.len (.arg 0)))).holds [] {args:= [.list (ns.map .int)]}=true:=by
   have h4:=(holds_andW hc).1
   rw[hn] at h4
   exact h4
  have h5:=condW_of h4 (w_not (w_lt w_lit (w_len_list (w_arg rfl))))
  rw[lQm] at h5
  refine Nat.le_of_not_lt fun q=> ?_
  have q':(n:Int)<((ns.length:Nat):Int):=by omega
  first
   |(rw[Qeq q'] at h5;exact absurd h5 (by decide))
   |(simp at h5;omega)
 cases hwl with
 | cons w1 w2=>
   cases w2
   cases w1 with
   |list ho hall=>exact⟨_,_,ns,rfl,rfl,ho,rN ns _ hall,hlen⟩
def Dt(l:OpenLaw)(args:List WData):l.row.toRowW.claim.post args (.bool true) args=true:=
 postW_of (r:=l.row.toRowW) (X:=(true==true))
  (show WShape.has [] (.bool true) .bool=true by first|rfl|decide|simp[WShape.has,WShape.arms,WShape.armsAll])
  (show(WTm.eq .res (.lit (.bool true))).value [] {args:=args,res:=some (.bool true),after:=args}=some (.bool (true==true)) from w_eq_bool (w_res rfl) w_lit) rfl
def yR{l:OpenLaw}{n:Nat}{q:Program}{loose:List Str}{XP:(Str->Option Value)->Heap->Prop}{YP:World->Heap->Prop}{d:DefRec}
  (hn:l.most=some n) (hdf:d.params.defaults= [])
  (call:∀(w:World) (s₀ s₁:Shared) (mg mb:Str->Option Value) (fa:Addr) (o:Obj) (pm cd doc:Value) (a:Addr) (vs:List Value) (ns:List Int),
   Ground q loose [] XP w s₀ mg mb s₁.heap->YP w s₁.heap→
   s₁.heap.get? fa=some o->o.data=.func (docDef d.name d.params d.body d.scope pm cd doc)->s₁.heap.CodeRec cd d.name->mg d.name=some (.ref fa)→
   s₁.heap.get? a=some {cls:=.type "list",data:=.seq vs.toArray}->IntsAre vs ns->ns.length<=n->s₁.gens= #[]→
   codeAny (model l.prog w) callerA (.call (.ref fa) ⟨[.ref a],[]⟩) (fun r s'=>r=.ok (.ret (.bool true))/\OldK s₁.heap s'.heap/\s'.os=s₁.os/\AllBare s'.gens) s₁):
  WalkO q loose XP YP l.row.toRowW d [] (fun f vs=>PySem.call f vs):=by
 intro w s₀ s₁ mg mb G Y fa o pm cd doc dV kV ho hd hcd hD hmg hg args vals as hpre hlay hrd hwl hlo
 obtain rfl:dV=.none:=Dflts.none hD hdf
 obtain rfl:kV=.none:=Dflts.noKw hD
 obtain⟨a,vs,ns,rfl,rfl,hobj,hints,hlen⟩:=CG hn hpre hwl
 refine enter_call (codeAny_mono (call w s₀ s₁ mg mb fa o pm cd doc a vs ns G Y ho (fd_plain hd) hcd hmg hobj hints hlen hg) fun r s' hq=> ?_)
 obtain⟨rfl,h2,h3,h4⟩:=hq
 exact⟨.inl ⟨.bool true,.bool true,[],rfl,fun _=>rfl,.bool true,Dt l _,fun _=>⟨List.Pairwise.nil,fun _ hm=>(nomatch hm)⟩⟩,h2,h3,h4⟩
end Att
namespace L2
open PySem PySem.Spec PyProof.Rows
theorem u9:∀{vs:List Value} {ns:List Int},IntsAre vs ns->bS (ns.map V.int) vs
 |_,_,.nil=>.nil
 |_,_,.cons n t h=>.cons ⟨t,rfl⟩ (u9 h)
def G0(H:Hp):Prop:=∀b,H b=none\/∃o xs,H b=some (.frz o (.lst xs))
def FR{P:Program}{w:World}{K:PySem.W.Frag}{mg mb:Str->Option Value}{CX:DS}{k:Nat}{fa a:Addr}{fd:FuncData}{x:Str}{sp:Sp}{s₁:Shared}{vs:List Value}{ns:List Int}
  (KX:K.In s₁.heap) (hns:s₁.heap.Ns mainGlobals mg) (hb:s₁.heap.Ns builtinsNs mb) (hbb:∀x:Str,x≠"__name__" ->mb x=bootBuiltins x) (hlim:s₁.heap.NoLimit) (hg:s₁.gens= #[])
  (ha:s₁.heap.get? a=some {cls:=.type "list",data:=.seq vs.toArray}) (hi:IntsAre vs ns) (hl:ns.length<=sizeLine) (hr:eX k callerA)
  (F:∀base:Heap,K.In base->base.Ns mainGlobals mg->bJ P w K mg base CX k fa fd [x] sp) (hbind:∀(s:Shared) (u:Value),BindsTo s fd ⟨[u],[]⟩ [(x,u)])
  (hsp:∀H:Hp,G0 H->ik K H a (ns.map V.int)->sp [.ref a] H (fun v _=>v=.bl true) fun _ _ _=>False)
  (hCX:∀H e s',CX [] H s₁ (fun _ _ _=>False) e s'->False):
  codeAny (model P w) callerA (.call (.ref fa) ⟨[.ref a],[]⟩) (fun r s'=>r=.ok (.ret (.bool true))/\OldK s₁.heap s'.heap/\s'.os=s₁.os/\AllBare s'.gens) s₁:=by
 have rv:=u9 hi
 have lenV:=hi.length
 have core:∀H:Hp,G0 H->ik K H a (ns.map V.int)->nY P w H s₁.heap->(∀b,H b≠none->b=a)->(H a≠none->K.lookup a=none)→
   codeAny (model P w) callerA (.call (.ref fa) ⟨[.ref a],[]⟩) (fun r s'=>r=.ok (.ret (.bool true))/\OldK s₁.heap s'.heap/\s'.os=s₁.os/\AllBare s'.gens) s₁:=by
  intro H hO hS hok hA hK
  have base_of:∀{b:Addr} {o:Obj},s₁.heap.get? b=some o->H b=none->(wB s₁.heap H).get? b=some o:=fun e n=>FI e n
  have noA:∀{b:Addr} {o:Obj} {es:Array DictEntry} {ep:Nat},s₁.heap.get? b=some o->o.data=.dict es ep->H b=none:=fun{b o es ep} e d=>by
   cases q:H b with
   |none=>rfl
   | some u=>
     have e':b=a:=hA b (by rw[q];simp)
     subst e'
     rw[ha] at e;cases e
     have d':Data.seq vs.toArray _=Data.dict es ep:=d
     cases d'
  have nsK:∀{b:Addr} {m:Str->Option Value},s₁.heap.Ns b m->(wB s₁.heap H).Ns b m:=fun{b m} ⟨o,es,ep,e,d,r⟩=>⟨o,es,ep,base_of e (noA e d),d,r⟩
  have hKb:K.In (wB s₁.heap H):=fun b o e=>base_of (KX b o e) (by
   cases q:H b with
   |none=>rfl
   | some u=>
     have e':b=a:=hA b (by rw[q];simp)
     subst e'
     rw[hK (by rw[q];simp)] at e;cases e)
  have hM:Mod K mg (wB s₁.heap H):=⟨hKb,nsK hns,⟨mb,nsK hb,hbb⟩,let ⟨mc,h1,h2⟩:=hlim;⟨mc,nsK h1,h2⟩⟩
  have e0:GK P w K mg (wB s₁.heap H) callerA [] s₁ H:=⟨rfl,hM,fun b o e=>HF e,Nat.le_of_eq (DM _ _),trivial,fun b hb=>absurd (show b∈([]:List Addr) from hb) (by simp),hok,.of_eq hg⟩
  refine codeAny_mono ((F _ hKb (nsK hns)).run callerA [] s₁ H ⟨[.ref a],[]⟩ [.ref a] [.ref a] _ _ hr e0 (hbind s₁ (.ref a)) (.cons rfl .nil) (hsp H hO hS)) fun r s' h=> ?_
  cases r with
  |error e=>exact(hCX H e s' h).elim
  | ok fl=>
    cases fl with
    |next=>exact False.elim h
    |brk=>exact False.elim h
    |cont=>exact False.elim h
    | ret u=>
      obtain⟨v,H',os,bare,un,hok',r',q⟩:=h
      have q':v=.bl true:=q
      subst q'
      obtain rfl:u=Value.bool true:=r'
      refine⟨rfl,OldK.of_keep fun b o e=> ?_,os,bare⟩
      cases q:H b with
      |none=>exact un.keep b o e q (by intro z;exact absurd (show b∈([]:List Addr) from z) (by simp)) (by simp)
      | some u=>
        rcases hO b with z|⟨ob,xs,z⟩
        · rw[q] at z;cases z
        · have z2:=un.frzs b ob _ z
          obtain⟨e1,_⟩:=hok b _ z
          obtain⟨e2,_⟩:=hok' b _ z2
          rw[e] at e1;cases e1
          exact e2
 cases hk:K.lookup a with
 | some o=>
   have e:=KX a o hk
   rw[ha] at e
   cases e
   refine core (fun _=>none) (fun _=>.inl rfl) (.inr ⟨_,vs.toArray,_,hk,rfl,rfl,rfl,by rw[Qjq,lenV];exact hl,by simpa using rv⟩) (fun b u z=>by have z':(none:Option HO)=some u:=z;cases z') (fun b z=>absurd rfl z) fun z=>absurd rfl z
 | none=>
   refine core (fun b=>if b=a then some (.frz {cls:=.type "list",data:=.seq vs.toArray} (.lst (ns.map V.int))) else none) (fun b=> ?_) (.inl (.inr ⟨{cls:=.type "list",data:=.seq vs.toArray},Qhq rfl⟩)) (fun b u z=> ?_) (fun b z=> ?_) fun _=>hk
   · by_cases hb:b=a
     · exact .inr ⟨_,_,Qhq hb⟩
     · exact .inl (Quq hb)
   · by_cases hb:b=a
     · have z':=(Qhq hb).symm.trans z
       cases z'
       subst hb
       exact⟨ha,by rw[lQm];exact hl,vs,_,rv,ha⟩
     · have z':=(Quq hb).symm.trans z
       cases z'
   · by_cases hb:b=a
     · exact hb
     · exact absurd (Quq hb) z
def Gn{l:PySem.W.OpenLaw}{n k:Nat}{q:Program}{loose:List Str}{XP:(Str->Option Value)->Heap->Prop}{YP:World->Heap->Prop}{d:DefRec}{K:Params->PySem.W.Frag}{CX:World->DS}{sp:World->Sp}{x:Str}
  (hn:l.most=some n) (hn2:n<=sizeLine) (hdf:d.params.defaults= []) (hr:eX k callerA)
  (hY:∀(w:World) (h:Heap),YP w h->(K w.params).In h)
  (F:∀(w:World) (mg:Str->Option Value) (fa:Addr) (h:Heap),(K w.params).In h->h.Ns mainGlobals mg->mg d.name=some (.ref fa)→
   ∃ fd:FuncData,(∀(s:Shared) (u:Value),BindsTo s fd ⟨[u],[]⟩ [(x,u)])∧
     ∀base:Heap,(K w.params).In base->base.Ns mainGlobals mg->bJ l.prog w (K w.params) mg base (CX w) k fa fd [x] (sp w))
  (hsp:∀(w:World) (H:Hp) (a:Addr) (ns:List Int),ns.length<=n->G0 H->ik (K w.params) H a (ns.map V.int)->sp w [.ref a] H (fun v _=>v=.bl true) fun _ _ _=>False)
  (hCX:∀(w:World) (H:Hp) (s:Shared) (e:Value) (s':Shared),CX w [] H s (fun _ _ _=>False) e s'->False):
  PySem.W.WalkO q loose XP YP l.row.toRowW d [] (fun f vs=>PySem.call f vs):=by
 refine Att.yR hn hdf fun w s₀ s₁ mg mb fa o pm cd doc a vs ns G Y ho hd hcd hmg hobj hints hlen hg=> ?_
 have KX:=hY w _ Y
 obtain⟨fd,hb,hF⟩:=F w mg fa _ KX G.T.g hmg
 exact FR KX G.T.g G.T.b G.T.builtins G.T.nolimit hg hobj hints (QAq hlen hn2) hr hF hb (fun H hO hS=>hsp w H a ns hlen hO hS) fun H e s'=>hCX w H s₁ e s'
def iu(s:Stmt):Arguments:=match s with
 |.FunctionDef _ a _ _ _ _ _ _ _ _=>a
 |_=>{posonlyargs:= [],args:= [],vararg:=none,kwonlyargs:= [],kw_defaults:= [],kwarg:=none,defaults:= []}
def gk(s:Stmt):List Stmt:=match s with
 |.FunctionDef _ _ b _ _ _ _ _ _ _=>b
 |_=> []
def aD(s:Stmt):Scope:=match s with
 |.FunctionDef _ _ _ _ _ _ sc _ _ _=>sc
 |_=>{kind:=.function,names:= [],isGenerator:=false,isCoroutine:=false}
abbrev eD:DS:=fun _ _ _ _ _ _=>False
abbrev E0:XK:=fun _ _ _=>False
def Fh{X:Cx}:AK eD X E0:=fun _ _ _ _ _ _ _ h=>h.elim
structure eY(K:PySem.W.Frag)(x qual:Str)(st:Stmt)(f:Addr)(fd:FuncData):Prop where
 ex:∃(oc:Value) (od:Option Addr) (kV doc pm:Value) (an:Option Addr) (cdv ct:Value) (osl:Array (Option Value)),
  fd=PySem.W.fnOf x qual (iu st) (gk st) (aD st) .none kV doc pm an cdv ct/\K.lookup f=some ⟨oc,od,.func fd,osl⟩/\PySem.W.codeIn K cdv qual=true
 kp:PySem.W.keepIn K (.ref f)=true
section
variable{P:Program}{w:World}{K:PySem.W.Frag}{mg:Str->Option Value}{base:Heap}
def eY.ok{x qual:Str}{st:Stmt}{f:Addr}{fd:FuncData}{N ps:List Str}{k:Nat}{sp:Sp}(F:eY K x qual st f fd)(S:aM N ps (aD st))(len:∀vs H Q E,sp vs H Q E->vs.length=ps.length)
  (hbody:∀(cdv:Value) (A:Around) (outer:List Env) (s:Shared) (H:Hp) (vs:List V) (Q:VK) (E:XK),eX k (A.deeper (envOfC qual (aD st) s.heap.objs.size f cdv))->sp vs H Q E→
   ∃t,rV (AZ eD P w K mg base N qual (aD st) f cdv A outer s H E).nox (gk st) t/\t {nx:=fun _ H'=>Q .non H',rt:=Q} (start N vs) H):bJ P w K mg base eD (k+1) f fd ps sp:=by
 obtain⟨oc,od,kV,doc,pm,an,cdv,ct,osl,rfl,lk,hcd⟩:=F.ex
 refine Kw lk hcd S len fun A outer s H vs Q E hr hsp=> ?_
 obtain⟨t,h,q⟩:=hbody cdv A outer s H vs Q E hr hsp
 exact⟨t,h.nox,q⟩
def eY.binds{x qual:Str}{st:Stmt}{f:Addr}{fd:FuncData}{ps:List Str}(F:eY K x qual st f fd)
  (h:∀(kV doc pm:Value) (an:Option Addr) (cdv ct:Value) (us:List Value),us.length=ps.length->bindArgs (PySem.W.fnOf x qual (iu st) (gk st) (aD st) .none kV doc pm an cdv ct) ⟨us,[]⟩=pure (ps.zip us)):Binds K fd ps []:=by
 obtain⟨oc,od,kV,doc,pm,an,cdv,ct,osl,rfl,lk,hcd⟩:=F.ex
 exact .all (h kV doc pm an cdv ct)
def AV{x qual:Str}{st:Stmt}{f:Addr}{oc:Value}{od an:Option Addr}{osl:Array (Option Value)}{kV doc pm cdv ct:Value}(l:K.lookup f=some ⟨oc,od,.func (PySem.W.fnOf x qual (iu st) (gk st) (aD st) .none kV doc pm an cdv ct),osl⟩)
  (c:PySem.W.codeIn K cdv qual=true) (k:PySem.W.keepIn K (.ref f)=true):eY K x qual st f (PySem.W.fnOf x qual (iu st) (gk st) (aD st) .none kV doc pm an cdv ct):=⟨⟨oc,od,kV,doc,pm,an,cdv,ct,osl,rfl,l,c⟩,k⟩
end
def HR{A:Around}{k:Nat}(hr:eX k A):A.units+1<cLine:=Nat.lt_of_le_of_lt (Nat.add_le_add_left (by decide:1<=64) _) hr.units
def bG{n:Nat}(h:n<=1000):n<sizeLine:=Nat.lt_of_le_of_lt h (by decide)
section
variable{X:Cx}
def pv(i:Nat){x:Str}{pos:Pos}(hN:X.N[i]?=some x:=by rfl)(hv:HM X.env.scope x:=by first|exact Or.inl rfl|exact Or.inr (Or.inl rfl)|exact Or.inr (Or.inr rfl))(hd:(x==("__debug__":Str))=false:=by decide)
  (hcd:(x==("__classdict__":Str))=false:=by decide):PE X (.Name x pos) (Jf i):=DZ hN hv hd hcd
end
section
variable{prog:Program}{w:World}{A:Around}{s:Shared}
def oP{elt target iter:Expr}{ifs:List Expr}{scope:Scope}{pos:Pos}{it acc:Value}{env:Env}{R:Result->Shared->Prop}(I:Nat->Shared->Prop)
  (turn:∀n s,I n s->wpAny (model prog w) A (pyNext it) (fun r s₁=>match r with
   |none=>R (.ok .next) s₁
   |some v=>wpAny (model prog w) A (letOwnedTupleGo target it v) (fun _ s₁'=>wpAny (model prog w) A (assign target env v) (fun _ s₂=>
     wpAny (model prog w) A (forIn ifs true fun c r=>if r=true then do let ok←isTrue c env (eval c env);pure (ForInStep.yield ok) else pure (ForInStep.yield r)) (fun ok s₃=>
      if ok=true then wpAny (model prog w) A (eval elt env) (fun x s₄=>
       wpAny (model prog w) A (call (.builtin "list.append") [acc,x]) (fun _ s₅=>∃m,m<n/\I m s₅) (fun _ _=>False) s₄) (fun _ _=>False) s₃
      else∃m,m<n/\I m s₃) (fun _ _=>False) s₂) (fun _ _=>False) s₁') (fun _ _=>False) s₁) (fun _ _=>False) s)
  (n:Nat) (h:I n s):codeAny (model prog w) A (.compLoop (.ListComp elt [⟨target,iter,ifs,0⟩] scope pos) 0 it acc env) R s:=by
 refine codeAny_loop rfl I (fun n s hI=> ?_) n h
 show wpAny _ A ((compTurn (.ListComp elt [⟨target,iter,ifs,0⟩] scope pos) 0 it acc env).onRaise (fun x=>do noteFrame x env;theTreesLotGoes x)) _ _ s
 refine wpAny_noted ?_
 rw[compTurn_list]
 refine Qaq (wpAny_standAt (Qaq (QRq (turn n s hI) (fun r s₁ h₁=> ?_) fun _ _ h'=>h'.elim)))
 cases r with
 |none=>exact Qgq h₁
 | some v=>
   refine Qaq (QRq h₁ (fun _ s₁' h₁'=> ?_) fun _ _ h'=>h'.elim)
   refine Qaq (QRq h₁' (fun _ s₂ h₂=>Qaq (QRq h₂ (fun ok s₃ h₃=> ?_) fun _ _ h'=>h'.elim)) fun _ _ h'=>h'.elim)
   cases ok with
   |false=>exact Qgq ⟨rfl,h₃⟩
   | true=>
     exact Qaq (Qaq (QRq h₃ (fun x s₄ h₄=>Qaq (QRq h₄ (fun _ s₅ h₅=>Qgq (Qgq ⟨rfl,h₅⟩)) fun _ _ h'=>h'.elim)) fun _ _ h'=>h'.elim))
end
def bo(X:Cx)(N:List Str)(scope:Scope)(cl:List (Str×Addr))(C:Addr)(s:Shared)(H:Hp)(fp:List Addr):Cx where
 prog:=X.prog
 w:=X.w
 K:=X.K
 mg:=X.mg
 base:=X.base
 A:=X.A
 N:=N
 s₀:=s
 H₀:=H
 env:=compEnvC scope cl C X.env
 outer:=X.stack
 stack:=X.stack
 ex:=fp
 fn:=fun _=>false
 calm:=X.calm
 pn:= []
 xe:=fun _ _=>False
def ki(js:List (Option Nat))(σ:St):St:=js.map fun o=>o.bind fun j=>σ.getD j none
structure a9(X:Cx)(N:List Str)(js:List (Option Nat))(scope:Scope)(cl:List (Str×Addr)):Prop where
 kind:scope.kind=.function
 nocell:∀y∈scope.names,y.2≠.cell
 names:∀y∈scope.names,y.2=.local->scope.names.lookup y.1=some .local
 clos:closureFor scope X.env=pure cl
 sub:∀x c,cl.lookup x=some c->X.env.cells.lookup x=some c
 has:∀x,((relabel scope X.env).names.lookup x=some .cell\/(relabel scope X.env).names.lookup x=some .free)->∃c,cl.lookup x=some c
 cap:∀(k j:Nat) (x:Str),js[k]?=some (some j)->N[k]?=some x->X.N[j]?=some x/\(X.env.kindOf x=some .cell\/X.env.kindOf x=some .free)/\((relabel scope X.env).names.lookup x=some .cell\/(relabel scope X.env).names.lookup x=some .free)
 len:js.length=N.length
def rM(X:Cx)(ifs:List Expr)(t:TT):Prop:=
 ∀ (pins:List (Addr×Obj)) (s:Shared) (σ:St) (H:Hp) (Q:Bool->Hp->Prop),Inv X pins σ H s->t σ H Q→
   wpAny (model X.prog X.w) X.A (forIn ifs true fun c r=>if r=true then do let ok←isTrue c X.env (eval c X.env);pure (ForInStep.yield ok) else pure (ForInStep.yield r)) (TP X pins σ Q) X.xe s
def JY{X:Cx}:rM X [] (fun _ H Q=>Q true H):=fun _ _ _ H _ I h=>wpAny_tests_nil ⟨H,I,h⟩
def IZ{X:Cx}{c:Expr}{t:TT}(hc:PT X c t):rM X [c] t:=fun pins s σ H Q I h=>
 wpAny_tests_one (dr (hc pins s σ H Q I h) fun ok s' h'=>h')
def K8(J:It)(g:TG)(tt:TT)(te:TE)(Q:VK)(D:Addr)(σ:St)(H:Hp):Prop:=
 ∃ W:Nat->Nat->St->Hp->Prop,(∃m,W 0 m σ H)/\∀i m σ' H',W i m σ' H'→
   (J.stop i H'/\Q (.ref D) H')\/(J.go i H'/\∃Nx:St->Hp->Prop,(∀σ'' H'',Nx σ'' H''->∃m',m'<m/\W (i+1) m' σ'' H'')∧
     ∀ x H2,J.yld i H' x H2->g x σ' H2 fun σ3 H3=>tt σ3 H3 fun ok H4=>
       if ok=true then te σ3 H4 fun y H5=>∃xs,H5 D=some (.lst xs)/\xs.length<sizeLine/\Nx σ3 (upd H5 D (.lst (xs++ [y]))) else Nx σ3 H4)
def Ea(js:List (Option Nat))(wi:TI)(g:TG)(tt:TT)(te:TE):TE:=fun σ H Q=>wi σ H fun J H1=>∀D,H1 D=none->K8 J g tt te Q D (ki js σ) (upd H1 D (.lst []))
def GZ{X:Cx}{N:List Str}{js:List (Option Nat)}{scope:Scope}{cl:List (Str×Addr)}{tg iter elt:Expr}{ifs:List Expr}{pos:Pos}{wi:TI}{g:TG}{tt:TT}{te:TE}
  (S:a9 X N js scope cl) (hc:X.calm=true) (hi:PI X tg iter wi)
  (hg:∀C s H fp,PG (bo X N scope cl C s H fp) tg g) (ht:∀C s H fp,rM (bo X N scope cl C s H fp) ifs tt) (he:∀C s H fp,PE (bo X N scope cl C s H fp) elt te)
  (hs:∀x,foldedSetIterable iter X.env x=pure x:=by intro _;rfl):PE X (.ListComp elt [⟨tg,iter,ifs,0⟩] scope pos) (Ea js wi g tt te):=by
 intro pins s σ H Q I h
 rw[eval_ListComp]
 refine wpAny_comprehension_free (use:=none) rfl hs S.clos S.kind S.names (dr (hi pins s σ H _ I h) fun v s1 h1=>dr h1 fun itv s2 h2=> ?_)
 obtain⟨it,fp,tn,J,H2,e,I2,T,st2,f2,hD⟩:=h2
 subst e
 refine wpAny_newObj_type (wpAny_newFunctionEnv S.nocell (by intro y hy;simp at hy) (fun h₁ hns₁ hsb₁=> ?_) S.kind)
 dsimp only at hns₁ hsb₁⊢
 generalize hH2:s2.heap.push {cls:=.type "list",dict:=none,data:=.seq ([]:List Value).toArray}=P2 at hns₁ hsb₁⊢
 have hC:P2.objs.size=s2.heap.objs.size+1:=by rw[←hH2,Heap.size_push]
 have hDC:s2.heap.objs.size≠P2.objs.size:=by rw[hC];exact Qwq (Nat.lt_succ_self _)
 have hCle:s2.heap.objs.size<=P2.objs.size:=by rw[hC];exact Nat.le_succ _
 have below:∀b,b<s2.heap.objs.size->b≠P2.objs.size:=fun b hb=>by rw[hC];exact Qwq (Nat.lt_succ_of_lt hb)
 have old:∀b o,s2.heap.get? b=some o->h₁.get? b=some o:=fun b o e=>hsb₁.extBut b o (below b (Qiq e)) (Qcq _ (hH2▸Qcq _ e))
 have hnew:h₁.get? s2.heap.objs.size=some {cls:=.type "list",dict:=none,data:=.seq ([]:List Value).toArray}:=hsb₁.extBut _ _ hDC (Qcq _ (hH2▸Qrq _ rfl))
 have nD:H2 s2.heap.objs.size=none:=I2.fresh
 have nC:H2 P2.objs.size=none:=I2.hok.fresh hCle
 have fpo:∀b∈fp,b<s2.heap.objs.size:=fun b hb=>by
  obtain⟨o,e,_⟩:=T.obj _ _ st2 b hb
  exact Qiq e
 obtain⟨W,⟨m0,w0⟩,turn⟩:=hD s2.heap.objs.size nD
 have ok':(bo X N scope cl P2.objs.size s2 H2 fp).Ok:=by
  refine⟨I2.ok.mod,S.kind,I2.ok.glob,I2.ok.blt,hCle,fun x y c h1 h2=>I2.ok.inj x y c (S.sub x c h1) (S.sub y c h2),S.has,(fun x c h=>by cases h),I2.ok.hd,I2.ok.frames,.inl rfl,
   fun b hb=>⟨below b (fpo b hb),fun x c h=>(f2 b hb).2.2.2.2.1 x c (S.sub x c h)⟩,I2.bs,QAq I2.ok.bsz I2.sz,fun b o e hb=> ?_,fun b hb z=> ?_,I2.stack,I2.stkFree⟩
  ·rcases(f2 b hb).2.2.2.1 with z|z
   ·exact I2.ok.noex b o e z
   ·exact absurd (Qqq (Qqq (Qiq e) I2.ok.bsz) z) (Nat.lt_irrefl _)
  ·rcases Qsq.mp (I2.stkSub b z) with q|q
   ·exact(f2 b hb).2.1 q
   ·exact(f2 b hb).2.2.1 q
 have hobj:du X.prog X.w (upd H2 s2.heap.objs.size (.lst [])) h₁ s2.heap.objs.size (.lst []):=⟨Nat.zero_le _,[],0,.nil,hnew⟩
 have I4:Inv (bo X N scope cl P2.objs.size s2 H2 fp) [] (ki js σ) (upd H2 s2.heap.objs.size (.lst [])) {s2 with heap:=h₁,toks:=s2.toks+([]:List (Str×Value)).length}:=by
  refine⟨ok',rfl,I2.bare,Un.laid old (Qmq _) nD,⟨_,hns₁,fun i x v h1 h2 h3=> ?_⟩,fun x c h=> ?_,by show upd H2 _ _ P2.objs.size=none;rw[bC hDC.symm];exact nC,fun x c h=> ?_,fun p hp=>absurd (show p∈([]:List (Addr×Obj)) from hp) (by simp),I2.hok.laid old (Qmq _) hobj,by show(ki js σ).length=N.length;unfold ki;rw[lQm];exact S.len⟩
  ·unfold ki at h2
   rw[gQm] at h2
   cases e:js[i]? with
   |none=>rw[e] at h2;cases h2
   | some o=>
     rw[e] at h2
     cases o with
     |none=>cases h2
     | some j=>
       have h2':σ.getD j none=some v:=Option.some.inj h2
       have hj:σ[j]?=some (some v):=by
         rw[Qlq] at h2'
         cases q:σ[j]? with
         |none=>rw[q] at h2';cases h2'
         |some y=>rw[q] at h2';exact congrArg some h2'
       obtain⟨c1,c2,c3⟩:=S.cap i j x e h1
       obtain⟨m,hn,hl⟩:=I2.loc
       have vis:HM X.env.scope x:=by
         rcases c2 with z|z
         · exact .inr (.inl z)
         · exact .inr (.inr z)
       obtain⟨u,r,l⟩:=hl j x v c1 hj vis
       refine⟨u,r,.inr ⟨c3,?_⟩⟩
       obtain⟨c,hc'⟩:=S.has x c3
       refine⟨c,hc',?_⟩
       rcases l with⟨z,_⟩|⟨_,c',e',z⟩
       · rcases c2 with y|y <;>rw[y] at z <;>cases z
       · rw[S.sub x c hc'] at e'
         cases e'
         obtain⟨o,ho,hd⟩:=z
         exact⟨o,old _ _ ho,hd⟩
  ·obtain⟨v,o,ho,hd⟩:=I2.cell x c (S.sub x c h)
   exact⟨v,o,old _ _ ho,hd⟩
  ·obtain⟨v,o,ho,hd⟩:=I2.cell x c (S.sub x c h)
   rw[bC (Qwq (Qiq ho))]
   exact I2.freeC x c (S.sub x c h)
 have stat:∀{pins':List (Addr×Obj)} {H':Hp},pins'= []->(∀b∈fp,H' b=none)->∀b∈fp,pT (bo X N scope cl P2.objs.size s2 H2 fp) pins' H' b:=fun{pins' H'} ep hn b hb=>by
  subst ep
  refine⟨hn b hb,below b (fpo b hb),fun z=>ok'.exfs b hb z,.inl hb,fun x c h=>(f2 b hb).2.2.2.2.1 x c (S.sub x c h),fun p hp=>absurd (show p∈([]:List (Addr×Obj)) from hp) (by simp)⟩
 have loop:codeAny (model X.prog X.w) X.A (.compLoop (.ListComp elt [⟨tg,iter,ifs,0⟩] scope pos) 0 (.ref it) (.ref s2.heap.objs.size) (compEnvC scope cl P2.objs.size X.env))
   (compPost (model X.prog X.w) X.A X.xe none (EP X pins σ Q) (.ref s2.heap.objs.size) P2.objs.size) {s2 with heap:=h₁,toks:=s2.toks+([]:List (Str×Value)).length}:=by
  refine oP (fun n s'=>∃i σ' H',Inv (bo X N scope cl P2.objs.size s2 H2 fp) [] σ' H' s'/\tn i s'.heap/\(∀b∈fp,H' b=none)/\W i n σ' H') ?_ m0
   ⟨0,_,_,I4,T.keep _ _ _ st2 fun b _ o e=>old b o e,fun b hb=>by rw[bC (Qwq (fpo b hb))];exact(f2 b hb).1,w0⟩
  rintro n s3 ⟨i,σ3,H3,I3,st3,fr3,w3⟩
  rcases turn i n σ3 H3 w3 with⟨stop,q⟩|⟨go,Nx,hN,step⟩
  ·refine dr (T.done (bo X N scope cl P2.objs.size s2 H2 fp) rfl rfl rfl hc i [] s3 σ3 H3 _ I3 (stat rfl fr3) st3 stop) fun r s4 qr=> ?_
   obtain⟨hr,I5⟩:=qr
   subst hr
   obtain⟨m,hn,_⟩:=id I5.loc
   refine⟨m,hn,fun h' hs'=>⟨.ref s2.heap.objs.size,H3,?_,rfl,q⟩⟩
   have u:=I5.base
   have ne:∀b o,s2.heap.get? b=some o->b≠P2.objs.size:=fun b o e=>below b (Qiq e)
   refine I2.call' (ch:=fp) I5.os ⟨fun b o e n hb hx=>(hs'.2 b (ne b o e)).trans (u.keep b o e n hb hx),fun b o e n hb hx=> ?_,u.free,fun b o e hx=> ?_,u.tups,u.frzs,u.tbls⟩ (fun b ob e=> ?_) I5.bare fun b hb=>⟨(f2 b hb).2.2.2.1,(f2 b hb).2.1,(f2 b hb).2.2.2.2.1,(f2 b hb).2.2.2.2.2⟩
   ·obtain⟨sl,e1⟩:=u.slot b o e n hb hx
    exact⟨sl,(hs'.2 b (ne b o e)).trans e1⟩
   ·obtain⟨o',e1⟩:=u.there b o e hx
    exact⟨o',(hs'.2 b (ne b o e)).trans e1⟩
   ·refine(I5.hok b ob e).stay (fun c w' hc q=>(hs'.2 c ?_).trans q) (fun _ q=>q) fun _ _ q=>q
    have fC:H3 P2.objs.size=none:=I5.free
    rintro rfl
    rcases hc with z|z
    ·rw[←z,fC] at e;cases e
    ·rw[fC] at z;cases z
  ·refine dr (T.item (bo X N scope cl P2.objs.size s2 H2 fp) rfl rfl rfl hc i [] s3 σ3 H3 _ I3 (stat rfl fr3) st3 go) fun r s4 qr=> ?_
   obtain⟨u,hr,h4⟩:=qr
   subst hr
   refine dr h4 fun _ s5 qr=> ?_
   obtain⟨x,H5,I5,r5,y5,st5,fr5⟩:=qr
   have I5':=I5.pinned (stat rfl fr5) (T.obj _ _ st5)
   refine dr (hg P2.objs.size s2 H2 fp _ s5 σ3 H5 x u _ I5' r5 (step x H5 y5)) fun _ s6 qr=> ?_
   obtain⟨σ6,H6,I6,q6⟩:=qr
   refine dr (ht P2.objs.size s2 H2 fp _ s6 σ6 H6 _ I6 q6) fun ok s7 qr=> ?_
   obtain⟨H7,I7,q7⟩:=qr
   have again:∀{s8:Shared} {H8:Hp},Inv (bo X N scope cl P2.objs.size s2 H2 fp) ([]++nc fp s5.heap) σ6 H8 s8->Nx σ6 H8->∃m,m<n/\∃i σ' H',Inv (bo X N scope cl P2.objs.size s2 H2 fp) [] σ' H' s8/\tn i s8.heap/\(∀b∈fp,H' b=none)/\W i m σ' H':=fun{s8 H8} I8 n8=>by
    obtain⟨m',hm,w8⟩:=hN σ6 H8 n8
    refine⟨m',hm,i+1,σ6,H8,I8.unpinned,T.keep _ _ _ st5 fun b hb o e=>(I8.pin (b,o) (Qoq _ (Qoq _ (dQ hb e)))).1,fun b hb=> ?_,w8⟩
    obtain⟨o,e,d⟩:=T.obj _ _ st5 b hb
    exact(I8.pin (b,o) (Qoq _ (Qoq _ (dQ hb e)))).2.1
   cases ok with
   |false=>exact again I7 q7
   | true=>
     refine dr (he P2.objs.size s2 H2 fp _ s7 σ6 H7 _ I7 q7) fun yv s8 qr=> ?_
     obtain⟨y,H8,I8,ry,xs,hx,hl,n8⟩:=qr
     refine dr (pP (X:=bo X N scope cl P2.objs.size s2 H2 fp) _ s8 σ6 H8 (.ref s2.heap.objs.size) [y] (.ref s2.heap.objs.size) [yv] (fun _ H'=>Nx σ6 H') I8 rfl (.cons ry .nil) ⟨_,xs,y,rfl,rfl,hx,hl,n8⟩) fun _ s9 qr=> ?_
     obtain⟨z,H9,I9,_,q9⟩:=qr
     exact again I9 q9
 exact codeAny_compStart_list loop (T.self _ 0 _ _ _ (T.keep _ _ _ st2 fun b _ o e=>old b o e) loop)
section
variable{X:Cx}
def D_:jS X (.builtin "isinstance") (fun xs H Q=>∃x T t b,xs= [x,.ty T]/\pW X.K H x t/\PySem.W.kitOne X.K t (.type T)=some b/\Q (.bl b) H):=by
 intro pins s σ H xs us Q I r h
 obtain⟨x,T,t,b,rfl,ty,e,q⟩:=h
 obtain⟨u,u',rfl,rx,rt⟩:=vals2 r
 cases (show u'=Value.type T from rt)
 exact C9 I rx ty e fun tk=>⟨.bl b,H,I.tok tk,rfl,q⟩
def HN:List V->List V->Bool
 | [],[]=>true
 |x::xs,y::ys=>rP x y&&HN xs ys
 |_,_=>false
theorem BU:∀{xs ys:List V},xs.length≠ys.length->HN xs ys=false
 | [],[],h=>absurd rfl h
 | [],_::_,_=>rfl
 |_::_,[],_=>rfl
 | x::xs,y::ys,h=>by
   have:=BU (xs:=xs) (ys:=ys) fun e=>h (by simp[e])
   show(rP x y&&HN xs ys)=false
   rw[this,Bool.and_false]
theorem Cn:∀{xs ys:List V},xs.length=ys.length->(List.range xs.length).all (fun j=>rP (xs.getD j .non) (ys.getD j .non))=HN xs ys
 | [],[],_=>rfl
 | [],_::_,h=>by cases h
 |_::_,[],h=>by cases h
 | x::xs,y::ys,h=>by
   have ih:=Cn (xs:=xs) (ys:=ys) (Nat.succ.inj h)
   rw[Qnq,List.range_succ_eq_map,List.all_cons,List.all_map]
   show(rP x y&&_)=(rP x y&&HN xs ys)
   rw[←ih]
   rfl
def JI{A:Around}{s:Shared}{xs ys:List V}{us vs:List Value}(r:bS xs us)(r':bS ys vs)(f:xs.all ia=true)(f':ys.all ia=true)(j:Nat)(h1:j<us.toArray.size)(h2:j<vs.toArray.size):
  SeqAt.EqAt A s us.toArray[j] vs.toArray[j] (rP (xs.getD j .non) (ys.getD j .non)):=by
 have l1:=r.length
 have l2:=r'.length
 have g1:j<xs.length:=by rw[l1];simpa using h1
 have g2:j<ys.length:=by rw[l2];simpa using h2
 obtain⟨u,e1,q1⟩:=r.get (gQe g1)
 obtain⟨v,e2,q2⟩:=r'.get (gQe g2)
 have d1:xs.getD j .non=xs[j]:=by rw[Qlq,gQe g1];rfl
 have d2:ys.getD j .non=ys[j]:=by rw[Qlq,gQe g2];rfl
 have a1:us.toArray[j]=u:=by
  have:=(gQs.mp e1).2
  simpa using this
 have a2:vs.toArray[j]=v:=by
  have:=(gQs.mp e2).2
  simpa using this
 rw[a1,a2,d1,d2]
 exact D2 q1 q2 (QUq.mp f _ (List.getElem_mem g1)) (QUq.mp f' _ (List.getElem_mem g2))
def MK(K:PySem.W.Frag)(neg:Bool):R2:=fun x y H Q=>∃a b xs ys,x=.ref a/\y=.ref b/\ik K H a xs/\ik K H b ys/\xs.all ia=true/\ys.all ia=true/\Q (.bl (if neg then !HN xs ys else HN xs ys)) H
def Kd(hu:X.A.units<cLine):j0 X (compareOp .NotEq) (MK X.K true):=by
 intro pins s σ H x y v u Q I rx ry h
 obtain⟨a,b,xs,ys,rfl,rfl,ha,hb,fa,fb,q⟩:=h
 cases rx
 cases ry
 obtain⟨its,r,pl,hz⟩:=I.list ha
 obtain⟨jts,r',pl',hz'⟩:=I.list hb
 by_cases hl:xs.length=ys.length
 ·have hsz:its.toArray.size=jts.toArray.size:=by simp[←r.length,←r'.length,hl]
  refine SeqAt.RcNeAt.lists (e:=fun j=>rP (xs.getD j .non) (ys.getD j .non)) pl.isList pl'.isList hsz hu (fun j h1 h2=>JI r r' fa fb j h1 h2) _ _ _ _ ⟨.bl _,H,I,rfl,?_⟩
  rw[show its.toArray.size=xs.length by simp[r.length],Cn hl]
  exact q
 ·refine SeqAt.RcNeAt.lists_lengths pl.isList pl'.isList (by simpa [←r.length,←r'.length] using hl) hu _ _ _ _ ⟨.bl _,H,I,rfl,?_⟩
  have q':Q (.bl (!HN xs ys)) H:=q
  rw[BU hl] at q'
  exact q'
end
section
variable{X:Cx}
def D7{bs:List Bool}{its:List Value}(r:bS (bs.map V.bl) its){i:Nat}{v:Value}(h:its.toArray[i]?=some v):v=.bool (bs.getD i false):=by
 have hi:i<its.length:=by
  have:=(Array.getElem?_eq_some_iff.mp h).1
  simpa using this
 have l:=r.length
 rw[lQm] at l
 have hb:i<bs.length:=by omega
 obtain⟨u,e,q⟩:=r.get (i:=i) (x:=V.bl bs[i]) (by rw[gQm,gQe hb];rfl)
 have e':its[i]?=some v:=by simpa using h
 rw[e] at e'
 cases e'
 have d:bs.getD i false=bs[i]:=by rw[Qlq,gQe hb];rfl
 rw[d]
 exact q
theorem zt:∀bs:List Bool,(List.range bs.length).all (fun i=>bs.getD i false)=bs.all id
 | []=>rfl
 | b::bs=>by
   rw[Qnq,List.range_succ_eq_map,List.all_cons,List.all_map,List.all_cons,←zt bs]
   rfl
def LG(K:PySem.W.Frag)(f:List Bool->Bool):List V->Hp->VK->Prop:=fun xs H Q=>∃a bs,xs= [.ref a]/\ik K H a (bs.map V.bl)/\Q (.bl (f bs)) H
def Dc(hc:X.calm=true):jS X (.builtin "all") (LG X.K fun bs=>bs.all id):=by
 intro pins s σ H xs us Q I r h
 obtain⟨a,bs,rfl,ha,q⟩:=h
 obtain⟨u,rfl,rx⟩:=vals1 r
 cases (show u=Value.ref a from rx)
 obtain⟨its,rv,pl,hz⟩:=I.list ha
 have hl:its.toArray.size=bs.length:=by have:=rv.length;simp at this;simp[this]
 have hlt:a<s.heap.objs.size:=by obtain⟨o,e,_⟩:=pl.isList;exact Qiq e
 refine call_all_walk (wpAny_pyIter_list pl.isList ⟨s.heap.objs.size,_,_,_,_,_,fun i=>bs.getD i false,rfl,Walks.list (A:=X.A.in1) (show X.A.in1.handled=none from I.ok.hd hc) s.heap.objs.size a (Qwq hlt) its.toArray,⟨⟨_,Qrq _ rfl,rfl,rfl⟩,pl.isList.at fun o e=>Qcq _ e⟩,?_,fun h' tk hk=> ?_⟩)
 ·intro i v s' Q' E' hv hq
  rw[D7 rv hv]
  exact wpAny_truthy_bool hq
 ·rw[hl,zt]
  refine⟨.bl _,H,I.kept (h':=h') fun b o e=>hk b o ?_ (Qcq _ e),rfl,q⟩
  have:=Qiq e
  simp
  exact Qwq this
end
end L2
namespace Dk
open PySem
def sm:mroOf (Value.type "dict")=pure [Value.type "dict",Value.type "object"]:=by
 rw[mroOf_type]
 rfl
def rC:typeLookup (Value.type "dict") (Str.ofString "__new__")=pure (some (Value.builtin "dict.__new__")):=by
 rw[typeLookup_type,builtinLookup_eq_fast]
 rfl
def zq:isSubtype (Value.type "dict") (Value.type "dict")=pure true:=by
 rw[isSubtype_type]
 rfl
def iJ:plainId "dict.__new__"=true:=by decide +kernel
def dI:TypeCalled "dict" "dict.__new__" "dict.__init__" where
 notType:=by decide +kernel
 canCreate:=by decide +kernel
 mro:=⟨_,_,sm⟩
 made:=madeBy_type sm rC (by decide +kernel)
 plain:=iJ
 sub:=zq
 init:=F.slot_dict_init
def rL(a:Value):checkTypeCall "dict" {pos:= [a]}=pure ():=by rfl
def sj(a:Value):checkBuiltinCall "dict.__new__" {pos:= [Value.type "dict",a]}=pure ():=by with_unfolding_all rfl
def tN:entryFor table "dict.__new__"=some Builtin.«dict.__new__»:=by rfl
def rG{prog:Program}{w:World}{A:Around}{E:Value->Shared->Prop}{s:Shared}(a:Value){Q₁:Value->Shared->Prop}
  (h:Q₁ (.ref s.heap.objs.size) {s with heap:=s.heap.push {cls:=.type "dict",data:=.dict #[]}}):
  codeAny (model prog w) A (.call (.builtin "dict.__new__") {pos:= [.type "dict",a]}) (wants Q₁ E) s:=by
 refine codeAny_of_tree ?_
 show wpAny _ _ (do checkBuiltinCall "dict.__new__" _;_) _ _ _
 refine Qaq (wpAny_of_eq (sj a) (Qgq ⟨plainId_quiet iJ _,codeAny_builtin tN ?_⟩))
 rw[Around.under_plainId iJ]
 refine Qaq (Qgq (wpAny_ite_false rfl (Qaq (wpAny_of_eq zq (wpAny_ite_false rfl (Qaq (wpAny_of_eq sm (wpAny_ite_false ?_ ?_))))))))
 ·rfl
 ·refine Qaq ?_
  have e:newObj (.type "dict") (.dict #[])=newObjAsIs (.type "dict") (.dict #[]):=by
   unfold newObj
   simp
  rw[e]
  exact Qaq (wpAny_alloc (Qgq (Qgq h)))
def zj{prog:Program}{w:World}{A:Around}{E:Value->Shared->Prop}{s:Shared}{a:Value}{Q:Value->Shared->Prop}
  (h:wpAny (model prog w) A.in1.in1 (Builtin.«dict.__init__» {pos:= [.ref s.heap.objs.size,a]})
   (fun fin s'=>match fin with|.done f=>wants (fun r s₂=>r=.none/\Q (.ref s.heap.objs.size) s₂) E (.ok f) s'|.again c'=>c'.quiet=true/\codeAny (model prog w) A.in1 c' (wants (fun r s₂=>r=.none/\Q (.ref s.heap.objs.size) s₂) E) s')
   (fun e s'=>wants (fun r s₂=>r=.none/\Q (.ref s.heap.objs.size) s₂) E (.error e) s') {s with heap:=s.heap.push {cls:=.type "dict",data:=.dict #[]}}):
  wpAny (model prog w) A (call (.type "dict") [a]) Q E s:=by
 obtain⟨c,tl,hmro⟩:=dI.mro
 have hmade:=dI.made
 have hsub:=dI.sub
 refine wpAny_call (codeAny_of_tree ?_)
 refine Qgq ⟨Code.quiet_builtin _ (by decide +kernel),codeAny_builtin F.entry_type_call ?_⟩
 rw[Around.under_plain (weight_type_call_type "dict" [a] []) rfl]
 have h1:=dI.notType
 have h2:=dI.canCreate
 have hct:=rL a
 unfold Builtin.«type.__call__»
 dsimp only
 refine wpAny_ite_false rfl ?_
 refine wpAny_ite_false (by rw[h2];rfl) ?_
 refine Qaq (wpAny_of_eq hct (Qaq (wpAny_of_eq hmro (wpAny_ite_false rfl (Qaq (wpAny_of_eq hmade (Qaq (Qgq (Qaq (QLq (wpAny_call (codeAny_mono (rG (E:=E) (Q₁:=fun v s₁=>v=.ref s.heap.objs.size/\s₁={s with heap:=s.heap.push {cls:=.type "dict",data:=.dict #[]}}) a ⟨rfl,rfl⟩) fun r s₁ hr=> ?_))))))))))))
 cases r with
 |error e=>exact hr
 | ok fl=>
   cases fl with
   | ret obj=>
     obtain⟨rfl,rfl⟩:=hr
     have hS:=Qrq s.heap (o:={cls:=.type "dict",data:=.dict #[]}) rfl
     have hT:Shared.TypeIs {s with heap:=s.heap.push {cls:=.type "dict",data:=.dict #[]}} (.ref s.heap.objs.size) "dict":=⟨_,hS,rfl⟩
     have hli:=dI.init.lookup
     have hbi:=dI.init.bind (.ref s.heap.objs.size)
     refine Qaq (wpAny_isInstance hT hsub (wpAny_ite_false rfl (Qaq (QLq ?_))))
     unfold callSpecial?
     refine Qaq (wpAny_specialOf hT hli (QLq (Qaq (wpAny_of_eq hbi (Qaq (wpAny_call (codeAny_mono (codeAny_call_builtin dI.init.plain F.entry_dict_init (dI.init.check _ _ _ _ _ [a] [] _ hT (F.args_dict_init_2 _ _) h)) fun r s₂ hr=> ?_)))))))
     cases r with
     |error e=>exact hr
     | ok fl=>
       cases fl with
       | ret v=>
         obtain⟨rfl,hq⟩:=hr
         exact Qgq (wpAny_ite_false rfl (Qgq hq))
       |_=>exact hr.elim
   |_=>exact hr.elim
def kM:entryFor table "dict.update.loop"=some Builtin.«dict.update.loop»:=by rfl
def hG:plainId "dict.update.loop"=true:=by decide +kernel
section
variable{prog:Program}{w:World}{K:Type}[DecidableEq K]{knd:KeyKind prog w K}
def Ay(kvs:List (K×Value))(k:K)(v:Value):(stored kvs k v).length<=kvs.length+1:=by
 unfold stored
 split
 ·rw[lQm];omega
 ·rw[lQa];simp
def IU(kk:Nat->K)(vv:Nat->Value):Nat->List (K×Value)
 |0=> []
 |i+1=>stored (IU kk vv i) (kk i) (vv i)
theorem Cj(kk:Nat->K)(vv:Nat->Value):∀i,(IU kk vv i).length<=i
 |0=>Qmq _
 |i+1=>QAq (Ay _ _ _) (Nat.succ_le_succ (Cj kk vv i))
end
end Dk
namespace L2
open PySem PySem.Spec PyProof.Rows
section
variable{X:Cx}
def key_is{k:Key}{u:Value}(r:RelV (kV k) u)(P:Program)(w:World):(cq P w).is k u=true:=by
 cases k with
 |inl i=>obtain⟨t,rfl⟩:=(show∃t,u=Value.int i t from r);simp[cq,qz,Value.isInt]
 |inr x=>obtain⟨t,rfl⟩:=(show∃t,u=Value.str x t from r);simp[cq,qz,Value.isStrOf]
end
end L2
namespace Dk
open PySem
end Dk
namespace L2
open PySem PySem.Spec PyProof.Rows
def G9{X:Cx}{N:List Str}{js:List (Option Nat)}{scope:Scope}{cl:List (Str×Addr)}{tg iter elt tgt:Expr}{ifs:List Expr}{pos spos:Pos}{wi:TI}{g gt:TG}{tt:TT}{te:TE}
  (S:a9 X N js scope cl) (hc:X.calm=true) (hi:PI X tg iter wi)
  (hg:∀C s H fp,PG (bo X N scope cl C s H fp) tg g) (ht:∀C s H fp,rM (bo X N scope cl C s H fp) ifs tt) (he:∀C s H fp,PE (bo X N scope cl C s H fp) elt te) (hgt:PG X tgt gt)
  (hs:∀x,foldedSetIterable iter X.env x=pure x:=by intro _;rfl) (hsw:swapsWithSole [tgt] (.ListComp elt [⟨tg,iter,ifs,0⟩] scope pos) spos.line X.env=pure true:=by rfl)
  (h1:(assignEach [tgt] X.env).map (·.2)= [assign tgt X.env]:=by rfl):PS X (.Assign [tgt] (.ListComp elt [⟨tg,iter,ifs,0⟩] scope pos) spos) (Dq (Ea js wi g tt te) gt):=by
 intro pins s σ H Dn I h
 rw[exec_Assign_arm]
 refine Qaq (wpAny_standAt (Qaq (wpAny_of_eq hsw (wpAny_ite_true rfl (Qaq ?_)))))
 rw[h1]
 show wpAny _ _ (do let _←comprehension _ _ _ _ _ _ _ (some fun v=>assignAll v [assign tgt X.env]);pure ()) _ _ _
 refine Qaq ?_
 refine wpAny_comprehension_free (use:=some fun v=>assignAll v [assign tgt X.env]) rfl hs S.clos S.kind S.names (dr (hi pins s σ H _ I h) fun v s1 h1=>dr h1 fun itv s2 h2=> ?_)
 obtain⟨it,fp,tn,J,H2,e,I2,T,st2,f2,hD⟩:=h2
 subst e
 refine wpAny_newObj_type (wpAny_newFunctionEnv S.nocell (by intro y hy;simp at hy) (fun h₁ hns₁ hsb₁=> ?_) S.kind)
 dsimp only at hns₁ hsb₁⊢
 generalize hH2:s2.heap.push {cls:=.type "list",dict:=none,data:=.seq ([]:List Value).toArray}=P2 at hns₁ hsb₁⊢
 have hC:P2.objs.size=s2.heap.objs.size+1:=by rw[←hH2,Heap.size_push]
 have hDC:s2.heap.objs.size≠P2.objs.size:=by rw[hC];exact Qwq (Nat.lt_succ_self _)
 have hCle:s2.heap.objs.size<=P2.objs.size:=by rw[hC];exact Nat.le_succ _
 have below:∀b,b<s2.heap.objs.size->b≠P2.objs.size:=fun b hb=>by rw[hC];exact Qwq (Nat.lt_succ_of_lt hb)
 have old:∀b o,s2.heap.get? b=some o->h₁.get? b=some o:=fun b o e=>hsb₁.extBut b o (below b (Qiq e)) (Qcq _ (hH2▸Qcq _ e))
 have hnew:h₁.get? s2.heap.objs.size=some {cls:=.type "list",dict:=none,data:=.seq ([]:List Value).toArray}:=hsb₁.extBut _ _ hDC (Qcq _ (hH2▸Qrq _ rfl))
 have nD:H2 s2.heap.objs.size=none:=I2.fresh
 have nC:H2 P2.objs.size=none:=I2.hok.fresh hCle
 have fpo:∀b∈fp,b<s2.heap.objs.size:=fun b hb=>by
  obtain⟨o,e,_⟩:=T.obj _ _ st2 b hb
  exact Qiq e
 obtain⟨W,⟨m0,w0⟩,turn⟩:=hD s2.heap.objs.size nD
 have ok':(bo X N scope cl P2.objs.size s2 H2 fp).Ok:=by
  refine⟨I2.ok.mod,S.kind,I2.ok.glob,I2.ok.blt,hCle,fun x y c h1 h2=>I2.ok.inj x y c (S.sub x c h1) (S.sub y c h2),S.has,(fun x c h=>by cases h),I2.ok.hd,I2.ok.frames,.inl rfl,
   fun b hb=>⟨below b (fpo b hb),fun x c h=>(f2 b hb).2.2.2.2.1 x c (S.sub x c h)⟩,I2.bs,QAq I2.ok.bsz I2.sz,fun b o e hb=> ?_,fun b hb z=> ?_,I2.stack,I2.stkFree⟩
  ·rcases(f2 b hb).2.2.2.1 with z|z
   ·exact I2.ok.noex b o e z
   ·exact absurd (Qqq (Qqq (Qiq e) I2.ok.bsz) z) (Nat.lt_irrefl _)
  ·rcases Qsq.mp (I2.stkSub b z) with q|q
   ·exact(f2 b hb).2.1 q
   ·exact(f2 b hb).2.2.1 q
 have hobj:du X.prog X.w (upd H2 s2.heap.objs.size (.lst [])) h₁ s2.heap.objs.size (.lst []):=⟨Nat.zero_le _,[],0,.nil,hnew⟩
 have I4:Inv (bo X N scope cl P2.objs.size s2 H2 fp) [] (ki js σ) (upd H2 s2.heap.objs.size (.lst [])) {s2 with heap:=h₁,toks:=s2.toks+([]:List (Str×Value)).length}:=by
  refine⟨ok',rfl,I2.bare,Un.laid old (Qmq _) nD,⟨_,hns₁,fun i x v h1 h2 h3=> ?_⟩,fun x c h=> ?_,by show upd H2 _ _ P2.objs.size=none;rw[bC hDC.symm];exact nC,fun x c h=> ?_,fun p hp=>absurd (show p∈([]:List (Addr×Obj)) from hp) (by simp),I2.hok.laid old (Qmq _) hobj,by show(ki js σ).length=N.length;unfold ki;rw[lQm];exact S.len⟩
  ·unfold ki at h2
   rw[gQm] at h2
   cases e:js[i]? with
   |none=>rw[e] at h2;cases h2
   | some o=>
     rw[e] at h2
     cases o with
     |none=>cases h2
     | some j=>
       have h2':σ.getD j none=some v:=Option.some.inj h2
       have hj:σ[j]?=some (some v):=by
         rw[Qlq] at h2'
         cases q:σ[j]? with
         |none=>rw[q] at h2';cases h2'
         |some y=>rw[q] at h2';exact congrArg some h2'
       obtain⟨c1,c2,c3⟩:=S.cap i j x e h1
       obtain⟨m,hn,hl⟩:=I2.loc
       have vis:HM X.env.scope x:=by
         rcases c2 with z|z
         · exact .inr (.inl z)
         · exact .inr (.inr z)
       obtain⟨u,r,l⟩:=hl j x v c1 hj vis
       refine⟨u,r,.inr ⟨c3,?_⟩⟩
       obtain⟨c,hc'⟩:=S.has x c3
       refine⟨c,hc',?_⟩
       rcases l with⟨z,_⟩|⟨_,c',e',z⟩
       · rcases c2 with y|y <;>rw[y] at z <;>cases z
       · rw[S.sub x c hc'] at e'
         cases e'
         obtain⟨o,ho,hd⟩:=z
         exact⟨o,old _ _ ho,hd⟩
  ·obtain⟨v,o,ho,hd⟩:=I2.cell x c (S.sub x c h)
   exact⟨v,o,old _ _ ho,hd⟩
  ·obtain⟨v,o,ho,hd⟩:=I2.cell x c (S.sub x c h)
   rw[bC (Qwq (Qiq ho))]
   exact I2.freeC x c (S.sub x c h)
 have stat:∀{pins':List (Addr×Obj)} {H':Hp},pins'= []->(∀b∈fp,H' b=none)->∀b∈fp,pT (bo X N scope cl P2.objs.size s2 H2 fp) pins' H' b:=fun{pins' H'} ep hn b hb=>by
  subst ep
  refine⟨hn b hb,below b (fpo b hb),fun z=>ok'.exfs b hb z,.inl hb,fun x c h=>(f2 b hb).2.2.2.2.1 x c (S.sub x c h),fun p hp=>absurd (show p∈([]:List (Addr×Obj)) from hp) (by simp)⟩
 have loop:codeAny (model X.prog X.w) X.A (.compLoop (.ListComp elt [⟨tg,iter,ifs,0⟩] scope pos) 0 (.ref it) (.ref s2.heap.objs.size) (compEnvC scope cl P2.objs.size X.env))
   (compPost (model X.prog X.w) X.A X.xe (some fun v=>assignAll v [assign tgt X.env]) (fun _ s9=>wpAny (model X.prog X.w) X.A (pure ()) (fun _ s10=>wpAny (model X.prog X.w) X.A (pure Flow.next) (SP X pins Dn) X.xe s10) X.xe s9) (.ref s2.heap.objs.size) P2.objs.size) {s2 with heap:=h₁,toks:=s2.toks+([]:List (Str×Value)).length}:=by
  refine oP (fun n s'=>∃i σ' H',Inv (bo X N scope cl P2.objs.size s2 H2 fp) [] σ' H' s'/\tn i s'.heap/\(∀b∈fp,H' b=none)/\W i n σ' H') ?_ m0
   ⟨0,_,_,I4,T.keep _ _ _ st2 fun b _ o e=>old b o e,fun b hb=>by rw[bC (Qwq (fpo b hb))];exact(f2 b hb).1,w0⟩
  rintro n s3 ⟨i,σ3,H3,I3,st3,fr3,w3⟩
  rcases turn i n σ3 H3 w3 with⟨stop,q⟩|⟨go,Nx,hN,step⟩
  ·refine dr (T.done (bo X N scope cl P2.objs.size s2 H2 fp) rfl rfl rfl hc i [] s3 σ3 H3 _ I3 (stat rfl fr3) st3 stop) fun r s4 qr=> ?_
   obtain⟨hr,I5⟩:=qr
   subst hr
   obtain⟨m,hn,_⟩:=id I5.loc
   have toX:∀h',Heap.SameBut P2.objs.size s4.heap h'->Inv X pins σ H3 {s4 with heap:=h'}:=by
    intro h' hs'
    have u:=I5.base
    have ne:∀b o,s2.heap.get? b=some o->b≠P2.objs.size:=fun b o e=>below b (Qiq e)
    refine I2.call' (ch:=fp) I5.os ⟨fun b o e n hb hx=>(hs'.2 b (ne b o e)).trans (u.keep b o e n hb hx),fun b o e n hb hx=> ?_,u.free,fun b o e hx=> ?_,u.tups,u.frzs,u.tbls⟩ (fun b ob e=> ?_) I5.bare fun b hb=>⟨(f2 b hb).2.2.2.1,(f2 b hb).2.1,(f2 b hb).2.2.2.2.1,(f2 b hb).2.2.2.2.2⟩
    ·obtain⟨sl,e1⟩:=u.slot b o e n hb hx
     exact⟨sl,(hs'.2 b (ne b o e)).trans e1⟩
    ·obtain⟨o',e1⟩:=u.there b o e hx
     exact⟨o',(hs'.2 b (ne b o e)).trans e1⟩
    ·refine(I5.hok b ob e).stay (fun c w' hc q=>(hs'.2 c ?_).trans q) (fun _ q=>q) fun _ _ q=>q
     have fC:H3 P2.objs.size=none:=I5.free
     rintro rfl
     rcases hc with z|z
     ·rw[←z,fC] at e;cases e
     ·rw[fC] at z;cases z
   have IX:=toX s4.heap ⟨rfl,fun _ _=>rfl⟩
   have okC:pT X pins H3 P2.objs.size:=I2.fpOk hCle I5.free
   obtain⟨oC,es,ep,hoC,hdC,hrC⟩:=hn
   have IP:=IX.pinned (fp:= [P2.objs.size]) (fun b hb=>by rw[Qfq] at hb;rw[hb];exact okC) (fun b hb=>by rw[Qfq] at hb;rw[hb];exact⟨oC,hoC,fun v=>by rw[hdC];simp⟩)
   show wpAny _ _ (assignAll (.ref s2.heap.objs.size) [assign tgt X.env]) _ _ _
   rw[assignAll.eq_2]
   refine dr (hgt _ s4 σ H3 (.ref s2.heap.objs.size) (.ref s2.heap.objs.size) _ IP rfl q) fun _ s6 qr=> ?_
   obtain⟨σ6,H6,I6,q6⟩:=qr
   have pC:=I6.pin (P2.objs.size,oC) (Qoq _ (Qoq _ (dQ (Qfq.mpr rfl) hoC)))
   refine⟨m,⟨oC,es,ep,pC.1,hdC,hrC⟩,fun h' hs'=>Qgq (Qgq ⟨σ6,H6,?_,q6⟩)⟩
   exact I6.unpinned.turned (it:=P2.objs.size) (t':=s6.toks) (fun b o' hb e=>(hs'.2 b hb).trans e) pC.2.1 pC.2.2.1 okC.2.2.2.1 okC.2.2.2.2.1 okC.2.2.2.2.2
  ·refine dr (T.item (bo X N scope cl P2.objs.size s2 H2 fp) rfl rfl rfl hc i [] s3 σ3 H3 _ I3 (stat rfl fr3) st3 go) fun r s4 qr=> ?_
   obtain⟨u,hr,h4⟩:=qr
   subst hr
   refine dr h4 fun _ s5 qr=> ?_
   obtain⟨x,H5,I5,r5,y5,st5,fr5⟩:=qr
   have I5':=I5.pinned (stat rfl fr5) (T.obj _ _ st5)
   refine dr (hg P2.objs.size s2 H2 fp _ s5 σ3 H5 x u _ I5' r5 (step x H5 y5)) fun _ s6 qr=> ?_
   obtain⟨σ6,H6,I6,q6⟩:=qr
   refine dr (ht P2.objs.size s2 H2 fp _ s6 σ6 H6 _ I6 q6) fun ok s7 qr=> ?_
   obtain⟨H7,I7,q7⟩:=qr
   have again:∀{s8:Shared} {H8:Hp},Inv (bo X N scope cl P2.objs.size s2 H2 fp) ([]++nc fp s5.heap) σ6 H8 s8->Nx σ6 H8->∃m,m<n/\∃i σ' H',Inv (bo X N scope cl P2.objs.size s2 H2 fp) [] σ' H' s8/\tn i s8.heap/\(∀b∈fp,H' b=none)/\W i m σ' H':=fun{s8 H8} I8 n8=>by
    obtain⟨m',hm,w8⟩:=hN σ6 H8 n8
    refine⟨m',hm,i+1,σ6,H8,I8.unpinned,T.keep _ _ _ st5 fun b hb o e=>(I8.pin (b,o) (Qoq _ (Qoq _ (dQ hb e)))).1,fun b hb=> ?_,w8⟩
    obtain⟨o,e,d⟩:=T.obj _ _ st5 b hb
    exact(I8.pin (b,o) (Qoq _ (Qoq _ (dQ hb e)))).2.1
   cases ok with
   |false=>exact again I7 q7
   | true=>
     refine dr (he P2.objs.size s2 H2 fp _ s7 σ6 H7 _ I7 q7) fun yv s8 qr=> ?_
     obtain⟨y,H8,I8,ry,xs,hx,hl,n8⟩:=qr
     refine dr (pP (X:=bo X N scope cl P2.objs.size s2 H2 fp) _ s8 σ6 H8 (.ref s2.heap.objs.size) [y] (.ref s2.heap.objs.size) [yv] (fun _ H'=>Nx σ6 H') I8 rfl (.cons ry .nil) ⟨_,xs,y,rfl,rfl,hx,hl,n8⟩) fun _ s9 qr=> ?_
     obtain⟨z,H9,I9,_,q9⟩:=qr
     exact again I9 q9
 exact codeAny_compStart_list loop (T.self _ 0 _ _ _ (T.keep _ _ _ st2 fun b _ o e=>old b o e) loop)
end L2
namespace Dk
open PySem
end Dk
namespace L2
open PySem PySem.Spec PyProof.Rows
section
variable{X:Cx}
def Ge(K:PySem.W.Frag):List V->Hp->VK->Prop:=fun xs H Q=>∃(a:Addr) (ss:List Str),xs= [.ref a]/\ik K H a (ss.map V.str)/\ss.length<64/\∀(l:Addr) (out:List Str),H l=none->sortedS out=true->out.Perm ss->Q (.ref l) (upd H l (.lst (out.map V.str)))
theorem vM:∀{ys:List Str} {its:List Value},bS (ys.map V.str) its->StrsAre its ys
 | [],_,r=>by cases r;exact .nil
 | y::ys,_,r=>by
   cases r with
   | cons h t=>
     obtain⟨tk,rfl⟩:=h
     exact .cons y tk (vM t)
def xT{ss:List Str}{vs:List Value}(h:StrsAre vs ss):bS (ss.map V.str) vs:=by
 induction h with
 |nil=>exact .nil
 |cons y t _ ih=>exact .cons ⟨t,rfl⟩ ih
def xX:jS X (.builtin "sorted") (Ge X.K):=by
 intro pins s σ H xs us Q I r h
 obtain⟨a,ss,rfl,ha,h64,q⟩:=h
 obtain⟨u,rfl,rx⟩:=vals1 r
 cases (show u=Value.ref a from rx)
 obtain⟨its,rv,pl,hz⟩:=I.list ha
 have hil:its.length=ss.length:=by have:=rv.length;simpa using this.symm
 have big:s.heap.objs.size<=s.heap.objs.size+1:=Nat.le_succ _
 refine sorted_strs pl.isList (vM rv) (by omega) fun out ss' hA hp hs=> ?_
 obtain⟨e,he⟩:=sortedAll_at s.heap its out
 have hlen:ss'.length=ss.length:=hp.length_eq
 refine⟨.ref (s.heap.objs.size+1),_,I.laid (a:=s.heap.objs.size+1) (o:=.lst (ss'.map V.str)) (h':=sortedAll s.heap its out) (t':=s.toks) (fun b o hb=> ?_) big ⟨?_,out.toList,e,xT hA,?_⟩,rfl,q _ ss' (I.hok.fresh big) hs hp⟩
 ·exact sortedAll_old hb
 ·rw[lQm,hlen]
  exact QAq (nQl h64) (by decide)
 ·simpa using he
end
end L2
namespace Zp
open PySem
section
variable{prog:Program}{w:World}{A:Around}{E:Value->Shared->Prop}{s:Shared}
def KZ{i t:Addr}{k:Nat}{vs:Array Value}{v:Value}{Q:Value->Shared->Prop}(gi:s.heap.IsTupleIter i t k)(gt:s.heap.IsTuple t vs)(hv:vs[k]?=some v)
  (q:∀h',h'.IsTupleIter i t (k+1)->Heap.SameBut i s.heap h'->Q v {s with heap:=h'}):wpAny (model prog w) A (Builtin.SmallTypes.nextOf (.ref i)) Q E s:=by
 obtain⟨oi,g1,g2,g3⟩:=id gi
 obtain⟨ot,t1,_,nt,t2⟩:=gt
 unfold Builtin.SmallTypes.nextOf
 refine Qaq (wpAny_callSpecial?_slot (name:=Str.ofString "__next__") gi.typeIs F.slot_tuple_iterator_next (wpAny_call_entry F.slot_tuple_iterator_next gi.typeIs F.entry_tuple_iterator_next ?_ (F.args_tuple_iterator_next_1 _)))
 refine(?_:wpAny _ _ (field (.ref i) 0 >>= _) _ _ s)
 refine Qaq (QMq g1 g3 (x:=.ref t) rfl ?_)
 refine(?_:wpAny _ _ (if (Value.ref t==Value.none)=true then _ else _) _ _ s)
 rw[Quq (fun z=>by cases (show false=true from z))]
 refine(?_:wpAny _ _ (field (.ref i) 1 >>= _) _ _ s)
 refine Qaq (QMq g1 g3 (x:=.int k 0) rfl ?_)
 refine(?_:wpAny _ _ (seqItems? (.ref t) >>= _) _ _ s)
 refine Qaq (wpAny_seqItems t1 t2 ?_)
 simp only[Int.toNat_natCast,hv]
 refine Qaq (wpAny_setField g1 g3 (by simp) (Qgq ⟨v,rfl,Qgq (q _ ⟨_,Heap.get?_update_self _ g1 (Obj.isFreed_of_fields (Obj.data_mapFields g3 _)),(Obj.cls_mapFields ..).trans g2,?_⟩ (Heap.SameBut.update ..))⟩))
 rw[Obj.data_mapFields g3]
 simp[rawInt]
def Lq{i t:Addr}{k:Nat}{vs:Array Value}{Q:Value->Shared->Prop}(hA:A.handled=none)(gi:s.heap.IsTupleIter i t k)(gt:s.heap.IsTuple t vs)(hv:vs[k]?=none)
  (q:∀h' e,Heap.ExtBut i s.heap h'->(∃o,h'.get? e=some o/\o.cls=.type "StopIteration")->E (.ref e) {s with heap:=h'}):wpAny (model prog w) A (Builtin.SmallTypes.nextOf (.ref i)) Q E s:=by
 obtain⟨oi,g1,g2,g3⟩:=id gi
 obtain⟨ot,t1,_,nt,t2⟩:=gt
 unfold Builtin.SmallTypes.nextOf
 refine Qaq (wpAny_callSpecial?_slot (name:=Str.ofString "__next__") gi.typeIs F.slot_tuple_iterator_next (wpAny_call_entry F.slot_tuple_iterator_next gi.typeIs F.entry_tuple_iterator_next ?_ (F.args_tuple_iterator_next_1 _)))
 refine(?_:wpAny _ _ (field (.ref i) 0 >>= _) _ _ s)
 refine Qaq (QMq g1 g3 (x:=.ref t) rfl ?_)
 refine(?_:wpAny _ _ (if (Value.ref t==Value.none)=true then _ else _) _ _ s)
 rw[Quq (fun z=>by cases (show false=true from z))]
 refine(?_:wpAny _ _ (field (.ref i) 1 >>= _) _ _ s)
 refine Qaq (QMq g1 g3 (x:=.int k 0) rfl ?_)
 refine(?_:wpAny _ _ (seqItems? (.ref t) >>= _) _ _ s)
 refine Qaq (wpAny_seqItems t1 t2 ?_)
 simp only[Int.toNat_natCast,hv]
 refine Qaq (wpAny_rule (Qaq (wpAny_setField g1 g3 (by simp) ?_)))
 refine(?_:wpAny _ _ (newExc (.type "StopIteration") [] >>= _) _ _ _)
 refine Qaq ?_
 simp only[newExc,newTuple]
 refine Qaq (wpAny_newObj_type ?_ (by size_fits))
 refine Qaq (m:=firstArgMember _ _) (wpAny_of_eq (a:=Value.none) (by first|rfl|(simp only[firstArgMember];rfl)) (wpAny_newObj_type ?_ (by size_fits)))
 simp only[raiseNew]
 refine Qaq (wpAny_handled ?_)
 first|rw[show A.in1.handled=none from hA]|rw[hA]
 exact Qaq (Qgq (wpAny_throw (q _ _ (((Heap.SameBut.update ..).extBut.push _).push _) ⟨_,Qrq _ rfl,rfl⟩)))
end
def Rest(z O i j:Addr)(h h':Heap):Prop:=∀c o,c≠z->c≠O->c≠i->c≠j->h.get? c=some o->h'.get? c=some o
end Zp
namespace L2
open PySem PySem.Spec PyProof.Rows
section
variable{X:Cx}{pins:List (Addr×Obj)}{σ:St}{H:Hp}{s:Shared}{h':Heap}
def Inv.turnedL{t':Nat}{fp:List Addr}(I:Inv X pins σ H s)(hf:∀b∈fp,pT X pins H b)(k:∀b o,b∉fp->s.heap.get? b=some o->h'.get? b=some o):Inv X pins σ H {s with heap:=h',toks:=t'}:=by
 have nit:∀b u,H b=some u->b∉fp:=fun b u e z=>by rw[(hf b z).1] at e;cases e
 refine I.step (g':=s.gens) (d':=s.drawn) (ch:=fp) (fun b hb=>⟨(hf b hb).2.2.2.1,(hf b hb).2.1,(hf b hb).2.2.2.2.1,(hf b hb).2.2.2.2.2⟩) (fun b o _ _ hc e _=>k b o hc e) (fun b o _ _ hc e _=>⟨o.slots,k b o hc e⟩) (fun _ _ _ _ n=>n)
  (fun b o hc e=>⟨o,k b o hc e⟩) (fun _ _ e=>e) (fun _ _ _ e=>e) (fun b ps e=>⟨#[],by rw[e];simp⟩) (fun m hm=> ?_) (fun b u e=> ?_) I.bare
 ·obtain⟨o,es,ep,ho,r⟩:=hm
  exact⟨o,es,ep,k _ o (fun z=>(hf _ z).2.1 rfl) ho,r⟩
 ·refine(I.hok b u e).stay (fun c v hc q=>k c v ?_ q) (fun _ q=>q) fun _ _ q=>q
  rcases hc with z|z
  ·rw[z];exact nit b u e
  ·exact nit c _ z
def Inv.turnedNew{t':Nat}{fp:List Addr}{p:Addr}{o:HO}(I:Inv X pins σ H s)(hf:∀b∈fp,pT X pins H b)(k:∀b u,b∉fp->s.heap.get? b=some u->h'.get? b=some u)(hp:s.heap.objs.size<=p)
  (new:du X.prog X.w (upd H p o) h' p o):Inv X pins σ (upd H p o) {s with heap:=h',toks:=t'}:=by
 have hn:=I.hok.fresh hp
 have nit:∀b u,H b=some u->b∉fp:=fun b u e z=>by rw[(hf b z).1] at e;cases e
 have np:∀b u,H b=some u->upd H p o b=some u:=fun b u e=>by rw[bC (fO e hn)];exact e
 refine I.step (g':=s.gens) (d':=s.drawn) (ch:=fp) (fun b hb=>⟨(hf b hb).2.2.2.1,(hf b hb).2.1,(hf b hb).2.2.2.2.1,(hf b hb).2.2.2.2.2⟩) (fun b o _ _ hc e _=>k b o hc e) (fun b o _ _ hc e _=>⟨o.slots,k b o hc e⟩)
  (fun b u _ e n=>by rw[bC (fun z=>Nat.lt_irrefl _ (Qqq (Qiq e) (by rw[z];exact hp)))];exact n)
  (fun b o hc e=>⟨o,k b o hc e⟩) (fun b xs e=>np b _ e) (fun b u v e=>np b _ e) (fun b ps e=>⟨#[],by rw[np b _ e];simp⟩) (fun m hm=> ?_) (fun b u e=> ?_) I.bare
 ·obtain⟨o,es,ep,ho,r⟩:=hm
  exact⟨o,es,ep,k _ o (fun z=>(hf _ z).2.1 rfl) ho,r⟩
 ·by_cases hb:b=p
  ·subst hb
   rw[b_] at e
   cases e
   exact new
  ·rw[bC hb] at e
   refine(I.hok b u e).stay (fun c v hc q=>k c v ?_ q) (fun c q=>np c _ q) fun c _ q=>np c _ q
   rcases hc with z|z
   ·rw[z];exact nit b u e
   ·exact nit c _ z
end
end L2
namespace Zp
open PySem PySem.W PyProof.Rows
def pD:KasT (Array Nat)->List (Array Nat)
 |.ret p=> [p]
 |.ask _ _ k=>pD (k true)++pD (k false)
def uh(n:Nat):KasT (Array Nat)->Bool
 |.ret _=>true
 |.ask i j k=>decide (i<n)&&decide (j<n)&&decide (i≠j)&&uh n (k true)&&uh n (k false)
def rR:∀n:Nat,n<=3->2<=n->uh n (kas_sort n)=true/\(pD (kas_sort n)).all (fun p=>p.toList.isPerm (List.range n))=true:=by
 intro n h3 h2
 have:n=2\/n=3:=by omega
 rcases this with rfl|rfl
 ·decide +kernel
 ·decide +kernel
inductive eS(h:Heap):List Value->List Str->Prop
 |nil:eS h [] []
 |cons {a:Addr} {o:Obj} {xs:Array Value} {n:Nat} {x:Str} {t:Tok} {vs:List Value} {fs:List Str}:h.get? a=some o->o.cls=.type "tuple" ->o.data=.seq xs n->xs[0]?=some (.str x t)->eS h vs fs->eS h (.ref a::vs) (x::fs)
theorem eS.keep{h h':Heap}(k:∀a o,h.get? a=some o->o.cls=.type "tuple" ->h'.get? a=some o):∀{vs:List Value} {fs:List Str},eS h vs fs->eS h' vs fs
 |_,_,.nil=>.nil
 |_,_,.cons e c d f r=>.cons (k _ _ e c) c d f (r.keep k)
theorem eS.len{h:Heap}:∀{vs:List Value} {fs:List Str},eS h vs fs->vs.length=fs.length
 |_,_,.nil=>rfl
 |_,_,.cons _ _ _ _ r=>congrArg (·+1) r.len
theorem eS.get{h:Heap}:∀{vs:List Value} {fs:List Str} {i:Nat},eS h vs fs->i<fs.length->∃a o xs n t,vs.getD i Value.none=.ref a/\h.get? a=some o/\o.data=.seq xs n/\xs[0]?=some (.str (fs.getD i "") t)
 |_,_,0,.cons e c d f r,_=>⟨_,_,_,_,_,rfl,e,d,f⟩
 | _,_,i+1,.cons e c d f r,hi=>by
   have:=r.get (i:=i) (by simpa using hi)
   simpa using this
 |_,_,_,.nil,hi=>by simp at hi
theorem eS.firsts{h:Heap}:∀{vs:List Value} {fs:List Str},eS h vs fs->∃gs:List Value,KatTups h vs gs/\gs.length=fs.length/\∀v∈gs,∃x t,v=.str x t
 |_,_,.nil=>⟨[],KatTups.nil,rfl,by simp⟩
 | _,_,.cons e c d f r=>by
   obtain⟨gs,k,l,m⟩:=r.firsts
   exact⟨_::gs,KatTups.cons e c d f k,by simp[l],fun v hv=>by
     rcases Qsq.mp hv with z|z
     · exact⟨_,_,z⟩
     · exact m v z⟩
end Zp
namespace L2
open PySem PySem.Spec PyProof.Rows
mutual
inductive pM(N:Addr->Prop)(H:Hp):PyData->V->Prop
 |non:pM N H .none .non
 |bl (b:Bool):pM N H (.bool b) (.bl b)
 |int (i:Int):pM N H (.int i) (.int i)
 |str (x:Str):pM N H (.str x) (.str x)
 |tup {a:Addr} {us:List V} {xs:List PyData}:H a=some (.tup us)->kW N H xs us->pM N H (.tuple xs) (.ref a)
 |lst {a:Addr} {us:List V} {xs:List PyData}:H a=some (.lst us)->N a->kW N H xs us->pM N H (.list xs) (.ref a)
 |dct {a:Addr}:H a=some (.dK [])->pM N H (.dict []) (.ref a)
inductive kW(N:Addr->Prop)(H:Hp):List PyData->List V->Prop
 |nil:kW N H [] []
 |cons {x:PyData} {u:V} {xs:List PyData} {us:List V}:pM N H x u->kW N H xs us->kW N H (x::xs) (u::us)
end
section
variable{X:Cx}
mutual
theorem ju{pins:List (Addr×Obj)}{σ:St}{H:Hp}{s:Shared}{N:Addr->Prop}(I:Inv X pins σ H s)(hN:∀a,N a->a≠sysModules):∀{d:PyData} {v:V} {u:Value},pM N H d v->RelV v u->∃as,Reads s.heap u d as/\sysModules∉as
 |_,_,_,.non,r=>by cases r;exact⟨_,.none,by simp⟩
 |_,_,_,.bl b,r=>by cases r;exact⟨_,.bool b,by simp⟩
 |_,_,_,.int i,r=>by obtain⟨t,rfl⟩:=r;exact⟨_,.int i t,by simp⟩
 |_,_,_,.str x,r=>by obtain⟨t,rfl⟩:=r;exact⟨_,.str x t,by simp⟩
 | _,_,_,.tup (a:=a) h hs,r=>by
   cases r
   obtain⟨its,rv,⟨o,h1,h2,n,h3⟩,hz⟩:=I.tuple (iW.of h)
   obtain⟨as,ra,na⟩:=iC I hN hs rv
   exact⟨as,.tuple h1 h2 h3 (by simpa using ra),na⟩
 | _,_,_,.lst (a:=a) h n hs,r=>by
   cases r
   obtain⟨its,rv,pl,hz⟩:=I.list (ik.of h)
   obtain⟨o,h1,h2,n',h3⟩:=pl.isList
   obtain⟨as,ra,na⟩:=iC I hN hs rv
   exact⟨_,.list h1 h2 h3 (by simpa using ra),by rw[Qsq];exact fun e=>e.elim (fun e=>hN _ n e.symm) na⟩
 | _,_,_,.dct (a:=a) h,r=>by
   cases r
   obtain⟨_,hS,vs,kv,hd⟩:=yG I.hok h
   cases kv
   obtain⟨o,es,ep,h1,hx,h2,_,hp,_⟩:=hd
   have e0:es.toList= []:=List.eq_nil_of_length_eq_zero hp.length
   exact⟨_,.dict (as:= []) (bs:= []) (kvs:= []) h1 hx.1 h2 (by rw[e0];exact .nil) (by rw[e0];exact .nil),by
     simp
     intro e
     rw[e] at hS
     simp at hS⟩
theorem iC{pins:List (Addr×Obj)}{σ:St}{H:Hp}{s:Shared}{N:Addr->Prop}(I:Inv X pins σ H s)(hN:∀a,N a->a≠sysModules):∀{xs:List PyData} {us:List V} {vs:List Value},kW N H xs us->bS us vs->∃as,ReadsAll s.heap vs xs as/\sysModules∉as
 |_,_,_,.nil,r=>by cases r;exact⟨_,.nil,by simp⟩
 | _,_,_,.cons h hs,r=>by
   cases r with
   | cons r rr=>
     obtain⟨as,ra,na⟩:=ju I hN h r
     obtain⟨bs,rb,nb⟩:=iC I hN hs rr
     exact⟨_,.cons ra rb,by rw[mQa];exact fun e=>e.elim na nb⟩
end
end
section
variable{X:Cx}
def GQ:j0 X (binaryOp .Mult) (rI IntMulOk fun i j=>.int (i*j)):=LW fun _ _ _ _ _ _ _ hc q=>mul_int q hc
inductive vh(H:Hp):List Addr->List Str->Prop
 |nil:vh H [] []
 |cons {a:Addr} {x:Str} {us:List V} {rs:List Addr} {ss:List Str}:H a=some (.tup (.str x::us))->vh H rs ss->vh H (a::rs) (x::ss)
theorem yj{pins:List (Addr×Obj)}{σ:St}{H:Hp}{s:Shared}(I:Inv X pins σ H s):∀{rs:List Addr} {ss:List Str},vh H rs ss->Zp.eS s.heap (rs.map Value.ref) ss
 |_,_,.nil=>.nil
 | _,_,.cons (a:=a) h r=>by
   obtain⟨its,rv,⟨o,h1,h2,n,h3⟩,hz⟩:=I.tuple (iW.of h)
   cases rv with
   | cons r0 rr=>
     obtain⟨t,rfl⟩:=r0
     exact .cons (t:=t) h1 h2 h3 (by simp) (yj I r)
theorem vB:∀{rs:List Addr} {us:List Value},bS (rs.map V.ref) us->us=rs.map Value.ref
 | [],_,r=>by cases r;rfl
 | a::rs,_,r=>by
   cases r with
   | cons h t=>
     cases h
     rw[vB t]
     rfl
theorem t_:∀(rs:List Addr),bS (rs.map V.ref) (rs.map Value.ref)
 | []=>.nil
 |a::rs=>.cons rfl (t_ rs)
end
section
variable{X:Cx}
def Fv:Kv X (fun x y H Q=>∃p xs k v,x=.ref p/\y=.int ((k:Nat):Int)/\ik X.K H p xs/\xs[k]?=some v/\Q v H):=by
 intro pins s σ H x y v u Q I rx ry h
 obtain⟨p,xs,k,z,rfl,rfl,hq,he,q⟩:=h
 cases rx
 obtain⟨t,rfl⟩:=ry
 obtain⟨its,r,pl,hz⟩:=I.list hq
 obtain⟨w',ew,rw'⟩:=r.get he
 have hk:k<xs.length:=(gQs.mp he).1
 have hn:=lX
 exact wpAny_getItem_list pl.isList (x:=w') (Int.natCast_nonneg k) (by omega) (by simpa using ew) ⟨z,H,I,rw',q⟩
end
section
variable{X:Cx}
def E_(K:PySem.W.Frag):R2:=fun x y H Q=>∃a b xs,x=.ref a/\y=.ref b/\ik K H a xs/\ik K H b []/\Q (.bl (!xs.isEmpty)) H
def Fg(hu:X.A.units<cLine):j0 X (compareOp .NotEq) (E_ X.K):=by
 intro pins s σ H x y v u Q I rx ry h
 obtain⟨a,b,xs,rfl,rfl,ha,hb,q⟩:=h
 cases xs with
 |nil=>exact Kd hu pins s σ H _ _ v u Q I rx ry ⟨a,b,[],[],rfl,rfl,ha,hb,rfl,rfl,q⟩
 | cons z zs=>
   cases rx
   cases ry
   obtain⟨its,r,pl,hz⟩:=I.list ha
   obtain⟨jts,r',pl',hz'⟩:=I.list hb
   have l1:=r.length
   have l2:=r'.length
   exact SeqAt.RcNeAt.lists_lengths pl.isList pl'.isList (by simp[←l1,←l2]) hu _ _ _ _ ⟨.bl true,H,I,rfl,q⟩
end
end L2
namespace HT
open PySem PySem.Spec PyProof.Rows
section
variable{prog:Program}{w:World}{A:Around}{E:Value->Shared->Prop}{s:Shared}
def mE{t sl:Addr}{items:Array Value}{vl vu:Value}{lo hi:Option Int}{Q:Value->Shared->Prop}(ht:IsTup s.heap t items)(hs:s.heap.IsSliceOf sl vl vu .none)(pl:IsPart vl lo)(pu:IsPart vu hi)
  (hw:fI items.size 0 lo=0/\fI items.size items.size hi=items.size) (h:Q (.ref t) s):wpAny (model prog w) A (getItem (.ref t) (.ref sl)) Q E s:=by
 obtain⟨os,hos,hcs,hds⟩:=id hs
 have hTs:s.TypeIs (.ref sl) "slice":=⟨os,hos,hcs⟩
 unfold getItem
 try with_reducible refine QLq ?_
 first|refine Qaq (Qgq ?_)|skip
 refine Qaq (wpAny_sequenceKey ht.typeIs (by decide) ?_)
 refine Qaq (wpAny_callSpecial?_slot (name:=Str.ofString "__getitem__") ht.typeIs PyProof.Rows.slot_tuple_getitem
  (wpAny_call_entry PyProof.Rows.slot_tuple_getitem ht.typeIs entry_tuple_getitem ?_ (args_tuple_getitem _ _)))
 show wpAny _ _ (Builtin.Tuple.tupleItemsOf (.ref t) >>= _) _ _ s
 refine Qaq (tupleItemsOf_ ht ?_)
 refine Qaq (wpAny_typeOf hTs ?_)
 rw[Qhq (by decide)]
 refine Qaq (jE hs pl pu ?_)
 have hyes:(((fI items.size 0 lo:Nat):Int)==0&&(1:Int)==1&&(fI items.size items.size hi-fI items.size 0 lo)==items.size)=true:=by
  rw[hw.1,hw.2]
  simp
 show wpAny _ _ (if (((fI items.size 0 lo:Nat):Int)==0&&(1:Int)==1&&(fI items.size items.size hi-fI items.size 0 lo)==items.size)=true then _ else _) _ _ s
 rw[Qhq hyes]
 have ex:∀{A:Around} {E:Value->Shared->Prop} {R:Bool->Shared->Prop},R true s->wpAny (model prog w) A (Builtin.Tuple.tupleIsExact (.ref t)) R E s:=fun{A E R} h=>by
  unfold Builtin.Tuple.tupleIsExact
  exact Qaq (wpAny_typeOf ht.typeIs (Qgq h))
 refine Qaq (m:=Builtin.Tuple.tupleIsExact _) (ex ?_)
 rw[Qhq rfl]
 refine Qaq (wpAny_rule ?_)
 exact Qgq ⟨_,rfl,Qgq h⟩
end
end HT
namespace L2
open PySem PySem.Spec PyProof.Rows
def Mt(K:PySem.W.Frag):V->Option Int->Option Int->Hp->VK->Prop:=fun x lo hi H Q=>∃a xs,x=.ref a/\iW K H a xs∧
 (HT.fI xs.length 0 lo=0/\HT.fI xs.length xs.length hi=xs.length->Q (.ref a) H)/\(¬(HT.fI xs.length 0 lo=0/\HT.fI xs.length xs.length hi=xs.length)->∀p,H p=none->Q (.ref p) (upd H p (.tup (A9 xs lo hi))))
def HC{X:Cx}:MB X (Mt X.K):=by
 intro pins s σ H x v vl vu lo hi sl Q I rx hs pl pu h
 obtain⟨a,xs,rfl,hx,q1,q2⟩:=h
 by_cases hw:HT.fI xs.length 0 lo=0/\HT.fI xs.length xs.length hi=xs.length
 ·cases rx
  obtain⟨its,r,ht,hz⟩:=I.tuple hx
  have hlen:its.toArray.size=xs.length:=by rw[Qjq];exact r.length.symm
  refine⟨"tuple",_,PyProof.Rows.slot_tuple_getitem.lookup,ht.typeIs,?_⟩
  exact HT.mE ht hs pl pu (by rw[hlen];exact hw) ⟨.ref a,H,I,rfl,q1 hw⟩
 ·exact Ka pins s σ H _ v vl vu lo hi sl Q I rx hs pl pu ⟨a,xs,rfl,hx,hw,q2 hw⟩
end L2
namespace DL
open PySem PySem.Spec PyProof.Rows L2
inductive D where
 |non|bl (b:Bool)|int (i:Int)|str (x:Str)|tup (xs:List D)|ref (k:Nat)|fn (x:Str)
inductive O where
 |lst (xs:List D)|frz (xs:List D)|dct (kvs:List (Key×D))
abbrev aK:=List O
abbrev dh:=List (Option D)
structure Md where
 K:PySem.W.Frag
 mg:Str->Option Value
mutual
inductive Rel(M:Md)(ρ:List Addr)(H:Hp):D->V->Prop
 |non:Rel M ρ H .non .non
 |bl (b:Bool):Rel M ρ H (.bl b) (.bl b)
 |int (i:Int):Rel M ρ H (.int i) (.int i)
 |str (x:Str):Rel M ρ H (.str x) (.str x)
 |tup {a:Addr} {vs:List V} {ds:List D}:H a=some (.tup vs)->bq M ρ H ds vs->Rel M ρ H (.tup ds) (.ref a)
 |ref {k:Nat} {a:Addr}:ρ[k]?=some a->Rel M ρ H (.ref k) (.ref a)
 |fn {x:Str} {a:Addr}:M.mg x=some (.ref a)->Rel M ρ H (.fn x) (.ref a)
inductive bq(M:Md)(ρ:List Addr)(H:Hp):List D->List V->Prop
 |nil:bq M ρ H [] []
 |cons {d:D} {v:V} {ds:List D} {vs:List V}:Rel M ρ H d v->bq M ρ H ds vs->bq M ρ H (d::ds) (v::vs)
end
section
variable{M:Md}{ρ ρ':List Addr}{H H':Hp}
def MZ:HO->Prop
 |.tup _=>True
 |.frz _ _=>True
 |_=>False
structure cH(ρ:List Addr)(H:Hp)(ρ':List Addr)(H':Hp):Prop where
 pre:ρ <+: ρ'
 new:∀a∈ρ',a∈ρ\/H a=none
 keep:∀a o,H a=some o->a∉ρ\/MZ o->H' a=some o
 grow:∀a,H' a=none->H a=none
def cH.refl:cH ρ H ρ H:=⟨List.prefix_refl _,fun _ h=>.inl h,fun _ _ h _=>h,fun _ h=>h⟩
def cH.trans{ρ1 ρ2:List Addr}{H1 H2:Hp}(e:cH ρ H ρ1 H1)(f:cH ρ1 H1 ρ2 H2):cH ρ H ρ2 H2 where
 pre:=e.pre.trans f.pre
 new:=fun a h=>(f.new a h).elim (fun h=>e.new a h) fun h=>.inr (e.grow a h)
 keep:=fun a o h c=>f.keep a o (e.keep a o h c) (c.imp (fun n m=>(e.new a m).elim n fun z=>by rw[z] at h;cases h) id)
 grow:=fun a h=>e.grow a (f.grow a h)
def cH.laid{a:Addr}{o:HO}(h:H a=none):cH ρ H ρ (upd H a o) where
 pre:=List.prefix_refl _
 new:=fun _ h=>.inl h
 keep:=fun b o' e _=>by rw[bC];exact e;intro z;subst z;rw[h] at e;cases e
 grow:=fun b e=>by
  by_cases z:b=a
  ·subst z;exact h
  ·rw[bC z] at e;exact e
theorem kY{α:Type}:∀{l:List α},l.Nodup->∀{i j:Nat} {a:α},l[i]?=some a->l[j]?=some a->i=j
 | [],_,_,_,_,h,_=>by simp at h
 |x::l,n,0,0,_,_,_=>rfl
 | x::l,n,0,j+1,a,h1,h2=>by
   rw[List.nodup_cons] at n
   simp at h1 h2
   subst h1
   exact absurd (mQg h2) n.1
 | x::l,n,i+1,0,a,h1,h2=>by
   rw[List.nodup_cons] at n
   simp at h1 h2
   subst h2
   exact absurd (mQg h1) n.1
 | x::l,n,i+1,j+1,a,h1,h2=>by
   rw[List.nodup_cons] at n
   simp at h1 h2
   exact congrArg (·+1) (kY n.2 h1 h2)
def cR{α β:Type}{a c:α}{b d:β}(h:some (a,b)=some (c,d)):a=c/\b=d:=by cases h;exact⟨rfl,rfl⟩
def dz{α:Type}{l l':List α}(h:l <+: l'){k:Nat}{a:α}(e:l[k]?=some a):l'[k]?=some a:=by
 obtain⟨t,rfl⟩:=h
 rw[QHq (gQs.mp e).1]
 exact e
mutual
theorem Rel.ext(e:cH ρ H ρ' H'):∀{d:D} {v:V},Rel M ρ H d v->Rel M ρ' H' d v
 |_,_,.non=>.non
 |_,_,.bl b=>.bl b
 |_,_,.int i=>.int i
 |_,_,.str x=>.str x
 |_,_,.tup h hs=>.tup (e.keep _ _ h (.inr trivial)) (bq.ext e hs)
 |_,_,.ref h=>.ref (dz e.pre h)
 |_,_,.fn h=>.fn h
theorem bq.ext(e:cH ρ H ρ' H'):∀{ds:List D} {vs:List V},bq M ρ H ds vs->bq M ρ' H' ds vs
 |_,_,.nil=>.nil
 |_,_,.cons h hs=>.cons (Rel.ext e h) (bq.ext e hs)
end
mutual
theorem Rel.pre(e:ρ <+: ρ'):∀{d:D} {v:V},Rel M ρ H d v->Rel M ρ' H d v
 |_,_,.non=>.non
 |_,_,.bl b=>.bl b
 |_,_,.int i=>.int i
 |_,_,.str x=>.str x
 |_,_,.tup h hs=>.tup h (bq.pre e hs)
 |_,_,.ref h=>.ref (dz e h)
 |_,_,.fn h=>.fn h
theorem bq.pre(e:ρ <+: ρ'):∀{ds:List D} {vs:List V},bq M ρ H ds vs->bq M ρ' H ds vs
 |_,_,.nil=>.nil
 |_,_,.cons h hs=>.cons (Rel.pre e h) (bq.pre e hs)
end
theorem bq.length:∀{ds:List D} {vs:List V},bq M ρ H ds vs->ds.length=vs.length
 |_,_,.nil=>rfl
 |_,_,.cons _ h=>congrArg (·+1) h.length
theorem bq.append:∀{ds es:List D} {vs ws:List V},bq M ρ H ds vs->bq M ρ H es ws->bq M ρ H (ds++es) (vs++ws)
 |_,_,_,_,.nil,h=>h
 |_,_,_,_,.cons h hs,h'=>.cons h (hs.append h')
theorem bq.get:∀{ds:List D} {vs:List V} {i:Nat} {d:D},bq M ρ H ds vs->ds[i]?=some d->∃v,vs[i]?=some v/\Rel M ρ H d v
 |_,_,0,_,.cons h _,e=>by cases e;exact⟨_,rfl,h⟩
 |_,_,i+1,_,.cons _ hs,e=>hs.get (i:=i) (by simpa using e)
 |_,_,_,_,.nil,e=>by simp at e
theorem bq.set{d:D}{v:V}(h:Rel M ρ H d v):∀{ds:List D} {vs:List V} (i:Nat),bq M ρ H ds vs->bq M ρ H (ds.set i d) (vs.set i v)
 |_,_,_,.nil=>.nil
 |_,_,0,.cons _ t=>.cons h t
 |_,_,i+1,.cons q t=>.cons q (bq.set h i t)
theorem bq.take:∀{ds:List D} {vs:List V} (n:Nat),bq M ρ H ds vs->bq M ρ H (ds.take n) (vs.take n)
 |_,_,0,_=>.nil
 |_,_,_+1,.nil=>.nil
 |_,_,n+1,.cons h hs=>.cons h (hs.take n)
theorem bq.drop:∀{ds:List D} {vs:List V} (n:Nat),bq M ρ H ds vs->bq M ρ H (ds.drop n) (vs.drop n)
 |_,_,0,h=>h
 |_,_,_+1,.nil=>.nil
 |_,_,n+1,.cons _ hs=>hs.drop n
theorem bq.eraseIdx:∀{ds:List D} {vs:List V} (n:Nat),bq M ρ H ds vs->bq M ρ H (ds.eraseIdx n) (vs.eraseIdx n)
 |_,_,_,.nil=>.nil
 |_,_,0,.cons _ h=>h
 |_,_,n+1,.cons h hs=>.cons h (hs.eraseIdx n)
theorem bq.rep{ds:List D}{vs:List V}(h:bq M ρ H ds vs):∀k:Nat,bq M ρ H (List.replicate k ds).flatten (List.replicate k vs).flatten
 |0=>.nil
 |k+1=>by rw[QNq,QNq,List.flatten_cons,List.flatten_cons];exact h.append (h.rep k)
def cJ(M:Md)(ρ:List Addr)(H:Hp):List (Key×D)->List (Key×V)->Prop
 | [],kv=>kv= []
 |(k,d)::r,kv=>∃v t,kv=(k,v)::t/\Rel M ρ H d v/\cJ M ρ H r t
theorem cJ.imp{ρ':List Addr}{H':Hp}(f:∀d v,Rel M ρ H d v->Rel M ρ' H' d v):∀{l:List (Key×D)} {kv:List (Key×V)},cJ M ρ H l kv->cJ M ρ' H' l kv
 | [],_,h=>h
 |(_,_)::_,_,⟨v,t,e,h,hs⟩=>⟨v,t,e,f _ _ h,cJ.imp f hs⟩
theorem cJ.length:∀{l:List (Key×D)} {kv:List (Key×V)},cJ M ρ H l kv->l.length=kv.length
 | [],_,h=>by cases h;rfl
 |(_,_)::_,_,⟨v,t,e,h,hs⟩=>by subst e;exact congrArg (·+1) hs.length
def oQ(M:Md)(ρ:List Addr)(H:Hp)(a:Addr):O->Prop
 |.lst ds=>∃vs,H a=some (.lst vs)/\bq M ρ H ds vs
 |.frz ds=>∃vs o,H a=some (.frz o (.lst vs))/\bq M ρ H ds vs
 |.dct kvs=>∃kv,H a=some (.dK kv)/\cJ M ρ H kvs kv
structure gG(M:Md)(ρ:List Addr)(S:aK)(H:Hp):Prop where
 len:ρ.length=S.length
 nd:ρ.Nodup
 obj:∀(k:Nat) (a:Addr) (o:O),ρ[k]?=some a->S[k]?=some o->oQ M ρ H a o
def oQ.lay{a b:Addr}{o:O}{u:HO}(h:oQ M ρ H a o)(hb:H b=none):oQ M ρ (upd H b u) a o:=by
 have e:cH ρ H ρ (upd H b u):=cH.laid hb
 have ne:∀{x},H a=some x->upd H b u a=some x:=fun{x} h=>by rw[bC];exact h;intro z;subst z;rw[hb] at h;cases h
 cases o with
 |lst ds=>obtain⟨vs,h1,h2⟩:=h;exact⟨vs,ne h1,h2.ext e⟩
 |frz ds=>obtain⟨vs,o,h1,h2⟩:=h;exact⟨vs,o,ne h1,h2.ext e⟩
 |dct kvs=>obtain⟨kv,h1,h2⟩:=h;exact⟨kv,ne h1,h2.imp fun _ _ r=>r.ext e⟩
def gG.lay{S:aK}{b:Addr}{u:HO}(h:gG M ρ S H)(hb:H b=none):gG M ρ S (upd H b u):=⟨h.len,h.nd,fun k a o h1 h2=>(h.obj k a o h1 h2).lay hb⟩
theorem oQ.pre{a:Addr}{o:O}(e:ρ <+: ρ')(h:oQ M ρ H a o):oQ M ρ' H a o:=by
 cases o with
 |lst ds=>obtain⟨vs,h1,h2⟩:=h;exact⟨vs,h1,h2.pre e⟩
 |frz ds=>obtain⟨vs,o,h1,h2⟩:=h;exact⟨vs,o,h1,h2.pre e⟩
 |dct kvs=>obtain⟨kv,h1,h2⟩:=h;exact⟨kv,h1,h2.imp fun _ _ r=>r.pre e⟩
def gG.box{S:aK}{a:Addr}{o:O}(h:gG M ρ S H)(hn:a∉ρ)(ho:oQ M (ρ++ [a]) H a o):gG M (ρ++ [a]) (S++ [o]) H where
 len:=by rw[lQa,lQa,h.len];rfl
 nd:=by rw[List.nodup_append];exact⟨h.nd,by simp,fun x hx y hy=>by rw[Qfq] at hy;subst hy;exact fun z=>hn (z▸hx)⟩
 obj:=fun k b u h1 h2=>by
  by_cases c:k<ρ.length
  ·rw[QHq c] at h1
   rw[QHq (h.len▸c)] at h2
   exact(h.obj k b u h1 h2).pre (List.prefix_append _ _)
  ·have c:ρ.length<=k:=Nat.le_of_not_lt c
   rw[QQq c] at h1
   rw[QQq (h.len▸c)] at h2
   have z:k-ρ.length=0:=by
    have:=(gQs.mp h1).1
    simp at this
    omega
   have z2:k-S.length=0:=by rw[←h.len];exact z
   rw[z] at h1
   rw[z2] at h2
   cases h1
   cases h2
   exact ho
def gG.put{S:aK}{k:Nat}{a:Addr}{o o':O}{u:HO}(h:gG M ρ S H)(hk:ρ[k]?=some a)(ho:S[k]?=some o)(hu:oQ M ρ (upd H a u) a o')(ne:∀x,H a=some x->¬MZ x):gG M ρ (S.set k o') (upd H a u)/\cH ρ H ρ (upd H a u):=by
 have ma:a∈ρ:=mQg hk
 have e:cH ρ H ρ (upd H a u):=by
  refine⟨List.prefix_refl _,fun _ h=>.inl h,fun b x hx c=> ?_,fun b hb=> ?_⟩
  ·rw[bC]
   ·exact hx
   ·intro z
    subst z
    exact c.elim (fun n=>n ma) fun im=>ne _ hx im
  ·by_cases z:b=a
   ·subst z;rw[b_] at hb;cases hb
   ·rw[bC z] at hb;exact hb
 refine⟨⟨by rw[List.length_set];exact h.len,h.nd,fun j b p h1 h2=> ?_⟩,e⟩
 by_cases c:j=k
 ·subst c
  rw[hk] at h1
  cases h1
  rw[Qyq (gQs.mp ho).1] at h2
  cases h2
  exact hu
 ·rw[QKq (Ne.symm c)] at h2
  have ba:b≠a:=by
   intro z
   subst z
   have l1:=(gQs.mp h1)
   have l2:=(gQs.mp hk)
   obtain⟨l1,e1⟩:=l1
   obtain⟨l2,e2⟩:=l2
   exact c (kY h.nd h1 hk)
  have q:=h.obj j b p h1 h2
  cases p with
  |lst ds=>obtain⟨vs,q1,q2⟩:=q;exact⟨vs,by rw[bC ba];exact q1,q2.ext e⟩
  |frz ds=>obtain⟨vs,o,q1,q2⟩:=q;exact⟨vs,o,by rw[bC ba];exact q1,q2.ext e⟩
  |dct kvs=>obtain⟨kv,q1,q2⟩:=q;exact⟨kv,by rw[bC ba];exact q1,q2.imp fun _ _ r=>r.ext e⟩
end
structure En(M:Md)(ρ:List Addr)(H:Hp)(Γ:dh)(σ:L2.St):Prop where
 len:σ.length=Γ.length
 get:∀(i:Nat) (d:D),Γ[i]?=some (some d)->∃v,σ[i]?=some (some v)/\Rel M ρ H d v
def En.ext{M:Md}{ρ ρ':List Addr}{H H':Hp}{Γ:dh}{σ:L2.St}(h:En M ρ H Γ σ)(e:cH ρ H ρ' H'):En M ρ' H' Γ σ:=⟨h.len,fun i d q=>by obtain⟨v,h1,h2⟩:=h.get i d q;exact⟨v,h1,h2.ext e⟩⟩
def En.set{M:Md}{ρ:List Addr}{H:Hp}{Γ:dh}{σ:L2.St}{i:Nat}{d:D}{v:V}(h:En M ρ H Γ σ)(r:Rel M ρ H d v):En M ρ H (Γ.set i (some d)) (σ.set i (some v)) where
 len:=by rw[List.length_set,List.length_set];exact h.len
 get:=fun j e q=>by
  by_cases c:i=j
  ·subst c
   have l:i<Γ.length:=by
    have:=(gQs.mp q).1
    rwa [List.length_set] at this
   rw[Qyq l] at q
   cases q
   exact⟨v,Qyq (h.len▸l),r⟩
  ·rw[QKq c] at q⊢
   exact h.get j e q
structure Ok(M:Md)(ρ:List Addr)(Γ:dh)(S:aK)(σ:L2.St)(H:Hp):Prop where
 en:En M ρ H Γ σ
 st:gG M ρ S H
def Ok.to{M:Md}{ρ ρ':List Addr}{Γ:dh}{S S':aK}{σ:L2.St}{H H':Hp}(h:Ok M ρ Γ S σ H)(e:cH ρ H ρ' H')(s:gG M ρ' S' H'):Ok M ρ' Γ S' σ H':=⟨h.en.ext e,s⟩
abbrev bN:=dh->aK->Option (D×aK)
abbrev g9:=dh->aK->Option (List D×aK)
abbrev kd:=dh->aK->Option (Bool×aK)
def tD(M:Md)(f:bN):TE:=fun σ H Q=>∃ρ Γ S d S',Ok M ρ Γ S σ H/\f Γ S=some (d,S')/\∀ρ' v H',cH ρ H ρ' H'->gG M ρ' S' H'->Rel M ρ' H' d v->Q v H'
def tL(M:Md)(f:g9):TE:=fun σ H Q=>∃ρ Γ S ds S',Ok M ρ Γ S σ H/\f Γ S=some (ds,S')∧
 ∀ρ' a vs H',cH ρ H ρ' H'->gG M ρ' S' H'->H a=none->a∉ρ'->H' a=some (.lst vs)->bq M ρ' H' ds vs->Q (.ref a) H'
def zr(M:Md)(f:g9):TA:=fun σ H Q=>∃ρ Γ S ds S',Ok M ρ Γ S σ H/\f Γ S=some (ds,S')/\∀ρ' vs H',cH ρ H ρ' H'->gG M ρ' S' H'->bq M ρ' H' ds vs->Q vs H'
def tB(M:Md)(f:kd):TT:=fun σ H Q=>∃ρ Γ S b S',Ok M ρ Γ S σ H/\f Γ S=some (b,S')/\∀ρ' H',cH ρ H ρ' H'->gG M ρ' S' H'->Q b H'
section
variable{X:Cx}
abbrev md(X:Cx):Md:=⟨X.K,X.mg⟩
def kR{e:Expr}{t t':TE}(h:PE X e t)(w:∀σ H Q,t' σ H Q->t σ H Q):PE X e t':=fun pins s σ H Q I q=>h pins s σ H Q I (w _ _ _ q)
def LZ{e:Expr}{t t':TT}(h:PT X e t)(w:∀σ H Q,t' σ H Q->t σ H Q):PT X e t':=fun pins s σ H Q I q=>h pins s σ H Q I (w _ _ _ q)
def MW{e:Expr}{t t':TT}(h:PW X e t)(w:∀σ H Q,t' σ H Q->t σ H Q):PW X e t':=fun wh pins s σ H Q I q=>h wh pins s σ H Q I (w _ _ _ q)
def MY{es:List Expr}{t t':TA}(h:PA X es t)(w:∀σ H Q,t' σ H Q->t σ H Q):PA X es t':=fun pos pins s σ H Q I q=>h pos pins s σ H Q I (w _ _ _ q)
def B7{e:Stmt}{t t':TS}(h:PS X e t)(w:∀D σ H,t' D σ H->t D σ H):PS X e t':=fun pins s σ H D I q=>h pins s σ H D I (w _ _ _ q)
def K7{e:List Stmt}{t t':TS}(h:rV X e t)(w:∀D σ H,t' D σ H->t D σ H):rV X e t':=fun pins s σ H D I q=>h pins s σ H D I (w _ _ _ q)
noncomputable def aq(i:Nat):bN:=fun Γ S=>match Γ[i]? with
 |some (some d)=>some (d,S)
 |_=>none
def DH{i:Nat}{Γ:dh}{S:aK}{d:D}{S':aK}(h:aq i Γ S=some (d,S')):Γ[i]?=some (some d)/\S'=S:=by
 unfold aq at h
 split at h
 ·cases h;exact⟨by assumption,rfl⟩
 ·cases h
def LC{e:Expr}{i:Nat}(h:PE X e (Jf i)):PE X e (tD (md X) (aq i)):=kR h fun σ H Q qq=>by
 obtain⟨ρ,Γ,S,d,S',ok,e,q⟩:=qq
 obtain⟨e1,rfl⟩:=DH e
 obtain⟨v,h1,h2⟩:=ok.en.get i d e1
 exact⟨v,h1,q ρ v H cH.refl ok.st h2⟩
noncomputable def cF(d:D):bN:=fun _ S=>some (d,S)
def d0{e:Expr}{v:V}{d:D}(h:PE X e (tC v))(r:∀ρ H,Rel (md X) ρ H d v):PE X e (tD (md X) (cF d)):=kR h fun σ H Q qq=>by
 obtain⟨ρ,Γ,S,d',S',ok,e,q⟩:=qq
 cases e
 exact q ρ v H cH.refl ok.st (r _ _)
def au{i:Int}{j pos}:PE X (.Constant (.int i) j pos) (tD (md X) (cF (.int i))):=d0 JD fun _ _=>.int i
def sS{b:Bool}{j pos}:PE X (.Constant (.bool b) j pos) (tD (md X) (cF (.bl b))):=d0 LL fun _ _=>.bl b
def yI{j pos}:PE X (.Constant .none j pos) (tD (md X) (cF .non)):=d0 JB fun _ _=>.non
def bH{x:Str}{j pos}:PE X (.Constant (.str x) j pos) (tD (md X) (cF (.str x))):=d0 ID fun _ _=>.str x
def cM(f:g9):bN:=fun Γ S=>(f Γ S).bind fun(ds,S')=>some (.ref S'.length,S'++ [.lst ds])
def cE{e:Expr}{f:g9}(h:PE X e (tL (md X) f)):PE X e (tD (md X) (cM f)):=kR h fun σ H Q qq=>by
 obtain⟨ρ,Γ,S,d,S',ok,e,q⟩:=qq
 unfold cM at e
 cases e1:f Γ S with
 |none=>rw[e1] at e;cases e
 | some p=>
   obtain⟨ds,S1⟩:=p
   rw[e1] at e
   obtain⟨rfl,rfl⟩:=cR e
   refine⟨ρ,Γ,S,ds,S1,ok,e1,fun ρ' a vs H' x st fr nr ha rs=> ?_⟩
   have rs':=rs.pre (List.prefix_append ρ' [a])
   refine q (ρ'++ [a]) (.ref a) H' ⟨x.pre.trans (List.prefix_append _ _),fun b hb=> ?_,x.keep,x.grow⟩ (st.box nr ⟨vs,ha,rs'⟩) (.ref ?_)
   · rcases mQa.mp hb with hb|hb
     · exact x.new b hb
     · rw[Qfq] at hb;subst hb;exact .inr fr
   · rw[←st.len,QQq (Qmq _)]
     simp
noncomputable def aw:g9:=fun _ S=>some ([],S)
noncomputable def ao(f:bN)(g:g9):g9:=fun Γ S=>(f Γ S).bind fun(d,S1)=>(g Γ S1).bind fun(ds,S2)=>some (d::ds,S2)
def ar{α β:Type}{o:Option α}{f:α->Option β}{b:β}(h:o.bind f=some b):∃a,o=some a/\f a=some b:=by
 cases o with
 |none=>cases h
 |some a=>exact⟨a,rfl,h⟩
def av:PA X [] (zr (md X) aw):=MY gK fun σ H Q qq=>by
 obtain⟨ρ,Γ,S,d,S',ok,e,q⟩:=qq
 cases e
 exact q ρ [] H cH.refl ok.st .nil
def ak{e:Expr}{es:List Expr}{f:bN}{g:g9}(ha:PE X e (tD (md X) f))(hr:PA X es (zr (md X) g))(hs:starEach (e::es) X.env=(false,eval e X.env)::starEach es X.env:=by rfl):PA X (e::es) (zr (md X) (ao f g)):=
 MY (dC ha hr hs) fun σ H Q qq=>by
  obtain⟨ρ,Γ,S,d,S',ok,e,q⟩:=qq
  obtain⟨⟨x,S1⟩,e1,e⟩:=ar e
  obtain⟨⟨xs,S2⟩,e2,e⟩:=ar e
  obtain⟨rfl,rfl⟩:=cR e
  refine⟨ρ,Γ,S,x,S1,ok,e1,fun ρ1 v H1 x1 st1 r1=>⟨ρ1,Γ,S1,xs,S2,ok.to x1 st1,e2,fun ρ2 vs H2 x2 st2 r2=> ?_⟩⟩
  exact q ρ2 (v::vs) H2 (x1.trans x2) st2 (.cons (r1.ext x2) r2)
def bA(f:g9):bN:=fun Γ S=>(f Γ S).bind fun(ds,S1)=>if ds.length<=sizeLine then some (.tup ds,S1) else none
def aY{es:List Expr}{f:g9}{k pos}(h:PA X es (zr (md X) f)):PE X (.Tuple es k pos) (tD (md X) (bA f)):=kR (II h) fun σ H Q qq=>by
 obtain⟨ρ,Γ,S,d,S',ok,e,q⟩:=qq
 obtain⟨⟨ds,S1⟩,e1,e⟩:=ar e
 dsimp only at e
 split at e
 ·rename_i c
  obtain⟨rfl,rfl⟩:=cR e
  refine⟨ρ,Γ,S,ds,S1,ok,e1,fun ρ1 vs H1 x1 st1 r1=>⟨r1.length▸c,fun p hp=> ?_⟩⟩
  exact q ρ1 (.ref p) _ (x1.trans (cH.laid hp)) (st1.lay hp) (.tup b_ (r1.ext (cH.laid hp)))
 ·cases e
def cg(f:g9):g9:=fun Γ S=>(f Γ S).bind fun(ds,S1)=>if ds.length<=sizeLine then some (ds,S1) else none
def dP{M:Md}{ρ ρ':List Addr}{S:aK}{H H':Hp}{p:Addr}(x:cH ρ H ρ' H')(st:gG M ρ' S H')(hp:H' p=none):p∉ρ':=fun m=>by
 obtain⟨k,hk⟩:=List.getElem?_of_mem m
 have l:k<S.length:=st.len▸(gQs.mp hk).1
 have:=st.obj k p _ hk (gQe l)
 cases e:S[k] with
 |lst ds=>rw[e] at this;obtain⟨vs,h,_⟩:=this;rw[hp] at h;cases h
 |frz ds=>rw[e] at this;obtain⟨vs,o,h,_⟩:=this;rw[hp] at h;cases h
 |dct ds=>rw[e] at this;obtain⟨vs,h,_⟩:=this;rw[hp] at h;cases h
def c8{es:List Expr}{f:g9}{pos}(h:PA X es (zr (md X) f)):PE X (.List es pos) (tL (md X) (cg f)):=kR (Je h) fun σ H Q qq=>by
 obtain⟨ρ,Γ,S,d,S',ok,e,q⟩:=qq
 obtain⟨⟨ds,S1⟩,e1,e⟩:=ar e
 dsimp only at e
 split at e
 ·rename_i c
  obtain⟨rfl,rfl⟩:=cR e
  refine⟨ρ,Γ,S,ds,S1,ok,e1,fun ρ1 vs H1 x1 st1 r1=>⟨r1.length▸c,fun p hp=> ?_⟩⟩
  exact q ρ1 p vs _ (x1.trans (cH.laid hp)) (st1.lay hp) (x1.grow p hp) (dP x1 st1 hp) b_ (r1.ext (cH.laid hp))
 ·cases e
end
section
variable{X:Cx}{a b c e:Expr}{pos:Pos}
def Ep:j0 X (binaryOp .Add) (fun x y H Q=>∃a b ys,x=.ref a/\y=.ref b/\iW X.K H a []/\iW X.K H b ys/\Q (.ref b) H):=by
 intro pins s σ H x y v u Q I rx ry h
 obtain⟨a,b,ys,rfl,rfl,ha,hb,q⟩:=h
 cases rx
 cases ry
 obtain⟨its,r1,ht,_⟩:=I.tuple ha
 obtain⟨its2,r2,hb,_⟩:=I.tuple hb
 cases r1
 obtain⟨⟨cls,dd,data,sl⟩,ho,hc,n,hd⟩:=id ht
 obtain⟨⟨cls2,dd2,data2,sl2⟩,ho2,hc2,n2,hd2⟩:=id hb
 simp only at hc hd hc2 hd2
 subst hc hd hc2 hd2
 exact concat_meets ⟨_,ho,rfl⟩ ⟨_,ho2,rfl⟩ noFill_tuple_add seq_tuple_add PySem.F.slot_tuple_add PySem.F.entry_tuple_add (PySem.F.args_tuple_add_2 _ _)
   (tuple_addW0 a b _ its2.toArray n n2 dd dd2 sl sl2 (by simp)) ⟨ho,ho2,.ref b,H,I,rfl,q⟩
abbrev uH:=aK->D->D->Option D
def mF(M:Md)(r:R2)(o:uH):Prop:=∀{ρ:List Addr} {S:aK} {H:Hp} {x y d:D} {u v:V} {Q:VK},gG M ρ S H->Rel M ρ H x u->Rel M ρ H y v->o S x y=some d->(∀w H',cH ρ H ρ H'->gG M ρ S H'->Rel M ρ H' d w->Q w H')->r u v H Q
noncomputable def aE(o:uH)(f g:bN):bN:=fun Γ S=>(f Γ S).bind fun(x,S1)=>(g Γ S1).bind fun(y,S2)=>(o S2 x y).bind fun d=>some (d,S2)
def qN{r:R2}{o:uH}{f g:bN}(ho:mF (md X) r o)(h:PE X e (F_ r (tD (md X) f) (tD (md X) g))):PE X e (tD (md X) (aE o f g)):=kR h fun σ H Q qq=>by
 obtain⟨ρ,Γ,S,d,S',ok,e,q⟩:=qq
 obtain⟨⟨x,S1⟩,e1,e⟩:=ar e
 obtain⟨⟨y,S2⟩,e2,e⟩:=ar e
 obtain⟨d',e3,e⟩:=ar e
 obtain⟨rfl,rfl⟩:=cR e
 refine⟨ρ,Γ,S,x,S1,ok,e1,fun ρ1 v H1 x1 st1 r1=>⟨ρ1,Γ,S1,y,S2,ok.to x1 st1,e2,fun ρ2 w H2 x2 st2 r2=> ?_⟩⟩
 exact ho st2 (r1.ext x2) r2 e3 fun w' H3 x3 st3 r3=>q ρ2 w' H3 ((x1.trans x2).trans x3) st3 r3
def cm:uH:=fun _ x y=>match x,y with
 |.int i,.int j=>some (.int (i+j))
 |.str i,.str j=>if i.length+j.length<=sizeLine then some (.str (i++j)) else none
 |.tup i,.tup j=>if i.length+j.length<=sizeLine then some (.tup (i++j)) else none
 |_,_=>none
abbrev KY(K:PySem.W.Frag):R2:=fun x y H Q=>(∃i j,x=.int i/\y=.int j/\Q (.int (i+j)) H)\/(∃i j,x=.str i/\y=.str j/\i.length+j.length<=sizeLine/\Q (.str (i++j)) H)∨
 (∃a b ys,x=.ref a/\y=.ref b/\iW K H a []/\iW K H b ys/\Q (.ref b) H)\/HJ K x y H Q
def GL:j0 X (binaryOp .Add) (KY X.K):=IV.or (Ai.or (Ep.or HE))
def Jo{M:Md}:mF M (KY M.K) cm:=by
 intro ρ S H x y d u v Q st r1 r2 e q
 cases r1 with
 |int i=>cases r2 <;>simp only[cm,reduceCtorEq] at e;cases e;exact .inl ⟨_,_,rfl,rfl,q _ _ cH.refl st (.int _)⟩
 | str i=>
   cases r2 <;>simp only[cm,reduceCtorEq] at e
   split at e <;>cases e
   exact .inr (.inl ⟨_,_,rfl,rfl,by assumption,q _ _ cH.refl st (.str _)⟩)
 | tup h1 h2=>
   cases r2 with
   | tup h3 h4=>
     simp only[cm] at e
     split at e <;>cases e
     rename_i hl
     have l1:=h2.length
     have l2:=h4.length
     cases h2 with
     |nil=>exact .inr (.inr (.inl ⟨_,_,_,rfl,rfl,iW.of h1,iW.of h3,q _ _ cH.refl st (.tup h3 h4)⟩))
     | cons h2 h2'=>
       refine .inr (.inr (.inr ⟨_,_,_,_,rfl,rfl,iW.of h1,iW.of h3,by simp,by rw[←l1,←l2];exact hl,fun z=> ?_,fun z p hp=> ?_⟩))
       · subst z
         cases h4
         rw[List.append_nil] at q
         exact q _ _ cH.refl st (.tup h1 (.cons h2 h2'))
       · exact q _ _ (cH.laid hp) (st.lay hp) (.tup b_ ((bq.append (.cons h2 h2') h4).ext (cH.laid hp)))
   |_=>simp only[cm,reduceCtorEq] at e
 |_=>simp only[cm,reduceCtorEq] at e
def cb{f g:bN}(ha:PE X a (tD (md X) f))(hb:PE X b (tD (md X) g)):PE X (.BinOp a .Add b pos) (tD (md X) (aE cm f g)):=qN Jo (qy GL ha hb)
def intD(C:Int->Int->Prop)[∀i j,Decidable (C i j)](k:Int->Int->D):uH:=fun _ x y=>match x,y with
 |.int i,.int j=>if C i j then some (k i j) else none
 |_,_=>none
def wQ{M:Md}{C:Int->Int->Prop}[∀i j,Decidable (C i j)]{k:Int->Int->D}{g:Int->Int->V}(hk:∀i j ρ H,Rel M ρ H (k i j) (g i j)):mF M (rI C g) (intD C k):=by
 intro ρ S H x y d u v Q st r1 r2 e q
 cases r1 <;>cases r2 <;>simp only[intD,reduceCtorEq] at e
 split at e <;>cases e
 exact⟨_,_,rfl,rfl,by assumption,q _ _ cH.refl st (hk _ _ _ _)⟩
def oA{M:Md}{k:Int->Int->D}{g:Int->Int->V}(hk:∀i j ρ H,Rel M ρ H (k i j) (g i j)):mF M (DQ g) (intD (fun _ _=>True) k):=by
 intro ρ S H x y d u v Q st r1 r2 e q
 cases r1 <;>cases r2 <;>simp only[intD,reduceCtorEq] at e
 rw[Qhq trivial] at e
 cases e
 exact⟨_,_,rfl,rfl,q _ _ cH.refl st (hk _ _ _ _)⟩
instance{i j:Int}:Decidable (Ew i j):=by unfold Ew;infer_instance
instance{i j:Int}:Decidable (E6 i j):=by unfold E6;infer_instance
open Classical in
noncomputable instance{i j:Int}:Decidable (IntMulOk i j):=Classical.propDecidable _
abbrev mC:uH:=intD (fun _ _=>True) fun i j=>.int (i-j)
noncomputable abbrev nT:uH:=intD IntMulOk fun i j=>.int (i*j)
abbrev rE:uH:=intD (fun _ j=>0<j) fun i j=>.int (i%j)
abbrev yq:uH:=intD Ew fun i j=>.int (i/j)
abbrev xK:uH:=intD E6 fun i j=>.int (i^j.toNat)
def uE{f g:bN}(ha:PE X a (tD (md X) f))(hb:PE X b (tD (md X) g)):PE X (.BinOp a .Sub b pos) (tD (md X) (aE mC f g)):=qN (oA fun i j _ _=>.int _) (qy Jl ha hb)
def uo{f g:bN}(ha:PE X a (tD (md X) f))(hb:PE X b (tD (md X) g)):PE X (.BinOp a .Mult b pos) (tD (md X) (aE nT f g)):=qN (wQ fun i j _ _=>.int _) (qy GQ ha hb)
def sJ{f g:bN}(ha:PE X a (tD (md X) f))(hb:PE X b (tD (md X) g)):PE X (.BinOp a .Mod b pos) (tD (md X) (aE rE f g)):=qN (wQ fun i j _ _=>.int _) (qy Ir ha hb)
def EI{f g:bN}(ha:PE X a (tD (md X) f))(hb:PE X b (tD (md X) g)):PE X (.BinOp a .FloorDiv b pos) (tD (md X) (aE yq f g)):=qN (wQ fun i j _ _=>.int _) (qy Gs ha hb)
def ED{f g:bN}(ha:PE X a (tD (md X) f))(hb:PE X b (tD (md X) g)):PE X (.BinOp a .Pow b pos) (tD (md X) (aE xK f g)):=qN (wQ fun i j _ _=>.int _) (qy Jb ha hb)
def uw(f:bN):bN:=fun Γ S=>(f Γ S).bind fun(d,S1)=>match d with
 |.int i=>some (.int (-i),S1)
 |_=>none
def qE{f:bN}(ha:PE X a (tD (md X) f)):PE X (.UnaryOp .USub a pos) (tD (md X) (uw f)):=kR (Lr Jp ha) fun σ H Q qq=>by
 obtain⟨ρ,Γ,S,d,S',ok,e,q⟩:=qq
 obtain⟨⟨x,S1⟩,e1,e⟩:=ar e
 dsimp only at e
 split at e
 ·obtain⟨rfl,rfl⟩:=cR e
  refine⟨ρ,Γ,S,_,S1,ok,e1,fun ρ1 v H1 x1 st1 r1=> ?_⟩
  cases r1
  exact⟨_,rfl,q _ _ _ x1 st1 (.int _)⟩
 ·cases e
def wz:D->Option V
 |.non=>some .non
 |.bl b=>some (.bl b)
 |.int i=>some (.int i)
 |.str x=>some (.str x)
 |_=>none
def mY{M:Md}{ρ:List Addr}{H:Hp}{d:D}{u v:V}(r:Rel M ρ H d u)(e:wz d=some v):u=v:=by
 cases r <;>simp[wz] at e <;>exact e
def e_(neg:Bool):uH:=fun _ x y=>match wz x,wz y with
 |some u,some v=>if AO u v=true then some (.bl (if neg then !decide (u=v) else decide (u=v))) else none
 |_,_=>none
def y4{neg:Bool}{S:aK}{x y d:D}(e:e_ neg S x y=some d):∃u v,wz x=some u/\wz y=some v/\AO u v=true/\d=.bl (if neg then !decide (u=v) else decide (u=v)):=by
 unfold e_ at e
 split at e
 ·split at e <;>cases e
  exact⟨_,_,by assumption,by assumption,by assumption,rfl⟩
 ·cases e
def cY{M:Md}:mF M MU (e_ false):=by
 intro ρ S H x y d u v Q st r1 r2 e q
 obtain⟨u',v',h1,h2,h3,rfl⟩:=y4 e
 cases mY r1 h1
 cases mY r2 h2
 exact⟨h3,q _ _ cH.refl st (.bl _)⟩
def oO{M:Md}:mF M MS (e_ true):=by
 intro ρ S H x y d u v Q st r1 r2 e q
 obtain⟨u',v',h1,h2,h3,rfl⟩:=y4 e
 cases mY r1 h1
 cases mY r2 h2
 exact⟨h3,q _ _ cH.refl st (.bl _)⟩
abbrev Gb:uH:=intD (fun _ _=>True) fun i j=>.bl (decide (i<j))
abbrev MR:uH:=intD (fun _ _=>True) fun i j=>.bl (decide (i<=j))
abbrev Kn:uH:=intD (fun _ _=>True) fun i j=>.bl (decide (j<i))
abbrev LX:uH:=intD (fun _ _=>True) fun i j=>.bl (decide (j<=i))
def qC{M:Md}:mF M (DQ fun i j=>.bl (decide (i<j))) Gb:=oA fun i j _ _=>.bl _
def KI{M:Md}:mF M (DQ fun i j=>.bl (decide (i<=j))) MR:=oA fun i j _ _=>.bl _
def BR{M:Md}:mF M (DQ fun i j=>.bl (decide (j<i))) Kn:=oA fun i j _ _=>.bl _
def Ii{M:Md}:mF M (DQ fun i j=>.bl (decide (j<=i))) LX:=oA fun i j _ _=>.bl _
def isNone:D->Bool
 |.non=>true
 |_=>false
def Gy(neg:Bool):uH:=fun _ x y=>match y with
 |.non=>some (.bl (if neg then !isNone x else isNone x))
 |_=>none
def Dr{M:Md}{ρ:List Addr}{H:Hp}{d:D}{u:V}(r:Rel M ρ H d u):decide (u=V.non)=isNone d:=by
 cases r <;>simp[isNone]
def JE{M:Md}:mF M (fun x y H Q=>y=.non/\Q (.bl (decide (x=.non))) H) (Gy false):=by
 intro ρ S H x y d u v Q st r1 r2 e q
 cases r2 <;>simp only[Gy,reduceCtorEq] at e
 cases e
 rw[Dr r1]
 exact⟨rfl,q _ _ cH.refl st (.bl _)⟩
def oT{op:CmpOp}{r:R2}{o:uH}{f g:bN}(ho:j0 X (compareOp op) r)(hk:mF (md X) r o)(ha:PE X a (tD (md X) f))(hb:PE X b (tD (md X) g))(hm:behindInMarks op b=false):PE X (.Compare a [op] [b] pos) (tD (md X) (aE o f g)):=qN hk (wx ho ha hb hm)
noncomputable def aN(f:bN):kd:=fun Γ S=>(f Γ S).bind fun(d,S1)=>match d with
 |.bl k=>some (k,S1)
 |_=>none
def uA{f:bN}{Γ:dh}{S S':aK}{k:Bool}(e:aN f Γ S=some (k,S')):f Γ S=some (.bl k,S'):=by
 obtain⟨⟨d,S1⟩,e1,e⟩:=ar e
 dsimp only at e
 split at e
 ·cases e;exact e1
 ·cases e
def Lk{r:R2}{o:uH}{f g:bN}(ho:mF (md X) r o)(h:PT X e (FM (F_ r (tD (md X) f) (tD (md X) g)))):PT X e (tB (md X) (aN (aE o f g))):=LZ h fun σ H Q qq=>by
 obtain⟨ρ,Γ,S,d,S',ok,e,q⟩:=qq
 have e:=uA e
 obtain⟨⟨x,S1⟩,e1,e⟩:=ar e
 obtain⟨⟨y,S2⟩,e2,e⟩:=ar e
 obtain⟨d',e3,e⟩:=ar e
 obtain⟨rfl,rfl⟩:=cR e
 refine⟨ρ,Γ,S,x,S1,ok,e1,fun ρ1 v H1 x1 st1 r1=>⟨ρ1,Γ,S1,y,S2,ok.to x1 st1,e2,fun ρ2 w H2 x2 st2 r2=> ?_⟩⟩
 exact ho st2 (r1.ext x2) r2 e3 fun w' H3 x3 st3 r3=>by cases r3;exact⟨_,rfl,q ρ2 H3 ((x1.trans x2).trans x3) st3⟩
def bM{op:CmpOp}{r:R2}{o:uH}{f g:bN}(ho:j0 X (compareOp op) r)(hk:mF (md X) r o)(ha:PE X a (tD (md X) f))(hb:PE X b (tD (md X) g))(hm:behindInMarks op b=false):PT X (.Compare a [op] [b] pos) (tB (md X) (aN (aE o f g))):=Lk hk (ow ho ha hb hm)
def Az(S:aK):D->Option Bool
 |.non=>some false
 |.bl b=>some b
 |.int i=>some (i !=0)
 |.str y=>if y.length<=sizeLine then some ((y.length:Int) !=0) else none
 |.tup xs=>some (!xs.isEmpty)
 | .ref k=>match S[k]? with
   |some (.lst xs)=>some (!xs.isEmpty)
   |some (.dct xs)=>some (!xs.isEmpty)
   |_=>none
 |.fn _=>none
def bq.isEmpty{M:Md}{ρ:List Addr}{H:Hp}{ds:List D}{vs:List V}(h:bq M ρ H ds vs):ds.isEmpty=vs.isEmpty:=by cases h <;>rfl
theorem cJ.isEmpty{M:Md}{ρ:List Addr}{H:Hp}{ds:List (Key×D)}{vs:List (Key×V)}(h:cJ M ρ H ds vs):ds.isEmpty=vs.isEmpty:=by
 cases ds with
 |nil=>cases h;rfl
 |cons p r=>obtain⟨v,t,e,_⟩:=h;subst e;rfl
def Gx{M:Md}{ρ:List Addr}{S:aK}{H:Hp}{d:D}{u:V}{k:Bool}(st:gG M ρ S H)(r:Rel M ρ H d u)(e:Az S d=some k):JQ M.K u H k:=by
 cases r with
 |non=>cases e;rfl
 |bl=>cases e;rfl
 |int=>cases e;rfl
 |str=>simp only[Az] at e;split at e <;>cases e;exact⟨by assumption,rfl⟩
 |tup h hs=>cases e;exact .inr (.inl ⟨_,iW.of h,by rw[hs.isEmpty]⟩)
 |fn=>cases e
 | ref h=>
   simp only[Az] at e
   split at e
   · cases e
     obtain⟨vs,h1,h2⟩:=st.obj _ _ _ h (by assumption)
     exact .inl ⟨vs,ik.of h1,by rw[h2.isEmpty]⟩
   · cases e
     obtain⟨vs,h1,h2⟩:=st.obj _ _ _ h (by assumption)
     exact .inr (.inr ⟨vs,h1,by rw[h2.isEmpty]⟩)
   · cases e
def lu(f:bN):kd:=fun Γ S=>(f Γ S).bind fun(d,S1)=>(Az S1 d).bind fun k=>some (k,S1)
def jR{f:bN}(ha:PE X a (tD (md X) f))(he:∀whole,isTrue a X.env whole=(do let v←whole;standAt a.pos;holding [v] (truthy v)):=by intro _;rfl):PT X a (tB (md X) (lu f)):=LZ (DY ha he) fun σ H Q qq=>by
 obtain⟨ρ,Γ,S,k,S',ok,e,q⟩:=qq
 obtain⟨⟨x,S1⟩,e1,e⟩:=ar e
 obtain⟨k',e2,e⟩:=ar e
 obtain⟨rfl,rfl⟩:=cR e
 exact⟨ρ,Γ,S,x,S1,ok,e1,fun ρ1 v H1 x1 st1 r1=>⟨k',Gx st1 r1 e2,q _ _ x1 st1⟩⟩
def sX(f:kd):kd:=fun Γ S=>(f Γ S).bind fun(k,S1)=>some (!k,S1)
def qT{f:kd}(ha:PT X a (tB (md X) f)):PT X (.UnaryOp .Not a pos) (tB (md X) (sX f)):=LZ (I_ ha) fun σ H Q qq=>by
 obtain⟨ρ,Γ,S,k,S',ok,e,q⟩:=qq
 obtain⟨⟨k1,S1⟩,e1,e⟩:=ar e
 obtain⟨rfl,rfl⟩:=cR e
 exact⟨ρ,Γ,S,k1,S1,ok,e1,fun ρ1 H1 x1 st1=>q _ _ x1 st1⟩
def fV(f g:kd):kd:=fun Γ S=>(f Γ S).bind fun(k,S1)=>if k=true then g Γ S1 else some (false,S1)
def IC(f g:kd):kd:=fun Γ S=>(f Γ S).bind fun(k,S1)=>if k=true then some (true,S1) else g Γ S1
def eQ{f:kd}(ha:PT X a (tB (md X) f)):PW X (.BoolOp .And [a] pos) (tB (md X) f):=Gc ha
def FN{f:kd}(ha:PT X a (tB (md X) f)):PW X (.BoolOp .Or [a] pos) (tB (md X) f):=Jh ha
def w_and{rest:List Expr}{f g:kd}(ha:PT X a (tB (md X) f))(hb:PW X (.BoolOp .And (b::rest) pos) (tB (md X) g)):PW X (.BoolOp .And (a::b::rest) pos) (tB (md X) (fV f g)):=MW (JN ha hb) fun σ H Q qq=>by
 obtain⟨ρ,Γ,S,k,S',ok,e,q⟩:=qq
 obtain⟨⟨k1,S1⟩,e1,e⟩:=ar e
 refine⟨ρ,Γ,S,k1,S1,ok,e1,fun ρ1 H1 x1 st1=> ?_⟩
 dsimp only at e
 split at e
 ·rename_i c
  rw[Qhq c]
  exact⟨ρ1,Γ,S1,k,S',ok.to x1 st1,e,fun ρ2 H2 x2 st2=>q _ _ (x1.trans x2) st2⟩
 ·rename_i c
  rw[Quq c]
  obtain⟨rfl,rfl⟩:=cR e
  exact q _ _ x1 st1
def w_or{rest:List Expr}{f g:kd}(ha:PT X a (tB (md X) f))(hb:PW X (.BoolOp .Or (b::rest) pos) (tB (md X) g)):PW X (.BoolOp .Or (a::b::rest) pos) (tB (md X) (IC f g)):=MW (KG ha hb) fun σ H Q qq=>by
 obtain⟨ρ,Γ,S,k,S',ok,e,q⟩:=qq
 obtain⟨⟨k1,S1⟩,e1,e⟩:=ar e
 refine⟨ρ,Γ,S,k1,S1,ok,e1,fun ρ1 H1 x1 st1=> ?_⟩
 dsimp only at e
 split at e
 ·rename_i c
  rw[Qhq c]
  obtain⟨rfl,rfl⟩:=cR e
  exact q _ _ x1 st1
 ·rename_i c
  rw[Quq c]
  exact⟨ρ1,Γ,S1,k,S',ok.to x1 st1,e,fun ρ2 H2 x2 st2=>q _ _ (x1.trans x2) st2⟩
def zY(f g:bN):bN:=fun Γ S=>(f Γ S).bind fun(d,S1)=>match d with
 |.bl true=>g Γ S1
 |.bl false=>some (.bl false,S1)
 |_=>none
def EB{op}{f:bN}(h:PE X a (tD (md X) f)):PE X (.BoolOp op [a] pos) (tD (md X) f):=Kc h
def Ft{rest:List Expr}{f g:bN}(ha:PE X a (tD (md X) f))(hb:PE X (.BoolOp .And (b::rest) pos) (tD (md X) g)):PE X (.BoolOp .And (a::b::rest) pos) (tD (md X) (zY f g)):=kR (Jw ha hb) fun σ H Q qq=>by
 obtain⟨ρ,Γ,S,d,S',ok,e,q⟩:=qq
 obtain⟨⟨x,S1⟩,e1,e⟩:=ar e
 refine⟨ρ,Γ,S,x,S1,ok,e1,fun ρ1 v H1 x1 st1 r1=> ?_⟩
 dsimp only at e
 split at e
 ·cases r1
  refine⟨_,rfl,?_⟩
  rw[Qhq rfl]
  exact⟨ρ1,Γ,S1,d,S',ok.to x1 st1,e,fun ρ2 w H2 x2 st2 r2=>q _ _ _ (x1.trans x2) st2 r2⟩
 ·cases r1
  refine⟨_,rfl,?_⟩
  rw[Quq Qtq]
  obtain⟨rfl,rfl⟩:=cR e
  exact q _ _ _ x1 st1 (.bl _)
 ·cases e
def wa(c:kd)(f g:bN):bN:=fun Γ S=>(c Γ S).bind fun(k,S1)=>if k=true then f Γ S1 else g Γ S1
def zp{h:kd}{f g:bN}(hc:PT X c (tB (md X) h))(ha:PE X a (tD (md X) f))(hb:PE X b (tD (md X) g)):PE X (.IfExp c a b pos) (tD (md X) (wa h f g)):=kR (Ff hc ha hb) fun σ H Q qq=>by
 obtain⟨ρ,Γ,S,d,S',ok,e,q⟩:=qq
 obtain⟨⟨k1,S1⟩,e1,e⟩:=ar e
 refine⟨ρ,Γ,S,k1,S1,ok,e1,fun ρ1 H1 x1 st1=> ?_⟩
 dsimp only at e
 split at e
 ·rename_i c
  rw[Qhq c]
  exact⟨ρ1,Γ,S1,d,S',ok.to x1 st1,e,fun ρ2 w H2 x2 st2 r2=>q _ _ _ (x1.trans x2) st2 r2⟩
 ·rename_i c
  rw[Quq c]
  exact⟨ρ1,Γ,S1,d,S',ok.to x1 st1,e,fun ρ2 w H2 x2 st2 r2=>q _ _ _ (x1.trans x2) st2 r2⟩
def aW:uH:=fun S x y=>match x,y with
 |.tup xs,.int i=>kL xs i
 |.str z,.int i=>if z.length<=sizeLine then(kL z.cps.toList i).map fun c=>.str ⟨#[c]⟩ else none
 | .ref k,.int i=>match S[k]? with
   |some (.lst xs)=>kL xs i
   |some (.frz xs)=>kL xs i
   |_=>none
 |_,_=>none
def Hb{α β:Type}{xs:List α}{ys:List β}{i:Int}{x:α}(h:kL xs i=some x)(l:xs.length=ys.length):∃j:Nat,xs[j]?=some x/\∀y,ys[j]?=some y->kL ys i=some y:=by
 unfold kL at h
 obtain⟨j,e,h⟩:=ar h
 exact⟨j,h,fun y hy=>by unfold kL;rw[←l,e];exact hy⟩
def bq.atI{M:Md}{ρ:List Addr}{H:Hp}{ds:List D}{vs:List V}{i:Int}{d:D}(h:bq M ρ H ds vs)(e:L2.kL ds i=some d):∃v,L2.kL vs i=some v/\Rel M ρ H d v:=by
 obtain⟨j,h1,h2⟩:=Hb e h.length
 obtain⟨v,h3,h4⟩:=h.get h1
 exact⟨v,h2 v h3,h4⟩
def LO{M:Md}:mF M (MX M.K) aW:=by
 intro ρ S H x y d u v Q st r1 r2 e q
 cases r2 <;>cases r1 <;>simp only[aW,reduceCtorEq] at e
 ·split at e
  ·obtain⟨c,h1,h2⟩:=oQm.mp e
   subst h2
   exact .inr (.inr ⟨_,_,c,rfl,rfl,by assumption,h1,q _ _ cH.refl st (.str _)⟩)
  ·cases e
 ·rename_i h hs
  obtain⟨v,h1,h2⟩:=hs.atI e
  exact .inr (.inl ⟨_,_,_,v,rfl,rfl,iW.of h,h1,q _ _ cH.refl st h2⟩)
 ·rename_i h
  split at e
  ·obtain⟨vs,g1,g2⟩:=st.obj _ _ _ h (by assumption)
   obtain⟨v,h1,h2⟩:=g2.atI e
   exact .inl ⟨_,_,_,v,rfl,rfl,ik.of g1,h1,q _ _ cH.refl st h2⟩
  ·obtain⟨vs,o,g1,g2⟩:=st.obj _ _ _ h (by assumption)
   obtain⟨v,h1,h2⟩:=g2.atI e
   exact .inl ⟨_,_,_,v,rfl,rfl,.inl (.inr ⟨o,g1⟩),h1,q _ _ cH.refl st h2⟩
  ·cases e
def aF{f g:bN}(ha:PE X a (tD (md X) f))(hb:PE X b (tD (md X) g))(hs:BQ b:=by intro _ _;rfl):PE X (.Subscript a b pos) (tD (md X) (aE aW f g)):=qN LO (KW Jv ha hb hs)
end
inductive Tag where
 |tu|fr|st (k:Nat)|fz (k:Nat)
def Ac(M:Md)(ρ:List Addr)(H:Hp)(a:Addr)(vs:List V):Tag->Prop
 |.tu=>iW M.K H a vs
 |.fr=>H a=some (.lst vs)/\a∉ρ
 |.st k=>ρ[k]?=some a/\H a=some (.lst vs)
 |.fz k=>ρ[k]?=some a/\∃o,H a=some (.frz o (.lst vs))
abbrev eJ:=dh->aK->Option ((List D×Tag)×aK)
def tQ(M:Md)(f:eJ):TE:=fun σ H Q=>∃ρ Γ S ds t S',Ok M ρ Γ S σ H/\f Γ S=some ((ds,t),S')∧
 ∀ρ' a vs H',cH ρ H ρ' H'->gG M ρ' S' H'->Ac M ρ' H' a vs t->bq M ρ' H' ds vs->Q (.ref a) H'
def Ac.sq{M:Md}{ρ:List Addr}{H:Hp}{a:Addr}{vs:List V}{t:Tag}(h:Ac M ρ H a vs t):ik M.K H a vs\/iW M.K H a vs:=by
 cases t with
 |tu=>exact .inr h
 |fr=>exact .inl (ik.of h.1)
 |st k=>exact .inl (ik.of h.2)
 |fz k=>obtain⟨_,o,h⟩:=h;exact .inl (.inl (.inr ⟨o,h⟩))
def Tag.isL:Tag->Bool
 |.tu=>false
 |_=>true
def Tag.isM:Tag->Bool
 |.fr=>true
 |.st _=>true
 |_=>false
def Ac.sqL{M:Md}{ρ:List Addr}{H:Hp}{a:Addr}{vs:List V}{t:Tag}(h:Ac M ρ H a vs t)(c:t.isL=true):ik M.K H a vs:=by
 cases t with
 |tu=>cases c
 |fr=>exact ik.of h.1
 |st k=>exact ik.of h.2
 |fz k=>obtain⟨_,o,h⟩:=h;exact .inl (.inr ⟨o,h⟩)
def Ac.sqM{M:Md}{ρ:List Addr}{H:Hp}{a:Addr}{vs:List V}{t:Tag}(h:Ac M ρ H a vs t)(c:t.isM=true):H a=some (.lst vs):=by
 cases t with
 |tu=>cases c
 |fr=>exact h.1
 |st k=>exact h.2
 |fz k=>cases c
def Ac.sqT{M:Md}{ρ:List Addr}{H:Hp}{a:Addr}{vs:List V}{t:Tag}(h:Ac M ρ H a vs t)(c:t.isL=false):iW M.K H a vs:=by
 cases t with
 |tu=>exact h
 |fr=>cases c
 |st k=>cases c
 |fz k=>cases c
def Tag.stays(S:aK)(ds:List D):Tag->Prop
 |.st k=>S[k]?=some (.lst ds)
 |.fz k=>S[k]?=some (.frz ds)
 |_=>True
def iW.ext{K:PySem.W.Frag}{ρ ρ':List Addr}{H H':Hp}{a:Addr}{vs:List V}(e:cH ρ H ρ' H')(h:iW K H a vs):iW K H' a vs:=by
 rcases h with(h|⟨o,h⟩)|h
 ·exact .inl (.inl (e.keep _ _ h (.inr trivial)))
 ·exact .inl (.inr ⟨o,e.keep _ _ h (.inr trivial)⟩)
 ·exact .inr h
def Ac.to{M:Md}{ρ ρ':List Addr}{S:aK}{H H':Hp}{a:Addr}{vs:List V}{ds:List D}{t:Tag}(h:Ac M ρ H a vs t)(r:bq M ρ H ds vs)(e:cH ρ H ρ' H')(st:gG M ρ' S H')(c:t.stays S ds):∃vs',Ac M ρ' H' a vs' t/\bq M ρ' H' ds vs':=by
 cases t with
 |tu=>exact⟨vs,iW.ext e h,r.ext e⟩
 |fr=>exact⟨vs,⟨e.keep _ _ h.1 (.inl h.2),fun m=>(e.new a m).elim h.2 fun z=>by have h1:=h.1;rw[z] at h1;cases h1⟩,r.ext e⟩
 | st k=>
   have hk:=dz e.pre h.1
   obtain⟨vs',h1,h2⟩:=st.obj k a _ hk c
   exact⟨vs',⟨hk,h1⟩,h2⟩
 | fz k=>
   have hk:=dz e.pre h.1
   obtain⟨vs',o,h1,h2⟩:=st.obj k a _ hk c
   exact⟨vs',⟨hk,o,h1⟩,h2⟩
section
variable{X:Cx}{a b c e:Expr}{pos:Pos}
def iM(f:g9):eJ:=fun Γ S=>(f Γ S).bind fun(ds,S1)=>some ((ds,.fr),S1)
def kT{f:g9}(h:PE X e (tL (md X) f)):PE X e (tQ (md X) (iM f)):=kR h fun σ H Q qq=>by
 obtain⟨ρ,Γ,S,ds,t,S',ok,e,q⟩:=qq
 obtain⟨⟨ds',S1⟩,e1,e⟩:=ar e
 obtain⟨e2,rfl⟩:=cR e
 obtain⟨rfl,rfl⟩:=Prod.mk.inj e2
 exact⟨ρ,Γ,S,ds',S1,ok,e1,fun ρ' a vs H' x st fr nr ha rs=>q _ _ _ _ x st ⟨ha,nr⟩ rs⟩
def t5(S:aK):D->Option (List D×Tag)
 |.tup ds=>some (ds,.tu)
 | .ref k=>match S[k]? with
   |some (.lst ds)=>some (ds,.st k)
   |some (.frz ds)=>some (ds,.fz k)
   |_=>none
 |_=>none
def bu(f:bN):eJ:=fun Γ S=>(f Γ S).bind fun(d,S1)=>(t5 S1 d).bind fun p=>some (p,S1)
def Hd{M:Md}{ρ:List Addr}{S:aK}{H:Hp}{d:D}{v:V}{ds:List D}{t:Tag}(st:gG M ρ S H)(r:Rel M ρ H d v)(e:t5 S d=some (ds,t)):∃a vs,v=.ref a/\Ac M ρ H a vs t/\bq M ρ H ds vs:=by
 cases r with
 |tup h hs=>simp only[t5] at e;cases e;exact⟨_,_,rfl,iW.of h,hs⟩
 | ref h=>
   simp only[t5] at e
   split at e
   · rename_i q
     cases e
     obtain⟨vs,h1,h2⟩:=st.obj _ _ _ h q
     exact⟨_,vs,rfl,⟨h,h1⟩,h2⟩
   · rename_i q
     cases e
     obtain⟨vs,o,h1,h2⟩:=st.obj _ _ _ h q
     exact⟨_,vs,rfl,⟨h,o,h1⟩,h2⟩
   · cases e
 |_=>simp only[t5,reduceCtorEq] at e
def ee{f:bN}(h:PE X e (tD (md X) f)):PE X e (tQ (md X) (bu f)):=kR h fun σ H Q qq=>by
 obtain⟨ρ,Γ,S,ds,t,S',ok,e,q⟩:=qq
 obtain⟨⟨d,S1⟩,e1,e⟩:=ar e
 obtain⟨⟨ds',t'⟩,e2,e⟩:=ar e
 obtain⟨e3,rfl⟩:=cR e
 obtain⟨rfl,rfl⟩:=Prod.mk.inj e3
 refine⟨ρ,Γ,S,d,S1,ok,e1,fun ρ' v H' x st r=> ?_⟩
 obtain⟨a,vs,rfl,h1,h2⟩:=Hd st r e2
 exact q _ _ _ _ x st h1 h2
def gZ{f:eJ}{p:Pos}(hg:Gl X "len")(hm:X.mg "len"=none)(ha:PE X a (tQ (md X) f))(hs:starEach [a] X.env= [(false,eval a X.env)]:=by rfl):
  PE X (.Call (.Name "len" p) [a] [] pos) (tD (md X) fun Γ S=>(f Γ S).bind fun(p,S1)=>some (.int p.1.length,S1)):=
 kR (eR xR hg hm PySem.boot_len (dC ha gK hs) (he:=hs)) fun σ H Q qq=>by
  obtain⟨ρ,Γ,S,d,S',ok,e,q⟩:=qq
  obtain⟨⟨⟨ds,t⟩,S1⟩,e1,e⟩:=ar e
  obtain⟨rfl,rfl⟩:=cR e
  refine⟨ρ,Γ,S,ds,t,S1,ok,e1,fun ρ' a vs H' x st h r=>⟨a,vs,rfl,h.sq,?_⟩⟩
  have:=q _ (.int vs.length) _ x st (by rw[←r.length];exact .int _)
  exact this
def jI(f:eJ):bN:=fun Γ S=>(f Γ S).bind fun(p,S1)=>some (.int p.1.length,S1)
def tupQ(f:eJ):bN:=fun Γ S=>(f Γ S).bind fun(p,S1)=>some (.tup p.1,S1)
def eA{f:eJ}{p:Pos}(hg:Gl X "tuple")(hm:X.mg "tuple"=none)(ha:PE X a (tQ (md X) f))(hs:starEach [a] X.env= [(false,eval a X.env)]:=by rfl)(ht:∀Γ S ds t S',f Γ S=some ((ds,t),S')->t.isL=true):
  PE X (.Call (.Name "tuple" p) [a] [] pos) (tD (md X) (tupQ f)):=
 kR (ix uW hg hm (by rfl) (dC ha gK hs) (he:=hs)) fun σ H Q qq=>by
  obtain⟨ρ,Γ,S,d,S',ok,e,q⟩:=qq
  obtain⟨⟨⟨ds,t⟩,S1⟩,e1,e⟩:=ar e
  obtain⟨rfl,rfl⟩:=cR e
  refine⟨ρ,Γ,S,ds,t,S1,ok,e1,fun ρ' a vs H' x st h r=>⟨a,vs,rfl,.inl ⟨h.sqL (ht _ _ _ _ _ e1),fun l hl=> ?_⟩⟩⟩
  exact q _ _ _ (x.trans (cH.laid hl)) (st.lay hl) (.tup b_ (r.ext (cH.laid hl)))
def gq{f:g9}:∀Γ S ds t S',iM f Γ S=some ((ds,t),S')->t.isL=true:=fun Γ S ds t S' e=>by
 obtain⟨⟨ds',S1⟩,e1,e⟩:=ar e
 cases e
 rfl
def ip(f:eJ):eJ:=fun Γ S=>(f Γ S).bind fun(p,S1)=>if p.2.isL=true then some (p,S1) else none
def jd{f:eJ}:∀Γ S ds t S',ip f Γ S=some ((ds,t),S')->t.isL=true:=fun Γ S ds t S' e=>by
 obtain⟨⟨⟨ds',t'⟩,S1⟩,e1,e⟩:=ar e
 dsimp only at e
 split at e <;>cases e
 assumption
def BJ{f:eJ}(h:PE X e (tQ (md X) f)):PE X e (tQ (md X) (ip f)):=kR h fun σ H Q qq=>by
 obtain⟨ρ,Γ,S,ds,t,S',ok,e,q⟩:=qq
 obtain⟨⟨⟨ds',t'⟩,S1⟩,e1,e⟩:=ar e
 dsimp only at e
 split at e
 ·obtain⟨e3,rfl⟩:=cR e
  obtain⟨rfl,rfl⟩:=Prod.mk.inj e3
  exact⟨ρ,Γ,S,ds',t',S1,ok,e1,q⟩
 ·cases e
def Jk{f:eJ}{p:Pos}(hg:Gl X "list")(hm:X.mg "list"=none)(ha:PE X a (tQ (md X) f))(hs:starEach [a] X.env= [(false,eval a X.env)]:=by rfl):
  PE X (.Call (.Name "list" p) [a] [] pos) (tL (md X) fun Γ S=>(f Γ S).bind fun(p,S1)=>some (p.1,S1)):=
 kR (ix w4 hg hm (by rfl) (dC ha gK hs) (he:=hs)) fun σ H Q qq=>by
  obtain⟨ρ,Γ,S,d,S',ok,e,q⟩:=qq
  obtain⟨⟨⟨ds,t⟩,S1⟩,e1,e⟩:=ar e
  obtain⟨rfl,rfl⟩:=cR e
  refine⟨ρ,Γ,S,ds,t,S1,ok,e1,fun ρ' a vs H' x st h r=>⟨a,vs,rfl,h.sq,fun l hl=> ?_⟩⟩
  exact q _ _ _ _ (x.trans (cH.laid hl)) (st.lay hl) (x.grow _ hl) (dP x st hl) b_ (r.ext (cH.laid hl))
def Le(f:eJ):g9:=fun Γ S=>(f Γ S).bind fun(p,S1)=>some (p.1,S1)
def JC:List D->Option (List Bool)
 | []=>some []
 |.bl b::r=>(JC r).bind fun bs=>some (b::bs)
 |_::_=>none
theorem FZ{M:Md}{ρ:List Addr}{H:Hp}:∀{ds:List D} {vs:List V} {bs:List Bool},bq M ρ H ds vs->JC ds=some bs->vs=bs.map V.bl
 | [],_,_,h,e=>by cases h;cases e;rfl
 | d::ds,_,_,h,e=>by
   cases d with
   | bl b=>
     simp only[JC] at e
     obtain⟨bs',e1,e⟩:=ar e
     cases e
     cases h with
     | cons h hs=>
       cases h
       rw[FZ hs e1]
       rfl
   |_=>cases e
def xC(f:eJ):bN:=fun Γ S=>(f Γ S).bind fun(p,S1)=>if p.2.isL=true then(JC p.1).bind fun bs=>some (.bl (bs.all id),S1) else none
def Ec{f:eJ}{p:Pos}(hc:X.calm=true)(hg:Gl X "all")(hm:X.mg "all"=none)(ha:PE X a (tQ (md X) f))(hs:starEach [a] X.env= [(false,eval a X.env)]:=by rfl):
  PE X (.Call (.Name "all" p) [a] [] pos) (tD (md X) (xC f)):=
 kR (eR (Dc hc) hg hm (by rfl) (dC ha gK hs) (he:=hs)) fun σ H Q qq=>by
  obtain⟨ρ,Γ,S,d,S',ok,e,q⟩:=qq
  obtain⟨⟨⟨ds,t⟩,S1⟩,e1,e⟩:=ar e
  dsimp only at e
  split at e
  ·rename_i c
   obtain⟨bs,e2,e⟩:=ar e
   obtain⟨rfl,rfl⟩:=cR e
   refine⟨ρ,Γ,S,ds,t,S1,ok,e1,fun ρ' a vs H' x st h r=>⟨a,bs,rfl,?_,q _ _ _ x st (.bl _)⟩⟩
   rw[←FZ r e2]
   exact h.sqL c
  ·cases e
def GW(S:aK)(T:String):D->Option Bool
 |.non=>some (T=="NoneType")
 |.bl _=>some (T=="bool" ||T=="int")
 |.int _=>some (T=="int")
 |.str _=>some (T=="str")
 |.tup _=>some (T=="tuple")
 | .ref k=>match S[k]? with
   |some (.lst _)=>some (T=="list")
   |some (.frz _)=>some (T=="list")
   |some (.dct _)=>some (T=="dict")
   |_=>none
 |.fn _=>none
def K1(K:PySem.W.Frag)(T:String):Prop:=(PySem.W.kitOne K (.type "NoneType") (.type T)=some (T=="NoneType"))/\(PySem.W.kitOne K (.type "bool") (.type T)=some (T=="bool" ||T=="int"))/\(PySem.W.kitOne K (.type "int") (.type T)=some (T=="int"))/\(PySem.W.kitOne K (.type "str") (.type T)=some (T=="str"))∧
 (PySem.W.kitOne K (.type "tuple") (.type T)=some (T=="tuple"))/\(PySem.W.kitOne K (.type "list") (.type T)=some (T=="list"))/\(PySem.W.kitOne K (.type "dict") (.type T)=some (T=="dict"))
def DE(T:String)(f:bN):bN:=fun Γ S=>(f Γ S).bind fun(d,S1)=>(GW S1 T d).bind fun k=>some (.bl k,S1)
def Ia{T:String}{tn:Expr}{f:bN}{p:Pos}(hk:K1 X.K T)(hg:Gl X "isinstance")(hm:X.mg "isinstance"=none)(ha:PE X a (tD (md X) f))(ht:PE X tn (tC (.ty T)))(hs:starEach [a,tn] X.env= [(false,eval a X.env),(false,eval tn X.env)]:=by rfl)(hs1:starEach [tn] X.env= [(false,eval tn X.env)]:=by rfl):
  PE X (.Call (.Name "isinstance" p) [a,tn] [] pos) (tD (md X) (DE T f)):=
 kR (eR D_ hg hm boot_isinstance (dC ha (dC ht gK hs1) (by rw[hs,hs1])) (he:=by rw[hs,hs1]) (hpl:=by rw[hs1];rfl)) fun σ H Q qq=>by
  obtain⟨ρ,Γ,S,d,S',ok,e,q⟩:=qq
  obtain⟨⟨d',S1⟩,e1,e⟩:=ar e
  obtain⟨k,e2,e⟩:=ar e
  obtain⟨rfl,rfl⟩:=cR e
  obtain⟨k1,k2,k3,k4,k5,k6,k7⟩:=hk
  refine⟨ρ,Γ,S,d',S1,ok,e1,fun ρ' v H' x st r=> ?_⟩
  have fin:=q _ _ _ x st (.bl _)
  cases r with
  |non=>cases e2;exact⟨_,_,_,_,rfl,.non,k1,fin⟩
  |bl=>cases e2;exact⟨_,_,_,_,rfl,.bl _,k2,fin⟩
  |int=>cases e2;exact⟨_,_,_,_,rfl,.int _,k3,fin⟩
  |str=>cases e2;exact⟨_,_,_,_,rfl,.str _,k4,fin⟩
  |tup h hs=>cases e2;exact⟨_,_,_,_,rfl,.tup h,k5,fin⟩
  |fn=>cases e2
  | ref h=>
    simp only[GW] at e2
    split at e2
    · rename_i q';cases e2;obtain⟨vs,h1,_⟩:=st.obj _ _ _ h q';exact⟨_,_,_,_,rfl,.lst h1,k6,fin⟩
    · rename_i q';cases e2;obtain⟨vs,o,h1,_⟩:=st.obj _ _ _ h q';exact⟨_,_,_,_,rfl,.frz h1,k6,fin⟩
    · rename_i q';cases e2;obtain⟨vs,h1,_⟩:=st.obj _ _ _ h q';exact⟨_,_,_,_,rfl,.dK h1,k7,fin⟩
    · cases e2
abbrev HL:=List D->Option D
def Fy(M:Md)(r:List V->Hp->VK->Prop)(o:HL):Prop:=∀{ρ:List Addr} {S:aK} {H:Hp} {xs:List D} {d:D} {us:List V} {Q:VK},gG M ρ S H->bq M ρ H xs us->o xs=some d->(∀w,Rel M ρ H d w->Q w H)->r us H Q
def yz(o:HL)(f:g9):bN:=fun Γ S=>(f Γ S).bind fun(xs,S1)=>(o xs).bind fun d=>some (d,S1)
def uI{r:List V->Hp->VK->Prop}{o:HL}{f:g9}(ho:Fy (md X) r o)(h:PE X e (L5 r (zr (md X) f))):PE X e (tD (md X) (yz o f)):=kR h fun σ H Q qq=>by
 obtain⟨ρ,Γ,S,d,S',ok,e,q⟩:=qq
 obtain⟨⟨xs,S1⟩,e1,e⟩:=ar e
 obtain⟨d',e3,e⟩:=ar e
 obtain⟨rfl,rfl⟩:=cR e
 exact⟨ρ,Γ,S,xs,S1,ok,e1,fun ρ1 vs H1 x1 st1 r1=>ho st1 r1 e3 fun w r3=>q ρ1 w H1 x1 st1 r3⟩
def Hh:HL
 | [.int i]=>some (.int (if i<0 then -i else i))
 |_=>none
def maxD:HL
 | [.int i,.int j]=>some (.int (if j>i then j else i))
 |_=>none
def minD:HL
 | [.int i,.int j]=>some (.int (if j<i then j else i))
 |_=>none
def intOfD:HL
 | [.int i]=>some (.int i)
 | [.bl k]=>some (.int (if k then 1 else 0))
 |_=>none
def JW{M:Md}:Fy M (fun xs H Q=>∃i,xs= [.int i]/\Q (.int (if i<0 then -i else i)) H) Hh:=by
 intro ρ S H xs d us Q st r e q
 unfold Hh at e
 split at e <;>cases e
 cases r with|cons r rr=>cases rr;cases r;exact⟨_,rfl,q _ (.int _)⟩
def F4{M:Md}:Fy M (fun xs H Q=>∃i j,xs= [.int i,.int j]/\Q (.int (if j>i then j else i)) H) maxD:=by
 intro ρ S H xs d us Q st r e q
 unfold maxD at e
 split at e <;>cases e
 cases r with|cons r rr=>cases rr with|cons r' rr=>cases rr;cases r;cases r';exact⟨_,_,rfl,q _ (.int _)⟩
def AY{M:Md}:Fy M (fun xs H Q=>∃i j,xs= [.int i,.int j]/\Q (.int (if j<i then j else i)) H) minD:=by
 intro ρ S H xs d us Q st r e q
 unfold minD at e
 split at e <;>cases e
 cases r with|cons r rr=>cases rr with|cons r' rr=>cases rr;cases r;cases r';exact⟨_,_,rfl,q _ (.int _)⟩
def o_{M:Md}:Fy M (fun xs H Q=>(∃i,xs= [.int i]/\Q (.int i) H)\/∃k,xs= [.bl k]/\Q (.int (if k then 1 else 0)) H) intOfD:=by
 intro ρ S H xs d us Q st r e q
 unfold intOfD at e
 split at e <;>cases e
 ·cases r with|cons r rr=>cases rr;cases r;exact .inl ⟨_,rfl,q _ (.int _)⟩
 ·cases r with|cons r rr=>cases rr;cases r;exact .inr ⟨_,rfl,q _ (.int _)⟩
def oX:List D->Option (List V)
 | []=>some []
 |d::r=>(wz d).bind fun v=>(oX r).bind fun vs=>some (v::vs)
def sE{d:D}{v:V}(e:wz d=some v):ia v=true:=by
 cases d <;>simp[wz] at e <;>subst e <;>rfl
theorem tR{M:Md}{ρ:List Addr}{H:Hp}:∀{ds:List D} {us vs:List V},bq M ρ H ds us->oX ds=some vs->us=vs/\vs.all ia=true
 |_,_,_,.nil,e=>by cases e;exact⟨rfl,rfl⟩
 | _,_,_,.cons h hs,e=>by
   obtain⟨v,e1,e⟩:=ar e
   obtain⟨vs,e2,e⟩:=ar e
   cases e
   obtain⟨h1,h2⟩:=tR hs e2
   rw[mY h e1,h1]
   exact⟨rfl,by rw[List.all_cons,sE e1,h2];rfl⟩
def Br(neg:Bool)(f:bN)(g:eJ):bN:=fun Γ S=>(f Γ S).bind fun(x,S1)=>(g Γ S1).bind fun(p,S2)=>(wz x).bind fun v=>(oX p.1).bind fun vs=>some (.bl (if neg then !Ej v vs else Ej v vs),S2)
def yb{f:bN}{t:TE}(hw:∀σ H Q,tD (md X) f σ H Q->t σ H Q)(h:PT X e (FM t)):PT X e (tB (md X) (aN f)):=LZ h fun σ H Q ⟨ρ,Γ,S,k,S',ok,e,q⟩=>
 hw _ _ _ ⟨ρ,Γ,S,.bl k,S',ok,uA e,fun ρ' v H' x st r=>by cases r;exact⟨k,rfl,q _ _ x st⟩⟩
def HV{neg:Bool}{f:bN}{g:eJ}:∀σ H Q,tD (md X) (Br neg f g) σ H Q->F_ (Mj X.K neg) (tD (md X) f) (tQ (md X) g) σ H Q:=fun σ H Q qq=>by
 obtain⟨ρ,Γ,S,d,S',ok,e,q⟩:=qq
 obtain⟨⟨x,S1⟩,e1,e⟩:=ar e
 obtain⟨⟨⟨ds,t⟩,S2⟩,e2,e⟩:=ar e
 obtain⟨v,e3,e⟩:=ar e
 obtain⟨vs,e4,e⟩:=ar e
 obtain⟨rfl,rfl⟩:=cR e
 refine⟨ρ,Γ,S,x,S1,ok,e1,fun ρ1 u H1 x1 st1 r1=>⟨ρ1,Γ,S1,ds,t,S2,ok.to x1 st1,e2,fun ρ2 a us H2 x2 st2 h2 r2=> ?_⟩⟩
 cases mY r1 e3
 obtain⟨h3,h4⟩:=tR r2 e4
 subst h3
 exact⟨a,us,rfl,h2.sq,sE e3,h4,q _ _ _ (x1.trans x2) st2 (.bl _)⟩
def Lb{f:bN}{g:eJ}(ha:PE X a (tD (md X) f))(hb:PE X b (tQ (md X) g))(hm:behindInMarks .In b=false:=by rfl):PT X (.Compare a [.In] [b] pos) (tB (md X) (aN (Br false f g))):=yb HV (ow CO ha hb hm)
def rT{f:bN}{g:eJ}(ha:PE X a (tD (md X) f))(hb:PE X b (tQ (md X) g))(hm:behindInMarks .NotIn b=false:=by rfl):PT X (.Compare a [.NotIn] [b] pos) (tB (md X) (aN (Br true f g))):=yb HV (ow x9 ha hb hm)
end
inductive Out where
 |nx (Γ:dh) (S:aK)|bk (Γ:dh) (S:aK)|ct (Γ:dh) (S:aK)|rt (d:D) (S:aK)|rl (ds:List D) (S:aK)
abbrev dt:=dh->aK->Option Out
def xE(M:Md)(ρ:List Addr)(H:Hp)(D:Ends):Out->Prop
 |.nx Γ' S'=>∀ρ' σ' H',cH ρ H ρ' H'->Ok M ρ' Γ' S' σ' H'->D.nx σ' H'
 |.bk Γ' S'=>∀ρ' σ' H',cH ρ H ρ' H'->Ok M ρ' Γ' S' σ' H'->D.bk σ' H'
 |.ct Γ' S'=>∀ρ' σ' H',cH ρ H ρ' H'->Ok M ρ' Γ' S' σ' H'->D.ct σ' H'
 |.rt d S'=>∀ρ' v H',cH ρ H ρ' H'->gG M ρ' S' H'->Rel M ρ' H' d v->D.rt v H'
 |.rl ds S'=>∀ρ' a vs H',cH ρ H ρ' H'->gG M ρ' S' H'->H a=none->a∉ρ'->H' a=some (.lst vs)->bq M ρ' H' ds vs->D.rt (.ref a) H'
def xE.to{M:Md}{ρ ρ1:List Addr}{H H1:Hp}{D:Ends}{o:Out}(h:xE M ρ H D o)(e:cH ρ H ρ1 H1):xE M ρ1 H1 D o:=by
 cases o with
 |nx=>exact fun ρ' σ' H' x ok=>h _ _ _ (e.trans x) ok
 |bk=>exact fun ρ' σ' H' x ok=>h _ _ _ (e.trans x) ok
 |ct=>exact fun ρ' σ' H' x ok=>h _ _ _ (e.trans x) ok
 |rt=>exact fun ρ' v H' x st r=>h _ _ _ (e.trans x) st r
 |rl=>exact fun ρ' a vs H' x st fr nr ha r=>h _ _ _ _ (e.trans x) st (e.grow _ fr) nr ha r
def tS(M:Md)(g:dt):TS:=fun D σ H=>∃ρ Γ S o,Ok M ρ Γ S σ H/\g Γ S=some o/\xE M ρ H D o
section
variable{X:Cx}{a b c e:Expr}{pos:Pos}{st:Stmt}{rest body other:List Stmt}
def g7:dt:=fun Γ S=>some (.nx Γ S)
def cf:rV X [] (tS (md X) g7):=K7 Hq fun D σ H ⟨ρ,Γ,S,o,ok,e,q⟩=>by cases e;exact q _ _ _ cH.refl ok
noncomputable def aL(f g:dt):dt:=fun Γ S=>(f Γ S).bind fun o=>match o with
 |.nx Γ1 S1=>g Γ1 S1
 |o=>some o
def ax{f g:dt}(h1:PS X st (tS (md X) f))(h2:rV X rest (tS (md X) g)):rV X (st::rest) (tS (md X) (aL f g)):=K7 (ES h1 h2) fun D σ H qq=>by
 obtain⟨ρ,Γ,S,o,ok,e,q⟩:=qq
 obtain⟨o1,e1,e⟩:=ar e
 refine⟨ρ,Γ,S,o1,ok,e1,?_⟩
 cases o1 with
 |nx Γ1 S1=>exact fun ρ1 σ1 H1 x1 ok1=>⟨ρ1,Γ1,S1,o,ok1,e,q.to x1⟩
 |bk=>cases e;exact q
 |ct=>cases e;exact q
 |rt=>cases e;exact q
 |rl=>cases e;exact q
def aG{f:dt}(h1:PS X st (tS (md X) f)):rV X [st] (tS (md X) f):=Gd h1
def never:dt:=fun _ _=>none
def GF:PS X st (tS (md X) never):=B7 Ef fun D σ H ⟨ρ,Γ,S,o,ok,e,q⟩=>by cases e
def nX(f:bN):dt:=fun Γ S=>(f Γ S).bind fun(_,S1)=>some (.nx Γ S1)
def df{f:bN}(h:PE X e (tD (md X) f))(hs:swapsWith e none pos.line X.env=pure false:=by rfl):PS X (.Expr e pos) (tS (md X) (nX f)):=B7 (Hc h hs) fun D σ H qq=>by
 obtain⟨ρ,Γ,S,o,ok,e,q⟩:=qq
 obtain⟨⟨d,S1⟩,e1,e⟩:=ar e
 cases e
 exact⟨ρ,Γ,S,d,S1,ok,e1,fun ρ' v H' x st r=>q _ _ _ x (ok.to x st)⟩
noncomputable def cP(f:bN):dt:=fun Γ S=>(f Γ S).bind fun(d,S1)=>some (.rt d S1)
def aQ{f:bN}(h:PE X e (tD (md X) f)):PS X (.Return (some e) pos) (tS (md X) (cP f)):=B7 (Fs h) fun D σ H qq=>by
 obtain⟨ρ,Γ,S,o,ok,e,q⟩:=qq
 obtain⟨⟨d,S1⟩,e1,e⟩:=ar e
 cases e
 exact⟨ρ,Γ,S,d,S1,ok,e1,q⟩
noncomputable def Es(f:g9):dt:=fun Γ S=>(f Γ S).bind fun(ds,S1)=>some (.rl ds S1)
def m8{f:g9}(h:PE X e (tL (md X) f)):PS X (.Return (some e) pos) (tS (md X) (Es f)):=B7 (Fs h) fun D σ H qq=>by
 obtain⟨ρ,Γ,S,o,ok,e,q⟩:=qq
 obtain⟨⟨d,S1⟩,e1,e⟩:=ar e
 cases e
 exact⟨ρ,Γ,S,d,S1,ok,e1,q⟩
def fE(c:kd)(f g:dt):dt:=fun Γ S=>(c Γ S).bind fun(k,S1)=>if k=true then f Γ S1 else g Γ S1
def cQ{h:kd}{f g:dt}(hc:PT X c (tB (md X) h))(ha:rV X body (tS (md X) f))(hb:rV X other (tS (md X) g)):PS X (.If c body other pos) (tS (md X) (fE h f g)):=B7 (KN hc ha hb) fun D σ H qq=>by
 obtain⟨ρ,Γ,S,o,ok,e,q⟩:=qq
 obtain⟨⟨k,S1⟩,e1,e⟩:=ar e
 refine⟨ρ,Γ,S,k,S1,ok,e1,fun ρ1 H1 x1 st1=> ?_⟩
 dsimp only at e
 split at e
 ·rename_i c
  rw[Qhq c]
  exact⟨ρ1,Γ,S1,o,ok.to x1 st1,e,q.to x1⟩
 ·rename_i c
  rw[Quq c]
  exact⟨ρ1,Γ,S1,o,ok.to x1 st1,e,q.to x1⟩
abbrev nW:=D->dh->aK->Option (dh×aK)
abbrev rh:=List D->dh->aK->Option (dh×aK)
def tG(M:Md)(g:nW):TG:=fun v σ H Q=>∃ρ Γ S d Γ' S',Ok M ρ Γ S σ H/\Rel M ρ H d v/\g d Γ S=some (Γ',S')/\∀ρ' σ' H',cH ρ H ρ' H'->Ok M ρ' Γ' S' σ' H'->Q σ' H'
def L6(M:Md)(g:rh):He:=fun vs σ H Q=>∃ρ Γ S ds Γ' S',Ok M ρ Γ S σ H/\bq M ρ H ds vs/\g ds Γ S=some (Γ',S')/\∀ρ' σ' H',cH ρ H ρ' H'->Ok M ρ' Γ' S' σ' H'->Q σ' H'
def MC{t t':TG}(h:PG X e t)(w:∀v σ H Q,t' v σ H Q->t v σ H Q):PG X e t':=fun pins s σ H v u Q I r q=>h pins s σ H v u Q I r (w _ _ _ _ q)
def LI{es:List Expr}{t t':He}(h:Ga X es t)(w:∀v σ H Q,t' v σ H Q->t v σ H Q):Ga X es t':=fun pins s σ H v u Q I r q=>h pins s σ H v u Q I r (w _ _ _ _ q)
def cC(i:Nat):nW:=fun d Γ S=>some (Γ.set i (some d),S)
def FC{i:Nat}(h:PG X e (su i)):PG X e (tG (md X) (cC i)):=MC h fun v σ H Q qq=>by
 obtain⟨ρ,Γ,S,d,Γ',S',ok,r,e,q⟩:=qq
 cases e
 exact q _ _ _ cH.refl ⟨ok.en.set r,ok.st⟩
def fw:rh:=fun ds Γ S=>match ds with
 | []=>some (Γ,S)
 |_=>none
def aS(f:nW)(g:rh):rh:=fun ds Γ S=>match ds with
 |d::r=>(f d Γ S).bind fun(Γ1,S1)=>g r Γ1 S1
 | []=>none
def cI:Ga X [] (L6 (md X) fw):=LI GC fun vs σ H Q qq=>by
 obtain⟨ρ,Γ,S,ds,Γ',S',ok,r,e,q⟩:=qq
 cases r with
 |nil=>cases e;exact⟨rfl,q _ _ _ cH.refl ok⟩
 |cons=>cases e
def aH{es:List Expr}{f:nW}{g:rh}(h1:PG X e (tG (md X) f))(h2:Ga X es (L6 (md X) g))(hs:(assignEach (e::es) X.env).map (·.2)=assign e X.env::(assignEach es X.env).map (·.2):=by rfl):Ga X (e::es) (L6 (md X) (aS f g)):=
 LI (Ek h1 h2 hs) fun vs σ H Q qq=>by
  obtain⟨ρ,Γ,S,ds,Γ',S',ok,r,e,q⟩:=qq
  cases r with
  |nil=>cases e
  | cons r rs=>
    obtain⟨⟨Γ1,S1⟩,e1,e⟩:=ar e
    refine⟨_,_,rfl,ρ,Γ,S,_,Γ1,S1,ok,r,e1,fun ρ1 σ1 H1 x1 ok1=>⟨ρ1,Γ1,S1,_,Γ',S',ok1,rs.ext x1,e,fun ρ2 σ2 H2 x2 ok2=>q _ _ _ (x1.trans x2) ok2⟩⟩
def mr(g:rh):nW:=fun d Γ S=>match d with
 |.tup ds=>g ds Γ S
 |_=>none
def nG(n:Nat)(g:rh):rh:=fun ds Γ S=>if ds.length=n then g ds Γ S else none
def dH{es:List Expr}{k:Nat}{g:rh}{n:Nat}(hc:X.calm=true)(h:Ga X es (L6 (md X) g))(hn:(assignEach es X.env).length=n:=by rfl)(hst:(assignEach es X.env).findIdx? (·.1)=none:=by rfl):
  PG X (.Tuple es k pos) (tG (md X) (mr (nG n g))):=MC (JF hc h hn hst) fun v σ H Q ⟨ρ,Γ,S,d,Γ',S',ok,r,e,q⟩=>by
 cases r with
 | tup h hs=>
   simp only[mr,nG] at e
   split at e
   · rename_i c
     exact⟨_,_,rfl,iW.of h,by rw[←hs.length];exact c,ρ,Γ,S,_,Γ',S',ok,hs,e,q⟩
   · cases e
 |_=>cases e
def rY(f:bN)(g:nW):dt:=fun Γ S=>(f Γ S).bind fun(d,S1)=>(g d Γ S1).bind fun(Γ2,S2)=>some (.nx Γ2 S2)
def KS{f:bN}{g:nW}:∀D σ H,tS (md X) (rY f g) D σ H->Dq (tD (md X) f) (tG (md X) g) D σ H:=fun D σ H qq=>by
 obtain⟨ρ,Γ,S,o,ok,e,q⟩:=qq
 obtain⟨⟨d,S1⟩,e1,e⟩:=ar e
 obtain⟨⟨Γ2,S2⟩,e2,e⟩:=ar e
 cases e
 exact⟨ρ,Γ,S,d,S1,ok,e1,fun ρ1 v H1 x1 st1 r1=>⟨ρ1,Γ,S1,d,Γ2,S2,ok.to x1 st1,r1,e2,fun ρ2 σ2 H2 x2 ok2=>q _ _ _ (x1.trans x2) ok2⟩⟩
def fT{tg:Expr}{f:bN}{g:nW}(he:PE X e (tD (md X) f))(hg:PG X tg (tG (md X) g))(hs:swapsWithSole [tg] e pos.line X.env=pure false:=by rfl)(hw:swappedStores [tg] e X.env=pure none:=by rfl)
  (h1:(assignEach [tg] X.env).map (·.2)= [assign tg X.env]:=by rfl):PS X (.Assign [tg] e pos) (tS (md X) (rY f g)):=B7 (Jt he hg hs hw h1) KS
noncomputable def bt(i:Nat)(f:bN):dt:=fun Γ S=>(f Γ S).bind fun(d,S1)=>some (.nx (Γ.set i (some d)) S1)
def KH{i:Nat}{f:bN}(h:PS X st (Dq (tD (md X) f) (su i))):PS X st (tS (md X) (bt i f)):=B7 h fun D σ H qq=>by
 obtain⟨ρ,Γ,S,o,ok,e,q⟩:=qq
 obtain⟨⟨d,S1⟩,e1,e⟩:=ar e
 cases e
 exact⟨ρ,Γ,S,d,S1,ok,e1,fun ρ1 v H1 x1 st1 r1=>q _ _ _ x1 ⟨(ok.en.ext x1).set r1,st1⟩⟩
abbrev ye:=dh->aK->Option ((List D×(aK->Prop))×aK)
def Walks(M:Md)(J:It)(ρ:List Addr)(H:Hp)(ds:List D)(W:aK->Prop):Prop:=∀(i:Nat) (ρ':List Addr) (S':aK) (H':Hp),cH ρ H ρ' H'->gG M ρ' S' H'->W S'→
 (∀d,ds[i]?=some d->J.go i H'/\∀x H'',J.yld i H' x H''->cH ρ' H' ρ' H''/\gG M ρ' S' H''/\Rel M ρ' H'' d x)/\(i=ds.length->J.stop i H')
def tI(M:Md)(f:ye):TI:=fun σ H R=>∃ρ Γ S ds W S',Ok M ρ Γ S σ H/\f Γ S=some ((ds,W),S')/\∀ρ' J H',cH ρ H ρ' H'->gG M ρ' S' H'->Walks M J ρ' H' ds W->R J H'
def L7{tg:Expr}{t t':TI}(h:PI X tg e t)(w:∀σ H R,t' σ H R->t σ H R):PI X tg e t':=fun pins s σ H R I q=>h pins s σ H R I (w _ _ _ q)
def JG{tg l:Expr}{tl:TE}(hl:PE X l tl):PI X tg l (fun σ H R=>tl σ H fun x H1=>∃a,x=.ref a/\((∃xs,ik X.K H1 a xs)/\R (M4 X.K a) H1\/(∃xs,iW X.K H1 a xs)/\R (M9 X.K a) H1)):=by
 intro pins s σ H R I h
 refine dr (hl pins s σ H _ I h) fun v s1 qr=> ?_
 obtain⟨x,H1,I1,r1,q1⟩:=qr
 obtain⟨a,e,q1⟩:=q1
 subst e
 cases r1
 rcases q1 with⟨⟨xs,hq⟩,q⟩|⟨⟨xs,hq⟩,q⟩
 ·obtain⟨its,rv,p,hz⟩:=I1.list hq
  refine wpAny_pyIter_list p.isList ?_
  refine⟨s1.heap.objs.size,[s1.heap.objs.size],_,_,H1,rfl,I1.kept (t':=s1.toks) fun b o e=>Qcq _ e,C_ a _,⟨_,Qrq _ rfl,rfl,rfl⟩,fun b hb=> ?_,q⟩
  have e:b=s1.heap.objs.size:=by simpa using hb
  subst e
  exact I1.fpOk (Qmq _) (I1.hok.fresh (Qmq _))
 ·obtain⟨its,rv,p,hz⟩:=I1.tuple hq
  refine wpAny_pyIter_tuple (show s1.heap.IsTuple a its.toArray from p) ?_
  refine⟨s1.heap.objs.size,[s1.heap.objs.size],_,_,H1,rfl,I1.kept (t':=s1.toks) fun b o e=>Qcq _ e,AU a _,⟨_,Qrq _ rfl,rfl,rfl⟩,fun b hb=> ?_,q⟩
  have e:b=s1.heap.objs.size:=by simpa using hb
  subst e
  exact I1.fpOk (Qmq _) (I1.hok.fresh (Qmq _))
def jq(f:eJ):ye:=fun Γ S=>(f Γ S).bind fun(p,S1)=>some ((p.1,fun S'=>p.2.stays S' p.1),S1)
def ed{tg l:Expr}{f:eJ}(hl:PE X l (tQ (md X) f)):PI X tg l (tI (md X) (jq f)):=L7 (JG hl) fun σ H R qq=>by
 obtain⟨ρ,Γ,S,ds,W,S',ok,e,q⟩:=qq
 obtain⟨⟨⟨ds',t⟩,S1⟩,e1,e⟩:=ar e
 obtain⟨e2,rfl⟩:=cR e
 obtain⟨rfl,rfl⟩:=Prod.mk.inj e2
 refine⟨ρ,Γ,S,ds',t,S1,ok,e1,fun ρ' a vs H' x st h r=>⟨a,rfl,?_⟩⟩
 cases c:t.isL with
 | true=>
   refine .inl ⟨⟨vs,h.sqL c⟩,q _ _ _ x st fun i ρ2 S2 H2 x2 st2 w=> ?_⟩
   obtain⟨vs',h',r'⟩:=h.to r x2 st2 w
   have sq:=h'.sqL c
   refine⟨fun d hd=> ?_,fun hi=>⟨vs',sq,by rw[hi,r'.length];exact Qmq _⟩⟩
   obtain⟨v,hv,rv⟩:=r'.get hd
   refine⟨⟨vs',v,sq,hv⟩,fun x H3 hy=> ?_⟩
   obtain⟨rfl,hy⟩:=hy
   have:=hy vs' sq
   rw[hv] at this
   cases this
   exact⟨cH.refl,st2,rv⟩
 | false=>
   refine .inr ⟨⟨vs,h.sqT c⟩,q _ _ _ x st fun i ρ2 S2 H2 x2 st2 w=> ?_⟩
   obtain⟨vs',h',r'⟩:=h.to r x2 st2 w
   have sq:=h'.sqT c
   refine⟨fun d hd=> ?_,fun hi=>⟨vs',sq,by rw[hi,r'.length];exact Qmq _⟩⟩
   obtain⟨v,hv,rv⟩:=r'.get hd
   refine⟨⟨vs',v,sq,hv⟩,fun x H3 hy=> ?_⟩
   obtain⟨rfl,hy⟩:=hy
   have:=hy vs' sq
   rw[hv] at this
   cases this
   exact⟨cH.refl,st2,rv⟩
def kS(lo hi:Int):List D:=(List.range (hi-lo).toNat).map fun(i:Nat)=>D.int (lo+(i:Int))
def sV(f:bN):ye:=fun Γ S=>(f Γ S).bind fun(d,S1)=>match d with
 |.int j=>if -(2^62)<=j/\j<2^62 then some ((kS 0 j,fun _=>True),S1) else none
 |_=>none
def Dp{M:Md}{ρ:List Addr}{H:Hp}{lo hi:Int}:Walks M (L1 lo (hi-lo).toNat) ρ H (kS lo hi) (fun _=>True):=fun i ρ2 S2 H2 x2 st2 w=>by
 unfold kS
 refine⟨fun d hd=> ?_,fun hi=>by rw[lQm,QVq] at hi;exact Nat.le_of_eq hi.symm⟩
 rw[gQm] at hd
 obtain⟨k,hk,rfl⟩:=oQm.mp hd
 have hl:=(gQs.mp hk)
 obtain⟨hl,he⟩:=hl
 rw[List.getElem_range] at he
 subst he
 rw[QVq] at hl
 refine⟨hl,fun x H3 hy=> ?_⟩
 obtain⟨rfl,rfl⟩:=hy
 exact⟨cH.refl,st2,.int _⟩
def lJ{tg a:Expr}{f:bN}{p:Pos}(hg:Gl X "range")(hm:X.mg "range"=none)(ha:PE X a (tD (md X) f))(hs:starEach [a] X.env= [(false,eval a X.env)]:=by rfl):PI X tg (.Call (.Name "range" p) [a] [] pos) (tI (md X) (sV f)):=
 L7 (CM hg hm (ak ha av hs) hs) fun σ H R qq=>by
  obtain⟨ρ,Γ,S,ds,W,S',ok,e,q⟩:=qq
  obtain⟨⟨d,S1⟩,e1,e⟩:=ar e
  dsimp only at e
  split at e
  ·rename_i j
   split at e
   ·rename_i hj
    obtain⟨e2,rfl⟩:=cR e
    obtain⟨rfl,rfl⟩:=Prod.mk.inj e2
    refine⟨ρ,Γ,S,[.int j],S1,ok,by unfold ao aw;rw[e1];rfl,fun ρ' vs H' x st r=> ?_⟩
    cases r with
    | cons r rr=>
      cases rr
      cases r
      refine⟨j,rfl,hj.1,hj.2,q _ _ _ x st ?_⟩
      have:=Dp (M:=md X) (ρ:=ρ') (H:=H') (lo:=0) (hi:=j)
      rw[Int.sub_zero] at this
      exact this
   ·cases e
  ·cases e
open Classical in
def forL(g:nW)(b:dt)(W:aK->Prop):List D->dh->aK->Option Out
 | [],Γ,S=>if W S then some (.nx Γ S) else none
 |d ::ds,Γ,S=>if W S then(g d Γ S).bind fun(Γ1,S1)=>(b Γ1 S1).bind fun o=>match o with
    |.nx Γ2 S2=>forL g b W ds Γ2 S2
    |.ct Γ2 S2=>forL g b W ds Γ2 S2
    |.bk Γ2 S2=>some (.nx Γ2 S2)
    |.rt x S2=>some (.rt x S2)
    |.rl x S2=>some (.rl x S2)
  else none
def lU(i:ye)(g:nW)(b:dt):dt:=fun Γ S=>(i Γ S).bind fun(p,S1)=>forL g b p.2 p.1 Γ S1
def jt{tg iter:Expr}{i:ye}{g:nW}{f:dt}(hp:PassesOwn (model X.prog X.w) X.A X.env X.xe)(hc:X.calm=true)(hi:PI X tg iter (tI (md X) i))(hg:PG X tg (tG (md X) g))(hb:rV X body (tS (md X) f))
  (hs:∀x,foldedSetIterable iter X.env x=pure x:=by intro _;rfl):PS X (.For tg iter body [] pos) (tS (md X) (lU i g f)):=B7 (JZ hp hc hi hg hb hs) fun D σ H ⟨ρ,Γ,S,o,ok,e,q⟩=>by
 obtain⟨⟨⟨ds,W⟩,S1⟩,e1,e⟩:=ar e
 refine⟨ρ,Γ,S,ds,W,S1,ok,e1,fun ρ1 J H1 x1 st1 wk=> ?_⟩
 have q1:=q.to x1
 have ok1:=ok.to x1 st1
 refine⟨fun i m σ' H'=>m=ds.length-i/\i<=ds.length/\∃ρ2 Γ2 S2,cH ρ1 H1 ρ2 H'/\Ok (md X) ρ2 Γ2 S2 σ' H'/\forL g f W (ds.drop i) Γ2 S2=some o,⟨ds.length,by simp,Nat.zero_le _,ρ1,Γ,S1,cH.refl,ok1,e⟩,?_⟩
 rintro i m σ2 H2 ⟨rfl,hi,ρ2,Γ2,S2,x2,ok2,e2⟩
 by_cases hlt:i<ds.length
 ·have hd:ds[i]?=some ds[i]:=gQe hlt
  rw[QWq hlt] at e2
  unfold forL at e2
  split at e2
  ·rename_i w
   obtain⟨w1,w2⟩:=wk i ρ2 S2 H2 x2 ok2.st w
   obtain⟨go,yld⟩:=w1 _ hd
   refine .inr ⟨go,fun σ' H'=>∃ρ' Γ' S',cH ρ1 H1 ρ' H'/\Ok (md X) ρ' Γ' S' σ' H'/\forL g f W (ds.drop (i+1)) Γ' S'=some o,fun σ' H' ⟨ρ',Γ',S',h1,h2,h3⟩=>⟨ds.length-(i+1),by omega,rfl,hlt,ρ',Γ',S',h1,h2,h3⟩,fun x H3 hy=> ?_⟩
   obtain⟨x3,st3,r3⟩:=yld x H3 hy
   obtain⟨⟨Γ4,S4⟩,e4,e5⟩:=ar e2
   refine⟨ρ2,Γ2,S2,_,Γ4,S4,ok2.to x3 st3,r3,e4,fun ρ4 σ4 H4 x4 ok4=> ?_⟩
   obtain⟨o5,e6,e7⟩:=ar e5
   have x5:=(x2.trans x3).trans x4
   refine⟨ρ4,Γ4,S4,o5,ok4,e6,?_⟩
   cases o5 with
   |nx Γ6 S6=>exact fun ρ6 σ6 H6 x6 ok6=>⟨ρ6,Γ6,S6,x5.trans x6,ok6,e7⟩
   |ct Γ6 S6=>exact fun ρ6 σ6 H6 x6 ok6=>⟨ρ6,Γ6,S6,x5.trans x6,ok6,e7⟩
   |bk Γ6 S6=>cases e7;exact fun ρ6 σ6 H6 x6 ok6=>q1 _ _ _ (x5.trans x6) ok6
   |rt d6 S6=>cases e7;exact q1.to x5
   |rl d6 S6=>cases e7;exact q1.to x5
  ·cases e2
 ·have e3:i=ds.length:=by omega
  subst e3
  rw[List.drop_length] at e2
  unfold forL at e2
  split at e2
  ·rename_i w
   cases e2
   obtain⟨w1,w2⟩:=wk ds.length ρ2 S2 H2 x2 ok2.st w
   exact .inl ⟨w2 rfl,q1 _ _ _ x2 ok2⟩
  ·cases e2
end
section
variable{M:Md}{ρ:List Addr}{H:Hp}{b:Addr}{us ws:List V}
mutual
theorem Rel.off(hb:H b=some (.lst us)):∀{d:D} {v:V},Rel M ρ H d v->Rel M ρ (upd H b (.lst ws)) d v
 |_,_,.non=>.non
 |_,_,.bl x=>.bl x
 |_,_,.int i=>.int i
 |_,_,.str x=>.str x
 |_,_,.tup h hs=>.tup (by rw[bC (ER h hb (by intro z;cases z))];exact h) (bq.off hb hs)
 |_,_,.ref h=>.ref h
 |_,_,.fn h=>.fn h
theorem bq.off(hb:H b=some (.lst us)):∀{ds:List D} {vs:List V},bq M ρ H ds vs->bq M ρ (upd H b (.lst ws)) ds vs
 |_,_,.nil=>.nil
 |_,_,.cons h hs=>.cons (Rel.off hb h) (bq.off hb hs)
end
theorem gG.off{S:aK}(st:gG M ρ S H)(hb:H b=some (.lst us))(n:b∉ρ):gG M ρ S (upd H b (.lst ws)):=⟨st.len,st.nd,fun k a o h1 h2=>by
 have q:=st.obj k a o h1 h2
 have ab:a≠b:=fun z=>n (z▸mQg h1)
 cases o with
 |lst ds=>obtain⟨vs,q1,q2⟩:=q;exact⟨vs,by rw[bC ab];exact q1,q2.off hb⟩
 |frz ds=>obtain⟨vs,o,q1,q2⟩:=q;exact⟨vs,o,by rw[bC ab];exact q1,q2.off hb⟩
 |dct kvs=>obtain⟨kv,q1,q2⟩:=q;exact⟨kv,by rw[bC ab];exact q1,q2.imp fun _ _ r=>r.off hb⟩⟩
def En.off{Γ:dh}{σ:L2.St}(h:En M ρ H Γ σ)(hb:H b=some (.lst us)):En M ρ (upd H b (.lst ws)) Γ σ:=⟨h.len,fun i d q=>by obtain⟨v,h1,h2⟩:=h.get i d q;exact⟨v,h1,h2.off hb⟩⟩
def cH.off{ρ0:List Addr}{H0:Hp}(e:cH ρ0 H0 ρ H)(hb:H0 b=none)(u:HO):cH ρ0 H0 ρ (upd H b u):=⟨e.pre,e.new,fun a o h c=>by rw[bC (fO h hb)];exact e.keep a o h c,fun a h=>by
 by_cases z:a=b
 ·subst z;exact hb
 ·rw[bC z] at h;exact e.grow a h⟩
end
def mD(js:List (Option Nat))(Γ:dh):dh:=js.map fun o=>o.bind fun j=>Γ.getD j none
def En.sig{M:Md}{ρ:List Addr}{H:Hp}{Γ:dh}{σ:L2.St}(js:List (Option Nat))(h:En M ρ H Γ σ):En M ρ H (mD js Γ) (ki js σ) where
 len:=by unfold mD ki;rw[lQm,lQm]
 get:=fun i d q=>by
  unfold mD at q
  unfold ki
  rw[gQm] at q⊢
  cases e:js[i]? with
  |none=>rw[e] at q;cases q
  | some o=>
    rw[e] at q
    cases o with
    |none=>cases q
    | some j=>
      have q':Γ.getD j none=some d:=Option.some.inj q
      have hj:Γ[j]?=some (some d):=by
        rw[Qlq] at q'
        cases z:Γ[j]? with
        |none=>rw[z] at q';cases q'
        |some y=>rw[z] at q';exact congrArg some q'
      obtain⟨v,h1,h2⟩:=h.get j d hj
      refine⟨v,?_,h2⟩
      show some (σ.getD j none)=some (some v)
      rw[Qlq,h1]
      rfl
open Classical in
def mP(g:nW)(t:kd)(f:bN)(W:aK->Prop):List D->dh->aK->List D->Option (List D×aK)
 | [],Γ,S,acc=>if W S then some (acc,S) else none
 |d ::ds,Γ,S,acc=>if W S then(g d Γ S).bind fun(Γ1,S1)=>(t Γ1 S1).bind fun(k,S2)=>
    if k=true then(f Γ1 S2).bind fun(y,S3)=>if acc.length<sizeLine then mP g t f W ds Γ1 S3 (acc++ [y]) else none
    else mP g t f W ds Γ1 S2 acc
  else none
def cx(js:List (Option Nat))(i:ye)(g:nW)(t:kd)(f:bN):g9:=fun Γ S=>(i Γ S).bind fun(p,S1)=>mP g t f p.2 p.1 (mD js Γ) S1 []
section
variable{M:Md}
def Fk{js:List (Option Nat)}{i:ye}{g:nW}{t:kd}{f:bN}:∀σ H Q,tL M (cx js i g t f) σ H Q->Ea js (tI M i) (tG M g) (tB M t) (tD M f) σ H Q:=fun σ H Q qq=>by
 obtain⟨ρ,Γ,S,rs,S',ok,e,q⟩:=qq
 obtain⟨⟨⟨ds,W⟩,S1⟩,e1,e⟩:=ar e
 refine⟨ρ,Γ,S,ds,W,S1,ok,e1,fun ρ1 J H1 x1 st1 wk D hD=> ?_⟩
 have n1:D∉ρ1:=dP x1 st1 hD
 have ok1:Ok M ρ1 (mD js Γ) S1 (ki js σ) (upd H1 D (.lst [])):=⟨((ok.en.ext x1).ext (cH.laid hD)).sig js,st1.lay hD⟩
 refine⟨fun i m σ' H'=>m=ds.length-i/\i<=ds.length/\∃ρ2 Γ2 S2 acc vs,cH ρ1 H1 ρ2 H'/\Ok M ρ2 Γ2 S2 σ' H'/\D∉ρ2/\H' D=some (.lst vs)/\bq M ρ2 H' acc vs/\mP g t f W (ds.drop i) Γ2 S2 acc=some (rs,S'),
  ⟨ds.length,by simp,Nat.zero_le _,ρ1,_,S1,[],[],cH.laid hD,ok1,n1,b_,.nil,e⟩,?_⟩
 rintro i m σ2 H2 ⟨rfl,hi,ρ2,Γ2,S2,acc,vs,x2,ok2,n2,hD2,racc,e2⟩
 by_cases hlt:i<ds.length
 ·have hd:ds[i]?=some ds[i]:=gQe hlt
  rw[QWq hlt] at e2
  unfold mP at e2
  split at e2
  ·rename_i w
   obtain⟨w1,w2⟩:=wk i ρ2 S2 H2 x2 ok2.st w
   obtain⟨go,yld⟩:=w1 _ hd
   refine .inr ⟨go,fun σ' H'=>∃ρ' Γ' S'' acc vs,cH ρ1 H1 ρ' H'/\Ok M ρ' Γ' S'' σ' H'/\D∉ρ'/\H' D=some (.lst vs)/\bq M ρ' H' acc vs/\mP g t f W (ds.drop (i+1)) Γ' S'' acc=some (rs,S'),
    fun σ' H' ⟨ρ',Γ',S'',acc,vs,h1,h2,h3,h4,h5,h6⟩=>⟨ds.length-(i+1),by omega,rfl,hlt,ρ',Γ',S'',acc,vs,h1,h2,h3,h4,h5,h6⟩,fun x H3 hy=> ?_⟩
   obtain⟨x3,st3,r3⟩:=yld x H3 hy
   obtain⟨⟨Γ4,S4⟩,e4,e5⟩:=ar e2
   refine⟨ρ2,Γ2,S2,_,Γ4,S4,ok2.to x3 st3,r3,e4,fun ρ4 σ4 H4 x4 ok4=> ?_⟩
   obtain⟨⟨k,S5⟩,e6,e7⟩:=ar e5
   refine⟨ρ4,Γ4,S4,k,S5,ok4,e6,fun ρ5 H5 x5 st5=> ?_⟩
   have x25:=(x3.trans x4).trans x5
   have keep:∀{ρ' H'},cH ρ2 H2 ρ' H'->H' D=some (.lst vs)/\D∉ρ':=fun{ρ' H'} x=>⟨x.keep _ _ hD2 (.inl n2),fun m=>(x.new _ m).elim n2 fun z=>by rw[z] at hD2;cases hD2⟩
   dsimp only at e7⊢
   split at e7
   ·rename_i ck
    rw[Qhq ck]
    obtain⟨⟨y,S6⟩,e8,e9⟩:=ar e7
    refine⟨ρ5,Γ4,S5,y,S6,ok4.to x5 st5,e8,fun ρ6 v H6 x6 st6 r6=> ?_⟩
    have x26:=x25.trans x6
    obtain⟨hD6,n6⟩:=keep x26
    have racc6:=racc.ext x26
    dsimp only at e9
    split at e9
    ·rename_i cl
     refine⟨vs,hD6,by rw[←racc.length];exact cl,ρ6,Γ4,S6,acc++ [y],vs++ [v],(x2.trans x26).off hD _,⟨((ok4.en.ext x5).ext x6).off hD6,st6.off hD6 n6⟩,n6,b_,(racc6.append (.cons r6 .nil)).off hD6,e9⟩
    ·cases e9
   ·rename_i ck
    rw[Quq ck]
    obtain⟨hD5,n5⟩:=keep x25
    exact⟨ρ5,Γ4,S5,acc,vs,x2.trans x25,ok4.to x5 st5,n5,hD5,racc.ext x25,e7⟩
  ·cases e2
 ·have e3:i=ds.length:=by omega
  subst e3
  rw[List.drop_length] at e2
  unfold mP at e2
  split at e2
  ·rename_i w
   obtain⟨rfl,rfl⟩:=cR e2
   obtain⟨w1,w2⟩:=wk ds.length ρ2 S2 H2 x2 ok2.st w
   exact .inl ⟨w2 rfl,q ρ2 D vs H2 (x1.trans x2) ok2.st (x1.grow _ hD) n2 hD2 racc⟩
  ·cases e2
end
section
variable{X:Cx}{a b c e:Expr}{pos:Pos}{st:Stmt}{rest body other:List Stmt}
def cW:kd:=fun _ S=>some (true,S)
def Ls{ifs:List Expr}{t t':TT}(h:rM X ifs t)(w:∀σ H Q,t' σ H Q->t σ H Q):rM X ifs t':=fun pins s σ H Q I q=>h pins s σ H Q I (w _ _ _ q)
def fD:rM X [] (tB (md X) cW):=Ls JY fun σ H Q ⟨ρ,Γ,S,k,S',ok,e,q⟩=>by cases e;exact q _ _ cH.refl ok.st
def zC{f:kd}(hc:PT X c (tB (md X) f)):rM X [c] (tB (md X) f):=IZ hc
def dw{N:List Str}{js:List (Option Nat)}{scope:Scope}{cl:List (Str×Addr)}{tg iter elt:Expr}{ifs:List Expr}{i:ye}{g:nW}{t:kd}{f:bN}
  (S:a9 X N js scope cl) (hc:X.calm=true) (hi:PI X tg iter (tI (md X) i))
  (hg:∀C s H fp,PG (bo X N scope cl C s H fp) tg (tG (md X) g)) (ht:∀C s H fp,rM (bo X N scope cl C s H fp) ifs (tB (md X) t)) (he:∀C s H fp,PE (bo X N scope cl C s H fp) elt (tD (md X) f))
  (hs:∀x,foldedSetIterable iter X.env x=pure x:=by intro _;rfl):PE X (.ListComp elt [⟨tg,iter,ifs,0⟩] scope pos) (tL (md X) (cx js i g t f)):=kR (GZ S hc hi hg ht he hs) Fk
def Eh{N:List Str}{js:List (Option Nat)}{scope:Scope}{cl:List (Str×Addr)}{tg iter elt tgt:Expr}{ifs:List Expr}{i:ye}{g:nW}{t:kd}{f:bN}{n:Nat}{spos:Pos}
  (S:a9 X N js scope cl) (hc:X.calm=true) (hi:PI X tg iter (tI (md X) i))
  (hg:∀C s H fp,PG (bo X N scope cl C s H fp) tg (tG (md X) g)) (ht:∀C s H fp,rM (bo X N scope cl C s H fp) ifs (tB (md X) t)) (he:∀C s H fp,PE (bo X N scope cl C s H fp) elt (tD (md X) f)) (hgt:PG X tgt (su n))
  (hs:∀x,foldedSetIterable iter X.env x=pure x:=by intro _;rfl) (hsw:swapsWithSole [tgt] (.ListComp elt [⟨tg,iter,ifs,0⟩] scope pos) spos.line X.env=pure true:=by rfl)
  (h1:(assignEach [tgt] X.env).map (·.2)= [assign tgt X.env]:=by rfl):PS X (.Assign [tgt] (.ListComp elt [⟨tg,iter,ifs,0⟩] scope pos) spos) (tS (md X) (bt n (cM (cx js i g t f)))):=
 B7 (G9 S hc hi hg ht he hgt hs hsw h1) fun D σ H qq=>by
  obtain⟨ρ,Γ,S,o,ok,e,q⟩:=qq
  obtain⟨⟨d,S1⟩,e1,e⟩:=ar e
  cases e
  obtain⟨⟨ds,S2⟩,e2,e3⟩:=ar e1
  obtain⟨rfl,rfl⟩:=cR e3
  refine Fk σ H _ ⟨ρ,Γ,S,ds,S2,ok,e2,fun ρ' a vs H' x st fr nr ha rs=> ?_⟩
  have rs':=rs.pre (List.prefix_append ρ' [a])
  have st':=st.box (o:=.lst ds) nr ⟨vs,ha,rs'⟩
  have x':cH ρ H (ρ'++ [a]) H':=⟨x.pre.trans (List.prefix_append _ _),fun b hb=>by
   rcases mQa.mp hb with hb|hb
   ·exact x.new b hb
   ·rw[Qfq] at hb;subst hb;exact .inr fr,x.keep,x.grow⟩
  refine q (ρ'++ [a]) _ H' x' ⟨((ok.en.ext x').set (.ref ?_)),st'⟩
  rw[←st.len,QQq (Qmq _)]
  simp
def F9(c:kd)(b:dt):Nat->dh->aK->Option Out
 |0,_,_=>none
 |n +1,Γ,S=>(c Γ S).bind fun(k,S1)=>if k=true then(b Γ S1).bind fun o=>match o with
    |.nx Γ2 S2=>F9 c b n Γ2 S2
    |.ct Γ2 S2=>F9 c b n Γ2 S2
    |.bk Γ2 S2=>some (.nx Γ2 S2)
    |.rt x S2=>some (.rt x S2)
    |.rl x S2=>some (.rl x S2)
  else some (.nx Γ S1)
def GY{h:kd}{f:dt}(n:Nat)(hp:PassesOwn (model X.prog X.w) X.A X.env X.xe)(hc:PT X c (tB (md X) h))(hb:rV X body (tS (md X) f)):PS X (.While c body [] pos) (tS (md X) (F9 h f n)):=B7 (FF hp hc hb) fun D σ H qq=>by
 obtain⟨ρ,Γ,S,o,ok,e,q⟩:=qq
 refine⟨fun m σ' H'=>∃ρ' Γ' S',cH ρ H ρ' H'/\Ok (md X) ρ' Γ' S' σ' H'/\F9 h f m Γ' S'=some o,⟨n,ρ,Γ,S,cH.refl,ok,e⟩,?_⟩
 rintro m σ1 H1 ⟨ρ1,Γ1,S1,x1,ok1,e1⟩
 cases m with
 |zero=>cases e1
 | succ m=>
   unfold F9 at e1
   obtain⟨⟨k,S2⟩,e2,e1⟩:=ar e1
   refine⟨ρ1,Γ1,S1,k,S2,ok1,e2,fun ρ2 H2 x2 st2=> ?_⟩
   dsimp only at e1⊢
   have ok2:=ok1.to x2 st2
   have x12:=x1.trans x2
   split at e1
   · rename_i ck
     rw[Qhq ck]
     obtain⟨o3,e3,e1⟩:=ar e1
     refine⟨fun σ' H'=>∃ρ' Γ' S',cH ρ H ρ' H'/\Ok (md X) ρ' Γ' S' σ' H'/\F9 h f m Γ' S'=some o,fun σ' H' ⟨ρ',Γ',S',h1,h2,h3⟩=>⟨m,Nat.lt_succ_self _,ρ',Γ',S',h1,h2,h3⟩,ρ2,Γ1,S2,o3,ok2,e3,?_⟩
     cases o3 with
     |nx Γ6 S6=>exact fun ρ6 σ6 H6 x6 ok6=>⟨ρ6,Γ6,S6,x12.trans x6,ok6,e1⟩
     |ct Γ6 S6=>exact fun ρ6 σ6 H6 x6 ok6=>⟨ρ6,Γ6,S6,x12.trans x6,ok6,e1⟩
     |bk Γ6 S6=>cases e1;exact fun ρ6 σ6 H6 x6 ok6=>q _ _ _ (x12.trans x6) ok6
     |rt d6 S6=>cases e1;exact q.to x12
     |rl d6 S6=>cases e1;exact q.to x12
   · rename_i ck
     rw[Quq ck]
     cases e1
     exact q _ _ _ x12 ok2
end
inductive Res where
 |d (x:D)|l (ds:List D)
abbrev dX:=List D->aK->Option (Res×aK)
def Jz(M:Md)(ρ:List Addr)(H H':Hp)(v:V):Res->Prop
 |.d x=>Rel M ρ H' x v
 |.l ds=>∃a vs,v=.ref a/\H a=none/\a∉ρ/\H' a=some (.lst vs)/\bq M ρ H' ds vs
def eN(M:Md)(n:Nat)(F:dX):Sp:=fun vs H Q _=>∃ρ S ds r S',ds.length=n/\bq M ρ H ds vs/\gG M ρ S H/\F ds S=some (r,S')/\∀ρ' v H',cH ρ H ρ' H'->gG M ρ' S' H'->Jz M ρ' H H' v r->Q v H'
mutual
def cB(m:Nat):D->Bool
 |.ref k=>decide (k<m)
 |.tup ds=>cc m ds
 |_=>true
def cc(m:Nat):List D->Bool
 | []=>true
 |d::ds=>cB m d&&cc m ds
end
def Hy(m:Nat):O->Bool
 |.lst ds=>cc m ds
 |.frz ds=>cc m ds
 |.dct kvs=>cc m (kvs.map (·.2))
section
variable{M:Md}{ρ ρ':List Addr}{H:Hp}
mutual
theorem Rel.cut(e:ρ <+: ρ'):∀{d:D} {v:V},Rel M ρ' H d v->cB ρ.length d=true->Rel M ρ H d v
 |_,_,.non,_=>.non
 |_,_,.bl x,_=>.bl x
 |_,_,.int i,_=>.int i
 |_,_,.str x,_=>.str x
 |_,_,.tup h hs,b=>.tup h (bq.cut e hs (by simpa [cB] using b))
 | _,_,.ref (k:=k) (a:=a) h,b=>.ref (by
   obtain⟨t,rfl⟩:=e
   have c:k<ρ.length:=by simpa [cB] using b
   rwa [QHq c] at h)
 |_,_,.fn h,_=>.fn h
theorem bq.cut(e:ρ <+: ρ'):∀{ds:List D} {vs:List V},bq M ρ' H ds vs->cc ρ.length ds=true->bq M ρ H ds vs
 |_,_,.nil,_=>.nil
 | _,_,.cons h hs,b=>by
   have b':=b
   simp only[cc,QDq,QCq] at b'
   exact .cons (Rel.cut e h b'.1) (bq.cut e hs b'.2)
end
theorem cJ.cut(e:ρ <+: ρ'):∀{l:List (Key×D)} {kv:List (Key×V)},cJ M ρ' H l kv->cc ρ.length (l.map (·.2))=true->cJ M ρ H l kv
 | [],_,h,_=>h
 | (_,_)::_,_,⟨v,t,q,h,hs⟩,b=>by
   have b':=b
   simp only[cc,QDq,QCq] at b'
   exact⟨v,t,q,h.cut e b'.1,cJ.cut e hs b'.2⟩
theorem oQ.cut{a:Addr}{o:O}(e:ρ <+: ρ')(h:oQ M ρ' H a o)(b:Hy ρ.length o=true):oQ M ρ H a o:=by
 cases o with
 |lst ds=>obtain⟨vs,h1,h2⟩:=h;exact⟨vs,h1,h2.cut e b⟩
 |frz ds=>obtain⟨vs,o,h1,h2⟩:=h;exact⟨vs,o,h1,h2.cut e b⟩
 |dct kvs=>obtain⟨kv,h1,h2⟩:=h;exact⟨kv,h1,h2.cut e b⟩
mutual
theorem Rel.low:∀{d:D} {v:V},Rel M ρ H d v->cB ρ.length d=true
 |_,_,.non=>rfl
 |_,_,.bl x=>rfl
 |_,_,.int i=>rfl
 |_,_,.str x=>rfl
 |_,_,.tup h hs=>by simp only[cB];exact bq.low hs
 |_,_,.ref h=>by simp only[cB];exact Qeq (gQs.mp h).1
 |_,_,.fn h=>rfl
theorem bq.low:∀{ds:List D} {vs:List V},bq M ρ H ds vs->cc ρ.length ds=true
 |_,_,.nil=>rfl
 |_,_,.cons h hs=>by simp only[cc];rw[Rel.low h,bq.low hs];rfl
end
theorem cJ.low:∀{l:List (Key×D)} {kv:List (Key×V)},cJ M ρ H l kv->cc ρ.length (l.map (·.2))=true
 | [],_,_=>rfl
 |(_,_)::_,_,⟨v,t,q,h,hs⟩=>by simp only[QDq,cc];rw[h.low,cJ.low hs];rfl
theorem oQ.low{a:Addr}{o:O}(h:oQ M ρ H a o):Hy ρ.length o=true:=by
 cases o with
 |lst ds=>obtain⟨vs,h1,h2⟩:=h;exact h2.low
 |frz ds=>obtain⟨vs,o,h1,h2⟩:=h;exact h2.low
 |dct kvs=>obtain⟨kv,h1,h2⟩:=h;exact h2.low
end
def oK(S S':aK):Prop:=S.length<=S'.length/\∀k o,k<S.length->S'[k]?=some o->S[k]?=some o\/Hy S.length o=true
open Classical in
def settle(S:aK)(d:D)(S':aK):Option (Res×aK):=if oK S S' then match d with
  | .ref k=>if k<S.length then some (.d (.ref k),S'.take S.length) else match S'[k]? with
    |some (.lst ds)=>if cc S.length ds=true then some (.l ds,S'.take S.length) else none
    |_=>none
  |d=>if cB S.length d=true then some (.d d,S'.take S.length) else none
 else none
open Classical in
def dJ(S:aK)(ds:List D)(S':aK):Option (Res×aK):=if oK S S'/\cc S.length ds=true then some (.l ds,S'.take S.length) else none
noncomputable def ft(n:Nat)(b:dt):dX:=fun ds S=>(b (ds.map some++List.replicate (n-ds.length) none) S).bind fun o=>match o with
 |.nx _ S'=>settle S .non S'
 |.rt d S'=>settle S d S'
 |.rl l S'=>dJ S l S'
 |_=>none
def gG.clean{M:Md}{ρ ρ':List Addr}{S S':aK}{H H':Hp}(st:gG M ρ S H)(x:cH ρ H ρ' H')(st':gG M ρ' S' H')(c:oK S S'):gG M ρ (S'.take S.length) H'/\cH ρ H ρ H':=by
 refine⟨⟨?_,st.nd,fun k a o h1 h2=> ?_⟩,List.prefix_refl _,fun _ h=>.inl h,x.keep,x.grow⟩
 ·rw[Qxq,st.len]
  have:=c.1
  omega
 ·have hk:k<ρ.length:=(gQs.mp h1).1
  have hk':k<S.length:=st.len▸hk
  rw[List.getElem?_take_of_lt hk'] at h2
  refine(st'.obj k a o (dz x.pre h1) h2).cut x.pre ?_
  rcases c.2 k o hk' h2 with z|z
  ·exact(st.obj k a o h1 z).low
  ·rw[st.len];exact z
def vJ{M:Md}{ρ ρ':List Addr}{S S' S'':aK}{H H':Hp}{d:D}{v:V}{r:Res}(st:gG M ρ S H)(x:cH ρ H ρ' H')(st':gG M ρ' S' H')(rd:Rel M ρ' H' d v)(e:settle S d S'=some (r,S'')):
  cH ρ H ρ H'/\gG M ρ S'' H'/\Jz M ρ H H' v r:=by
 unfold settle at e
 split at e
 ·rename_i c
  obtain⟨s1,x1⟩:=st.clean x st' c
  cases d with
  | ref k=>
    dsimp only at e
    split at e
    · rename_i hk
      obtain⟨rfl,rfl⟩:=cR e
      exact⟨x1,s1,rd.cut x.pre (by simp only[cB];rw[st.len];exact Qeq hk)⟩
    · rename_i hk
      split at e
      · rename_i ds hs
        split at e
        · rename_i hb
          obtain⟨rfl,rfl⟩:=cR e
          cases rd with
          | ref ha=>
            rename_i a
            obtain⟨vs,h1,h2⟩:=st'.obj k a _ ha hs
            have na:a∉ρ:=fun m=>by
              obtain⟨j,hj⟩:=List.getElem?_of_mem m
              have:=kY st'.nd (dz x.pre hj) ha
              subst this
              exact hk (st.len▸(gQs.mp hj).1)
            refine⟨x1,s1,a,vs,rfl,(x.new a (mQg ha)).resolve_left na,na,h1,h2.cut x.pre (by rw[st.len];exact hb)⟩
        · cases e
      · cases e
  | _=>
    dsimp only at e
    split at e
    · rename_i hb
      obtain⟨rfl,rfl⟩:=cR e
      exact⟨x1,s1,rd.cut x.pre (by rw[st.len];exact hb)⟩
    · cases e
 ·cases e
def A0{M:Md}{ρ ρ':List Addr}{S S' S'':aK}{H H':Hp}{ds:List D}{a:Addr}{vs:List V}{r:Res}(st:gG M ρ S H)(x:cH ρ H ρ' H')(st':gG M ρ' S' H')(fr:H a=none)(na:a∉ρ')(ha:H' a=some (.lst vs))(rd:bq M ρ' H' ds vs)(e:dJ S ds S'=some (r,S'')):
  cH ρ H ρ H'/\gG M ρ S'' H'/\Jz M ρ H H' (.ref a) r:=by
 unfold dJ at e
 split at e
 ·rename_i c
  obtain⟨s1,x1⟩:=st.clean x st' c.1
  obtain⟨rfl,rfl⟩:=cR e
  exact⟨x1,s1,a,vs,rfl,fr,fun m=>na (x.pre.subset m),ha,rd.cut x.pre (by rw[st.len];exact c.2)⟩
 ·cases e
def FL{M:Md}{ρ:List Addr}{H:Hp}{ds:List D}{vs:List V}{N:List Str}(r:bq M ρ H ds vs):En M ρ H (ds.map some++List.replicate (N.length-ds.length) none) (L2.start N vs) where
 len:=by unfold L2.start;simp[r.length]
 get:=fun i d q=>by
  unfold L2.start
  by_cases c:i<ds.length
  ·rw[QHq (by rw[lQm];exact c),gQm] at q
   obtain⟨d',h1,h2⟩:=oQm.mp q
   cases h2
   obtain⟨v,h3,h4⟩:=r.get h1
   exact⟨v,by rw[QHq (by rw[lQm,←r.length];exact c),gQm,h3];rfl,h4⟩
  ·rw[QQq (by rw[lQm];omega)] at q
   have:=mQg q
   rw[List.mem_replicate] at this
   cases this.2
section
variable{P:Program}{w:World}{K:PySem.W.Frag}{mg:Str->Option Value}{base:Heap}
def bD{x qual:Str}{st:Stmt}{f:Addr}{fd:FuncData}{N ps:List Str}{k:Nat}{b:dt}(F:eY K x qual st f fd)(S:aM N ps (aD st))
  (hbody:∀(cdv:Value) (A:Around) (outer:List Env) (s:Shared) (H:Hp) (E:XK),eX k (A.deeper (envOfC qual (aD st) s.heap.objs.size f cdv))→
   rV (AZ eD P w K mg base N qual (aD st) f cdv A outer s H E).nox (gk st) (tS ⟨K,mg⟩ b)):bJ P w K mg base eD (k+1) f fd ps (eN ⟨K,mg⟩ ps.length (ft N.length b)):=by
 refine F.ok S (fun vs H Q E ⟨ρ,S,ds,r,S',h1,h2,_⟩=>by rw[←h2.length];exact h1) fun cdv A outer s H vs Q E hr ⟨ρ,S,ds,r,S',h1,h2,h3,h4,q⟩=>⟨_,hbody cdv A outer s H E hr,?_⟩
 obtain⟨o,e1,e⟩:=ar h4
 refine⟨ρ,_,S,o,⟨FL h2,h3⟩,e1,?_⟩
 cases o with
 |nx Γ1 S1=>exact fun ρ' σ' H' x' ok'=>by obtain⟨x2,s2,r2⟩:=vJ h3 x' ok'.st .non e;exact q _ _ _ x2 s2 r2
 |rt d S1=>exact fun ρ' v H' x' st' r'=>by obtain⟨x2,s2,r2⟩:=vJ h3 x' st' r' e;exact q _ _ _ x2 s2 r2
 |rl d S1=>exact fun ρ' a vs H' x' st' fr na ha r'=>by obtain⟨x2,s2,r2⟩:=A0 h3 x' st' fr na ha r' e;exact q _ _ _ x2 s2 r2
 |bk=>cases e
 |ct=>cases e
end
section
variable{X:Cx}{x:Str}{k n:Nat}{f:Addr}{fd:FuncData}{ps:List Str}{F:dX}{e:Expr}{es:List Expr}{g:g9}{p pos:Pos}
noncomputable def aA(F:dX)(g:g9):bN:=fun Γ S=>(g Γ S).bind fun(ds,S1)=>(F ds S1).bind fun(r,S2)=>match r with
 |.d x=>some (x,S2)
 |.l _=>none
def dY(F:dX)(g:g9):g9:=fun Γ S=>(g Γ S).bind fun(ds,S1)=>(F ds S1).bind fun(r,S2)=>match r with
 |.d _=>none
 |.l ds=>some (ds,S2)
def nA(n:Nat)(g:g9):Prop:=∀Γ S ds S',g Γ S=some (ds,S')->ds.length=n
def iR:nA 0 aw:=fun _ _ _ _ e=>by cases e;rfl
def cu{n:Nat}{f:bN}{g:g9}(h:nA n g):nA (n+1) (ao f g):=fun Γ S ds S' e=>by
 obtain⟨⟨d,S1⟩,e1,e⟩:=ar e
 obtain⟨⟨ds',S2⟩,e2,e⟩:=ar e
 cases e
 rw[Qnq,h _ _ _ _ e2]
def BK{M:Md}(hn:nA n g):∀σ H Q,tD M (aA F g) σ H Q->Fo (eN M n F) [] E0 (zr M g) σ H Q:=fun σ H Q qq=>by
 obtain⟨ρ,Γ,S,d,S',ok,e,q⟩:=qq
 obtain⟨⟨ds,S1⟩,e1,e⟩:=ar e
 obtain⟨⟨r,S2⟩,e2,e⟩:=ar e
 refine⟨ρ,Γ,S,ds,S1,ok,e1,fun ρ1 vs H1 x1 st1 r1=>⟨ρ1,S1,ds,r,S2,hn _ _ _ _ e1,by rw[List.append_nil];exact r1,st1,e2,fun ρ2 v H2 x2 st2 r2=> ?_⟩⟩
 cases r with
 |d x=>obtain⟨rfl,rfl⟩:=cR e;exact q _ _ _ (x1.trans x2) st2 r2
 |l ds=>cases e
def Gm{M:Md}(hn:nA n g):∀σ H Q,tL M (dY F g) σ H Q->Fo (eN M n F) [] E0 (zr M g) σ H Q:=fun σ H Q qq=>by
 obtain⟨ρ,Γ,S,d,S',ok,e,q⟩:=qq
 obtain⟨⟨ds,S1⟩,e1,e⟩:=ar e
 obtain⟨⟨r,S2⟩,e2,e⟩:=ar e
 refine⟨ρ,Γ,S,ds,S1,ok,e1,fun ρ1 vs H1 x1 st1 r1=>⟨ρ1,S1,ds,r,S2,hn _ _ _ _ e1,by rw[List.append_nil];exact r1,st1,e2,fun ρ2 v H2 x2 st2 r2=> ?_⟩⟩
 cases r with
 |d x=>cases e
 | l ds=>
   obtain⟨rfl,rfl⟩:=cR e
   obtain⟨a,vs,rfl,fr,na,ha,rr⟩:=r2
   exact q _ _ _ _ (x1.trans x2) st2 (x1.grow _ fr) na ha rr
def JL(G:bJ X.prog X.w X.K X.mg X.base eD k f fd ps (eN (md X) n F))(hr:eX k X.A)(hg:Gl X x)(hm:X.mg x=some (.ref f))(hk:PySem.W.keepIn X.K (.ref f)=true)(hb:Binds X.K fd ps [])(ha:PA X (e::es) (zr (md X) g))(hn:nA n g)
  (hdb:(x==("__debug__":Str))=false:=by decide) (he:starEach (e::es) X.env=(false,eval e X.env)::starEach es X.env:=by rfl) (hpl:(backTo pos (starEach es X.env)).any (·.1)=false:=by rfl):
  PE X (.Call (.Name x p) (e::es) [] pos) (tD (md X) (aA F g)):=kR (B9 G hr hg hm hk hb .nil Fh ha hdb he hpl) (BK hn)
def Jy(G:bJ X.prog X.w X.K X.mg X.base eD k f fd ps (eN (md X) n F))(hr:eX k X.A)(hg:Gl X x)(hm:X.mg x=some (.ref f))(hk:PySem.W.keepIn X.K (.ref f)=true)(hb:Binds X.K fd ps [])(ha:PA X (e::es) (zr (md X) g))(hn:nA n g)
  (hdb:(x==("__debug__":Str))=false:=by decide) (he:starEach (e::es) X.env=(false,eval e X.env)::starEach es X.env:=by rfl) (hpl:(backTo pos (starEach es X.env)).any (·.1)=false:=by rfl):
  PE X (.Call (.Name x p) (e::es) [] pos) (tL (md X) (dY F g)):=kR (B9 G hr hg hm hk hb .nil Fh ha hdb he hpl) (Gm hn)
end
def jC{α:Type}(xs:List α)(lo hi:Option Int):List α:=(xs.drop (HT.fI xs.length 0 lo)).take (HT.fI xs.length xs.length hi-HT.fI xs.length 0 lo)
def bq.cut3{M:Md}{ρ:List Addr}{H:Hp}{ds:List D}{vs:List V}{lo hi:Option Int}(h:bq M ρ H ds vs):bq M ρ H (jC ds lo hi) (A9 vs lo hi):=by
 unfold jC A9
 rw[h.length]
 exact(h.drop _).take _
def Hi{α:Type}{xs:List α}{lo hi:Option Int}(h1:HT.fI xs.length 0 lo=0)(h2:HT.fI xs.length xs.length hi=xs.length):jC xs lo hi=xs:=by
 unfold jC
 rw[h1,h2]
 simp
abbrev Kk:=dh->aK->Option (Option Int×aK)
def L_(M:Md)(f:Kk):TO:=fun σ H Q=>∃ρ Γ S o S',Ok M ρ Γ S σ H/\f Γ S=some (o,S')/\∀ρ' H',cH ρ H ρ' H'->gG M ρ' S' H'->Q o H'
section
variable{X:Cx}{a b c e:Expr}{pos:Pos}{st:Stmt}
def qF:Kk:=fun _ S=>some (none,S)
def pV(f:bN):Kk:=fun Γ S=>(f Γ S).bind fun(d,S1)=>match d with
 |.int i=>some (some i,S1)
 |_=>none
def M8{o:Option Expr}{t t':TO}(h:PO X o t)(w:∀σ H Q,t' σ H Q->t σ H Q):PO X o t':=fun pins s σ H Q I q=>h pins s σ H Q I (w _ _ _ q)
def dW:PO X none (L_ (md X) qF):=M8 G8 fun σ H Q ⟨ρ,Γ,S,o,S',ok,e,q⟩=>by cases e;exact q _ _ cH.refl ok.st
def dU{f:bN}(h:PE X e (tD (md X) f)):PO X (some e) (L_ (md X) (pV f)):=M8 (Hz h) fun σ H Q qq=>by
 obtain⟨ρ,Γ,S,o,S',ok,e,q⟩:=qq
 obtain⟨⟨d,S1⟩,e1,e⟩:=ar e
 dsimp only at e
 split at e
 ·obtain⟨rfl,rfl⟩:=cR e
  refine⟨ρ,Γ,S,_,S1,ok,e1,fun ρ' v H' x st r=> ?_⟩
  cases r
  exact⟨_,rfl,q _ _ x st⟩
 ·cases e
def p7(f:bN)(lo hi:Kk):bN:=fun Γ S=>(f Γ S).bind fun(d,S1)=>(lo Γ S1).bind fun(l,S2)=>(hi Γ S2).bind fun(h,S3)=>match d with
 |.tup ds=>some (.tup (jC ds l h),S3)
 |_=>none
def cU{lo hi:Option Expr}{p2:Pos}{f:bN}{l h:Kk}(he:PE X e (tD (md X) f))(hl:PO X lo (L_ (md X) l))(hh:PO X hi (L_ (md X) h)):PE X (.Subscript e (.Slice lo hi none p2) pos) (tD (md X) (p7 f l h)):=
 kR (EA HC he hl hh) fun σ H Q qq=>by
  obtain⟨ρ,Γ,S,d,S',ok,e,q⟩:=qq
  obtain⟨⟨x,S1⟩,e1,e⟩:=ar e
  obtain⟨⟨l',S2⟩,e2,e⟩:=ar e
  obtain⟨⟨h',S3⟩,e3,e⟩:=ar e
  cases x with
  | tup ds=>
    dsimp only at e
    obtain⟨rfl,rfl⟩:=cR e
    refine⟨ρ,Γ,S,_,S1,ok,e1,fun ρ1 v H1 x1 st1 r1=>⟨ρ1,Γ,S1,l',S2,ok.to x1 st1,e2,fun ρ2 H2 x2 st2=>⟨ρ2,Γ,S2,h',S3,(ok.to x1 st1).to x2 st2,e3,fun ρ3 H3 x3 st3=> ?_⟩⟩⟩
    have x13:=(x1.trans x2).trans x3
    have r3:=r1.ext (x2.trans x3)
    cases r3 with
    | tup ha hs=>
      refine⟨_,_,rfl,iW.of ha,fun c=> ?_,fun c p hp=> ?_⟩
      · have:jC ds l' h'=ds:=Hi (by rw[hs.length];exact c.1) (by rw[hs.length];exact c.2)
        rw[this] at q
        exact q _ _ _ x13 st3 (.tup ha hs)
      · exact q _ _ _ (x13.trans (cH.laid hp)) (st3.lay hp) (.tup b_ (hs.cut3.ext (cH.laid hp)))
  |_=>cases e
open Classical in
def AQ(f g:eJ):g9:=fun Γ S=>(f Γ S).bind fun(p,S1)=>(g Γ S1).bind fun(r,S2)=>if p.2.isM=true/\r.2.isM=true/\p.2.stays S2 p.1/\p.1.length+r.1.length<=sizeLine then some (p.1++r.1,S2) else none
def Cq{f g:eJ}(ha:PE X a (tQ (md X) f))(hb:PE X b (tQ (md X) g)):PE X (.BinOp a .Add b pos) (tL (md X) (AQ f g)):=kR (qy JR ha hb) fun σ H Q qq=>by
 obtain⟨ρ,Γ,S,d,S',ok,e,q⟩:=qq
 obtain⟨⟨⟨ds,t⟩,S1⟩,e1,e⟩:=ar e
 obtain⟨⟨⟨es,t2⟩,S2⟩,e2,e⟩:=ar e
 dsimp only at e
 split at e
 ·rename_i c
  obtain⟨rfl,rfl⟩:=cR e
  refine⟨ρ,Γ,S,ds,t,S1,ok,e1,fun ρ1 a vs H1 x1 st1 h1 r1=>⟨ρ1,Γ,S1,es,t2,S2,ok.to x1 st1,e2,fun ρ2 b ws H2 x2 st2 h2 r2=> ?_⟩⟩
  obtain⟨vs',h3,r3⟩:=h1.to r1 x2 st2 c.2.2.1
  have x12:=x1.trans x2
  refine⟨_,_,vs',ws,rfl,rfl,h3.sqM c.1,h2.sqM c.2.1,by rw[←r3.length,←r2.length];exact c.2.2.2,fun p hp=> ?_⟩
  exact q _ _ _ _ (x12.trans (cH.laid hp)) (st2.lay hp) (x12.grow _ hp) (dP x12 st2 hp) b_ ((r3.append r2).ext (cH.laid hp))
 ·cases e
open Classical in
def GM(f:eJ)(g:bN):g9:=fun Γ S=>(f Γ S).bind fun(p,S1)=>(g Γ S1).bind fun(r,S2)=>match r with
 |.int k=>if p.2.isM=true/\p.2.stays S2 p.1/\ -(2^63)<=k/\k<2^63/\p.1.length*k.toNat<=sizeLine then some ((List.replicate k.toNat p.1).flatten,S2) else none
 |_=>none
def KP{f:eJ}{g:bN}(ha:PE X a (tQ (md X) f))(hb:PE X b (tD (md X) g)):PE X (.BinOp a .Mult b pos) (tL (md X) (GM f g)):=kR (qy Jg ha hb) fun σ H Q qq=>by
 obtain⟨ρ,Γ,S,d,S',ok,e,q⟩:=qq
 obtain⟨⟨⟨ds,t⟩,S1⟩,e1,e⟩:=ar e
 obtain⟨⟨r,S2⟩,e2,e⟩:=ar e
 cases r with
 | int k=>
   dsimp only at e
   split at e
   · rename_i c
     obtain⟨rfl,rfl⟩:=cR e
     refine⟨ρ,Γ,S,ds,t,S1,ok,e1,fun ρ1 a vs H1 x1 st1 h1 r1=>⟨ρ1,Γ,S1,_,S2,ok.to x1 st1,e2,fun ρ2 w H2 x2 st2 r2=> ?_⟩⟩
     obtain⟨vs',h3,r3⟩:=h1.to r1 x2 st2 c.2.1
     have x12:=x1.trans x2
     cases r2
     refine⟨_,k,vs',rfl,rfl,h3.sqM c.1,c.2.2.1,c.2.2.2.1,by rw[←r3.length];exact c.2.2.2.2,fun p hp=> ?_⟩
     exact q _ _ _ _ (x12.trans (cH.laid hp)) (st2.lay hp) (x12.grow _ hp) (dP x12 st2 hp) b_ ((r3.rep _).ext (cH.laid hp))
   · cases e
 |_=>cases e
open Classical in
def ef(f:eJ):bN:=fun Γ S=>(f Γ S).bind fun(p,S1)=>if p.2.isL=true/\p.2.stays S1 p.1 then some (.bl (!p.1.isEmpty),S1) else none
def GA{f:eJ}:∀σ H Q,tD (md X) (ef f) σ H Q->F_ (E_ X.K) (tQ (md X) f) (tL (md X) (cg aw)) σ H Q:=fun σ H Q qq=>by
 obtain⟨ρ,Γ,S,d,S',ok,e,q⟩:=qq
 obtain⟨⟨⟨ds,t⟩,S1⟩,e1,e⟩:=ar e
 dsimp only at e
 split at e
 ·rename_i c
  obtain⟨rfl,rfl⟩:=cR e
  refine⟨ρ,Γ,S,ds,t,S1,ok,e1,fun ρ1 a as H1 x1 st1 h1 r1=>⟨ρ1,Γ,S1,[],S1,ok.to x1 st1,rfl,fun ρ2 b bs H2 x2 st2 fr nr hb r2=> ?_⟩⟩
  obtain⟨as',h3,r3⟩:=h1.to r1 x2 st2 c.2
  cases r2
  refine⟨a,b,as',rfl,rfl,h3.sqL c.1,ik.of hb,?_⟩
  rw[←r3.isEmpty]
  exact q _ _ _ (x1.trans x2) st2 (.bl _)
 ·cases e
def Lo:PE X (.List [] pos) (tL (md X) (cg aw)):=c8 av
def fF{f:eJ}{p:Pos}(hu:X.A.units<cLine)(ha:PE X a (tQ (md X) f)):PT X (.Compare a [.NotEq] [.List [] p] pos) (tB (md X) (aN (ef f))):=yb GA (ow (Fg hu) ha Lo (aU _))
def gG.putL{M:Md}{ρ:List Addr}{S:aK}{H:Hp}{k:Nat}{a:Addr}{ds es:List D}{ws:List V}(st:gG M ρ S H)(hk:ρ[k]?=some a)(hS:S[k]?=some (.lst ds))(r:bq M ρ H es ws):gG M ρ (S.set k (.lst es)) (upd H a (.lst ws))/\cH ρ H ρ (upd H a (.lst ws)):=by
 obtain⟨vs,h1,h2⟩:=st.obj k a _ hk hS
 exact st.put hk hS ⟨ws,b_,r.off h1⟩ fun x hx=>by rw[h1] at hx;cases hx;exact id
def rD(m:List D->List D->Option (List D×D))(f:bN)(g:g9):bN:=fun Γ S=>(f Γ S).bind fun(x,S1)=>match x with
 | .ref k=>(g Γ S1).bind fun(ys,S2)=>match S1[k]?,S2[k]? with
   |some (.lst _),some (.lst ds)=>(m ds ys).bind fun(es,d)=>some (d,S2.set k (.lst es))
   |_,_=>none
 |_=>none
def IK(M:Md)(r:V->List V->Hp->VK->Prop)(m:List D->List D->Option (List D×D)):Prop:=∀{ρ:List Addr} {H:Hp} {a:Addr} {ds ys es:List D} {d:D} {vs us:List V} {Q:VK},H a=some (.lst vs)->bq M ρ H ds vs->bq M ρ H ys us->m ds ys=some (es,d)→
 (∀ws w,bq M ρ H es ws->Rel M ρ H d w->Q w (upd H a (.lst ws)))->r (.ref a) us H Q
def LJ{m:List D->List D->Option (List D×D)}{r:V->List V->Hp->VK->Prop}{f:bN}{g:g9}(ho:IK (md X) r m):∀σ H Q,tD (md X) (rD m f g) σ H Q->Mb X.K "list" r (tD (md X) f) (zr (md X) g) σ H Q:=fun σ H Q qq=>by
 obtain⟨ρ,Γ,S,d,S',ok,e,q⟩:=qq
 obtain⟨⟨x,S1⟩,e1,e⟩:=ar e
 cases x with
 | ref k=>
   dsimp only at e
   obtain⟨⟨ys,S2⟩,e2,e⟩:=ar e
   dsimp only at e
   split at e
   · rename_i ds0 ds hs1 hs2
     obtain⟨⟨es,d'⟩,e3,e⟩:=ar e
     obtain⟨rfl,rfl⟩:=cR e
     refine⟨ρ,Γ,S,_,S1,ok,e1,fun ρ1 v H1 x1 st1 r1=> ?_⟩
     cases r1 with
     | ref ha=>
       rename_i a
       obtain⟨vs1,g1,_⟩:=st1.obj k a _ ha hs1
       refine⟨.inl ⟨rfl,vs1,ik.of g1⟩,ρ1,Γ,S1,ys,S2,ok.to x1 st1,e2,fun ρ2 us H2 x2 st2 r2=> ?_⟩
       have ha2:=dz x2.pre ha
       obtain⟨vs,h1,h2⟩:=st2.obj k a _ ha2 hs2
       refine ho h1 h2 r2 e3 fun ws w rw rd=> ?_
       obtain⟨st3,x3⟩:=st2.putL ha2 hs2 rw
       exact q _ _ _ ((x1.trans x2).trans x3) st3 (rd.ext x3)
   · cases e
 |_=>cases e
def iQ:List D->List D->Option (List D×D):=fun ds ys=>match ys with
 | [y]=>if ds.length<sizeLine then some (ds++ [y],.non) else none
 |_=>none
def IT{M:Md}:IK M BG iQ:=by
 intro ρ H a ds ys es d vs us Q h1 h2 h3 e q
 unfold iQ at e
 split at e
 ·split at e
  ·rename_i hl
   obtain⟨rfl,rfl⟩:=cR e
   cases h3 with
   | cons h3 h4=>
     cases h4
     exact⟨a,vs,_,rfl,rfl,h1,by rw[←h2.length];exact hl,q _ _ (h2.append (.cons h3 .nil)) .non⟩
  ·cases e
 ·cases e
def cZ{f:bN}{g:bN}{o:Expr}{apos cpos:Pos}(ho:PE X o (tD (md X) f))(ha:PE X e (tD (md X) g))(hbase:attributeBase o "append" X.env (eval o X.env)=eval o X.env:=by rfl) (hfew:((backTo cpos (starEach [e] X.env)).all (fun x=> !x.1)&&(backToKw cpos (keywordEach [] X.env)).all (fun x=>x.1.isSome)
   &&decide ([e].length+([]:List Keyword).length+(if ([]:List Keyword).isEmpty then 0 else 1)<30))=true:=by rfl)
  (hline:(apos.endLine==cpos.line)=true:=by rfl) (hs:starEach [e] X.env= [(false,eval e X.env)]:=by rfl):PE X (.Call (.Attribute o "append" apos) [e] [] cpos) (tD (md X) (rD iQ f (ao g aw))):=
 kR (v9 PySem.F.plainAttrs_list PySem.F.slot_list_append PySem.F.type_list_append pP ho (ak ha av hs) hbase hfew hline hs) (LJ IT)
end
section
variable{X:Cx}{a b c e:Expr}{pos:Pos}{st:Stmt}
def m_:List D->List D->Option (List D×D):=fun ds ys=>match ys with
 | [.int i]=>if -(2^63)<=i/\i<2^63 then(seqIndex? i ds.length).bind fun k=>(ds[k]?).bind fun y=>some (ds.eraseIdx k,y) else none
 |_=>none
def ET{M:Md}:IK M D5 m_:=by
 intro ρ H a ds ys es d vs us Q h1 h2 h3 e q
 unfold m_ at e
 split at e
 ·split at e
  ·rename_i i hi
   obtain⟨k,e1,e⟩:=ar e
   obtain⟨y,e2,e⟩:=ar e
   obtain⟨rfl,rfl⟩:=cR e
   cases h3 with
   | cons h3 h4=>
     cases h4
     cases h3
     obtain⟨v,g1,g2⟩:=h2.get e2
     rw[h2.length] at e1
     exact⟨a,vs,i,k,v,rfl,rfl,h1,hi.1,hi.2,e1,g1,q _ _ (h2.eraseIdx k) g2⟩
  ·cases e
 ·cases e
def Bs{f:bN}{g:bN}{o:Expr}{apos cpos:Pos}(ho:PE X o (tD (md X) f))(ha:PE X e (tD (md X) g))(hbase:attributeBase o "pop" X.env (eval o X.env)=eval o X.env:=by rfl) (hfew:((backTo cpos (starEach [e] X.env)).all (fun x=> !x.1)&&(backToKw cpos (keywordEach [] X.env)).all (fun x=>x.1.isSome)
   &&decide ([e].length+([]:List Keyword).length+(if ([]:List Keyword).isEmpty then 0 else 1)<30))=true:=by rfl)
  (hline:(apos.endLine==cpos.line)=true:=by rfl) (hs:starEach [e] X.env= [(false,eval e X.env)]:=by rfl):PE X (.Call (.Attribute o "pop" apos) [e] [] cpos) (tD (md X) (rD m_ f (ao g aw))):=
 kR (v9 PySem.F.plainAttrs_list PySem.F.slot_list_pop PySem.F.type_list_pop Fu ho (ak ha av hs) hbase hfew hline hs) (LJ ET)
def uP(f:bN)(g:eJ):bN:=fun Γ S=>(f Γ S).bind fun(x,S1)=>match x with
 | .ref k=>(g Γ S1).bind fun(p,S2)=>match S1[k]?,S2[k]? with
   |some (.lst _),some (.lst ds)=>if p.2.isM=true/\ds.length+p.1.length<=sizeLine then some (.non,S2.set k (.lst (ds++p.1))) else none
   |_,_=>none
 |_=>none
def Kq{f:bN}{g:eJ}:∀σ H Q,tD (md X) (uP f g) σ H Q->Mb X.K "list" BB (tD (md X) f) (Er (tQ (md X) g) JX) σ H Q:=fun σ H Q qq=>by
 obtain⟨ρ,Γ,S,d,S',ok,e,q⟩:=qq
 obtain⟨⟨x,S1⟩,e1,e⟩:=ar e
 cases x with
 | ref k=>
   dsimp only at e
   obtain⟨⟨⟨ys,t⟩,S2⟩,e2,e⟩:=ar e
   dsimp only at e
   split at e
   · rename_i ds0 ds hs1 hs2
     split at e
     · rename_i c
       obtain⟨rfl,rfl⟩:=cR e
       refine⟨ρ,Γ,S,_,S1,ok,e1,fun ρ1 v H1 x1 st1 r1=> ?_⟩
       cases r1 with
       | ref ha=>
         rename_i a
         obtain⟨vs1,g1,_⟩:=st1.obj k a _ ha hs1
         refine⟨.inl ⟨rfl,vs1,ik.of g1⟩,ρ1,Γ,S1,ys,t,S2,ok.to x1 st1,e2,fun ρ2 b us H2 x2 st2 h2 r2=> ?_⟩
         have ha2:=dz x2.pre ha
         obtain⟨vs,h3,h4⟩:=st2.obj k a _ ha2 hs2
         refine⟨a,b,vs,us,rfl,rfl,h3,h2.sqM c.1,by rw[←h4.length,←r2.length];exact c.2,?_⟩
         obtain⟨st3,x3⟩:=st2.putL ha2 hs2 (h4.append r2)
         exact q _ _ _ ((x1.trans x2).trans x3) st3 .non
     · cases e
   · cases e
 |_=>cases e
def lS{f:bN}{g:eJ}{o:Expr}{apos cpos:Pos}(ho:PE X o (tD (md X) f))(ha:PE X e (tQ (md X) g))(hbase:attributeBase o "extend" X.env (eval o X.env)=eval o X.env:=by rfl) (hfew:((backTo cpos (starEach [e] X.env)).all (fun x=> !x.1)&&(backToKw cpos (keywordEach [] X.env)).all (fun x=>x.1.isSome)
   &&decide ([e].length+([]:List Keyword).length+(if ([]:List Keyword).isEmpty then 0 else 1)<30))=true:=by rfl)
  (hline:(apos.endLine==cpos.line)=true:=by rfl) (hs:starEach [e] X.env= [(false,eval e X.env)]:=by rfl):PE X (.Call (.Attribute o "extend" apos) [e] [] cpos) (tD (md X) (uP f g)):=
 kR (v9 PySem.F.plainAttrs_list PySem.F.slot_list_extend PySem.F.type_list_extend CP ho (dC ha gK hs) hbase hfew hline hs) Kq
def Kl(f g:bN):nW:=fun d Γ S=>(f Γ S).bind fun(x,S1)=>(g Γ S1).bind fun(y,S2)=>match x,y with
 | .ref k,.int i=>match S2[k]? with
   |some (.lst ds)=>(CD ds.length i).bind fun j=>some (Γ,S2.set k (.lst (ds.set j d)))
   |_=>none
 |_,_=>none
def MO{f g:bN}:∀v σ H Q,tG (md X) (Kl f g) v σ H Q->LS (tD (md X) f) (tD (md X) g) HY v σ H Q:=fun v σ H Q qq=>by
 obtain⟨ρ,Γ,S,d,Γ',S',ok,r,e,q⟩:=qq
 obtain⟨⟨x,S1⟩,e1,e⟩:=ar e
 obtain⟨⟨y,S2⟩,e2,e⟩:=ar e
 cases x with
 | ref k=>
   cases y with
   | int i=>
     dsimp only at e
     split at e
     · rename_i ds hs
       obtain⟨j,e3,e⟩:=ar e
       obtain⟨rfl,rfl⟩:=cR e
       refine⟨ρ,Γ,S,_,S1,ok,e1,fun ρ1 v1 H1 x1 st1 r1=>⟨ρ1,Γ,S1,_,S2,ok.to x1 st1,e2,fun ρ2 v2 H2 x2 st2 r2=> ?_⟩⟩
       cases r2
       have r1:=r1.ext x2
       cases r1 with
       | ref ha=>
         obtain⟨vs,h3,h4⟩:=st2.obj k _ _ ha hs
         have x12:=x1.trans x2
         obtain⟨st3,x3⟩:=st2.putL ha hs (bq.set (r.ext x12) j h4)
         exact⟨_,vs,i,j,rfl,rfl,h3,by rw[←h4.length];exact e3,q _ _ _ (x12.trans x3) ((ok.to x12 st2).to x3 st3)⟩
     · cases e
   |_=>cases e
 |_=>cases e
def Ib{o i:Expr}{f g:bN}(ho:PE X o (tD (md X) f))(hi:PE X i (tD (md X) g))
  (ha:∀v,assign (.Subscript o i pos) X.env v=(do
   let ov←holding [v] (eval o X.env)
   let iv←holding [v,ov] (eval i X.env)
   standAt pos
   holding [v,ov,iv] (setItem ov iv v)
   release [v,ov,iv] []):=by intro _;rfl):PG X (.Subscript o i pos) (tG (md X) (Kl f g)):=MC (Jn ho hi set_list ha) MO
def LV(f g h:bN):dt:=fun Γ S=>(f Γ S).bind fun(x,S1)=>(g Γ S1).bind fun(y,S2)=>match x,y with
 | .ref k,.int i=>match S2[k]? with
   | some (.lst ds)=>if 0<=i then(ds[i.toNat]?).bind fun z=>(h Γ S2).bind fun(w,S3)=>match z,w,S3[k]? with
     |.int m,.int n,some (.lst es)=>(CD es.length i).bind fun j=>some (.nx Γ (S3.set k (.lst (es.set j (.int (m+n))))))
     |_,_,_=>none
     else none
   |_=>none
 |_,_=>none
def J7{o i e:Expr}{f g h:bN}{tpos:Pos}(ho:PE X o (tD (md X) f))(hi:PE X i (tD (md X) g))(he:PE X e (tD (md X) h))
  (ha:∀ov iv new,augStore i ov iv new=(do holding [new,ov,iv] (setItem ov iv new);release [new,ov,iv] [];pure .next):=by intros;rfl):PS X (.AugAssign (.Subscript o i tpos) .Add e pos) (tS (md X) (LV f g h)):=
 B7 (HA ho hi Fv he IL set_list ha) fun D σ H qq=>by
  obtain⟨ρ,Γ,S,o,ok,e,q⟩:=qq
  obtain⟨⟨x,S1⟩,e1,e⟩:=ar e
  obtain⟨⟨y,S2⟩,e2,e⟩:=ar e
  cases x with
  | ref k=>
    cases y with
    | int i=>
      dsimp only at e
      split at e
      · rename_i ds hs
        split at e
        · rename_i hi
          obtain⟨z,e3,e⟩:=ar e
          obtain⟨⟨w,S3⟩,e4,e⟩:=ar e
          cases z with
          | int m=>
            cases w with
            | int n=>
              cases hs3:S3[k]? with
              |none=>rw[hs3] at e;cases e
              | some o3=>
                rw[hs3] at e
                cases o3 with
                | lst es=>
                  dsimp only at e
                  obtain⟨j,e5,e⟩:=ar e
                  cases e
                  refine⟨ρ,Γ,S,_,S1,ok,e1,fun ρ1 v1 H1 x1 st1 r1=>⟨ρ1,Γ,S1,_,S2,ok.to x1 st1,e2,fun ρ2 v2 H2 x2 st2 r2=> ?_⟩⟩
                  cases r2
                  have r1:=r1.ext x2
                  cases r1 with
                  | ref ha=>
                    have x12:=x1.trans x2
                    obtain⟨vs,h3,h4⟩:=st2.obj k _ _ ha hs
                    obtain⟨v,h5,h6⟩:=h4.get e3
                    cases h6
                    refine⟨_,vs,i.toNat,_,rfl,by rw[Int.toNat_of_nonneg hi],ik.of h3,h5,ρ2,Γ,S2,_,S3,ok.to x12 st2,e4,fun ρ3 v3 H3 x3 st3 r3=> ?_⟩
                    cases r3
                    have ha3:=dz x3.pre ha
                    obtain⟨vs3,g3,g4⟩:=st3.obj k _ _ ha3 hs3
                    have x13:=x12.trans x3
                    obtain⟨st4,x4⟩:=st3.putL ha3 hs3 (bq.set (.int (m+n)) j g4)
                    exact⟨m,n,rfl,rfl,_,vs3,i,j,rfl,rfl,g3,by rw[←g4.length];exact e5,q _ _ _ (x13.trans x4) ((ok.to x13 st3).to x4 st4)⟩
                |_=>cases e
            |_=>cases e
          |_=>cases e
        · cases e
      · cases e
    |_=>cases e
  |_=>cases e
def G7(i j:Nat)(f:g9):dt:=fun Γ S=>(f Γ S).bind fun(ds,S1)=>match ds with
 | [v,w]=>some (.nx ((Γ.set i (some v)).set j (some w)) S1)
 |_=>none
def KQ{i j:Nat}{f:g9}(h:PS X st (KM i j (zr (md X) f))):PS X st (tS (md X) (G7 i j f)):=B7 h fun D σ H qq=>by
 obtain⟨ρ,Γ,S,o,ok,e,q⟩:=qq
 obtain⟨⟨ds,S1⟩,e1,e⟩:=ar e
 dsimp only at e
 split at e
 ·cases e
  refine⟨ρ,Γ,S,_,S1,ok,e1,fun ρ' vs H' x st r=> ?_⟩
  cases r with
  | cons r rr=>
    cases rr with
    | cons r' rr=>
      cases rr
      exact⟨_,_,rfl,q _ _ _ x ⟨((ok.en.ext x).set r).set r',st⟩⟩
 ·cases e
end
def eI(cells:List (Str×Addr)):List (Str×NameKind)->List (Str×Addr)->List (Str×Addr)
 | [],acc=>acc
 |(n,k)::r,acc=>if (k==.free)=true then eI cells r ((n,(cells.lookup n).getD 0)::acc) else eI cells r acc
theorem pK{env:Env}:∀(names:List (Str×NameKind)) (acc:List (Str×Addr)),(∀y∈names,y.2=.free->(env.cells.lookup y.1).isSome=true)→
  (forIn names acc fun(x:Str×NameKind) (cs:List (Str×Addr))=>(do
   if (x.2==NameKind.free)=true then do
    let c←cellOf env x.1
    pure (ForInStep.yield ((x.1,c)::cs))
   else pure (ForInStep.yield cs):Sem (ForInStep (List (Str×Addr)))))=(pure (eI env.cells names acc):Sem _)
 | [],acc,_=>rfl
 | (n,k)::r,acc,h=>by
   rw[List.forIn_cons]
   unfold eI
   by_cases c:(k==NameKind.free)=true
   · obtain⟨a,ha⟩:=Option.isSome_iff_exists.mp (h (n,k) QBq (by simpa using c))
     simp only[c,if_true]
     have hc:cellOf env n=pure a:=by
       unfold cellOf
       rw[ha]
     rw[hc,pure_bind,pure_bind,ha]
     exact pK r _ fun y hy=>h y (Qpq _ hy)
   · simp only[c,Bool.false_eq_true,if_false]
     rw[pure_bind]
     exact pK r _ fun y hy=>h y (Qpq _ hy)
def F5{scope:Scope}{env:Env}(h:∀y∈scope.names,y.2=.free->(env.cells.lookup y.1).isSome=true):closureFor scope env=pure (eI env.cells scope.names []):=by
 unfold closureFor
 have:=pK scope.names [] h
 rw[bind_pure]
 exact this
theorem ui{cells:List (Str×Addr)}:∀(names:List (Str×NameKind)) (acc:List (Str×Addr)) (p:Str×Addr),p∈eI cells names acc->p∈acc\/∃n,(n,NameKind.free)∈names/\p=(n,(cells.lookup n).getD 0)
 | [],acc,p,h=>.inl h
 | (n,k)::r,acc,p,h=>by
   unfold eI at h
   split at h
   · rename_i c
     rcases ui r _ p h with h|⟨m,h1,h2⟩
     · rcases Qsq.mp h with h|h
       · exact .inr ⟨n,by rw[show k=NameKind.free by simpa using c];exact QBq,h⟩
       · exact .inl h
     · exact .inr ⟨m,Qpq _ h1,h2⟩
   · rcases ui r _ p h with h|⟨m,h1,h2⟩
     · exact .inl h
     · exact .inr ⟨m,Qpq _ h1,h2⟩
theorem sY{cells:List (Str×Addr)}{x:Str}:∀(names:List (Str×NameKind)) (acc:List (Str×Addr)),((x,NameKind.free)∈names\/∃c,(x,c)∈acc)->∃c,(x,c)∈eI cells names acc
 | [],acc,h=>by
   rcases h with h|h
   · cases h
   · exact h
 | (n,k)::r,acc,h=>by
   unfold eI
   split
   · rename_i c
     refine sY r _ ?_
     rcases h with h|⟨c,h⟩
     · rcases Qsq.mp h with h|h
       · cases h;exact .inr ⟨_,QBq⟩
       · exact .inl h
     · exact .inr ⟨c,Qpq _ h⟩
   · rename_i c
     refine sY r _ ?_
     rcases h with h|h
     · rcases Qsq.mp h with h|h
       · cases h;exact absurd rfl c
       · exact .inl h
     · exact .inr h
theorem mM{x:Str}{c:Addr}:∀{l:List (Str×Addr)},(x,c)∈l->∃c',l.lookup x=some c'
 | [],h=>by cases h
 | (n,d)::r,h=>by
   unfold List.lookup
   by_cases e:(x==n)=true
   · rw[e];exact⟨d,rfl⟩
   · have e':(x==n)=false:=by simpa using e
     rw[e']
     rcases Qsq.mp h with h|h
     · cases h;simp at e
     · exact mM h
def sM(N0:List Str)(kindOf:Str->Option NameKind)(names:List (Str×NameKind)):List (Option Nat)->List Str->Bool
 |some j::js,x::N=>(N0[j]? ==some x)&&(kindOf x==some .cell||kindOf x==some .free)&&(names.lookup x==some .free)&&sM N0 kindOf names js N
 |none::js,_::N=>sM N0 kindOf names js N
 |_,_=>true
theorem tU{N0:List Str}{kindOf:Str->Option NameKind}{names:List (Str×NameKind)}:∀{js:List (Option Nat)} {N:List Str} {k j:Nat} {x:Str},sM N0 kindOf names js N=true->js[k]?=some (some j)->N[k]?=some x->N0[j]?=some x/\(kindOf x=some .cell\/kindOf x=some .free)/\names.lookup x=some .free
 | some i::js,y::N,0,j,x,h,h1,h2=>by
   cases h1
   cases h2
   simp only[sM,QCq,Bool.or_eq_true,beq_iff_eq] at h
   exact⟨h.1.1.1,h.1.1.2,h.1.2⟩
 | some i::js,y::N,k+1,j,x,h,h1,h2=>by
   simp only[sM,QCq] at h
   exact tU h.2 (by simpa using h1) (by simpa using h2)
 |none::js,y::N,0,j,x,h,h1,h2=>by cases h1
 |none::js,y::N,k+1,j,x,h,h1,h2=>tU (k:=k) (by simpa [sM] using h) (by simpa using h1) (by simpa using h2)
 | [],N,k,j,x,h,h1,h2=>by simp at h1
 |some i::js,[],k,j,x,h,h1,h2=>by simp at h2
 |none::js,[],k,j,x,h,h1,h2=>by simp at h2
theorem oW{env:Env}{x:Str}:∀{names:List (Str×NameKind)},names.lookup x=some .free->(names.map fun(n,k)=>if (k==NameKind.free&&env.scope.kind==.function&&env.kindOf n==some .cell) then(n,NameKind.cell) else(n,k)).lookup x=some .cell∨
  (names.map fun(n,k)=>if (k==NameKind.free&&env.scope.kind==.function&&env.kindOf n==some .cell) then(n,NameKind.cell) else(n,k)).lookup x=some .free
 | [],h=>by cases h
 | (n,k)::r,h=>by
   unfold List.lookup at h
   rw[QDq]
   by_cases e:(x==n)=true
   · rw[e] at h
     cases h
     dsimp only
     split
     · left;unfold List.lookup;rw[e]
     · right;unfold List.lookup;rw[e]
   · have e':(x==n)=false:=by simpa using e
     rw[e'] at h
     have ih:=oW (env:=env) h
     dsimp only
     split <;>(unfold List.lookup;rw[e'];exact ih)
def a9.gen{X:Cx}{N:List Str}{js:List (Option Nat)}{scope:Scope}(k:scope.kind=.function)(h1:scope.names.all (fun y=>y.2 !=.cell)=true)(h2:scope.names.all (fun y=>y.2 !=.local||scope.names.lookup y.1==some .local)=true)
  (h3:scope.names.all (fun y=>y.2 !=.free||(X.env.cells.lookup y.1).isSome)=true) (h4:sM X.N X.env.kindOf scope.names js N=true) (h5:js.length=N.length):a9 X N js scope (eI X.env.cells scope.names []) where
 kind:=k
 nocell:=fun y hy=>by
  have:=QUq.mp h1 y hy
  simpa using this
 names:=fun y hy e=>by
  have:=QUq.mp h2 y hy
  rw[e] at this
  simpa using this
 clos:=F5 fun y hy e=>by
  have:=QUq.mp h3 y hy
  rw[e] at this
  simpa using this
 sub:=fun x c h=>by
  rcases ui _ _ _ (PySem.mem_of_lookup h) with h|⟨n,hn,e⟩
  ·cases h
  ·cases e
   have:=QUq.mp h3 _ hn
   have hs:(X.env.cells.lookup x).isSome=true:=by simpa using this
   obtain⟨c,hc⟩:=Option.isSome_iff_exists.mp hs
   rw[hc]
   rfl
 has:=fun x h=>by
  have key:(x,NameKind.free)∈scope.names:=by
   have:∃k,(relabel scope X.env).names.lookup x=some k/\(k=.cell\/k=.free):=by
    rcases h with h|h
    ·exact⟨_,h,.inl rfl⟩
    ·exact⟨_,h,.inr rfl⟩
   obtain⟨k',hk,hc⟩:=this
   have hm:=PySem.mem_of_lookup hk
   unfold relabel at hm
   obtain⟨⟨n,kk⟩,hy,ey⟩:=Qkq.mp hm
   dsimp only at ey
   split at ey
   ·rename_i c
    cases ey
    simp only[QCq] at c
    have:kk=NameKind.free:=by simpa using c.1.1
    rw[←this]
    exact hy
   ·cases ey
    rcases hc with z|z
    ·have:=QUq.mp h1 _ hy
     rw[z] at this
     simp at this
    ·rw[←z];exact hy
  obtain⟨c,hc⟩:=sY (cells:=X.env.cells) scope.names [] (.inl key)
  exact mM hc
 cap:=fun k j x hj hn=>by
  obtain⟨a,b,c⟩:=tU h4 hj hn
  refine⟨a,b,?_⟩
  unfold relabel
  exact oW c
 len:=h5
structure fB(P:Program)(w:World)(K:PySem.W.Frag)(mg:Str->Option Value)(base:Heap)(k:Nat)(x:Str)(ps:List Str)(F:dX):Prop where
 ex:∃f fd,bJ P w K mg base eD k f fd ps (eN ⟨K,mg⟩ ps.length F)/\Binds K fd ps []/\PySem.W.keepIn K (.ref f)=true/\mg x=some (.ref f)
section
variable{X:Cx}{x:Str}{k n:Nat}{ps:List Str}{F:dX}{e:Expr}{es:List Expr}{g:g9}{p pos:Pos}
def K_(C:fB X.prog X.w X.K X.mg X.base k x ps F)(hr:eX k X.A)(hg:Gl X x)(ha:PA X (e::es) (zr (md X) g))(hn:nA ps.length g)
  (hdb:(x==("__debug__":Str))=false:=by decide) (he:starEach (e::es) X.env=(false,eval e X.env)::starEach es X.env:=by rfl) (hpl:(backTo pos (starEach es X.env)).any (·.1)=false:=by rfl):
  PE X (.Call (.Name x p) (e::es) [] pos) (tD (md X) (aA F g)):=by
 obtain⟨f,fd,G,b,kp,m⟩:=C.ex
 exact JL G hr hg m kp b ha hn hdb he hpl
def LK(C:fB X.prog X.w X.K X.mg X.base k x ps F)(hr:eX k X.A)(hg:Gl X x)(ha:PA X (e::es) (zr (md X) g))(hn:nA ps.length g)
  (hdb:(x==("__debug__":Str))=false:=by decide) (he:starEach (e::es) X.env=(false,eval e X.env)::starEach es X.env:=by rfl) (hpl:(backTo pos (starEach es X.env)).any (·.1)=false:=by rfl):
  PE X (.Call (.Name x p) (e::es) [] pos) (tL (md X) (dY F g)):=by
 obtain⟨f,fd,G,b,kp,m⟩:=C.ex
 exact Jy G hr hg m kp b ha hn hdb he hpl
end
def fB.mono{P:Program}{w:World}{K:PySem.W.Frag}{mg:Str->Option Value}{base:Heap}{j k:Nat}{x:Str}{ps:List Str}{F:dX}(C:fB P w K mg base j x ps F)(h:j<=k):fB P w K mg base k x ps F:=by
 obtain⟨f,fd,G,b,kp,m⟩:=C.ex
 exact⟨f,fd,G.mono h,b,kp,m⟩
structure Bl(mg:Str->Option Value):Prop where
 len:mg "len"=none
 tuple:mg "tuple"=none
 list:mg "list"=none
 dict:mg "dict"=none
 set:mg "set"=none
 int:mg "int"=none
 str:mg "str"=none
 bool:mg "bool"=none
 all:mg "all"=none
 any:mg "any"=none
 range:mg "range"=none
 zip:mg "zip"=none
 sorted:mg "sorted"=none
 isi:mg "isinstance"=none
 min:mg "min"=none
 max:mg "max"=none
 abs:mg "abs"=none
 enum:mg "enumerate"=none
open AutoSeq1 in
def nu(l:Addr)(items:Array Value)(n:Nat)(b:Addr)(items2:Array Value)(n2:Nat)(dd:Option Addr)(sl:Array (Option Value))(hs0:¬(!items.isEmpty&&Builtin.List.listTooLong (items.size+items2.size))=true)(hs1:items.size<=sizeLine)(hs2:items.size+items2.size<=sizeLine+1):
  Meets (Builtin.«list.extend» ⟨[.ref l,.ref b],[]⟩) (fun _ R s=>s.heap.get? l=some {cls:=.type "list",dict:=none,data:=.seq items n,slots:= #[]}/\s.heap.get? b=some {cls:=.type "tuple",dict:=dd,data:=.seq items2 n2,slots:=sl}/\R (.ok (.ret Value.none)) {s with heap:=s.heap.update l (Obj.mapSeq fun x=>x++items2),toks:=s.toks}):=
 .of_wp fun prog w A R s h=>by
  obtain⟨hp,g,d,tk,os⟩:=s;obtain⟨hl,hb,h⟩:=h;have f1:=idx_int;have f2:=AutoSeq1.sub_tuple_tuple;have f3:=AutoSeq1.sub_list_list;have f4:=AutoSeq1.sub_tuple_list;have f5:=AutoSeq1.sub_list_tuple;
  have hz':(items++items2).size<=sizeLine+1:=by rw[Array.size_append];exact hs2
  wp_walk using (wpAny_updateSeq hl rfl (hz:=hs1) (_hz':=hz')),AutoSeq1.wpAny_loadPart' hl,AutoSeq1.wpAny_loadPart' hb;exact⟨_,rfl,h⟩
section
variable{X:Cx}{a b c e:Expr}{pos:Pos}{st:Stmt}
def Ht:LY X "list.extend" (fun x vs H Q=>∃l b xs zs,x=.ref l/\vs= [.ref b]/\H l=some (.lst xs)/\iW X.K H b zs/\xs.length+zs.length<=sizeLine/\Q .non (upd H l (.lst (xs++zs)))):=by
 intro pins s σ H x vs v us Q I rx rv h
 obtain⟨l,b,xs,zs,rfl,rfl,hH,hB,hz,q⟩:=h
 cases rx
 obtain⟨u,rfl,ru⟩:=rv.one
 cases ru
 obtain⟨z,its,n,r,hl,e⟩:=I.lstM hH
 obtain⟨its2,r2,⟨⟨cls,dd,dat,sl⟩,e2,hc,n2,hd⟩,hz2⟩:=I.tuple hB
 have hl2:=r2.length
 simp only at hc hd
 subst hc hd
 have hsz:its.toArray.size+its2.toArray.size<=sizeLine:=by rw[Qjq,Qjq];omega
 have hlong:¬(!its.toArray.isEmpty&&Builtin.List.listTooLong (its.toArray.size+its2.toArray.size))=true:=by
  rw[tT hsz,Bool.and_false]
  exact Qtq
 refine call_meets F.slot_list_extend ⟨_,e,rfl⟩ F.entry_list_extend (F.args_list_extend_2 _ _)
  (nu l its.toArray n b its2.toArray n2 dd sl hlong (by rw[Qjq];omega) (by omega)) ⟨e,e2,?_⟩
 refine⟨.non,_,I.lset (its':=its++its2) hH e (by simp) (r.append r2) ?_,rfl,q⟩
 rw[lQa]
 omega
def vi(f:bN)(g:eJ):bN:=fun Γ S=>(f Γ S).bind fun(x,S1)=>match x with
 | .ref k=>(g Γ S1).bind fun(p,S2)=>match S1[k]?,S2[k]? with
   |some (.lst _),some (.lst ds)=>if p.2.isL=false/\ds.length+p.1.length<=sizeLine then some (.non,S2.set k (.lst (ds++p.1))) else none
   |_,_=>none
 |_=>none
def Iw{f:bN}{g:eJ}:∀σ H Q,tD (md X) (vi f g) σ H Q->Mb X.K "list" (fun x vs H Q=>∃l b xs zs,x=.ref l/\vs= [.ref b]/\H l=some (.lst xs)/\iW X.K H b zs/\xs.length+zs.length<=sizeLine/\Q .non (upd H l (.lst (xs++zs)))) (tD (md X) f) (Er (tQ (md X) g) JX) σ H Q:=fun σ H Q qq=>by
 obtain⟨ρ,Γ,S,d,S',ok,e,q⟩:=qq
 obtain⟨⟨x,S1⟩,e1,e⟩:=ar e
 cases x with
 | ref k=>
   dsimp only at e
   obtain⟨⟨⟨ys,t⟩,S2⟩,e2,e⟩:=ar e
   dsimp only at e
   split at e
   · rename_i ds0 ds hs1 hs2
     split at e
     · rename_i c
       obtain⟨rfl,rfl⟩:=cR e
       refine⟨ρ,Γ,S,_,S1,ok,e1,fun ρ1 v H1 x1 st1 r1=> ?_⟩
       cases r1 with
       | ref ha=>
         rename_i a
         obtain⟨vs1,g1,_⟩:=st1.obj k a _ ha hs1
         refine⟨.inl ⟨rfl,vs1,ik.of g1⟩,ρ1,Γ,S1,ys,t,S2,ok.to x1 st1,e2,fun ρ2 b us H2 x2 st2 h2 r2=> ?_⟩
         have ha2:=dz x2.pre ha
         obtain⟨vs,h3,h4⟩:=st2.obj k a _ ha2 hs2
         refine⟨a,b,vs,us,rfl,rfl,h3,h2.sqT c.1,by rw[←h4.length,←r2.length];exact c.2,?_⟩
         obtain⟨st3,x3⟩:=st2.putL ha2 hs2 (h4.append r2)
         exact q _ _ _ ((x1.trans x2).trans x3) st3 .non
     · cases e
   · cases e
 |_=>cases e
def vp{f:bN}{g:eJ}{o:Expr}{apos cpos:Pos}(ho:PE X o (tD (md X) f))(ha:PE X e (tQ (md X) g))(hbase:attributeBase o "extend" X.env (eval o X.env)=eval o X.env:=by rfl) (hfew:((backTo cpos (starEach [e] X.env)).all (fun x=> !x.1)&&(backToKw cpos (keywordEach [] X.env)).all (fun x=>x.1.isSome)
   &&decide ([e].length+([]:List Keyword).length+(if ([]:List Keyword).isEmpty then 0 else 1)<30))=true:=by rfl)
  (hline:(apos.endLine==cpos.line)=true:=by rfl) (hs:starEach [e] X.env= [(false,eval e X.env)]:=by rfl):PE X (.Call (.Attribute o "extend" apos) [e] [] cpos) (tD (md X) (vi f g)):=
 kR (v9 PySem.F.plainAttrs_list PySem.F.slot_list_extend PySem.F.type_list_extend Ht ho (dC ha gK hs) hbase hfew hline hs) Iw
def og(x:V):List V->Option Nat
 | []=>none
 |y::r=>if rP y x=true then some 0 else(og x r).map (·+1)
theorem BD{x:V}:∀{xs:List V} {j:Nat},og x xs=some j->(∃y,xs[j]?=some y/\rP y x=true)/\∀m y,m<j->xs[m]?=some y->rP y x=false
 | [],_,h=>by cases h
 | y::r,j,h=>by
   unfold og at h
   split at h
   · rename_i c
     cases h
     exact⟨⟨y,rfl,c⟩,fun m _ hm=>absurd hm (Nat.not_lt_zero _)⟩
   · rename_i c
     obtain⟨i,hi,rfl⟩:=oQm.mp h
     obtain⟨⟨z,h1,h2⟩,h3⟩:=BD hi
     refine⟨⟨z,by simpa using h1,h2⟩,fun m w hm hw=> ?_⟩
     cases m with
     |zero=>cases hw;simpa using c
     |succ m=>exact h3 m w (by omega) (by simpa using hw)
def Fz:Mr X "list.index" (fun x vs H Q=>∃a xs y j,x=.ref a/\vs= [y]/\ik X.K H a xs/\ia y=true/\xs.all ia=true/\og y xs=some j/\Q (.int (j:Nat)) H):=by
 intro pins s σ H x vs v us Q I rx rv h
 obtain⟨a,xs,y,j,rfl,rfl,hq,fy,fs,hj,q⟩:=h
 cases rx
 obtain⟨u,rfl,ru⟩:=rv.one
 obtain⟨its,r,pl,hz⟩:=I.list hq
 obtain⟨⟨cls,dd,dat,sl⟩,n,e,hc,hdd,hd⟩:=pl
 simp only at hc hdd hd
 subst hc hdd hd
 obtain⟨⟨z,h1,h2⟩,h3⟩:=BD hj
 have hl:=r.length
 have hjl:j<xs.length:=(gQs.mp h1).1
 obtain⟨w,hw,rw'⟩:=r.get h1
 have hw':its.toArray[j]'(by rw[Qjq];omega)=w:=by
  have:=(gQs.mp hw).2
  simpa using this
 have line:=lX
 refine call_meets PySem.F.slot_list_index ⟨_,e,rfl⟩ PySem.F.entry_list_index (PySem.F.args_list_index_2 _ _)
  (SeqAt.list_indexAt a its.toArray n none sl u (Aa y) j (by rw[Qjq];omega) (by omega) (by rw[hw',wG rw' (QUq.mp fs z (mQg h1))];exact h2) fun m hm hlt=> ?_)
  ⟨e,fun w hw=>jy ru fy r fs w (by simpa using hw),⟨.int j,H,I.tok _,⟨_,rfl⟩,q⟩⟩
 have hm':m<xs.length:=by rw[Qjq] at hm;omega
 obtain⟨w2,hw2,rw2⟩:=r.get (gQe hm')
 have e2:its.toArray[m]=w2:=by
  have:=(gQs.mp hw2).2
  simpa using this
 rw[e2,wG rw2 (QUq.mp fs _ (List.getElem_mem hm'))]
 exact h3 m _ hlt (gQe hm')
end
end DL
namespace Zq
open PySem
def It(t:Bool)(h:Heap)(i a:Addr)(k:Nat):Prop:=if t=true then h.IsTupleIter i a k else h.IsListIter i a k
def Sq(t:Bool)(h:Heap)(a:Addr)(xs:Array Value):Prop:=if t=true then h.IsTuple a xs else h.IsList a xs
section
variable{t t2:Bool}{h h':Heap}{i j a b z O T:Addr}{k:Nat}{xs ys:Array Value}
theorem It.at(g:It t h i a k)(f:∀o,h.get? i=some o->h'.get? i=some o):It t h' i a k:=by
 cases t with
 |true=>exact(show h.IsTupleIter i a k from g).at f
 |false=>exact(show h.IsListIter i a k from g).at f
def It.ext{c:Addr}(g:It t h i a k)(f:Heap.ExtBut c h h')(n:i≠c):It t h' i a k:=g.at fun o e=>f i o n e
def Sq.at(g:Sq t h a xs)(f:∀o,h.get? a=some o->h'.get? a=some o):Sq t h' a xs:=by
 cases t with
 |true=>obtain⟨o,e,r⟩:=(show h.IsTuple a xs from g);exact(show h'.IsTuple a xs from⟨o,f o e,r⟩)
 |false=>obtain⟨o,e,r⟩:=(show h.IsList a xs from g);exact(show h'.IsList a xs from⟨o,f o e,r⟩)
def Sq.ext{c:Addr}(g:Sq t h a xs)(f:Heap.ExtBut c h h')(n:a≠c):Sq t h' a xs:=g.at fun o e=>f a o n e
def It.obj(g:It t h i a k):∃o,h.get? i=some o/\∀v,o.data≠.cell v:=by
 cases t with
 |true=>obtain⟨o,e,_,d⟩:=(show h.IsTupleIter i a k from g);exact⟨o,e,fun v n=>by rw[d] at n;cases n⟩
 |false=>obtain⟨o,e,_,d⟩:=(show h.IsListIter i a k from g);exact⟨o,e,fun v n=>by rw[d] at n;cases n⟩
end
section
variable{prog:Program}{w:World}{A:Around}{E:Value->Shared->Prop}{s:Shared}{t t2:Bool}{z T O i j a b:Addr}{k:Nat}{xs ys:Array Value}{x y u v:Value}
def draw{Q:Value->Shared->Prop}(gi:It t s.heap i a k)(ga:Sq t s.heap a xs)(hv:xs[k]?=some v)
  (q:∀h',It t h' i a (k+1)->Heap.SameBut i s.heap h'->Q v {s with heap:=h'}):wpAny (model prog w) A (Builtin.SmallTypes.nextOf (.ref i)) Q E s:=by
 cases t with
 |true=>exact Zp.KZ gi ga hv q
 |false=>exact wpAny_nextOf_list_item gi ga hv q
def F0{Q:Value->Shared->Prop}(hA:A.handled=none)(gi:It t s.heap i a k)(ga:Sq t s.heap a xs)(hv:xs[k]?=none)
  (q:∀h' e,Heap.ExtBut i s.heap h'->(∃o,h'.get? e=some o/\o.cls=.type "StopIteration")->E (.ref e) {s with heap:=h'}):wpAny (model prog w) A (Builtin.SmallTypes.nextOf (.ref i)) Q E s:=by
 cases t with
 |true=>exact Zp.Lq hA gi ga hv q
 |false=>exact wpAny_nextOf_list_end hA gi ga hv q
abbrev kP(h:Heap)(z T O:Addr)(f0 f1:Value):Prop:=
 h.get? z=some {cls:=.type "zip",dict:=none,data:=.fields #[f0,f1,.bool false,.ref T,.ref O],slots:= #[]}
def item(D:ZipApart z T O i j a b){Q:Value->Shared->Prop}(gz:kP s.heap z T O .none (.bool false))(gT:IsPair s.heap T (.ref i) (.ref j))(gO:IsPair s.heap O u v)(gi:It t s.heap i a k)(gj:It t2 s.heap j b k)
  (ga:Sq t s.heap a xs) (gb:Sq t2 s.heap b ys) (ex:xs[k]?=some x) (ey:ys[k]?=some y)
  (q:∀h',kP h' z T O (rawInt s.heap.objs.size) (.bool false)->IsPair h' O x y->It t h' i a (k+1)->It t2 h' j b (k+1)->IsPair h' s.heap.objs.size x y->Zp.Rest z O i j s.heap h'->Q (.ref s.heap.objs.size) {s with heap:=h'}):
  wpAny (model prog w) A (Builtin.«zip.__next__» ⟨[.ref z],[]⟩) (fun fin s'=>∃r,fin=.done (.ret r)/\Q r s') E s:=by
 refine(?_:wpAny _ _ (field (.ref z) 2 >>= _) _ _ _)
 refine Qaq (QMq gz rfl (x:=.bool false) rfl ?_)
 refine(?_:wpAny _ _ (field (.ref z) 3 >>= _) _ _ _)
 refine Qaq (QMq gz rfl (x:=.ref T) rfl (Qaq (wpAny_seqItems gT rfl ?_)))
 refine(?_:wpAny _ _ (Builtin.SmallTypes.ownedTupleIsFree (.ref z) >>= _) _ _ _)
 refine Qaq ?_
 unfold Builtin.SmallTypes.ownedTupleIsFree
 refine Qaq (QMq gz rfl (x:=.none) rfl (Qgq ?_))
 simp only[if_true]
 refine Qaq (wpAny_rule (Qaq (QMq gz rfl (x:=.ref O) rfl (Qaq (wpAny_setField_rec gz (by simp) fun h1 z1 b1=> ?_)))))
 replace z1:kP h1 z T O .ellipsis (.bool false):=z1
 refine Qaq ?_
 simp only[List.zipIdx_cons,List.zipIdx_nil,List.forIn_nil,List.forIn_cons]
 refine Qaq (Qaq (wpAny_onRaise ?_))
 refine(?_:wpAny _ _ (Builtin.SmallTypes.nextOf (.ref i) >>= _) _ _ _)
 refine Qaq (draw (gi.ext b1.extBut D.i1z) (ga.ext b1.extBut D.l1z) ex fun h2 i2 b2=>Qgq ?_)
 have O2:IsPair h2 O u v:=b2.extBut _ _ D.TOi1 (b1.extBut _ _ D.TOz gO)
 refine Qaq (wpAny_seqItems O2 rfl (Qaq (wpAny_updateSeq_pair O2 fun h3 O3 b3=>Qaq (wpAny_letGo (Qgq ?_)))))
 replace O3:IsPair h3 O x v:=O3
 refine Qaq (Qaq (wpAny_onRaise ?_))
 refine(?_:wpAny _ _ (Builtin.SmallTypes.nextOf (.ref j) >>= _) _ _ _)
 refine Qaq (draw (((gj.ext b1.extBut D.i2z).ext b2.extBut D.i12.symm).ext b3.extBut D.TOi2.symm) (((gb.ext b1.extBut D.l2z).ext b2.extBut D.l2i1).ext b3.extBut D.l2TO) ey fun h4 j4 b4=>Qgq ?_)
 have O4:IsPair h4 O x v:=b4.extBut _ _ D.TOi2 O3
 refine Qaq (wpAny_seqItems O4 rfl (Qaq (wpAny_updateSeq_pair O4 fun h5 O5 b5=>Qaq (wpAny_letGo (Qgq (Qgq ?_))))))
 replace O5:IsPair h5 O x y:=O5
 refine Qaq (wpAny_seqItems O5 rfl (Qaq (wpAny_newTuple ?_)))
 have sz:h5.objs.size=s.heap.objs.size:=by rw[b5.1,b4.1,b3.1,b2.1,b1.1]
 have z5:kP h5 z T O .ellipsis (.bool false):=b5.extBut _ _ D.TOz.symm (b4.extBut _ _ D.i2z.symm (b3.extBut _ _ D.TOz.symm (b2.extBut _ _ D.i1z.symm z1)))
 have r5:Zp.Rest z O i j s.heap h5:=fun c o c1 c2 c3 c4 e=>b5.extBut _ _ c2 (b4.extBut _ _ c4 (b3.extBut _ _ c2 (b2.extBut _ _ c3 (b1.extBut _ _ c1 e))))
 have i5:It t h5 i a (k+1):=((i2.ext b3.extBut D.TOi1.symm).ext b4.extBut D.i12).ext b5.extBut D.TOi1.symm
 have j5:It t2 h5 j b (k+1):=j4.ext b5.extBut D.TOi2.symm
 have zl:z<h5.objs.size:=Qiq z5
 refine(?_:wpAny _ _ (Builtin.SmallTypes.ownedTupleHandOut (.ref z) (.ref h5.objs.size) >>= _) _ _ _)
 refine Qaq ?_
 unfold Builtin.SmallTypes.ownedTupleHandOut
 have z6:kP (h5.push {cls:=.type "tuple",data:=.seq #[x,y]}) z T O .ellipsis (.bool false):=Qcq _ z5
 refine Qaq (wpAny_setField_rec z6 (by simp) fun h7 z7 b7=> ?_)
 replace z7:kP h7 z T O (rawInt h5.objs.size) (.bool false):=z7
 refine wpAny_setField_rec z7 (by simp) fun h8 z8 b8=> ?_
 replace z8:kP h8 z T O (rawInt h5.objs.size) (.bool false):=z8
 have up:∀c o,c≠z->h5.get? c=some o->h8.get? c=some o:=fun c o c1 e=>b8.extBut _ _ c1 (b7.extBut _ _ c1 (Qcq _ e))
 have n8:IsPair h8 h5.objs.size x y:=b8.extBut _ _ (Nat.ne_of_gt zl) (b7.extBut _ _ (Nat.ne_of_gt zl) (Qrq _ rfl))
 rw[sz] at z8 n8
 refine Qgq ⟨_,rfl,?_⟩
 refine(?_:Q (.ref h5.objs.size) _)
 rw[sz]
 exact q h8 z8 (up _ _ D.TOz O5) (i5.at fun o e=>up _ o D.i1z e) (j5.at fun o e=>up _ o D.i2z e) n8 fun c o c1 c2 c3 c4 e=>up c o c1 (r5 c o c1 c2 c3 c4 e)
def alive{α:Addr}{Q:Option Obj->Shared->Prop}(h:Q (s.heap.get? α) s):wpAny (model prog w) A (loadIfAlive α) Q E s:=fun _ _ _=>h
def again(D:ZipApart z T O i j a b){p:Addr}{op:Obj}{f1:Value}{Q:Value->Shared->Prop}(gz:kP s.heap z T O (rawInt p) f1)(gp:s.heap.get? p=some op)(gT:IsPair s.heap T (.ref i) (.ref j))(gi:It t s.heap i a k)(gj:It t2 s.heap j b k)
  (ga:Sq t s.heap a xs) (gb:Sq t2 s.heap b ys) (ex:xs[k]?=some x) (ey:ys[k]?=some y)
  (q:∀h',kP h' z T O (rawInt p) (.bool true)->It t h' i a (k+1)->It t2 h' j b (k+1)->IsPair h' s.heap.objs.size x y->Zp.Rest z O i j s.heap h'->Q (.ref s.heap.objs.size) {s with heap:=h'}):
  wpAny (model prog w) A (Builtin.«zip.__next__» ⟨[.ref z],[]⟩) (fun fin s'=>∃r,fin=.done (.ret r)/\Q r s') E s:=by
 refine(?_:wpAny _ _ (field (.ref z) 2 >>= _) _ _ _)
 refine Qaq (QMq gz rfl (x:=.bool false) rfl ?_)
 refine(?_:wpAny _ _ (field (.ref z) 3 >>= _) _ _ _)
 refine Qaq (QMq gz rfl (x:=.ref T) rfl (Qaq (wpAny_seqItems gT rfl ?_)))
 refine(?_:wpAny _ _ (Builtin.SmallTypes.ownedTupleIsFree (.ref z) >>= _) _ _ _)
 refine Qaq ?_
 unfold Builtin.SmallTypes.ownedTupleIsFree
 refine Qaq (QMq gz rfl (x:=rawInt p) rfl ?_)
 refine(?_:wpAny _ _ (loadIfAlive ((p:Int).toNat) >>= _) _ _ _)
 refine Qaq ?_
 rw[Int.toNat_natCast]
 refine alive ?_
 rw[gp]
 refine(?_:wpAny _ _ (field (.ref z) 1 >>= _) _ _ _)
 refine Qaq (QMq gz rfl (x:=f1) rfl ?_)
 have st1:wpAny (model prog w) A (if (f1 !=Value.bool true)=true then(do let _←setField (.ref z) 1 (.bool true);pure false) else pure false)
   (fun r s'=>r=false/\∃h0,s'={s with heap:=h0}/\kP h0 z T O (rawInt p) (.bool true)/\Heap.SameBut z s.heap h0) E s:=by
  by_cases c:(f1 !=Value.bool true)=true
  ·rw[Qhq c]
   exact Qaq (wpAny_setField_rec gz (by simp) fun h0 z0 b0=>Qgq ⟨rfl,h0,rfl,z0,b0⟩)
  ·rw[Quq c]
   have e:f1=Value.bool true:=by simpa using c
   subst e
   exact Qgq ⟨rfl,s.heap,rfl,gz,Heap.SameBut.refl _ _⟩
 refine QRq st1 (fun r s' hs'=> ?_) fun _ _ h=>h
 obtain⟨rfl,h0,rfl,z0,b0⟩:=hs'
 simp only[Bool.false_eq_true,if_false]
 refine Qaq ?_
 simp only[List.forIn_toArray,List.forIn_cons,List.forIn_nil]
 refine Qaq (Qaq (QLq ?_))
 refine(?_:wpAny _ _ (Builtin.SmallTypes.nextOf (.ref i) >>= _) _ _ _)
 refine Qaq (draw (gi.ext b0.extBut D.i1z) (ga.ext b0.extBut D.l1z) ex fun h2 i2 b2=>Qgq (Qgq ?_))
 refine Qaq (Qaq (QLq ?_))
 refine(?_:wpAny _ _ (Builtin.SmallTypes.nextOf (.ref j) >>= _) _ _ _)
 refine Qaq (draw ((gj.ext b0.extBut D.i2z).ext b2.extBut D.i12.symm) ((gb.ext b0.extBut D.l2z).ext b2.extBut D.l2i1) ey fun h4 j4 b4=>Qgq (Qgq (Qgq ?_)))
 refine Qaq (wpAny_newTuple ?_ (by show 2<=_;decide))
 have sz:h4.objs.size=s.heap.objs.size:=by rw[b4.1,b2.1,b0.1]
 have up:∀c o,h4.get? c=some o->(h4.push {cls:=.type "tuple",data:=.seq #[x,y]}).get? c=some o:=fun c o e=>Qcq _ e
 have n8:IsPair (h4.push {cls:=.type "tuple",data:=.seq #[x,y]}) h4.objs.size x y:=Qrq _ rfl
 have z8:kP (h4.push {cls:=.type "tuple",data:=.seq #[x,y]}) z T O (rawInt p) (.bool true):=up _ _ (b4.extBut _ _ D.i2z.symm (b2.extBut _ _ D.i1z.symm z0))
 refine Qgq ⟨_,rfl,?_⟩
 refine(?_:Q (.ref h4.objs.size) _)
 rw[sz] at n8⊢
 exact q _ z8 ((i2.ext b4.extBut D.i12).at fun o e=>up _ o e) (j4.at fun o e=>up _ o e) n8 fun c o c1 c2 c3 c4 e=>up c o (b4.extBut _ _ c4 (b2.extBut _ _ c3 (b0.extBut _ _ c1 e)))
def stop(D:ZipApart z T O i j a b){Q:Fin->Shared->Prop}(hA:A.handled=none)(gz:kP s.heap z T O .none (.bool false))(gT:IsPair s.heap T (.ref i) (.ref j))(gi:It t s.heap i a k)(ga:Sq t s.heap a xs)(ex:xs[k]?=none)
  (q:∀h' e,Zp.Rest z O i j s.heap h'->(∃o,h'.get? e=some o/\o.cls=.type "StopIteration")->E (.ref e) {s with heap:=h'}):
  wpAny (model prog w) A (Builtin.«zip.__next__» ⟨[.ref z],[]⟩) Q E s:=by
 refine(?_:wpAny _ _ (field (.ref z) 2 >>= _) _ _ _)
 refine Qaq (QMq gz rfl (x:=.bool false) rfl ?_)
 refine(?_:wpAny _ _ (field (.ref z) 3 >>= _) _ _ _)
 refine Qaq (QMq gz rfl (x:=.ref T) rfl (Qaq (wpAny_seqItems gT rfl ?_)))
 refine(?_:wpAny _ _ (Builtin.SmallTypes.ownedTupleIsFree (.ref z) >>= _) _ _ _)
 refine Qaq ?_
 unfold Builtin.SmallTypes.ownedTupleIsFree
 refine Qaq (QMq gz rfl (x:=.none) rfl (Qgq ?_))
 simp only[if_true]
 refine Qaq (wpAny_rule (Qaq (QMq gz rfl (x:=.ref O) rfl (Qaq (wpAny_setField_rec gz (by simp) fun h1 z1 b1=> ?_)))))
 replace z1:kP h1 z T O .ellipsis (.bool false):=z1
 refine Qaq ?_
 simp only[List.zipIdx_cons,List.zipIdx_nil,List.forIn_nil,List.forIn_cons]
 refine Qaq (Qaq (wpAny_onRaise ?_))
 refine(?_:wpAny _ _ (Builtin.SmallTypes.nextOf (.ref i) >>= _) _ _ _)
 refine Qaq (F0 hA (gi.ext b1.extBut D.i1z) (ga.ext b1.extBut D.l1z) ex fun h2 e b2 qr=> ?_)
 obtain⟨oe,he,ce⟩:=qr
 have z2:kP h2 z T O .ellipsis (.bool false):=b2 _ _ D.i1z.symm z1
 have ne:e≠z:=fun n=>by rw[n,z2] at he;cases he;simp at ce
 exact wpAny_setField_rec z2 (by simp) fun h3 _ b3=>q h3 e (fun c o c1 _ c3 _ n=>b3.extBut _ _ c1 (b2 _ _ c3 (b1.extBut _ _ c1 n))) ⟨oe,b3.extBut _ _ ne he,ce⟩
def Kt(D:ZipApart z T O i j a b){p:Addr}{op:Obj}{f1:Value}{Q:Fin->Shared->Prop}(hA:A.handled=none)(gz:kP s.heap z T O (rawInt p) f1)(gp:s.heap.get? p=some op)(gT:IsPair s.heap T (.ref i) (.ref j))(gi:It t s.heap i a k)(ga:Sq t s.heap a xs)(ex:xs[k]?=none)
  (q:∀h' e,Zp.Rest z O i j s.heap h'->(∃o,h'.get? e=some o/\o.cls=.type "StopIteration")->E (.ref e) {s with heap:=h'}):
  wpAny (model prog w) A (Builtin.«zip.__next__» ⟨[.ref z],[]⟩) Q E s:=by
 refine(?_:wpAny _ _ (field (.ref z) 2 >>= _) _ _ _)
 refine Qaq (QMq gz rfl (x:=.bool false) rfl ?_)
 refine(?_:wpAny _ _ (field (.ref z) 3 >>= _) _ _ _)
 refine Qaq (QMq gz rfl (x:=.ref T) rfl (Qaq (wpAny_seqItems gT rfl ?_)))
 refine(?_:wpAny _ _ (Builtin.SmallTypes.ownedTupleIsFree (.ref z) >>= _) _ _ _)
 refine Qaq ?_
 unfold Builtin.SmallTypes.ownedTupleIsFree
 refine Qaq (QMq gz rfl (x:=rawInt p) rfl ?_)
 refine(?_:wpAny _ _ (loadIfAlive ((p:Int).toNat) >>= _) _ _ _)
 refine Qaq ?_
 rw[Int.toNat_natCast]
 refine alive ?_
 rw[gp]
 refine(?_:wpAny _ _ (field (.ref z) 1 >>= _) _ _ _)
 refine Qaq (QMq gz rfl (x:=f1) rfl ?_)
 have st1:wpAny (model prog w) A (if (f1 !=Value.bool true)=true then(do let _←setField (.ref z) 1 (.bool true);pure false) else pure false)
   (fun r s'=>r=false/\∃h0,s'={s with heap:=h0}/\kP h0 z T O (rawInt p) (.bool true)/\Heap.SameBut z s.heap h0) E s:=by
  by_cases c:(f1 !=Value.bool true)=true
  ·rw[Qhq c]
   exact Qaq (wpAny_setField_rec gz (by simp) fun h0 z0 b0=>Qgq ⟨rfl,h0,rfl,z0,b0⟩)
  ·rw[Quq c]
   have e:f1=Value.bool true:=by simpa using c
   subst e
   exact Qgq ⟨rfl,s.heap,rfl,gz,Heap.SameBut.refl _ _⟩
 refine QRq st1 (fun r s' hs'=> ?_) fun _ _ h=>h
 obtain⟨rfl,h0,rfl,z0,b0⟩:=hs'
 simp only[Bool.false_eq_true,if_false]
 refine Qaq ?_
 simp only[List.forIn_toArray,List.forIn_cons,List.forIn_nil]
 refine Qaq (Qaq (QLq ?_))
 refine(?_:wpAny _ _ (Builtin.SmallTypes.nextOf (.ref i) >>= _) _ _ _)
 refine Qaq (F0 hA (gi.ext b0.extBut D.i1z) (ga.ext b0.extBut D.l1z) ex fun h2 e b2 he=> ?_)
 exact q h2 e (fun c o c1 _ c3 _ n=>b2 _ _ c3 (b0.extBut _ _ c1 n)) he
def Zs(h:Heap)(z T O i j:Addr):Prop:=kP h z T O .none (.bool false)/\(∃u v,IsPair h O u v)\/∃(p:Addr) (op:Obj) (f1:Value),kP h z T O (rawInt (p:Nat)) f1/\h.get? p=some op/\p≠z/\p≠O/\p≠i/\p≠j
def Zs.but{h h':Heap}{S:Addr}(g:Zs h z T O i j)(f:∀c o,c≠S->h.get? c=some o->h'.get? c=some o)(n1:z≠S)(n2:O≠S)(hS:∃o,h'.get? S=some o):Zs h' z T O i j:=by
 rcases g with⟨gz,u,v,gO⟩|⟨p,op,f1,gz,gp,n⟩
 ·exact .inl ⟨f _ _ n1 gz,u,v,f _ _ n2 gO⟩
 ·by_cases c:p=S
  ·subst c
   obtain⟨o,ho⟩:=hS
   exact .inr ⟨p,o,f1,f _ _ n1 gz,ho,n⟩
  ·exact .inr ⟨p,op,f1,f _ _ n1 gz,f _ _ c gp,n⟩
def FK(D:ZipApart z T O i j a b){Q:Option Value->Shared->Prop}(gz:Zs s.heap z T O i j)(gT:IsPair s.heap T (.ref i) (.ref j))(gi:It t s.heap i a k)(gj:It t2 s.heap j b k)
  (ga:Sq t s.heap a xs) (gb:Sq t2 s.heap b ys) (ex:xs[k]?=some x) (ey:ys[k]?=some y)
  (q:∀h',Zs h' z T O i j->It t h' i a (k+1)->It t2 h' j b (k+1)->IsPair h' s.heap.objs.size x y->Zp.Rest z O i j s.heap h'->Q (some (.ref s.heap.objs.size)) {s with heap:=h'}):
  wpAny (model prog w) A (pyNext (.ref z)) Q E s:=by
 unfold pyNext
 have lt:∀{c o},s.heap.get? c=some o->s.heap.objs.size≠c:=fun e=>Nat.ne_of_gt (Qiq e)
 obtain⟨oi,ei,_⟩:=gi.obj
 obtain⟨oj,ej,_⟩:=gj.obj
 rcases gz with⟨gz,u,v,gO⟩|⟨p,op,f1,gz,gp,p1,p2,p3,p4⟩
 ·have ty:s.TypeIs (.ref z) "zip":=⟨_,gz,rfl⟩
  exact Qaq (wpAny_attempt (wpAny_callSpecial?_slot (name:=Str.ofString "__next__") ty F.slot_zip_next (wpAny_call_entry F.slot_zip_next ty F.entry_zip_next
   (item D gz gT gO gi gj ga gb ex ey fun h' a1 a2 a3 a4 a5 a6=>Qgq (q h' (.inr ⟨_,_,_,a1,a5,lt gz,lt gO,lt ei,lt ej⟩) a3 a4 a5 a6)) (F.args_zip_next_1 _))))
 ·have ty:s.TypeIs (.ref z) "zip":=⟨_,gz,rfl⟩
  exact Qaq (wpAny_attempt (wpAny_callSpecial?_slot (name:=Str.ofString "__next__") ty F.slot_zip_next (wpAny_call_entry F.slot_zip_next ty F.entry_zip_next
   (again D gz gp gT gi gj ga gb ex ey fun h' a1 a3 a4 a5 a6=>Qgq (q h' (.inr ⟨p,op,_,a1,a6 _ _ p1 p2 p3 p4 gp,p1,p2,p3,p4⟩) a3 a4 a5 a6)) (F.args_zip_next_1 _))))
def yD(D:ZipApart z T O i j a b){Q:Option Value->Shared->Prop}(hA:A.handled=none)(gz:Zs s.heap z T O i j)(gT:IsPair s.heap T (.ref i) (.ref j))(gi:It t s.heap i a k)(ga:Sq t s.heap a xs)(ex:xs[k]?=none)
  (q:∀h',Zp.Rest z O i j s.heap h'->Q none {s with heap:=h'}):wpAny (model prog w) A (pyNext (.ref z)) Q E s:=by
 unfold pyNext
 rcases gz with⟨gz,u,v,gO⟩|⟨p,op,f1,gz,gp,_⟩
 ·have ty:s.TypeIs (.ref z) "zip":=⟨_,gz,rfl⟩
  exact Qaq (wpAny_attempt (wpAny_callSpecial?_slot (name:=Str.ofString "__next__") ty F.slot_zip_next (wpAny_call_entry F.slot_zip_next ty F.entry_zip_next
   (stop D hA gz gT gi ga ex fun h' e r ⟨o,ho,hc⟩=>Qaq (wpAny_isInstance (T:="StopIteration") (b:=true) ⟨o,ho,hc⟩ isSubtype_stop (Qgq (q _ r)))) (F.args_zip_next_1 _))))
 ·have ty:s.TypeIs (.ref z) "zip":=⟨_,gz,rfl⟩
  exact Qaq (wpAny_attempt (wpAny_callSpecial?_slot (name:=Str.ofString "__next__") ty F.slot_zip_next (wpAny_call_entry F.slot_zip_next ty F.entry_zip_next
   (Kt D hA gz gp gT gi ga ex fun h' e r ⟨o,ho,hc⟩=>Qaq (wpAny_isInstance (T:="StopIteration") (b:=true) ⟨o,ho,hc⟩ isSubtype_stop (Qgq (q _ r)))) (F.args_zip_next_1 _))))
end
def Mh(t:Bool):String:=if t=true then "tuple_iterator" else "list_iterator"
abbrev H1(t:Bool)(h:Heap)(a:Addr):Heap:=h.push {cls:=.type (Mh t),data:=.fields #[.ref a,.int 0 0]}
abbrev H2(t t2:Bool)(h:Heap)(a b:Addr):Heap:=(H1 t h a).push {cls:=.type (Mh t2),data:=.fields #[.ref b,.int 0 0]}
abbrev H3(t t2:Bool)(h:Heap)(a b:Addr):Heap:=(H2 t t2 h a b).push {cls:=.type "tuple",data:=.seq #[.ref h.objs.size,.ref (H1 t h a).objs.size]}
abbrev H4(t t2:Bool)(h:Heap)(a b:Addr):Heap:=(H3 t t2 h a b).push {cls:=.type "tuple",data:=.seq #[.none,.none]}
abbrev H5(t t2:Bool)(h:Heap)(a b:Addr):Heap:=(H4 t t2 h a b).push {cls:=.type "zip",data:=.fields #[.none,.bool false,.bool false,.ref (H2 t t2 h a b).objs.size,.ref (H3 t t2 h a b).objs.size]}
def Sq.push{t:Bool}{h:Heap}{a:Addr}{xs:Array Value}(g:Sq t h a xs)(o:Obj):Sq t (h.push o) a xs:=g.at fun _ e=>Qcq _ e
def pX(t t2:Bool)(a b:Addr)(xs ys:Array Value):Meets (Builtin.«zip.__new__» ⟨[.type "zip",.ref a,.ref b],[]⟩) (fun _ R s=>Sq t s.heap a xs/\Sq t2 s.heap b ys/\R (.ok (.ret (.ref (H4 t t2 s.heap a b).objs.size))) {s with heap:=H5 t t2 s.heap a b}):=
 .of_wp fun prog w A R s h=>by
  obtain⟨hp,g,d,tk,os⟩:=s
  obtain⟨ga,gb,h⟩:=h
  have sub:=sub_zip
  have gb':=gb.push {cls:=.type (Mh t),data:=.fields #[.ref a,.int 0 0]}
  cases t <;>cases t2
  ·have la:Heap.IsList (Shared.heap ⟨hp,g,d,tk,os⟩) a xs:=ga
   have lb:Heap.IsList (Shared.heap ⟨hp.push {cls:=.type "list_iterator",data:=.fields #[.ref a,.int 0 0]},g,d,tk,os⟩) b ys:=gb'
   wp_walk using wpAny_pyIter_list la,wpAny_pyIter_list lb
   exact⟨_,rfl,h⟩
  ·have la:Heap.IsList (Shared.heap ⟨hp,g,d,tk,os⟩) a xs:=ga
   have lb:Heap.IsTuple (Shared.heap ⟨hp.push {cls:=.type "list_iterator",data:=.fields #[.ref a,.int 0 0]},g,d,tk,os⟩) b ys:=gb'
   wp_walk using wpAny_pyIter_list la,wpAny_pyIter_tuple lb
   exact⟨_,rfl,h⟩
  ·have la:Heap.IsTuple (Shared.heap ⟨hp,g,d,tk,os⟩) a xs:=ga
   have lb:Heap.IsList (Shared.heap ⟨hp.push {cls:=.type "tuple_iterator",data:=.fields #[.ref a,.int 0 0]},g,d,tk,os⟩) b ys:=gb'
   wp_walk using wpAny_pyIter_tuple la,wpAny_pyIter_list lb
   exact⟨_,rfl,h⟩
  ·have la:Heap.IsTuple (Shared.heap ⟨hp,g,d,tk,os⟩) a xs:=ga
   have lb:Heap.IsTuple (Shared.heap ⟨hp.push {cls:=.type "tuple_iterator",data:=.fields #[.ref a,.int 0 0]},g,d,tk,os⟩) b ys:=gb'
   wp_walk using wpAny_pyIter_tuple la,wpAny_pyIter_tuple lb
   exact⟨_,rfl,h⟩
section
variable{prog:Program}{w:World}{A:Around}{E:Value->Shared->Prop}{s:Shared}
def HX{t t2:Bool}{a b:Addr}{xs ys:Array Value}{Q:Value->Shared->Prop}(ga:Sq t s.heap a xs)(gb:Sq t2 s.heap b ys)
  (q:∀h',kP h' (s.heap.objs.size+4) (s.heap.objs.size+2) (s.heap.objs.size+3) .none (.bool false)->IsPair h' (s.heap.objs.size+2) (.ref s.heap.objs.size) (.ref (s.heap.objs.size+1))->IsPair h' (s.heap.objs.size+3) .none .none→
   It t h' s.heap.objs.size a 0->It t2 h' (s.heap.objs.size+1) b 0->(∀c o,s.heap.get? c=some o->h'.get? c=some o)->Q (.ref (s.heap.objs.size+4)) {s with heap:=h'}):
  wpAny (model prog w) A (call (.type "zip") [.ref a,.ref b]) Q E s:=by
 refine callType_new F.called_zip (by decide) (F.typeCall_zip_2 _ _) (F.newCall_zip_2 _ _) (fun obj=>F.args_object_init_3 obj _ _) F.entry_zip_new (pX t t2 a b xs ys) ⟨ga,gb,?_⟩
 have e1:(H1 t s.heap a).objs.size=s.heap.objs.size+1:=Heap.size_push ..
 have e2:(H2 t t2 s.heap a b).objs.size=s.heap.objs.size+2:=by rw[Heap.size_push,e1]
 have e3:(H3 t t2 s.heap a b).objs.size=s.heap.objs.size+3:=by rw[Heap.size_push,e2]
 have e4:(H4 t t2 s.heap a b).objs.size=s.heap.objs.size+4:=by rw[Heap.size_push,e3]
 have k5:(H5 t t2 s.heap a b).get? (H4 t t2 s.heap a b).objs.size=some _:=Qrq _ rfl
 have k4:(H5 t t2 s.heap a b).get? (H3 t t2 s.heap a b).objs.size=some _:=Qcq _ (Qrq _ rfl)
 have k3:(H5 t t2 s.heap a b).get? (H2 t t2 s.heap a b).objs.size=some _:=Qcq _ (Qcq _ (Qrq _ rfl))
 have k2:(H5 t t2 s.heap a b).get? (H1 t s.heap a).objs.size=some _:=Qcq _ (Qcq _ (Qcq _ (Qrq _ rfl)))
 have k1:(H5 t t2 s.heap a b).get? s.heap.objs.size=some _:=Qcq _ (Qcq _ (Qcq _ (Qcq _ (Qrq _ rfl))))
 refine(?_:_/\_)
 rw[e2,e3,e4] at k5
 rw[e1,e2] at k3
 rw[e3] at k4
 rw[e1] at k2
 rw[e4]
 refine⟨⟨_,k5,rfl⟩,q _ k5 k3 k4 ?_ ?_ fun c o n=>Qcq _ (Qcq _ (Qcq _ (Qcq _ (Qcq _ n))))⟩
 ·cases t <;>exact⟨_,k1,rfl,rfl⟩
 ·cases t2 <;>exact⟨_,k2,rfl,rfl⟩
end
def qk:typeLookup (.type "zip") "__getattr__"=pure none:=by rw[typeLookup_type,builtinLookup_eq_fast];kernel_rfl
def kG:entryFor table "zip.__getattribute__"=some Builtin.«object.__getattribute__»:=
 entryFor_alias (id':="object.__getattribute__") (by kernel_rfl) (by decide +kernel) (by decide +kernel) (by kernel_rfl)
def rj:typeLookup (Value.type "zip") (Str.ofString "keys")=pure none:=by
 rw[typeLookup_type,builtinLookup_eq_fast]
 rfl
def ua(a:Addr)(fs:Array Value)(name:Str)(u:Tok)(hmiss:typeLookup (.type "zip") name=pure none)(hname:(["__module__","__name__","__qualname__","__doc__","__annotations__"]:List Str).contains name=false)(hsz:name.length+100<=sizeLine:=by size_fits):
  Meets (Builtin.«object.__getattribute__» ⟨[.ref a,.str name u],[]⟩) (fun A R s=>s.heap.get? a=some {cls:=.type "zip",dict:=none,data:=.fields fs,slots:= #[]}/\raisesAttr (.ref a) name A R s):=
 Meets.of_wp fun prog w A R s hs=>by
  obtain⟨hp,g,d,tk,os⟩:=s
  obtain⟨hx,hs⟩:=hs
  have hT:(⟨hp,g,d,tk,os⟩:Shared).TypeIs (.ref a) "zip":=⟨_,hx,rfl⟩
  unfold Builtin.«object.__getattribute__»
  repeat (any_goals (first|assumption|wp_step))
  simp only[hname,Bool.false_eq_true,if_false]
  repeat (any_goals (first|assumption|wp_step))
  exact wpAny_raiseAttrError hs.1 hs.2 (attrMsg_fits (by decide +kernel) hsz)
def DK{prog:Program}{w:World}{A:Around}{E:Value->Shared->Prop}{s:Shared}{a:Addr}{fs:Array Value}{Q:Option Value->Shared->Prop}
  (hx:s.heap.get? a=some {cls:=.type "zip",dict:=none,data:=.fields fs,slots:= #[]}) (hA:A.handled=none)
  (h:∀(h':Heap) (tk:Nat),(∀b o,s.heap.get? b=some o->h'.get? b=some o)->Q none {s with heap:=h',toks:=tk}):
  wpAny (model prog w) A (getAttr? (.ref a) (Str.ofString "keys")) Q E s:=by
 obtain⟨hp,g,d,tk,os⟩:=s
 have hT:∀x,Shared.TypeIs ⟨hp,g,d,x,os⟩ (.ref a) "zip":=fun x=>⟨_,hx,rfl⟩
 have f1:=sub_AttributeError
 have f3:=F.slot_zip_getattribute.lookup
 have f4:=F.slot_zip_getattribute.bind (Value.ref a)
 have f5:=qk
 unfold getAttr? mkText getAttrBy? getAttrBy
 refine Qaq (Qaq (wpAny_fresh' (Qgq (Qaq (wpAny_attempt (QLq ?_))))))
 unfold typeOf
 refine Qaq (Qaq (wpAny_loadPart' hx (Qgq (Qaq (wpAny_of_eq f3 (wpAny_ite_false rfl ?_))))))
 unfold getAttrByItsOwn hookBefore
 refine Qaq (wpAny_ite_false rfl (Qgq (Qaq (wpAny_attempt (QLq ?_)))))
 unfold callGetattribute
 refine wpAny_ite_false rfl ?_
 unfold boundAndCalled
 refine Qaq (wpAny_of_eq f4 ?_)
 refine call_meets F.slot_zip_getattribute (hT (tk+1)) kG (F.args_zip_getattribute_2 (Value.ref a) _) (ua a fs (Str.ofString "keys") tk rj (by decide +kernel) (by decide +kernel)) ⟨hx,hA,fun h' tk' e hx'=> ?_⟩
 obtain⟨t',u',he⟩:=hx'.there
 have hE:Shared.TypeIs ⟨h',g,d,tk',os⟩ (.ref e) "AttributeError":=⟨_,he,rfl⟩
 show wpAny _ _ (getattributeRaised _ _ _ _ _ _ _) _ _ _
 unfold getattributeRaised
 refine Qaq (wpAny_isInstance hE f1 (wpAny_ite_true rfl ?_))
 unfold hookBehind hookOrError
 refine Qaq (wpAny_ite_false rfl (wpAny_of_eq f5 ?_))
 show wpAny _ _ (attributeErrorLeaves _ _ _ _ _) _ _ _
 unfold attributeErrorLeaves
 refine wpAny_ite_true rfl (wpAny_throw ?_)
 exact Qaq (wpAny_isInstance hE f1 (wpAny_ite_true rfl (Qgq (h h' tk' hx'.keeps))))
def uV{prog:Program}{w:World}{A:Around}{E:Value->Shared->Prop}{s:Shared}{z:Addr}{fs:Array Value}{Q:Value->Shared->Prop}
  (hx:s.heap.get? z=some {cls:=.type "zip",dict:=none,data:=.fields fs,slots:= #[]}) (hA:A.handled=none)
  (h:∀(h':Heap) (tk:Nat),(∀b o,(s.heap.push {cls:=.type "dict",data:=.dict #[]}).get? b=some o->h'.get? b=some o)→
   wpAny (model prog w) A.in1.in1 (pyIter (.ref z)) (fun it s'=>codeAny (model prog w) A.in1 (.builtin "dict.update.loop" {pos:= [.ref s.heap.objs.size,it,rawInt 0,.none]}) (wants (fun r s₂=>r=.none/\Q (.ref s.heap.objs.size) s₂) E) s') E {s with heap:=h',toks:=tk}):
  wpAny (model prog w) A (call (.type "dict") [.ref z]) Q E s:=by
 refine Dk.zj ?_
 have hS:=Qrq s.heap (o:={cls:=.type "dict",data:=.dict #[]}) rfl
 have hT:Shared.TypeIs {s with heap:=s.heap.push {cls:=.type "dict",data:=.dict #[]}} (.ref s.heap.objs.size) "dict":=⟨_,hS,rfl⟩
 have hx1:=Qcq {cls:=.type "dict",data:=.dict #[]} hx
 have hL:Shared.TypeIs {s with heap:=s.heap.push {cls:=.type "dict",data:=.dict #[]}} (.ref z) "zip":=⟨_,hx1,rfl⟩
 unfold Builtin.«dict.__init__» Builtin.Dict.selfAndRest
 refine Qaq (Qaq (wpAny_notOrdered_dict hT ?_))
 refine Qaq (Qgq (Qgq ?_))
 show wpAny _ _ (Builtin.Dict.updateFrom _ _ _ _ _) _ _ _
 unfold Builtin.Dict.updateFrom
 refine Qaq (wpAny_typeOf hL (wpAny_ite_true (by decide +kernel) (Qaq (DK hx1 (by simpa using hA) fun h' tk hk=> ?_))))
 refine wpAny_ite_true rfl ?_
 refine Qaq (wpAny_rule (Qaq (QRq (h h' tk hk) (fun it s' q=> ?_) fun e s' q=>q)))
 exact Qgq ⟨plainId_quiet (by decide +kernel) _,q⟩
end Zq
namespace Zq
open PySem Dk
section
variable{prog:Program}{w:World}{K:Type}[DecidableEq K]{knd:KeyKind prog w K}{z T O i j a b S:Addr}{t t2:Bool}{xs ys:Array Value}
def Be{A:Around}{R:Result->Shared->Prop}(hA:A.in1.handled=none)(D:ZipApart z T O i j a b)(nS:S≠z/\S≠T/\S≠O/\S≠i/\S≠j/\S≠a/\S≠b)(nab:a≠T/\b≠T)(kk:Nat->K)(hkey:∀(n:Nat) v,xs[n]?=some v->knd.is (kk n) v=true)(hxy:xs.size<=ys.size)(hn:xs.size<=sizeLine):
  ∀ (m n:Nat) (c:Int) (s:Shared),xs.size-n=m->n<=xs.size->Zs s.heap z T O i j->IsPair s.heap T (.ref i) (.ref j)->It t s.heap i a n->It t2 s.heap j b n->Sq t s.heap a xs->Sq t2 s.heap b ys->Heap.DictOf knd s.heap S (IU kk (fun n=>ys.getD n .none) n)→
    (∀h' tk,Heap.DictOf knd h' S (IU kk (fun n=>ys.getD n .none) xs.size)->(∀c o,c≠z->c≠O->c≠i->c≠j->c≠S->s.heap.get? c=some o->h'.get? c=some o)->R (.ok (.ret .none)) {s with heap:=h',toks:=tk})→
    codeAny (model prog w) A (.builtin "dict.update.loop" {pos:= [.ref S,.ref z,rawInt c,.none]}) R s:=by
 obtain⟨n1,n2,n3,n4,n5,n6,n7⟩:=nS
 intro m
 induction m with
 | zero=>
   intro n c s hm hle gz gT gi gj ga gb hd h
   have e:n=xs.size:=by omega
   subst e
   refine codeAny_builtin kM ?_
   rw[Around.under_plainId hG]
   show wpAny _ _ (do let __x←pyNext (.ref z);_) _ _ _
   refine Qaq (yD D hA gz gT gi ga (by simp) fun h' r=> ?_)
   refine Qaq (Qgq (Qgq (h h' s.toks ?_ fun c o c1 c2 c3 c4 _ e=>r c o c1 c2 c3 c4 e)))
   obtain⟨o,es,ep,h1,h2⟩:=hd
   exact⟨o,es,ep,r _ _ n1 n3 n4 n5 h1,h2⟩
 | succ m ih=>
   intro n c s hm hle gz gT gi gj ga gb hd h
   have hlt:n<xs.size:=by omega
   have ex:xs[n]?=some xs[n]:=by simp[hlt]
   have ey:ys[n]?=some ys[n]:=by simp[show n<ys.size by omega]
   refine codeAny_builtin kM ?_
   rw[Around.under_plainId hG]
   show wpAny _ _ (do let __x←pyNext (.ref z);_) _ _ _
   refine Qaq (FK D gz gT gi gj ga gb ex ey fun hp gz' gi' gj' gp r=> ?_)
   have hd':Heap.DictOf knd hp S (IU kk (fun n=>ys.getD n .none) n):=by
     obtain⟨o,es,ep,h1,h2⟩:=hd
     exact⟨o,es,ep,r _ _ n1 n3 n4 n5 h1,h2⟩
   refine Qaq (QLq (Qaq (wpAny_tryCatch ?_)))
   unfold Builtin.Dict.pairItems
   refine Qaq (wpAny_typeOf (T:="tuple") ⟨_,gp,rfl⟩ (wpAny_ite_true rfl (Qaq ?_)))
   unfold seqItems?
   refine Qaq (wpAny_load' gp (Qgq (Qgq (QLq (wpAny_dictSet_pairs (hkey n _ ex) hd' (fun h' hd2 hs=> ?_) (QAq (Cj kk _ n) (by omega)))))))
   have ev:ys.getD n .none=ys[n]:=by simp[Array.getD,show n<ys.size by omega]
   have up:∀c o,c≠S->hp.get? c=some o->h'.get? c=some o:=fun c o hc e=>by rw[hs.2 c hc];exact e
   have old:∀c o,c≠z->c≠O->c≠i->c≠j->c≠S->s.heap.get? c=some o->h'.get? c=some o:=fun c o c1 c2 c3 c4 c5 e=>up c o c5 (r c o c1 c2 c3 c4 e)
   have hS':∃o,h'.get? S=some o:=by obtain⟨o,_,_,e,_⟩:=hd2;exact⟨o,e⟩
   have hd3:Heap.DictOf knd h' S (IU kk (fun n=>ys.getD n .none) (n+1)):=by
     show Heap.DictOf knd h' S (stored _ (kk n) (ys.getD n .none))
     rw[ev]
     exact hd2
   refine Qgq ⟨plainId_quiet hG _,ih (n+1) (c+1) _ (by omega) hlt (gz'.but up n1.symm n3.symm hS') ?_ (gi'.at fun o e=>up _ o n4.symm e) (gj'.at fun o e=>up _ o n5.symm e) ?_ ?_ hd3 fun h'' tk hd4 k4=>h h'' tk hd4 fun c o c1 c2 c3 c4 c5 e=>k4 c o c1 c2 c3 c4 c5 (old c o c1 c2 c3 c4 c5 e)⟩
   · exact old _ _ D.TIz D.TITO D.TIi1 D.TIi2 n2.symm gT
   · exact ga.at fun o e=>old _ o D.l1z D.l1TO D.l1i1 D.l1i2 n6.symm e
   · exact gb.at fun o e=>old _ o D.l2z D.l2TO D.l2i1 D.l2i2 n7.symm e
end
end Zq
namespace L2
open PySem PySem.Spec PyProof.Rows Zq
section
variable{X:Cx}
def rO(K:PySem.W.Frag)(t:Bool)(H:Hp)(a:Addr)(xs:List V):Prop:=if t=true then iW K H a xs else ik K H a xs
def Inv.sq{pins:List (Addr×Obj)}{σ:St}{H:Hp}{s:Shared}{t:Bool}{a:Addr}{xs:List V}(I:Inv X pins σ H s)(h:rO X.K t H a xs):∃its:List Value,bS xs its/\Sq t s.heap a its.toArray/\xs.length<=sizeLine:=by
 cases t with
 | true=>
   obtain⟨its,r,p,z⟩:=I.tuple h
   exact⟨its,r,(show s.heap.IsTuple a its.toArray from p),z⟩
 | false=>
   obtain⟨its,r,p,z⟩:=I.list h
   exact⟨its,r,(show s.heap.IsList a its.toArray from p.isList),z⟩
def Sq.lt{t:Bool}{h:Heap}{a:Addr}{xs:Array Value}(g:Sq t h a xs):a<h.objs.size:=by
 cases t with
 |true=>obtain⟨o,e,_⟩:=(show h.IsTuple a xs from g);exact Qiq e
 |false=>obtain⟨o,e,_⟩:=(show h.IsList a xs from g);exact Qiq e
def IM(K:PySem.W.Frag):List V->Hp->VK->Prop:=fun vs H Q=>∃(t t2:Bool) (a b:Addr) (ks:List Key) (ys:List V),vs= [.ref a,.ref b]/\rO K t H a (ks.map kV)/\rO K t2 H b ys/\ks.length=ys.length/\∀p,H p=none->Q (.ref p) (upd H p (.dK (jY [] (ks.zip ys))))
def AM{x y:Expr}{ta:TA}{p1 p2 c1 c2:Pos}(hc:X.calm=true)(hgD:Gl X "dict")(hmD:X.mg "dict"=none)(hg:Gl X "zip")(hm:X.mg "zip"=none)(ha:PA X [x,y] ta)(hs:starEach [x,y] X.env= [(false,eval x X.env),(false,eval y X.env)]:=by rfl)(hs2:starEach [y] X.env= [(false,eval y X.env)]:=by rfl)
  (he:starEach [Expr.Call (.Name "zip" p2) [x,y] [] c2] X.env= [(false,eval (Expr.Call (.Name "zip" p2) [x,y] [] c2) X.env)]:=by rfl):
  PE X (.Call (.Name "dict" p1) [.Call (.Name "zip" p2) [x,y] [] c2] [] c1) (L5 (IM X.K) ta):=by
 intro pins s σ H Q I h
 refine wpAny_Call_Name_kw (lC I hgD hmD (by rfl) ?_)
 refine PyProof.Rows.callWith_type1 ?_ he rfl
 rw[he]
 show wpAny _ _ (spliced ((false,eval (Expr.Call (.Name "zip" p2) [x,y] [] c2) X.env)::backTo c1 (starEach [] X.env))) _ _ s
 refine Calls.spliced_cons ?_
 refine wpAny_Call_Name_kw (lC I hg hm (by rfl) ?_)
 refine PyProof.Rows.callWith_type1 (dr (ha c2 pins s σ H _ I h) fun us s1 ⟨vs,H1,I1,r1,q1⟩=> ?_) (by rw[hs,hs2]) (by rw[hs2];rfl)
 obtain⟨t,t2,a,b,ks,ys,e,qa,qb,hl,q⟩:=q1
 subst e
 cases r1 with
 | cons r rr=>
   cases rr with
   | cons r' rr=>
     cases rr
     cases r
     cases r'
     obtain⟨its,ra,pa,za⟩:=I1.sq qa
     obtain⟨jts,rb,pb,zb⟩:=I1.sq qb
     have lx:=Sq.lt pa
     have ly:=Sq.lt pb
     have la:=ra.length
     have lb:=rb.length
     rw[lQm] at la
     refine Zq.HX pa pb fun h1 gz gT gO gi gj k1=>Calls.spliced_nil ?_
     have I2:Inv X pins σ H1 {s1 with heap:=h1}:=I1.kept (t':=s1.toks) k1
     refine Zq.uV gz (I1.ok.hd hc) fun h2 tk k2=> ?_
     have up:∀c o,h1.get? c=some o->h2.get? c=some o:=fun c o e=>k2 c o (Qcq _ e)
     have hS0:h2.get? h1.objs.size=some {cls:=.type "dict",data:=.dict #[]}:=k2 _ _ (Qrq h1 rfl)
     refine wpAny_pyIter_zip (up _ _ gz) ?_
     have DD:=PyProof.Rows.zipApart_new lx ly
     have hz1:s1.heap.objs.size+4<h1.objs.size:=Qiq gz
     have kvD:∀(n:Nat) k,ks[n]?=some k->ks.getD n (.inl 0)=k:=fun n k e=>by rw[Qlq,e];rfl
     have off:∀c,c<s1.heap.objs.size->c≠s1.heap.objs.size+4/\c≠s1.heap.objs.size+3/\c≠s1.heap.objs.size/\c≠s1.heap.objs.size+1/\c≠h1.objs.size:=fun c hc=>
       ⟨Qwq (Qqq hc (Nat.le_add_right _ _)),Qwq (Qqq hc (Nat.le_add_right _ _)),Qwq hc,Qwq (Qqq hc (Nat.le_add_right _ _)),Qwq (Nat.lt_trans (Qqq hc (Nat.le_add_right _ 4)) hz1)⟩
     refine Zq.Be (knd:=cq X.prog X.w) (t:=t) (t2:=t2) (xs:=its.toArray) (ys:=jts.toArray) (show X.A.in1.in1.handled=none from I1.ok.hd hc) DD ?_ ?_ (fun n=>ks.getD n (.inl 0)) ?_ (by simp;omega) (by simp;omega) its.toArray.size 0 0 _ rfl (Nat.zero_le _)
       (.inl ⟨up _ _ gz,_,_,up _ _ gO⟩) (up _ _ gT) (gi.at fun o e=>up _ o e) (gj.at fun o e=>up _ o e) (pa.at fun o e=>up _ o (k1 _ o e)) (pb.at fun o e=>up _ o (k1 _ o e)) ?_ ?_
     · refine⟨Nat.ne_of_gt hz1,Nat.ne_of_gt (Nat.lt_trans ?_ hz1),Nat.ne_of_gt (Nat.lt_trans ?_ hz1),Nat.ne_of_gt (Nat.lt_trans ?_ hz1),Nat.ne_of_gt (Nat.lt_trans ?_ hz1),(off _ lx).2.2.2.2.symm,(off _ ly).2.2.2.2.symm⟩ <;>(show _<s1.heap.objs.size+4) <;>omega
     · exact⟨Qwq (Qqq lx (Nat.le_add_right _ _)),Qwq (Qqq ly (Nat.le_add_right _ _))⟩
     · intro n v hv
       have hv':its[n]?=some v:=by simpa using hv
       have hn:n<ks.length:=by
         have:=(gQs.mp hv').1
         omega
       have hk:=gQe hn
       obtain⟨u,hu,ru⟩:=ra.get (i:=n) (x:=kV ks[n]) (by rw[gQm,hk];rfl)
       rw[hv'] at hu
       cases hu
       show(cq X.prog X.w).is (ks.getD n (.inl 0)) v=true
       rw[kvD n _ hk]
       exact key_is ru _ _
     · obtain⟨o,es,ep,e1,e2⟩:=Heap.DictOf.new (knd:=cq X.prog X.w) h1
       exact⟨o,es,ep,k2 _ _ e1,e2⟩
     · intro h3 tk3 dd k3
       have big:h1.objs.size≠sysModules:=by
         have:=I2.big
         exact Nat.ne_of_gt this
       have le:s1.heap.objs.size<=h1.objs.size:=nQl (Nat.lt_of_le_of_lt (Nat.le_add_right _ 4) hz1)
       refine⟨rfl,.ref h1.objs.size,_,I1.laid (a:=h1.objs.size) (o:=.dK (jY [] (ks.zip ys))) (t':=tk3) (h':=h3) (fun c o e=> ?_) le (uB ?_ (beq_eq_false_iff_ne.mpr big) ?_ dd),rfl,q _ (I1.hok.fresh le)⟩
       · obtain⟨o1,o2,o3,o4,o5⟩:=off c (Qiq e)
         exact k3 c o o1 o2 o3 o4 o5 (up c o (k1 c o e))
       · have:=jj (ks.zip ys) []
         rw[QGq,List.length_zip] at this
         omega
       · have key:∀n,n<=ks.length->KV (jY [] ((ks.zip ys).take n)) (Dk.IU (fun n=>ks.getD n (.inl 0)) (fun n=>jts.toArray.getD n .none) n):=by
           intro n
           induction n with
           |zero=>intro _;exact .nil
           | succ n ih=>
             intro hn
             have hk:=gQe (l:=ks) (i:=n) (by omega)
             have hy:=gQe (l:=ys) (i:=n) (by omega)
             obtain⟨u,hu,ru⟩:=rb.get hy
             have ez:(ks.zip ys)[n]?=some (ks[n],ys[n]):=by rw[List.getElem?_zip_eq_some];exact⟨hk,hy⟩
             have e3:(ks.zip ys).take (n+1)=(ks.zip ys).take n++ [(ks[n],ys[n])]:=by rw[QYq,ez];rfl
             have eu:jts.toArray.getD n .none=u:=by
               have:=(gQs.mp hu)
               obtain⟨h1,h2⟩:=this
               simp[Array.getD,h1,h2]
             rw[e3]
             show KV (List.foldl _ [] ((ks.zip ys).take n++ [(ks[n],ys[n])])) (stored _ (ks.getD n (.inl 0)) (jts.toArray.getD n .none))
             rw[List.foldl_append,kvD n _ hk,eu]
             exact(ih (by omega)).put ks[n] ru
         have:=key ks.length (Qmq _)
         have e4:(ks.zip ys).take ks.length=ks.zip ys:=by
           have:(ks.zip ys).length=ks.length:=by rw[List.length_zip];omega
           rw[←this,QEq]
         rw[e4] at this
         have e5:its.toArray.size=ks.length:=by simp;omega
         rw[e5]
         exact this
end
end L2
namespace Zq
open PySem
section
variable{prog:Program}{w:World}{A:Around}{E:Value->Shared->Prop}{s:Shared}{t t2:Bool}{z T O i j a b:Addr}{k:Nat}{xs ys:Array Value}{x y u v:Value}
def C6(D:ZipApart z T O i j a b){Q:Option Value->Shared->Prop}(gz:kP s.heap z T O .none (.bool false))(gT:IsPair s.heap T (.ref i) (.ref j))(gO:IsPair s.heap O u v)(gi:It t s.heap i a k)(gj:It t2 s.heap j b k)
  (ga:Sq t s.heap a xs) (gb:Sq t2 s.heap b ys) (ex:xs[k]?=some x) (ey:ys[k]?=some y)
  (q:∀h',kP h' z T O (rawInt s.heap.objs.size) (.bool false)->IsPair h' O x y->It t h' i a (k+1)->It t2 h' j b (k+1)->IsPair h' s.heap.objs.size x y->Zp.Rest z O i j s.heap h'->Q (some (.ref s.heap.objs.size)) {s with heap:=h'}):
  wpAny (model prog w) A (pyNext (.ref z)) Q E s:=by
 have ty:s.TypeIs (.ref z) "zip":=⟨_,gz,rfl⟩
 unfold pyNext
 exact Qaq (wpAny_attempt (wpAny_callSpecial?_slot (name:=Str.ofString "__next__") ty F.slot_zip_next (wpAny_call_entry F.slot_zip_next ty F.entry_zip_next
  (item D gz gT gO gi gj ga gb ex ey fun h' a1 a2 a3 a4 a5 a6=>Qgq (q h' a1 a2 a3 a4 a5 a6)) (F.args_zip_next_1 _))))
end
end Zq
namespace L2
open PySem PySem.Spec PyProof.Rows Zq
def Inv.sq_inj{X:Cx}{pins:List (Addr×Obj)}{σ:St}{H:Hp}{s:Shared}{t:Bool}{a:Addr}{xs ys:List V}(I:Inv X pins σ H s)(h:rO X.K t H a xs)(h':rO X.K t H a ys):xs=ys:=by
 cases t with
 |true=>exact I.tuple_inj h h'
 |false=>exact I.list_inj h h'
def MT(K:PySem.W.Frag)(t t2:Bool)(a b:Addr):It:=
  ⟨fun i H=>∃xs ys x y,rO K t H a xs/\rO K t2 H b ys/\xs[i]?=some x/\ys[i]?=some y,
   fun i H v H'=>∃p,v=.ref p/\H p=none/\∀xs ys x y,rO K t H a xs->rO K t2 H b ys->xs[i]?=some x->ys[i]?=some y->H'=upd H p (.tup [x,y]),
   fun i H=>∃xs,rO K t H a xs/\xs.length<=i⟩
def CZ{P:Program}{w:World}{K:PySem.W.Frag}{elts:List Expr}{x1:Nat}{tp:Pos}{t t2:Bool}{z T O i j a b:Addr}(D:ZipApart z T O i j a b):
  Turn P w K (.Tuple elts x1 tp) (MT K t t2 a b) [z,T,O,i,j] z (fun n h=>kP h z T O .none (.bool false)/\IsPair h T (.ref i) (.ref j)/\(∃u v,IsPair h O u v)/\Zq.It t h i a n/\Zq.It t2 h j b n) where
 mem:=by simp
 obj:=fun n h ⟨gz,gT,⟨u,v,gO⟩,gi,gj⟩ c hc=>by
  simp at hc
  rcases hc with rfl|rfl|rfl|rfl|rfl
  ·exact⟨_,gz,fun v n=>by cases n⟩
  ·exact⟨_,gT,fun v n=>by cases n⟩
  ·exact⟨_,gO,fun v n=>by cases n⟩
  ·exact gi.obj
  ·exact gj.obj
 keep:=fun n h h' ⟨gz,gT,⟨u,v,gO⟩,gi,gj⟩ k=>⟨k z (by simp) _ gz,k T (by simp) _ gT,⟨u,v,k O (by simp) _ gO⟩,gi.at fun o e=>k i (by simp) o e,gj.at fun o e=>k j (by simp) o e⟩
 item:=by
  rintro X hP hw hK hc n pins s σ H E I hf ⟨gz,gT,⟨u,v,gO⟩,gi,gj⟩ hg
  subst hP hw hK
  obtain⟨xs,ys,x,y,qa,qb,hx,hy⟩:=hg
  obtain⟨its,ra,pa,_⟩:=I.sq qa
  obtain⟨jts,rb,pb,_⟩:=I.sq qb
  obtain⟨ux,ex,rx⟩:=ra.get hx
  obtain⟨uy,ey,ry⟩:=rb.get hy
  have lt:∀{c o},s.heap.get? c=some o->c≠s.heap.objs.size:=fun e=>Qwq (Qiq e)
  have nfp:∀c∈[z,T,O,i,j],c≠s.heap.objs.size:=fun c hc=>by
   obtain⟨oi,e1,_⟩:=gi.obj
   obtain⟨oj,e2,_⟩:=gj.obj
   simp at hc
   rcases hc with rfl|rfl|rfl|rfl|rfl
   ·exact lt gz
   ·exact lt gT
   ·exact lt gO
   ·exact lt e1
   ·exact lt e2
  refine Zq.C6 D gz gT gO gi gj pa pb (x:=ux) (y:=uy) (by simpa using ex) (by simpa using ey) fun h1 z1 O1 i1 j1 n1 r1=>⟨_,rfl,?_⟩
  have T1:=r1 _ _ D.TIz D.TITO D.TIi1 D.TIi2 gT
  refine wpAny_letOwnedTupleGo_zip z1 fun h2 z2 b2=> ?_
  have I2:Inv X pins σ (upd H s.heap.objs.size (.tup [x,y])) {s with heap:=h2}:=I.turnedNew (t':=s.toks) (fp:= [z,T,O,i,j]) hf (fun c o hc e=> ?_) (Qmq _) ?_
  ·refine⟨.ref s.heap.objs.size,_,I2,rfl,⟨s.heap.objs.size,rfl,I.hok.fresh (Qmq _),fun xs' ys' x' y' q1 q2 q3 q4=> ?_⟩,⟨z2,b2.extBut _ _ D.TIz T1,⟨_,_,b2.extBut _ _ D.TOz O1⟩,i1.ext b2.extBut D.i1z,j1.ext b2.extBut D.i2z⟩,fun c hc=> ?_⟩
   ·rw[I.sq_inj q1 qa] at q3
    rw[I.sq_inj q2 qb] at q4
    rw[hx] at q3
    rw[hy] at q4
    cases q3
    cases q4
    rfl
   ·rw[bC (nfp c hc)]
    exact(hf c hc).1
  ·simp at hc
   exact b2.extBut _ _ hc.1 (r1 c o hc.1 hc.2.2.1 hc.2.2.2.1 hc.2.2.2.2 e)
  ·exact⟨by show 2<=_;decide,[ux,uy],.cons rx (.cons ry .nil),_,b2.extBut _ _ (fun e=>nfp z (by simp) e.symm) n1,rfl,rfl,0,rfl⟩
 done:=by
  rintro X hP hw hK hc n pins s σ H E I hf ⟨gz,gT,⟨u,v,gO⟩,gi,gj⟩ hg
  subst hP hw hK
  obtain⟨xs,qa,hx⟩:=hg
  obtain⟨its,ra,pa,_⟩:=I.sq qa
  have hl:=ra.length
  refine Zq.yD D (I.ok.hd hc) (.inl ⟨gz,u,v,gO⟩) gT gi pa (by simp;omega) fun h1 r1=>⟨rfl,I.turnedL (t':=s.toks) (fp:= [z,T,O,i,j]) hf fun c o hc e=> ?_⟩
  simp at hc
  exact r1 c o hc.1 hc.2.2.1 hc.2.2.2.1 hc.2.2.2.2 e
 self:=fun _ _ _ _ _ ⟨gz,_⟩ h=>wpAny_pyIter_zip gz h
section
variable{X:Cx}
def Nc(K:PySem.W.Frag)(ta:TA):TI:=fun σ H R=>ta σ H fun vs H1=>∃(t t2:Bool) (a b:Addr) (xs ys:List V),vs= [.ref a,.ref b]/\rO K t H1 a xs/\rO K t2 H1 b ys/\R (MT K t t2 a b) H1
def GN{elts:List Expr}{x1:Nat}{tp:Pos}{a b:Expr}{ta:TA}{p pos:Pos}(hg:Gl X "zip")(hm:X.mg "zip"=none)(ha:PA X [a,b] ta)(hs:starEach [a,b] X.env= [(false,eval a X.env),(false,eval b X.env)]:=by rfl)(hs2:starEach [b] X.env= [(false,eval b X.env)]:=by rfl):
  PI X (.Tuple elts x1 tp) (.Call (.Name "zip" p) [a,b] [] pos) (Nc X.K ta):=by
 intro pins s σ H R I h
 refine Call_ (lC I hg hm (by rfl) (PyProof.Rows.callWith_type1 (dr (ha pos pins s σ H _ I h) fun us s1 ⟨vs,H1,I1,r1,q1⟩=> ?_) (by rw[hs,hs2]) (by rw[hs2];rfl)))
 obtain⟨t,t2,x,y,xs,ys,e,qa,qb,q⟩:=q1
 subst e
 cases r1 with
 | cons r rr=>
   cases rr with
   | cons r' rr=>
     cases rr
     cases r
     cases r'
     obtain⟨its,ra,pa,_⟩:=I1.sq qa
     obtain⟨jts,rb,pb,_⟩:=I1.sq qb
     have lx:=Sq.lt pa
     have ly:=Sq.lt pb
     refine Zq.HX pa pb fun h' gz gT gO gi gj k=> ?_
     refine wpAny_pyIter_zip gz ⟨_,_,_,_,H1,rfl,I1.kept (t':=s1.toks) k,CZ (PyProof.Rows.zipApart_new lx ly),⟨gz,gT,⟨_,_,gO⟩,gi,gj⟩,fun c hc=> ?_,q⟩
     have hb:s1.heap.objs.size<=c:=by
       simp only[Qsq,QXq,or_false] at hc
       rcases hc with e|e|e|e|e <;>(rw[e];first|exact Qmq _|exact Nat.le_add_right _ _)
     exact I1.fpOk hb (I1.hok.fresh hb)
end
end L2
namespace DL
open PySem PySem.Spec PyProof.Rows L2
def Ac.sqB{M:Md}{ρ:List Addr}{H:Hp}{a:Addr}{vs:List V}{t:Tag}(h:Ac M ρ H a vs t):L2.rO M.K (!t.isL) H a vs:=by
 cases c:t.isL with
 |true=>exact h.sqL c
 |false=>exact h.sqT c
def we(xs ys:List D):List D:=List.zipWith (fun x y=>D.tup [x,y]) xs ys
open Classical in
def Bi(f g:eJ):ye:=fun Γ S=>(f Γ S).bind fun(p,S1)=>(g Γ S1).bind fun(r,S2)=>if p.2.stays S2 p.1/\p.1.length<=r.1.length then some ((we p.1 r.1,fun S=>p.2.stays S p.1/\r.2.stays S r.1),S2) else none
section
variable{X:Cx}{a b c e:Expr}{pos:Pos}{st:Stmt}
def D1{elts:List Expr}{x1:Nat}{tp p:Pos}{f g:eJ}(hg:Gl X "zip")(hm:X.mg "zip"=none)(ha:PE X a (tQ (md X) f))(hb:PE X b (tQ (md X) g))(hs:starEach [a,b] X.env= [(false,eval a X.env),(false,eval b X.env)]:=by rfl)(hs2:starEach [b] X.env= [(false,eval b X.env)]:=by rfl):
  PI X (.Tuple elts x1 tp) (.Call (.Name "zip" p) [a,b] [] pos) (tI (md X) (Bi f g)):=L7 (GN hg hm (dC ha (dC hb gK hs2) (by rw[hs,hs2])) hs hs2) fun σ H R ⟨ρ,Γ,S,ds,W,S',ok,e,q⟩=>by
 obtain⟨⟨⟨ds1,t1⟩,S1⟩,e1,e⟩:=ar e
 obtain⟨⟨⟨ds2,t2⟩,S2⟩,e2,e⟩:=ar e
 dsimp only at e
 split at e
 ·rename_i c
  obtain⟨e3,rfl⟩:=cR e
  obtain⟨rfl,rfl⟩:=Prod.mk.inj e3
  refine⟨ρ,Γ,S,ds1,t1,S1,ok,e1,fun ρ1 a1 vs1 H1 x1 st1 h1 r1=>⟨ρ1,Γ,S1,ds2,t2,S2,ok.to x1 st1,e2,fun ρ2 b1 ws H2 x2 st2 h2 r2=> ?_⟩⟩
  obtain⟨vs',h3,r3⟩:=h1.to r1 x2 st2 c.1
  refine⟨_,_,a1,b1,vs',ws,rfl,h3.sqB,h2.sqB,q _ _ _ (x1.trans x2) st2 fun i ρ3 S3 H3 x3 st3 w=> ?_⟩
  obtain⟨us,g1,g2⟩:=h3.to r3 x3 st3 w.1
  obtain⟨zs,g3,g4⟩:=h2.to r2 x3 st3 w.2
  refine⟨fun d hd=> ?_,fun hi=>⟨us,g1.sqB,?_⟩⟩
  ·unfold we at hd
   rw[List.getElem?_zipWith] at hd
   cases hx:ds1[i]? with
   |none=>rw[hx] at hd;cases hd
   | some x=>
     cases hy:ds2[i]? with
     |none=>rw[hx,hy] at hd;cases hd
     | some y=>
       rw[hx,hy] at hd
       cases hd
       obtain⟨u,hu,ru⟩:=g2.get hx
       obtain⟨z,hz,rz⟩:=g4.get hy
       refine⟨⟨us,zs,u,z,g1.sqB,g3.sqB,hu,hz⟩,fun v H4 hv=> ?_⟩
       obtain⟨p,rfl,hp,hq⟩:=hv
       have:=hq us zs u z g1.sqB g3.sqB hu hz
       subst this
       exact⟨cH.laid hp,st3.lay hp,.tup b_ ((bq.cons ru (.cons rz .nil)).ext (cH.laid hp))⟩
  ·rw[hi]
   unfold we
   rw[List.length_zipWith,g2.length.symm]
   have:=c.2
   omega
 ·cases e
end
def uZ:D->Option Key
 |.int i=>some (.inl i)
 |.str x=>some (.inr x)
 |_=>none
def sh{M:Md}{ρ:List Addr}{H:Hp}{d:D}{v:V}{k:Key}(r:Rel M ρ H d v)(e:uZ d=some k):v=kV k:=by
 cases r <;>simp[uZ] at e <;>subst e <;>rfl
def yT:List D->Option (List Key)
 | []=>some []
 |d::r=>(uZ d).bind fun k=>(yT r).bind fun ks=>some (k::ks)
theorem y7{M:Md}{ρ:List Addr}{H:Hp}:∀{ds:List D} {vs:List V} {ks:List Key},bq M ρ H ds vs->yT ds=some ks->vs=ks.map kV
 |_,_,_,.nil,e=>by cases e;rfl
 | _,_,_,.cons h hs,e=>by
   obtain⟨k,e1,e⟩:=ar e
   obtain⟨ks,e2,e⟩:=ar e
   cases e
   rw[sh h e1,y7 hs e2]
   rfl
def sx(kvs:List (Key×D))(k:Key):Option D:=(kvs.find? fun kv=>decide (kv.1=k)).map (·.2)
def putD(kvs:List (Key×D))(k:Key)(v:D):List (Key×D):=
 if (kvs.any fun kv=>decide (kv.1=k))=true then kvs.map (fun kv=>if kv.1=k then(kv.1,v) else kv) else kvs++ [(k,v)]
def dB(kvs more:List (Key×D)):List (Key×D):=more.foldl (fun acc kv=>putD acc kv.1 kv.2) kvs
section
variable{M:Md}{ρ:List Addr}{H:Hp}
theorem cJ.append:∀{l m:List (Key×D)} {kv kw:List (Key×V)},cJ M ρ H l kv->cJ M ρ H m kw->cJ M ρ H (l++m) (kv++kw)
 | [],_,_,_,h,h'=>by cases h;exact h'
 |(_,_)::_,_,_,_,⟨v,t,e,h,hs⟩,h'=>by subst e;exact⟨v,_,rfl,h,cJ.append hs h'⟩
theorem cJ.any:∀{l:List (Key×D)} {kv:List (Key×V)} (k:Key),cJ M ρ H l kv->(l.any fun p=>decide (p.1=k))=kv.any fun p=>decide (p.1=k)
 | [],_,_,h=>by cases h;rfl
 |(_,_)::_,_,k,⟨v,t,e,h,hs⟩=>by subst e;simp only[List.any_cons,cJ.any k hs]
theorem cJ.mapP{d:D}{v:V}{k:Key}(r:Rel M ρ H d v):∀{l:List (Key×D)} {kv:List (Key×V)},cJ M ρ H l kv->cJ M ρ H (l.map fun p=>if p.1=k then(p.1,d) else p) (kv.map fun p=>if p.1=k then(p.1,v) else p)
 | [],_,h=>by cases h;rfl
 | (k',_)::_,_,⟨u,t,e,h,hs⟩=>by
   subst e
   simp only[QDq]
   by_cases c:k'=k
   · simp only[c,if_true];exact⟨v,_,rfl,r,cJ.mapP r hs⟩
   · simp only[c,if_false];exact⟨u,_,rfl,h,cJ.mapP r hs⟩
def cJ.put{l:List (Key×D)}{kv:List (Key×V)}{k:Key}{d:D}{v:V}(h:cJ M ρ H l kv)(r:Rel M ρ H d v):cJ M ρ H (putD l k d) (putK kv k v):=by
 unfold putD putK
 rw[h.any k]
 split
 ·exact h.mapP r
 ·exact h.append ⟨v,[],rfl,r,rfl⟩
theorem cJ.merge:∀{m:List (Key×D)} {kw:List (Key×V)} {l:List (Key×D)} {kv:List (Key×V)},cJ M ρ H m kw->cJ M ρ H l kv->cJ M ρ H (dB l m) (jY kv kw)
 | [],_,_,_,h,h'=>by cases h;exact h'
 | (k,d)::m,_,_,_,⟨v,t,e,h,hs⟩,h'=>by
   subst e
   unfold dB jY
   rw[List.foldl_cons,List.foldl_cons]
   exact cJ.merge (m:=m) (kw:=t) hs (h'.put h)
theorem cJ.zip:∀{ks:List Key} {ds:List D} {vs:List V},bq M ρ H ds vs->cJ M ρ H (ks.zip ds) (ks.zip vs)
 | [],_,_,_=>rfl
 |_::_,_,_,.nil=>rfl
 |k::ks,_,_,.cons h hs=>⟨_,_,rfl,h,cJ.zip hs⟩
theorem cJ.val:∀{l:List (Key×D)} {kv:List (Key×V)} {k:Key} {d:D},cJ M ρ H l kv->sx l k=some d->∃v,pB kv k=some v/\Rel M ρ H d v
 | [],_,_,_,_,e=>by cases e
 | (k',d')::_,_,k,d,⟨v,t,e,h,hs⟩,e'=>by
   subst e
   unfold sx at e'
   unfold pB
   rw[List.find?_cons] at e'⊢
   by_cases c:k'=k
   · simp only[c,decide_true] at e'⊢
     cases e'
     exact⟨v,rfl,h⟩
   · simp only[c,decide_false] at e'⊢
     exact cJ.val hs e'
def cJ.ext'{ρ':List Addr}{H':Hp}{l:List (Key×D)}{kv:List (Key×V)}(h:cJ M ρ H l kv)(e:cH ρ H ρ' H'):cJ M ρ' H' l kv:=h.imp fun _ _ r=>r.ext e
def cJ.pre'{ρ':List Addr}{l:List (Key×D)}{kv:List (Key×V)}(h:cJ M ρ H l kv)(e:ρ <+: ρ'):cJ M ρ' H l kv:=h.imp fun _ _ r=>r.pre e
end
section
variable{X:Cx}{a b c e:Expr}{pos:Pos}{st:Stmt}
def Ld{M:Md}{ρ ρ':List Addr}{H H':Hp}{S':aK}{l:List (Key×D)}{kv:List (Key×V)}{p:Addr}{Q:VK}(x:cH ρ H ρ' H')(st:gG M ρ' S' H')(hp:H' p=none)(r:cJ M ρ' H' l kv)
  (q:∀ρ'' v H'',cH ρ H ρ'' H''->gG M ρ'' (S'++ [.dct l]) H''->Rel M ρ'' H'' (.ref S'.length) v->Q v H''):Q (.ref p) (upd H' p (.dK kv)):=by
 have np:p∉ρ':=dP x st hp
 have x1:cH ρ' H' ρ' (upd H' p (.dK kv)):=cH.laid hp
 have st2:=(st.lay (u:=.dK kv) hp).box (o:=.dct l) np ⟨kv,b_,(r.ext' x1).pre' (List.prefix_append _ _)⟩
 refine q (ρ'++ [p]) (.ref p) _ ⟨x.pre.trans (List.prefix_append _ _),fun c hc=> ?_,(x.trans x1).keep,(x.trans x1).grow⟩ st2 (.ref ?_)
 ·rcases mQa.mp hc with hc|hc
  ·exact x.new c hc
  ·rw[Qfq] at hc;subst hc;exact .inr (x.grow _ hp)
 ·rw[←st.len,QQq (Qmq _)]
  simp
open Classical in
def Km(f g:eJ):bN:=fun Γ S=>(f Γ S).bind fun(p,S1)=>(g Γ S1).bind fun(r,S2)=>if p.2.stays S2 p.1/\p.1.length=r.1.length then(yT p.1).bind fun ks=>some (.ref S2.length,S2++ [.dct (dB [] (ks.zip r.1))]) else none
def pO{p1 p2 c1 c2:Pos}{f g:eJ}(hc:X.calm=true)(hgD:Gl X "dict")(hmD:X.mg "dict"=none)(hg:Gl X "zip")(hm:X.mg "zip"=none)(ha:PE X a (tQ (md X) f))(hb:PE X b (tQ (md X) g))(hs:starEach [a,b] X.env= [(false,eval a X.env),(false,eval b X.env)]:=by rfl)(hs2:starEach [b] X.env= [(false,eval b X.env)]:=by rfl)
  (he:starEach [Expr.Call (.Name "zip" p2) [a,b] [] c2] X.env= [(false,eval (Expr.Call (.Name "zip" p2) [a,b] [] c2) X.env)]:=by rfl):
  PE X (.Call (.Name "dict" p1) [.Call (.Name "zip" p2) [a,b] [] c2] [] c1) (tD (md X) (Km f g)):=kR (AM hc hgD hmD hg hm (dC ha (dC hb gK hs2) (by rw[hs,hs2])) hs hs2 he) fun σ H Q ⟨ρ,Γ,S,d,S',ok,e,q⟩=>by
 obtain⟨⟨⟨ds1,t1⟩,S1⟩,e1,e⟩:=ar e
 obtain⟨⟨⟨ds2,t2⟩,S2⟩,e2,e⟩:=ar e
 dsimp only at e
 split at e
 ·rename_i c
  obtain⟨ks,e3,e⟩:=ar e
  obtain⟨rfl,rfl⟩:=cR e
  refine⟨ρ,Γ,S,ds1,t1,S1,ok,e1,fun ρ1 a1 vs1 H1 x1 st1 h1 r1=>⟨ρ1,Γ,S1,ds2,t2,S2,ok.to x1 st1,e2,fun ρ2 b1 ws H2 x2 st2 h2 r2=> ?_⟩⟩
  obtain⟨vs',h3,r3⟩:=h1.to r1 x2 st2 c.1
  have ek:=y7 r3 e3
  subst ek
  have hl:=r3.length
  rw[lQm] at hl
  refine⟨_,_,a1,b1,ks,ws,rfl,h3.sqB,h2.sqB,by rw[←hl,←r2.length];exact c.2,fun p hp=> ?_⟩
  exact Ld (x1.trans x2) st2 hp (cJ.merge (l:= []) (cJ.zip r2) rfl) q
 ·cases e
def Mu:bN:=fun _ S=>some (.ref S.length,S++ [.dct []])
def Ke:PE X (.Dict [] [] pos) (tD (md X) Mu):=kR Ey fun σ H Q qq=>by
 obtain⟨ρ,Γ,S,d,S',ok,e,q⟩:=qq
 obtain⟨rfl,rfl⟩:=cR e
 exact fun p hp=>Ld cH.refl ok.st hp (l:= []) (kv:= []) rfl q
def K3(f g:bN):bN:=fun Γ S=>(f Γ S).bind fun(x,S1)=>(g Γ S1).bind fun(y,S2)=>match x with
 | .ref k=>match S2[k]? with
   |some (.dct l)=>(uZ y).bind fun ky=>(sx l ky).bind fun d=>some (d,S2)
   |_=>none
 |_=>none
def FO{f g:bN}(hu:X.A.units+1<cLine)(ha:PE X a (tD (md X) f))(hb:PE X b (tD (md X) g))(hs:Gk b):PE X (.Subscript a b pos) (tD (md X) (K3 f g)):=kR (Hr hu ha hb hs) fun σ H Q qq=>by
 obtain⟨ρ,Γ,S,d,S',ok,e,q⟩:=qq
 obtain⟨⟨x,S1⟩,e1,e⟩:=ar e
 obtain⟨⟨y,S2⟩,e2,e⟩:=ar e
 cases x with
 | ref k=>
   dsimp only at e
   split at e
   · rename_i l hs
     obtain⟨ky,e3,e⟩:=ar e
     obtain⟨d',e4,e⟩:=ar e
     obtain⟨rfl,rfl⟩:=cR e
     refine⟨ρ,Γ,S,_,S1,ok,e1,fun ρ1 v1 H1 x1 st1 r1=>⟨ρ1,Γ,S1,y,S2,ok.to x1 st1,e2,fun ρ2 v2 H2 x2 st2 r2=> ?_⟩⟩
     cases sh r2 e3
     have r1:=r1.ext x2
     cases r1 with
     | ref ha=>
       obtain⟨kv,h1,h2⟩:=st2.obj k _ _ ha hs
       obtain⟨v,h3,h4⟩:=h2.val e4
       exact⟨_,v,rfl,by rw[←h3];exact Dy.k h1,q _ _ _ (x1.trans x2) st2 h4⟩
   · cases e
 |_=>cases e
def L3(f g h:bN):dt:=fun Γ S=>(h Γ S).bind fun(d,S1)=>(f Γ S1).bind fun(x,S2)=>(g Γ S2).bind fun(y,S3)=>match x with
 | .ref k=>match S3[k]? with
   |some (.dct l)=>(uZ y).bind fun ky=>if l.length<sizeLine then some (.nx Γ (S3.set k (.dct (putD l ky d)))) else none
   |_=>none
 |_=>none
mutual
theorem Rel.offK{M:Md}{ρ:List Addr}{H:Hp}{b:Addr}{us:List (Key×V)}{o:HO}(hb:H b=some (.dK us)):∀{d:D} {v:V},Rel M ρ H d v->Rel M ρ (upd H b o) d v
 |_,_,.non=>.non
 |_,_,.bl x=>.bl x
 |_,_,.int i=>.int i
 |_,_,.str x=>.str x
 |_,_,.tup h hs=>.tup (by rw[bC (ER h hb (by intro z;cases z))];exact h) (bq.offK hb hs)
 |_,_,.ref h=>.ref h
 |_,_,.fn h=>.fn h
theorem bq.offK{M:Md}{ρ:List Addr}{H:Hp}{b:Addr}{us:List (Key×V)}{o:HO}(hb:H b=some (.dK us)):∀{ds:List D} {vs:List V},bq M ρ H ds vs->bq M ρ (upd H b o) ds vs
 |_,_,.nil=>.nil
 |_,_,.cons h hs=>.cons (Rel.offK hb h) (bq.offK hb hs)
end
def gG.putKd{M:Md}{ρ:List Addr}{S:aK}{H:Hp}{k:Nat}{a:Addr}{l l':List (Key×D)}{kw:List (Key×V)}(st:gG M ρ S H)(hk:ρ[k]?=some a)(hS:S[k]?=some (.dct l))(r:cJ M ρ H l' kw):gG M ρ (S.set k (.dct l')) (upd H a (.dK kw))/\cH ρ H ρ (upd H a (.dK kw)):=by
 obtain⟨vs,h1,h2⟩:=st.obj k a _ hk hS
 exact st.put hk hS ⟨kw,b_,r.imp fun _ _ q=>q.offK h1⟩ fun x hx=>by rw[h1] at hx;cases hx;exact id
def JO{f g h:bN}{pos':Pos}{v:Expr}(hu:X.A.units+1<cLine)(ha:PE X a (tD (md X) f))(hb:PE X b (tD (md X) g))(hv:PE X v (tD (md X) h))(hs:swapsWith v (some (.Subscript a b pos')) pos.line X.env=pure false:=by rfl):PS X (.Assign [.Subscript a b pos'] v pos) (tS (md X) (L3 f g h)):=
 B7 (Gh hu ha hb hv hs) fun D σ H qq=>by
  obtain⟨ρ,Γ,S,o,ok,e,q⟩:=qq
  obtain⟨⟨d,S1⟩,e1,e⟩:=ar e
  obtain⟨⟨x,S2⟩,e2,e⟩:=ar e
  obtain⟨⟨y,S3⟩,e3,e⟩:=ar e
  cases x with
  | ref k=>
    dsimp only at e
    split at e
    · rename_i l hs
      obtain⟨ky,e4,e⟩:=ar e
      split at e
      · rename_i hl
        cases e
        refine⟨ρ,Γ,S,d,S1,ok,e1,fun ρ1 v1 H1 x1 st1 r1=>⟨ρ1,Γ,S1,_,S2,ok.to x1 st1,e2,fun ρ2 v2 H2 x2 st2 r2=>⟨ρ2,Γ,S2,y,S3,(ok.to x1 st1).to x2 st2,e3,fun ρ3 v3 H3 x3 st3 r3=> ?_⟩⟩⟩
        cases sh r3 e4
        have r2:=r2.ext x3
        have r1:=r1.ext (x2.trans x3)
        have x13:=(x1.trans x2).trans x3
        cases r2 with
        | ref ha=>
          obtain⟨kv,h1,h2⟩:=st3.obj k _ _ ha hs
          obtain⟨st4,x4⟩:=st3.putKd ha hs (h2.put (k:=ky) r1)
          exact⟨_,_,rfl,Et.k h1 (by rw[←h2.length];exact hl),q _ _ _ (x13.trans x4) ((ok.to x13 st3).to x4 st4)⟩
      · cases e
    · cases e
  |_=>cases e
open Classical in
def I0(f:eJ)(g:bN):bN:=fun Γ S=>(f Γ S).bind fun(p,S1)=>if p.2.isL=true then(g Γ S1).bind fun(y,S2)=>if p.2.stays S2 p.1 then(wz y).bind fun v=>(oX p.1).bind fun vs=>(og v vs).bind fun j=>some (.int (j:Nat),S2) else none else none
def HI{f:eJ}{g:bN}{o:Expr}{apos cpos:Pos}(ho:PE X o (tQ (md X) f))(ha:PE X e (tD (md X) g))(hbase:attributeBase o "index" X.env (eval o X.env)=eval o X.env:=by rfl) (hfew:((backTo cpos (starEach [e] X.env)).all (fun x=> !x.1)&&(backToKw cpos (keywordEach [] X.env)).all (fun x=>x.1.isSome)
   &&decide ([e].length+([]:List Keyword).length+(if ([]:List Keyword).isEmpty then 0 else 1)<30))=true:=by rfl)
  (hline:(apos.endLine==cpos.line)=true:=by rfl) (hs:starEach [e] X.env= [(false,eval e X.env)]:=by rfl):PE X (.Call (.Attribute o "index" apos) [e] [] cpos) (tD (md X) (I0 f g)):=
 kR (v9 PySem.F.plainAttrs_list PySem.F.slot_list_index PySem.F.type_list_index Fz ho (ak ha av hs) hbase hfew hline hs) fun σ H Q qq=>by
  obtain⟨ρ,Γ,S,d,S',ok,e,q⟩:=qq
  obtain⟨⟨⟨ds,t⟩,S1⟩,e1,e⟩:=ar e
  dsimp only at e
  split at e
  ·rename_i cL
   obtain⟨⟨y,S2⟩,e2,e⟩:=ar e
   dsimp only at e
   split at e
   ·rename_i cS
    obtain⟨v,e3,e⟩:=ar e
    obtain⟨vs,e4,e⟩:=ar e
    obtain⟨j,e5,e⟩:=ar e
    obtain⟨rfl,rfl⟩:=cR e
    refine⟨ρ,Γ,S,ds,t,S1,ok,e1,fun ρ1 a us H1 x1 st1 h1 r1=>⟨.inl ⟨rfl,us,h1.sqL cL⟩,ρ1,Γ,S1,[y],S2,ok.to x1 st1,by simp only[ao,aw,e2,Qbq],fun ρ2 ws H2 x2 st2 r2=> ?_⟩⟩
    obtain⟨us',h3,r3⟩:=h1.to r1 x2 st2 cS
    cases r2 with
    | cons r2 rr=>
      cases rr
      cases mY r2 e3
      obtain⟨rfl,f1⟩:=tR r3 e4
      exact⟨a,us',_,j,rfl,rfl,h3.sqL cL,sE e3,f1,e5,q _ _ _ (x1.trans x2) st2 (.int _)⟩
   ·cases e
  ·cases e
end
section
variable{X:Cx}{a b c e:Expr}{pos:Pos}{st:Stmt}
def Mm:V->List V->Hp->VK->Prop:=fun x vs H Q=>∃a b kvs more,x=.ref a/\vs= [.ref b]/\a≠b/\H a=some (.dK kvs)/\H b=some (.dK more)/\kvs.length+more.length<=sizeLine/\Q .non (upd H a (.dK (jY kvs more)))
def CY:Mr X "dict.update" Mm:=by
 intro pins s σ H x vs v us Q I rx rv h
 obtain⟨a,b,kvs,more,rfl,rfl,ab,ha,hb,hz,q⟩:=h
 cases rx
 obtain⟨u,rfl,ru⟩:=rv.one
 cases ru
 obtain⟨z,hd,ks,rel,dd⟩:=yG I.hok ha
 obtain⟨z2,hd2,ms,rel2,dd2⟩:=yG I.hok hb
 refine call_meetsIn PySem.F.slot_dict_update dd.typeIs PySem.F.entry_dict_update (PySem.F.args_dict_update_2 _ _) (meets_dict_update (cq X.prog X.w) a b ab hd2) ⟨ks,ms,dd,dd2,by rw[←rel.length,←rel2.length];exact hz,fun h' dd' _ hs=> ?_⟩
 have he:∃q,h'.get? a=some q:=let ⟨q,_,_,hq,_⟩:=dd';⟨q,hq⟩
 have hl:=jj more kvs
 exact⟨.non,_,rX I (by rw[ha];exact True.intro) hs he (uB (by omega) hd (KV.merge rel2 rel) dd'),rfl,q⟩
def Ho(f g:bN):bN:=fun Γ S=>(f Γ S).bind fun(x,S1)=>(g Γ S1).bind fun(y,S2)=>match x,y with
 | .ref k,.ref j=>if k≠j then match S1[k]?,S2[k]?,S2[j]? with
   |some (.dct _),some (.dct l),some (.dct m)=>if l.length+m.length<=sizeLine then some (.non,S2.set k (.dct (dB l m))) else none
   |_,_,_=>none
   else none
 |_,_=>none
def EL{f g:bN}{o:Expr}{apos cpos:Pos}(ho:PE X o (tD (md X) f))(ha:PE X e (tD (md X) g))(hbase:attributeBase o "update" X.env (eval o X.env)=eval o X.env:=by rfl) (hfew:((backTo cpos (starEach [e] X.env)).all (fun x=> !x.1)&&(backToKw cpos (keywordEach [] X.env)).all (fun x=>x.1.isSome)
   &&decide ([e].length+([]:List Keyword).length+(if ([]:List Keyword).isEmpty then 0 else 1)<30))=true:=by rfl)
  (hline:(apos.endLine==cpos.line)=true:=by rfl) (hs:starEach [e] X.env= [(false,eval e X.env)]:=by rfl):PE X (.Call (.Attribute o "update" apos) [e] [] cpos) (tD (md X) (Ho f g)):=
 kR (v9 PySem.F.plainAttrs_dict PySem.F.slot_dict_update PySem.F.type_dict_update CY ho (ak ha av hs) hbase hfew hline hs) fun σ H Q qq=>by
  obtain⟨ρ,Γ,S,d,S',ok,e,q⟩:=qq
  obtain⟨⟨x,S1⟩,e1,e⟩:=ar e
  obtain⟨⟨y,S2⟩,e2,e⟩:=ar e
  cases x with
  | ref k=>
    cases y with
    | ref j=>
      dsimp only at e
      split at e
      · rename_i ne
        cases h1:S1[k]? with
        |none=>rw[h1] at e;cases e
        | some o1=>
          rw[h1] at e
          cases o1 with
          | dct l0=>
            cases h2:S2[k]? with
            |none=>rw[h2] at e;cases e
            | some o2=>
              rw[h2] at e
              cases o2 with
              | dct l=>
                cases h3:S2[j]? with
                |none=>rw[h3] at e;cases e
                | some o3=>
                  rw[h3] at e
                  cases o3 with
                  | dct m=>
                    dsimp only at e
                    split at e
                    · rename_i hl
                      obtain⟨rfl,rfl⟩:=cR e
                      refine⟨ρ,Γ,S,_,S1,ok,e1,fun ρ1 v H1 x1 st1 r1=> ?_⟩
                      cases r1 with
                      | ref ha=>
                        rename_i a
                        obtain⟨kv0,g0,_⟩:=st1.obj k a _ ha h1
                        refine⟨.inr (.inr (.inl ⟨rfl,.inl ⟨kv0,g0⟩⟩)),ρ1,Γ,S1,[.ref j],S2,ok.to x1 st1,by simp only[ao,aw,e2,Qbq],fun ρ2 ws H2 x2 st2 r2=> ?_⟩
                        cases r2 with
                        | cons r2 rr=>
                          cases rr
                          cases r2 with
                          | ref hb=>
                            rename_i b
                            have ha2:=dz x2.pre ha
                            obtain⟨kv,g1,g2⟩:=st2.obj k a _ ha2 h2
                            obtain⟨kw,g3,g4⟩:=st2.obj j b _ hb h3
                            have ab:a≠b:=fun z=>by subst z;exact ne (kY st2.nd ha2 hb)
                            obtain⟨st3,x3⟩:=st2.putKd ha2 h2 (cJ.merge g4 g2)
                            exact⟨a,b,kv,kw,rfl,rfl,ab,g1,g3,by rw[←g2.length,←g4.length];exact hl,q _ _ _ ((x1.trans x2).trans x3) st3 .non⟩
                    · cases e
                  |_=>cases e
              |_=>cases e
          |_=>cases e
      · cases e
    |_=>cases e
  |_=>cases e
end
end DL
namespace L2
open PySem PySem.Spec PyProof.Rows
section
variable{prog:Program}{w:World}{A:Around}{s:Shared}
def uK{kx vx target iter:Expr}{ifs:List Expr}{scope:Scope}{pos:Pos}{it:Value}{D:Addr}{env:Env}{R:Result->Shared->Prop}(I:Nat->Shared->Prop)
  (turn:∀n s,I n s->wpAny (model prog w) A (pyNext it) (fun r s₁=>match r with
   |none=>R (.ok .next) s₁
   |some v=>wpAny (model prog w) A (letOwnedTupleGo target it v) (fun _ s₁'=>wpAny (model prog w) A (assign target env v) (fun _ s₂=>
     wpAny (model prog w) A (forIn ifs true fun c r=>if r=true then do let ok←isTrue c env (eval c env);pure (ForInStep.yield ok) else pure (ForInStep.yield r)) (fun ok s₃=>
      if ok=true then wpAny (model prog w) A (eval kx env) (fun x s₄=>wpAny (model prog w) A (eval vx env) (fun y s₅=>
       wpAny (model prog w) A (dictSet D x y) (fun _ s₆=>∃m,m<n/\I m s₆) (fun _ _=>False) s₅) (fun _ _=>False) s₄) (fun _ _=>False) s₃
      else∃m,m<n/\I m s₃) (fun _ _=>False) s₂) (fun _ _=>False) s₁') (fun _ _=>False) s₁) (fun _ _=>False) s)
  (n:Nat) (h:I n s):codeAny (model prog w) A (.compLoop (.DictComp kx vx [⟨target,iter,ifs,0⟩] scope pos) 0 it (.ref D) env) R s:=by
 refine codeAny_loop rfl I (fun n s hI=> ?_) n h
 show wpAny _ A ((compTurn (.DictComp kx vx [⟨target,iter,ifs,0⟩] scope pos) 0 it (.ref D) env).onRaise (fun x=>do noteFrame x env;theTreesLotGoes x)) _ _ s
 refine wpAny_noted ?_
 rw[compTurn_dict]
 refine Qaq (wpAny_standAt (Qaq (QRq (turn n s hI) (fun r s₁ h₁=> ?_) fun _ _ h'=>h'.elim)))
 cases r with
 |none=>exact Qgq h₁
 | some v=>
   refine Qaq (QRq h₁ (fun _ s₁' h₁'=> ?_) fun _ _ h'=>h'.elim)
   refine Qaq (QRq h₁' (fun _ s₂ h₂=>Qaq (QRq h₂ (fun ok s₃ h₃=> ?_) fun _ _ h'=>h'.elim)) fun _ _ h'=>h'.elim)
   cases ok with
   |false=>exact Qgq ⟨rfl,h₃⟩
   | true=>
     exact Qaq (Qaq (QRq h₃ (fun x s₄ h₄=>Qaq (QLq (QRq h₄ (fun y s₅ h₅=>Qaq (wpAny_standAt (QLq (QRq h₅ (fun _ s₆ h₆=>Qgq ⟨rfl,h₆⟩) fun _ _ h'=>h'.elim)))) fun _ _ h'=>h'.elim))) fun _ _ h'=>h'.elim))
end
def Iy(J:It)(g:TG)(tt:TT)(tk tv:TE)(Q:VK)(D:Addr)(σ:St)(H:Hp):Prop:=
 ∃ W:Nat->Nat->St->Hp->Prop,(∃m,W 0 m σ H)/\∀i m σ' H',W i m σ' H'→
   (J.stop i H'/\Q (.ref D) H')\/(J.go i H'/\∃Nx:St->Hp->Prop,(∀σ'' H'',Nx σ'' H''->∃m',m'<m/\W (i+1) m' σ'' H'')∧
     ∀ x H2,J.yld i H' x H2->g x σ' H2 fun σ3 H3=>tt σ3 H3 fun ok H4=>
       if ok=true then tk σ3 H4 fun k H5=>tv σ3 H5 fun y H6=>∃kvs ky,k=kV ky/\H6 D=some (.dK kvs)/\kvs.length<sizeLine/\Nx σ3 (upd H6 D (.dK (putK kvs ky y))) else Nx σ3 H4)
def FG(js:List (Option Nat))(wi:TI)(g:TG)(tt:TT)(tk tv:TE):TE:=fun σ H Q=>wi σ H fun J H1=>∀D,H1 D=none->Iy J g tt tk tv Q D (ki js σ) (upd H1 D (.dK []))
def E1{X:Cx}{N:List Str}{js:List (Option Nat)}{scope:Scope}{cl:List (Str×Addr)}{tg iter kx vx tgt:Expr}{ifs:List Expr}{pos spos:Pos}{wi:TI}{g gt:TG}{tt:TT}{tk tv:TE}
  (S:a9 X N js scope cl) (hc:X.calm=true) (hi:PI X tg iter wi)
  (hg:∀C s H fp,PG (bo X N scope cl C s H fp) tg g) (ht:∀C s H fp,rM (bo X N scope cl C s H fp) ifs tt) (hk:∀C s H fp,PE (bo X N scope cl C s H fp) kx tk) (hv:∀C s H fp,PE (bo X N scope cl C s H fp) vx tv) (hgt:PG X tgt gt)
  (hs:∀x,foldedSetIterable iter X.env x=pure x:=by intro _;rfl) (hsw:swapsWithSole [tgt] (.DictComp kx vx [⟨tg,iter,ifs,0⟩] scope pos) spos.line X.env=pure true:=by rfl)
  (h1:(assignEach [tgt] X.env).map (·.2)= [assign tgt X.env]:=by rfl):PS X (.Assign [tgt] (.DictComp kx vx [⟨tg,iter,ifs,0⟩] scope pos) spos) (Dq (FG js wi g tt tk tv) gt):=by
 intro pins s σ H Dn I h
 rw[exec_Assign_arm]
 refine Qaq (wpAny_standAt (Qaq (wpAny_of_eq hsw (wpAny_ite_true rfl (Qaq ?_)))))
 rw[h1]
 show wpAny _ _ (do let _←comprehension _ _ _ _ _ _ _ (some fun v=>assignAll v [assign tgt X.env]);pure ()) _ _ _
 refine Qaq ?_
 refine wpAny_comprehension_free (use:=some fun v=>assignAll v [assign tgt X.env]) rfl hs S.clos S.kind S.names (dr (hi pins s σ H _ I h) fun v s1 h1=>dr h1 fun itv s2 h2=> ?_)
 obtain⟨it,fp,tn,J,H2,e,I2,T,st2,f2,hD⟩:=h2
 subst e
 refine wpAny_newObj_type (wpAny_newFunctionEnv S.nocell (by intro y hy;simp at hy) (fun h₁ hns₁ hsb₁=> ?_) S.kind)
 dsimp only at hns₁ hsb₁⊢
 generalize hH2:s2.heap.push {cls:=.type "dict",data:=.dict #[]}=P2 at hns₁ hsb₁⊢
 have hC:P2.objs.size=s2.heap.objs.size+1:=by rw[←hH2,Heap.size_push]
 have hDC:s2.heap.objs.size≠P2.objs.size:=by rw[hC];exact Qwq (Nat.lt_succ_self _)
 have hCle:s2.heap.objs.size<=P2.objs.size:=by rw[hC];exact Nat.le_succ _
 have below:∀b,b<s2.heap.objs.size->b≠P2.objs.size:=fun b hb=>by rw[hC];exact Qwq (Nat.lt_succ_of_lt hb)
 have old:∀b o,s2.heap.get? b=some o->h₁.get? b=some o:=fun b o e=>hsb₁.extBut b o (below b (Qiq e)) (Qcq _ (hH2▸Qcq _ e))
 have hnew:h₁.get? s2.heap.objs.size=some {cls:=.type "dict",data:=.dict #[]}:=hsb₁.extBut _ _ hDC (Qcq _ (hH2▸Qrq _ rfl))
 have nD:H2 s2.heap.objs.size=none:=I2.fresh
 have nC:H2 P2.objs.size=none:=I2.hok.fresh hCle
 have fpo:∀b∈fp,b<s2.heap.objs.size:=fun b hb=>by
  obtain⟨o,e,_⟩:=T.obj _ _ st2 b hb
  exact Qiq e
 obtain⟨W,⟨m0,w0⟩,turn⟩:=hD s2.heap.objs.size nD
 have ok':(bo X N scope cl P2.objs.size s2 H2 fp).Ok:=by
  refine⟨I2.ok.mod,S.kind,I2.ok.glob,I2.ok.blt,hCle,fun x y c h1 h2=>I2.ok.inj x y c (S.sub x c h1) (S.sub y c h2),S.has,(fun x c h=>by cases h),I2.ok.hd,I2.ok.frames,.inl rfl,
   fun b hb=>⟨below b (fpo b hb),fun x c h=>(f2 b hb).2.2.2.2.1 x c (S.sub x c h)⟩,I2.bs,QAq I2.ok.bsz I2.sz,fun b o e hb=> ?_,fun b hb z=> ?_,I2.stack,I2.stkFree⟩
  ·rcases(f2 b hb).2.2.2.1 with z|z
   ·exact I2.ok.noex b o e z
   ·exact absurd (Qqq (Qqq (Qiq e) I2.ok.bsz) z) (Nat.lt_irrefl _)
  ·rcases Qsq.mp (I2.stkSub b z) with q|q
   ·exact(f2 b hb).2.1 q
   ·exact(f2 b hb).2.2.1 q
 have hobj:du X.prog X.w (upd H2 s2.heap.objs.size (.dK [])) h₁ s2.heap.objs.size (.dK []):=by
  obtain⟨o,es,ep,e1,e2⟩:=Heap.DictOf.new (knd:=cq X.prog X.w) s2.heap
  exact uB (Nat.zero_le _) (beq_eq_false_iff_ne.mpr (Ne.symm (Qwq I2.big))) .nil ⟨o,es,ep,hsb₁.extBut _ _ hDC (Qcq _ (hH2▸e1)),e2⟩
 have I4:Inv (bo X N scope cl P2.objs.size s2 H2 fp) [] (ki js σ) (upd H2 s2.heap.objs.size (.dK [])) {s2 with heap:=h₁,toks:=s2.toks+([]:List (Str×Value)).length}:=by
  refine⟨ok',rfl,I2.bare,Un.laid old (Qmq _) nD,⟨_,hns₁,fun i x v h1 h2 h3=> ?_⟩,fun x c h=> ?_,by show upd H2 _ _ P2.objs.size=none;rw[bC hDC.symm];exact nC,fun x c h=> ?_,fun p hp=>absurd (show p∈([]:List (Addr×Obj)) from hp) (by simp),I2.hok.laid old (Qmq _) hobj,by show(ki js σ).length=N.length;unfold ki;rw[lQm];exact S.len⟩
  ·unfold ki at h2
   rw[gQm] at h2
   cases e:js[i]? with
   |none=>rw[e] at h2;cases h2
   | some o=>
     rw[e] at h2
     cases o with
     |none=>cases h2
     | some j=>
       have h2':σ.getD j none=some v:=Option.some.inj h2
       have hj:σ[j]?=some (some v):=by
         rw[Qlq] at h2'
         cases q:σ[j]? with
         |none=>rw[q] at h2';cases h2'
         |some y=>rw[q] at h2';exact congrArg some h2'
       obtain⟨c1,c2,c3⟩:=S.cap i j x e h1
       obtain⟨m,hn,hl⟩:=I2.loc
       have vis:HM X.env.scope x:=by
         rcases c2 with z|z
         · exact .inr (.inl z)
         · exact .inr (.inr z)
       obtain⟨u,r,l⟩:=hl j x v c1 hj vis
       refine⟨u,r,.inr ⟨c3,?_⟩⟩
       obtain⟨c,hc'⟩:=S.has x c3
       refine⟨c,hc',?_⟩
       rcases l with⟨z,_⟩|⟨_,c',e',z⟩
       · rcases c2 with y|y <;>rw[y] at z <;>cases z
       · rw[S.sub x c hc'] at e'
         cases e'
         obtain⟨o,ho,hd⟩:=z
         exact⟨o,old _ _ ho,hd⟩
  ·obtain⟨v,o,ho,hd⟩:=I2.cell x c (S.sub x c h)
   exact⟨v,o,old _ _ ho,hd⟩
  ·obtain⟨v,o,ho,hd⟩:=I2.cell x c (S.sub x c h)
   rw[bC (Qwq (Qiq ho))]
   exact I2.freeC x c (S.sub x c h)
 have stat:∀{pins':List (Addr×Obj)} {H':Hp},pins'= []->(∀b∈fp,H' b=none)->∀b∈fp,pT (bo X N scope cl P2.objs.size s2 H2 fp) pins' H' b:=fun{pins' H'} ep hn b hb=>by
  subst ep
  refine⟨hn b hb,below b (fpo b hb),fun z=>ok'.exfs b hb z,.inl hb,fun x c h=>(f2 b hb).2.2.2.2.1 x c (S.sub x c h),fun p hp=>absurd (show p∈([]:List (Addr×Obj)) from hp) (by simp)⟩
 have loop:codeAny (model X.prog X.w) X.A (.compLoop (.DictComp kx vx [⟨tg,iter,ifs,0⟩] scope pos) 0 (.ref it) (.ref s2.heap.objs.size) (compEnvC scope cl P2.objs.size X.env))
   (compPost (model X.prog X.w) X.A X.xe (some fun v=>assignAll v [assign tgt X.env]) (fun _ s9=>wpAny (model X.prog X.w) X.A (pure ()) (fun _ s10=>wpAny (model X.prog X.w) X.A (pure Flow.next) (SP X pins Dn) X.xe s10) X.xe s9) (.ref s2.heap.objs.size) P2.objs.size) {s2 with heap:=h₁,toks:=s2.toks+([]:List (Str×Value)).length}:=by
  refine uK (fun n s'=>∃i σ' H',Inv (bo X N scope cl P2.objs.size s2 H2 fp) [] σ' H' s'/\tn i s'.heap/\(∀b∈fp,H' b=none)/\W i n σ' H') ?_ m0
   ⟨0,_,_,I4,T.keep _ _ _ st2 fun b _ o e=>old b o e,fun b hb=>by rw[bC (Qwq (fpo b hb))];exact(f2 b hb).1,w0⟩
  rintro n s3 ⟨i,σ3,H3,I3,st3,fr3,w3⟩
  rcases turn i n σ3 H3 w3 with⟨stop,q⟩|⟨go,Nx,hN,step⟩
  ·refine dr (T.done (bo X N scope cl P2.objs.size s2 H2 fp) rfl rfl rfl hc i [] s3 σ3 H3 _ I3 (stat rfl fr3) st3 stop) fun r s4 qr=> ?_
   obtain⟨hr,I5⟩:=qr
   subst hr
   obtain⟨m,hn,_⟩:=id I5.loc
   have toX:∀h',Heap.SameBut P2.objs.size s4.heap h'->Inv X pins σ H3 {s4 with heap:=h'}:=by
    intro h' hs'
    have u:=I5.base
    have ne:∀b o,s2.heap.get? b=some o->b≠P2.objs.size:=fun b o e=>below b (Qiq e)
    refine I2.call' (ch:=fp) I5.os ⟨fun b o e n hb hx=>(hs'.2 b (ne b o e)).trans (u.keep b o e n hb hx),fun b o e n hb hx=> ?_,u.free,fun b o e hx=> ?_,u.tups,u.frzs,u.tbls⟩ (fun b ob e=> ?_) I5.bare fun b hb=>⟨(f2 b hb).2.2.2.1,(f2 b hb).2.1,(f2 b hb).2.2.2.2.1,(f2 b hb).2.2.2.2.2⟩
    ·obtain⟨sl,e1⟩:=u.slot b o e n hb hx
     exact⟨sl,(hs'.2 b (ne b o e)).trans e1⟩
    ·obtain⟨o',e1⟩:=u.there b o e hx
     exact⟨o',(hs'.2 b (ne b o e)).trans e1⟩
    ·refine(I5.hok b ob e).stay (fun c w' hc q=>(hs'.2 c ?_).trans q) (fun _ q=>q) fun _ _ q=>q
     have fC:H3 P2.objs.size=none:=I5.free
     rintro rfl
     rcases hc with z|z
     ·rw[←z,fC] at e;cases e
     ·rw[fC] at z;cases z
   have IX:=toX s4.heap ⟨rfl,fun _ _=>rfl⟩
   have okC:pT X pins H3 P2.objs.size:=I2.fpOk hCle I5.free
   obtain⟨oC,es,ep,hoC,hdC,hrC⟩:=hn
   have IP:=IX.pinned (fp:= [P2.objs.size]) (fun b hb=>by rw[Qfq] at hb;rw[hb];exact okC) (fun b hb=>by rw[Qfq] at hb;rw[hb];exact⟨oC,hoC,fun v=>by rw[hdC];simp⟩)
   show wpAny _ _ (assignAll (.ref s2.heap.objs.size) [assign tgt X.env]) _ _ _
   rw[assignAll.eq_2]
   refine dr (hgt _ s4 σ H3 (.ref s2.heap.objs.size) (.ref s2.heap.objs.size) _ IP rfl q) fun _ s6 qr=> ?_
   obtain⟨σ6,H6,I6,q6⟩:=qr
   have pC:=I6.pin (P2.objs.size,oC) (Qoq _ (Qoq _ (dQ (Qfq.mpr rfl) hoC)))
   refine⟨m,⟨oC,es,ep,pC.1,hdC,hrC⟩,fun h' hs'=>Qgq (Qgq ⟨σ6,H6,?_,q6⟩)⟩
   exact I6.unpinned.turned (it:=P2.objs.size) (t':=s6.toks) (fun b o' hb e=>(hs'.2 b hb).trans e) pC.2.1 pC.2.2.1 okC.2.2.2.1 okC.2.2.2.2.1 okC.2.2.2.2.2
  ·refine dr (T.item (bo X N scope cl P2.objs.size s2 H2 fp) rfl rfl rfl hc i [] s3 σ3 H3 _ I3 (stat rfl fr3) st3 go) fun r s4 qr=> ?_
   obtain⟨u,hr,h4⟩:=qr
   subst hr
   refine dr h4 fun _ s5 qr=> ?_
   obtain⟨x,H5,I5,r5,y5,st5,fr5⟩:=qr
   have I5':=I5.pinned (stat rfl fr5) (T.obj _ _ st5)
   refine dr (hg P2.objs.size s2 H2 fp _ s5 σ3 H5 x u _ I5' r5 (step x H5 y5)) fun _ s6 qr=> ?_
   obtain⟨σ6,H6,I6,q6⟩:=qr
   refine dr (ht P2.objs.size s2 H2 fp _ s6 σ6 H6 _ I6 q6) fun ok s7 qr=> ?_
   obtain⟨H7,I7,q7⟩:=qr
   have again:∀{s8:Shared} {H8:Hp},Inv (bo X N scope cl P2.objs.size s2 H2 fp) ([]++nc fp s5.heap) σ6 H8 s8->Nx σ6 H8->∃m,m<n/\∃i σ' H',Inv (bo X N scope cl P2.objs.size s2 H2 fp) [] σ' H' s8/\tn i s8.heap/\(∀b∈fp,H' b=none)/\W i m σ' H':=fun{s8 H8} I8 n8=>by
    obtain⟨m',hm,w8⟩:=hN σ6 H8 n8
    refine⟨m',hm,i+1,σ6,H8,I8.unpinned,T.keep _ _ _ st5 fun b hb o e=>(I8.pin (b,o) (Qoq _ (Qoq _ (dQ hb e)))).1,fun b hb=> ?_,w8⟩
    obtain⟨o,e,d⟩:=T.obj _ _ st5 b hb
    exact(I8.pin (b,o) (Qoq _ (Qoq _ (dQ hb e)))).2.1
   cases ok with
   |false=>exact again I7 q7
   | true=>
     refine dr (hk P2.objs.size s2 H2 fp _ s7 σ6 H7 _ I7 q7) fun kv s8 qr=> ?_
     obtain⟨k,H8,I8,rk,q8⟩:=qr
     refine dr (hv P2.objs.size s2 H2 fp _ s8 σ6 H8 _ I8 q8) fun yv s9 qr=> ?_
     obtain⟨y,H9,I9,ry,kvs,ky,ek,hx,hl,n9⟩:=qr
     subst ek
     obtain⟨z,hd,vs,rel,dd⟩:=yG I9.hok hx
     refine wpAny_dictSet_pairs (zQ rk) dd (fun h' dd' hs'=> ?_) (by rw[←rel.length];exact z)
     have he:∃q,h'.get? s2.heap.objs.size=some q:=let ⟨q,_,_,hq,_⟩:=dd';⟨q,hq⟩
     have hl':=je kvs ky y
     exact again (rX I9 (by rw[hx];exact True.intro) hs' he (uB (by omega) hd (rel.put ky ry) dd')) n9
 exact codeAny_compStart_dict loop (T.self _ 0 _ _ _ (T.keep _ _ _ st2 fun b _ o e=>old b o e) loop)
end L2
namespace DL
open PySem PySem.Spec PyProof.Rows L2
section
variable{M:Md}{ρ:List Addr}{H:Hp}{b:Addr}{us:List (Key×V)}{o:HO}
theorem gG.offK{S:aK}(st:gG M ρ S H)(hb:H b=some (.dK us))(n:b∉ρ):gG M ρ S (upd H b o):=⟨st.len,st.nd,fun k a p h1 h2=>by
 have q:=st.obj k a p h1 h2
 have ab:a≠b:=fun z=>n (z▸mQg h1)
 cases p with
 |lst ds=>obtain⟨vs,q1,q2⟩:=q;exact⟨vs,by rw[bC ab];exact q1,q2.offK hb⟩
 |frz ds=>obtain⟨vs,o,q1,q2⟩:=q;exact⟨vs,o,by rw[bC ab];exact q1,q2.offK hb⟩
 |dct kvs=>obtain⟨kv,q1,q2⟩:=q;exact⟨kv,by rw[bC ab];exact q1,q2.imp fun _ _ r=>r.offK hb⟩⟩
def En.offK{Γ:dh}{σ:L2.St}(h:En M ρ H Γ σ)(hb:H b=some (.dK us)):En M ρ (upd H b o) Γ σ:=⟨h.len,fun i d q=>by obtain⟨v,h1,h2⟩:=h.get i d q;exact⟨v,h1,h2.offK hb⟩⟩
end
open Classical in
def ji(g:nW)(t:kd)(fk fv:bN)(W:aK->Prop):List D->dh->aK->List (Key×D)->Option (List (Key×D)×aK)
 | [],Γ,S,acc=>if W S then some (acc,S) else none
 |d ::ds,Γ,S,acc=>if W S then(g d Γ S).bind fun(Γ1,S1)=>(t Γ1 S1).bind fun(k,S2)=>
    if k=true then(fk Γ1 S2).bind fun(x,S3)=>(fv Γ1 S3).bind fun(y,S4)=>(uZ x).bind fun kk=>if acc.length<sizeLine then ji g t fk fv W ds Γ1 S4 (putD acc kk y) else none
    else ji g t fk fv W ds Γ1 S2 acc
  else none
def uu(js:List (Option Nat))(i:ye)(g:nW)(t:kd)(fk fv:bN):dh->aK->Option (List (Key×D)×aK):=fun Γ S=>(i Γ S).bind fun(p,S1)=>ji g t fk fv p.2 p.1 (mD js Γ) S1 []
def Hs{M:Md}{js:List (Option Nat)}{i:ye}{g:nW}{t:kd}{fk fv:bN}{σ:L2.St}{H:Hp}{Q:VK}{ρ:List Addr}{Γ:dh}{S S':aK}{l:List (Key×D)}(ok:Ok M ρ Γ S σ H)(e:uu js i g t fk fv Γ S=some (l,S'))
  (q:∀ρ' a kv H',cH ρ H ρ' H'->gG M ρ' S' H'->H a=none->a∉ρ'->H' a=some (.dK kv)->cJ M ρ' H' l kv->Q (.ref a) H'):FG js (tI M i) (tG M g) (tB M t) (tD M fk) (tD M fv) σ H Q:=by
 obtain⟨⟨⟨ds,W⟩,S1⟩,e1,e⟩:=ar e
 refine⟨ρ,Γ,S,ds,W,S1,ok,e1,fun ρ1 J H1 x1 st1 wk D hD=> ?_⟩
 have n1:D∉ρ1:=dP x1 st1 hD
 have ok1:Ok M ρ1 (mD js Γ) S1 (ki js σ) (upd H1 D (.dK [])):=⟨((ok.en.ext x1).ext (cH.laid hD)).sig js,st1.lay hD⟩
 refine⟨fun i m σ' H'=>m=ds.length-i/\i<=ds.length/\∃ρ2 Γ2 S2 acc vs,cH ρ1 H1 ρ2 H'/\Ok M ρ2 Γ2 S2 σ' H'/\D∉ρ2/\H' D=some (.dK vs)/\cJ M ρ2 H' acc vs/\ji g t fk fv W (ds.drop i) Γ2 S2 acc=some (l,S'),
  ⟨ds.length,by simp,Nat.zero_le _,ρ1,_,S1,[],[],cH.laid hD,ok1,n1,b_,rfl,e⟩,?_⟩
 rintro i m σ2 H2 ⟨rfl,hi,ρ2,Γ2,S2,acc,vs,x2,ok2,n2,hD2,racc,e2⟩
 by_cases hlt:i<ds.length
 ·have hd:ds[i]?=some ds[i]:=gQe hlt
  rw[QWq hlt] at e2
  unfold ji at e2
  split at e2
  ·rename_i w
   obtain⟨w1,w2⟩:=wk i ρ2 S2 H2 x2 ok2.st w
   obtain⟨go,yld⟩:=w1 _ hd
   refine .inr ⟨go,fun σ' H'=>∃ρ' Γ' S'' acc vs,cH ρ1 H1 ρ' H'/\Ok M ρ' Γ' S'' σ' H'/\D∉ρ'/\H' D=some (.dK vs)/\cJ M ρ' H' acc vs/\ji g t fk fv W (ds.drop (i+1)) Γ' S'' acc=some (l,S'),
    fun σ' H' ⟨ρ',Γ',S'',acc,vs,h1,h2,h3,h4,h5,h6⟩=>⟨ds.length-(i+1),by omega,rfl,hlt,ρ',Γ',S'',acc,vs,h1,h2,h3,h4,h5,h6⟩,fun x H3 hy=> ?_⟩
   obtain⟨x3,st3,r3⟩:=yld x H3 hy
   obtain⟨⟨Γ4,S4⟩,e4,e5⟩:=ar e2
   refine⟨ρ2,Γ2,S2,_,Γ4,S4,ok2.to x3 st3,r3,e4,fun ρ4 σ4 H4 x4 ok4=> ?_⟩
   obtain⟨⟨k,S5⟩,e6,e7⟩:=ar e5
   refine⟨ρ4,Γ4,S4,k,S5,ok4,e6,fun ρ5 H5 x5 st5=> ?_⟩
   have x25:=(x3.trans x4).trans x5
   have keep:∀{ρ' H'},cH ρ2 H2 ρ' H'->H' D=some (.dK vs)/\D∉ρ':=fun{ρ' H'} x=>⟨x.keep _ _ hD2 (.inl n2),fun m=>(x.new _ m).elim n2 fun z=>by rw[z] at hD2;cases hD2⟩
   dsimp only at e7⊢
   split at e7
   ·rename_i ck
    rw[Qhq ck]
    obtain⟨⟨kx,S6⟩,e8,e9⟩:=ar e7
    obtain⟨⟨y,S7⟩,e10,e11⟩:=ar e9
    obtain⟨kk,e12,e13⟩:=ar e11
    refine⟨ρ5,Γ4,S5,kx,S6,ok4.to x5 st5,e8,fun ρ6 kv H6 x6 st6 r6=>⟨ρ6,Γ4,S6,y,S7,(ok4.to x5 st5).to x6 st6,e10,fun ρ7 v H7 x7 st7 r7=> ?_⟩⟩
    have x27:=(x25.trans x6).trans x7
    obtain⟨hD7,n7⟩:=keep x27
    have racc7:=racc.ext' x27
    split at e13
    ·rename_i cl
     refine⟨vs,kk,sh r6 e12,hD7,by rw[←racc.length];exact cl,ρ7,Γ4,S7,putD acc kk y,_,(x2.trans x27).off hD _,⟨(((ok4.en.ext x5).ext x6).ext x7).offK hD7,st7.offK hD7 n7⟩,n7,b_,(racc7.put r7).imp fun _ _ r=>r.offK hD7,e13⟩
    ·cases e13
   ·rename_i ck
    rw[Quq ck]
    obtain⟨hD5,n5⟩:=keep x25
    exact⟨ρ5,Γ4,S5,acc,vs,x2.trans x25,ok4.to x5 st5,n5,hD5,racc.ext' x25,e7⟩
  ·cases e2
 ·have e3:i=ds.length:=by omega
  subst e3
  rw[List.drop_length] at e2
  unfold ji at e2
  split at e2
  ·rename_i w
   obtain⟨rfl,rfl⟩:=cR e2
   obtain⟨w1,w2⟩:=wk ds.length ρ2 S2 H2 x2 ok2.st w
   exact .inl ⟨w2 rfl,q ρ2 D vs H2 (x1.trans x2) ok2.st (x1.grow _ hD) n2 hD2 racc⟩
  ·cases e2
def L8(n:Nat)(f:dh->aK->Option (List (Key×D)×aK)):dt:=fun Γ S=>(f Γ S).bind fun(l,S1)=>some (.nx (Γ.set n (some (.ref S1.length))) (S1++ [.dct l]))
section
variable{X:Cx}{pos:Pos}
def HB{N:List Str}{js:List (Option Nat)}{scope:Scope}{cl:List (Str×Addr)}{tg iter kx vx tgt:Expr}{ifs:List Expr}{i:ye}{g:nW}{t:kd}{fk fv:bN}{n:Nat}{spos:Pos}
  (S:a9 X N js scope cl) (hc:X.calm=true) (hi:PI X tg iter (tI (md X) i))
  (hg:∀C s H fp,PG (bo X N scope cl C s H fp) tg (tG (md X) g)) (ht:∀C s H fp,rM (bo X N scope cl C s H fp) ifs (tB (md X) t)) (hk:∀C s H fp,PE (bo X N scope cl C s H fp) kx (tD (md X) fk)) (hv:∀C s H fp,PE (bo X N scope cl C s H fp) vx (tD (md X) fv)) (hgt:PG X tgt (su n))
  (hs:∀x,foldedSetIterable iter X.env x=pure x:=by intro _;rfl) (hsw:swapsWithSole [tgt] (.DictComp kx vx [⟨tg,iter,ifs,0⟩] scope pos) spos.line X.env=pure true:=by rfl)
  (h1:(assignEach [tgt] X.env).map (·.2)= [assign tgt X.env]:=by rfl):PS X (.Assign [tgt] (.DictComp kx vx [⟨tg,iter,ifs,0⟩] scope pos) spos) (tS (md X) (L8 n (uu js i g t fk fv))):=
 B7 (E1 S hc hi hg ht hk hv hgt hs hsw h1) fun D σ H qq=>by
  obtain⟨ρ,Γ,S,o,ok,e,q⟩:=qq
  obtain⟨⟨l,S1⟩,e1,e⟩:=ar e
  cases e
  refine Hs ok e1 fun ρ' a kv H' x st fr nr ha rs=> ?_
  have st':=st.box (o:=.dct l) nr ⟨kv,ha,rs.pre' (List.prefix_append ρ' [a])⟩
  have x':cH ρ H (ρ'++ [a]) H':=⟨x.pre.trans (List.prefix_append _ _),fun b hb=>by
   rcases mQa.mp hb with hb|hb
   ·exact x.new b hb
   ·rw[Qfq] at hb;subst hb;exact .inr fr,x.keep,x.grow⟩
  refine q (ρ'++ [a]) _ H' x' ⟨((ok.en.ext x').set (.ref ?_)),st'⟩
  rw[←st.len,QQq (Qmq _)]
  simp
end
end DL
namespace Zp
open PySem PySem.W PyProof.Rows
def jr(lt:Nat->Nat->Bool):KasT (Array Nat)->Array Nat
 |.ret p=>p
 |.ask i j k=>jr lt (k (lt i j))
theorem iV(lt:Nat->Nat->Bool):∀t:KasT (Array Nat),jr lt t∈pD t
 |.ret p=>by simp[jr,pD]
 | .ask i j k=>by
   unfold jr pD
   cases lt i j with
   |true=>exact List.mem_append_left _ (iV lt (k true))
   |false=>exact Qoq _ (iV lt (k false))
theorem wj{cmp:Nat->Nat->(Bool->Shared->Prop)->Shared->Prop}{Q:Array Nat->Shared->Prop}{s:Shared}{n:Nat}{lt:Nat->Nat->Bool}(hc:∀i j C,i<n->j<n->i≠j->C (lt i j) s->cmp i j C s):
  ∀t:KasT (Array Nat),uh n t=true->Q (jr lt t) s->t.kasWp cmp Q s
 |.ret p,_,h=>h
 | .ask i j k,ha,h=>by
   simp only[uh,QCq,decide_eq_true_eq] at ha
   obtain⟨⟨⟨⟨h1,h2⟩,h3⟩,h4⟩,h5⟩:=ha
   refine hc i j _ h1 h2 h3 ?_
   cases e:lt i j with
   |true=>exact wj hc (k true) h4 (by unfold jr at h;rw[e] at h;exact h)
   |false=>exact wj hc (k false) h5 (by unfold jr at h;rw[e] at h;exact h)
def Ki(fs:List Str)(i j:Nat):Bool:=decide ((fs.getD i "").cps.toList<(fs.getD j "").cps.toList)
def sortBy{α:Type}(fs:List Str)(d:α)(xs:List α):List α:=if xs.length<2 then xs else(jr (Ki fs) (kas_sort xs.length)).toList.map fun i=>xs.getD i d
def eO{α:Type}{d:α}(fs:List Str)(xs:List α)(h:xs.length<=3):(sortBy fs d xs).Perm xs:=by
 unfold sortBy
 split
 ·exact List.Perm.refl _
 ·rename_i h2
  obtain⟨_,perm⟩:=rR xs.length h (by omega)
  have hp:(jr (Ki fs) (kas_sort xs.length)).toList.Perm (List.range xs.length):=List.isPerm_iff.mp (QUq.mp perm _ (iV _ _))
  have e:(List.range xs.length).map (fun i=>xs.getD i d)=xs:=by
   apply List.ext_getElem
   ·simp
   ·intro i h1 h2
    simp[Qlq,h2]
  have:=hp.map fun i=>xs.getD i d
  rw[e] at this
  exact this
section
variable{prog:Program}{w:World}{A:Around}{E:Value->Shared->Prop}{s:Shared}
def AG{a:Addr}{vs:List Value}{fs:List Str}{n:Nat}{P:PySem.Fin->Shared->Prop}(ho:s.heap.get? a=some (seqObj "list" vs.toArray n))(h3:vs.length<=3)(ht:eS s.heap vs fs)(hd:fs.Nodup)
  (q:∀out:Array Value,out.toList=sortBy fs Value.none vs->P (.done (.ret .none)) {s with heap:=sortedHeap s.heap a vs out}):wpAny (model prog w) A (Builtin.«list.sort» ⟨[.ref a],[]⟩) P E s:=by
 rw[list_sort_plain]
 have ha:a<s.heap.objs.size:=Qiq ho
 refine Qaq (listItems_at ho rfl (Qaq (listUpdate_at ho rfl ?_ (by rw[Qjq,sizeLine_eq];omega) (Nat.zero_le _))))
 obtain⟨e1,ho1⟩:∃e1,(s.heap.update a (Obj.mapSeq fun _=> #[])).get? a=some (seqObj "list" #[] e1):=⟨_,get?_update_seq ho (fun _=> #[])⟩
 refine Qaq (seqEpoch_at ho1 rfl (Qaq (wpAny_newTuple ?_ (by show vs.length<=_;rw[sizeLine_eq];omega))))
 refine Qaq (wpAny_newList (QLq ?_) (Nat.zero_le _))
 have ho6:(((s.heap.update a (Obj.mapSeq fun _=> #[])).push (seqObj "tuple" vs.toArray 0)).push (seqObj "list" #[] 0)).get? a=some (seqObj "list" #[] e1):=Qcq _ (Qcq _ ho1)
 have ht6:eS (((s.heap.update a (Obj.mapSeq fun _=> #[])).push (seqObj "tuple" vs.toArray 0)).push (seqObj "list" #[] 0)) vs fs:=ht.keep fun b o e c=>by
  have nb:b≠a:=fun z=>by rw[z,ho] at e;cases e;simp[seqObj] at c
  exact Qcq _ (Qcq _ (by rw[Heap.get?_update_ne _ _ _ _ nb];exact e))
 refine(?_:wpAny (model prog w) A _ P E {s with heap:=((s.heap.update a (Obj.mapSeq fun _=> #[])).push (seqObj "tuple" vs.toArray 0)).push (seqObj "list" #[] 0)})
 dsimp only
 by_cases h2:vs.toArray.size<2
 ·rw[Qhq h2,Qhq h2]
  refine Qaq (Qgq ?_)
  rw[StateT.run_pure]
  refine Qaq (Qgq ?_)
  dsimp only
  have e2:((vs.toArray.zip vs.toArray).map (·.2))=vs.toArray:=by
   apply Array.toList_inj.mp
   simp
   exact List.map_snd_zip (Qmq _)
  refine Qaq (seqEpoch_at ho6 rfl (Qaq (listUpdate_at ho6 rfl ?_ (hsz2:=by
   refine QAq (Nat.le_of_eq (congrArg Array.size e2)) ?_
   rw[Qjq,sizeLine_eq]
   omega))))
  simp only[bne_self_eq_false,Bool.false_eq_true,if_false]
  refine Qgq ?_
  have:=q vs.toArray (by unfold sortBy;rw[Qhq (by simpa using h2)])
  rw[←e2] at this
  exact this
 ·rw[Quq h2,Quq h2]
  have hn:2<=vs.length:=by simpa using h2
  obtain⟨gs,kt,lg,mg⟩:=ht6.firsts
  have lf:=ht.len
  refine Qaq (kat_kind (T:=.type "str") kt (by omega) (fun v hv=> ?_) rfl ?_)
  ·obtain⟨x,t,rfl⟩:=mg v hv
   exact .now
  obtain⟨ok,perm⟩:=rR vs.length h3 hn
  have est:SortSt.mk' (tuples' true) (vs.toArray.zip vs.toArray) #[] 7 none=kas_st (tuples' true) (pairsOf vs) (List.toArray (List.range vs.length)):=by
   have e:=kas_range (pairsOf vs)
   rw[pairsOf_size] at e
   refine(?_:SortSt.mk' (tuples' true) (pairsOf vs) #[] 7 none=SortSt.mk' (tuples' true) ((List.toArray (List.range vs.length)).map (kas_item (pairsOf vs))) #[] 7 none)
   rw[e]
  refine(?_:wpAny (model prog w) A (StateT.run sortRuns' (SortSt.mk' (tuples' true) (vs.toArray.zip vs.toArray) #[] 7 none) >>= _) P E _)
  rw[est]
  have run:=kas_runs (prog:=prog) (w:=w) (A:=A) (E:=E) (κ:=tuples' true) (it:=pairsOf vs) (n:=vs.length)
   (s:={s with heap:=((s.heap.update a (Obj.mapSeq fun _=> #[])).push (seqObj "tuple" vs.toArray 0)).push (seqObj "list" #[] 0)})
   (G:=fun p s'=>p=jr (Ki fs) (kas_sort vs.length)/\s'={s with heap:=((s.heap.update a (Obj.mapSeq fun _=> #[])).push (seqObj "tuple" vs.toArray 0)).push (seqObj "list" #[] 0)})
   (Q:=fun _ st' s'=>s'={s with heap:=((s.heap.update a (Obj.mapSeq fun _=> #[])).push (seqObj "tuple" vs.toArray 0)).push (seqObj "list" #[] 0)}/\failedOf st'=none/\∃p,p=jr (Ki fs) (kas_sort vs.length)/\arrOf st'=p.map (kas_item (pairsOf vs)))
   hn (by omega) (fun p' st' s' a1 a2 a3 a4=>⟨a4.2,a3,p',a4.1,a2⟩) (wj (n:=vs.length) (fun i j C hi hj hij hC=> ?_) _ ok ⟨rfl,rfl⟩)
  ·refine Qaq (QRq run ?_ fun _ _ e=>e)
   rintro⟨⟨⟩,st'⟩ s' ⟨rfl,hf,p,hp,har⟩
   dsimp only
   have hout:((arrOf st').map (·.2)).toList=sortBy fs Value.none vs:=by
    unfold sortBy
    rw[Quq (by omega),har,Array.map_map,Array.toList_map,hp]
    refine List.map_congr_left fun k _=> ?_
    show(kas_item (pairsOf vs) k).2=_
    rw[kas_item_eq]
   have hperm2:=eO (d:=Value.none) fs vs h3
   have hsz:((arrOf st').map (·.2)).size=vs.length:=by
    have:=congrArg List.length hout
    rw[hperm2.length_eq] at this
    simpa using this
   refine Qaq (seqEpoch_at ho6 rfl (Qaq (listUpdate_at ho6 rfl ?_ (hsz2:=by
    refine QAq (Nat.le_of_eq hsz) ?_
    rw[sizeLine_eq]
    omega))))
   rw[hf]
   simp only[bne_self_eq_false,Bool.false_eq_true,if_false]
   exact Qgq (q _ hout)
  ·unfold kas_cmp
   rw[kas_item_eq,kas_item_eq]
   obtain⟨x,ox,xs,nx,tx,ex,gx,dx,fx⟩:=ht6.get (i:=i) (by omega)
   obtain⟨y,oy,ys,ny,ty,ey,gy,dy,fy⟩:=ht6.get (i:=j) (by omega)
   dsimp only
   rw[ex,ey]
   have hne:¬fs.getD i ""=fs.getD j "":=fun z=>by
    have hi':i<fs.length:=by omega
    have hj':j<fs.length:=by omega
    rw[Qlq,Qlq,gQe hi',gQe hj'] at z
    have z':fs[i]=fs[j]:=z
    rcases Nat.lt_or_gt_of_ne hij with lt|lt
    ·exact List.pairwise_iff_getElem.mp hd i j hi' hj' lt z'
    ·exact List.pairwise_iff_getElem.mp hd j i hj' hi' lt z'.symm
   refine kat_lt gx dx gy dy ?_
   obtain⟨xr,hxr⟩:∃r,xs.toList=.str (fs.getD i "") tx::r:=by
    cases e:xs.toList with
    |nil=>have:=congrArg (·[0]?) e;simp[fx] at this
    |cons v r=>have:=congrArg (·[0]?) e;simp[fx] at this;exact⟨r,by rw[Qlq,this]⟩
   obtain⟨yr,hyr⟩:∃r,ys.toList=.str (fs.getD j "") ty::r:=by
    cases e:ys.toList with
    |nil=>have:=congrArg (·[0]?) e;simp[fy] at this
    |cons v r=>have:=congrArg (·[0]?) e;simp[fy] at this;exact⟨r,by rw[Qlq,this]⟩
   rw[hxr,hyr,List.zip_cons_cons]
   refine kat_cons (wpAny_eqBool_str ?_)
   rw[Qdq hne]
   exact kat_no (oneLt_str hC)
def xh{l:Addr}{vs:List Value}{fs:List Str}{Q:Value->Shared->Prop}(hl:s.heap.IsList l vs.toArray)(h3:vs.length<=3)(ht:eS s.heap vs fs)(hd:fs.Nodup)
  (q:∀out:Array Value,out.toList=sortBy fs Value.none vs->Q (.ref (s.heap.objs.size+1)) {s with heap:=sortedAll s.heap vs out}):wpAny (model prog w) A (call (.builtin "sorted") [.ref l]) Q E s:=by
 refine Calls.call_function_entry kind_sorted plain_sorted entry_sorted (args_sorted1 _) ?_
 unfold Builtin.«sorted»
 refine Qaq (m:=checkCount "sorted" 1 1 _) (Qgq (Qaq (collect_list hl (Qaq (wpAny_newList ?_ (by rw[sizeLine_eq];omega))) (by rw[sizeLine_eq];omega))))
 have sz:((s.heap.push (seqObj "list" #[] 0)).update s.heap.objs.size (Obj.mapSeq (·++vs.toArray))).objs.size=s.heap.objs.size+1:=by rw[Heap.size_update,size_push']
 have gl:(((s.heap.push (seqObj "list" #[] 0)).update s.heap.objs.size (Obj.mapSeq (·++vs.toArray))).push (seqObj "list" vs.toArray 0)).get? (s.heap.objs.size+1)=some (seqObj "list" vs.toArray 0):=by
  rw[←sz]
  exact Qrq _ rfl
 have ht':eS (((s.heap.push (seqObj "list" #[] 0)).update s.heap.objs.size (Obj.mapSeq (·++vs.toArray))).push (seqObj "list" vs.toArray 0)) vs fs:=ht.keep fun b o e _=>by
  have lt:b<s.heap.objs.size:=Qiq e
  refine Qcq _ ?_
  rw[Heap.get?_update_ne _ _ _ _ (Qwq lt)]
  exact Qcq _ e
 refine(?_:wpAny _ _ _ _ _ {s with heap:=((s.heap.push (seqObj "list" #[] 0)).update s.heap.objs.size (Obj.mapSeq (·++vs.toArray))).push (seqObj "list" vs.toArray 0)})
 rw[sz]
 refine Qaq (QLq (wpAny_call_entry slot_list_sort ⟨_,gl,rfl⟩ entry_list_sort (AG gl h3 ht' hd fun out hp=>⟨_,rfl,?_⟩) (args_list_sort _)))
 exact Qgq ⟨_,rfl,q out hp⟩
end
end Zp
namespace L2
open PySem PySem.Spec PyProof.Rows
section
variable{X:Cx}
def GE(K:PySem.W.Frag):List V->Hp->VK->Prop:=fun xs H Q=>∃(a:Addr) (rs:List Addr) (ss:List Str),xs= [.ref a]/\ik K H a (rs.map V.ref)/\rs.length<=3/\vh H rs ss/\ss.Nodup/\∀(l:Addr),H l=none->Q (.ref l) (upd H l (.lst ((Zp.sortBy ss 0 rs).map V.ref)))
def uO:jS X (.builtin "sorted") (GE X.K):=by
 intro pins s σ H xs us Q I r h
 obtain⟨a,rs,ss,rfl,ha,h3,hF,hd,q⟩:=h
 obtain⟨u,rfl,rx⟩:=vals1 r
 cases (show u=Value.ref a from rx)
 obtain⟨its,rv,pl,hz⟩:=I.list ha
 cases vB rv
 have big:s.heap.objs.size<=s.heap.objs.size+1:=Nat.le_succ _
 refine Zp.xh pl.isList (by simpa using h3) (yj I hF) hd fun out hp=> ?_
 have e1:out.toList=(Zp.sortBy ss 0 rs).map Value.ref:=by
  rw[hp]
  unfold Zp.sortBy
  rw[lQm]
  split
  ·rfl
  ·rename_i h2
   rw[QPq]
   obtain⟨_,perm⟩:=Zp.rR rs.length h3 (by omega)
   have hperm:(Zp.jr (Zp.Ki ss) (PySem.W.kas_sort rs.length)).toList.Perm (List.range rs.length):=List.isPerm_iff.mp (QUq.mp perm _ (Zp.iV _ _))
   refine List.map_congr_left fun i hi=> ?_
   have hl:i<rs.length:=List.mem_range.mp (hperm.mem_iff.mp hi)
   show(rs.map Value.ref).getD i Value.none=Value.ref (rs.getD i 0)
   rw[Qlq,Qlq,gQm,gQe hl]
   rfl
 obtain⟨e,he⟩:=sortedAll_at s.heap (rs.map Value.ref) out
 refine⟨.ref (s.heap.objs.size+1),_,I.laid (a:=s.heap.objs.size+1) (o:=.lst ((Zp.sortBy ss 0 rs).map V.ref)) (h':=sortedAll s.heap (rs.map Value.ref) out) (t':=s.toks) (fun b o hb=>sortedAll_old hb) big ⟨?_,out.toList,e,?_,?_⟩,rfl,q _ (I.hok.fresh big)⟩
 ·rw[lQm,(Zp.eO ss rs h3).length_eq]
  exact QAq h3 (by decide)
 ·have:=t_ (Zp.sortBy ss 0 rs)
  rw[←e1] at this
  exact this
 ·simpa using he
end
end L2
namespace DL
open PySem PySem.Spec PyProof.Rows L2
def vo(a b:Str):Prop:=¬(b.cps.toList<a.cps.toList)
instance(a b:Str):Decidable (vo a b):=by unfold vo;infer_instance
def Dx(a b:Str):vo a b\/vo b a:=by
 by_cases h:b.cps.toList<a.cps.toList
 ·exact .inr fun h'=>List.lt_asymm h h'
 ·exact .inl h
def vF{a b c:Str}(h1:vo a b)(h2:vo b c):vo a c:=by
 unfold vo at *
 rw[List.not_lt] at *
 exact List.le_trans h1 h2
def Ed{a b:Str}(h1:vo a b)(h2:vo b a):a=b:=by
 unfold vo at *
 rw[List.not_lt] at *
 have:=List.le_antisymm h1 h2
 cases a
 cases b
 simp only[Str.mk.injEq]
 exact Array.toList_inj.mp this
def Bh(x:Str):List Str->List Str
 | []=> [x]
 |y::r=>if vo x y then x::y::r else y::Bh x r
def pH:List Str->List Str
 | []=> []
 |x::r=>Bh x (pH r)
theorem p0(x:Str):∀l:List Str,(Bh x l).Perm (x::l)
 | []=>List.Perm.refl _
 | y::r=>by
   unfold Bh
   split
   · exact List.Perm.refl _
   · exact((p0 x r).cons y).trans (List.Perm.swap _ _ _)
theorem i6:∀l:List Str,(pH l).Perm l
 | []=>List.Perm.refl _
 |x::r=>(p0 x _).trans ((i6 r).cons x)
theorem qx{x:Str}:∀{l:List Str},l.Pairwise vo->(Bh x l).Pairwise vo
 | [],_=>by simp[Bh]
 | y::r,h=>by
   rw[List.pairwise_cons] at h
   unfold Bh
   split
   · rename_i c
     refine List.pairwise_cons.mpr ⟨fun z hz=> ?_,List.pairwise_cons.mpr h⟩
     rcases Qsq.mp hz with rfl|hz
     · exact c
     · exact vF c (h.1 z hz)
   · rename_i c
     refine List.pairwise_cons.mpr ⟨fun z hz=> ?_,qx h.2⟩
     rcases Qsq.mp ((p0 x r).mem_iff.mp hz) with rfl|hz
     · exact(Dx _ _).resolve_left c
     · exact h.1 z hz
theorem mV:∀l:List Str,(pH l).Pairwise vo
 | []=>List.Pairwise.nil
 |x::r=>qx (mV r)
def xn:∀{l:List Str},sortedS l=true->l.Pairwise vo
 | [],_=>List.Pairwise.nil
 | x::r,h=>by
   have go:∀(r:List Str) (x:Str),risingS x r=true->(x::r).Pairwise vo:=by
     intro r
     induction r with
     |nil=>intro x _;simp
     | cons y r ih=>
       intro x h
       unfold risingS at h
       simp only[QCq] at h
       have h2:=ih y h.2
       have xy:vo x y:=by
         have:=h.1
         unfold vo
         rw[ltCps_eq] at this
         simpa using this
       refine List.pairwise_cons.mpr ⟨fun z hz=> ?_,h2⟩
       rcases Qsq.mp hz with rfl|hz
       · exact xy
       · exact vF xy ((List.pairwise_cons.mp h2).1 z hz)
   exact go r x h
def Ds{out ss:List Str}(h:sortedS out=true)(p:out.Perm ss):out=pH ss:=
 List.Perm.eq_of_pairwise (le:=vo) (fun a b _ _ h1 h2=>Ed h1 h2) (xn h) (mV ss) (p.trans (i6 ss).symm)
end DL
namespace L2
open PySem PySem.Spec PyProof.Rows
end L2
namespace DL
open PySem PySem.Spec L2
section
variable{X:Cx}{a b e:Expr}{pos:Pos}
def vk:List D->Option (List Str)
 | []=>some []
 |.str x::r=>(vk r).bind fun xs=>some (x::xs)
 |_::_=>none
theorem zU{M:Md}{ρ:List Addr}{H:Hp}:∀{ds:List D} {vs:List V} {xs:List Str},bq M ρ H ds vs->vk ds=some xs->vs=xs.map V.str
 | [],_,_,h,e=>by cases h;cases e;rfl
 | d::ds,_,_,h,e=>by
   cases d with
   | str b=>
     simp only[vk] at e
     obtain⟨bs',e1,e⟩:=ar e
     cases e
     cases h with
     | cons h hs=>
       cases h
       rw[zU hs e1]
       rfl
   |_=>cases e
theorem vO{M:Md}{ρ:List Addr}{H:Hp}:∀ss:List Str,bq M ρ H (ss.map D.str) (ss.map V.str)
 | []=>.nil
 |s::ss=>.cons (.str s) (vO ss)
def Cv(f:eJ):g9:=fun Γ S=>(f Γ S).bind fun(p,S1)=>if p.2.isL=true then(vk p.1).bind fun ss=>if ss.length<64 then some ((pH ss).map D.str,S1) else none else none
def FE{f:eJ}{p:Pos}(hg:Gl X "sorted")(hm:X.mg "sorted"=none)(ha:PE X a (tQ (md X) f))(hs:starEach [a] X.env= [(false,eval a X.env)]:=by rfl):
  PE X (.Call (.Name "sorted" p) [a] [] pos) (tL (md X) (Cv f)):=
 kR (eR xX hg hm PyProof.Rows.boot_sorted (dC ha gK hs) (he:=hs)) fun σ H Q qq=>by
  obtain⟨ρ,Γ,S,d,S',ok,e,q⟩:=qq
  obtain⟨⟨⟨ds,t⟩,S1⟩,e1,e⟩:=ar e
  dsimp only at e
  split at e
  ·rename_i c
   obtain⟨ss,e2,e⟩:=ar e
   split at e
   ·rename_i c2
    obtain⟨rfl,rfl⟩:=cR e
    refine⟨ρ,Γ,S,ds,t,S1,ok,e1,fun ρ' a vs H' x st h r=>⟨a,ss,rfl,?_,c2,fun l out hl h1 h2=> ?_⟩⟩
    ·rw[←zU r e2];exact h.sqL c
    ·cases Ds h1 h2
     exact q _ _ _ _ (x.trans (cH.laid hl)) (st.lay hl) (x.grow _ hl) (dP x st hl) b_ (vO _)
   ·cases e
  ·cases e
def q0:List D->Option (List Str)
 | []=>some []
 |.tup (.str x::_)::r=>(q0 r).bind fun xs=>some (x::xs)
 |_::_=>none
theorem y0{M:Md}{ρ:List Addr}{H:Hp}:∀{ds:List D} {vs:List V} {xs:List Str},bq M ρ H ds vs->q0 ds=some xs->∃rs:List Addr,vs=rs.map V.ref/\vh H rs xs
 | [],_,_,h,e=>by cases h;cases e;exact⟨[],rfl,.nil⟩
 | .tup (.str x::us)::r,_,_,h,e=>by
   simp only[q0] at e
   obtain⟨bs',e1,e⟩:=ar e
   cases e
   cases h with
   | cons h hs=>
     cases h with
     | tup h hr=>
       obtain⟨rs,rfl,F⟩:=y0 hs e1
       cases hr with
       | cons hx hr=>
         cases hx
         exact⟨_::rs,rfl,.cons h F⟩
 |.tup (.non::_)::_,_,_,_,e=>by cases e
 |.tup (.bl _::_)::_,_,_,_,e=>by cases e
 |.tup (.int _::_)::_,_,_,_,e=>by cases e
 |.tup (.tup _::_)::_,_,_,_,e=>by cases e
 |.tup (.ref _::_)::_,_,_,_,e=>by cases e
 |.tup (.fn _::_)::_,_,_,_,e=>by cases e
 |.tup []::_,_,_,_,e=>by cases e
 |.non::_,_,_,_,e=>by cases e
 |.bl _::_,_,_,_,e=>by cases e
 |.int _::_,_,_,_,e=>by cases e
 |.str _::_,_,_,_,e=>by cases e
 |.ref _::_,_,_,_,e=>by cases e
 |.fn _::_,_,_,_,e=>by cases e
def tq(ss:List Str)(ds:List D):List D:=Zp.sortBy ss .non ds
def uf{α β:Type}{R:α->β->Prop}{ss:List Str}{xs:List α}{ys:List β}{d:α}{d':β}(hl:xs.length=ys.length)(h3:xs.length<=3)(h:∀(i:Nat) (x:α),xs[i]?=some x->∃y,ys[i]?=some y/\R x y):
  ∀(i:Nat) (x:α),(Zp.sortBy ss d xs)[i]?=some x->∃y,(Zp.sortBy ss d' ys)[i]?=some y/\R x y:=by
 intro i x e
 unfold Zp.sortBy at *
 rw[←hl]
 split at e
 ·rename_i c;rw[Qhq c];exact h i x e
 ·rename_i h2
  obtain⟨_,perm⟩:=Zp.rR xs.length h3 (by omega)
  have hperm:(Zp.jr (Zp.Ki ss) (PySem.W.kas_sort xs.length)).toList.Perm (List.range xs.length):=List.isPerm_iff.mp (QUq.mp perm _ (Zp.iV _ _))
  rw[gQm] at e
  obtain⟨k,hk,e⟩:=oQm.mp e
  have hlt:k<xs.length:=List.mem_range.mp (hperm.mem_iff.mp (mQg hk))
  have ex:xs[k]?=some x:=by
   rw[Qlq,gQe hlt] at e
   rw[gQe hlt]
   exact congrArg some e
  obtain⟨y,ey,r⟩:=h k x ex
  refine⟨y,?_,r⟩
  rw[Quq (by omega),gQm,hk]
  simp[Qlq,ey]
theorem bq.of_get{M:Md}{ρ:List Addr}{H:Hp}:∀{ds:List D} {vs:List V},ds.length=vs.length->(∀(i:Nat) (d:D),ds[i]?=some d->∃v,vs[i]?=some v/\Rel M ρ H d v)->bq M ρ H ds vs
 | [],[],_,_=>.nil
 | [],_::_,h,_=>by cases h
 |_::_,[],h,_=>by cases h
 | d::ds,v::vs,h,g=>by
   obtain⟨v',e,r⟩:=g 0 d rfl
   cases e
   exact .cons r (bq.of_get (Nat.succ.inj h) fun i d hd=>by
     obtain⟨v,e,r⟩:=g (i+1) d (by simpa using hd)
     exact⟨v,by simpa using e,r⟩)
def xZ(f:eJ):g9:=fun Γ S=>(f Γ S).bind fun(p,S1)=>if p.2.isL=true then(q0 p.1).bind fun ss=>if p.1.length<=3/\ss.Nodup then some (tq ss p.1,S1) else none else none
def CI{f:eJ}{p:Pos}(hg:Gl X "sorted")(hm:X.mg "sorted"=none)(ha:PE X a (tQ (md X) f))(hs:starEach [a] X.env= [(false,eval a X.env)]:=by rfl):
  PE X (.Call (.Name "sorted" p) [a] [] pos) (tL (md X) (xZ f)):=
 kR (eR uO hg hm PyProof.Rows.boot_sorted (dC ha gK hs) (he:=hs)) fun σ H Q qq=>by
  obtain⟨ρ,Γ,S,d,S',ok,e,q⟩:=qq
  obtain⟨⟨⟨ds,t⟩,S1⟩,e1,e⟩:=ar e
  dsimp only at e
  split at e
  ·rename_i c
   obtain⟨ss,e2,e⟩:=ar e
   split at e
   ·rename_i c2
    obtain⟨rfl,rfl⟩:=cR e
    refine⟨ρ,Γ,S,ds,t,S1,ok,e1,fun ρ' a vs H' x st h r=> ?_⟩
    obtain⟨rs,rfl,F⟩:=y0 r e2
    have hl:ds.length=rs.length:=by have:=r.length;simpa using this
    refine⟨a,rs,ss,rfl,h.sqL c,by omega,F,c2.2,fun l hl'=> ?_⟩
    refine q _ _ _ _ (x.trans (cH.laid hl')) (st.lay hl') (x.grow _ hl') (dP x st hl') b_ (bq.ext (cH.laid hl') ?_)
    refine bq.of_get ?_ fun i d hd=> ?_
    ·rw[lQm]
     unfold tq
     rw[(Zp.eO ss ds c2.1).length_eq,(Zp.eO ss rs (by omega)).length_eq,hl]
    ·obtain⟨y,ey,r'⟩:=uf (R:=fun(d:D) (a:Addr)=>Rel (md X) ρ' H' d (.ref a)) (d':=0) hl c2.1 (fun i d hd=>by
      obtain⟨v,ev,rv⟩:=r.get hd
      rw[gQm] at ev
      obtain⟨y,ey,rfl⟩:=oQm.mp ev
      exact⟨y,ey,rv⟩) i d hd
     exact⟨.ref y,by rw[gQm,ey];rfl,r'⟩
   ·cases e
  ·cases e
end
def B_{P:Program}{w:World}{K:PySem.W.Frag}{mg:Str->Option Value}{base:Heap}{f:Addr}{fd:FuncData}{ps:List Str}{k n:Nat}:bJ P w K mg base eD k f fd ps (eN ⟨K,mg⟩ n fun _ _=>none):=
 {len:=fun vs H Q E h=>by
   obtain⟨_,_,_,_,_,_,_,_,e,_⟩:=h
   cases e
  run:=fun A outer s H args us vs Q E _ _ _ _ h=>by
   obtain⟨_,_,_,_,_,_,_,_,e,_⟩:=h
   cases e}
end DL
namespace Zq
open PySem PyProof.Rows
end Zq
namespace L2
open PySem PyProof.Rows Zq
end L2
namespace DL
open PySem PySem.Spec L2
structure Co(P:Program)(w:World)(K:PySem.W.Frag)(mg:Str->Option Value)(x:Str)(tbl:List (Str×Str)):Prop where
 at_:∃a,mg x=some (.ref a)/\∀h:Heap,K.In h->∃vs,h.DictOf (cq P w) a vs/\∀k nm,tbl.lookup k=some nm->∃f,valueAt vs (Sum.inr k:Key)=some (.ref f)/\mg nm=some (.ref f)
section
variable{X:Cx}{a b c e:Expr}{pos:Pos}
def L9(tbl:List (Str×Str))(g:bN):bN:=fun Γ S=>(g Γ S).bind fun(y,S1)=>match y with
 |.str x=>(tbl.lookup x).bind fun nm=>some (.fn nm,S1)
 |_=>none
def Gw{x:Str}{tbl:List (Str×Str)}{g:bN}{p:Pos}(hD:Co X.prog X.w X.K X.mg x tbl)(hg:Gl X x)(hb:PE X b (tD (md X) g))(hs:Gk b)(hd:(x==("__debug__":Str))=false:=by decide):
  PE X (.Subscript (.Name x p) b pos) (tD (md X) (L9 tbl g)):=by
 rintro pins s σ H Q I ⟨ρ,Γ,S,d,S',ok,e,q⟩
 obtain⟨a,hm,hK⟩:=hD.at_
 obtain⟨⟨y,S1⟩,e1,e⟩:=ar e
 cases y with
 | str z=>
   obtain⟨nm,e2,e⟩:=ar e
   obtain⟨rfl,rfl⟩:=cR e
   refine Bv PySem.F.slot_dict_getitem.lookup hs (xP I hg hm ?_ hd)
   refine dr (hb pins s σ H (fun v H'=>∃ρ',cH ρ H ρ' H'/\gG (md X) ρ' S1 H'/\Rel (md X) ρ' H' (.str z) v) I ⟨ρ,Γ,S,_,S1,ok,e1,fun ρ' v H' x st r=>⟨ρ',x,st,r⟩⟩) fun iv s2 qr=> ?_
   obtain⟨v,H2,I2,rv,ρ',x2,st2,r2⟩:=qr
   obtain⟨vs,dd,hv⟩:=hK _ I2.kIn
   obtain⟨f,hf,hmf⟩:=hv z nm e2
   cases r2
   have ty:s2.TypeIs (.ref a) "dict":=by
     obtain⟨o,es,ep,h1,h2,h3,_⟩:=dd
     exact⟨o,h1,h2.1⟩
   refine⟨ty,wpAny_getItem_of (zQ (k:=Sum.inr z) rv) dd.mapOf hf ?_⟩
   exact⟨.ref f,H2,I2.tok _,rfl,q _ _ _ x2 st2 (.fn hmf)⟩
 |_=>cases e
def tM(i:Nat)(T:List (Str×dX))(g:g9):bN:=fun Γ S=>match Γ[i]? with
 |some (some (.fn x))=>(T.lookup x).bind fun F=>aA F g Γ S
 |_=>none
def Hk{i k:Nat}{y:Str}{ps:List Str}{T:List (Str×dX)}{es:List Expr}{g:g9}{p:Pos}(hT:∀x F,T.lookup x=some F->fB X.prog X.w X.K X.mg X.base k x ps F)(hr:eX k X.A)(hN:X.N[i]?=some y)(hv:HM X.env.scope y)
  (ha:PA X (e::es) (zr (md X) g)) (hn:nA ps.length g) (hdb:(y==("__debug__":Str))=false:=by decide) (hcd:(y==("__classdict__":Str))=false:=by decide) (he:starEach (e::es) X.env=(false,eval e X.env)::starEach es X.env:=by rfl) (hpl:(backTo pos (starEach es X.env)).any (·.1)=false:=by rfl):
  PE X (.Call (.Name y p) (e::es) [] pos) (tD (md X) (tM i T g)):=by
 rintro pins s σ H Q I ⟨ρ,Γ,S,d,S',ok,e,q⟩
 unfold tM at e
 split at e
 ·rename_i x hx
  obtain⟨F,e1,e⟩:=ar e
  obtain⟨f,fd,G,bb,kp,m⟩:=(hT x F e1).ex
  obtain⟨v,hσ,rv⟩:=ok.en.get i _ hx
  cases rv with
  | fn hm=>
    have hh:(md X).mg x=some (.ref f):=m
    rw[hm] at hh
    cases hh
    refine wpAny_Call_Name_kw (dr (DZ hN hv hdb hcd pins s σ H (fun v' H'=>v'=.ref f/\H'=H) I ⟨_,hσ,rfl,rfl⟩) fun u s1 qr=> ?_)
    obtain⟨v',H',I1,r1,e1,e2⟩:=qr
    subst e1 e2
    cases (show u=Value.ref f from r1)
    refine PySem.W.callWith_K (h₀:=X.base) I.ok.mod.kin kp (dr (ha pos pins s1 σ H' _ I1 (BK hn σ H' Q ⟨ρ,Γ,S,d,S',ok,e,q⟩)) fun us s2 ⟨vs,H1,I2,r,q2⟩=>⟨I2.kIn,?_⟩) he hpl
    exact Eo G hr bb .nil Fh I2 r q2
 ·cases e
end
def A7(w:World)(x:Str):PyData.keyHash w.params x=hashStr w x:=by
 unfold PyData.keyHash hashStr
 first|rfl|simp
inductive Al(w:World)(mg:Str->Option Value):List DictEntry->List (Str×Str)->Prop
 |nil:Al w mg [] []
 |cons {x nm:Str} {t:Tok} {f:Addr} {es:List DictEntry} {tbl:List (Str×Str)}:mg nm=some (.ref f)->Al w mg es tbl->Al w mg (⟨PyData.keyHash w.params x,.str x t,.ref f⟩::es) ((x,nm)::tbl)
def Al.keys{P:Program}{w:World}{mg:Str->Option Value}{es:List DictEntry}{tbl:List (Str×Str)}(al:Al w mg es tbl):∀e∈es,∃k,(cq P w).is k e.key=true/\e.hash=(cq P w).hash k:=by
 induction al with
 |nil=>intro e h;cases h
 | @cons x nm t f es tbl hm al ih=>
   intro e h
   rcases Qsq.mp h with rfl|h
   · exact⟨Sum.inr x,pZ x t,A7 w x⟩
   · exact ih e h
def Al.pairs{P:Program}{w:World}{mg:Str->Option Value}{es:List DictEntry}{tbl:List (Str×Str)}(al:Al w mg es tbl):∃vs:List (Key×Value),Pairs (cq P w) es vs/\vs.map (·.1)=tbl.map (fun p=>Sum.inr p.1)∧
  ∀k nm,tbl.lookup k=some nm->∃f,valueAt vs (Sum.inr k:Key)=some (.ref f)/\mg nm=some (.ref f):=by
 induction al with
 |nil=>exact⟨[],.nil,rfl,fun k nm h=>by cases h⟩
 | @cons x nm t f es tbl hm al ih=>
   obtain⟨vs,h1,h2,h3⟩:=ih
   refine⟨(Sum.inr x,.ref f)::vs,.cons (pZ x t) rfl h1,by simp[h2],fun k n h=> ?_⟩
   by_cases c:k=x
   · subst c
     rw[List.lookup_cons_self] at h
     cases h
     refine⟨f,?_,hm⟩
     unfold valueAt
     rw[List.find?_cons_of_pos (by simp)]
     rfl
   · have hb:(k==x)=false:=by simpa using c
     rw[List.lookup_cons,hb] at h
     obtain⟨g,g1,g2⟩:=h3 k n h
     refine⟨g,?_,g2⟩
     unfold valueAt at g1⊢
     rw[List.find?_cons_of_neg]
     · exact g1
     · intro z
       have:(Sum.inr x:Key)=Sum.inr k:=by simpa using z
       exact c (Sum.inr.inj this).symm
def EW{P:Program}{w:World}{K:PySem.W.Frag}{mg:Str->Option Value}{x:Str}{tbl:List (Str×Str)}{a:Addr}{es:List DictEntry}{ep:Nat}(hm:mg x=some (.ref a))(l:K.lookup a=some ⟨.type "dict",none,.dict es.toArray ep,#[]⟩)(al:Al w mg es tbl)(nd:(tbl.map (·.1)).Nodup):Co P w K mg x tbl:=by
 obtain⟨vs,h1,h2,h3⟩:=al.pairs (P:=P)
 refine⟨a,hm,fun h hk=>⟨vs,⟨_,_,_,hk _ _ l,⟨rfl,rfl,rfl⟩,rfl,fun e he=>al.keys e (by simpa using he),by simpa using h1,?_⟩,h3⟩⟩
 rw[h2]
 have:tbl.map (fun p=>(Sum.inr p.1:Key))=(tbl.map (·.1)).map Sum.inr:=by rw[QPq];rfl
 rw[this]
 exact List.Pairwise.map _ (fun a b n e=>n (Sum.inr.inj e)) nd
theorem EE{P:Program}{w:World}{K:PySem.W.Frag}{mg:Str->Option Value}{base:Heap}{k:Nat}{ps:List Str}:∀{T:List (Str×dX)},(∀p∈T,fB P w K mg base k p.1 ps p.2)->∀x F,T.lookup x=some F->fB P w K mg base k x ps F
 | [],_,x,F,h=>by cases h
 | p::T,g,x,F,h=>by
   by_cases c:x=p.1
   · subst c
     rw[List.lookup_cons_self] at h
     cases h
     exact g p (QBq ..)
   · have hb:(x==p.1)=false:=by simpa using c
     rw[List.lookup_cons,hb] at h
     exact EE (fun q hq=>g q (Qpq _ hq)) x F h
def z_:Sp:=fun vs H Q _=>∃(a:Addr) (ns:List Int) (o:Obj),vs= [.ref a]/\H a=some (.frz o (.lst (ns.map V.int)))/\ns.length<=63/\∀H',Q (.bl true) H'
theorem v5{M:Md}{ρ:List Addr}{H:Hp}:∀ns:List Int,bq M ρ H (ns.map D.int) (ns.map V.int)
 | []=>.nil
 |s::ss=>.cons (.int s) (v5 ss)
def Gv{P:Program}{w:World}{K:PySem.W.Frag}{mg:Str->Option Value}{base:Heap}{k:Nat}{f:Addr}{fd:FuncData}{ps:List Str}{F:dX}(G:bJ P w K mg base eD k f fd ps (eN ⟨K,mg⟩ 1 F))
  (h:∀ns:List Int,ns.length<=63->∃S',F [.ref 0] [.frz (ns.map D.int)]=some (.d (.bl true),S')):bJ P w K mg base eD k f fd ps z_:=
 G.imp fun vs H Q E qq=>by
  obtain⟨a,ns,o,e,ha,hl,q⟩:=qq
  subst e
  obtain⟨S',e⟩:=h ns hl
  refine⟨[a],[.frz (ns.map D.int)],[.ref 0],_,S',rfl,.cons (.ref rfl) .nil,⟨rfl,by simp,fun k b o' h1 h2=> ?_⟩,e,fun ρ' v H' x st r=> ?_⟩
  ·cases k with
   |zero=>cases h1;cases h2;exact⟨_,o,ha,v5 ns⟩
   |succ k=>simp at h1
  ·cases r
   exact q H'
def Bm(K:PySem.W.Frag):Bool:=K.all fun p=>match p.2.data with|.seq _ _=>(match p.2.cls with|.type s=>s !="list" |_=>true)|_=>true
def C4{K:PySem.W.Frag}(h:Bm K=true){a:Addr}{o:Obj}(e:K.lookup a=some o){its:Array Value}{n:Nat}(hd:o.data=.seq its n):o.cls≠.type "list":=by
 intro hc
 have gen:∀(K:List (Addr×Obj)),K.all (fun p=>match p.2.data with|.seq _ _=>(match p.2.cls with|.type s=>s !="list" |_=>true)|_=>true)=true->K.lookup a=some o->False:=by
  intro K
  induction K with
  |nil=>intro _ e;cases e
  | cons p K ih=>
    intro h e
    rw[List.all_cons,QCq] at h
    obtain⟨b,q⟩:=p
    rw[List.lookup_cons] at e
    by_cases c:a=b
    · subst c
      simp only[BEq.rfl] at e
      cases e
      have h1:=h.1
      simp only[hd,hc] at h1
      simp at h1
    · have hb:(a==b)=false:=by simpa using c
      rw[hb] at e
      exact ih h.2 e
 exact gen K h e
def Lz{K:PySem.W.Frag}{H:Hp}{a:Addr}{ns:List Int}(nl:Bm K=true)(hl:ns.length<=63)(hO:G0 H)(hS:ik K H a (ns.map V.int)):z_ [.ref a] H (fun v _=>v=.bl true) fun _ _ _=>False:=by
 rcases hS with(h|⟨o,h⟩)|⟨o,its,n,h,hc,_,hd,_⟩
 ·rcases hO a with z|⟨o,xs,z⟩
  ·rw[h] at z;cases z
  ·rw[h] at z;cases z
 ·exact⟨a,ns,o,rfl,h,hl,fun _=>rfl⟩
 ·exact absurd hc (C4 nl h hd)
def La{l:PySem.W.OpenLaw}{q:Program}{loose:List Str}{XP:(Str->Option Value)->Heap->Prop}{YP:World->Heap->Prop}{d:DefRec}{K:Params->PySem.W.Frag}{k:Nat}(hn:l.most=some 63)(hdf:d.params.defaults= [])(hr:eX k PySem.callerA)
  (hY:∀(w:World) (h:Heap),YP w h->(K w.params).In h) (nl:∀w:World,Bm (K w.params)=true)
  (F:∀(w:World) (mg:Str->Option Value) (fa:Addr) (h:Heap),(K w.params).In h->h.Ns mainGlobals mg->mg d.name=some (.ref fa)→
   ∃fd:FuncData,(∀(s:Shared) (u:Value),BindsTo s fd ⟨[u],[]⟩ [("_law_script",u)])/\∀base:Heap,(K w.params).In base->base.Ns mainGlobals mg->bJ l.prog w (K w.params) mg base eD k fa fd ["_law_script"] z_):
  PySem.W.WalkO q loose XP YP l.row.toRowW d [] (fun f vs=>PySem.call f vs):=
 L2.Gn (n:=63) (k:=k) (x:="_law_script") (CX:=fun _=>eD) (sp:=fun _=>z_) hn (by decide) hdf hr hY F (fun w H a ns hl hO hS=>Lz (nl w) hl hO hS) fun _ _ _ _ _ z=>z
end DL
namespace DL
open PySem PySem.Spec L2 PyProof.Rows
section
variable{X:Cx}{x:Str}{e:Expr}{f:bN}{pos pos':Pos}
def bI(i:Nat)(hN:X.N.Nodup)(he:PE X e (tD (md X) f))(hi:X.N[i]?=some x:=by rfl)(hx:Loc X.env.scope x:=by first|exact Or.inl rfl|exact Or.inr rfl)(hs:swapsWith e (some (.Name x pos')) pos.line X.env=pure false:=by rfl)
  (hf:X.fn x=true\/X.env.scope.names.lookup x=some .local:=by first|exact .inl rfl|exact .inr rfl|assumption):PS X (.Assign [.Name x pos'] e pos) (tS (md X) (bt i f)):=KH (Js hN hi hx he hs hf)
def JJ(i:Nat)(hN:X.N.Nodup)(hi:X.N[i]?=some x:=by rfl)(hx:Loc X.env.scope x:=by first|exact Or.inl rfl|exact Or.inr rfl)(hf:X.fn x=true\/X.env.scope.names.lookup x=some .local:=by first|exact .inl rfl|exact .inr rfl|assumption):PG X (.Name x pos) (su i):=wK hN hi hx hf
def bT(i:Nat)(hN:X.N.Nodup)(hi:X.N[i]?=some x:=by rfl)(hx:Loc X.env.scope x:=by first|exact Or.inl rfl|exact Or.inr rfl)(hf:X.fn x=true\/X.env.scope.names.lookup x=some .local:=by first|exact .inl rfl|exact .inr rfl|assumption):PG X (.Name x pos) (tG (md X) (cC i)):=FC (wK hN hi hx hf)
def fc{N:List Str}{scope:Scope}{cl:List (Str×Addr)}{C:Addr}{s:Shared}{H:Hp}{fp:List Addr}(i:Nat)(hN:N.Nodup:=by decide +kernel)(hi:(bo X N scope cl C s H fp).N[i]?=some x:=by rfl)(hx:Loc (bo X N scope cl C s H fp).env.scope x:=by first|exact Or.inl rfl|exact Or.inr rfl)
  (hf:(bo X N scope cl C s H fp).fn x=true\/(bo X N scope cl C s H fp).env.scope.names.lookup x=some .local:=by first|exact .inl rfl|exact .inr rfl|assumption):PG (bo X N scope cl C s H fp) (.Name x pos) (tG (md (bo X N scope cl C s H fp)) (cC i)):=FC (wK hN hi hx hf)
def v_(i:Nat)(hN:X.N[i]?=some x:=by rfl)(hv:HM X.env.scope x:=by first|exact Or.inl rfl|exact Or.inr (Or.inl rfl)|exact Or.inr (Or.inr rfl))(hd:(x==("__debug__":Str))=false:=by decide)(hcd:(x==("__classdict__":Str))=false:=by decide):PE X (.Name x pos) (tD (md X) (aq i)):=LC (pv i hN hv hd hcd)
end
section
variable{X:Cx}{x:Str}{k k':Nat}{ps:List Str}{F:dX}{e:Expr}{es:List Expr}{g:g9}{p pos:Pos}
def aP(C:fB X.prog X.w X.K X.mg X.base k x ps F)(hr:eX k' X.A)(ha:PA X (e::es) (zr (md X) g))(hk:k<=k':=by first|decide|omega)(hg:Gl X x:=by rfl)
  (hn:nA ps.length g:=by first|exact cu iR|exact cu (cu iR)|exact cu (cu (cu iR))|exact cu (cu (cu (cu iR)))|repeat (first|exact iR|refine cu ?_))
  (hdb:(x==("__debug__":Str))=false:=by decide) (he:starEach (e::es) X.env=(false,eval e X.env)::starEach es X.env:=by rfl) (hpl:(backTo pos (starEach es X.env)).any (·.1)=false:=by rfl):
  PE X (.Call (.Name x p) (e::es) [] pos) (tD (md X) (aA F g)):=K_ C (hr.mono hk) hg ha hn hdb he hpl
def jJ(C:fB X.prog X.w X.K X.mg X.base k x ps F)(hr:eX k' X.A)(ha:PA X (e::es) (zr (md X) g))(hk:k<=k':=by first|decide|omega)(hg:Gl X x:=by rfl)
  (hn:nA ps.length g:=by first|exact cu iR|exact cu (cu iR)|exact cu (cu (cu iR))|exact cu (cu (cu (cu iR)))|repeat (first|exact iR|refine cu ?_))
  (hdb:(x==("__debug__":Str))=false:=by decide) (he:starEach (e::es) X.env=(false,eval e X.env)::starEach es X.env:=by rfl) (hpl:(backTo pos (starEach es X.env)).any (·.1)=false:=by rfl):
  PE X (.Call (.Name x p) (e::es) [] pos) (tL (md X) (dY F g)):=LK C (hr.mono hk) hg ha hn hdb he hpl
end
def Nb{us:List Value}(h:us.length=1):∃a0,us= [a0]:=by
 cases us with
 |nil=>simp at h
 | cons x0 us=>
   cases us with
   |cons y us=>simp at h
   |nil=>exact⟨x0,rfl⟩
def Nh{us:List Value}(h:us.length=2):∃a0 a1,us= [a0,a1]:=by
 cases us with
 |nil=>simp at h
 | cons x0 us=>
   cases us with
   |nil=>simp at h
   | cons x1 us=>
     cases us with
     |cons y us=>simp at h
     |nil=>exact⟨x0,x1,rfl⟩
def Nm{us:List Value}(h:us.length=3):∃a0 a1 a2,us= [a0,a1,a2]:=by
 cases us with
 |nil=>simp at h
 | cons x0 us=>
   cases us with
   |nil=>simp at h
   | cons x1 us=>
     cases us with
     |nil=>simp at h
     | cons x2 us=>
       cases us with
       |cons y us=>simp at h
       |nil=>exact⟨x0,x1,x2,rfl⟩
def Nt{us:List Value}(h:us.length=4):∃a0 a1 a2 a3,us= [a0,a1,a2,a3]:=by
 cases us with
 |nil=>simp at h
 | cons x0 us=>
   cases us with
   |nil=>simp at h
   | cons x1 us=>
     cases us with
     |nil=>simp at h
     | cons x2 us=>
       cases us with
       |nil=>simp at h
       | cons x3 us=>
         cases us with
         |cons y us=>simp at h
         |nil=>exact⟨x0,x1,x2,x3,rfl⟩
def Nj{us:List Value}(h:us.length=5):∃a0 a1 a2 a3 a4,us= [a0,a1,a2,a3,a4]:=by
 cases us with
 |nil=>simp at h
 | cons x0 us=>
   cases us with
   |nil=>simp at h
   | cons x1 us=>
     cases us with
     |nil=>simp at h
     | cons x2 us=>
       cases us with
       |nil=>simp at h
       | cons x3 us=>
         cases us with
         |nil=>simp at h
         | cons x4 us=>
           cases us with
           |cons y us=>simp at h
           |nil=>exact⟨x0,x1,x2,x3,x4,rfl⟩
def fK{N P:List Str}{sc:Scope}(a:sc.kind=.function:=by rfl)(b:sc.isCoroutine=false:=by rfl)(c:sc.isGenerator=false:=by rfl)(d:N.Nodup:=by decide +kernel)(e:N.take P.length=P:=by rfl)
  (f:∀x∈P,sc.names.lookup x=some .local\/sc.names.lookup x=some .cell:=by decide +kernel) (g:∀y∈sc.names,y.2≠.free:=by decide +kernel):aM N P sc:=⟨a,b,c,d,e,f,g⟩
structure bx(K:PySem.W.Frag)(x:Str)(st:Stmt)(f:Addr):Prop where
 ex:∃(oc:Value) (od:Option Addr) (kV dc pm:Value) (an:Option Addr) (cd ct:Value) (sl:Array (Option Value)),PySem.W.nsIn K mainGlobals x=some (some (.ref f))∧
  K.lookup f=some ⟨oc,od,.func (PySem.W.fnOf x x (iu st) (gk st) (aD st) .none kV dc pm an cd ct),sl⟩/\PySem.W.codeIn K cd x=true/\PySem.W.keepIn K (.ref f)=true
def bx.of{K:PySem.W.Frag}{x:Str}{st:Stmt}{f:Addr}{oc:Value}{od:Option Addr}{kV dc pm:Value}{an:Option Addr}{cd ct:Value}{sl:Array (Option Value)}(a:PySem.W.nsIn K mainGlobals x=some (some (.ref f)))
  (l:K.lookup f=some ⟨oc,od,.func (PySem.W.fnOf x x (iu st) (gk st) (aD st) .none kV dc pm an cd ct),sl⟩) (c:PySem.W.codeIn K cd x=true) (k:PySem.W.keepIn K (.ref f)=true):bx K x st f:=⟨oc,od,kV,dc,pm,an,cd,ct,sl,a,l,c,k⟩
structure Mf(K:PySem.W.Frag)(mg:Str->Option Value)(x:Str)(st:Stmt)(ps:List Str)(f:Addr):Prop where
 ex:∃fd,eY K x x st f fd/\Binds K fd ps []/\PySem.W.keepIn K (.ref f)=true
 m:mg x=some (.ref f)
def bx.ok1{K:PySem.W.Frag}{mg:Str->Option Value}{x:Str}{st:Stmt}{ps:List Str}{f:Addr}{h:Heap}(D:bx K x st f)(X:K.In h)(G:h.Ns mainGlobals mg)
  (hb:∀(kV doc pm:Value) (an:Option Addr) (cdv ct:Value) (us:List Value),us.length=ps.length->bindArgs (PySem.W.fnOf x x (iu st) (gk st) (aD st) .none kV doc pm an cdv ct) ⟨us,[]⟩=pure (ps.zip us):=by intro _ _ _ _ _ _ us hl;first|(obtain⟨_,rfl⟩:=Nb hl;rfl)|(obtain⟨_,_,rfl⟩:=Nh hl;rfl)|(obtain⟨_,_,_,rfl⟩:=Nm hl;rfl)|(obtain⟨_,_,_,_,rfl⟩:=Nt hl;rfl)|(obtain⟨_,_,_,_,_,rfl⟩:=Nj hl;rfl)|(obtain rfl:=us0 hl;rfl)|(obtain⟨_,_,_,_,_,_,rfl⟩:=us6 hl;rfl)):Mf K mg x st ps f:=by
 obtain⟨oc,od,kV,dc,pm,an,cd,ct,sl,h1,h2,h3,h4⟩:=D.ex
 exact⟨⟨_,AV h2 h3 h4,(AV h2 h3 h4).binds hb,h4⟩,PySem.W.mg_of X G h1⟩
structure Pk(P:Program)(w:World)(base:Heap):Prop where
def Mf.cal{P:Program}{w:World}{base:Heap}{K:PySem.W.Frag}{mg:Str->Option Value}{x:Str}{st:Stmt}{ps:List Str}{f:Addr}{k:Nat}{F:dX}(O:Mf K mg x st ps f)(Z:Pk P w base)
  (h:∀fd,eY K x x st f fd->Binds K fd ps []->PySem.W.keepIn K (.ref f)=true->mg x=some (.ref f)->bJ P w K mg base eD k f fd ps (eN ⟨K,mg⟩ ps.length F)):fB P w K mg base k x ps F:=by
 obtain⟨fd,h1,h2,h3⟩:=O.ex
 exact⟨f,fd,h fd h1 h2 h3 O.m,h2,h3,O.m⟩
end DL
namespace DL
open PySem PySem.Spec L2
def E{α:Type}(f:dh->aK->Option (α×aK))(Γ:dh)(S:aK)(Q:α->aK->Prop):Prop:=∃a S',f Γ S=some (a,S')/\Q a S'
def T(f:dt)(Γ:dh)(S:aK)(Q:Out->Prop):Prop:=∃o,f Γ S=some o/\Q o
def Fn(F:dX)(ds:List D)(S:aK)(Q:Res->aK->Prop):Prop:=∃r S',F ds S=some (r,S')/\Q r S'
def Tg(g:nW)(d:D)(Γ:dh)(S:aK)(Q:dh->aK->Prop):Prop:=∃Γ' S',g d Γ S=some (Γ',S')/\Q Γ' S'
def L0(g:rh)(d:List D)(Γ:dh)(S:aK)(Q:dh->aK->Prop):Prop:=∃Γ' S',g d Γ S=some (Γ',S')/\Q Γ' S'
def Op{α:Type}(o:Option α)(Q:α->Prop):Prop:=∃d,o=some d/\Q d
section
variable{Γ:dh}{S:aK}
def E.mono{α:Type}{f:dh->aK->Option (α×aK)}{Q R:α->aK->Prop}(h:E f Γ S Q)(i:∀a S,Q a S->R a S):E f Γ S R:=by
 obtain⟨a,S',e,q⟩:=h
 exact⟨a,S',e,i _ _ q⟩
def T.mono{f:dt}{Q R:Out->Prop}(h:T f Γ S Q)(i:∀o,Q o->R o):T f Γ S R:=by
 obtain⟨a,e,q⟩:=h
 exact⟨a,e,i _ q⟩
def cG{i:Nat}{d:D}{Q:D->aK->Prop}(h:Γ[i]?=some (some d))(q:Q d S):E (aq i) Γ S Q:=⟨d,S,by unfold aq;rw[h],q⟩
def DT{d:D}{Q:D->aK->Prop}(q:Q d S):E (cF d) Γ S Q:=⟨d,S,rfl,q⟩
def tJ{Q:List D->aK->Prop}(q:Q [] S):E aw Γ S Q:=⟨[],S,rfl,q⟩
def jo{f:bN}{g:g9}{Q:List D->aK->Prop}(h:E f Γ S fun d S1=>E g Γ S1 fun ds S2=>Q (d::ds) S2):E (ao f g) Γ S Q:=by
 obtain⟨d,S1,e1,ds,S2,e2,q⟩:=h
 exact⟨_,_,by unfold ao;rw[e1];simp only[Qbq];rw[e2];rfl,q⟩
def nH{o:uH}{f g:bN}{Q:D->aK->Prop}(h:E f Γ S fun x S1=>E g Γ S1 fun y S2=>Op (o S2 x y) fun d=>Q d S2):E (aE o f g) Γ S Q:=by
 obtain⟨x,S1,e1,y,S2,e2,d,e3,q⟩:=h
 exact⟨d,S2,by unfold aE;rw[e1];simp only[Qbq];rw[e2];simp only[Qbq];rw[e3];rfl,q⟩
def yu{f:g9}{Q:D->aK->Prop}(h:E f Γ S fun ds S1=>ds.length<=sizeLine/\Q (.tup ds) S1):E (bA f) Γ S Q:=by
 obtain⟨ds,S1,e1,l,q⟩:=h
 exact⟨_,_,by unfold bA;rw[e1];simp only[Qbq];rw[Qhq l],q⟩
def GB{f:g9}{Q:List D->aK->Prop}(h:E f Γ S fun ds S1=>ds.length<=sizeLine/\Q ds S1):E (cg f) Γ S Q:=by
 obtain⟨ds,S1,e1,l,q⟩:=h
 exact⟨_,_,by unfold cg;rw[e1];simp only[Qbq];rw[Qhq l],q⟩
def HU{f:g9}{Q:D->aK->Prop}(h:E f Γ S fun ds S1=>Q (.ref S1.length) (S1++ [.lst ds])):E (cM f) Γ S Q:=by
 obtain⟨ds,S1,e1,q⟩:=h
 exact⟨_,_,by unfold cM;rw[e1];rfl,q⟩
def Mq{o:HL}{f:g9}{Q:D->aK->Prop}(h:E f Γ S fun ds S1=>Op (o ds) fun d=>Q d S1):E (yz o f) Γ S Q:=by
 obtain⟨ds,S1,e1,d,e2,q⟩:=h
 exact⟨d,S1,by unfold yz;rw[e1];simp only[Qbq];rw[e2];rfl,q⟩
def i_{f:bN}{Q:(List D×Tag)->aK->Prop}(h:E f Γ S fun d S1=>Op (t5 S1 d) fun p=>Q p S1):E (bu f) Γ S Q:=by
 obtain⟨ds,S1,e1,d,e2,q⟩:=h
 exact⟨d,S1,by unfold bu;rw[e1];simp only[Qbq];rw[e2];rfl,q⟩
def Aw{f:g9}{Q:(List D×Tag)->aK->Prop}(h:E f Γ S fun ds S1=>Q (ds,.fr) S1):E (iM f) Γ S Q:=by
 obtain⟨ds,S1,e1,q⟩:=h
 exact⟨_,S1,by unfold iM;rw[e1];rfl,q⟩
def Ij{f:eJ}{Q:D->aK->Prop}(h:E f Γ S fun p S1=>Q (.int p.1.length) S1):E (jI f) Γ S Q:=by
 obtain⟨p,S1,e1,q⟩:=h
 exact⟨_,S1,by unfold jI;rw[e1];rfl,q⟩
def Jc{f:eJ}{Q:D->aK->Prop}(h:E f Γ S fun p S1=>Q (.tup p.1) S1):E (tupQ f) Γ S Q:=by
 obtain⟨p,S1,e1,q⟩:=h
 exact⟨_,S1,by unfold tupQ;rw[e1];rfl,q⟩
def Kj{f:eJ}{Q:(List D×Tag)->aK->Prop}(h:E f Γ S fun p S1=>p.2.isL=true/\Q p S1):E (ip f) Γ S Q:=by
 obtain⟨p,S1,e1,l,q⟩:=h
 exact⟨_,S1,by unfold ip;rw[e1];simp only[Qbq];rw[Qhq l],q⟩
def BM{f:eJ}{Q:D->aK->Prop}(h:E f Γ S fun p S1=>(p.2.isL=true/\p.2.stays S1 p.1)/\Q (.bl (!p.1.isEmpty)) S1):E (ef f) Γ S Q:=by
 obtain⟨p,S1,e1,l,q⟩:=h
 exact⟨_,S1,by unfold ef;rw[e1];simp only[Qbq];rw[Qhq l],q⟩
def Mx{F:dX}{g:g9}{Q:D->aK->Prop}(h:E g Γ S fun ds S1=>Fn F ds S1 fun r S2=>match r with|.d x=>Q x S2|.l _=>False):E (aA F g) Γ S Q:=by
 obtain⟨ds,S1,e1,r,S2,e2,q⟩:=h
 cases r with
 |d x=>exact⟨x,S2,by unfold aA;rw[e1];simp only[Qbq];rw[e2];rfl,q⟩
 |l x=>exact q.elim
def L4{F:dX}{g:g9}{Q:List D->aK->Prop}(h:E g Γ S fun ds S1=>Fn F ds S1 fun r S2=>match r with|.d _=>False|.l x=>Q x S2):E (dY F g) Γ S Q:=by
 obtain⟨ds,S1,e1,r,S2,e2,q⟩:=h
 cases r with
 |d x=>exact q.elim
 |l x=>exact⟨x,S2,by unfold dY;rw[e1];simp only[Qbq];rw[e2];rfl,q⟩
def gf{f:bN}{Q:Bool->aK->Prop}(h:E f Γ S fun d S1=>match d with|.bl k=>Q k S1|_=>False):E (aN f) Γ S Q:=by
 obtain⟨d,S1,e1,q⟩:=h
 cases d with
 |bl k=>exact⟨k,S1,by unfold aN;rw[e1];rfl,q⟩
 |_=>exact q.elim
def DV{f:bN}{Q:Bool->aK->Prop}(h:E f Γ S fun d S1=>Op (Az S1 d) fun k=>Q k S1):E (lu f) Γ S Q:=by
 obtain⟨d,S1,e1,k,e2,q⟩:=h
 exact⟨k,S1,by unfold lu;rw[e1];simp only[Qbq];rw[e2];rfl,q⟩
def FY{f:kd}{Q:Bool->aK->Prop}(h:E f Γ S fun k S1=>Q (!k) S1):E (sX f) Γ S Q:=by
 obtain⟨k,S1,e1,q⟩:=h
 exact⟨_,S1,by unfold sX;rw[e1];rfl,q⟩
def xH{f g:kd}{Q:Bool->aK->Prop}(h:E f Γ S fun k S1=>if k=true then E g Γ S1 Q else Q false S1):E (fV f g) Γ S Q:=by
 obtain⟨k,S1,e1,q⟩:=h
 cases k with
 |true=>obtain⟨j,S2,e2,q⟩:=(q:E g Γ S1 Q);exact⟨j,S2,by unfold fV;rw[e1];exact e2,q⟩
 |false=>exact⟨false,S1,by unfold fV;rw[e1];rfl,q⟩
def M_{f g:kd}{Q:Bool->aK->Prop}(h:E f Γ S fun k S1=>if k=true then Q true S1 else E g Γ S1 Q):E (IC f g) Γ S Q:=by
 obtain⟨k,S1,e1,q⟩:=h
 cases k with
 |true=>exact⟨true,S1,by unfold IC;rw[e1];rfl,q⟩
 |false=>obtain⟨j,S2,e2,q⟩:=(q:E g Γ S1 Q);exact⟨j,S2,by unfold IC;rw[e1];exact e2,q⟩
def M5{c:kd}{f g:bN}{Q:D->aK->Prop}(h:E c Γ S fun k S1=>if k=true then E f Γ S1 Q else E g Γ S1 Q):E (wa c f g) Γ S Q:=by
 obtain⟨k,S1,e1,q⟩:=h
 cases k with
 |true=>obtain⟨j,S2,e2,q⟩:=(q:E f Γ S1 Q);exact⟨j,S2,by unfold wa;rw[e1];exact e2,q⟩
 |false=>obtain⟨j,S2,e2,q⟩:=(q:E g Γ S1 Q);exact⟨j,S2,by unfold wa;rw[e1];exact e2,q⟩
def zK{i:Nat}{f:bN}{Q:Out->Prop}(h:E f Γ S fun d S1=>Q (.nx (Γ.set i (some d)) S1)):T (bt i f) Γ S Q:=by
 obtain⟨d,S1,e1,q⟩:=h
 exact⟨_,by unfold bt;rw[e1];rfl,q⟩
def qW{f:bN}{Q:Out->Prop}(h:E f Γ S fun d S1=>Q (.rt d S1)):T (cP f) Γ S Q:=by
 obtain⟨d,S1,e1,q⟩:=h
 exact⟨_,by unfold cP;rw[e1];rfl,q⟩
def Mi{f:g9}{Q:Out->Prop}(h:E f Γ S fun d S1=>Q (.rl d S1)):T (Es f) Γ S Q:=by
 obtain⟨d,S1,e1,q⟩:=h
 exact⟨_,by unfold Es;rw[e1];rfl,q⟩
def jn{f:bN}{Q:Out->Prop}(h:E f Γ S fun d S1=>Q (.nx Γ S1)):T (nX f) Γ S Q:=by
 obtain⟨d,S1,e1,q⟩:=h
 exact⟨_,by unfold nX;rw[e1];rfl,q⟩
def cN{Q:Out->Prop}(q:Q (.nx Γ S)):T g7 Γ S Q:=⟨_,rfl,q⟩
def Na{f:bN}{g:nW}{Q:Out->Prop}(h:E f Γ S fun d S1=>Tg g d Γ S1 fun Γ1 S2=>Q (.nx Γ1 S2)):T (rY f g) Γ S Q:=by
 obtain⟨d,S1,e1,Γ1,S2,e2,q⟩:=h
 exact⟨_,by unfold rY;rw[e1];simp only[Qbq];rw[e2];rfl,q⟩
def cy{f g:dt}{Q:Out->Prop}(h:T f Γ S fun o=>match o with|.nx Γ1 S1=>T g Γ1 S1 Q|o=>Q o):T (aL f g) Γ S Q:=by
 obtain⟨o,e1,q⟩:=h
 cases o with
 |nx Γ1 S1=>obtain⟨o,e2,q⟩:=(q:T g Γ1 S1 Q);exact⟨o,by unfold aL;rw[e1];exact e2,q⟩
 |_=>exact⟨_,by unfold aL;rw[e1];rfl,q⟩
def f_{c:kd}{f g:dt}{Q:Out->Prop}(h:E c Γ S fun k S1=>if k=true then T f Γ S1 Q else T g Γ S1 Q):T (fE c f g) Γ S Q:=by
 obtain⟨k,S1,e1,q⟩:=h
 cases k with
 |true=>obtain⟨j,e2,q⟩:=(q:T f Γ S1 Q);exact⟨j,by unfold fE;rw[e1];exact e2,q⟩
 |false=>obtain⟨j,e2,q⟩:=(q:T g Γ S1 Q);exact⟨j,by unfold fE;rw[e1];exact e2,q⟩
def bB{i:Nat}{d:D}{Q:dh->aK->Prop}(q:Q (Γ.set i (some d)) S):Tg (cC i) d Γ S Q:=⟨_,_,rfl,q⟩
def Nr{f g:bN}{d:D}{Q:dh->aK->Prop}(h:E f Γ S fun x S1=>E g Γ S1 fun y S2=>∃k i ds j,x=.ref k/\y=.int i/\S2[k]?=some (.lst ds)/\CD ds.length i=some j/\Q Γ (S2.set k (.lst (ds.set j d)))):Tg (Kl f g) d Γ S Q:=by
 obtain⟨x,S1,e1,y,S2,e2,k,i,ds,j,rfl,rfl,h1,h2,q⟩:=h
 exact⟨_,_,by unfold Kl;rw[e1];simp only[Qbq];rw[e2];simp only[Qbq,h1,h2],q⟩
def M3{f g h:bN}{Q:Out->Prop}(w:E f Γ S fun x S1=>E g Γ S1 fun y S2=>∃k i ds m,x=.ref k/\y=.int i/\S2[k]?=some (.lst ds)/\0<=i/\ds[i.toNat]?=some (.int m)/\E h Γ S2 fun z S3=>∃n es j,z=.int n/\S3[k]?=some (.lst es)/\CD es.length i=some j/\Q (.nx Γ (S3.set k (.lst (es.set j (.int (m+n))))))):T (LV f g h) Γ S Q:=by
 obtain⟨x,S1,e1,y,S2,e2,k,i,ds,m,rfl,rfl,h1,h2,h3,z,S3,e3,n,es,j,rfl,h4,h5,q⟩:=w
 exact⟨_,by unfold LV;rw[e1];simp only[Qbq];rw[e2];simp only[Qbq,h1,Qhq h2,h3,e3,h4,h5],q⟩
def kN{i:ye}{g:nW}{b:dt}{Q:Out->Prop} (h:E i Γ S fun p S1=>∃I:Nat->dh->aK->Prop,I 0 Γ S1/\(∀n Γ' S',I n Γ' S'->p.2 S')∧
   (∀(n:Nat) (d:D) (Γ':dh) (S':aK),p.1[n]?=some d->I n Γ' S'->Tg g d Γ' S' fun Γ1 S2=>T b Γ1 S2 fun o=>match o with|.nx Γ2 S3=>I (n+1) Γ2 S3|.ct Γ2 S3=>I (n+1) Γ2 S3|.bk Γ2 S3=>Q (.nx Γ2 S3)|o=>Q o)∧
   ∀Γ' S',I p.1.length Γ' S'->Q (.nx Γ' S')):T (lU i g b) Γ S Q:=by
 obtain⟨⟨ds,W⟩,S1,e1,I,h0,hW,hstep,hend⟩:=h
 have go:∀(k n:Nat) (Γ':dh) (S':aK),n+k=ds.length->I n Γ' S'->∃o,forL g b W (ds.drop n) Γ' S'=some o/\Q o:=by
  intro k
  induction k with
  | zero=>
    intro n Γ' S' hn hi
    rw[List.drop_of_length_le (by omega)]
    refine⟨.nx Γ' S',by simp only[forL];rw[Qhq (hW _ _ _ hi)],hend _ _ (by rw[←hn];exact hi)⟩
  | succ k ih=>
    intro n Γ' S' hn hi
    have hlt:n<ds.length:=by omega
    rw[QWq hlt]
    obtain⟨Γ1,S2,e2,o,e3,q⟩:=hstep n ds[n] Γ' S' (gQe hlt) hi
    simp only[forL]
    rw[Qhq (hW _ _ _ hi),e2]
    simp only[Qbq]
    rw[e3]
    simp only[Qbq]
    cases o with
    |nx Γ2 S3=>exact ih (n+1) Γ2 S3 (by omega) q
    |ct Γ2 S3=>exact ih (n+1) Γ2 S3 (by omega) q
    |bk Γ2 S3=>exact⟨_,rfl,q⟩
    |rt d S3=>exact⟨_,rfl,q⟩
    |rl d S3=>exact⟨_,rfl,q⟩
 obtain⟨o,e2,q⟩:=go ds.length 0 Γ S1 (by omega) h0
 exact⟨o,by unfold lU;rw[e1];exact e2,q⟩
def l_{js:List (Option Nat)}{i:ye}{g:nW}{t:kd}{f:bN}{Q:List D->aK->Prop} (h:E i Γ S fun p S1=>∃I:Nat->dh->aK->List D->Prop,I 0 (mD js Γ) S1 []/\(∀n Γ' S' acc,I n Γ' S' acc->p.2 S')∧
   (∀(n:Nat) (d:D) (Γ':dh) (S':aK) (acc:List D),p.1[n]?=some d->I n Γ' S' acc->Tg g d Γ' S' fun Γ1 S2=>E t Γ1 S2 fun k S3=>if k=true then E f Γ1 S3 fun y S4=>acc.length<sizeLine/\I (n+1) Γ1 S4 (acc++ [y]) else I (n+1) Γ1 S3 acc)∧
   ∀Γ' S' acc,I p.1.length Γ' S' acc->Q acc S'):E (cx js i g t f) Γ S Q:=by
 obtain⟨⟨ds,W⟩,S1,e1,I,h0,hW,hstep,hend⟩:=h
 have go:∀(k n:Nat) (Γ':dh) (S':aK) (acc:List D),n+k=ds.length->I n Γ' S' acc->∃r S'',mP g t f W (ds.drop n) Γ' S' acc=some (r,S'')/\Q r S'':=by
  intro k
  induction k with
  | zero=>
    intro n Γ' S' acc hn hi
    rw[List.drop_of_length_le (by omega)]
    refine⟨acc,S',by simp only[mP];rw[Qhq (hW _ _ _ _ hi)],hend _ _ _ (by rw[←hn];exact hi)⟩
  | succ k ih=>
    intro n Γ' S' acc hn hi
    have hlt:n<ds.length:=by omega
    rw[QWq hlt]
    obtain⟨Γ1,S2,e2,c,S3,e3,q⟩:=hstep n ds[n] Γ' S' acc (gQe hlt) hi
    simp only[mP]
    rw[Qhq (hW _ _ _ _ hi),e2]
    simp only[Qbq]
    rw[e3]
    simp only[Qbq]
    cases c with
    | true=>
      rw[Qhq rfl] at q⊢
      obtain⟨y,S4,e4,hl,q⟩:=q
      rw[e4]
      simp only[Qbq]
      rw[Qhq hl]
      exact ih (n+1) Γ1 S4 _ (by omega) q
    | false=>
      rw[Quq (by decide)] at q⊢
      exact ih (n+1) Γ1 S3 _ (by omega) q
 obtain⟨r,S'',e2,q⟩:=go ds.length 0 _ S1 [] (by omega) h0
 exact⟨r,S'',by unfold cx;rw[e1];exact e2,q⟩
def Fx{f:bN}{Q:(List D×(aK->Prop))->aK->Prop}(h:E f Γ S fun d S1=>∃j,d=.int j/\(-(2^62)<=j/\j<2^62)/\Q (kS 0 j,fun _=>True) S1):E (sV f) Γ S Q:=by
 obtain⟨d,S1,e1,j,rfl,hj,q⟩:=h
 exact⟨_,S1,by unfold sV;rw[e1];simp only[Qbq];rw[Qhq hj],q⟩
def rK{f:eJ}{Q:(List D×(aK->Prop))->aK->Prop}(h:E f Γ S fun p S1=>Q (p.1,fun S'=>p.2.stays S' p.1) S1):E (jq f) Γ S Q:=by
 obtain⟨p,S1,e1,q⟩:=h
 exact⟨_,S1,by unfold jq;rw[e1];rfl,q⟩
def kQ{m:List D->List D->Option (List D×D)}{f:bN}{g:g9}{Q:D->aK->Prop}(h:E f Γ S fun x S1=>∃k ds0,x=.ref k/\S1[k]?=some (.lst ds0)/\E g Γ S1 fun ys S2=>∃ds,S2[k]?=some (.lst ds)/\Op (m ds ys) fun p=>Q p.2 (S2.set k (.lst p.1))):E (rD m f g) Γ S Q:=by
 obtain⟨x,S1,e1,k,ds0,rfl,h1,ys,S2,e2,ds,h2,p,e3,q⟩:=h
 exact⟨_,_,by unfold rD;rw[e1];simp only[Qbq,e2,h1,h2,e3],q⟩
end
def cp{n:Nat}{b:dt}{ds:List D}{S:aK}{Q:Res->aK->Prop} (h:T b (ds.map some++List.replicate (n-ds.length) none) S fun o=>match o with
   |.nx _ S'=>Op (settle S .non S') fun p=>Q p.1 p.2|.rt d S'=>Op (settle S d S') fun p=>Q p.1 p.2|.rl l S'=>Op (dJ S l S') fun p=>Q p.1 p.2|_=>False):Fn (ft n b) ds S Q:=by
 obtain⟨o,e1,q⟩:=h
 cases o with
 |nx Γ S'=>obtain⟨⟨r,S2⟩,e2,q⟩:=q;exact⟨r,S2,by unfold ft;rw[e1];exact e2,q⟩
 |rt d S'=>obtain⟨⟨r,S2⟩,e2,q⟩:=q;exact⟨r,S2,by unfold ft;rw[e1];exact e2,q⟩
 |rl d S'=>obtain⟨⟨r,S2⟩,e2,q⟩:=q;exact⟨r,S2,by unfold ft;rw[e1];exact e2,q⟩
 |bk=>exact q.elim
 |ct=>exact q.elim
def iE{S S' S2:aK}{d:D}{Q:Res×aK->Prop}(hc:oK S S')(ht:S'.take S.length=S2)(hd:∀k,d≠.ref k)(hl:cB S.length d=true)(q:Q (.d d,S2)):Op (settle S d S') Q:=by
 refine⟨_,?_,q⟩
 unfold settle
 rw[Qhq hc,ht]
 cases d with
 |ref k=>exact absurd rfl (hd k)
 |_=>simp only[hl,if_true]
def ni{S S' S2:aK}{ds:List D}{Q:Res×aK->Prop}(hc:oK S S')(ht:S'.take S.length=S2)(hl:cc S.length ds=true)(q:Q (.l ds,S2)):Op (dJ S ds S') Q:=by
 refine⟨_,?_,q⟩
 unfold dJ
 rw[Qhq ⟨hc,hl⟩,ht]
def uD{S:aK}:oK S S:=⟨Qmq _,fun k o _ h=>.inl h⟩
def vG{S:aK}{k:Nat}{o:O}(h:Hy S.length o=true):oK S (S.set k o):=by
 refine⟨by simp,fun j u _ e=> ?_⟩
 rw[List.getElem?_set] at e
 split at e
 ·split at e
  ·cases e;exact .inr h
  ·cases e
 ·exact .inl e
end DL
namespace L2
open PySem PySem.Spec PyProof.Rows
end L2
namespace DL
open PySem PySem.Spec L2
mutual
def jM:D->Option PyData
 |.non=>some .none
 |.bl b=>some (.bool b)
 |.int i=>some (.int i)
 |.str x=>if PyData.strOk x=true then some (.str x) else none
 |.tup ds=>(gd ds).map .tuple
 |.ref _=>none
 |.fn _=>none
def gd:List D->Option (List PyData)
 | []=>some []
 |d::ds=>(jM d).bind fun p=>(gd ds).map (p::·)
end
mutual
theorem jH:∀{d:D} {p:PyData},jM d=some p->p.canLay0=true
 |.non,_,e=>by cases e;rfl
 |.bl _,_,e=>by cases e;rfl
 |.int _,_,e=>by cases e;rfl
 | .str x,_,e=>by
   simp only[jM] at e
   split at e
   · rename_i c;cases e;exact c
   · cases e
 | .tup ds,_,e=>by
   simp only[jM] at e
   obtain⟨ps,e1,rfl⟩:=oQm.mp e
   exact iH e1
 |.ref _,_,e=>by cases e
 |.fn _,_,e=>by cases e
theorem iH:∀{ds:List D} {ps:List PyData},gd ds=some ps->PyData.canLayAll0 ps=true
 | [],_,e=>by cases e;rfl
 | d::ds,_,e=>by
   simp only[gd] at e
   obtain⟨p,e1,e⟩:=ar e
   obtain⟨ps,e2,rfl⟩:=oQm.mp e
   simp only[PyData.canLayAll0,QCq]
   exact⟨jH e1,iH e2⟩
end
mutual
theorem xk{M:Md}{ρ:List Addr}{H:Hp}:∀{d:D} {p:PyData} {v:V},Rel M ρ H d v->jM d=some p->pM (fun _=>False) H p v
 |.non,_,_,.non,e=>by cases e;exact .non
 |.bl _,_,_,.bl _,e=>by cases e;exact .bl _
 |.int _,_,_,.int _,e=>by cases e;exact .int _
 | .str _,_,_,.str _,e=>by
   simp only[jM] at e
   split at e
   · cases e;exact .str _
   · cases e
 | .tup ds,_,_,.tup h hs,e=>by
   simp only[jM] at e
   obtain⟨ps,e1,rfl⟩:=oQm.mp e
   exact .tup h (oU hs e1)
 |.ref _,_,_,_,e=>by cases e
 |.fn _,_,_,_,e=>by cases e
theorem oU{M:Md}{ρ:List Addr}{H:Hp}:∀{ds:List D} {ps:List PyData} {vs:List V},bq M ρ H ds vs->gd ds=some ps->kW (fun _=>False) H ps vs
 | [],_,_,.nil,e=>by cases e;exact .nil
 | d::ds,_,_,.cons h hs,e=>by
   simp only[gd] at e
   obtain⟨p,e1,e⟩:=ar e
   obtain⟨ps,e2,rfl⟩:=oQm.mp e
   exact .cons (xk h e1) (oU hs e2)
end
end DL
namespace L2
open PySem PySem.Spec
section
variable{X:Cx}
def IA(neg:Bool):R2:=fun x y H Q=>∃p q,pM (fun _=>False) H p x/\pM (fun _=>False) H q y/\p.canLay0=true/\q.canLay0=true/\p.depth<=60/\Q (.bl (if neg then !PyData.eqv p q else PyData.eqv p q)) H
def Eg(hu:X.A.units+64<cLine):j0 X (compareOp .Eq) (IA false):=by
 rintro pins s σ H x y v u Q I rx ry ⟨p,q,dp,dq,lp,lq,hd,h⟩
 obtain⟨as,ra,_⟩:=ju I (fun a z=>z.elim) dp rx
 obtain⟨bs,rb,_⟩:=ju I (fun a z=>z.elim) dq ry
 exact SeqAt.eqOverData _ _ _ _ _ _ _ _ _ _ _ _ ra rb lp lq (by omega) ⟨.bl _,H,I,rfl,h⟩
def Ja(hu:X.A.units+64<cLine):j0 X (compareOp .NotEq) (IA true):=by
 rintro pins s σ H x y v u Q I rx ry ⟨p,q,dp,dq,lp,lq,hd,h⟩
 obtain⟨as,ra,_⟩:=ju I (fun a z=>z.elim) dp rx
 obtain⟨bs,rb,_⟩:=ju I (fun a z=>z.elim) dq ry
 exact SeqAt.neOverData _ _ _ _ _ _ _ _ _ _ _ _ ra rb lp lq (by omega) ⟨.bl _,H,I,rfl,h⟩
def HZ(K:PySem.W.Frag)(neg:Bool):R2:=fun x y H Q=>∃a b xs ys ps qs,x=.ref a/\y=.ref b/\ik K H a xs/\ik K H b ys/\kW (fun _=>False) H ps xs/\kW (fun _=>False) H qs ys/\PyData.canLayAll0 ps=true/\PyData.canLayAll0 qs=true/\(PyData.list ps).depth<=60/\Q (.bl (if neg then !PyData.eqvAll ps qs else PyData.eqvAll ps qs)) H
def tm{pins:List (Addr×Obj)}{σ:St}{H:Hp}{s:Shared}{a:Addr}{xs:List V}{ps:List PyData}(I:Inv X pins σ H s)(h:ik X.K H a xs)(d:kW (fun _=>False) H ps xs):∃as,Reads s.heap (.ref a) (.list ps) as:=by
 obtain⟨its,rv,pl,hz⟩:=I.list h
 obtain⟨o,h1,h2,n',h3⟩:=pl.isList
 obtain⟨as,ra,na⟩:=iC I (fun a z=>z.elim) d rv
 exact⟨_,.list h1 h2 h3 (by simpa using ra)⟩
def GG(hu:X.A.units+64<cLine):j0 X (compareOp .Eq) (HZ X.K false):=by
 rintro pins s σ H x y v u Q I rx ry ⟨a,b,xs,ys,ps,qs,e1,e2,ha,hb,dp,dq,lp,lq,hd,h⟩
 subst e1 e2
 cases rx
 cases ry
 obtain⟨as,ra⟩:=tm I ha dp
 obtain⟨bs,rb⟩:=tm I hb dq
 refine SeqAt.eqOverData _ _ _ _ _ _ _ _ _ _ _ _ ra rb (by simpa [PyData.canLay0] using lp) (by simpa [PyData.canLay0] using lq) (by omega) ⟨.bl _,H,I,rfl,?_⟩
 exact h
def KF(K:PySem.W.Frag)(neg:Bool):R2:=fun x y H Q=>∃p a xs ps,y=.ref a/\(ik K H a xs\/iW K H a xs)/\pM (fun _=>False) H p x/\kW (fun _=>False) H ps xs/\p.canLay0=true/\PyData.canLayAll0 ps=true/\p.depth<=60/\Q (.bl (if neg then !ps.any (PyData.eqv · p) else ps.any (PyData.eqv · p))) H
def Kg(s:Shared)(p:PyData)(u:Value):Bool:= @decide (∃d as,d.canLay0=true/\Reads s.heap u d as/\PyData.eqv d p=true) (Classical.propDecidable _)
def EU{s:Shared}{p d:PyData}{u:Value}{as:List Addr}(l:d.canLay0=true)(r:Reads s.heap u d as):Kg s p u=PyData.eqv d p:=by
 unfold Kg
 cases h:PyData.eqv d p with
 |true=>exact @Qeq _ (Classical.propDecidable _) ⟨d,as,l,r,h⟩
 | false=>
   refine @Qdq _ (Classical.propDecidable _) ?_
   rintro⟨d',as',l',r',h'⟩
   rw[SeqAt.Reads.unique d d' u as as' l r r'] at h
   rw[h] at h'
   cases h'
theorem pR{s:Shared}{p:PyData}:∀{us:List Value} {ps:List PyData} {as:List Addr},ReadsAll s.heap us ps as->PyData.canLayAll0 ps=true->us.any (Kg s p)=ps.any (PyData.eqv · p)/\∀u∈us,∃d as,d.canLay0=true/\Reads s.heap u d as
 |_,_,_,.nil,_=>⟨rfl,fun u hu=>by cases hu⟩
 | _,d::ps,_,.cons r rs,l=>by
   have l':d.canLay0=true/\PyData.canLayAll0 ps=true:=by simpa [PyData.canLayAll0] using l
   obtain⟨h1,h2⟩:=pR (p:=p) rs l'.2
   refine⟨by rw[List.any_cons,List.any_cons,h1,EU l'.1 r],fun u hu=> ?_⟩
   rcases Qsq.mp hu with rfl|hu
   · exact⟨_,_,l'.1,r⟩
   · exact h2 u hu
def D8{A:Around}{s:Shared}{p:PyData}{v:Value}{bs:List Addr}(hu:A.units+63<cLine)(rp:Reads s.heap v p bs)(lp:p.canLay0=true)(hd:p.depth<=60){u:Value}(h:∃d as,d.canLay0=true/\Reads s.heap u d as):SeqAt.EqAt A s u v (Kg s p u):=by
 obtain⟨d,as,l,r⟩:=h
 rw[EU l r]
 intro prog w E Q q
 exact SeqAt.eqBoolOverData prog w A E s _ _ _ _ _ _ Q r rp l lp (by omega) q
def EX(hu:X.A.units+64<cLine):j0 X (compareOp .In) (KF X.K false):=by
 rintro pins s σ H x y v u Q I rx ry ⟨p,a,xs,ps,e1,hq,dp,dps,lp,lps,hd,h⟩
 subst e1
 cases ry
 obtain⟨bs,rb,_⟩:=ju I (fun a z=>z.elim) dp rx
 have hu1:X.A.in1.units+63<cLine:=by show X.A.units+1+63<cLine;omega
 rcases hq with hq|hq
 ·obtain⟨its,r,pl,hz⟩:=I.list hq
  obtain⟨as,ra,_⟩:=iC I (fun a z=>z.elim) dps r
  obtain⟨h1,h2⟩:=pR (p:=p) ra lps
  refine SeqAt.in_listAt (Kg s p) pl.isList (fun w hw=>D8 hu1 rb lp hd (h2 w (by simpa using hw))) ⟨.bl _,H,I,rfl,?_⟩
  rw[List.any_toArray,h1]
  exact h
 ·obtain⟨its,r,pl,hz⟩:=I.tuple hq
  obtain⟨as,ra,_⟩:=iC I (fun a z=>z.elim) dps r
  obtain⟨h1,h2⟩:=pR (p:=p) ra lps
  refine SeqAt.in_tupleAt (Kg s p) pl (fun w hw=>D8 hu1 rb lp hd (h2 w (by simpa using hw))) ⟨.bl _,H,I,rfl,?_⟩
  rw[List.any_toArray,h1]
  exact h
end
end L2
namespace DL
open PySem PySem.Spec L2
section
variable{X:Cx}{a b e:Expr}{pos:Pos}
def Cu(neg:Bool):uH:=fun _ x y=>(jM x).bind fun p=>(jM y).bind fun q=>if p.depth<=60 then some (.bl (if neg then !PyData.eqv p q else PyData.eqv p q)) else none
def AJ{M:Md}{neg:Bool}:mF M (IA neg) (Cu neg):=by
 intro ρ S H x y d u v Q st r1 r2 e q
 unfold Cu at e
 obtain⟨p,e1,e⟩:=ar e
 obtain⟨p2,e2,e⟩:=ar e
 split at e
 ·rename_i c
  cases e
  exact⟨p,p2,xk r1 e1,xk r2 e2,jH e1,jH e2,c,q _ _ cH.refl st (.bl _)⟩
 ·cases e
def LU{f g:bN}{k:Nat}(hr:eX k X.A)(ha:PE X a (tD (md X) f))(hb:PE X b (tD (md X) g)):PE X (.Compare a [.Eq] [b] pos) (tD (md X) (aE (Cu false) f g)):=oT (Eg hr.units) AJ ha hb (aU _)
def Ky{f g:bN}{k:Nat}(hr:eX k X.A)(ha:PE X a (tD (md X) f))(hb:PE X b (tD (md X) g)):PT X (.Compare a [.Eq] [b] pos) (tB (md X) (aN (aE (Cu false) f g))):=bM (Eg hr.units) AJ ha hb (aU _)
def BI{f g:bN}{k:Nat}(hr:eX k X.A)(ha:PE X a (tD (md X) f))(hb:PE X b (tD (md X) g)):PT X (.Compare a [.NotEq] [b] pos) (tB (md X) (aN (aE (Cu true) f g))):=bM (Ja hr.units) AJ ha hb (aU _)
open Classical in
def E8(neg:Bool)(f g:eJ):bN:=fun Γ S=>(f Γ S).bind fun(p,S1)=>(g Γ S1).bind fun(r,S2)=>if p.2.isL=true/\r.2.isL=true/\p.2.stays S2 p.1 then(gd p.1).bind fun us=>(gd r.1).bind fun vs=>if (PyData.list us).depth<=60 then some (.bl (if neg then !PyData.eqvAll us vs else PyData.eqvAll us vs),S2) else none else none
def IG{neg:Bool}{f g:eJ}:∀σ H Q,tD (md X) (E8 neg f g) σ H Q->F_ (HZ X.K neg) (tQ (md X) f) (tQ (md X) g) σ H Q:=fun σ H Q qq=>by
 obtain⟨ρ,Γ,S,d,S',ok,e,q⟩:=qq
 obtain⟨⟨⟨ds,t⟩,S1⟩,e1,e⟩:=ar e
 obtain⟨⟨⟨es,t2⟩,S2⟩,e2,e⟩:=ar e
 dsimp only at e
 split at e
 ·rename_i c
  obtain⟨us,e3,e⟩:=ar e
  obtain⟨vs,e4,e⟩:=ar e
  split at e
  ·rename_i c2
   obtain⟨rfl,rfl⟩:=cR e
   refine⟨ρ,Γ,S,ds,t,S1,ok,e1,fun ρ1 a as H1 x1 st1 h1 r1=>⟨ρ1,Γ,S1,es,t2,S2,ok.to x1 st1,e2,fun ρ2 b bs H2 x2 st2 h2 r2=> ?_⟩⟩
   obtain⟨as',h3,r3⟩:=h1.to r1 x2 st2 c.2.2
   exact⟨a,b,as',bs,us,vs,rfl,rfl,h3.sqL c.1,h2.sqL c.2.1,oU r3 e3,oU r2 e4,iH e3,iH e4,c2,q _ _ _ (x1.trans x2) st2 (.bl _)⟩
  ·cases e
 ·cases e
def J3{f g:eJ}{k:Nat}(hr:eX k X.A)(ha:PE X a (tQ (md X) f))(hb:PE X b (tQ (md X) g)):PE X (.Compare a [.Eq] [b] pos) (tD (md X) (E8 false f g)):=kR (wx (GG hr.units) ha hb (aU _)) IG
def IQ(neg:Bool)(f:bN)(g:eJ):bN:=fun Γ S=>(f Γ S).bind fun(x,S1)=>(g Γ S1).bind fun(p,S2)=>(jM x).bind fun v=>(gd p.1).bind fun vs=>if v.depth<=60 then some (.bl (if neg then !vs.any (PyData.eqv · v) else vs.any (PyData.eqv · v)),S2) else none
def HW{neg:Bool}{f:bN}{g:eJ}:∀σ H Q,tD (md X) (IQ neg f g) σ H Q->F_ (KF X.K neg) (tD (md X) f) (tQ (md X) g) σ H Q:=fun σ H Q qq=>by
 obtain⟨ρ,Γ,S,d,S',ok,e,q⟩:=qq
 obtain⟨⟨x,S1⟩,e1,e⟩:=ar e
 obtain⟨⟨⟨ds,t⟩,S2⟩,e2,e⟩:=ar e
 obtain⟨v,e3,e⟩:=ar e
 obtain⟨vs,e4,e⟩:=ar e
 split at e
 ·rename_i c
  obtain⟨rfl,rfl⟩:=cR e
  refine⟨ρ,Γ,S,x,S1,ok,e1,fun ρ1 u H1 x1 st1 r1=>⟨ρ1,Γ,S1,ds,t,S2,ok.to x1 st1,e2,fun ρ2 a us H2 x2 st2 h2 r2=> ?_⟩⟩
  exact⟨v,a,us,vs,rfl,h2.sq,xk (r1.ext x2) e3,oU r2 e4,jH e3,iH e4,c,q _ _ _ (x1.trans x2) st2 (.bl _)⟩
 ·cases e
def K0{f:bN}{g:eJ}{k:Nat}(hr:eX k X.A)(ha:PE X a (tD (md X) f))(hb:PE X b (tQ (md X) g))(hm:behindInMarks .In b=false:=by rfl):PE X (.Compare a [.In] [b] pos) (tD (md X) (IQ false f g)):=kR (wx (EX hr.units) ha hb hm) HW
def Lf{f:bN}{g:eJ}{k:Nat}(hr:eX k X.A)(ha:PE X a (tD (md X) f))(hb:PE X b (tQ (md X) g))(hm:behindInMarks .In b=false:=by rfl):PT X (.Compare a [.In] [b] pos) (tB (md X) (aN (IQ false f g))):=yb HW (ow (EX hr.units) ha hb hm)
end
end DL
namespace Z3
open PySem Zq
abbrev fq(h:Heap)(T:Addr)(a b c:Value):Prop:=h.get? T=some {cls:=.type "tuple",data:=.seq #[a,b,c]}
structure Ap(z T O i j l a b c:Addr):Prop where
 Tz:T≠z
 Oz:O≠z
 iz:i≠z
 jz:j≠z
 lz:l≠z
 TO:T≠O
 Ti:T≠i
 Tj:T≠j
 Tl:T≠l
 Oi:O≠i
 Oj:O≠j
 Ol:O≠l
 ij:i≠j
 il:i≠l
 jl:j≠l
 az:a≠z
 bz:b≠z
 cz:c≠z
 aO:a≠O
 bO:b≠O
 cO:c≠O
 ai:a≠i
 bi:b≠i
 ci:c≠i
 aj:a≠j
 bj:b≠j
 cj:c≠j
 al:a≠l
 bl:b≠l
 cl:c≠l
def Rest(z O i j l:Addr)(h h':Heap):Prop:=∀c o,c≠z->c≠O->c≠i->c≠j->c≠l->h.get? c=some o->h'.get? c=some o
section
variable{prog:Program}{w:World}{A:Around}{E:Value->Shared->Prop}{s:Shared}{t t2 t3:Bool}{z T O i j l a b c:Addr}{k:Nat}{xs ys zs:Array Value}{x y q1 u v u3:Value}
def xD{Q:Unit->Shared->Prop}{n:Nat}(g:fq s.heap T u v u3)
  (q:∀h',h'.get? T=some {cls:=.type "tuple",data:=.seq ((#[u,v,u3]:Array Value).setIfInBounds n x)}->Heap.SameBut T s.heap h'->Q () {s with heap:=h'}):
  wpAny (model prog w) A (updateSeq T (·.setIfInBounds n x)) Q E s:=by
 have e:=Heap.get?_update_self (fun o=>o.mapSeq (·.setIfInBounds n x)) g rfl
 exact wpAny_updateSeq g rfl (q _ (by rw[e];simp[Obj.mapSeq]) (Heap.SameBut.update ..))
def item(D:Ap z T O i j l a b c){Q:Value->Shared->Prop}(gz:kP s.heap z T O .none (.bool false))(gT:fq s.heap T (.ref i) (.ref j) (.ref l))(gO:fq s.heap O u v u3)(gi:It t s.heap i a k)(gj:It t2 s.heap j b k)(gl:It t3 s.heap l c k)
  (ga:Sq t s.heap a xs) (gb:Sq t2 s.heap b ys) (gc:Sq t3 s.heap c zs) (ex:xs[k]?=some x) (ey:ys[k]?=some y) (ez:zs[k]?=some q1)
  (q:∀h',kP h' z T O (rawInt s.heap.objs.size) (.bool false)->fq h' O x y q1->It t h' i a (k+1)->It t2 h' j b (k+1)->It t3 h' l c (k+1)->fq h' s.heap.objs.size x y q1->Rest z O i j l s.heap h'->Q (.ref s.heap.objs.size) {s with heap:=h'}):
  wpAny (model prog w) A (Builtin.«zip.__next__» ⟨[.ref z],[]⟩) (fun fin s'=>∃r,fin=.done (.ret r)/\Q r s') E s:=by
 refine(?_:wpAny _ _ (field (.ref z) 2 >>= _) _ _ _)
 refine Qaq (QMq gz rfl (x:=.bool false) rfl ?_)
 refine(?_:wpAny _ _ (field (.ref z) 3 >>= _) _ _ _)
 refine Qaq (QMq gz rfl (x:=.ref T) rfl (Qaq (wpAny_seqItems gT rfl ?_)))
 refine(?_:wpAny _ _ (Builtin.SmallTypes.ownedTupleIsFree (.ref z) >>= _) _ _ _)
 refine Qaq ?_
 unfold Builtin.SmallTypes.ownedTupleIsFree
 refine Qaq (QMq gz rfl (x:=.none) rfl (Qgq ?_))
 simp only[if_true]
 refine Qaq (wpAny_rule (Qaq (QMq gz rfl (x:=.ref O) rfl (Qaq (wpAny_setField_rec gz (by simp) fun h1 z1 b1=> ?_)))))
 replace z1:kP h1 z T O .ellipsis (.bool false):=z1
 refine Qaq ?_
 simp only[List.zipIdx_cons,List.zipIdx_nil,List.forIn_nil,List.forIn_cons]
 refine Qaq (Qaq (wpAny_onRaise ?_))
 refine(?_:wpAny _ _ (Builtin.SmallTypes.nextOf (.ref i) >>= _) _ _ _)
 refine Qaq (draw (gi.ext b1.extBut D.iz) (ga.ext b1.extBut D.az) ex fun h2 i2 b2=>Qgq ?_)
 have O2:fq h2 O u v u3:=b2.extBut _ _ D.Oi (b1.extBut _ _ D.Oz gO)
 refine Qaq (wpAny_seqItems O2 rfl (Qaq (xD O2 fun h3 O3 b3=>Qaq (wpAny_letGo (Qgq ?_)))))
 replace O3:fq h3 O x v u3:=O3
 refine Qaq (Qaq (wpAny_onRaise ?_))
 refine(?_:wpAny _ _ (Builtin.SmallTypes.nextOf (.ref j) >>= _) _ _ _)
 refine Qaq (draw (((gj.ext b1.extBut D.jz).ext b2.extBut D.ij.symm).ext b3.extBut D.Oj.symm) (((gb.ext b1.extBut D.bz).ext b2.extBut D.bi).ext b3.extBut D.bO) ey fun h4 j4 b4=>Qgq ?_)
 have O4:fq h4 O x v u3:=b4.extBut _ _ D.Oj O3
 refine Qaq (wpAny_seqItems O4 rfl (Qaq (xD O4 fun h5 O5 b5=>Qaq (wpAny_letGo (Qgq ?_)))))
 replace O5:fq h5 O x y u3:=O5
 refine Qaq (Qaq (wpAny_onRaise ?_))
 refine(?_:wpAny _ _ (Builtin.SmallTypes.nextOf (.ref l) >>= _) _ _ _)
 refine Qaq (draw (((((gl.ext b1.extBut D.lz).ext b2.extBut D.il.symm).ext b3.extBut D.Ol.symm).ext b4.extBut D.jl.symm).ext b5.extBut D.Ol.symm) (((((gc.ext b1.extBut D.cz).ext b2.extBut D.ci).ext b3.extBut D.cO).ext b4.extBut D.cj).ext b5.extBut D.cO) ez fun h6 l6 b6=>Qgq ?_)
 have O6:fq h6 O x y u3:=b6.extBut _ _ D.Ol O5
 refine Qaq (wpAny_seqItems O6 rfl (Qaq (xD O6 fun h7 O7 b7=>Qaq (wpAny_letGo (Qgq (Qgq ?_))))))
 replace O7:fq h7 O x y q1:=O7
 refine Qaq (wpAny_seqItems O7 rfl (Qaq (wpAny_newTuple ?_)))
 have sz:h7.objs.size=s.heap.objs.size:=by rw[b7.1,b6.1,b5.1,b4.1,b3.1,b2.1,b1.1]
 have z7:kP h7 z T O .ellipsis (.bool false):=b7.extBut _ _ D.Oz.symm (b6.extBut _ _ D.lz.symm (b5.extBut _ _ D.Oz.symm (b4.extBut _ _ D.jz.symm (b3.extBut _ _ D.Oz.symm (b2.extBut _ _ D.iz.symm z1)))))
 have r7:Rest z O i j l s.heap h7:=fun c o c1 c2 c3 c4 c5 e=>b7.extBut _ _ c2 (b6.extBut _ _ c5 (b5.extBut _ _ c2 (b4.extBut _ _ c4 (b3.extBut _ _ c2 (b2.extBut _ _ c3 (b1.extBut _ _ c1 e))))))
 have i7:It t h7 i a (k+1):=((((i2.ext b3.extBut D.Oi.symm).ext b4.extBut D.ij).ext b5.extBut D.Oi.symm).ext b6.extBut D.il).ext b7.extBut D.Oi.symm
 have j7:It t2 h7 j b (k+1):=((j4.ext b5.extBut D.Oj.symm).ext b6.extBut D.jl).ext b7.extBut D.Oj.symm
 have l7:It t3 h7 l c (k+1):=l6.ext b7.extBut D.Ol.symm
 have zl:z<h7.objs.size:=Qiq z7
 refine(?_:wpAny _ _ (Builtin.SmallTypes.ownedTupleHandOut (.ref z) (.ref h7.objs.size) >>= _) _ _ _)
 refine Qaq ?_
 unfold Builtin.SmallTypes.ownedTupleHandOut
 have z8:kP (h7.push {cls:=.type "tuple",data:=.seq #[x,y,q1]}) z T O .ellipsis (.bool false):=Qcq _ z7
 refine Qaq (wpAny_setField_rec z8 (by simp) fun h9 z9 b9=> ?_)
 replace z9:kP h9 z T O (rawInt h7.objs.size) (.bool false):=z9
 refine wpAny_setField_rec z9 (by simp) fun h10 z10 b10=> ?_
 replace z10:kP h10 z T O (rawInt h7.objs.size) (.bool false):=z10
 have up:∀c o,c≠z->h7.get? c=some o->h10.get? c=some o:=fun c o c1 e=>b10.extBut _ _ c1 (b9.extBut _ _ c1 (Qcq _ e))
 have n10:fq h10 h7.objs.size x y q1:=b10.extBut _ _ (Nat.ne_of_gt zl) (b9.extBut _ _ (Nat.ne_of_gt zl) (Qrq _ rfl))
 rw[sz] at z10 n10
 refine Qgq ⟨_,rfl,?_⟩
 refine(?_:Q (.ref h7.objs.size) _)
 rw[sz]
 exact q h10 z10 (up _ _ D.Oz O7) (i7.at fun o e=>up _ o D.iz e) (j7.at fun o e=>up _ o D.jz e) (l7.at fun o e=>up _ o D.lz e) n10 fun c o c1 c2 c3 c4 c5 e=>up c o c1 (r7 c o c1 c2 c3 c4 c5 e)
def stop(D:Ap z T O i j l a b c){Q:Fin->Shared->Prop}(hA:A.handled=none)(gz:kP s.heap z T O .none (.bool false))(gT:fq s.heap T (.ref i) (.ref j) (.ref l))(gi:It t s.heap i a k)(ga:Sq t s.heap a xs)(ex:xs[k]?=none)
  (q:∀h' e,Rest z O i j l s.heap h'->(∃o,h'.get? e=some o/\o.cls=.type "StopIteration")->E (.ref e) {s with heap:=h'}):
  wpAny (model prog w) A (Builtin.«zip.__next__» ⟨[.ref z],[]⟩) Q E s:=by
 refine(?_:wpAny _ _ (field (.ref z) 2 >>= _) _ _ _)
 refine Qaq (QMq gz rfl (x:=.bool false) rfl ?_)
 refine(?_:wpAny _ _ (field (.ref z) 3 >>= _) _ _ _)
 refine Qaq (QMq gz rfl (x:=.ref T) rfl (Qaq (wpAny_seqItems gT rfl ?_)))
 refine(?_:wpAny _ _ (Builtin.SmallTypes.ownedTupleIsFree (.ref z) >>= _) _ _ _)
 refine Qaq ?_
 unfold Builtin.SmallTypes.ownedTupleIsFree
 refine Qaq (QMq gz rfl (x:=.none) rfl (Qgq ?_))
 simp only[if_true]
 refine Qaq (wpAny_rule (Qaq (QMq gz rfl (x:=.ref O) rfl (Qaq (wpAny_setField_rec gz (by simp) fun h1 z1 b1=> ?_)))))
 replace z1:kP h1 z T O .ellipsis (.bool false):=z1
 refine Qaq ?_
 simp only[List.zipIdx_cons,List.zipIdx_nil,List.forIn_nil,List.forIn_cons]
 refine Qaq (Qaq (wpAny_onRaise ?_))
 refine(?_:wpAny _ _ (Builtin.SmallTypes.nextOf (.ref i) >>= _) _ _ _)
 refine Qaq (F0 hA (gi.ext b1.extBut D.iz) (ga.ext b1.extBut D.az) ex fun h2 e b2 he=> ?_)
 obtain⟨oe,he,ce⟩:=he
 have z2:kP h2 z T O .ellipsis (.bool false):=b2 _ _ D.iz.symm z1
 have ne:e≠z:=fun n=>by rw[n,z2] at he;cases he;simp at ce
 exact wpAny_setField_rec z2 (by simp) fun h3 _ b3=>q h3 e (fun c o c1 _ c3 _ _ n=>b3.extBut _ _ c1 (b2 _ _ c3 (b1.extBut _ _ c1 n))) ⟨oe,b3.extBut _ _ ne he,ce⟩
end
def Nu(u v x:Value):checkTypeCall "zip" ⟨[u,v,x],[]⟩=pure ():=by kernel_rfl
def Ng(u v x:Value):checkBuiltinCall "zip.__new__" ⟨[.type "zip",u,v,x],[]⟩=pure ():=by kernel_rfl
section
variable{prog:Program}{w:World}{A:Around}{E:Value->Shared->Prop}{s:Shared}{t t2 t3:Bool}{z T O i j l a b c:Addr}{k:Nat}{xs ys zs:Array Value}{x y q1 u v u3:Value}
def LQ(D:Ap z T O i j l a b c){Q:Option Value->Shared->Prop}(gz:kP s.heap z T O .none (.bool false))(gT:fq s.heap T (.ref i) (.ref j) (.ref l))(gO:fq s.heap O u v u3)(gi:It t s.heap i a k)(gj:It t2 s.heap j b k)(gl:It t3 s.heap l c k)
  (ga:Sq t s.heap a xs) (gb:Sq t2 s.heap b ys) (gc:Sq t3 s.heap c zs) (ex:xs[k]?=some x) (ey:ys[k]?=some y) (ez:zs[k]?=some q1)
  (q:∀h',kP h' z T O (rawInt s.heap.objs.size) (.bool false)->fq h' O x y q1->It t h' i a (k+1)->It t2 h' j b (k+1)->It t3 h' l c (k+1)->fq h' s.heap.objs.size x y q1->Rest z O i j l s.heap h'->Q (some (.ref s.heap.objs.size)) {s with heap:=h'}):
  wpAny (model prog w) A (pyNext (.ref z)) Q E s:=by
 have ty:s.TypeIs (.ref z) "zip":=⟨_,gz,rfl⟩
 unfold pyNext
 exact Qaq (wpAny_attempt (wpAny_callSpecial?_slot (name:=Str.ofString "__next__") ty F.slot_zip_next (wpAny_call_entry F.slot_zip_next ty F.entry_zip_next
  (item D gz gT gO gi gj gl ga gb gc ex ey ez fun h' a1 a2 a3 a4 a5 a6 a7=>Qgq (q h' a1 a2 a3 a4 a5 a6 a7)) (F.args_zip_next_1 _))))
def KU(D:Ap z T O i j l a b c){Q:Option Value->Shared->Prop}(hA:A.handled=none)(gz:kP s.heap z T O .none (.bool false))(gT:fq s.heap T (.ref i) (.ref j) (.ref l))(gi:It t s.heap i a k)(ga:Sq t s.heap a xs)(ex:xs[k]?=none)
  (q:∀h',Rest z O i j l s.heap h'->Q none {s with heap:=h'}):wpAny (model prog w) A (pyNext (.ref z)) Q E s:=by
 have ty:s.TypeIs (.ref z) "zip":=⟨_,gz,rfl⟩
 unfold pyNext
 refine Qaq (wpAny_attempt (wpAny_callSpecial?_slot (name:=Str.ofString "__next__") ty F.slot_zip_next (wpAny_call_entry F.slot_zip_next ty F.entry_zip_next
  (stop D hA gz gT gi ga ex fun h' e r he=> ?_) (F.args_zip_next_1 _))))
 obtain⟨o,ho,hc⟩:=he
 exact Qaq (wpAny_isInstance (T:="StopIteration") (b:=true) ⟨o,ho,hc⟩ isSubtype_stop (Qgq (q _ r)))
end
abbrev G1(h:Heap)(a:Addr):Heap:=h.push {cls:=.type "tuple_iterator",data:=.fields #[.ref a,.int 0 0]}
abbrev G3(h:Heap)(a b c:Addr):Heap:=G1 (G1 (G1 h a) b) c
abbrev G4(h:Heap)(a b c:Addr):Heap:=(G3 h a b c).push {cls:=.type "tuple",data:=.seq #[.ref h.objs.size,.ref (G1 h a).objs.size,.ref (G1 (G1 h a) b).objs.size]}
abbrev G5(h:Heap)(a b c:Addr):Heap:=(G4 h a b c).push {cls:=.type "tuple",data:=.seq #[.none,.none,.none]}
abbrev G6(h:Heap)(a b c:Addr):Heap:=(G5 h a b c).push {cls:=.type "zip",data:=.fields #[.none,.bool false,.bool false,.ref (G3 h a b c).objs.size,.ref (G4 h a b c).objs.size]}
def pX(a b c:Addr)(xs ys zs:Array Value):Meets (Builtin.«zip.__new__» ⟨[.type "zip",.ref a,.ref b,.ref c],[]⟩) (fun _ R s=>s.heap.IsTuple a xs/\s.heap.IsTuple b ys/\s.heap.IsTuple c zs/\R (.ok (.ret (.ref (G5 s.heap a b c).objs.size))) {s with heap:=G6 s.heap a b c}):=
 .of_wp fun prog w A R s h=>by
  obtain⟨hp,g,d,tk,os⟩:=s
  obtain⟨ga,gb,gc,h⟩:=h
  have sub:=sub_zip
  have la:Heap.IsTuple (Shared.heap ⟨hp,g,d,tk,os⟩) a xs:=ga
  have lb:Heap.IsTuple (Shared.heap ⟨G1 hp a,g,d,tk,os⟩) b ys:=Sq.push (t:=true) gb _
  have lc:Heap.IsTuple (Shared.heap ⟨G1 (G1 hp a) b,g,d,tk,os⟩) c zs:=Sq.push (t:=true) (Sq.push (t:=true) gc _) _
  wp_walk using wpAny_pyIter_tuple la,wpAny_pyIter_tuple lb,wpAny_pyIter_tuple lc
  exact⟨_,rfl,h⟩
def Nn(u v x y:Value):argsOk "object.__init__" ⟨[u,v,x,y],[]⟩:=by
 unfold argsOk
 rw[signature?_of (id:="object.__init__") (n:="__init__".toList.reverse) (o:="object".toList.reverse) (by kernel_rfl) F.owner_object]
 kernel_rfl
def IR{n a b c:Addr}(h1:a<n)(h2:b<n)(h3:c<n):Ap (n+5) (n+3) (n+4) n (n+1) (n+2) a b c:=by
 constructor <;>(intro e;simp only[Addr] at *;omega)
section
variable{prog:Program}{w:World}{A:Around}{E:Value->Shared->Prop}{s:Shared}
def Lg{a b c:Addr}{xs ys zs:Array Value}{Q:Value->Shared->Prop}(ga:s.heap.IsTuple a xs)(gb:s.heap.IsTuple b ys)(gc:s.heap.IsTuple c zs)
  (q:∀h',kP h' (s.heap.objs.size+5) (s.heap.objs.size+3) (s.heap.objs.size+4) .none (.bool false)->fq h' (s.heap.objs.size+3) (.ref s.heap.objs.size) (.ref (s.heap.objs.size+1)) (.ref (s.heap.objs.size+2))->fq h' (s.heap.objs.size+4) .none .none .none→
   It true h' s.heap.objs.size a 0->It true h' (s.heap.objs.size+1) b 0->It true h' (s.heap.objs.size+2) c 0->(∀c o,s.heap.get? c=some o->h'.get? c=some o)->Q (.ref (s.heap.objs.size+5)) {s with heap:=h'}):
  wpAny (model prog w) A (call (.type "zip") [.ref a,.ref b,.ref c]) Q E s:=by
 refine callType_new F.called_zip (by decide) (Nu _ _ _) (Ng _ _ _) (fun obj=>Nn obj _ _ _) F.entry_zip_new (pX a b c xs ys zs) ⟨ga,gb,gc,?_⟩
 have up:∀{h:Heap} {o o':Obj} {p:Addr},h.get? p=some o'->(h.push o).get? p=some o':=fun e=>Qcq _ e
 have e1:(G1 s.heap a).objs.size=s.heap.objs.size+1:=Heap.size_push ..
 have e2:(G1 (G1 s.heap a) b).objs.size=s.heap.objs.size+2:=by rw[Heap.size_push,e1]
 have e3:(G3 s.heap a b c).objs.size=s.heap.objs.size+3:=by rw[Heap.size_push,e2]
 have e4:(G4 s.heap a b c).objs.size=s.heap.objs.size+4:=by rw[Heap.size_push,e3]
 have e5:(G5 s.heap a b c).objs.size=s.heap.objs.size+5:=by rw[Heap.size_push,e4]
 have k6:(G6 s.heap a b c).get? (G5 s.heap a b c).objs.size=some _:=Qrq _ rfl
 have k5:(G6 s.heap a b c).get? (G4 s.heap a b c).objs.size=some _:=up (Qrq _ rfl)
 have k4:(G6 s.heap a b c).get? (G3 s.heap a b c).objs.size=some _:=up (up (Qrq _ rfl))
 have k3:(G6 s.heap a b c).get? (G1 (G1 s.heap a) b).objs.size=some _:=up (up (up (Qrq _ rfl)))
 have k2:(G6 s.heap a b c).get? (G1 s.heap a).objs.size=some _:=up (up (up (up (Qrq _ rfl))))
 have k1:(G6 s.heap a b c).get? s.heap.objs.size=some _:=up (up (up (up (up (Qrq _ rfl)))))
 refine(?_:_/\_)
 rw[e3,e4,e5] at k6
 rw[e1,e2,e3] at k4
 rw[e4] at k5
 rw[e2] at k3
 rw[e1] at k2
 rw[e5]
 exact⟨⟨_,k6,rfl⟩,q _ k6 k4 k5 ⟨_,k1,rfl,rfl⟩ ⟨_,k2,rfl,rfl⟩ ⟨_,k3,rfl,rfl⟩ fun c o n=>up (up (up (up (up (up n)))))⟩
end
end Z3
namespace L2
open PySem PySem.Spec PyProof.Rows Zq
def MV(K:PySem.W.Frag)(a b c:Addr):It:=
  ⟨fun i H=>∃xs ys zs x y z,rO K true H a xs/\rO K true H b ys/\rO K true H c zs/\xs[i]?=some x/\ys[i]?=some y/\zs[i]?=some z,
   fun i H v H'=>∃p,v=.ref p/\H p=none/\∀xs ys zs x y z,rO K true H a xs->rO K true H b ys->rO K true H c zs->xs[i]?=some x->ys[i]?=some y->zs[i]?=some z->H'=upd H p (.tup [x,y,z]),
   fun i H=>∃xs,rO K true H a xs/\xs.length<=i⟩
def CT{P:Program}{w:World}{K:PySem.W.Frag}{elts:List Expr}{x1:Nat}{tp:Pos}{z T O i j l a b c:Addr}(D:Z3.Ap z T O i j l a b c):
  Turn P w K (.Tuple elts x1 tp) (MV K a b c) [z,T,O,i,j,l] z (fun n h=>kP h z T O .none (.bool false)/\Z3.fq h T (.ref i) (.ref j) (.ref l)/\(∃u v x,Z3.fq h O u v x)/\Zq.It true h i a n/\Zq.It true h j b n/\Zq.It true h l c n) where
 mem:=by simp
 obj:=by
  rintro n h ⟨gz,gT,⟨u,v,x,gO⟩,gi,gj,gl⟩ c hc
  simp at hc
  rcases hc with rfl|rfl|rfl|rfl|rfl|rfl
  ·exact⟨_,gz,fun v n=>by cases n⟩
  ·exact⟨_,gT,fun v n=>by cases n⟩
  ·exact⟨_,gO,fun v n=>by cases n⟩
  ·exact gi.obj
  ·exact gj.obj
  ·exact gl.obj
 keep:=by
  rintro n h h' ⟨gz,gT,⟨u,v,x,gO⟩,gi,gj,gl⟩ k
  exact⟨k z (by simp) _ gz,k T (by simp) _ gT,⟨u,v,x,k O (by simp) _ gO⟩,gi.at fun o e=>k i (by simp) o e,gj.at fun o e=>k j (by simp) o e,gl.at fun o e=>k l (by simp) o e⟩
 item:=by
  rintro X hP hw hK hc n pins s σ H E I hf ⟨gz,gT,⟨u,v,x,gO⟩,gi,gj,gl⟩ hg
  subst hP hw hK
  obtain⟨xs,ys,zs,x,y,e,qa,qb,qc,hx,hy,he⟩:=hg
  obtain⟨its,ra,pa,_⟩:=I.sq qa
  obtain⟨jts,rb,pb,_⟩:=I.sq qb
  obtain⟨lts,rc,pc,_⟩:=I.sq qc
  obtain⟨ux,ex,rx⟩:=ra.get hx
  obtain⟨uy,ey,ry⟩:=rb.get hy
  obtain⟨uz,ez,rz⟩:=rc.get he
  have lt:∀{c o},s.heap.get? c=some o->c≠s.heap.objs.size:=fun e=>Qwq (Qiq e)
  have nfp:∀c∈[z,T,O,i,j,l],c≠s.heap.objs.size:=fun c hc=>by
   obtain⟨oi,e1,_⟩:=gi.obj
   obtain⟨oj,e2,_⟩:=gj.obj
   obtain⟨ol,e3,_⟩:=gl.obj
   simp at hc
   rcases hc with rfl|rfl|rfl|rfl|rfl|rfl
   ·exact lt gz
   ·exact lt gT
   ·exact lt gO
   ·exact lt e1
   ·exact lt e2
   ·exact lt e3
  refine Z3.LQ D gz gT gO gi gj gl pa pb pc (x:=ux) (y:=uy) (q1:=uz) (by simpa using ex) (by simpa using ey) (by simpa using ez) fun h1 z1 O1 i1 j1 l1 n1 r1=>⟨_,rfl,?_⟩
  have T1:=r1 _ _ D.Tz D.TO D.Ti D.Tj D.Tl gT
  refine wpAny_letOwnedTupleGo_zip z1 fun h2 z2 b2=> ?_
  have I2:Inv X pins σ (upd H s.heap.objs.size (.tup [x,y,e])) {s with heap:=h2}:=I.turnedNew (t':=s.toks) (fp:= [z,T,O,i,j,l]) hf (fun c o hc e=> ?_) (Qmq _) ?_
  ·refine⟨.ref s.heap.objs.size,_,I2,rfl,⟨s.heap.objs.size,rfl,I.hok.fresh (Qmq _),fun xs' ys' zs' x' y' e' q1 q2 q3 q4 q5 q6=> ?_⟩,⟨z2,b2.extBut _ _ D.Tz T1,⟨_,_,_,b2.extBut _ _ D.Oz O1⟩,i1.ext b2.extBut D.iz,j1.ext b2.extBut D.jz,l1.ext b2.extBut D.lz⟩,fun c hc=> ?_⟩
   ·rw[I.sq_inj q1 qa,hx] at q4
    rw[I.sq_inj q2 qb,hy] at q5
    rw[I.sq_inj q3 qc,he] at q6
    cases q4
    cases q5
    cases q6
    rfl
   ·rw[bC (nfp c hc)]
    exact(hf c hc).1
  ·simp at hc
   exact b2.extBut _ _ hc.1 (r1 c o hc.1 hc.2.2.1 hc.2.2.2.1 hc.2.2.2.2.1 hc.2.2.2.2.2 e)
  ·exact⟨by show 3<=_;decide,[ux,uy,uz],.cons rx (.cons ry (.cons rz .nil)),_,b2.extBut _ _ (fun e=>nfp z (by simp) e.symm) n1,rfl,rfl,0,rfl⟩
 done:=by
  rintro X hP hw hK hc n pins s σ H E I hf ⟨gz,gT,⟨u,v,x,gO⟩,gi,gj,gl⟩ hg
  subst hP hw hK
  obtain⟨xs,qa,hx⟩:=hg
  obtain⟨its,ra,pa,_⟩:=I.sq qa
  have hl:=ra.length
  refine Z3.KU D (I.ok.hd hc) gz gT gi pa (by simp;omega) fun h1 r1=>⟨rfl,I.turnedL (t':=s.toks) (fp:= [z,T,O,i,j,l]) hf fun c o hc e=> ?_⟩
  simp at hc
  exact r1 c o hc.1 hc.2.2.1 hc.2.2.2.1 hc.2.2.2.2.1 hc.2.2.2.2.2 e
 self:=by
  rintro _ _ _ _ _ ⟨gz,_⟩ h
  exact wpAny_pyIter_zip gz h
section
variable{X:Cx}
def Np(K:PySem.W.Frag)(ta:TA):TI:=fun σ H R=>ta σ H fun vs H1=>∃(a b c:Addr) (xs ys zs:List V),vs= [.ref a,.ref b,.ref c]/\rO K true H1 a xs/\rO K true H1 b ys/\rO K true H1 c zs/\R (MV K a b c) H1
def Hf{elts:List Expr}{x1:Nat}{tp:Pos}{a b c:Expr}{ta:TA}{p pos:Pos}(hg:Gl X "zip")(hm:X.mg "zip"=none)(ha:PA X [a,b,c] ta)(hs:starEach [a,b,c] X.env= [(false,eval a X.env),(false,eval b X.env),(false,eval c X.env)]:=by rfl)(hs2:starEach [b,c] X.env= [(false,eval b X.env),(false,eval c X.env)]:=by rfl):
  PI X (.Tuple elts x1 tp) (.Call (.Name "zip" p) [a,b,c] [] pos) (Np X.K ta):=by
 intro pins s σ H R I h
 refine Call_ (lC I hg hm (by rfl) (PyProof.Rows.callWith_type1 (dr (ha pos pins s σ H _ I h) fun us s1 hh=> ?_) (by rw[hs,hs2]) (by rw[hs2];rfl)))
 obtain⟨vs,H1,I1,r1,x,y,z,xs,ys,zs,e,qa,qb,qc,q⟩:=hh
 subst e
 cases r1 with
 | cons r rr=>
   cases rr with
   | cons r' rr=>
     cases rr with
     | cons r3 rr=>
       cases rr
       cases r
       cases r'
       cases r3
       obtain⟨its,ra,pa,_⟩:=I1.sq qa
       obtain⟨jts,rb,pb,_⟩:=I1.sq qb
       obtain⟨lts,rc,pc,_⟩:=I1.sq qc
       refine Z3.Lg pa pb pc fun h' gz gT gO gi gj gl k=> ?_
       refine wpAny_pyIter_zip gz ⟨_,_,_,_,H1,rfl,I1.kept (t':=s1.toks) k,CT (Z3.IR (Sq.lt pa) (Sq.lt pb) (Sq.lt pc)),⟨gz,gT,⟨_,_,_,gO⟩,gi,gj,gl⟩,fun c hc=> ?_,q⟩
       have hb:s1.heap.objs.size<=c:=by
         simp only[Qsq,QXq,or_false] at hc
         rcases hc with e|e|e|e|e|e <;>(rw[e];first|exact Qmq _|exact Nat.le_add_right _ _)
       exact I1.fpOk hb (I1.hok.fresh hb)
end
end L2
namespace DL
open PySem PySem.Spec PyProof.Rows L2
def kO:List D->List D->List D->List D
 |x::xs,y::ys,z::zs=>D.tup [x,y,z]::kO xs ys zs
 |_,_,_=> []
theorem pG:∀{xs ys zs:List D} {i:Nat} {d:D},(kO xs ys zs)[i]?=some d->∃x y z,xs[i]?=some x/\ys[i]?=some y/\zs[i]?=some z/\d=.tup [x,y,z]
 | [],_,_,_,_,h=>by simp[kO] at h
 |_::_,[],_,_,_,h=>by simp[kO] at h
 |_::_,_::_,[],_,_,h=>by simp[kO] at h
 | x::xs,y::ys,z::zs,0,d,h=>by
   simp[kO] at h
   exact⟨x,y,z,rfl,rfl,rfl,h.symm⟩
 | x::xs,y::ys,z::zs,i+1,d,h=>by
   simp[kO] at h
   obtain⟨a,b,c,e1,e2,e3,e4⟩:=pG h
   exact⟨a,b,c,by simpa using e1,by simpa using e2,by simpa using e3,e4⟩
theorem v7:∀{xs ys zs:List D},xs.length<=ys.length->xs.length<=zs.length->(kO xs ys zs).length=xs.length
 | [],_,_,_,_=>by simp[kO]
 |_::_,[],_,h,_=>by simp at h
 |_::_,_::_,[],_,h=>by simp at h
 | x::xs,y::ys,z::zs,h,h'=>by
   simp at h h'
   simp[kO,v7 h h']
open Classical in
def B3(f g h:eJ):ye:=fun Γ S=>(f Γ S).bind fun(p,S1)=>(g Γ S1).bind fun(r,S2)=>(h Γ S2).bind fun(u,S3)=>
 if (p.2.isL=false/\r.2.isL=false/\u.2.isL=false)/\p.2.stays S2 p.1/\p.2.stays S3 p.1/\r.2.stays S3 r.1/\p.1.length<=r.1.length/\p.1.length<=u.1.length then some ((kO p.1 r.1 u.1,fun S=>p.2.stays S p.1/\r.2.stays S r.1/\u.2.stays S u.1),S3) else none
section
variable{X:Cx}{a b c:Expr}{pos:Pos}
def Iz{elts:List Expr}{x1:Nat}{tp p:Pos}{f g h:eJ}(hg:Gl X "zip")(hm:X.mg "zip"=none)(ha:PE X a (tQ (md X) f))(hb:PE X b (tQ (md X) g))(hc:PE X c (tQ (md X) h))(hs:starEach [a,b,c] X.env= [(false,eval a X.env),(false,eval b X.env),(false,eval c X.env)]:=by rfl)(hs2:starEach [b,c] X.env= [(false,eval b X.env),(false,eval c X.env)]:=by rfl)(hs3:starEach [c] X.env= [(false,eval c X.env)]:=by rfl):
  PI X (.Tuple elts x1 tp) (.Call (.Name "zip" p) [a,b,c] [] pos) (tI (md X) (B3 f g h)):=by
 refine L7 (Hf hg hm (dC ha (dC hb (dC hc gK hs3) (by rw[hs2,hs3])) (by rw[hs,hs2])) hs hs2) fun σ H R hh=> ?_
 obtain⟨ρ,Γ,S,ds,W,S',ok,e,q⟩:=hh
 obtain⟨⟨⟨ds1,t1⟩,S1⟩,e1,e⟩:=ar e
 obtain⟨⟨⟨ds2,t2⟩,S2⟩,e2,e⟩:=ar e
 obtain⟨⟨⟨ds3,t3⟩,S3⟩,e3,e⟩:=ar e
 dsimp only at e
 split at e
 ·rename_i c
  obtain⟨e4,rfl⟩:=cR e
  obtain⟨rfl,rfl⟩:=Prod.mk.inj e4
  obtain⟨⟨l1,l2,l3⟩,w1,w2,w3,n1,n2⟩:=c
  have sq:∀{ρ:List Addr} {H:Hp} {a:Addr} {vs:List V} {t:Tag},Ac (md X) ρ H a vs t->t.isL=false->L2.rO X.K true H a vs:=fun h e=>by
   have:=h.sqB
   rw[e] at this
   exact this
  refine⟨ρ,Γ,S,ds1,t1,S1,ok,e1,fun ρ1 a1 vs1 H1 x1 st1 h1 r1=>⟨ρ1,Γ,S1,ds2,t2,S2,ok.to x1 st1,e2,fun ρ2 b1 ws H2 x2 st2 h2 r2=>⟨ρ2,Γ,S2,ds3,t3,S3,(ok.to x1 st1).to x2 st2,e3,fun ρ3 c1 ys H3 x3 st3 h3 r3=> ?_⟩⟩⟩
  obtain⟨va,ha1,ra1⟩:=h1.to r1 x2 st2 w1
  obtain⟨vb,ha2,ra2⟩:=ha1.to ra1 x3 st3 w2
  obtain⟨vc,hb2,rb2⟩:=h2.to r2 x3 st3 w3
  refine⟨a1,b1,c1,vb,vc,ys,rfl,sq ha2 l1,sq hb2 l2,sq h3 l3,q _ _ _ ((x1.trans x2).trans x3) st3 fun i ρ4 S4 H4 x4 st4 w=> ?_⟩
  obtain⟨us,g1,g2⟩:=ha2.to ra2 x4 st4 w.1
  obtain⟨vs,g3,g4⟩:=hb2.to rb2 x4 st4 w.2.1
  obtain⟨zs,g5,g6⟩:=h3.to r3 x4 st4 w.2.2
  refine⟨fun d hd=> ?_,fun hi=>⟨us,sq g1 l1,?_⟩⟩
  ·obtain⟨x,y,z,hx,hy,hz,rfl⟩:=pG hd
   obtain⟨u,hu,ru⟩:=g2.get hx
   obtain⟨v,hv,rv⟩:=g4.get hy
   obtain⟨z',hz',rz⟩:=g6.get hz
   refine⟨⟨us,vs,zs,u,v,z',sq g1 l1,sq g3 l2,sq g5 l3,hu,hv,hz'⟩,fun v1 H5 hh=> ?_⟩
   obtain⟨p,rfl,hp,hq⟩:=hh
   have:=hq us vs zs u v z' (sq g1 l1) (sq g3 l2) (sq g5 l3) hu hv hz'
   subst this
   exact⟨cH.laid hp,st4.lay hp,.tup b_ ((bq.cons ru (.cons rv (.cons rz .nil))).ext (cH.laid hp))⟩
  ·rw[hi]
   rw[v7 n1 n2]
   exact Nat.le_of_eq g2.length.symm
 ·cases e
end
end DL
namespace W28
open PySem PySem.Spec L2 DL
abbrev aR(k:Int):=cF (.int k)
abbrev aI(k:Nat):=ao (aq k)
abbrev fo(k:Int):=ao (cF (.int k))
def vC:dt:=
 (aL (bt 2 (aR 0))
 (aL (fE (aN (aE Gb (aq 1) (jI (bu (aq 0))))) (bt 2 (yz Hh (ao (aE aW (aq 0) (aq 1)) aw))) g7)
 (aL (bt 3 (aE nT (aE rE (aq 2) (aE nT (aE xK (aR 10) (aR 60)) (aE xK (aR 10) (aR 60)))) (yz intOfD (ao (aE LX (aq 2) (aE xK (aR 10) (aR 18))) aw))))
 (Es (cg (aI 3 (ao (aE rE (aE cm (aE cm (aq 2) (aE nT (aR 104729) (aq 1))) (aR 7)) (aR 2305843009213693951)) (fo 0 aw))))))))
def me:dX:=ft 4 vC
def sI:dt:=
 (aL (fE (aN (aE Kn (aE aW (aq 0) (aR 0)) (aR 0))) (aL (bt 2 (aE rE (aE aW (aq 0) (aR 0)) (aq 1)))
 (aL (rY (aE yq (aE aW (aq 0) (aR 0)) (aq 1)) (Kl (aq 0) (aR 0)))
 (cP (aq 2)))) g7)
 (aL (LV (aq 0) (aR 2) (aR 1))
 (aL (bt 3 (aE rE (aE cm (aE cm (aE nT (aE aW (aq 0) (aR 1)) (aR 69069)) (aE nT (aR 9973) (aE aW (aq 0) (aR 2)))) (aR 5)) (aR 2305843009213693921)))
 (aL (rY (aE rE (aE nT (aq 3) (aE cm (aE cm (aE rE (aq 3) (aR 999983)) (aE nT (aR 2) (aE aW (aq 0) (aR 2)))) (aR 3))) (aR 2305843009213693907)) (Kl (aq 0) (aR 1)))
 (cP (aE rE (aE yq (aE aW (aq 0) (aR 1)) (aR 65537)) (aq 1)))))))
def aJ:dX:=ft 4 sI
def qS:dt:=
 (aL (bt 3 (cM (cx [none,some 1] (jq (iM (cg (ao (cF (.str "a")) (ao (cF (.str "b")) (ao (cF (.str "c")) (ao (cF (.str "d")) (ao (cF (.str "e")) (ao (cF (.str "zz")) aw))))))))) (cC 0) cW (aE cm (aq 1) (aq 0)))))
 (Es (Cv (iM (cx [none,some 0,some 3] (sV (aq 2)) (cC 0) cW (rD m_ (aq 2) (ao (aA aJ (aI 1 (ao (jI (bu (aq 2))) aw))) aw)))))))
def dj:dX:=ft 4 qS
def uc:dt:=
 (cP (aE aW (aq 1) (aA aJ (aI 0 (ao (jI (bu (aq 1))) aw)))))
def bQ:dX:=ft 2 uc
def vE(self:dX):dt:=
 (aL (bt 4 (aA aJ (aI 0 (fo 9 aw))))
 (aL (fE (IC (aN (aE Gb (aq 3) (aR 1))) (aN (aE Gb (aq 4) (aR 3)))) (aL (fE (fV (aN (ef (bu (aq 1)))) (aN (aE Kn (aA aJ (aI 0 (fo 3 aw))) (aR 0)))) (cP (aA bQ (aI 0 (aI 1 aw)))) g7)
 (cP (aA aJ (aI 0 (ao (aE aW (cM (cg (fo 3 (fo 10 aw)))) (yz intOfD (ao (aE (e_ false) (aA aJ (aI 0 (fo 5 aw))) (aR 0)) aw))) aw))))) g7)
 (aL (fE (fV (aN (aE (e_ false) (aq 4) (aR 3))) (aN (ef (bu (aq 2))))) (cP (bA (ao (cF (.str "waits")) (ao (aA bQ (aI 0 (aI 2 aw))) aw)))) g7)
 (aL (fE (aN (aE (e_ false) (aq 4) (aR 4))) (cP (bA (ao (cF (.str "not")) (ao (aA self (aI 0 (aI 1 (aI 2 (ao (aE mC (aq 3) (aR 1)) aw))))) aw)))) g7)
 (aL (bt 5 (aE aW (cM (cg (ao (cF (.str "plus")) (ao (cF (.str "minus")) (ao (cF (.str "less")) (ao (cF (.str "same")) (ao (cF (.str "both")) aw))))))) (aA aJ (aI 0 (fo 5 aw)))))
 (cP (bA (aI 5 (ao (aA self (aI 0 (aI 1 (aI 2 (ao (aE mC (aq 3) (aR 1)) aw))))) (ao (aA self (aI 0 (aI 1 (aI 2 (ao (aE mC (aq 3) (aR 1)) aw))))) aw))))))))))
def bF:Nat->dX
 |0=>fun _ _=>none
 |n+1=>ft 6 (vE (bF n))
def qJ:dt:=
 (aL (bt 4 (aE aW (cM (cg (fo 0 (ao (cF (.str "given")) (ao (aA (bF 4) (aI 0 (aI 1 (aI 2 (fo 1 aw))))) aw))))) (aA aJ (aI 0 (fo 3 aw)))))
 (aL (bt 5 (bA (ao (cF (.str "wait")) (ao (aA bQ (aI 0 (aI 2 aw))) (aI 4 aw)))))
 (aL (bt 6 (aA aJ (aI 0 (fo 3 aw))))
 (aL (fE (aN (aE (e_ false) (aq 6) (aR 0))) (Es (cg (aI 5 aw))) g7)
 (aL (bt 7 (bA (ao (cF (.str "not")) (ao (aA (bF 4) (aI 0 (aI 1 (aI 2 (fo 2 aw))))) aw))))
 (Es (cg (ao (bA (ao (cF (.str "unless")) (aI 7 (ao (aE cm (aq 3) (aR 3)) aw)))) (aI 5 (ao (bA (ao (cF (.str "go")) (ao (aE aW (cM (cg (aI 3 (ao (aE cm (aq 3) (aR 3)) aw)))) (aE mC (aq 6) (aR 1))) aw))) aw))))))))))
def jf:dX:=ft 8 qJ
def yn:dt:=
 (aL (rY (aA bQ (aI 0 (aI 1 aw))) (mr (nG 2 (aS (cC 4) (aS (cC 5) fw)))))
 (aL (bt 6 (aA bQ (aI 0 (ao (cM (AQ (iM (cg (ao (cF .non) aw))) (bu (aq 2)))) aw))))
 (cP (bA (ao (cF (.str "do")) (aI 6 (aI 4 (aI 5 (ao (aA (bF 4) (aI 0 (aI 3 (ao (cM (cg aw)) (fo 1 aw))))) aw)))))))))
def lO:dX:=ft 7 yn
def tE:dt:=
 (aL (rY (aq 1) (mr (nG 3 (aS (cC 4) (aS (cC 5) (aS (cC 6) fw))))))
 (aL (bt 7 (cM (AQ (bu (aq 5)) (iM (cg (ao (cF (.str "given")) aw))))))
 (aL (bt 8 (cM (cg aw)))
 (aL (lU (sV (aE cm (aR 1) (aA aJ (aI 0 (aI 3 aw))))) (cC 9) (aL (bt 10 (aA aJ (aI 0 (fo 9 aw))))
 (fE (fV (aN (aE Gb (aq 10) (aR 2))) (aN (ef (bu (aq 6))))) (nX (uP (aq 8) (iM (dY jf (aI 0 (aI 7 (aI 6 (ao (jI (bu (aq 8))) aw)))))))) (fE (fV (aN (aE Gb (aq 10) (aR 4))) (aN (ef (bu (aq 6))))) (aL (bt 11 (aE aW (cM (cg (ao (cF (.str "call")) (ao (cF (.str "all")) aw)))) (yz intOfD (ao (zY (aE (e_ false) (aq 4) (cF (.str "when free"))) (aE (e_ false) (aq 10) (aR 3))) aw))))
 (nX (rD iQ (aq 8) (ao (bA (aI 11 (ao (aA bQ (aI 0 (aI 6 aw))) aw))) aw)))) (fE (fV (aN (aE (e_ false) (aq 10) (aR 4))) (aN (ef (bu (aq 2))))) (nX (rD iQ (aq 8) (ao (aA lO (aI 0 (aI 2 (aI 5 (aI 7 aw))))) aw))) (fE (aN (aE (e_ false) (aq 10) (aR 5))) (aL (nX (rD iQ (aq 8) (ao (bA (ao (cF (.str "unless")) (ao (aA (bF 4) (aI 0 (aI 7 (aI 6 (fo 2 aw))))) (ao (aE cm (jI (bu (aq 8))) (aR 2)) aw)))) aw)))
 (nX (rD iQ (aq 8) (ao (bA (ao (cF (.str "tell")) (ao (aA aJ (aI 0 (fo 10 aw))) aw))) aw)))) (fE (fV (aN (aE Gb (aq 10) (aR 8))) (aN (ef (bu (aq 5))))) (nX (rD iQ (aq 8) (ao (bA (ao (cF (.str "put")) (ao (aA bQ (aI 0 (aI 5 aw))) (ao (aA (bF 4) (aI 0 (aI 7 (aI 6 (fo 2 aw))))) aw)))) aw))) (nX (rD iQ (aq 8) (ao (bA (ao (cF (.str "tell")) (ao (aA (bF 4) (aI 0 (aI 7 (aI 6 (fo 1 aw))))) aw))) aw))))))))))
 (cP (tupQ (ip (bu (aq 8)))))))))
def kF:dX:=ft 12 tE
def uj:dt:=
 (aL (bt 5 (aA bQ (aI 0 (aI 3 aw))))
 (aL (bt 6 (cM (dY dj (aI 0 (ao (cF (.str "")) (ao (aE aW (cM (cg (fo 1 (fo 1 (fo 2 (fo 0 aw)))))) (aA aJ (aI 0 (fo 4 aw)))) aw))))))
 (aL (bt 7 (cM (dY dj (aI 0 (ao (cF (.str "")) (ao (aA aJ (aI 0 (ao (aE cm (aq 4) (aR 1)) aw))) aw))))))
 (aL (bt 8 (cM (cg aw)))
 (aL (lU (jq (iM (dY dj (aI 0 (ao (cF (.str "")) (ao (aE cm (aR 1) (aA aJ (aI 0 (fo 3 aw)))) aw)))))) (cC 9) (aL (bt 10 (cM (cx [none,some 1] (jq (bu (aq 8))) (cC 0) cW (bA (aI 1 (ao (aE aW (aq 0) (aR 0)) aw))))))
 (aL (bt 11 (cM (AQ (bu (aq 2)) (iM (GM (bu (aq 10)) (yz intOfD (ao (aE (e_ false) (aA aJ (aI 0 (fo 5 aw))) (aR 0)) aw)))))))
 (nX (rD iQ (aq 8) (ao (bA (aI 9 (ao (aA kF (aI 0 (ao (bA (aI 5 (aI 6 (aI 7 aw)))) (aI 11 (fo 4 aw))))) aw))) aw))))))
 (aL (bt 12 (tupQ (iM (cx [none,some 0] (jq (bu (aq 7))) (cC 0) cW (bA (aI 0 (ao (aE aW (cM (cg (ao (cF (.str "row")) (ao (cF (.str "turns")) aw)))) (aA aJ (aI 1 (fo 2 aw)))) aw)))))))
 (cP (bA (aI 1 (aI 5 (ao (tupQ (iM (cx [none,some 0] (jq (bu (aq 6))) (cC 0) cW (bA (aI 0 (ao (aA aJ (aI 1 (fo 3 aw))) aw)))))) (aI 12 (ao (tupQ (ip (bu (aq 8)))) aw)))))))))))))
def kg:dX:=ft 13 uj
def qB:dt:=
 (aL (bt 4 (cM (dY dj (aI 0 (ao (cF (.str "")) (aI 1 aw))))))
 (aL (bt 5 (cM (cg aw)))
 (aL (F9 (aN (ef (bu (aq 4)))) (aL (bt 6 (cM (cg aw)))
 (aL (lU (jq (bu (aq 5))) (cC 7) (nX (uP (aq 6) (iM (cx [none,some 7] (jq (bu (aE aW (aq 7) (aR 4)))) (cC 0) cW (bA (ao (aE aW (aq 1) (aR 0)) (ao (aE aW (aq 0) (aR 0)) aw))))))))
 (aL (bt 8 (rD m_ (aq 4) (ao (aA aJ (aI 0 (ao (jI (bu (aq 4))) aw))) aw)))
 (nX (rD iQ (aq 5) (ao (aA kg (aI 0 (aI 8 (aI 6 (aI 2 (aI 3 aw)))))) aw)))))) 4)
 (cP (tupQ (iM (xZ (bu (aq 5)))))))))
def i3:dX:=ft 9 qB
def vR:dt:=
 (aL (bt 5 (cM (cg aw)))
 (aL (lU (sV (aE cm (aR 1) (aA aJ (aI 0 (aI 4 aw))))) (cC 6) (aL (bt 7 (aA aJ (aI 0 (fo 10 aw))))
 (fE (fV (aN (aE Gb (aq 7) (aR 5))) (aN (ef (bu (aq 1))))) (nX (rD iQ (aq 5) (ao (aA lO (aI 0 (aI 1 (aI 2 (aI 2 aw))))) aw))) (fE (fV (aN (aE (e_ false) (aq 7) (aR 5))) (aN (ef (bu (aq 3))))) (nX (rD iQ (aq 5) (ao (bA (ao (aE aW (cM (cg (ao (cF (.str "take")) (ao (cF (.str "give")) aw)))) (aA aJ (aI 0 (fo 2 aw)))) (ao (aA bQ (aI 0 (aI 3 aw))) aw))) aw))) (fE (fV (aN (aE (e_ false) (aq 7) (aR 6))) (aN (ef (bu (aq 3))))) (nX (rD iQ (aq 5) (ao (bA (ao (cF (.str "pass")) (ao (aA bQ (aI 0 (aI 3 aw))) (ao (aA bQ (aI 0 (aI 3 aw))) aw)))) aw))) (fE (fV (aN (aE (e_ false) (aq 7) (aR 7))) (aN (ef (bu (aq 2))))) (nX (rD iQ (aq 5) (ao (bA (ao (cF (.str "put")) (ao (aA bQ (aI 0 (aI 2 aw))) (ao (aA (bF 4) (aI 0 (aI 2 (ao (cM (cg aw)) (fo 2 aw))))) aw)))) aw))) (fE (aN (aE (e_ false) (aq 7) (aR 8))) (aL (nX (rD iQ (aq 5) (ao (bA (ao (cF (.str "unless")) (ao (aA (bF 4) (aI 0 (aI 2 (ao (cM (cg aw)) (fo 2 aw))))) (ao (aE cm (jI (bu (aq 5))) (aR 2)) aw)))) aw)))
 (nX (rD iQ (aq 5) (ao (bA (ao (cF (.str "say")) (ao (aA (bF 4) (aI 0 (aI 2 (ao (cM (cg aw)) (fo 1 aw))))) aw))) aw)))) (nX (rD iQ (aq 5) (ao (bA (ao (cF (.str "say")) (ao (aA (bF 4) (aI 0 (aI 2 (ao (cM (cg aw)) (fo 1 aw))))) aw))) aw))))))))))
 (aL (fE (aN (aE (e_ false) (aA aJ (aI 0 (fo 5 aw))) (aR 0))) (nX (rD iQ (aq 5) (ao (bA (ao (cF (.str "go")) (ao (aA aJ (aI 0 (ao (aE cm (jI (bu (aq 5))) (aR 2)) aw))) aw))) aw))) g7)
 (cP (tupQ (ip (bu (aq 5))))))))
def mf:dX:=ft 8 vR
def qI:dt:=
 (aL (bt 4 (cM (cg aw)))
 (aL (lU (jq (bu (aq 1))) (cC 5) (nX (uP (aq 4) (iM (cx [none,some 5] (jq (bu (aE aW (aq 5) (aR 4)))) (cC 0) cW (bA (ao (aE aW (aq 1) (aR 0)) (ao (aE aW (aq 0) (aR 0)) aw))))))))
 (aL (bt 6 (cM (dY dj (aI 0 (ao (cF (.str "p")) (ao (aA aJ (aI 0 (ao (aE cm (aq 3) (aR 1)) aw))) aw))))))
 (aL (bt 7 (cM (dY dj (aI 0 (ao (cF (.str "o")) (ao (aE aW (cM (cg (fo 0 (fo 0 (fo 1 (fo 2 aw)))))) (aA aJ (aI 0 (fo 4 aw)))) aw))))))
 (aL (bt 8 (cM (cg aw)))
 (aL (lU (sV (aq 2)) (cC 9) (aL (bt 10 (cM (dY dj (aI 0 (ao (cF (.str "")) (ao (aE aW (cM (cg (fo 0 (fo 1 (fo 1 (fo 2 aw)))))) (aA aJ (aI 0 (fo 4 aw)))) aw))))))
 (aL (bt 11 (aA mf (aI 0 (aI 4 (ao (cM (AQ (bu (aq 10)) (bu (aq 7)))) (aI 6 (fo 4 aw)))))))
 (nX (rD iQ (aq 8) (ao (bA (ao (tupQ (iM (cx [none,some 0] (jq (bu (aq 10))) (cC 0) cW (bA (aI 0 (ao (aA aJ (aI 1 (fo 3 aw))) aw)))))) (aI 11 aw))) aw))))))
 (aL (bt 12 (tupQ (iM (cx [none,some 0] (jq (bu (aq 6))) (cC 0) cW (bA (aI 0 (ao (aA aJ (aI 1 (fo 3 aw))) aw)))))))
 (cP (bA (aI 1 (aI 12 (ao (tupQ (iM (cx [none,some 0] (jq (bu (aq 7))) (cC 0) cW (bA (aI 0 (ao (aA aJ (aI 1 (fo 3 aw))) aw)))))) (ao (tupQ (ip (bu (aq 8)))) aw)))))))))))))
def i4:dX:=ft 13 qI
def kJ:dt:=
 (aL (bt 1 (aA i3 (aI 0 (ao (aE aW (cM (cg (fo 1 (fo 2 (fo 3 (fo 1 (fo 2 (fo 0 aw)))))))) (aA aJ (aI 0 (fo 6 aw)))) (ao (cM (cg (ao (cF (.str "at once")) (ao (cF (.str "when free")) aw)))) (fo 2 aw))))))
 (cP (aA i4 (aI 0 (aI 1 (ao (aE cm (aR 1) (aA aJ (aI 0 (fo 4 aw)))) (fo 2 aw)))))))
def eE:dX:=ft 2 kJ
def sR:dt:=
 (cP (tupQ (iM (cx [none,none] (jq (bu (aq 0))) (mr (nG 2 (aS (cC 0) (aS (cC 1) fw)))) cW (aq 1)))))
def gH:dX:=ft 1 sR
def qu:dt:=
 (aL (rY (aq 0) (mr (nG 5 (aS (cC 1) (aS (cC 2) (aS (cC 3) (aS (cC 4) (aS (cC 5) fw))))))))
 (cP (bA (ao (aA gH (aI 3 aw)) (ao (cF (.int (-1))) (ao (bA aw) (ao (bA aw) (ao (tupQ (iM (cx [none] (jq (bu (aq 4))) (cC 0) cW (bA aw)))) aw))))))))
def i9:dX:=ft 6 qu
def EY:dt:=
 (aL (rY (aq 0) (mr (nG 4 (aS (cC 1) (aS (cC 2) (aS (cC 3) (aS (cC 4) fw)))))))
 (aL (bt 5 (bA (ao (cF (.int (-1))) (ao (cF (.int (-1))) (fo 0 (fo 0 (fo 0 aw)))))))
 (cP (bA (ao (tupQ (iM (cx [none] (jq (bu (aq 1))) (cC 0) cW (aA i9 (aI 0 aw))))) (ao (tupQ (iM (cx [none,none] (jq (bu (aq 2))) (mr (nG 2 (aS (cC 0) (aS (cC 1) fw)))) cW (bA (aI 1 (ao (bA aw) aw)))))) (ao (aA gH (aI 3 aw)) (ao (tupQ (iM (cx [none,none,some 5] (jq (bu (aq 4))) (mr (nG 2 (aS (cC 0) (aS (cC 1) fw)))) cW (bA (ao (aA gH (aI 0 aw)) (ao (bA (aI 2 aw)) aw)))))) aw))))))))
def xS:dX:=ft 6 EY
def vA:dt:=
 (Es (cx [none,none] (jq (bu (aq 0))) (mr (nG 2 (aS (cC 0) (aS (cC 1) fw)))) cW (aq 1)))
def mh:dX:=ft 1 vA
def lV:dt:=
 (aL (bt 1 (cM (cg aw)))
 (aL (lU (jq (bu (aE aW (aq 0) (aR 1)))) (mr (nG 2 (aS (cC 2) (aS (cC 3) fw)))) (nX (vi (aq 1) (bu (aq 3)))))
 (aL (lU (jq (bu (aE aW (aq 0) (aR 0)))) (mr (nG 5 (aS (cC 4) (aS (cC 5) (aS (cC 3) (aS (cC 6) (aS (cC 7) fw))))))) (aL (nX (vi (aq 1) (bu (aE cm (aq 3) (aq 6)))))
 (lU (jq (bu (aq 7))) (cC 8) (nX (uP (aq 1) (iM (dY mh (aI 8 aw))))))))
 (cP (aq 1)))))
def eV:dX:=ft 9 lV
def qV:dt:=
 (cP (aE aW (aE aW (aE aW (aE aW (aq 0) (aR 3)) (aq 1)) (aR 1)) (uw (aR 1))))
def dm:dX:=ft 2 qV
def qH:dt:=
 (aL (G7 3 4 (ao (aE aW (aq 2) (aR 0)) (ao (aE aW (aq 2) (aR 1)) aw)))
 (aL (fE (aN (aE (e_ false) (aq 3) (cF (.int (-1))))) (cP (aE aW (aE aW (aE aW (aq 0) (aR 3)) (aq 1)) (aR 1))) g7)
 (cP (aE aW (aE aW (aE aW (aE aW (aE aW (aq 0) (aR 0)) (aq 3)) (aR 4)) (aq 4)) (aR 1)))))
def fR:dX:=ft 5 qH
def k8:dt:=
 (aL (bt 3 (aA dm (aI 1 (aI 2 aw))))
 (cP (zY (aE (e_ false) (aE aW (aq 3) (aR 0)) (cF (.int (-1)))) (aE (e_ false) (aE aW (aq 3) (aR 2)) (jI (bu (aA fR (aI 0 (aI 2 (aI 3 aw))))))))))
def fX:dX:=ft 4 k8
def vS:dt:=
 (aL (bt 2 (cM (dY eV (aI 1 aw))))
 (Es (cx [none,some 0,some 1,some 2] (sV (jI (bu (aE aW (aq 1) (aR 3))))) (cC 0) (fV (aN (Br true (aq 0) (bu (aq 3)))) (sX (lu (aA fX (aI 1 (aI 2 (aI 0 aw))))))) (aq 0))))
def jT:dX:=ft 3 vS
def sT:dt:=
 (aL (fE (fV (aN (Br false (aq 2) (bu (aq 1)))) (aN (aE (e_ false) (aA aJ (aI 0 (fo 2 aw))) (aR 0)))) (cP (aq 2)) g7)
 (cP (aA bQ (aI 0 (aI 1 aw)))))
def kA:dX:=ft 3 sT
def vW:dt:=
 (Es (cx [none] (jq (bu (aq 0))) (cC 0) cW (aE aW (aq 0) (aR 0))))
def eG:dX:=ft 1 vW
def vL:dt:=
 (cP (I0 (iM (dY eG (aI 0 aw))) (aq 1)))
def dD:dX:=ft 2 vL
def sD:dt:=
 (cP (aE cm (aE cm (p7 (aq 0) qF (pV (aq 1))) (bA (aI 2 aw))) (p7 (aq 0) (pV (aE cm (aq 1) (aR 1))) qF)))
def dS:dX:=ft 3 sD
def ug:dt:=
 (cP (aE cm (p7 (aq 0) qF (pV (aR 3))) (bA (ao (aA dS (ao (aE aW (aq 0) (aR 3)) (aI 1 (ao (bA (aI 2 (aI 3 aw))) aw)))) aw))))
def fN:dX:=ft 4 ug
def t6:dt:=
 (cP (aE cm (bA (ao (aA dS (ao (aE aW (aq 0) (aR 0)) (aI 1 (aI 2 aw)))) aw)) (p7 (aq 0) (pV (aR 1)) qF)))
def dA:dX:=ft 3 t6
def nU:dt:=
 (aL (bt 5 (aE aW (aA dm (aI 1 (aI 2 aw))) (aR 0)))
 (aL (fE (aN (aE (e_ true) (aq 5) (cF (.int (-1))))) (aL (bt 6 (aA dD (ao (aE aW (aE aW (aE aW (aq 0) (aR 0)) (aq 5)) (aR 2)) (aI 3 aw))))
 (aL (bt 7 (aA dS (ao (aE aW (aE aW (aE aW (aq 1) (aR 0)) (aq 5)) (aR 0)) (aI 6 (aI 4 aw)))))
 (cP (aA dA (aI 1 (aI 5 (ao (aE cm (bA (aI 7 aw)) (p7 (aE aW (aE aW (aq 1) (aR 0)) (aq 5)) (pV (aR 1)) qF)) aw))))))) g7)
 (aL (fE (aN (Br false (aq 3) (iM (dY eG (ao (aE aW (aq 0) (aR 2)) aw))))) (aL (bt 8 (aA dS (ao (aE aW (aq 1) (aR 2)) (ao (aA dD (ao (aE aW (aq 0) (aR 2)) (aI 3 aw))) (aI 4 aw)))))
 (cP (bA (ao (aE aW (aq 1) (aR 0)) (ao (aE aW (aq 1) (aR 1)) (aI 8 (ao (aE aW (aq 1) (aR 3)) aw))))))) g7)
 (aL (rY (aE aW (aE aW (aq 1) (aR 3)) (aq 2)) (mr (nG 2 (aS (cC 7) (aS (cC 9) fw)))))
 (aL (bt 6 (aA dD (ao (aE aW (aE aW (aE aW (aq 0) (aR 3)) (aq 2)) (aR 0)) (aI 3 aw))))
 (cP (aA fN (aI 1 (aI 2 (ao (aA dS (aI 7 (aI 6 (aI 4 aw)))) (aI 9 aw)))))))))))
def fJ:dX:=ft 10 nU
def mW:dt:=
 (aL (fE (aN (aE (e_ false) (aq 0) (cF (.str "plus")))) (cP (yz minD (ao (aE cm (aq 1) (aq 2)) (ao (cF (.int (9))) aw)))) g7)
 (aL (fE (aN (aE (e_ false) (aq 0) (cF (.str "minus")))) (cP (yz maxD (ao (aE mC (aq 1) (aq 2)) (fo 0 aw)))) g7)
 (aL (fE (aN (aE (e_ false) (aq 0) (cF (.str "less")))) (cP (wa (aN (aE Gb (aq 1) (aq 2))) (aR 1) (aR 0))) g7)
 (aL (fE (aN (aE (e_ false) (aq 0) (cF (.str "same")))) (cP (wa (aN (aE (e_ false) (aq 1) (aq 2))) (aR 1) (aR 0))) g7)
 (cP (wa (fV (aN (aE (e_ true) (aq 1) (aR 0))) (aN (aE (e_ true) (aq 2) (aR 0)))) (aR 1) (aR 0)))))))
def gR:dX:=ft 3 mW
def vt(self:dX):dt:=
 (aL (fE (lu (DE "int" (aq 0))) (cP (aq 0)) g7)
 (aL (fE (lu (DE "str" (aq 0))) (cP (K3 (aq 1) (aq 0))) g7)
 (aL (fE (aN (aE (e_ false) (aE aW (aq 0) (aR 0)) (cF (.str "waits")))) (cP (wa (aN (aE Kn (K3 (aq 2) (aE aW (aq 0) (aR 1))) (aR 0))) (aR 1) (aR 0))) g7)
 (aL (bt 3 (aA self (ao (aE aW (aq 0) (aR 1)) (aI 1 (aI 2 aw)))))
 (aL (fE (aN (aE (e_ false) (aE aW (aq 0) (aR 0)) (cF (.str "not")))) (cP (wa (aN (aE (e_ false) (aq 3) (aR 0))) (aR 1) (aR 0))) g7)
 (cP (aA gR (ao (aE aW (aq 0) (aR 0)) (aI 3 (ao (aA self (ao (aE aW (aq 0) (aR 2)) (aI 1 (aI 2 aw)))) aw))))))))))
def gJ:Nat->dX
 |0=>fun _ _=>none
 |n+1=>ft 4 (vt (gJ n))
def p_:dt:=
 (aL (bt 4 (aA dm (aI 1 (aI 2 aw))))
 (aL (bt 5 (aE aW (aq 4) (aR 0)))
 (aL (fE (aN (aE (e_ false) (aq 5) (cF (.int (-1))))) (aL (bt 6 (Km (iM (dY eG (ao (aE aW (aq 0) (aR 2)) aw))) (bu (aE aW (aq 1) (aR 2)))))
 (aL (nX (Ho (aq 6) (Km (iM (dY eG (ao (aE aW (aE aW (aE aW (aq 0) (aR 3)) (aq 2)) (aR 0)) aw))) (bu (aE aW (aE aW (aE aW (aq 1) (aR 3)) (aq 2)) (aR 0))))))
 (cP (aA (gJ 6) (aI 3 (aI 6 (ao Mu aw))))))) g7)
 (aL (bt 6 (Km (iM (dY eG (ao (aE aW (aE aW (aE aW (aq 0) (aR 0)) (aq 5)) (aR 2)) aw))) (bu (aE aW (aE aW (aE aW (aq 1) (aR 0)) (aq 5)) (aR 0)))))
 (aL (L3 (aq 6) (cF (.str "given")) (aE aW (aq 4) (aR 3)))
 (aL (L8 7 (uu [none,none] (Bi (iM (dY eG (ao (aE aW (aE aW (aE aW (aq 0) (aR 0)) (aq 5)) (aR 3)) aw))) (bu (aE aW (aE aW (aE aW (aq 1) (aR 0)) (aq 5)) (aR 4)))) (mr (nG 2 (aS (cC 0) (aS (cC 1) fw)))) cW (aq 0) (jI (bu (aq 1)))))
 (cP (aA (gJ 6) (aI 3 (aI 6 (aI 7 aw)))))))))))
def eg:dX:=ft 8 p_
def Bp:dt:=
 (cP (aA fJ (aI 0 (aI 1 (aI 2 (ao (aE aW (aq 3) (aR 1)) (ao (aA eg (aI 0 (aI 1 (aI 2 (ao (aE aW (aq 3) (aR 2)) aw))))) aw)))))))
def rS:dX:=ft 4 Bp
def jO:dt:=
 (aL (rY (aE aW (aE aW (aq 0) (aR 3)) (aq 1)) (mr (nG 2 (aS (cC 3) (aS (cC 4) fw)))))
 (cP (aA fN (aI 0 (aI 1 (aI 3 (ao (aE cm (p7 (aq 4) qF (pV (uw (aR 1)))) (bA (aI 2 aw))) aw)))))))
def d_:dX:=ft 5 jO
def Bw:dt:=
 (aL (bt 3 (aA dm (aI 0 (aI 1 aw))))
 (cP (aA d_ (aI 0 (aI 1 (ao (aE cm (aE cm (p7 (aq 3) qF (pV (aR 2))) (bA (aI 2 aw))) (p7 (aq 3) (pV (aR 3)) qF)) aw))))))
def j6:dX:=ft 4 Bw
def tw:dt:=
 (aL (fE (aN (aE (e_ false) (aA eg (aI 0 (aI 1 (aI 2 (ao (aE aW (aq 3) (aR 1)) aw))))) (aR 0))) (cP (aA j6 (aI 1 (aI 2 (ao (aE aW (aq 3) (aR 2)) aw))))) g7)
 (cP (aq 1)))
def kE:dX:=ft 4 tw
def EC:dt:=
 (cP (aA j6 (aI 1 (aI 2 (ao (aE aW (aq 3) (aR 1)) aw)))))
def xF:dX:=ft 4 EC
def zc:dt:=
 (aL (rY (aE aW (aE aW (aq 0) (aR 0)) (aq 1)) (mr (nG 5 (aS (cC 3) (aS (cC 4) (aS (cC 5) (aS (cC 6) (aS (cC 7) fw))))))))
 (aL (fE (aN (aE (e_ false) (aq 4) (cF (.int (-1))))) (cP (aA dA (aI 0 (aI 1 (ao (bA (aI 3 (aI 2 (aI 5 (aI 6 (aI 7 aw)))))) aw))))) g7)
 (cP (aA dA (aI 0 (aI 1 (ao (bA (aI 3 (aI 4 (ao (aE cm (aq 5) (bA (aI 2 aw))) (aI 6 (aI 7 aw)))))) aw)))))))
def lE:dX:=ft 8 zc
def EM:dt:=
 (aL (bt 4 (aA dD (ao (aE aW (aq 0) (aR 0)) (ao (aE aW (aq 3) (aR 2)) aw))))
 (aL (bt 5 (aA dD (ao (aE aW (aE aW (aE aW (aq 0) (aR 0)) (aq 4)) (aR 4)) (ao (aE aW (aq 3) (aR 3)) aw))))
 (aL (bt 6 (bA (aI 4 (aI 5 (fo 0 (ao (aA eg (aI 0 (aI 1 (aI 2 (ao (aE aW (aq 3) (aR 4)) aw))))) (fo 0 aw)))))))
 (aL (rY (aE aW (aE aW (aq 1) (aR 3)) (aq 2)) (mr (nG 2 (aS (cC 7) (aS (cC 8) fw)))))
 (cP (aA lE (ao (aA fN (aI 1 (aI 2 (aI 7 (ao (aE cm (aq 8) (bA (aI 6 aw))) aw))))) (aI 4 (aI 2 aw)))))))))
def w6:dX:=ft 9 EM
def yl:dt:=
 (aL (bt 4 (aE aW (aA dm (aI 1 (aI 2 aw))) (aR 0)))
 (cP (bA (aI 4 (ao (aA dD (ao (aE aW (aE aW (aE aW (aq 0) (aR 0)) (aq 4)) (aR 3)) (aI 3 aw))) aw)))))
def jQ:dX:=ft 5 yl
def sH:dt:=
 (aL (bt 4 (aE aW (aE aW (aq 0) (aR 0)) (aq 1)))
 (cP (aA dA (aI 0 (aI 1 (ao (aE cm (p7 (aq 4) qF (pV (aR 4))) (bA (ao (aA dS (ao (aE aW (aq 4) (aR 4)) (aI 2 (aI 3 aw)))) aw))) aw))))))
def fM:dX:=ft 5 sH
def E4:dt:=
 (aL (rY (aE aW (aE aW (aq 0) (aR 0)) (aq 1)) (mr (nG 5 (aS (cC 2) (aS (cC 3) (aS (cC 4) (aS (cC 5) (aS (cC 6) fw))))))))
 (aL (fE (lu (aq 5)) (cP (aA dA (aI 0 (aI 1 (ao (bA (aI 2 (ao (aE aW (aq 5) (aR 0)) (aI 4 (ao (p7 (aq 5) (pV (aR 1)) qF) (aI 6 aw)))))) aw))))) g7)
 (aL (fE (lu (aq 4)) (cP (aA dA (aI 0 (aI 1 (ao (bA (aI 2 (ao (aE aW (aq 4) (aR 0)) (ao (p7 (aq 4) (pV (aR 1)) qF) (aI 5 (aI 6 aw)))))) aw))))) g7)
 (cP (aA dA (aI 0 (aI 1 (ao (bA (aI 2 (ao (cF (.int (-1))) (aI 4 (aI 5 (aI 6 aw)))))) aw))))))))
def pQ:dX:=ft 7 E4
def yJ:dt:=
 (aL (rY (aA jQ (aI 0 (aI 1 (aI 2 (ao (aE aW (aq 3) (aR 1)) aw))))) (mr (nG 2 (aS (cC 4) (aS (cC 5) fw)))))
 (aL (bt 6 (aR 0))
 (aL (fE (aN (aE (e_ false) (aE aW (aE aW (aE aW (aE aW (aE aW (aq 0) (aR 0)) (aq 4)) (aR 3)) (aq 5)) (aR 1)) (cF (.str "turns")))) (bt 6 (aA eg (aI 0 (aI 1 (aI 2 (ao (aE aW (aq 3) (aR 2)) aw)))))) g7)
 (aL (bt 7 (aE aW (aE aW (aE aW (aE aW (aq 1) (aR 0)) (aq 4)) (aR 4)) (aq 5)))
 (aL (bt 8 (jI (iM (cx [none,none,some 6] (jq (bu (aq 7))) (mr (nG 2 (aS (cC 0) (aS (cC 1) fw)))) (aN (aE MR (aq 0) (aq 2))) (aq 0)))))
 (aL (bt 9 (aA fM (aI 1 (aI 4 (aI 5 (ao (aE cm (aE cm (p7 (aq 7) qF (pV (aq 8))) (bA (ao (bA (aI 6 (aI 2 aw))) aw))) (p7 (aq 7) (pV (aq 8)) qF)) aw))))))
 (cP (aA pQ (aI 9 (aI 4 aw))))))))))
def oZ:dX:=ft 10 yJ
def zD:dt:=
 (aL (rY (aA jQ (aI 0 (aI 1 (aI 2 (ao (aE aW (aq 3) (aR 1)) aw))))) (mr (nG 2 (aS (cC 4) (aS (cC 5) fw)))))
 (aL (bt 6 (aE aW (aE aW (aE aW (aE aW (aq 1) (aR 0)) (aq 4)) (aR 4)) (aq 5)))
 (aL (fE (sX (lu (aq 6))) (cP (aq 1)) g7)
 (aL (bt 7 (aA fM (aI 1 (aI 4 (aI 5 (ao (p7 (aq 6) (pV (aR 1)) qF) aw))))))
 (aL (fE (aN (aE (e_ false) (aE aW (aE aW (aE aW (aq 0) (aR 0)) (aq 4)) (aR 1)) (cF (.str "when free")))) (cP (aq 7)) g7)
 (aL (rY (aE aW (aE aW (aq 7) (aR 0)) (aq 4)) (mr (nG 5 (aS (cC 8) (aS (cC 9) (aS (cC 10) (aS (cC 11) (aS (cC 12) fw))))))))
 (cP (aA dA (aI 7 (aI 4 (ao (bA (aI 8 (ao (aE aW (aE aW (aq 6) (aR 0)) (aR 1)) (aI 10 (ao (aE cm (aq 11) (bA (aI 2 aw))) (aI 12 aw)))))) aw)))))))))))
def oH:dX:=ft 13 zD
def Ci:dt:=
 (aL (rY (aA jQ (aI 0 (aI 1 (aI 2 (ao (aE aW (aq 3) (aR 1)) aw))))) (mr (nG 2 (aS (cC 4) (aS (cC 5) fw)))))
 (cP (aA fM (aI 1 (aI 4 (aI 5 (ao (bA aw) aw)))))))
def r_:dX:=ft 6 Ci
def zk:dt:=
 (aL (bt 4 (aA eg (aI 0 (aI 1 (aI 2 (ao (aE aW (aq 3) (aR 1)) aw))))))
 (cP (aA d_ (aI 1 (aI 2 (ao (aE cm (p7 (aA dm (aI 1 (aI 2 aw))) qF (pV (aR 4))) (bA (aI 4 aw))) aw))))))
def n_:dX:=ft 5 zk
def ub:dt:=
 (cP (aE cm (bA (ao (aE aW (aq 0) (aR 0)) (ao (aA dS (ao (aE aW (aq 0) (aR 1)) (aI 1 (aI 2 aw)))) aw))) (p7 (aq 0) (pV (aR 2)) qF)))
def fL:dX:=ft 3 ub
def FQ:dt:=
 (aL (bt 4 (aA dD (ao (aE aW (aq 0) (aR 1)) (aI 3 aw))))
 (aL (rY (aE aW (aE aW (aq 1) (aR 1)) (aq 4)) (mr (nG 2 (aS (cC 5) (aS (cC 6) fw)))))
 (aL (fE (aN (aE Kn (aq 5) (aR 0))) (cP (aA fL (aI 1 (aI 4 (ao (bA (ao (aE mC (aq 5) (aR 1)) (aI 6 aw))) aw))))) g7)
 (cP (aA fL (aI 1 (aI 4 (ao (bA (aI 5 (ao (aE cm (aq 6) (bA (aI 2 aw))) aw))) aw))))))))
def uG:dX:=ft 7 FQ
def yA:dt:=
 (cP (aA uG (aI 0 (aI 1 (aI 2 (ao (aE aW (aq 3) (aR 1)) aw))))))
def oJ:dX:=ft 4 yA
def qo:dt:=
 (aL (bt 3 (aA dD (ao (aE aW (aq 0) (aR 1)) (aI 2 aw))))
 (aL (rY (aE aW (aE aW (aq 1) (aR 1)) (aq 3)) (mr (nG 2 (aS (cC 4) (aS (cC 5) fw)))))
 (aL (fE (lu (aq 5)) (cP (aA fL (aI 1 (aI 3 (ao (bA (aI 4 (ao (p7 (aq 5) (pV (aR 1)) qF) aw))) aw))))) g7)
 (cP (aA fL (aI 1 (aI 3 (ao (bA (ao (yz minD (ao (aE cm (aq 4) (aR 1)) (ao (cF (.int (9))) aw))) (aI 5 aw))) aw))))))))
def gX:dX:=ft 6 qo
def yo:dt:=
 (cP (aA gX (aI 0 (aI 1 (ao (aE aW (aq 3) (aR 1)) aw)))))
def pq:dX:=ft 4 yo
def yU:dt:=
 (cP (aA uG (aI 0 (ao (aA gX (aI 0 (aI 1 (ao (aE aW (aq 3) (aR 1)) aw)))) (aI 2 (ao (aE aW (aq 3) (aR 2)) aw))))))
def pe:dX:=ft 4 yU
def Bq:dt:=
 (cP (aq 1))
def se:dX:=ft 4 Bq
def mB:List (Str×Str):= [("put","by_put"),("unless","by_unless"),("go","by_go"),("do","by_do"),("wait","by_wait"),("call","by_call"),("all","by_all"),("tell","by_tell"),("take","by_take"),("give","by_give"),("pass","by_pass"),("say","by_say")]
def tW:List (Str×dX):= [("by_put",rS),("by_unless",kE),("by_go",xF),("by_do",w6),("by_wait",oZ),("by_call",oH),("by_all",r_),("by_tell",n_),("by_take",oJ),("by_give",pq),("by_pass",pe),("by_say",se)]
def vI:dt:=
 (aL (bt 4 (L9 mB (aE aW (aq 3) (aR 0))))
 (cP (tM 4 tW (aI 0 (aI 1 (aI 2 (aI 3 aw)))))))
def jP:dX:=ft 5 vI
def vQ:dt:=
 (aL (rY (aE aW (aE aW (aq 1) (aR 3)) (aq 2)) (mr (nG 2 (aS (cC 3) (aS (cC 4) fw)))))
 (aL (rY (aE aW (aq 4) (uw (aR 1))) (mr (nG 5 (aS (cC 5) (aS (cC 6) (aS (cC 7) (aS (cC 8) (aS (cC 9) fw))))))))
 (aL (bt 10 (aA fN (ao (aA pQ (aI 1 (aI 5 aw))) (aI 2 (aI 3 (ao (p7 (aq 4) qF (pV (uw (aR 1)))) aw))))))
 (aL (bt 11 (aE aW (aA fR (aI 0 (aI 2 (ao (aE aW (aq 4) (uw (aR 2))) aw)))) (aE mC (aE aW (aE aW (aq 4) (uw (aR 2))) (aR 2)) (aR 1))))
 (aL (fE (aN (aE (Gy false) (aE aW (aq 11) (aR 1)) (cF .non))) (cP (aq 10)) g7)
 (cP (aA fJ (aI 0 (aI 10 (aI 2 (ao (aE aW (aq 11) (aR 1)) (aI 9 aw))))))))))))
def jL:dX:=ft 12 vQ
def n0:dt:=
 (aL (bt 3 (aA dm (aI 1 (aI 2 aw))))
 (aL (bt 4 (aE aW (aq 3) (aR 0)))
 (aL (fE (fV (aN (aE (e_ true) (aq 4) (cF (.int (-1))))) (aN (aE (e_ true) (aE aW (aE aW (aE aW (aq 1) (aR 0)) (aq 4)) (aR 1)) (aq 2)))) (cP (bA (ao (aA lE (aI 1 (aI 4 (aI 2 aw)))) (ao (cF .non) aw)))) g7)
 (aL (bt 5 (aA fR (aI 0 (aI 2 (aI 3 aw)))))
 (aL (fE (aN (aE (e_ false) (aE aW (aq 3) (aR 2)) (jI (bu (aq 5))))) (cP (bA (ao (aA jL (aI 0 (aI 1 (aI 2 aw)))) (ao (cF .non) aw)))) g7)
 (aL (bt 6 (aE aW (aq 5) (aE aW (aq 3) (aR 2))))
 (aL (bt 7 (cF .non))
 (aL (fE (aN (aE (e_ false) (aE aW (aq 6) (aR 0)) (cF (.str "say")))) (bt 7 (bA (aI 2 (ao (aA eg (aI 0 (aI 1 (aI 2 (ao (aE aW (aq 6) (aR 1)) aw))))) aw)))) g7)
 (cP (bA (ao (aA jP (aI 0 (ao (aA j6 (aI 1 (aI 2 (ao (aE cm (aE aW (aq 3) (aR 2)) (aR 1)) aw)))) (aI 2 (aI 6 aw))))) (aI 7 aw))))))))))))
def oz:dX:=ft 8 n0
def yw:dt:=
 (aL (fE (aN (Br true (aq 2) (iM (dY jT (aI 0 (aI 1 aw)))))) never g7)
 (cP (aA oz (aI 0 (aI 1 (aI 2 aw))))))
def oB:dX:=ft 3 yw
def oh:dt:=
 (aL (bt 3 (cM (cg (aI 0 (ao (p7 (aq 0) (pV (aR 1)) qF) (ao (aE cm (aq 0) (bA (aI 2 aw))) (ao (aE cm (p7 (aq 0) (pV (aR 1)) qF) (bA (aI 2 aw))) aw)))))))
 (cP (IQ false (aq 1) (bu (aq 3)))))
def fj:dX:=ft 4 oh
def qL:dt:=
 (aL (rY (aq 1) (mr (nG 5 (aS (cC 2) (aS (cC 3) (aS (cC 4) (aS (cC 5) (aS (cC 6) fw))))))))
 (aL (bt 7 (cM (cg (ao (aE aW (aE cm (aE cm (aq 5) (aq 4)) (bA (ao (uw (aR 1)) aw))) (aR 0)) aw))))
 (aL (fE (aN (aE (Cu false) (aq 0) (cF (.str "at once")))) (nX (uP (aq 7) (iM (cx [none] (jq (bu (aq 6))) (cC 0) (aN (aE (Cu true) (aq 0) (bA aw))) (aE aW (aE aW (aq 0) (aR 0)) (aR 1)))))) g7)
 (cP (aq 7)))))
def gY:dX:=ft 8 qL
def mO:dt:=
 (aL (fE (aN (IQ false (aq 1) (bu (bA (aI 0 (ao (p7 (aq 0) (pV (aR 1)) qF) (ao (bA aw) aw))))))) (cP (cF (.bl true))) g7)
 (cP (zY (E8 false (iM (cx [none,some 2] (jq (bu (aq 1))) (cC 0) (aN (aE (Cu true) (aE aW (aq 0) (aR 1)) (aq 1))) (aq 0))) (iM (Le (bu (aq 0))))) (aE (Cu false) (jI (bu (aq 1))) (aE cm (jI (bu (aq 0))) (aR 1))))))
def gS:dX:=ft 3 mO
def jK:dt:=
 (aL (fE (IC (sX (lu (aA fj (ao (aE aW (aq 1) (aR 2)) (ao (aE aW (aq 2) (aR 2)) (aI 3 aw)))))) (sX (lu (aA fj (ao (aE aW (aq 1) (aR 3)) (ao (aE aW (aq 2) (aR 3)) (aI 3 aw))))))) (cP (cF (.bl false))) g7)
 (aL (fE (sX (lu (xC (iM (cx [none,none,some 3] (Bi (bu (aE aW (aq 1) (aR 4))) (bu (aE aW (aq 2) (aR 4)))) (mr (nG 2 (aS (cC 0) (aS (cC 1) fw)))) cW (aA gS (aI 0 (aI 1 (aI 2 aw))))))))) (cP (cF (.bl false))) g7)
 (aL (fE (fV (aN (aE (e_ true) (aE aW (aq 1) (aR 1)) (aq 3))) (fV (aN (aE (e_ true) (aE aW (aq 2) (aR 1)) (aE aW (aq 1) (aR 1)))) (IC (aN (aE LX (aE aW (aq 1) (aR 1)) (aR 0))) (aN (aE (e_ true) (aE aW (aq 2) (aR 1)) (aq 3)))))) (cP (cF (.bl false))) g7)
 (aL (fE (fV (aN (aE (e_ false) (aE aW (aq 1) (aR 1)) (aq 3))) (fV (aN (aE (e_ true) (aE aW (aq 2) (aR 1)) (aq 3))) (aN (Br true (aE aW (aq 2) (aR 1)) (iM (dY gY (aI 0 (aI 1 aw)))))))) (cP (cF (.bl false))) g7)
 (aL (bt 4 (cM (cx [none,some 2] (jq (bu (aE cm (aE aW (aq 1) (aR 2)) (aE aW (aq 1) (aR 3))))) (cC 0) (aN (Br true (aq 0) (bu (aE cm (aE aW (aq 1) (aR 2)) (aE aW (aq 1) (aR 3)))))) (aq 0))))
 (cP (xC (iM (cx [none,some 2] (jq (bu (aq 4))) (cC 0) cW (aE (e_ false) (aE aW (aq 1) (aR 1)) (aq 0)))))))))))
def eZ:dX:=ft 5 jK
def qR:dt:=
 (aL (lU (B3 (bu (aE aW (aq 0) (aR 0))) (bu (aE aW (aq 1) (aR 0))) (bu (aE aW (aq 2) (aR 0)))) (mr (nG 3 (aS (cC 4) (aS (cC 5) (aS (cC 6) fw))))) (fE (sX (lu (aA eZ (ao (aE aW (aq 4) (aR 1)) (aI 5 (aI 6 (aI 3 aw))))))) (cP (cF (.bl false))) g7))
 (aL (fE (sX (lu (xC (iM (cx [none,none,some 3] (Bi (bu (aE aW (aq 1) (aR 1))) (bu (aE aW (aq 2) (aR 1)))) (mr (nG 2 (aS (cC 0) (aS (cC 1) fw)))) cW (aA fj (ao (aE aW (aq 0) (aR 1)) (ao (aE aW (aq 1) (aR 1)) (aI 2 aw))))))))) (cP (cF (.bl false))) g7)
 (aL (lU (sV (jI (bu (aE aW (aq 0) (aR 3))))) (cC 7) (fE (fV (aN (aE (Cu true) (aq 7) (aq 3))) (aN (aE (Cu true) (aE aW (aE aW (aq 1) (aR 3)) (aq 7)) (aE aW (aE aW (aq 2) (aR 3)) (aq 7))))) (cP (cF (.bl false))) g7))
 (cP (cF (.bl true))))))
def ja:dX:=ft 8 qR
def LP:dt:=
 (aL (lU (sV (yz maxD (fo 1 (ao (yz minD (ao (jI (bu (aq 0))) (fo 5 aw))) aw)))) (cC 1) (aL (bt 2 (cM (dY me (aI 0 (aI 1 aw)))))
 (aL (bt 3 (aA eE (aI 2 aw)))
 (aL (bt 4 (aA xS (aI 3 aw)))
 (aL (bt 5 (uw (aR 1)))
 (lU (sV (aR 50)) (cC 6) (aL (bt 7 (cM (dY jT (aI 3 (aI 4 aw)))))
 (fE (aN (ef (bu (aq 7)))) (aL (bt 5 (aA kA (aI 2 (aI 7 (aI 5 aw)))))
 (aL (bt 8 (aE aW (aA oB (aI 3 (aI 4 (aI 5 aw)))) (aR 0)))
 (aL (fE (sX (lu (aA ja (aI 3 (aI 4 (aI 8 (aI 5 aw))))))) (cP (cF (.bl false))) g7)
 (bt 4 (aq 8))))) g7))))))))
 (cP (cF (.bl true))))
def HG:dX:=ft 9 LP
def top(i:Nat):Stmt:=PySem.Challenge.pw_calledroom_k30_whole_let_on_in_order.main.body.getD i (.Pass ⟨0,0,0,0⟩)
abbrev m7:Stmt:=top 56
abbrev k0:Stmt:=top 57
abbrev kH:Stmt:=top 59
abbrev lZ:Stmt:=top 58
abbrev nB:Stmt:=top 60
abbrev kB:Stmt:=top 61
abbrev pJ:Stmt:=top 62
abbrev lY:Stmt:=top 63
abbrev lH:Stmt:=top 64
abbrev kh:Stmt:=top 65
abbrev nz:Stmt:=top 66
abbrev kj:Stmt:=top 67
abbrev gI:Stmt:=top 68
abbrev lP:Stmt:=top 10
abbrev kn:Stmt:=top 12
abbrev xJ:Stmt:=top 11
abbrev nI:Stmt:=top 21
abbrev h_:Stmt:=top 51
abbrev kI:Stmt:=top 13
abbrev kD:Stmt:=top 14
abbrev g_:Stmt:=top 52
abbrev nV:Stmt:=top 50
abbrev kU:Stmt:=top 69
abbrev m9:Stmt:=top 23
abbrev nN:Stmt:=top 25
abbrev lD:Stmt:=top 15
abbrev lL:Stmt:=top 18
abbrev lR:Stmt:=top 16
abbrev lI:Stmt:=top 27
abbrev i0:Stmt:=top 6
abbrev nO:Stmt:=top 5
abbrev m5:Stmt:=top 26
abbrev sr:Stmt:=top 31
abbrev gu:Stmt:=top 19
abbrev uv:Stmt:=top 20
abbrev lK:Stmt:=top 32
abbrev wC:Stmt:=top 33
abbrev p9:Stmt:=top 28
abbrev xN:Stmt:=top 34
abbrev pS:Stmt:=top 35
abbrev kZ:Stmt:=top 36
abbrev wq:Stmt:=top 29
abbrev pz:Stmt:=top 37
abbrev p5:Stmt:=top 38
abbrev t9:Stmt:=top 39
abbrev qj:Stmt:=top 40
abbrev k_:Stmt:=top 17
abbrev wU:Stmt:=top 42
abbrev pE:Stmt:=top 41
abbrev ku:Stmt:=top 44
abbrev pw:Stmt:=top 43
abbrev qg:Stmt:=top 45
abbrev t8:Stmt:=top 46
abbrev nk:Stmt:=top 48
abbrev mX:Stmt:=top 30
abbrev p6:Stmt:=top 54
abbrev pL:Stmt:=top 53
abbrev jm:Stmt:=top 70
abbrev kc:Stmt:=top 72
abbrev iO:Stmt:=top 71
abbrev fZ:Stmt:=top 73
abbrev j9:Stmt:=top 74
abbrev pj:Stmt:=top 75
end W28
namespace W28
open PySem PySem.Spec L2 DL PyProof.Rows
abbrev K9:List Str:= ["_law_deed_here","_law_room_here"]
abbrev Hw:List Str:= ["_law_manner","_law_old","_law_new","_law_own_here"]
abbrev Gz:List Str:= ["_law_manner","_law_old"]
abbrev oM:List Str:= ["_law_old","_law_new","_law_own_here"]
abbrev HK:List Str:= ["_law_one","_law_new"]
abbrev Ic:List Str:= ["_law_one","_law_other","_law_own_here"]
abbrev B8:List Str:= ["_law_pot_here","_law_goals","_law_things","_law_words_here"]
abbrev BE:List Str:= ["_law_pot_here","_law_goals","_law_words_here","_law_passes","_law_most"]
abbrev Ce:List Str:= ["_law_pot_here","_law_many","_law_manners","_law_bells_most"]
abbrev Cz:List Str:= ["_law_pot_here","_law_many"]
abbrev CA:List Str:= ["_law_pot_here","_law_name","_law_goals","_law_manners","_law_bells_most"]
abbrev BZ:List Str:= ["_law_pot_here","_law_room_here","_law_goals","_law_most"]
abbrev Bz:List Str:= ["_law_pot_here","_law_rooms_here","_law_hands","_law_passes_most"]
abbrev y_:List Str:= ["_law_pot_here","_law_some","_law_last"]
abbrev zx:List Str:= ["_law_pot_here","_law_some"]
abbrev BW:List Str:= ["_law_pot_here","_law_stem","_law_many"]
abbrev BH:List Str:= ["_law_pot_here","_law_words_here","_law_bells","_law_at"]
abbrev vK:List Str:= ["_law_pot_here","_law_words_here","_law_bells","_law_deep"]
abbrev Cw:List Str:= ["_law_pot_here"]
abbrev Ca:List Str:= ["_law_script","_law_k"]
abbrev Fb:List Str:= ["_law_script"]
abbrev Ee:List Str:= ["_law_word","_law_pot_here"]
abbrev BN:List Str:= ["_law_world_here","_law_old","_law_new","_law_own_here"]
abbrev zO:List Str:= ["form","first","second"]
abbrev ze:List Str:= ["line"]
abbrev zM:List Str:= ["parts","at","part"]
abbrev zI:List Str:= ["roll","name"]
abbrev zg:List Str:= ["roll"]
abbrev yH:List Str:= ["room"]
abbrev yX:List Str:= ["scene","at","room"]
abbrev zh:List Str:= ["scene","at","turnstile"]
abbrev B5:List Str:= ["scene","hand","frame"]
abbrev BX:List Str:= ["scene","hand","row"]
abbrev zo:List Str:= ["scene","hand","values","frames"]
abbrev yQ:List Str:= ["scene","hand"]
abbrev Ck:List Str:= ["scene","room","bell","line"]
abbrev CC:List Str:= ["scene","room","hand"]
abbrev Cr:List Str:= ["scene","room"]
abbrev BC:List Str:= ["scene"]
abbrev zm:List Str:= ["things"]
abbrev vX:List Str:= ["tree","things","waiting"]
abbrev Cp:List Str:= ["world","hand","frame"]
abbrev B1:List Str:= ["world","scene","hand","name"]
abbrev bX:List Str:= ["world","scene","hand","row"]
abbrev BP:List Str:= ["world","scene","hand","tree"]
abbrev yc:List Str:= ["world","scene","hand","word","value"]
abbrev wy:List Str:= ["world","scene","hand","word"]
abbrev eT:List Str:= ["world","scene","hand"]
abbrev wX:List Str:= ["world","scene","name"]
abbrev wc:List Str:= ["world","scene"]
abbrev xl:List Str:= ["world"]
section
variable(P:Program)(w:World)(K:PySem.W.Frag)(mg:Str->Option Value)(base:Heap)
abbrev AX:Prop:=fB P w K mg base 1 "_law_pot" Ca me
abbrev c7:Prop:=fB P w K mg base 1 "_law_take" Cz aJ
abbrev jZ:Prop:=fB P w K mg base 2 "_law_words" BW dj
abbrev eW:Prop:=fB P w K mg base 2 "_law_pick" zx bQ
abbrev kC:Prop:=fB P w K mg base 7 "_law_sum" vK (bF 4)
abbrev xi:Prop:=fB P w K mg base 8 "_law_waits" BH jf
abbrev vn:Prop:=fB P w K mg base 8 "_law_do" B8 lO
abbrev zS:Prop:=fB P w K mg base 9 "_law_deed" BZ kF
abbrev y6:Prop:=fB P w K mg base 10 "_law_room" CA kg
abbrev xI:Prop:=fB P w K mg base 11 "_law_rooms" Ce i3
abbrev A4:Prop:=fB P w K mg base 9 "_law_own" BE mf
abbrev xG:Prop:=fB P w K mg base 10 "_law_world" Bz i4
abbrev qf:Prop:=fB P w K mg base 12 "_law_any_world" Cw eE
abbrev qO:Prop:=fB P w K mg base 1 "values_of" zm gH
abbrev wM:Prop:=fB P w K mg base 2 "begun_room" yH i9
abbrev HH:Prop:=fB P w K mg base 3 "begun" xl xS
abbrev AR:Prop:=fB P w K mg base 1 "hands_at" ze mh
abbrev rg:Prop:=fB P w K mg base 2 "hands_in_rows" BC eV
abbrev eB:Prop:=fB P w K mg base 1 "last_frame" yQ dm
abbrev kq:Prop:=fB P w K mg base 1 "program_of" Cp fR
abbrev rF:Prop:=fB P w K mg base 2 "is_behind_all" eT fX
abbrev sO:Prop:=fB P w K mg base 3 "may_step" wc jT
abbrev yL:Prop:=fB P w K mg base 3 "_law_next" y_ kA
abbrev m6:Prop:=fB P w K mg base 1 "names_of" zg eG
abbrev iK:Prop:=fB P w K mg base 2 "place_of" zI dD
abbrev gV:Prop:=fB P w K mg base 1 "with_part" zM dS
abbrev jg:Prop:=fB P w K mg base 2 "with_hand" zo fN
abbrev gU:Prop:=fB P w K mg base 2 "with_room" yX dA
abbrev qt:Prop:=fB P w K mg base 3 "put_thing" yc fJ
abbrev tj:Prop:=fB P w K mg base 1 "value_of_two" zO gR
abbrev AH:Prop:=fB P w K mg base 8 "value_of" vX (gJ 6)
abbrev gN:Prop:=fB P w K mg base 9 "reckoned" BP eg
abbrev jh:Prop:=fB P w K mg base 3 "with_last_frame" B5 d_
abbrev tP:Prop:=fB P w K mg base 4 "at_row" BX j6
abbrev vm:Prop:=fB P w K mg base 3 "come_in" CC lE
abbrev pI:Prop:=fB P w K mg base 3 "bell_of" wy jQ
abbrev lG:Prop:=fB P w K mg base 3 "with_line" Ck fM
abbrev BS:Prop:=fB P w K mg base 3 "leave" Cr pQ
abbrev qD:Prop:=fB P w K mg base 2 "with_pass" zh fL
abbrev BA:Prop:=fB P w K mg base 3 "taken" B1 uG
abbrev oS:Prop:=fB P w K mg base 3 "given_back" wX gX
abbrev A3:Prop:=fB P w K mg base 11 "row_done" bX jP
abbrev AW:Prop:=fB P w K mg base 4 "end_deed" eT jL
abbrev DB:Prop:=fB P w K mg base 12 "step_of" eT oz
abbrev Dw:Prop:=fB P w K mg base 13 "stepped" eT oB
abbrev mK:Prop:=fB P w K mg base 1 "_law_is_row" oM fj
abbrev xA:Prop:=fB P w K mg base 1 "_law_heirs" Gz gY
abbrev t7:Prop:=fB P w K mg base 1 "_law_is_bell" oM gS
abbrev nZ:Prop:=fB P w K mg base 2 "_law_room_right" Hw eZ
abbrev wD:Prop:=fB P w K mg base 3 "_law_right" BN ja
end
section
variable{P:Program}{w:World}{K:PySem.W.Frag}{mg:Str->Option Value}{base:Heap}{f:Addr}{fd:FuncData}
def qU:aM ["_law_script","_law_k","_law_cell","_law_digits"] Ca (aD m7):=fK
def zv(F:eY K "_law_pot" "_law_pot" m7 f fd)(B:Bl mg):bJ P w K mg base eD 1 f fd Ca (eN ⟨K,mg⟩ 2 me):=by
 have nd:=qU.nd
 refine bD F qU fun cdv A outer s H E hr=> ?_
 exact(ax (bI 2 nd au)
  (ax (cQ (bM qY qC (v_ 1) (gZ rfl B.len (ee (v_ 0))) (aU _)) (aG (bI 2 nd (uI JW (eR F2 rfl B.abs (by rfl) (ak (aF (v_ 0) (v_ 1)) av))))) cf)
  (ax (bI 3 nd (uo (sJ (v_ 2) (uo (ED au au) (ED au au))) (uI o_ (ix mq rfl B.int (by rfl) (ak (oT HQ Ii (v_ 2) (ED au au) (aU _)) av)))))
  (aG (m8 (c8 (ak (v_ 3) (ak (sJ (cb (cb (v_ 2) (uo au (v_ 1))) au) au) (ak au av)))))))))
def ou:aM ["_law_pot_here","_law_many","_law_digit","_law_mixed"] Cz (aD k0):=fK
def xB(F:eY K "_law_take" "_law_take" k0 f fd)(B:Bl mg):bJ P w K mg base eD 1 f fd Cz (eN ⟨K,mg⟩ 2 aJ):=by
 have nd:=ou.nd
 refine bD F ou fun cdv A outer s H E hr=> ?_
 exact(ax (cQ (bM Cd BR (aF (v_ 0) au) au (aU _)) (ax (bI 2 nd (sJ (aF (v_ 0) au) (v_ 1)))
  (ax (fT (EI (aF (v_ 0) au) (v_ 1)) (Ib (v_ 0) au))
  (aG (aQ (v_ 2))))) cf)
  (ax (J7 (v_ 0) au au)
  (ax (bI 3 nd (sJ (cb (cb (uo (aF (v_ 0) au) au) (uo au (aF (v_ 0) au))) au) au))
  (ax (fT (sJ (uo (v_ 3) (cb (cb (sJ (v_ 3) au) (uo au (aF (v_ 0) au))) au)) au) (Ib (v_ 0) au))
  (aG (aQ (sJ (EI (aF (v_ 0) au) au) (v_ 1))))))))
def mN:aM ["_law_pot_here","_law_stem","_law_many","_law_left"] BW (aD kH):=fK
def u6(F:eY K "_law_words" "_law_words" kH f fd)(B:Bl mg)(aB:c7 P w K mg base):bJ P w K mg base eD 2 f fd BW (eN ⟨K,mg⟩ 3 dj):=by
 have nd:=mN.nd
 refine bD F mN fun cdv A outer s H E hr=> ?_
 exact(ax (bI 3 nd (cE (dw (N:= ["_law_one","_law_stem"]) (js:= [none,some 1]) (a9.gen rfl rfl rfl rfl rfl rfl) rfl (ed (kT (c8 (ak bH (ak bH (ak bH (ak bH (ak bH (ak bH av))))))))) (fun _ _ _ _=>(fc 0)) (fun _ _ _ _=>fD) (fun _ _ _ _=>(cb (v_ 1) (v_ 0))))))
  (aG (m8 (FE rfl B.sorted (kT (dw (N:= ["_law_k","_law_pot_here","_law_left"]) (js:= [none,some 0,some 3]) (a9.gen rfl rfl rfl rfl rfl rfl) rfl (lJ rfl B.range (v_ 2)) (fun _ _ _ _=>(fc 0)) (fun _ _ _ _=>fD) (fun _ _ _ _=>(Bs (v_ 2) (aP aB hr (ak (v_ 1) (ak (gZ rfl B.len (ee (v_ 2))) av)))))))))))
def xW:aM zx zx (aD lZ):=fK
def wY(F:eY K "_law_pick" "_law_pick" lZ f fd)(B:Bl mg)(aB:c7 P w K mg base):bJ P w K mg base eD 2 f fd zx (eN ⟨K,mg⟩ 2 bQ):=by
 refine bD F xW fun cdv A outer s H E hr=> ?_
 exact(aG (aQ (aF (v_ 1) (aP aB hr (ak (v_ 0) (ak (gZ rfl B.len (ee (v_ 1))) av))))))
def qQ:aM ["_law_pot_here","_law_words_here","_law_bells","_law_deep","_law_way","_law_word"] vK (aD nB):=fK
theorem qX(F:eY K "_law_sum" "_law_sum" nB f fd)(B:Bl mg)(aB:c7 P w K mg base)(aV:eW P w K mg base)(b:Binds K fd vK [])(kp:PySem.W.keepIn K (.ref f)=true)(m:mg "_law_sum"=some (.ref f)):∀n,bJ P w K mg base eD (3+n) f fd vK (eN ⟨K,mg⟩ 4 (bF n))
 |0=>B_
 | n+1=>by
   have bE:fB P w K mg base (3+n) "_law_sum" vK (bF n):=⟨f,fd,qX F B aB aV b kp m n,b,kp,m⟩
   have nd:=qQ.nd
   refine bD (k:=3+n) F qQ fun cdv A outer s H E hr=> ?_
   have hu:=hr.units0
   exact(ax (bI 4 nd (aP aB hr (ak (v_ 0) (ak au av))))
   (ax (cQ (PW.pt (w_or (bM qY qC (v_ 3) au (aU _)) (FN (bM qY qC (v_ 4) au (aU _))))) (ax (cQ (PW.pt (w_and (fF hu (ee (v_ 1))) (eQ (bM Cd BR (aP aB hr (ak (v_ 0) (ak au av))) au (aU _))))) (aG (aQ (aP aV hr (ak (v_ 0) (ak (v_ 1) av))))) cf)
   (aG (aQ (aP aB hr (ak (v_ 0) (ak (aF (cE (c8 (ak au (ak au av)))) (uI o_ (ix mq rfl B.int (by rfl) (ak (oT cV cY (aP aB hr (ak (v_ 0) (ak au av))) au (aU _)) av)))) av)))))) cf)
   (ax (cQ (PW.pt (w_and (bM cV cY (v_ 4) au (aU _)) (eQ (fF hu (ee (v_ 2)))))) (aG (aQ (aY (ak bH (ak (aP aV hr (ak (v_ 0) (ak (v_ 2) av))) av))))) cf)
   (ax (cQ (bM cV cY (v_ 4) au (aU _)) (aG (aQ (aY (ak bH (ak (aP bE hr (ak (v_ 0) (ak (v_ 1) (ak (v_ 2) (ak (uE (v_ 3) au) av))))) av))))) cf)
   (ax (bI 5 nd (aF (cE (c8 (ak bH (ak bH (ak bH (ak bH (ak bH av))))))) (aP aB hr (ak (v_ 0) (ak au av)))))
   (aG (aQ (aY (ak (v_ 5) (ak (aP bE hr (ak (v_ 0) (ak (v_ 1) (ak (v_ 2) (ak (uE (v_ 3) au) av))))) (ak (aP bE hr (ak (v_ 0) (ak (v_ 1) (ak (v_ 2) (ak (uE (v_ 3) au) av))))) av)))))))))))
def mR:aM ["_law_pot_here","_law_words_here","_law_bells","_law_at","_law_turn","_law_row","_law_way","_law_test"] BH (aD kB):=fK
def u4(F:eY K "_law_waits" "_law_waits" kB f fd)(B:Bl mg)(bE:kC P w K mg base)(aB:c7 P w K mg base)(aV:eW P w K mg base):bJ P w K mg base eD 8 f fd BH (eN ⟨K,mg⟩ 4 jf):=by
 have nd:=mR.nd
 refine bD F mR fun cdv A outer s H E hr=> ?_
 exact(ax (bI 4 nd (aF (cE (c8 (ak au (ak bH (ak (aP bE hr (ak (v_ 0) (ak (v_ 1) (ak (v_ 2) (ak au av))))) av))))) (aP aB hr (ak (v_ 0) (ak au av)))))
  (ax (bI 5 nd (aY (ak bH (ak (aP aV hr (ak (v_ 0) (ak (v_ 2) av))) (ak (v_ 4) av)))))
  (ax (bI 6 nd (aP aB hr (ak (v_ 0) (ak au av))))
  (ax (cQ (bM cV cY (v_ 6) au (aU _)) (aG (m8 (c8 (ak (v_ 5) av)))) cf)
  (ax (bI 7 nd (aY (ak bH (ak (aP bE hr (ak (v_ 0) (ak (v_ 1) (ak (v_ 2) (ak au av))))) av))))
  (aG (m8 (c8 (ak (aY (ak bH (ak (v_ 7) (ak (cb (v_ 3) au) av)))) (ak (v_ 5) (ak (aY (ak bH (ak (aF (cE (c8 (ak (v_ 3) (ak (cb (v_ 3) au) av)))) (uE (v_ 6) au)) av))) av)))))))))))
def um:aM ["_law_pot_here","_law_goals","_law_things","_law_words_here","_law_room_here","_law_deed_here","_law_goal"] B8 (aD pJ):=fK
def Ae(F:eY K "_law_do" "_law_do" pJ f fd)(B:Bl mg)(aV:eW P w K mg base)(bE:kC P w K mg base):bJ P w K mg base eD 8 f fd B8 (eN ⟨K,mg⟩ 4 lO):=by
 have nd:=um.nd
 refine bD F um fun cdv A outer s H E hr=> ?_
 exact(ax (fT (aP aV hr (ak (v_ 0) (ak (v_ 1) av))) (dH rfl (aH (bT 4 nd) (aH (bT 5 nd) cI))))
  (ax (bI 6 nd (aP aV hr (ak (v_ 0) (ak (cE (Cq (kT (c8 (ak yI av))) (ee (v_ 2)))) av))))
  (aG (aQ (aY (ak bH (ak (v_ 6) (ak (v_ 4) (ak (v_ 5) (ak (aP bE hr (ak (v_ 0) (ak (v_ 3) (ak (cE (c8 av)) (ak au av))))) av))))))))))
def om:aM ["_law_pot_here","_law_room_here","_law_goals","_law_most","_law_manner","_law_things","_law_bells","_law_words_here","_law_rows","_law_k","_law_way","_law_word"] BZ (aD lY):=fK
def x8(F:eY K "_law_deed" "_law_deed" lY f fd)(B:Bl mg)(aB:c7 P w K mg base)(j3:xi P w K mg base)(aV:eW P w K mg base)(iB:vn P w K mg base)(bE:kC P w K mg base):bJ P w K mg base eD 9 f fd BZ (eN ⟨K,mg⟩ 4 kF):=by
 have nd:=om.nd
 refine bD F om fun cdv A outer s H E hr=> ?_
 have hu:=hr.units0
 exact(ax (fT (v_ 1) (dH rfl (aH (bT 4 nd) (aH (bT 5 nd) (aH (bT 6 nd) cI)))))
  (ax (bI 7 nd (cE (Cq (ee (v_ 5)) (kT (c8 (ak bH av))))))
  (ax (bI 8 nd (cE (c8 av)))
  (ax (jt PassesOwn.never rfl (lJ rfl B.range (cb au (aP aB hr (ak (v_ 0) (ak (v_ 3) av))))) (bT 9 nd) (ax (bI 10 nd (aP aB hr (ak (v_ 0) (ak au av))))
  (aG (cQ (PW.pt (w_and (bM qY qC (v_ 10) au (aU _)) (eQ (fF hu (ee (v_ 6)))))) (aG (df (lS (v_ 8) (kT (jJ j3 hr (ak (v_ 0) (ak (v_ 7) (ak (v_ 6) (ak (gZ rfl B.len (ee (v_ 8))) av))))))))) (aG (cQ (PW.pt (w_and (bM qY qC (v_ 10) au (aU _)) (eQ (fF hu (ee (v_ 6)))))) (ax (bI 11 nd (aF (cE (c8 (ak bH (ak bH av)))) (uI o_ (ix mq rfl B.int (by rfl) (ak (Ft (oT cV cY (v_ 4) bH (aU _)) (EB (oT cV cY (v_ 10) au (aU _)))) av)))))
  (aG (df (cZ (v_ 8) (aY (ak (v_ 11) (ak (aP aV hr (ak (v_ 0) (ak (v_ 6) av))) av))))))) (aG (cQ (PW.pt (w_and (bM cV cY (v_ 10) au (aU _)) (eQ (fF hu (ee (v_ 2)))))) (aG (df (cZ (v_ 8) (aP iB hr (ak (v_ 0) (ak (v_ 2) (ak (v_ 5) (ak (v_ 7) av)))))))) (aG (cQ (bM cV cY (v_ 10) au (aU _)) (ax (df (cZ (v_ 8) (aY (ak bH (ak (aP bE hr (ak (v_ 0) (ak (v_ 7) (ak (v_ 6) (ak au av))))) (ak (cb (gZ rfl B.len (ee (v_ 8))) au) av))))))
  (aG (df (cZ (v_ 8) (aY (ak bH (ak (aP aB hr (ak (v_ 0) (ak au av))) av))))))) (aG (cQ (PW.pt (w_and (bM qY qC (v_ 10) au (aU _)) (eQ (fF hu (ee (v_ 5)))))) (aG (df (cZ (v_ 8) (aY (ak bH (ak (aP aV hr (ak (v_ 0) (ak (v_ 5) av))) (ak (aP bE hr (ak (v_ 0) (ak (v_ 7) (ak (v_ 6) (ak au av))))) av))))))) (aG (df (cZ (v_ 8) (aY (ak bH (ak (aP bE hr (ak (v_ 0) (ak (v_ 7) (ak (v_ 6) (ak au av))))) av))))))))))))))))))
  (aG (aQ (eA rfl B.tuple (BJ (ee (v_ 8))) (ht:=jd))))))))
def oo:aM ["_law_pot_here","_law_name","_law_goals","_law_manners","_law_bells_most","_law_manner","_law_things","_law_bells","_law_deeds","_law_word","_law_here","_law_some","_law_sorts"] CA (aD lH):=fK
def wN(F:eY K "_law_room" "_law_room" lH f fd)(B:Bl mg)(aV:eW P w K mg base)(cn:jZ P w K mg base)(aB:c7 P w K mg base)(lB:zS P w K mg base):bJ P w K mg base eD 10 f fd CA (eN ⟨K,mg⟩ 5 kg):=by
 have nd:=oo.nd
 refine bD F oo fun cdv A outer s H E hr=> ?_
 exact(ax (bI 5 nd (aP aV hr (ak (v_ 0) (ak (v_ 3) av))))
  (ax (bI 6 nd (cE (jJ cn hr (ak (v_ 0) (ak bH (ak (aF (cE (c8 (ak au (ak au (ak au (ak au av)))))) (aP aB hr (ak (v_ 0) (ak au av)))) av))))))
  (ax (bI 7 nd (cE (jJ cn hr (ak (v_ 0) (ak bH (ak (aP aB hr (ak (v_ 0) (ak (cb (v_ 4) au) av))) av))))))
  (ax (bI 8 nd (cE (c8 av)))
  (ax (jt PassesOwn.never rfl (ed (kT (jJ cn hr (ak (v_ 0) (ak bH (ak (cb au (aP aB hr (ak (v_ 0) (ak au av)))) av)))))) (bT 9 nd) (ax (Eh (n:=10) (N:= ["_law_deed_here","_law_name"]) (js:= [none,some 1]) (a9.gen rfl rfl rfl rfl rfl rfl) rfl (ed (ee (v_ 8))) (fun _ _ _ _=>(fc 0)) (fun _ _ _ _=>fD) (fun _ _ _ _=>(aY (ak (v_ 1) (ak (aF (v_ 0) au) av)))) (JJ 10 nd))
  (ax (bI 11 nd (cE (Cq (ee (v_ 2)) (kT (KP (ee (v_ 10)) (uI o_ (ix mq rfl B.int (by rfl) (ak (oT cV cY (aP aB hr (ak (v_ 0) (ak au av))) au (aU _)) av))))))))
  (aG (df (cZ (v_ 8) (aY (ak (v_ 9) (ak (aP lB hr (ak (v_ 0) (ak (aY (ak (v_ 5) (ak (v_ 6) (ak (v_ 7) av)))) (ak (v_ 11) (ak au av))))) av)))))))))
  (ax (bI 12 nd (eA rfl B.tuple (kT (dw (N:= ["_law_bell","_law_pot_here"]) (js:= [none,some 0]) (a9.gen rfl rfl rfl rfl rfl rfl) rfl (ed (ee (v_ 7))) (fun _ _ _ _=>(fc 0)) (fun _ _ _ _=>fD) (fun _ _ _ _=>(aY (ak (v_ 0) (ak (aF (cE (c8 (ak bH (ak bH av)))) (aP aB hr (ak (v_ 1) (ak au av)))) av)))))) (ht:=gq)))
  (aG (aQ (aY (ak (v_ 1) (ak (v_ 5) (ak (eA rfl B.tuple (kT (dw (N:= ["_law_thing","_law_pot_here"]) (js:= [none,some 0]) (a9.gen rfl rfl rfl rfl rfl rfl) rfl (ed (ee (v_ 6))) (fun _ _ _ _=>(fc 0)) (fun _ _ _ _=>fD) (fun _ _ _ _=>(aY (ak (v_ 0) (ak (aP aB hr (ak (v_ 1) (ak au av))) av)))))) (ht:=gq)) (ak (v_ 12) (ak (eA rfl B.tuple (BJ (ee (v_ 8))) (ht:=jd)) av))))))))))))))
end
section
variable{P:Program}{w:World}{K:PySem.W.Frag}{mg:Str->Option Value}{base:Heap}{f:Addr}{fd:FuncData}
def mI:aM ["_law_pot_here","_law_many","_law_manners","_law_bells_most","_law_names","_law_rooms_here","_law_goals","_law_room_here","_law_name"] Ce (aD kh):=fK
def uJ(F:eY K "_law_rooms" "_law_rooms" kh f fd)(B:Bl mg)(cn:jZ P w K mg base)(aB:c7 P w K mg base)(kX:y6 P w K mg base):bJ P w K mg base eD 11 f fd Ce (eN ⟨K,mg⟩ 4 i3):=by
 have nd:=mI.nd
 refine bD F mI fun cdv A outer s H E hr=> ?_
 have hu:=hr.units0
 exact(ax (bI 4 nd (cE (jJ cn hr (ak (v_ 0) (ak bH (ak (v_ 1) av))))))
  (ax (bI 5 nd (cE (c8 av)))
  (ax (GY 4 PassesOwn.never (fF hu (ee (v_ 4))) (ax (bI 6 nd (cE (c8 av)))
  (ax (jt PassesOwn.never rfl (ed (ee (v_ 5))) (bT 7 nd) (aG (df (lS (v_ 6) (kT (dw (N:=K9) (js:= [none,some 7]) (a9.gen rfl rfl rfl rfl rfl rfl) rfl (ed (ee (aF (v_ 7) au))) (fun _ _ _ _=>(fc 0)) (fun _ _ _ _=>fD) (fun _ _ _ _=>(aY (ak (aF (v_ 1) au) (ak (aF (v_ 0) au) av))))))))))
  (ax (bI 8 nd (Bs (v_ 4) (aP aB hr (ak (v_ 0) (ak (gZ rfl B.len (ee (v_ 4))) av)))))
  (aG (df (cZ (v_ 5) (aP kX hr (ak (v_ 0) (ak (v_ 8) (ak (v_ 6) (ak (v_ 2) (ak (v_ 3) av)))))))))))))
  (aG (aQ (eA rfl B.tuple (kT (CI rfl B.sorted (ee (v_ 5)))) (ht:=gq)))))))
def qK:aM ["_law_pot_here","_law_goals","_law_words_here","_law_passes","_law_most","_law_rows","_law_k","_law_way"] BE (aD nz):=fK
def zL(F:eY K "_law_own" "_law_own" nz f fd)(B:Bl mg)(aB:c7 P w K mg base)(iB:vn P w K mg base)(aV:eW P w K mg base)(bE:kC P w K mg base):bJ P w K mg base eD 9 f fd BE (eN ⟨K,mg⟩ 5 mf):=by
 have nd:=qK.nd
 refine bD F qK fun cdv A outer s H E hr=> ?_
 have hu:=hr.units0
 exact(ax (bI 5 nd (cE (c8 av)))
  (ax (jt PassesOwn.never rfl (lJ rfl B.range (cb au (aP aB hr (ak (v_ 0) (ak (v_ 4) av))))) (bT 6 nd) (ax (bI 7 nd (aP aB hr (ak (v_ 0) (ak au av))))
  (aG (cQ (PW.pt (w_and (bM qY qC (v_ 7) au (aU _)) (eQ (fF hu (ee (v_ 1)))))) (aG (df (cZ (v_ 5) (aP iB hr (ak (v_ 0) (ak (v_ 1) (ak (v_ 2) (ak (v_ 2) av)))))))) (aG (cQ (PW.pt (w_and (bM cV cY (v_ 7) au (aU _)) (eQ (fF hu (ee (v_ 3)))))) (aG (df (cZ (v_ 5) (aY (ak (aF (cE (c8 (ak bH (ak bH av)))) (aP aB hr (ak (v_ 0) (ak au av)))) (ak (aP aV hr (ak (v_ 0) (ak (v_ 3) av))) av)))))) (aG (cQ (PW.pt (w_and (bM cV cY (v_ 7) au (aU _)) (eQ (fF hu (ee (v_ 3)))))) (aG (df (cZ (v_ 5) (aY (ak bH (ak (aP aV hr (ak (v_ 0) (ak (v_ 3) av))) (ak (aP aV hr (ak (v_ 0) (ak (v_ 3) av))) av))))))) (aG (cQ (PW.pt (w_and (bM cV cY (v_ 7) au (aU _)) (eQ (fF hu (ee (v_ 2)))))) (aG (df (cZ (v_ 5) (aY (ak bH (ak (aP aV hr (ak (v_ 0) (ak (v_ 2) av))) (ak (aP bE hr (ak (v_ 0) (ak (v_ 2) (ak (cE (c8 av)) (ak au av))))) av))))))) (aG (cQ (bM cV cY (v_ 7) au (aU _)) (ax (df (cZ (v_ 5) (aY (ak bH (ak (aP bE hr (ak (v_ 0) (ak (v_ 2) (ak (cE (c8 av)) (ak au av))))) (ak (cb (gZ rfl B.len (ee (v_ 5))) au) av))))))
  (aG (df (cZ (v_ 5) (aY (ak bH (ak (aP bE hr (ak (v_ 0) (ak (v_ 2) (ak (cE (c8 av)) (ak au av))))) av))))))) (aG (df (cZ (v_ 5) (aY (ak bH (ak (aP bE hr (ak (v_ 0) (ak (v_ 2) (ak (cE (c8 av)) (ak au av))))) av))))))))))))))))))
  (ax (cQ (bM cV cY (aP aB hr (ak (v_ 0) (ak au av))) au (aU _)) (aG (df (cZ (v_ 5) (aY (ak bH (ak (aP aB hr (ak (v_ 0) (ak (cb (gZ rfl B.len (ee (v_ 5))) au) av))) av)))))) cf)
  (aG (aQ (eA rfl B.tuple (BJ (ee (v_ 5))) (ht:=jd)))))))
def mQ:aM ["_law_pot_here","_law_rooms_here","_law_hands","_law_passes_most","_law_goals","_law_room_here","_law_passes","_law_shared","_law_made","_law_k","_law_own_here","_law_program","_law_counted"] Bz (aD kj):=fK
def uN(F:eY K "_law_world" "_law_world" kj f fd)(B:Bl mg)(cn:jZ P w K mg base)(aB:c7 P w K mg base)(nK:A4 P w K mg base):bJ P w K mg base eD 10 f fd Bz (eN ⟨K,mg⟩ 4 i4):=by
 have nd:=mQ.nd
 refine bD F mQ fun cdv A outer s H E hr=> ?_
 exact(ax (bI 4 nd (cE (c8 av)))
  (ax (jt PassesOwn.never rfl (ed (ee (v_ 1))) (bT 5 nd) (aG (df (lS (v_ 4) (kT (dw (N:=K9) (js:= [none,some 5]) (a9.gen rfl rfl rfl rfl rfl rfl) rfl (ed (ee (aF (v_ 5) au))) (fun _ _ _ _=>(fc 0)) (fun _ _ _ _=>fD) (fun _ _ _ _=>(aY (ak (aF (v_ 1) au) (ak (aF (v_ 0) au) av))))))))))
  (ax (bI 6 nd (cE (jJ cn hr (ak (v_ 0) (ak bH (ak (aP aB hr (ak (v_ 0) (ak (cb (v_ 3) au) av))) av))))))
  (ax (bI 7 nd (cE (jJ cn hr (ak (v_ 0) (ak bH (ak (aF (cE (c8 (ak au (ak au (ak au (ak au av)))))) (aP aB hr (ak (v_ 0) (ak au av)))) av))))))
  (ax (bI 8 nd (cE (c8 av)))
  (ax (jt PassesOwn.never rfl (lJ rfl B.range (v_ 2)) (bT 9 nd) (ax (bI 10 nd (cE (jJ cn hr (ak (v_ 0) (ak bH (ak (aF (cE (c8 (ak au (ak au (ak au (ak au av)))))) (aP aB hr (ak (v_ 0) (ak au av)))) av))))))
  (ax (bI 11 nd (aP nK hr (ak (v_ 0) (ak (v_ 4) (ak (cE (Cq (ee (v_ 10)) (ee (v_ 7)))) (ak (v_ 6) (ak au av)))))))
  (aG (df (cZ (v_ 8) (aY (ak (eA rfl B.tuple (kT (dw (N:=Ee) (js:= [none,some 0]) (a9.gen rfl rfl rfl rfl rfl rfl) rfl (ed (ee (v_ 10))) (fun _ _ _ _=>(fc 0)) (fun _ _ _ _=>fD) (fun _ _ _ _=>(aY (ak (v_ 0) (ak (aP aB hr (ak (v_ 1) (ak au av))) av)))))) (ht:=gq)) (ak (v_ 11) av)))))))))
  (ax (bI 12 nd (eA rfl B.tuple (kT (dw (N:=Ee) (js:= [none,some 0]) (a9.gen rfl rfl rfl rfl rfl rfl) rfl (ed (ee (v_ 6))) (fun _ _ _ _=>(fc 0)) (fun _ _ _ _=>fD) (fun _ _ _ _=>(aY (ak (v_ 0) (ak (aP aB hr (ak (v_ 1) (ak au av))) av)))))) (ht:=gq)))
  (aG (aQ (aY (ak (v_ 1) (ak (v_ 12) (ak (eA rfl B.tuple (kT (dw (N:=Ee) (js:= [none,some 0]) (a9.gen rfl rfl rfl rfl rfl rfl) rfl (ed (ee (v_ 7))) (fun _ _ _ _=>(fc 0)) (fun _ _ _ _=>fD) (fun _ _ _ _=>(aY (ak (v_ 0) (ak (aP aB hr (ak (v_ 1) (ak au av))) av)))))) (ht:=gq)) (ak (eA rfl B.tuple (BJ (ee (v_ 8))) (ht:=jd)) av))))))))))))))
def jb:aM ["_law_pot_here","_law_rooms_here"] Cw (aD gI):=fK
def pk(F:eY K "_law_any_world" "_law_any_world" gI f fd)(B:Bl mg)(jX:xI P w K mg base)(aB:c7 P w K mg base)(kf:xG P w K mg base):bJ P w K mg base eD 12 f fd Cw (eN ⟨K,mg⟩ 1 eE):=by
 have nd:=jb.nd
 refine bD F jb fun cdv A outer s H E hr=> ?_
 exact(ax (bI 1 nd (aP jX hr (ak (v_ 0) (ak (aF (cE (c8 (ak au (ak au (ak au (ak au (ak au (ak au av)))))))) (aP aB hr (ak (v_ 0) (ak au av)))) (ak (cE (c8 (ak bH (ak bH av)))) (ak au av))))))
  (aG (aQ (aP kf hr (ak (v_ 0) (ak (v_ 1) (ak (cb au (aP aB hr (ak (v_ 0) (ak au av)))) (ak au av))))))))
def wF:aM zm zm (aD lP):=fK
def w_(F:eY K "values_of" "values_of" lP f fd)(B:Bl mg):bJ P w K mg base eD 1 f fd zm (eN ⟨K,mg⟩ 1 gH):=by
 refine bD F wF fun cdv A outer s H E hr=> ?_
 exact(aG (aQ (eA rfl B.tuple (kT (dw (N:= ["word","value"]) (js:= [none,none]) (a9.gen rfl rfl rfl rfl rfl rfl) rfl (ed (ee (v_ 0))) (fun _ _ _ _=>(dH rfl (aH (fc 0) (aH (fc 1) cI)))) (fun _ _ _ _=>fD) (fun _ _ _ _=>(v_ 1)))) (ht:=gq))))
def mG:aM ["room","name","manner","things","bells","deeds"] yH (aD kn):=fK
def u7(F:eY K "begun_room" "begun_room" kn f fd)(B:Bl mg)(eP:qO P w K mg base){iY:Tok}(gE:mg "NOBODY"=some (.int (-1) iY)):bJ P w K mg base eD 2 f fd yH (eN ⟨K,mg⟩ 1 i9):=by
 have nd:=mG.nd
 refine bD F mG fun cdv A outer s H E hr=> ?_
 exact(ax (fT (v_ 0) (dH rfl (aH (bT 1 nd) (aH (bT 2 nd) (aH (bT 3 nd) (aH (bT 4 nd) (aH (bT 5 nd) cI)))))))
  (aG (aQ (aY (ak (aP eP hr (ak (v_ 3) av)) (ak (d0 (fG (v:=.int (-1)) rfl gE ⟨_,rfl⟩) fun _ _=>.int (-1)) (ak (aY av) (ak (aY av) (ak (eA rfl B.tuple (kT (dw (N:= ["bell"]) (js:= [none]) (a9.gen rfl rfl rfl rfl rfl rfl) rfl (ed (ee (v_ 4))) (fun _ _ _ _=>(fc 0)) (fun _ _ _ _=>fD) (fun _ _ _ _=>(aY av)))) (ht:=gq)) av)))))))))
def yO:aM ["world","rooms","passes","shared","hands","own"] xl (aD xJ):=fK
def Fl(F:eY K "begun" "begun" xJ f fd)(B:Bl mg)(eP:qO P w K mg base)(km:wM P w K mg base){jD:Tok}(gD:mg "OWN"=some (.int (-1) jD)):bJ P w K mg base eD 3 f fd xl (eN ⟨K,mg⟩ 1 xS):=by
 have nd:=yO.nd
 refine bD F yO fun cdv A outer s H E hr=> ?_
 exact(ax (fT (v_ 0) (dH rfl (aH (bT 1 nd) (aH (bT 2 nd) (aH (bT 3 nd) (aH (bT 4 nd) cI))))))
  (ax (bI 5 nd (aY (ak (d0 (fG (v:=.int (-1)) rfl gD ⟨_,rfl⟩) fun _ _=>.int (-1)) (ak (d0 (fG (v:=.int (-1)) rfl gD ⟨_,rfl⟩) fun _ _=>.int (-1)) (ak au (ak au (ak au av)))))))
  (aG (aQ (aY (ak (eA rfl B.tuple (kT (dw (N:=yH) (js:= [none]) (a9.gen rfl rfl rfl rfl rfl rfl) rfl (ed (ee (v_ 1))) (fun _ _ _ _=>(fc 0)) (fun _ _ _ _=>fD) (fun _ _ _ _=>(aP km hr (ak (v_ 0) av))))) (ht:=gq)) (ak (eA rfl B.tuple (kT (dw (N:= ["name","value"]) (js:= [none,none]) (a9.gen rfl rfl rfl rfl rfl rfl) rfl (ed (ee (v_ 2))) (fun _ _ _ _=>(dH rfl (aH (fc 0) (aH (fc 1) cI)))) (fun _ _ _ _=>fD) (fun _ _ _ _=>(aY (ak (v_ 1) (ak (aY av) av)))))) (ht:=gq)) (ak (aP eP hr (ak (v_ 3) av)) (ak (eA rfl B.tuple (kT (dw (N:= ["things","program","own"]) (js:= [none,none,some 5]) (a9.gen rfl rfl rfl rfl rfl rfl) rfl (ed (ee (v_ 4))) (fun _ _ _ _=>(dH rfl (aH (fc 0) (aH (fc 1) cI)))) (fun _ _ _ _=>fD) (fun _ _ _ _=>(aY (ak (aP eP hr (ak (v_ 0) av)) (ak (aY (ak (v_ 2) av)) av)))))) (ht:=gq)) av)))))))))
end
section
variable{P:Program}{w:World}{K:PySem.W.Frag}{mg:Str->Option Value}{base:Heap}{f:Addr}{fd:FuncData}
def zH:aM ze ze (aD nI):=fK
def zA(F:eY K "hands_at" "hands_at" nI f fd)(B:Bl mg):bJ P w K mg base eD 1 f fd ze (eN ⟨K,mg⟩ 1 mh):=by
 refine bD F zH fun cdv A outer s H E hr=> ?_
 exact(aG (m8 (dw (N:= ["turn","hand"]) (js:= [none,none]) (a9.gen rfl rfl rfl rfl rfl rfl) rfl (ed (ee (v_ 0))) (fun _ _ _ _=>(dH rfl (aH (fc 0) (aH (fc 1) cI)))) (fun _ _ _ _=>fD) (fun _ _ _ _=>(v_ 1)))))
def jN:aM ["scene","hands","value","row","values","within","late","bells","line"] BC (aD h_):=fK
def qh(F:eY K "hands_in_rows" "hands_in_rows" h_ f fd)(B:Bl mg)(nJ:AR P w K mg base):bJ P w K mg base eD 2 f fd BC (eN ⟨K,mg⟩ 1 eV):=by
 have nd:=jN.nd
 refine bD F jN fun cdv A outer s H E hr=> ?_
 exact(ax (bI 1 nd (cE (c8 av)))
  (ax (jt PassesOwn.never rfl (ed (ee (aF (v_ 0) au))) (dH rfl (aH (bT 2 nd) (aH (bT 3 nd) cI))) (aG (df (vp (v_ 1) (ee (v_ 3))))))
  (ax (jt PassesOwn.never rfl (ed (ee (aF (v_ 0) au))) (dH rfl (aH (bT 4 nd) (aH (bT 5 nd) (aH (bT 3 nd) (aH (bT 6 nd) (aH (bT 7 nd) cI)))))) (ax (df (vp (v_ 1) (ee (cb (v_ 3) (v_ 6)))))
  (aG (jt PassesOwn.never rfl (ed (ee (v_ 7))) (bT 8 nd) (aG (df (lS (v_ 1) (kT (jJ nJ hr (ak (v_ 8) av))))))))))
  (aG (aQ (v_ 1))))))
def u5:aM yQ yQ (aD kI):=fK
def uR(F:eY K "last_frame" "last_frame" kI f fd)(B:Bl mg):bJ P w K mg base eD 1 f fd yQ (eN ⟨K,mg⟩ 2 dm):=by
 refine bD F u5 fun cdv A outer s H E hr=> ?_
 exact(aG (aQ (aF (aF (aF (aF (v_ 0) au) (v_ 1)) au) (qE au))))
def mS:aM ["world","hand","frame","room","deed"] Cp (aD kD):=fK
def uX(F:eY K "program_of" "program_of" kD f fd)(B:Bl mg){jD:Tok}(gD:mg "OWN"=some (.int (-1) jD)):bJ P w K mg base eD 1 f fd Cp (eN ⟨K,mg⟩ 3 fR):=by
 have nd:=mS.nd
 refine bD F mS fun cdv A outer s H E hr=> ?_
 exact(ax (KQ (JT (i:=3) (j:=4) rfl nd rfl rfl (by decide) rfl rfl (ak (aF (v_ 2) au) (ak (aF (v_ 2) au) av)) rfl))
  (ax (cQ (bM cV cY (v_ 3) (d0 (fG (v:=.int (-1)) rfl gD ⟨_,rfl⟩) fun _ _=>.int (-1)) (aU _)) (aG (aQ (aF (aF (aF (v_ 0) au) (v_ 1)) au))) cf)
  (aG (aQ (aF (aF (aF (aF (aF (v_ 0) au) (v_ 3)) au) (v_ 4)) au)))))
def jw:aM ["world","scene","hand","frame"] eT (aD g_):=fK
def pU(F:eY K "is_behind_all" "is_behind_all" g_ f fd)(B:Bl mg)(bc:eB P w K mg base)(di:kq P w K mg base){jD:Tok}(gD:mg "OWN"=some (.int (-1) jD)):bJ P w K mg base eD 2 f fd eT (eN ⟨K,mg⟩ 3 fX):=by
 have nd:=jw.nd
 refine bD F jw fun cdv A outer s H E hr=> ?_
 exact(ax (bI 3 nd (aP bc hr (ak (v_ 1) (ak (v_ 2) av))))
  (aG (aQ (Ft (oT cV cY (aF (v_ 3) au) (d0 (fG (v:=.int (-1)) rfl gD ⟨_,rfl⟩) fun _ _=>.int (-1)) (aU _)) (EB (oT cV cY (aF (v_ 3) au) (gZ rfl B.len (ee (aP di hr (ak (v_ 0) (ak (v_ 2) (ak (v_ 3) av)))))) (aU _)))))))
def qG:aM ["world","scene","held_up"] wc (aD nV):=fK
def zF(F:eY K "may_step" "may_step" nV f fd)(B:Bl mg)(hV:rg P w K mg base)(hJ:rF P w K mg base):bJ P w K mg base eD 3 f fd wc (eN ⟨K,mg⟩ 2 jT):=by
 have nd:=qG.nd
 refine bD F qG fun cdv A outer s H E hr=> ?_
 exact(ax (bI 2 nd (cE (jJ hV hr (ak (v_ 1) av))))
  (aG (m8 (dw (N:= ["hand","world","scene","held_up"]) (js:= [none,some 0,some 1,some 2]) (a9.gen rfl rfl rfl rfl rfl rfl) rfl (lJ rfl B.range (gZ rfl B.len (ee (aF (v_ 1) au)))) (fun _ _ _ _=>(fc 0)) (fun _ _ _ _=>(zC (PW.pt (w_and (rT (v_ 0) (ee (v_ 3))) (eQ (qT (jR (aP hJ hr (ak (v_ 1) (ak (v_ 2) (ak (v_ 0) av))))))))))) (fun _ _ _ _=>(v_ 0))))))
def x_:aM y_ y_ (aD kU):=fK
def xu(F:eY K "_law_next" "_law_next" kU f fd)(B:Bl mg)(aB:c7 P w K mg base)(aV:eW P w K mg base):bJ P w K mg base eD 3 f fd y_ (eN ⟨K,mg⟩ 3 kA):=by
 refine bD F x_ fun cdv A outer s H E hr=> ?_
 exact(ax (cQ (PW.pt (w_and (Lb (v_ 2) (ee (v_ 1))) (eQ (bM cV cY (aP aB hr (ak (v_ 0) (ak au av))) au (aU _))))) (aG (aQ (v_ 2))) cf)
  (aG (aQ (aP aV hr (ak (v_ 0) (ak (v_ 1) av))))))
def yZ:aM zg zg (aD m9):=fK
def yx(F:eY K "names_of" "names_of" m9 f fd)(B:Bl mg):bJ P w K mg base eD 1 f fd zg (eN ⟨K,mg⟩ 1 eG):=by
 refine bD F yZ fun cdv A outer s H E hr=> ?_
 exact(aG (m8 (dw (N:= ["row"]) (js:= [none]) (a9.gen rfl rfl rfl rfl rfl rfl) rfl (ed (ee (v_ 0))) (fun _ _ _ _=>(fc 0)) (fun _ _ _ _=>fD) (fun _ _ _ _=>(aF (v_ 0) au)))))
def zz:aM zI zI (aD nN):=fK
def yg(F:eY K "place_of" "place_of" nN f fd)(B:Bl mg)(de:m6 P w K mg base):bJ P w K mg base eD 2 f fd zI (eN ⟨K,mg⟩ 2 dD):=by
 refine bD F zz fun cdv A outer s H E hr=> ?_
 exact(aG (aQ (HI (kT (jJ de hr (ak (v_ 0) av))) (v_ 1))))
def xb:aM zM zM (aD lD):=fK
def xY(F:eY K "with_part" "with_part" lD f fd)(B:Bl mg):bJ P w K mg base eD 1 f fd zM (eN ⟨K,mg⟩ 3 dS):=by
 refine bD F xb fun cdv A outer s H E hr=> ?_
 exact(aG (aQ (cb (cb (cU (v_ 0) dW (dU (v_ 1))) (aY (ak (v_ 2) av))) (cU (v_ 0) (dU (cb (v_ 1) au)) dW))))
def wZ:aM zo zo (aD lL):=fK
def wu(F:eY K "with_hand" "with_hand" lL f fd)(B:Bl mg)(bP:gV P w K mg base):bJ P w K mg base eD 2 f fd zo (eN ⟨K,mg⟩ 4 fN):=by
 refine bD F wZ fun cdv A outer s H E hr=> ?_
 exact(aG (aQ (cb (cU (v_ 0) dW (dU au)) (aY (ak (aP bP hr (ak (aF (v_ 0) au) (ak (v_ 1) (ak (aY (ak (v_ 2) (ak (v_ 3) av))) av)))) av)))))
def wb:aM yX yX (aD lR):=fK
def xj(F:eY K "with_room" "with_room" lR f fd)(B:Bl mg)(bP:gV P w K mg base):bJ P w K mg base eD 2 f fd yX (eN ⟨K,mg⟩ 3 dA):=by
 refine bD F wb fun cdv A outer s H E hr=> ?_
 exact(aG (aQ (cb (aY (ak (aP bP hr (ak (aF (v_ 0) au) (ak (v_ 1) (ak (v_ 2) av)))) av)) (cU (v_ 0) (dU au) dW))))
def oI:aM ["world","scene","hand","word","value","room","place","values","shared","frames"] yc (aD lI):=fK
def wW(F:eY K "put_thing" "put_thing" lI f fd)(B:Bl mg)(bc:eB P w K mg base)(bW:iK P w K mg base)(bP:gV P w K mg base)(bK:gU P w K mg base)(de:m6 P w K mg base)(cK:jg P w K mg base){jD:Tok}(gD:mg "OWN"=some (.int (-1) jD)):bJ P w K mg base eD 3 f fd yc (eN ⟨K,mg⟩ 5 fJ):=by
 have nd:=oI.nd
 refine bD F oI fun cdv A outer s H E hr=> ?_
 exact(ax (bI 5 nd (aF (aP bc hr (ak (v_ 1) (ak (v_ 2) av))) au))
  (ax (cQ (bM pd oO (v_ 5) (d0 (fG (v:=.int (-1)) rfl gD ⟨_,rfl⟩) fun _ _=>.int (-1)) (aU _)) (ax (bI 6 nd (aP bW hr (ak (aF (aF (aF (v_ 0) au) (v_ 5)) au) (ak (v_ 3) av))))
  (ax (bI 7 nd (aP bP hr (ak (aF (aF (aF (v_ 1) au) (v_ 5)) au) (ak (v_ 6) (ak (v_ 4) av)))))
  (aG (aQ (aP bK hr (ak (v_ 1) (ak (v_ 5) (ak (cb (aY (ak (v_ 7) av)) (cU (aF (aF (v_ 1) au) (v_ 5)) (dU au) dW)) av)))))))) cf)
  (ax (cQ (Lb (v_ 3) (kT (jJ de hr (ak (aF (v_ 0) au) av)))) (ax (bI 8 nd (aP bP hr (ak (aF (v_ 1) au) (ak (aP bW hr (ak (aF (v_ 0) au) (ak (v_ 3) av))) (ak (v_ 4) av)))))
  (aG (aQ (aY (ak (aF (v_ 1) au) (ak (aF (v_ 1) au) (ak (v_ 8) (ak (aF (v_ 1) au) av)))))))) cf)
  (ax (fT (aF (aF (v_ 1) au) (v_ 2)) (dH rfl (aH (bT 7 nd) (aH (bT 9 nd) cI))))
  (ax (bI 6 nd (aP bW hr (ak (aF (aF (aF (v_ 0) au) (v_ 2)) au) (ak (v_ 3) av))))
  (aG (aQ (aP cK hr (ak (v_ 1) (ak (v_ 2) (ak (aP bP hr (ak (v_ 7) (ak (v_ 6) (ak (v_ 4) av)))) (ak (v_ 9) av))))))))))))
def rq:aM zO zO (aD i0):=fK
def rB(F:eY K "value_of_two" "value_of_two" i0 f fd)(B:Bl mg){jv:Tok}(iA:mg "HIGHEST"=some (.int (9) jv)):bJ P w K mg base eD 1 f fd zO (eN ⟨K,mg⟩ 3 gR):=by
 refine bD F rq fun cdv A outer s H E hr=> ?_
 exact(ax (cQ (bM cV cY (v_ 0) bH (aU _)) (aG (aQ (uI AY (eR (pY rfl) rfl B.min (by rfl) (ak (cb (v_ 1) (v_ 2)) (ak (d0 (fG (v:=.int (9)) rfl iA ⟨_,rfl⟩) fun _ _=>.int (9)) av)))))) cf)
  (ax (cQ (bM cV cY (v_ 0) bH (aU _)) (aG (aQ (uI F4 (eR (vN rfl) rfl B.max (by rfl) (ak (uE (v_ 1) (v_ 2)) (ak au av)))))) cf)
  (ax (cQ (bM cV cY (v_ 0) bH (aU _)) (aG (aQ (zp (bM qY qC (v_ 1) (v_ 2) (aU _)) au au))) cf)
  (ax (cQ (bM cV cY (v_ 0) bH (aU _)) (aG (aQ (zp (bM cV cY (v_ 1) (v_ 2) (aU _)) au au))) cf)
  (aG (aQ (zp (PW.pt (w_and (bM pd oO (v_ 1) au (aU _)) (eQ (bM pd oO (v_ 2) au (aU _))))) au au)))))))
def qw:aM ["tree","things","waiting","first"] vX (aD nO):=fK
theorem qP(F:eY K "value_of" "value_of" nO f fd)(B:Bl mg)(gh:tj P w K mg base)(b:Binds K fd vX [])(kp:PySem.W.keepIn K (.ref f)=true)(m:mg "value_of"=some (.ref f)):∀n,bJ P w K mg base eD (2+n) f fd vX (eN ⟨K,mg⟩ 3 (gJ n))
 |0=>B_
 | n+1=>by
   have fQ:fB P w K mg base (2+n) "value_of" vX (gJ n):=⟨f,fd,qP F B gh b kp m n,b,kp,m⟩
   have nd:=qw.nd
   refine bD (k:=2+n) F qw fun cdv A outer s H E hr=> ?_
   have hu1:=HR hr
   exact(ax (cQ (jR (Ia (T:="int") ⟨rfl,rfl,rfl,rfl,rfl,rfl,rfl⟩ rfl B.isi (v_ 0) (Cg (v:=.ty "int") rfl B.int PyProof.Rows.boot_int rfl))) (aG (aQ (v_ 0))) cf)
   (ax (cQ (jR (Ia (T:="str") ⟨rfl,rfl,rfl,rfl,rfl,rfl,rfl⟩ rfl B.isi (v_ 0) (Cg (v:=.ty "str") rfl B.str PyProof.Rows.boot_str rfl))) (aG (aQ (FO hu1 (v_ 1) (v_ 0) (fun _ _=>rfl)))) cf)
   (ax (cQ (bM cV cY (aF (v_ 0) au) bH (aU _)) (aG (aQ (zp (bM Cd BR (FO hu1 (v_ 2) (aF (v_ 0) au) (fun _ _=>rfl)) au (aU _)) au au))) cf)
   (ax (bI 3 nd (aP fQ hr (ak (aF (v_ 0) au) (ak (v_ 1) (ak (v_ 2) av)))))
   (ax (cQ (bM cV cY (aF (v_ 0) au) bH (aU _)) (aG (aQ (zp (bM cV cY (v_ 3) au (aU _)) au au))) cf)
   (aG (aQ (aP gh hr (ak (aF (v_ 0) au) (ak (v_ 3) (ak (aP fQ hr (ak (aF (v_ 0) au) (ak (v_ 1) (ak (v_ 2) av)))) av)))))))))))
end
section
variable{P:Program}{w:World}{K:PySem.W.Frag}{mg:Str->Option Value}{base:Heap}{f:Addr}{fd:FuncData}
def qM:aM ["world","scene","hand","tree","frame","room","things","waiting"] BP (aD m5):=fK
def yE(F:eY K "reckoned" "reckoned" m5 f fd)(B:Bl mg)(bc:eB P w K mg base)(de:m6 P w K mg base)(fQ:AH P w K mg base){jD:Tok}(gD:mg "OWN"=some (.int (-1) jD)):bJ P w K mg base eD 9 f fd BP (eN ⟨K,mg⟩ 4 eg):=by
 have nd:=qM.nd
 refine bD F qM fun cdv A outer s H E hr=> ?_
 have hu1:=HR hr
 exact(ax (bI 4 nd (aP bc hr (ak (v_ 1) (ak (v_ 2) av))))
  (ax (bI 5 nd (aF (v_ 4) au))
  (ax (cQ (bM cV cY (v_ 5) (d0 (fG (v:=.int (-1)) rfl gD ⟨_,rfl⟩) fun _ _=>.int (-1)) (aU _)) (ax (bI 6 nd (pO rfl rfl B.dict rfl B.zip (kT (jJ de hr (ak (aF (v_ 0) au) av))) (ee (aF (v_ 1) au))))
  (ax (df (EL (v_ 6) (pO rfl rfl B.dict rfl B.zip (kT (jJ de hr (ak (aF (aF (aF (v_ 0) au) (v_ 2)) au) av))) (ee (aF (aF (aF (v_ 1) au) (v_ 2)) au)))))
  (aG (aQ (aP fQ hr (ak (v_ 3) (ak (v_ 6) (ak Ke av)))))))) cf)
  (ax (bI 6 nd (pO rfl rfl B.dict rfl B.zip (kT (jJ de hr (ak (aF (aF (aF (v_ 0) au) (v_ 5)) au) av))) (ee (aF (aF (aF (v_ 1) au) (v_ 5)) au))))
  (ax (JO hu1 (v_ 6) bH (aF (v_ 4) au))
  (ax (HB (n:=7) (N:= ["bell","line"]) (js:= [none,none]) (a9.gen rfl rfl rfl rfl rfl rfl) rfl (D1 rfl B.zip (kT (jJ de hr (ak (aF (aF (aF (v_ 0) au) (v_ 5)) au) av))) (ee (aF (aF (aF (v_ 1) au) (v_ 5)) au))) (fun _ _ _ _=>(dH rfl (aH (fc 0) (aH (fc 1) cI)))) (fun _ _ _ _=>fD) (fun _ _ _ _=>(v_ 0)) (fun _ _ _ _=>(gZ rfl B.len (ee (v_ 1)))) (JJ 7 nd))
  (aG (aQ (aP fQ hr (ak (v_ 3) (ak (v_ 6) (ak (v_ 7) av))))))))))))
def DR:aM bX bX (aD sr):=fK
def C7(F:eY K "by_put" "by_put" sr f fd)(B:Bl mg)(fU:qt P w K mg base)(bV:gN P w K mg base):bJ P w K mg base eD 10 f fd bX (eN ⟨K,mg⟩ 4 rS):=by
 refine bD F DR fun cdv A outer s H E hr=> ?_
 exact(aG (aQ (aP fU hr (ak (v_ 0) (ak (v_ 1) (ak (v_ 2) (ak (aF (v_ 3) au) (ak (aP bV hr (ak (v_ 0) (ak (v_ 1) (ak (v_ 2) (ak (aF (v_ 3) au) av))))) av))))))))
def iL:aM ["scene","hand","frame","values","frames"] B5 (aD gu):=fK
def mZ(F:eY K "with_last_frame" "with_last_frame" gu f fd)(B:Bl mg)(cK:jg P w K mg base):bJ P w K mg base eD 3 f fd B5 (eN ⟨K,mg⟩ 3 d_):=by
 have nd:=iL.nd
 refine bD F iL fun cdv A outer s H E hr=> ?_
 exact(ax (fT (aF (aF (v_ 0) au) (v_ 1)) (dH rfl (aH (bT 3 nd) (aH (bT 4 nd) cI))))
  (aG (aQ (aP cK hr (ak (v_ 0) (ak (v_ 1) (ak (v_ 3) (ak (cb (cU (v_ 4) dW (dU (qE au))) (aY (ak (v_ 2) av))) av))))))))
def vg:aM ["scene","hand","row","frame"] BX (aD uv):=fK
def CK(F:eY K "at_row" "at_row" uv f fd)(B:Bl mg)(bc:eB P w K mg base)(c_:jh P w K mg base):bJ P w K mg base eD 4 f fd BX (eN ⟨K,mg⟩ 3 j6):=by
 have nd:=vg.nd
 refine bD F vg fun cdv A outer s H E hr=> ?_
 exact(ax (bI 3 nd (aP bc hr (ak (v_ 0) (ak (v_ 1) av))))
  (aG (aQ (aP c_ hr (ak (v_ 0) (ak (v_ 1) (ak (cb (cb (cU (v_ 3) dW (dU au)) (aY (ak (v_ 2) av))) (cU (v_ 3) (dU au) dW)) av)))))))
def wm:aM bX bX (aD lK):=fK
def xU(F:eY K "by_unless" "by_unless" lK f fd)(B:Bl mg)(bV:gN P w K mg base)(gB:tP P w K mg base):bJ P w K mg base eD 10 f fd bX (eN ⟨K,mg⟩ 4 kE):=by
 refine bD F wm fun cdv A outer s H E hr=> ?_
 exact(ax (cQ (bM cV cY (aP bV hr (ak (v_ 0) (ak (v_ 1) (ak (v_ 2) (ak (aF (v_ 3) au) av))))) au (aU _)) (aG (aQ (aP gB hr (ak (v_ 1) (ak (v_ 2) (ak (aF (v_ 3) au) av)))))) cf)
  (aG (aQ (v_ 1))))
def FA:aM bX bX (aD wC):=fK
def D6(F:eY K "by_go" "by_go" wC f fd)(B:Bl mg)(gB:tP P w K mg base):bJ P w K mg base eD 5 f fd bX (eN ⟨K,mg⟩ 4 xF):=by
 refine bD F FA fun cdv A outer s H E hr=> ?_
 exact(aG (aQ (aP gB hr (ak (v_ 1) (ak (v_ 2) (ak (aF (v_ 3) au) av))))))
def sN:aM ["scene","room","hand","values","within","row","late","bells"] CC (aD p9):=fK
def AL(F:eY K "come_in" "come_in" p9 f fd)(B:Bl mg)(bK:gU P w K mg base){iY:Tok}(gE:mg "NOBODY"=some (.int (-1) iY)):bJ P w K mg base eD 3 f fd CC (eN ⟨K,mg⟩ 3 lE):=by
 have nd:=sN.nd
 refine bD F sN fun cdv A outer s H E hr=> ?_
 exact(ax (fT (aF (aF (v_ 0) au) (v_ 1)) (dH rfl (aH (bT 3 nd) (aH (bT 4 nd) (aH (bT 5 nd) (aH (bT 6 nd) (aH (bT 7 nd) cI)))))))
  (ax (cQ (bM cV cY (v_ 4) (d0 (fG (v:=.int (-1)) rfl gE ⟨_,rfl⟩) fun _ _=>.int (-1)) (aU _)) (aG (aQ (aP bK hr (ak (v_ 0) (ak (v_ 1) (ak (aY (ak (v_ 3) (ak (v_ 2) (ak (v_ 5) (ak (v_ 6) (ak (v_ 7) av)))))) av)))))) cf)
  (aG (aQ (aP bK hr (ak (v_ 0) (ak (v_ 1) (ak (aY (ak (v_ 3) (ak (v_ 4) (ak (cb (v_ 5) (aY (ak (v_ 2) av))) (ak (v_ 6) (ak (v_ 7) av)))))) av))))))))
def zE:aM ["world","scene","hand","row","room","deed","frame","values","frames"] bX (aD xN):=fK
def FB(F:eY K "by_do" "by_do" xN f fd)(B:Bl mg)(bW:iK P w K mg base)(bV:gN P w K mg base)(iD:vm P w K mg base)(cK:jg P w K mg base):bJ P w K mg base eD 10 f fd bX (eN ⟨K,mg⟩ 4 w6):=by
 have nd:=zE.nd
 refine bD F zE fun cdv A outer s H E hr=> ?_
 exact(ax (bI 4 nd (aP bW hr (ak (aF (v_ 0) au) (ak (aF (v_ 3) au) av))))
  (ax (bI 5 nd (aP bW hr (ak (aF (aF (aF (v_ 0) au) (v_ 4)) au) (ak (aF (v_ 3) au) av))))
  (ax (bI 6 nd (aY (ak (v_ 4) (ak (v_ 5) (ak au (ak (aP bV hr (ak (v_ 0) (ak (v_ 1) (ak (v_ 2) (ak (aF (v_ 3) au) av))))) (ak au av)))))))
  (ax (fT (aF (aF (v_ 1) au) (v_ 2)) (dH rfl (aH (bT 7 nd) (aH (bT 8 nd) cI))))
  (aG (aQ (aP iD hr (ak (aP cK hr (ak (v_ 1) (ak (v_ 2) (ak (v_ 7) (ak (cb (v_ 8) (aY (ak (v_ 6) av))) av))))) (ak (v_ 4) (ak (v_ 2) av))))))))))
def tf:aM ["world","scene","hand","word","room"] wy (aD pS):=fK
def Au(F:eY K "bell_of" "bell_of" pS f fd)(B:Bl mg)(bc:eB P w K mg base)(bW:iK P w K mg base):bJ P w K mg base eD 3 f fd wy (eN ⟨K,mg⟩ 4 jQ):=by
 have nd:=tf.nd
 refine bD F tf fun cdv A outer s H E hr=> ?_
 exact(ax (bI 4 nd (aF (aP bc hr (ak (v_ 1) (ak (v_ 2) av))) au))
  (aG (aQ (aY (ak (v_ 4) (ak (aP bW hr (ak (aF (aF (aF (v_ 0) au) (v_ 4)) au) (ak (v_ 3) av))) av))))))
def oN:aM ["scene","room","bell","line","state"] Ck (aD kZ):=fK
def yd(F:eY K "with_line" "with_line" kZ f fd)(B:Bl mg)(bK:gU P w K mg base)(bP:gV P w K mg base):bJ P w K mg base eD 3 f fd Ck (eN ⟨K,mg⟩ 4 fM):=by
 have nd:=oN.nd
 refine bD F oN fun cdv A outer s H E hr=> ?_
 exact(ax (bI 4 nd (aF (aF (v_ 0) au) (v_ 1)))
  (aG (aQ (aP bK hr (ak (v_ 0) (ak (v_ 1) (ak (cb (cU (v_ 4) dW (dU au)) (aY (ak (aP bP hr (ak (aF (v_ 4) au) (ak (v_ 2) (ak (v_ 3) av)))) av))) av)))))))
def zf:aM ["scene","room","values","within","row","late","bells"] Cr (aD wq):=fK
def FW(F:eY K "leave" "leave" wq f fd)(B:Bl mg)(bK:gU P w K mg base){iY:Tok}(gE:mg "NOBODY"=some (.int (-1) iY)):bJ P w K mg base eD 3 f fd Cr (eN ⟨K,mg⟩ 2 pQ):=by
 have nd:=zf.nd
 refine bD F zf fun cdv A outer s H E hr=> ?_
 exact(ax (fT (aF (aF (v_ 0) au) (v_ 1)) (dH rfl (aH (bT 2 nd) (aH (bT 3 nd) (aH (bT 4 nd) (aH (bT 5 nd) (aH (bT 6 nd) cI)))))))
  (ax (cQ (jR (v_ 5)) (aG (aQ (aP bK hr (ak (v_ 0) (ak (v_ 1) (ak (aY (ak (v_ 2) (ak (aF (v_ 5) au) (ak (v_ 4) (ak (cU (v_ 5) (dU au) dW) (ak (v_ 6) av)))))) av)))))) cf)
  (ax (cQ (jR (v_ 4)) (aG (aQ (aP bK hr (ak (v_ 0) (ak (v_ 1) (ak (aY (ak (v_ 2) (ak (aF (v_ 4) au) (ak (cU (v_ 4) (dU au) dW) (ak (v_ 5) (ak (v_ 6) av)))))) av)))))) cf)
  (aG (aQ (aP bK hr (ak (v_ 0) (ak (v_ 1) (ak (aY (ak (v_ 2) (ak (d0 (fG (v:=.int (-1)) rfl gE ⟨_,rfl⟩) fun _ _=>.int (-1)) (ak (v_ 4) (ak (v_ 5) (ak (v_ 6) av)))))) av)))))))))
def ud:aM ["world","scene","hand","row","room","bell","turn","line","ahead","waiting"] bX (aD pz):=fK
def Bj(F:eY K "by_wait" "by_wait" pz f fd)(B:Bl mg)(fe:pI P w K mg base)(bV:gN P w K mg base)(dE:lG P w K mg base)(mz:BS P w K mg base):bJ P w K mg base eD 10 f fd bX (eN ⟨K,mg⟩ 4 oZ):=by
 have nd:=ud.nd
 refine bD F ud fun cdv A outer s H E hr=> ?_
 exact(ax (fT (aP fe hr (ak (v_ 0) (ak (v_ 1) (ak (v_ 2) (ak (aF (v_ 3) au) av))))) (dH rfl (aH (bT 4 nd) (aH (bT 5 nd) cI))))
  (ax (bI 6 nd au)
  (ax (cQ (bM cV cY (aF (aF (aF (aF (aF (v_ 0) au) (v_ 4)) au) (v_ 5)) au) bH (aU _)) (aG (bI 6 nd (aP bV hr (ak (v_ 0) (ak (v_ 1) (ak (v_ 2) (ak (aF (v_ 3) au) av))))))) cf)
  (ax (bI 7 nd (aF (aF (aF (aF (v_ 1) au) (v_ 4)) au) (v_ 5)))
  (ax (bI 8 nd (gZ rfl B.len (kT (dw (N:= ["other","waiter","turn"]) (js:= [none,none,some 6]) (a9.gen rfl rfl rfl rfl rfl rfl) rfl (ed (ee (v_ 7))) (fun _ _ _ _=>(dH rfl (aH (fc 0) (aH (fc 1) cI)))) (fun _ _ _ _=>(zC (bM Ko KI (v_ 0) (v_ 2) (aU _)))) (fun _ _ _ _=>(v_ 0))))))
  (ax (bI 9 nd (aP dE hr (ak (v_ 1) (ak (v_ 4) (ak (v_ 5) (ak (cb (cb (cU (v_ 7) dW (dU (v_ 8))) (aY (ak (aY (ak (v_ 6) (ak (v_ 2) av))) av))) (cU (v_ 7) (dU (v_ 8)) dW)) av))))))
  (aG (aQ (aP mz hr (ak (v_ 9) (ak (v_ 4) av)))))))))))
def uC:aM ["world","scene","hand","row","room","bell","line","called","values","within","queue","late","bells"] bX (aD p5):=fK
def AB(F:eY K "by_call" "by_call" p5 f fd)(B:Bl mg)(fe:pI P w K mg base)(dE:lG P w K mg base)(bK:gU P w K mg base):bJ P w K mg base eD 4 f fd bX (eN ⟨K,mg⟩ 4 oH):=by
 have nd:=uC.nd
 refine bD F uC fun cdv A outer s H E hr=> ?_
 exact(ax (fT (aP fe hr (ak (v_ 0) (ak (v_ 1) (ak (v_ 2) (ak (aF (v_ 3) au) av))))) (dH rfl (aH (bT 4 nd) (aH (bT 5 nd) cI))))
  (ax (bI 6 nd (aF (aF (aF (aF (v_ 1) au) (v_ 4)) au) (v_ 5)))
  (ax (cQ (qT (jR (v_ 6))) (aG (aQ (v_ 1))) cf)
  (ax (bI 7 nd (aP dE hr (ak (v_ 1) (ak (v_ 4) (ak (v_ 5) (ak (cU (v_ 6) (dU au) dW) av))))))
  (ax (cQ (bM cV cY (aF (aF (aF (v_ 0) au) (v_ 4)) au) bH (aU _)) (aG (aQ (v_ 7))) cf)
  (ax (fT (aF (aF (v_ 7) au) (v_ 4)) (dH rfl (aH (bT 8 nd) (aH (bT 9 nd) (aH (bT 10 nd) (aH (bT 11 nd) (aH (bT 12 nd) cI)))))))
  (aG (aQ (aP bK hr (ak (v_ 7) (ak (v_ 4) (ak (aY (ak (v_ 8) (ak (aF (aF (v_ 6) au) au) (ak (v_ 10) (ak (cb (v_ 11) (aY (ak (v_ 2) av))) (ak (v_ 12) av)))))) av))))))))))))
end
section
variable{P:Program}{w:World}{K:PySem.W.Frag}{mg:Str->Option Value}{base:Heap}{f:Addr}{fd:FuncData}
def vV:aM ["world","scene","hand","row","room","bell"] bX (aD t9):=fK
def DF(F:eY K "by_all" "by_all" t9 f fd)(B:Bl mg)(fe:pI P w K mg base)(dE:lG P w K mg base):bJ P w K mg base eD 4 f fd bX (eN ⟨K,mg⟩ 4 r_):=by
 have nd:=vV.nd
 refine bD F vV fun cdv A outer s H E hr=> ?_
 exact(ax (fT (aP fe hr (ak (v_ 0) (ak (v_ 1) (ak (v_ 2) (ak (aF (v_ 3) au) av))))) (dH rfl (aH (bT 4 nd) (aH (bT 5 nd) cI))))
  (aG (aQ (aP dE hr (ak (v_ 1) (ak (v_ 4) (ak (v_ 5) (ak (aY av) av))))))))
def sG:aM ["world","scene","hand","row","told"] bX (aD qj):=fK
def Ar(F:eY K "by_tell" "by_tell" qj f fd)(B:Bl mg)(bV:gN P w K mg base)(c_:jh P w K mg base)(bc:eB P w K mg base):bJ P w K mg base eD 10 f fd bX (eN ⟨K,mg⟩ 4 n_):=by
 have nd:=sG.nd
 refine bD F sG fun cdv A outer s H E hr=> ?_
 exact(ax (bI 4 nd (aP bV hr (ak (v_ 0) (ak (v_ 1) (ak (v_ 2) (ak (aF (v_ 3) au) av))))))
  (aG (aQ (aP c_ hr (ak (v_ 1) (ak (v_ 2) (ak (cb (cU (aP bc hr (ak (v_ 1) (ak (v_ 2) av))) dW (dU au)) (aY (ak (v_ 4) av))) av)))))))
def xq:aM zh zh (aD k_):=fK
def xM(F:eY K "with_pass" "with_pass" k_ f fd)(B:Bl mg)(bP:gV P w K mg base):bJ P w K mg base eD 2 f fd zh (eN ⟨K,mg⟩ 3 fL):=by
 refine bD F xq fun cdv A outer s H E hr=> ?_
 exact(aG (aQ (cb (aY (ak (aF (v_ 0) au) (ak (aP bP hr (ak (aF (v_ 0) au) (ak (v_ 1) (ak (v_ 2) av)))) av))) (cU (v_ 0) (dU au) dW))))
def zB:aM ["world","scene","hand","name","place","value","row"] B1 (aD wU):=fK
def EO(F:eY K "taken" "taken" wU f fd)(B:Bl mg)(bW:iK P w K mg base)(er:qD P w K mg base):bJ P w K mg base eD 3 f fd B1 (eN ⟨K,mg⟩ 4 uG):=by
 have nd:=zB.nd
 refine bD F zB fun cdv A outer s H E hr=> ?_
 exact(ax (bI 4 nd (aP bW hr (ak (aF (v_ 0) au) (ak (v_ 3) av))))
  (ax (fT (aF (aF (v_ 1) au) (v_ 4)) (dH rfl (aH (bT 5 nd) (aH (bT 6 nd) cI))))
  (ax (cQ (bM Cd BR (v_ 5) au (aU _)) (aG (aQ (aP er hr (ak (v_ 1) (ak (v_ 4) (ak (aY (ak (uE (v_ 5) au) (ak (v_ 6) av))) av)))))) cf)
  (aG (aQ (aP er hr (ak (v_ 1) (ak (v_ 4) (ak (aY (ak (v_ 5) (ak (cb (v_ 6) (aY (ak (v_ 2) av))) av))) av)))))))))
def Bg:aM bX bX (aD pE):=fK
def Ak(F:eY K "by_take" "by_take" pE f fd)(B:Bl mg)(mi:BA P w K mg base):bJ P w K mg base eD 4 f fd bX (eN ⟨K,mg⟩ 4 oJ):=by
 refine bD F Bg fun cdv A outer s H E hr=> ?_
 exact(aG (aQ (aP mi hr (ak (v_ 0) (ak (v_ 1) (ak (v_ 2) (ak (aF (v_ 3) au) av)))))))
def mT:aM ["world","scene","name","place","value","row"] wX (aD ku):=fK
def uS(F:eY K "given_back" "given_back" ku f fd)(B:Bl mg)(bW:iK P w K mg base)(er:qD P w K mg base){jv:Tok}(iA:mg "HIGHEST"=some (.int (9) jv)):bJ P w K mg base eD 3 f fd wX (eN ⟨K,mg⟩ 3 gX):=by
 have nd:=mT.nd
 refine bD F mT fun cdv A outer s H E hr=> ?_
 exact(ax (bI 3 nd (aP bW hr (ak (aF (v_ 0) au) (ak (v_ 2) av))))
  (ax (fT (aF (aF (v_ 1) au) (v_ 3)) (dH rfl (aH (bT 4 nd) (aH (bT 5 nd) cI))))
  (ax (cQ (jR (v_ 5)) (aG (aQ (aP er hr (ak (v_ 1) (ak (v_ 3) (ak (aY (ak (v_ 4) (ak (cU (v_ 5) (dU au) dW) av))) av)))))) cf)
  (aG (aQ (aP er hr (ak (v_ 1) (ak (v_ 3) (ak (aY (ak (uI AY (eR (pY rfl) rfl B.min (by rfl) (ak (cb (v_ 4) au) (ak (d0 (fG (v:=.int (9)) rfl iA ⟨_,rfl⟩) fun _ _=>.int (9)) av)))) (ak (v_ 5) av))) av)))))))))
def AD:aM bX bX (aD pw):=fK
def AE(F:eY K "by_give" "by_give" pw f fd)(B:Bl mg)(fh:oS P w K mg base):bJ P w K mg base eD 4 f fd bX (eN ⟨K,mg⟩ 4 pq):=by
 refine bD F AD fun cdv A outer s H E hr=> ?_
 exact(aG (aQ (aP fh hr (ak (v_ 0) (ak (v_ 1) (ak (aF (v_ 3) au) av))))))
def Bn:aM bX bX (aD qg):=fK
def A1(F:eY K "by_pass" "by_pass" qg f fd)(B:Bl mg)(mi:BA P w K mg base)(fh:oS P w K mg base):bJ P w K mg base eD 4 f fd bX (eN ⟨K,mg⟩ 4 pe):=by
 refine bD F Bn fun cdv A outer s H E hr=> ?_
 exact(aG (aQ (aP mi hr (ak (v_ 0) (ak (aP fh hr (ak (v_ 0) (ak (v_ 1) (ak (aF (v_ 3) au) av)))) (ak (v_ 2) (ak (aF (v_ 3) au) av)))))))
def DI:aM bX bX (aD t8):=fK
def C1(F:eY K "by_say" "by_say" t8 f fd)(B:Bl mg):bJ P w K mg base eD 1 f fd bX (eN ⟨K,mg⟩ 4 se):=by
 refine bD F DI fun cdv A outer s H E hr=> ?_
 exact(aG (aQ (v_ 1)))
def qp:aM ["world","scene","hand","row","deed"] bX (aD nk):=fK
def yF(F:eY K "row_done" "row_done" nk f fd)(B:Bl mg)(tK:∀x F,tW.lookup x=some F->fB P w K mg base 10 x bX F)(qe:Co P w K mg "DONE_BY" mB):bJ P w K mg base eD 11 f fd bX (eN ⟨K,mg⟩ 4 jP):=by
 have nd:=qp.nd
 refine bD F qp fun cdv A outer s H E hr=> ?_
 exact(ax (bI 4 nd (Gw qe rfl (aF (v_ 3) au) (fun _ _=>rfl)))
  (aG (aQ (Hk tK (hr.mono (by decide)) rfl (by first|exact Or.inl rfl|exact Or.inr (Or.inl rfl)) (ak (v_ 0) (ak (v_ 1) (ak (v_ 2) (ak (v_ 3) av)))) (cu (cu (cu (cu iR))))))))
def qZ:aM ["world","scene","hand","values","frames","room","deed","row","given","told","outside","came_by"] eT (aD mX):=fK
def yh(F:eY K "end_deed" "end_deed" mX f fd)(B:Bl mg)(cK:jg P w K mg base)(mz:BS P w K mg base)(di:kq P w K mg base)(fU:qt P w K mg base):bJ P w K mg base eD 4 f fd eT (eN ⟨K,mg⟩ 3 jL):=by
 have nd:=qZ.nd
 refine bD F qZ fun cdv A outer s H E hr=> ?_
 exact(ax (fT (aF (aF (v_ 1) au) (v_ 2)) (dH rfl (aH (bT 3 nd) (aH (bT 4 nd) cI))))
  (ax (fT (aF (v_ 4) (qE au)) (dH rfl (aH (bT 5 nd) (aH (bT 6 nd) (aH (bT 7 nd) (aH (bT 8 nd) (aH (bT 9 nd) cI)))))))
  (ax (bI 10 nd (aP cK hr (ak (aP mz hr (ak (v_ 1) (ak (v_ 5) av))) (ak (v_ 2) (ak (v_ 3) (ak (cU (v_ 4) dW (dU (qE au))) av))))))
  (ax (bI 11 nd (aF (aP di hr (ak (v_ 0) (ak (v_ 2) (ak (aF (v_ 4) (qE au)) av)))) (uE (aF (aF (v_ 4) (qE au)) au) au)))
  (ax (cQ (bM JV JE (aF (v_ 11) au) yI (aU _)) (aG (aQ (v_ 10))) cf)
  (aG (aQ (aP fU hr (ak (v_ 0) (ak (v_ 10) (ak (v_ 2) (ak (aF (v_ 11) au) (ak (v_ 9) av)))))))))))))
def tH:aM ["world","scene","hand","frame","room","program","row","event"] eT (aD p6):=fK
def Ah(F:eY K "step_of" "step_of" p6 f fd)(B:Bl mg)(bc:eB P w K mg base)(iD:vm P w K mg base)(di:kq P w K mg base)(nL:AW P w K mg base)(bV:gN P w K mg base)(nP:A3 P w K mg base)(gB:tP P w K mg base){jD:Tok}(gD:mg "OWN"=some (.int (-1) jD)):bJ P w K mg base eD 12 f fd eT (eN ⟨K,mg⟩ 3 oz):=by
 have nd:=tH.nd
 refine bD F tH fun cdv A outer s H E hr=> ?_
 exact(ax (bI 3 nd (aP bc hr (ak (v_ 1) (ak (v_ 2) av))))
  (ax (bI 4 nd (aF (v_ 3) au))
  (ax (cQ (PW.pt (w_and (bM pd oO (v_ 4) (d0 (fG (v:=.int (-1)) rfl gD ⟨_,rfl⟩) fun _ _=>.int (-1)) (aU _)) (eQ (bM pd oO (aF (aF (aF (v_ 1) au) (v_ 4)) au) (v_ 2) (aU _))))) (aG (aQ (aY (ak (aP iD hr (ak (v_ 1) (ak (v_ 4) (ak (v_ 2) av)))) (ak yI av))))) cf)
  (ax (bI 5 nd (aP di hr (ak (v_ 0) (ak (v_ 2) (ak (v_ 3) av)))))
  (ax (cQ (bM cV cY (aF (v_ 3) au) (gZ rfl B.len (ee (v_ 5))) (aU _)) (aG (aQ (aY (ak (aP nL hr (ak (v_ 0) (ak (v_ 1) (ak (v_ 2) av)))) (ak yI av))))) cf)
  (ax (bI 6 nd (aF (v_ 5) (aF (v_ 3) au)))
  (ax (bI 7 nd yI)
  (ax (cQ (bM cV cY (aF (v_ 6) au) bH (aU _)) (aG (bI 7 nd (aY (ak (v_ 2) (ak (aP bV hr (ak (v_ 0) (ak (v_ 1) (ak (v_ 2) (ak (aF (v_ 6) au) av))))) av))))) cf)
  (aG (aQ (aY (ak (aP nP hr (ak (v_ 0) (ak (aP gB hr (ak (v_ 1) (ak (v_ 2) (ak (cb (aF (v_ 3) au) au) av)))) (ak (v_ 2) (ak (v_ 6) av))))) (ak (v_ 7) av)))))))))))))
def Av:aM eT eT (aD pL):=fK
def Am(F:eY K "stepped" "stepped" pL f fd)(B:Bl mg)(gL:sO P w K mg base)(pF:DB P w K mg base):bJ P w K mg base eD 13 f fd eT (eN ⟨K,mg⟩ 3 oB):=by
 refine bD F Av fun cdv A outer s H E hr=> ?_
 exact(ax (cQ (rT (v_ 2) (kT (jJ gL hr (ak (v_ 0) (ak (v_ 1) av))))) (aG GF) cf)
  (aG (aQ (aP pF hr (ak (v_ 0) (ak (v_ 1) (ak (v_ 2) av)))))))
def lN:aM ["_law_old","_law_new","_law_own_here","_law_some"] oM (aD jm):=fK
def tO(F:eY K "_law_is_row" "_law_is_row" jm f fd)(B:Bl mg):bJ P w K mg base eD 1 f fd oM (eN ⟨K,mg⟩ 3 fj):=by
 have nd:=lN.nd
 refine bD F lN fun cdv A outer s H E hr=> ?_
 exact(ax (bI 3 nd (cE (c8 (ak (v_ 0) (ak (cU (v_ 0) (dU au) dW) (ak (cb (v_ 0) (aY (ak (v_ 2) av))) (ak (cb (cU (v_ 0) (dU au) dW) (aY (ak (v_ 2) av))) av)))))))
  (aG (aQ (K0 hr (v_ 1) (ee (v_ 3))))))
def mU:aM ["_law_manner","_law_old","_law_values","_law_within","_law_row","_law_late","_law_bells","_law_found"] Gz (aD kc):=fK
def uM(F:eY K "_law_heirs" "_law_heirs" kc f fd)(B:Bl mg):bJ P w K mg base eD 1 f fd Gz (eN ⟨K,mg⟩ 2 gY):=by
 have nd:=mU.nd
 refine bD F mU fun cdv A outer s H E hr=> ?_
 exact(ax (fT (v_ 1) (dH rfl (aH (bT 2 nd) (aH (bT 3 nd) (aH (bT 4 nd) (aH (bT 5 nd) (aH (bT 6 nd) cI)))))))
  (ax (bI 7 nd (cE (c8 (ak (aF (cb (cb (v_ 5) (v_ 4)) (aY (ak (qE au) av))) au) av))))
  (ax (cQ (Ky hr (v_ 0) bH) (aG (df (lS (v_ 7) (kT (dw (N:= ["_law_bell"]) (js:= [none]) (a9.gen rfl rfl rfl rfl rfl rfl) rfl (ed (ee (v_ 6))) (fun _ _ _ _=>(fc 0)) (fun _ _ _ _=>(zC (BI hr (v_ 0) (aY av)))) (fun _ _ _ _=>(aF (aF (v_ 0) au) au))))))) cf)
  (aG (aQ (v_ 7))))))
end
section
variable{P:Program}{w:World}{K:PySem.W.Frag}{mg:Str->Option Value}{base:Heap}{f:Addr}{fd:FuncData}
def rf:aM oM oM (aD iO):=fK
def rH(F:eY K "_law_is_bell" "_law_is_bell" iO f fd)(B:Bl mg):bJ P w K mg base eD 1 f fd oM (eN ⟨K,mg⟩ 3 gS):=by
 refine bD F rf fun cdv A outer s H E hr=> ?_
 exact(ax (cQ (Lf hr (v_ 1) (ee (aY (ak (v_ 0) (ak (cU (v_ 0) (dU au) dW) (ak (aY av) av)))))) (aG (aQ sS)) cf)
  (aG (aQ (Ft (J3 hr (kT (dw (N:= ["_law_pair","_law_own_here"]) (js:= [none,some 2]) (a9.gen rfl rfl rfl rfl rfl rfl) rfl (ed (ee (v_ 1))) (fun _ _ _ _=>(fc 0)) (fun _ _ _ _=>(zC (BI hr (aF (v_ 0) au) (v_ 1)))) (fun _ _ _ _=>(v_ 0)))) (kT (Jk rfl B.list (ee (v_ 0))))) (EB (LU hr (gZ rfl B.len (ee (v_ 1))) (cb (gZ rfl B.len (ee (v_ 0))) au)))))))
def iZ:aM ["_law_manner","_law_old","_law_new","_law_own_here","_law_gone"] Hw (aD fZ):=fK
def nj(F:eY K "_law_room_right" "_law_room_right" fZ f fd)(B:Bl mg)(dR:mK P w K mg base)(iS:t7 P w K mg base)(jW:xA P w K mg base):bJ P w K mg base eD 2 f fd Hw (eN ⟨K,mg⟩ 4 eZ):=by
 have nd:=iZ.nd
 refine bD F iZ fun cdv A outer s H E hr=> ?_
 exact(ax (cQ (PW.pt (w_or (qT (jR (aP dR hr (ak (aF (v_ 1) au) (ak (aF (v_ 2) au) (ak (v_ 3) av)))))) (FN (qT (jR (aP dR hr (ak (aF (v_ 1) au) (ak (aF (v_ 2) au) (ak (v_ 3) av))))))))) (aG (aQ sS)) cf)
  (ax (cQ (qT (jR (Ec rfl rfl B.all (kT (dw (N:=Ic) (js:= [none,none,some 3]) (a9.gen rfl rfl rfl rfl rfl rfl) rfl (D1 rfl B.zip (ee (aF (v_ 1) au)) (ee (aF (v_ 2) au))) (fun _ _ _ _=>(dH rfl (aH (fc 0) (aH (fc 1) cI)))) (fun _ _ _ _=>fD) (fun _ _ _ _=>(aP iS hr (ak (v_ 0) (ak (v_ 1) (ak (v_ 2) av)))))))))) (aG (aQ sS)) cf)
  (ax (cQ (PW.pt (w_and (bM pd oO (aF (v_ 1) au) (v_ 3) (aU _)) (w_and (bM pd oO (aF (v_ 2) au) (aF (v_ 1) au) (aU _)) (eQ (PW.pt (w_or (bM HQ Ii (aF (v_ 1) au) au (aU _)) (FN (bM pd oO (aF (v_ 2) au) (v_ 3) (aU _))))))))) (aG (aQ sS)) cf)
  (ax (cQ (PW.pt (w_and (bM cV cY (aF (v_ 1) au) (v_ 3) (aU _)) (w_and (bM pd oO (aF (v_ 2) au) (v_ 3) (aU _)) (eQ (rT (aF (v_ 2) au) (kT (jJ jW hr (ak (v_ 0) (ak (v_ 1) av))))))))) (aG (aQ sS)) cf)
  (ax (Eh (n:=4) (N:=HK) (js:= [none,some 2]) (a9.gen rfl rfl rfl rfl rfl rfl) rfl (ed (ee (cb (aF (v_ 1) au) (aF (v_ 1) au)))) (fun _ _ _ _=>(fc 0)) (fun _ _ _ _=>(zC (rT (v_ 0) (ee (cb (aF (v_ 1) au) (aF (v_ 1) au)))))) (fun _ _ _ _=>(v_ 0)) (JJ 4 nd))
  (aG (aQ (Ec rfl rfl B.all (kT (dw (N:=HK) (js:= [none,some 2]) (a9.gen rfl rfl rfl rfl rfl rfl) rfl (ed (ee (v_ 4))) (fun _ _ _ _=>(fc 0)) (fun _ _ _ _=>fD) (fun _ _ _ _=>(oT cV cY (aF (v_ 1) au) (v_ 0) (aU _)))))))))))))
def mH:aM ["_law_world_here","_law_old","_law_new","_law_own_here","_law_room_here","_law_one","_law_other","_law_hand"] BN (aD j9):=fK
def uL(F:eY K "_law_right" "_law_right" j9 f fd)(B:Bl mg)(fY:nZ P w K mg base)(dR:mK P w K mg base):bJ P w K mg base eD 3 f fd BN (eN ⟨K,mg⟩ 4 ja):=by
 have nd:=mH.nd
 refine bD F mH fun cdv A outer s H E hr=> ?_
 exact(ax (jt PassesOwn.never rfl (Iz rfl B.zip (ee (aF (v_ 0) au)) (ee (aF (v_ 1) au)) (ee (aF (v_ 2) au))) (dH rfl (aH (bT 4 nd) (aH (bT 5 nd) (aH (bT 6 nd) cI)))) (aG (cQ (qT (jR (aP fY hr (ak (aF (v_ 4) au) (ak (v_ 5) (ak (v_ 6) (ak (v_ 3) av))))))) (aG (aQ sS)) cf)))
  (ax (cQ (qT (jR (Ec rfl rfl B.all (kT (dw (N:=Ic) (js:= [none,none,some 3]) (a9.gen rfl rfl rfl rfl rfl rfl) rfl (D1 rfl B.zip (ee (aF (v_ 1) au)) (ee (aF (v_ 2) au))) (fun _ _ _ _=>(dH rfl (aH (fc 0) (aH (fc 1) cI)))) (fun _ _ _ _=>fD) (fun _ _ _ _=>(aP dR hr (ak (aF (v_ 0) au) (ak (aF (v_ 1) au) (ak (v_ 2) av)))))))))) (aG (aQ sS)) cf)
  (ax (jt PassesOwn.never rfl (lJ rfl B.range (gZ rfl B.len (ee (aF (v_ 0) au)))) (bT 7 nd) (aG (cQ (PW.pt (w_and (BI hr (v_ 7) (v_ 3)) (eQ (BI hr (aF (aF (v_ 1) au) (v_ 7)) (aF (aF (v_ 2) au) (v_ 7)))))) (aG (aQ sS)) cf)))
  (aG (aQ sS)))))
def Fp:aM ["_law_script","_law_k","_law_pot_here","_law_world_here","_law_scene","_law_last","_law_turn","_law_some","_law_behind"] Fb (aD pj):=fK
def Jd(F:eY K "law" "law" pj f fd)(B:Bl mg)(nQ:AX P w K mg base)(gP:qf P w K mg base)(wI:HH P w K mg base)(gL:sO P w K mg base)(lj:yL P w K mg base)(qi:Dw P w K mg base)(kb:wD P w K mg base):bJ P w K mg base eD 14 f fd Fb (eN ⟨K,mg⟩ 1 HG):=by
 have nd:=Fp.nd
 refine bD F Fp fun cdv A outer s H E hr=> ?_
 have hu:=hr.units0
 exact(ax (jt PassesOwn.never rfl (lJ rfl B.range (uI F4 (eR (vN rfl) rfl B.max (by rfl) (ak au (ak (uI AY (eR (pY rfl) rfl B.min (by rfl) (ak (gZ rfl B.len (ee (v_ 0))) (ak au av)))) av))))) (bT 1 nd) (ax (bI 2 nd (cE (jJ nQ hr (ak (v_ 0) (ak (v_ 1) av)))))
  (ax (bI 3 nd (aP gP hr (ak (v_ 2) av)))
  (ax (bI 4 nd (aP wI hr (ak (v_ 3) av)))
  (ax (bI 5 nd (qE au))
  (aG (jt PassesOwn.never rfl (lJ rfl B.range au) (bT 6 nd) (ax (bI 7 nd (cE (jJ gL hr (ak (v_ 3) (ak (v_ 4) av)))))
  (aG (cQ (fF hu (ee (v_ 7))) (ax (bI 5 nd (aP lj hr (ak (v_ 2) (ak (v_ 7) (ak (v_ 5) av)))))
  (ax (bI 8 nd (aF (aP qi hr (ak (v_ 3) (ak (v_ 4) (ak (v_ 5) av)))) au))
  (ax (cQ (qT (jR (aP kb hr (ak (v_ 3) (ak (v_ 4) (ak (v_ 8) (ak (v_ 5) av))))))) (aG (aQ sS)) cf)
  (aG (bI 4 nd (v_ 8)))))) cf))))))))))
  (aG (aQ sS)))
end
def all_mk{l:PySem.W.OpenLaw}{w:World}{K:PySem.W.Frag}{h:Heap}{mg:Str->Option Value}{fa f1 f2 f3 f4 f5 f6 f7 f8 f9 f10 f11 f12 f13 f14 f15 f16 f17 f18 f19 f20 f21 f22 f23 f24 f25 f26 f27 f28 f29 f30 f31 f32 f33 f34 f35 f36 f37 f38 f39 f40 f41 f42 f43 f44 f45 f46 f47 f48 f49 f50 f51 f52 f53 f54 f55 f56 f57 f58 f59 f60 f61 f62 f63:Addr}(X:K.In h)(G:h.Ns mainGlobals mg)(hfa:mg "law"=some (.ref fa))
  (d1:bx K "_law_pot" m7 f1)
  (d2:bx K "_law_take" k0 f2)
  (d3:bx K "_law_words" kH f3)
  (d4:bx K "_law_pick" lZ f4)
  (d5:bx K "_law_sum" nB f5)
  (d6:bx K "_law_waits" kB f6)
  (d7:bx K "_law_do" pJ f7)
  (d8:bx K "_law_deed" lY f8)
  (d9:bx K "_law_room" lH f9)
  (d10:bx K "_law_rooms" kh f10)
  (d11:bx K "_law_own" nz f11)
  (d12:bx K "_law_world" kj f12)
  (d13:bx K "_law_any_world" gI f13)
  (d14:bx K "values_of" lP f14)
  (d15:bx K "begun_room" kn f15)
  (d16:bx K "begun" xJ f16)
  (d17:bx K "hands_at" nI f17)
  (d18:bx K "hands_in_rows" h_ f18)
  (d19:bx K "last_frame" kI f19)
  (d20:bx K "program_of" kD f20)
  (d21:bx K "is_behind_all" g_ f21)
  (d22:bx K "may_step" nV f22)
  (d23:bx K "_law_next" kU f23)
  (d24:bx K "names_of" m9 f24)
  (d25:bx K "place_of" nN f25)
  (d26:bx K "with_part" lD f26)
  (d27:bx K "with_hand" lL f27)
  (d28:bx K "with_room" lR f28)
  (d29:bx K "put_thing" lI f29)
  (d30:bx K "value_of_two" i0 f30)
  (d31:bx K "value_of" nO f31)
  (d32:bx K "reckoned" m5 f32)
  (d33:bx K "by_put" sr f33)
  (d34:bx K "with_last_frame" gu f34)
  (d35:bx K "at_row" uv f35)
  (d36:bx K "by_unless" lK f36)
  (d37:bx K "by_go" wC f37)
  (d38:bx K "come_in" p9 f38)
  (d39:bx K "by_do" xN f39)
  (d40:bx K "bell_of" pS f40)
  (d41:bx K "with_line" kZ f41)
  (d42:bx K "leave" wq f42)
  (d43:bx K "by_wait" pz f43)
  (d44:bx K "by_call" p5 f44)
  (d45:bx K "by_all" t9 f45)
  (d46:bx K "by_tell" qj f46)
  (d47:bx K "with_pass" k_ f47)
  (d48:bx K "taken" wU f48)
  (d49:bx K "by_take" pE f49)
  (d50:bx K "given_back" ku f50)
  (d51:bx K "by_give" pw f51)
  (d52:bx K "by_pass" qg f52)
  (d53:bx K "by_say" t8 f53)
  (d54:bx K "row_done" nk f54)
  (d55:bx K "end_deed" mX f55)
  (d56:bx K "step_of" p6 f56)
  (d57:bx K "stepped" pL f57)
  (d58:bx K "_law_is_row" jm f58)
  (d59:bx K "_law_heirs" kc f59)
  (d60:bx K "_law_is_bell" iO f60)
  (d61:bx K "_law_room_right" fZ f61)
  (d62:bx K "_law_right" j9 f62)
  {oc kV dc pm cd ct:Value} {od an:Option Addr} {sl:Array (Option Value)} (a63:PySem.W.nsIn K mainGlobals "law"=some (some (.ref f63))) (l63:K.lookup f63=some ⟨oc,od,.func (PySem.W.fnOf "law" "law" (iu pj) (gk pj) (aD pj) .none kV dc pm an cd ct),sl⟩) (c63:PySem.W.codeIn K cd "law"=true) (k63:PySem.W.keepIn K (.ref f63)=true)
  {iY:Tok} (DW:PySem.W.nsIn K mainGlobals "NOBODY"=some (some (.int (-1) iY)))
  {jD:Tok} (Lu:PySem.W.nsIn K mainGlobals "OWN"=some (some (.int (-1) jD)))
  {jv:Tok} (CF:PySem.W.nsIn K mainGlobals "HIGHEST"=some (some (.int (9) jv)))
  {vU AC:Nat} {wo wR xv w9 xa xt xo xc wJ ya uU uT:Tok} (DC:PySem.W.nsIn K mainGlobals "DONE_BY"=some (some (.ref vU))) (Ad:K.lookup vU=some ⟨.type "dict",none,.dict (List.toArray [⟨PyData.keyHash w.params "put",.str "put" wo,.ref f33⟩,⟨PyData.keyHash w.params "unless",.str "unless" wR,.ref f36⟩,⟨PyData.keyHash w.params "go",.str "go" xv,.ref f37⟩,⟨PyData.keyHash w.params "do",.str "do" w9,.ref f39⟩,⟨PyData.keyHash w.params "wait",.str "wait" xa,.ref f43⟩,⟨PyData.keyHash w.params "call",.str "call" xt,.ref f44⟩,⟨PyData.keyHash w.params "all",.str "all" xo,.ref f45⟩,⟨PyData.keyHash w.params "tell",.str "tell" xc,.ref f46⟩,⟨PyData.keyHash w.params "take",.str "take" wJ,.ref f49⟩,⟨PyData.keyHash w.params "give",.str "give" ya,.ref f51⟩,⟨PyData.keyHash w.params "pass",.str "pass" uU,.ref f52⟩,⟨PyData.keyHash w.params "say",.str "say" uT,.ref f53⟩]) AC,#[]⟩)
  (Lc:PySem.W.nsIn K mainGlobals "len"=some none) (GH:PySem.W.nsIn K mainGlobals "tuple"=some none) (IS:PySem.W.nsIn K mainGlobals "list"=some none) (Ip:PySem.W.nsIn K mainGlobals "dict"=some none) (KB:PySem.W.nsIn K mainGlobals "set"=some none) (LB:PySem.W.nsIn K mainGlobals "int"=some none) (Ly:PySem.W.nsIn K mainGlobals "str"=some none) (Jq:PySem.W.nsIn K mainGlobals "bool"=some none) (KL:PySem.W.nsIn K mainGlobals "all"=some none) (LR:PySem.W.nsIn K mainGlobals "any"=some none) (Hl:PySem.W.nsIn K mainGlobals "range"=some none) (Lm:PySem.W.nsIn K mainGlobals "zip"=some none) (E5:PySem.W.nsIn K mainGlobals "sorted"=some none) (xV:PySem.W.nsIn K mainGlobals "isinstance"=some none) (LA:PySem.W.nsIn K mainGlobals "min"=some none) (Kp:PySem.W.nsIn K mainGlobals "max"=some none) (K6:PySem.W.nsIn K mainGlobals "abs"=some none) (yt:PySem.W.nsIn K mainGlobals "enumerate"=some none)
  (T:∀ns:List Int,ns.length<=63->∃S',HG [.ref 0] [.frz (ns.map D.int)]=some (.d (.bl true),S')):
  ∃fd:FuncData,(∀(s:Shared) (v:Value),BindsTo s fd ⟨[v],[]⟩ [("_law_script",v)])/\∀base:Heap,K.In base->base.Ns mainGlobals mg->bJ l.prog w K mg base eD 14 fa fd Fb z_:=by
 have e:=hfa.symm.trans (PySem.W.mg_of X G a63)
 cases e
 have F63:=AV (st:=pj) l63 c63 k63
 have O1:=d1.ok1 (ps:=Ca) X G
 have O2:=d2.ok1 (ps:=Cz) X G
 have O3:=d3.ok1 (ps:=BW) X G
 have O4:=d4.ok1 (ps:=zx) X G
 have O5:=d5.ok1 (ps:=vK) X G
 have O6:=d6.ok1 (ps:=BH) X G
 have O7:=d7.ok1 (ps:=B8) X G
 have O8:=d8.ok1 (ps:=BZ) X G
 have O9:=d9.ok1 (ps:=CA) X G
 have O10:=d10.ok1 (ps:=Ce) X G
 have O11:=d11.ok1 (ps:=BE) X G
 have O12:=d12.ok1 (ps:=Bz) X G
 have O13:=d13.ok1 (ps:=Cw) X G
 have O14:=d14.ok1 (ps:=zm) X G
 have O15:=d15.ok1 (ps:=yH) X G
 have O16:=d16.ok1 (ps:=xl) X G
 have O17:=d17.ok1 (ps:=ze) X G
 have O18:=d18.ok1 (ps:=BC) X G
 have O19:=d19.ok1 (ps:=yQ) X G
 have O20:=d20.ok1 (ps:=Cp) X G
 have O21:=d21.ok1 (ps:=eT) X G
 have O22:=d22.ok1 (ps:=wc) X G
 have O23:=d23.ok1 (ps:=y_) X G
 have O24:=d24.ok1 (ps:=zg) X G
 have O25:=d25.ok1 (ps:=zI) X G
 have O26:=d26.ok1 (ps:=zM) X G
 have O27:=d27.ok1 (ps:=zo) X G
 have O28:=d28.ok1 (ps:=yX) X G
 have O29:=d29.ok1 (ps:=yc) X G
 have O30:=d30.ok1 (ps:=zO) X G
 have O31:=d31.ok1 (ps:=vX) X G
 have O32:=d32.ok1 (ps:=BP) X G
 have O33:=d33.ok1 (ps:=bX) X G
 have O34:=d34.ok1 (ps:=B5) X G
 have O35:=d35.ok1 (ps:=BX) X G
 have O36:=d36.ok1 (ps:=bX) X G
 have O37:=d37.ok1 (ps:=bX) X G
 have O38:=d38.ok1 (ps:=CC) X G
 have O39:=d39.ok1 (ps:=bX) X G
 have O40:=d40.ok1 (ps:=wy) X G
 have O41:=d41.ok1 (ps:=Ck) X G
 have O42:=d42.ok1 (ps:=Cr) X G
 have O43:=d43.ok1 (ps:=bX) X G
 have O44:=d44.ok1 (ps:=bX) X G
 have O45:=d45.ok1 (ps:=bX) X G
 have O46:=d46.ok1 (ps:=bX) X G
 have O47:=d47.ok1 (ps:=zh) X G
 have O48:=d48.ok1 (ps:=B1) X G
 have O49:=d49.ok1 (ps:=bX) X G
 have O50:=d50.ok1 (ps:=wX) X G
 have O51:=d51.ok1 (ps:=bX) X G
 have O52:=d52.ok1 (ps:=bX) X G
 have O53:=d53.ok1 (ps:=bX) X G
 have O54:=d54.ok1 (ps:=bX) X G
 have O55:=d55.ok1 (ps:=eT) X G
 have O56:=d56.ok1 (ps:=eT) X G
 have O57:=d57.ok1 (ps:=eT) X G
 have O58:=d58.ok1 (ps:=oM) X G
 have O59:=d59.ok1 (ps:=Gz) X G
 have O60:=d60.ok1 (ps:=oM) X G
 have O61:=d61.ok1 (ps:=Hw) X G
 have O62:=d62.ok1 (ps:=BN) X G
 have gE:=PySem.W.mg_of X G DW
 have gD:=PySem.W.mg_of X G Lu
 have iA:=PySem.W.mg_of X G CF
 have qe:Co l.prog w K mg "DONE_BY" mB:=EW (PySem.W.mg_of X G DC) Ad (.cons O33.m (.cons O36.m (.cons O37.m (.cons O39.m (.cons O43.m (.cons O44.m (.cons O45.m (.cons O46.m (.cons O49.m (.cons O51.m (.cons O52.m (.cons O53.m .nil)))))))))))) (by decide +kernel)
 have B:Bl mg:=⟨QFq X G Lc,QFq X G GH,QFq X G IS,QFq X G Ip,QFq X G KB,QFq X G LB,QFq X G Ly,QFq X G Jq,QFq X G KL,QFq X G LR,QFq X G Hl,QFq X G Lm,QFq X G E5,QFq X G xV,QFq X G LA,QFq X G Kp,QFq X G K6,QFq X G yt⟩
 refine⟨PySem.W.fnOf "law" "law" (iu pj) (gk pj) (aD pj) .none kV dc pm an cd ct,fun s v=>.of_eq rfl,fun base _ _=> ?_⟩
 have Z:Pk l.prog w base:=⟨⟩
 have nQ:=O1.cal Z fun _ F _ _ _=>zv F B
 have aB:=O2.cal Z fun _ F _ _ _=>xB F B
 have cn:=O3.cal Z fun _ F _ _ _=>u6 F B aB
 have aV:=O4.cal Z fun _ F _ _ _=>wY F B aB
 have bE:=O5.cal Z fun _ F b k m=>qX F B aB aV b k m 4
 have j3:=O6.cal Z fun _ F _ _ _=>u4 F B bE aB aV
 have iB:=O7.cal Z fun _ F _ _ _=>Ae F B aV bE
 have lB:=O8.cal Z fun _ F _ _ _=>x8 F B aB j3 aV iB bE
 have kX:=O9.cal Z fun _ F _ _ _=>wN F B aV cn aB lB
 have jX:=O10.cal Z fun _ F _ _ _=>uJ F B cn aB kX
 have nK:=O11.cal Z fun _ F _ _ _=>zL F B aB iB aV bE
 have kf:=O12.cal Z fun _ F _ _ _=>uN F B cn aB nK
 have gP:=O13.cal Z fun _ F _ _ _=>pk F B jX aB kf
 have eP:=O14.cal Z fun _ F _ _ _=>w_ F B
 have km:=O15.cal Z fun _ F _ _ _=>u7 F B eP gE
 have wI:=O16.cal Z fun _ F _ _ _=>Fl F B eP km gD
 have nJ:=O17.cal Z fun _ F _ _ _=>zA F B
 have hV:=O18.cal Z fun _ F _ _ _=>qh F B nJ
 have bc:=O19.cal Z fun _ F _ _ _=>uR F B
 have di:=O20.cal Z fun _ F _ _ _=>uX F B gD
 have hJ:=O21.cal Z fun _ F _ _ _=>pU F B bc di gD
 have gL:=O22.cal Z fun _ F _ _ _=>zF F B hV hJ
 have lj:=O23.cal Z fun _ F _ _ _=>xu F B aB aV
 have de:=O24.cal Z fun _ F _ _ _=>yx F B
 have bW:=O25.cal Z fun _ F _ _ _=>yg F B de
 have bP:=O26.cal Z fun _ F _ _ _=>xY F B
 have cK:=O27.cal Z fun _ F _ _ _=>wu F B bP
 have bK:=O28.cal Z fun _ F _ _ _=>xj F B bP
 have fU:=O29.cal Z fun _ F _ _ _=>wW F B bc bW bP bK de cK gD
 have gh:=O30.cal Z fun _ F _ _ _=>rB F B iA
 have fQ:=O31.cal Z fun _ F b k m=>qP F B gh b k m 6
 have bV:=O32.cal Z fun _ F _ _ _=>yE F B bc de fQ gD
 have FT:=O33.cal Z fun _ F _ _ _=>C7 F B fU bV
 have c_:=O34.cal Z fun _ F _ _ _=>mZ F B cK
 have gB:=O35.cal Z fun _ F _ _ _=>CK F B bc c_
 have yC:=O36.cal Z fun _ F _ _ _=>xU F B bV gB
 have GJ:=O37.cal Z fun _ F _ _ _=>D6 F B gB
 have iD:=O38.cal Z fun _ F _ _ _=>AL F B bK gE
 have Gg:=O39.cal Z fun _ F _ _ _=>FB F B bW bV iD cK
 have fe:=O40.cal Z fun _ F _ _ _=>Au F B bc bW
 have dE:=O41.cal Z fun _ F _ _ _=>yd F B bK bP
 have mz:=O42.cal Z fun _ F _ _ _=>FW F B bK gE
 have CN:=O43.cal Z fun _ F _ _ _=>Bj F B fe bV dE mz
 have Du:=O44.cal Z fun _ F _ _ _=>AB F B fe dE bK
 have Em:=O45.cal Z fun _ F _ _ _=>DF F B fe dE
 have DG:=O46.cal Z fun _ F _ _ _=>Ar F B bV c_ bc
 have er:=O47.cal Z fun _ F _ _ _=>xM F B bP
 have mi:=O48.cal Z fun _ F _ _ _=>EO F B bW er
 have Df:=O49.cal Z fun _ F _ _ _=>Ak F B mi
 have fh:=O50.cal Z fun _ F _ _ _=>uS F B bW er iA
 have C2:=O51.cal Z fun _ F _ _ _=>AE F B fh
 have Dv:=O52.cal Z fun _ F _ _ _=>A1 F B mi fh
 have D3:=O53.cal Z fun _ F _ _ _=>C1 F B
 have tK:∀x F,tW.lookup x=some F->fB l.prog w K mg base 10 x bX F:=by
  refine EE fun p hp=> ?_
  simp only[tW,Qsq,QXq,or_false] at hp
  rcases hp with rfl|rfl|rfl|rfl|rfl|rfl|rfl|rfl|rfl|rfl|rfl|rfl
  ·exact FT.mono (by decide)
  ·exact yC.mono (by decide)
  ·exact GJ.mono (by decide)
  ·exact Gg.mono (by decide)
  ·exact CN.mono (by decide)
  ·exact Du.mono (by decide)
  ·exact Em.mono (by decide)
  ·exact DG.mono (by decide)
  ·exact Df.mono (by decide)
  ·exact C2.mono (by decide)
  ·exact Dv.mono (by decide)
  ·exact D3.mono (by decide)
 have nP:=O54.cal Z fun _ F _ _ _=>yF F B tK qe
 have nL:=O55.cal Z fun _ F _ _ _=>yh F B cK mz di fU
 have pF:=O56.cal Z fun _ F _ _ _=>Ah F B bc iD di nL bV nP gB gD
 have qi:=O57.cal Z fun _ F _ _ _=>Am F B gL pF
 have dR:=O58.cal Z fun _ F _ _ _=>tO F B
 have jW:=O59.cal Z fun _ F _ _ _=>uM F B
 have iS:=O60.cal Z fun _ F _ _ _=>rH F B
 have fY:=O61.cal Z fun _ F _ _ _=>nj F B dR iS jW
 have kb:=O62.cal Z fun _ F _ _ _=>uL F B fY dR
 exact Gv (Jd F63 B nQ gP wI gL lj qi kb) T
end W28
namespace DL
open PySem PySem.Spec L2
def uq{Γ:dh}{S:aK}{Q:Bool->aK->Prop}(q:Q true S):E cW Γ S Q:=⟨_,_,rfl,q⟩
section
variable{S:aK}
def LM{i j:Int}{Q:D->Prop}(q:Q (.int (i+j))):Op (cm S (.int i) (.int j)) Q:=⟨_,rfl,q⟩
def JH{i j:Str}{Q:D->Prop}(h:i.length+j.length<=sizeLine)(q:Q (.str (i++j))):Op (cm S (.str i) (.str j)) Q:=⟨_,by simp only[cm];rw[Qhq h],q⟩
def dv{i j:List D}{Q:D->Prop}(h:i.length+j.length<=sizeLine)(q:Q (.tup (i++j))):Op (cm S (.tup i) (.tup j)) Q:=⟨_,by simp only[cm];rw[Qhq h],q⟩
def JA{k:Int->Int->D}{i j:Int}{Q:D->Prop}(q:Q (k i j)):Op (intD (fun _ _=>True) k S (.int i) (.int j)) Q:=⟨_,by simp only[intD,if_true],q⟩
def sU{i j:Int}{Q:D->Prop}(h:0<j)(q:Q (.int (i%j))):Op (rE S (.int i) (.int j)) Q:=⟨_,by simp only[rE,intD];rw[Qhq h],q⟩
def EJ{i j:Int}{Q:D->Prop}(h:Ew i j)(q:Q (.int (i/j))):Op (yq S (.int i) (.int j)) Q:=⟨_,by simp only[yq,intD];rw[Qhq h],q⟩
def vy{i j:Int}{Q:D->Prop}(h:Hv i j)(q:Q (.int (i*j))):Op (nT S (.int i) (.int j)) Q:=⟨_,by simp only[nT,intD];rw[Qhq h.ok],q⟩
def ay{ds:List D}{i:Int}{d:D}{Q:D->Prop}(h:kL ds i=some d)(q:Q d):Op (aW S (.tup ds) (.int i)) Q:=⟨_,h,q⟩
def fW{k:Nat}{ds:List D}{i:Int}{d:D}{Q:D->Prop}(hS:S[k]?=some (.lst ds))(h:kL ds i=some d)(q:Q d):Op (aW S (.ref k) (.int i)) Q:=⟨_,by simp only[aW,hS];exact h,q⟩
def eK{ds:List D}{Q:List D×Tag->Prop}(q:Q (ds,.tu)):Op (t5 S (.tup ds)) Q:=⟨_,rfl,q⟩
def cv{k:Nat}{ds:List D}{Q:List D×Tag->Prop}(hS:S[k]?=some (.lst ds))(q:Q (ds,.st k)):Op (t5 S (.ref k)) Q:=⟨_,by simp only[t5,hS],q⟩
def LN{α:Type}{o:Option α}{d:α}{Q:α->Prop}(h:o=some d)(q:Q d):Op o Q:=⟨d,h,q⟩
end
def bf{b:Bool}{p q:Prop}(h1:b=true->p)(h2:b=false->q):if b=true then p else q:=by
 cases b with
 |true=>exact h1 rfl
 |false=>exact h2 rfl
end DL
local macro_rules|`(tactic|symm)=>`(tactic|repeat(first|with_reducible refine DL.cy ?_|with_reducible refine DL.f_ ?_|with_reducible refine DL.qW ?_|with_reducible refine DL.Mi ?_|with_reducible refine DL.zK ?_|with_reducible refine DL.Na ?_|with_reducible refine DL.jn ?_|with_reducible refine DL.cN ?_|with_reducible refine DL.M3 ?_|with_reducible refine DL.nH ?_|with_reducible refine DL.DT ?_|((with_reducible refine DL.cG (d := ?_) ?_ ?_); rotate_left; rfl)|with_reducible refine DL.jo ?_|with_reducible refine DL.tJ ?_|with_reducible refine DL.yu ?_|with_reducible refine DL.GB ?_|with_reducible refine DL.HU ?_|with_reducible refine DL.Mq ?_|with_reducible refine DL.i_ ?_|with_reducible refine DL.Aw ?_|with_reducible refine DL.Ij ?_|with_reducible refine DL.Jc ?_|with_reducible refine DL.Kj ?_|with_reducible refine DL.BM ?_|with_reducible refine DL.Mx ?_|with_reducible refine DL.L4 ?_|with_reducible refine DL.gf ?_|with_reducible refine DL.DV ?_|with_reducible refine DL.FY ?_|with_reducible refine DL.xH ?_|with_reducible refine DL.M_ ?_|with_reducible refine DL.M5 ?_|with_reducible refine DL.uq ?_|with_reducible refine DL.bB ?_|with_reducible refine DL.Nr ?_|with_reducible refine DL.Fx ?_|with_reducible refine DL.rK ?_|with_reducible refine DL.LM ?_|with_reducible refine DL.JA ?_|with_reducible refine DL.eK ?_|dsimp only))
local macro_rules|`(tactic|apply $e)=>`(tactic|(refine $e;symm))
namespace W28
open PySem PySem.Spec L2 DL
def oV(a b c:Int):O:=.lst [.int a,.int b,.int c]
def Di{S:aK}{k:Nat}{a b c0 m:Int}{Q:Res->aK->Prop}(hS:S[k]?=some (oV a b c0))(m0:0<m)(m1:m<1000000)
  (h:∀(d a' b' c':Int),0<=d->d<m->Q (.d (.int d)) (S.set k (oV a' b' c'))):Fn aJ [.ref k,.int m] S Q:=by
 have hk:k<S.length:=(gQs.mp hS).1
 have tk:∀(o:O),(S.set k o).take S.length=S.set k o:=fun o=>by rw[List.take_of_length_le];simp
 refine cp ?_
 unfold sI
 symm
 refine fW hS rfl ?_
 symm
 refine bf (fun c=> ?_) (fun c=> ?_)
 ·symm
  refine fW hS rfl ?_
  symm
  refine sU m0 ?_
  symm
  refine fW hS rfl ?_
  symm
  refine EJ ⟨m0,by omega⟩ ?_
  symm
  refine⟨_,_,_,_,rfl,rfl,hS,rfl,?_⟩
  symm
  refine iE (vG (by rfl)) (tk _) (fun _ z=>by cases z) rfl ?_
  exact h _ _ _ _ (Int.emod_nonneg _ (by omega)) (Int.emod_lt_of_pos _ m0)
 ·symm
  refine⟨_,_,_,_,rfl,rfl,hS,by decide,rfl,?_⟩
  symm
  refine⟨_,_,_,rfl,hS,rfl,?_⟩
  have s1:∀o:O,(S.set k o)[k]?=some o:=fun o=>by rw[Qyq hk]
  symm
  refine fW (s1 _) rfl ?_
  symm
  refine vy (.inr ⟨by decide,by decide⟩) ?_
  symm
  refine fW (s1 _) rfl ?_
  refine vy (.inl ⟨by decide,by decide⟩) ?_
  symm
  refine sU (by decide) ?_
  generalize hmx:(b*69069+9973*_+5)%2305843009213693921=mx
  have b0:0<=mx:=by rw[←hmx];exact Int.emod_nonneg _ (by decide)
  have b1:mx<2305843009213693921:=by rw[←hmx];exact Int.emod_lt_of_pos _ (by decide)
  symm
  refine sU (by decide) ?_
  symm
  refine fW (s1 _) rfl ?_
  refine vy (.inl ⟨by decide,by decide⟩) ?_
  symm
  refine vy (.inl ⟨by omega,by omega⟩) ?_
  symm
  refine sU (by decide) ?_
  symm
  refine⟨_,_,_,_,rfl,rfl,s1 _,rfl,?_⟩
  symm
  refine fW (by rw[List.set_set];exact s1 _) rfl ?_
  symm
  refine EJ ⟨by decide,by decide⟩ ?_
  symm
  refine sU m0 ?_
  symm
  rw[List.set_set]
  refine iE (vG (by rfl)) (tk _) (fun _ z=>by cases z) rfl ?_
  exact h _ _ _ _ (Int.emod_nonneg _ (by omega)) (Int.emod_lt_of_pos _ m0)
structure Ex(k:Nat)(S S':aK):Prop where
 len:S.length<=S'.length
 keep:∀(j:Nat) (o:O),j≠k->S[j]?=some o->S'[j]?=some o
 pot:∃a b c,S'[k]?=some (oV a b c)
def Ex.refl{k:Nat}{S:aK}{a b c:Int}(h:S[k]?=some (oV a b c)):Ex k S S:=⟨Qmq _,fun _ _ _ h=>h,_,_,_,h⟩
def Ex.trans{k:Nat}{S S1 S2:aK}(x:Ex k S S1)(y:Ex k S1 S2):Ex k S S2:=⟨QAq x.len y.len,fun j o n h=>y.keep j o n (x.keep j o n h),y.pot⟩
def Ex.set{k:Nat}{S S1:aK}{a b c:Int}(x:Ex k S S1):Ex k S (S1.set k (oV a b c)):=by
 obtain⟨_,_,_,h⟩:=x.pot
 refine⟨by simpa using x.len,fun j o n h=> ?_,a,b,c,Qyq (gQs.mp h).1⟩
 rw[QKq (Ne.symm n)]
 exact x.keep j o n h
def Ex.app{k:Nat}{S S1 G:aK}(x:Ex k S S1):Ex k S (S1++G):=by
 obtain⟨a,b,c,h⟩:=x.pot
 refine⟨by rw[lQa];have:=x.len;omega,fun j o n h=> ?_,a,b,c,?_⟩
 ·have:=x.keep j o n h
  rw[QHq (gQs.mp this).1]
  exact this
 ·rw[QHq (gQs.mp h).1]
  exact h
def Ex.put{k r:Nat}{S S1:aK}{o:O}(x:Ex k S S1)(hr:S.length<=r)(hk:k<S.length):Ex k S (S1.set r o):=by
 obtain⟨a,b,c,h⟩:=x.pot
 refine⟨by simpa using x.len,fun j o' n h=> ?_,a,b,c,?_⟩
 ·have hj:=(gQs.mp h).1
  rw[QKq (by omega)]
  exact x.keep j o' n h
 ·rw[QKq (by omega)]
  exact h
def Ex.lt{k:Nat}{S S1:aK}(x:Ex k S S1):k<S1.length:=by
 obtain⟨a,b,c,h⟩:=x.pot
 exact(gQs.mp h).1
def bh{S G:aK}{j:Nat}{o:O}(h:S[j]?=some o):(S++G)[j]?=some o:=by
 rw[QHq (gQs.mp h).1]
 exact h
def aX{S:aK}{o:O}:(S++ [o])[S.length]?=some o:=by simp
def fu{S:aK}{k j:Nat}{o o':O}(n:j≠k)(h:S[j]?=some o):(S.set k o')[j]?=some o:=by
 rw[QKq (Ne.symm n)]
 exact h
def cX{S:aK}{j:Nat}{o o':O}(h:S[j]?=some o):(S.set j o')[j]?=some o':=Qyq (gQs.mp h).1
def Ex.clean{k:Nat}{S S':aK}(x:Ex k S S')(hk:k<S.length):oK S S'/\∃a b c,S'.take S.length=S.set k (oV a b c):=by
 obtain⟨a,b,c,h⟩:=x.pot
 have key:∀j,j<S.length->S'[j]?=(S.set k (oV a b c))[j]? :=fun j hj=>by
  by_cases e:j=k
  ·subst e
   rw[h,Qyq hj]
  ·rw[QKq (Ne.symm e),x.keep j _ e (gQe hj),gQe hj]
 refine⟨⟨x.len,fun j o hj e=> ?_⟩,a,b,c,?_⟩
 ·by_cases e':j=k
  ·subst e'
   rw[h] at e
   cases e
   exact .inr rfl
  ·rw[x.keep j _ e' (gQe hj)] at e
   rw[gQe hj]
   exact .inl e
 ·apply List.ext_getElem?
  intro j
  by_cases hj:j<S.length
  ·rw[List.getElem?_take_of_lt hj]
   exact key j hj
  ·rw[List.getElem?_eq_none (by rw[Qxq];omega),List.getElem?_eq_none (by simp;omega)]
def lA{k:Nat}{S S':aK}{d:D}{Q:Res->aK->Prop}(x:Ex k S S')(hk:k<S.length)(hd:∀k,d≠.ref k)(hl:cB S.length d=true)(q:∀a b c,Q (.d d) (S.set k (oV a b c))):Op (settle S d S') fun p=>Q p.1 p.2:=by
 obtain⟨hc,a,b,c,ht⟩:=x.clean hk
 exact iE hc ht hd hl (q a b c)
def Ik{k:Nat}{S S':aK}{ds:List D}{Q:Res->aK->Prop}(x:Ex k S S')(hk:k<S.length)(hl:cc S.length ds=true)(q:∀a b c,Q (.l ds) (S.set k (oV a b c))):Op (dJ S ds S') fun p=>Q p.1 p.2:=by
 obtain⟨hc,a,b,c,ht⟩:=x.clean hk
 exact ni hc ht hl (q a b c)
def bU{S S0:aK}{k:Nat}{m:Int}{Q:Res->aK->Prop}(x:Ex k S0 S)(m0:0<m)(m1:m<1000000)
  (h:∀(d:Nat) (S':aK),(d:Int)<m->Ex k S0 S'->Ex k S S'->S'.length=S.length->Q (.d (.int d)) S'):Fn aJ [.ref k,.int m] S Q:=by
 obtain⟨a,b,c,hS⟩:=x.pot
 refine Di hS m0 m1 fun d a' b' c' h0 h1=> ?_
 obtain⟨n,rfl⟩:∃n:Nat,d=n:=⟨d.toNat,by omega⟩
 exact h n _ h1 x.set (Ex.refl hS).set (by simp)
def bp{α:Type}{xs:List α}{j:Nat}{x:α}(h:xs[j]?=some x):kL xs (j:Int)=some x:=by
 have hj:=(gQs.mp h).1
 unfold kL CD
 rw[Qhq (by omega),Qhq (by omega)]
 simpa using h
def fg{S S0:aK}{k i:Nat}{xs:List D}{Q:Res->aK->Prop}(x:Ex k S0 S)(hi:i≠k)(hS:S[i]?=some (.lst xs))(h0:0<xs.length)(h1:xs.length<1000)(hl:∀d∈xs,(∀k,d≠.ref k)/\cB 0 d=true)
  (hlow:∀d∈xs,cB S.length d=true)
  (h:∀(d:D) (S':aK),d∈xs->Ex k S0 S'->Ex k S S'->S'.length=S.length->Q (.d d) S'):Fn bQ [.ref k,.ref i] S Q:=by
 have y:Ex k S S:=by obtain⟨a,b,c,hh⟩:=x.pot;exact Ex.refl hh
 refine cp ?_
 unfold uc
 symm
 apply cv hS ?_
 refine bU y (by show(0:Int)<xs.length;omega) (by show(xs.length:Int)<1000000;omega) fun d S' hd e1 e2 hl2=> ?_
 dsimp only
 have hd':d<xs.length:=by have:(d:Int)<(xs.length:Int):=hd;omega
 refine fW (e1.keep _ _ hi hS) (bp (gQe hd')) ?_
 have hm:=List.getElem_mem hd'
 refine lA e1 x.lt (hl _ hm).1 (hlow _ hm) fun a b c=> ?_
 exact h _ _ hm x.set y.set (by simp)
end W28
namespace DL
open PySem PySem.Spec L2
mutual
theorem dG{m:Nat}:∀{d:D},cB 0 d=true->cB m d=true
 |.non,_=>rfl
 |.bl _,_=>rfl
 |.int _,_=>rfl
 |.str _,_=>rfl
 |.tup ds,h=>by simp only[cB] at h⊢;exact jG h
 |.ref k,h=>by simp[cB] at h
 |.fn _,_=>rfl
theorem jG{m:Nat}:∀{ds:List D},cc 0 ds=true->cc m ds=true
 | [],_=>rfl
 | d::ds,h=>by
   simp only[cc,QCq] at h⊢
   exact⟨dG h.1,jG h.2⟩
end
theorem xp{m:Nat}:∀{ds:List D},(∀d∈ds,cB m d=true)->cc m ds=true
 | [],_=>rfl
 | d::ds,h=>by
   simp only[cc,QCq]
   exact⟨h d (QBq ..),xp fun e he=>h e (Qpq _ he)⟩
def bg{α:Type}{m:Nat}{f:α->D}{l:List α}(h:∀a∈l,cB m (f a)=true):cc m (l.map f)=true:=xp fun d hd=>by
 obtain⟨a,ha,rfl⟩:=Qkq.mp hd
 exact h a ha
theorem v8:∀ss:List Str,vk (ss.map D.str)=some ss
 | []=>rfl
 |s::ss=>by simp only[QDq,vk];rw[v8 ss];rfl
def IB{Γ:dh}{S:aK}{f:eJ}{Q:List D->aK->Prop}(h:E f Γ S fun p S1=>p.2.isL=true/\∃ss:List Str,p.1=ss.map D.str/\ss.length<64/\Q ((pH ss).map D.str) S1):E (Cv f) Γ S Q:=by
 obtain⟨p,S1,e1,l,ss,h1,h2,q⟩:=h
 exact⟨_,S1,by unfold Cv;rw[e1];simp only[Qbq];rw[Qhq l,h1,v8];simp only[Qbq];rw[Qhq h2],q⟩
end DL
namespace W28
open PySem PySem.Spec L2 DL
def six:List Str:= ["a","b","c","d","e","zz"]
theorem p8{α β:Type}(g:α->β):∀(l:List α) (k:Nat),(l.map g).eraseIdx k=(l.eraseIdx k).map g
 | [],_=>rfl
 |_::_,0=>rfl
 |x::l,k+1=>congrArg (g x::·) (p8 g l k)
def yB{α:Type}{acc left all:List α}{j:Nat}(hj:j<left.length)(h:(acc++left).Perm all):((acc++ [left[j]])++left.eraseIdx j).Perm all:=by
 refine List.Perm.trans ?_ h
 rw[Qvq]
 refine List.Perm.append_left acc ?_
 show(left[j]::left.eraseIdx j).Perm left
 rw[List.eraseIdx_eq_take_drop_succ]
 have e:left=left.take j++left[j]::left.drop (j+1):=by rw[←QWq hj,List.take_append_drop]
 refine List.Perm.trans ?_ (List.Perm.of_eq e.symm)
 exact List.perm_middle.symm
def HP{n j:Nat}(h:j<n)(h2:n<1000):seqIndex? (j:Int) n=some j:=(wg (by unfold CD;rw[Qhq (by omega),Qhq (by omega)];simp)).1
def iT{S S0:aK}{k:Nat}{stem:Str}{many:Int}{Q:Res->aK->Prop}(x:Ex k S0 S)(hm:0<=many)(hm6:many<=6)(hst:stem.length<=1)
  (h:∀(ws:List Str) (S':aK),(∃l,(ws++l).Perm (six.map (stem++·)))->(ws.length:Int)=many->Ex k S0 S'->Ex k S S'->S'.length=S.length->Q (.l (ws.map D.str)) S'):Fn dj [.ref k,.str stem,.int many] S Q:=by
 have y:Ex k S S:=by obtain⟨a,b,c,hh⟩:=x.pot;exact Ex.refl hh
 refine cp ?_
 unfold qS
 symm
 apply l_ ?_
 refine⟨by decide,⟨fun n Γ' S' acc=>Γ'= [Γ'.getD 0 none,some (.str stem)]/\S'=S/\acc=((six.take n).map (stem++·)).map D.str,⟨rfl,rfl,rfl⟩,fun n Γ' S' acc h=>trivial,fun n d Γ' S' acc hd ⟨hΓ,hS,hacc⟩=> ?_,fun Γ' S' acc ⟨_,hS,hacc⟩=> ?_⟩⟩
 ·have hS:=hS.symm
  subst hS hacc
  obtain⟨o,rfl⟩:∃o,Γ'= [o,some (.str stem)]:=⟨_,hΓ⟩
  have hd':∃z,six[n]?=some z/\d=.str z:=by
   rcases n with _|_|_|_|_|_|n <;>first|(cases hd;exact⟨_,rfl,rfl⟩)|(simp at hd)
  obtain⟨z,hz,rfl⟩:=hd'
  have hzl:z.length<=2:=by
   have:=mQg hz
   simp only[six,Qsq,QXq,or_false] at this
   rcases this with rfl|rfl|rfl|rfl|rfl|rfl <;>decide
  symm
  rw[Qhq rfl]
  symm
  refine JH (QAq (show stem.length+z.length<=3 by omega) (by decide)) ?_
  have hn:n<6:=(gQs.mp hz).1
  refine⟨?_,rfl,rfl,?_⟩
  ·simp only[lQm,Qxq]
   exact Nat.lt_of_le_of_lt (Nat.min_le_left _ _) (Nat.lt_trans hn (by decide))
  ·rw[QYq,hz]
   simp
 ·have hS:=hS.symm
  subst hS hacc
  symm
  apply IB ?_
  apply l_ ?_
  refine⟨many,rfl,⟨by omega,by omega⟩,fun n Γ' S2 acc=>∃(ac lf:List Str),Γ'= [Γ'.getD 0 none,some (.ref k),some (.ref S.length)]/\Ex k S S2/\S2.length=S.length+1/\S2[S.length]?=some (.lst (lf.map D.str))/\acc=ac.map D.str/\ac.length=n/\(ac++lf).Perm (six.map (stem++·)),?_,fun _ _ _ _ _=>trivial,?_,?_⟩
  ·refine⟨[],six.map (stem++·),rfl,y.app,by simp,?_,rfl,rfl,List.Perm.refl _⟩
   exact aX
  ·rintro n d Γ' S2 acc hd ⟨ac,lf,hΓ,e2,hl2,hr,rfl,hn,hp⟩
   obtain⟨o,rfl⟩:∃o,Γ'= [o,some (.ref k),some (.ref S.length)]:=⟨_,hΓ⟩
   have hlen:=hp.length_eq
   simp only[lQa,lQm] at hlen
   have h6:six.length=6:=rfl
   have hn6:n<6:=by
    have:=(gQs.mp hd).1
    simp only[kS,lQm,QVq] at this
    omega
   have hlf:0<lf.length:=by omega
   symm
   rw[Qhq rfl]
   apply kQ ?_
   apply⟨_,_,rfl,hr,?_⟩
   apply cv hr ?_
   refine bU e2 (by simp only[lQm];omega) (by simp only[lQm];omega) fun j S3 hj e3 e3' hl3=> ?_
   dsimp only
   symm
   have hj':j<lf.length:=by simpa using hj
   have hne:S.length≠k:=by have:=x.lt;omega
   have hr3:=e3'.keep _ _ hne hr
   refine⟨_,hr3,?_⟩
   refine LN (d:=((lf.map D.str).eraseIdx j,D.str lf[j])) ?_ ?_
   ·simp only[m_]
    rw[Qhq ⟨by omega,by omega⟩,lQm,HP hj' (by omega)]
    simp[gQe hj']
   ·refine⟨?_,ac++ [lf[j]],lf.eraseIdx j,rfl,e3.put (Qmq _) x.lt,by simp[hl3,hl2],?_,by simp,by simp[hn],yB hj' hp⟩
    ·simp only[lQm]
     exact Nat.lt_trans (show ac.length<6 by omega) (by decide)
    ·rw[cX hr3,p8]
  ·rintro Γ' S2 acc ⟨ac,lf,hΓ,e2,hl2,hr,rfl,hn,hp⟩
   have hlen:=hp.length_eq
   simp only[lQa,lQm] at hlen
   have h6:six.length=6:=rfl
   refine⟨rfl,ac,rfl,by omega,?_⟩
   refine Ik e2 x.lt (bg fun _ _=>rfl) fun a b c=> ?_
   refine h _ _ ⟨lf,(QJq lf (i6 ac)).trans hp⟩ ?_ x.set y.set (by simp)
   rw[(i6 ac).length_eq,hn]
   simp only[kS,lQm,QVq]
   omega
end W28
namespace DL
open PySem PySem.Spec L2
def B0{Γ:dh}{S:aK}{f g:eJ}{Q:List D->aK->Prop}(h:E f Γ S fun p S1=>E g Γ S1 fun r S2=>(p.2.isM=true/\r.2.isM=true/\p.2.stays S2 p.1/\p.1.length+r.1.length<=sizeLine)/\Q (p.1++r.1) S2):E (AQ f g) Γ S Q:=by
 obtain⟨p,S1,e1,r,S2,e2,l,q⟩:=h
 exact⟨_,S2,by unfold AQ;rw[e1];simp only[Qbq];rw[e2];simp only[Qbq];rw[Qhq l],q⟩
def eU{S:aK}{i j:Int}{Q:D->Prop}(q:Q (.bl (decide (i=j)))):Op (e_ false S (.int i) (.int j)) Q:=⟨_,by simp[e_,wz,AO],q⟩
def jc{S:aK}{i j:Str}{Q:D->Prop}(q:Q (.bl (decide (i=j)))):Op (e_ false S (.str i) (.str j)) Q:=⟨_,by simp[e_,wz,AO],q⟩
def gF{Γ:dh}{S:aK}{n:Nat}{g:rh}{ds:List D}{Q:dh->aK->Prop}(hn:ds.length=n)(h:L0 g ds Γ S Q):Tg (mr (nG n g)) (.tup ds) Γ S Q:=by
 obtain⟨Γ',S',e,q⟩:=h
 exact⟨Γ',S',by show nG n g ds Γ S=_;unfold nG;rw[Qhq hn];exact e,q⟩
def bZ{Γ:dh}{S:aK}{Q:dh->aK->Prop}(q:Q Γ S):L0 fw [] Γ S Q:=⟨_,_,rfl,q⟩
def aC{Γ:dh}{S:aK}{f:nW}{g:rh}{d:D}{ds:List D}{Q:dh->aK->Prop}(h:Tg f d Γ S fun Γ1 S1=>L0 g ds Γ1 S1 Q):L0 (aS f g) (d::ds) Γ S Q:=by
 obtain⟨Γ1,S1,e1,Γ2,S2,e2,q⟩:=h
 exact⟨Γ2,S2,by show(f d Γ S).bind _=_;rw[e1];exact e2,q⟩
end DL
namespace W28
open PySem PySem.Spec L2 DL
def ops:List Str:= ["plus","minus","less","same","both"]
inductive Tr where
 |num (n:Nat)|word (x:Str)|waits (b:Str)|no (t:Tr)|two (o:Str) (a b:Tr)
def Tr.d:Tr->D
 |.num n=>.int n
 |.word x=>.str x
 |.waits b=>.tup [.str "waits",.str b]
 |.no t=>.tup [.str "not",t.d]
 |.two o a b=>.tup [.str o,a.d,b.d]
def Tr.Ok(ws bs:List Str):Tr->Prop
 |.num n=>n<=9
 |.word x=>x∈ws
 |.waits b=>b∈bs
 |.no t=>t.Ok ws bs
 |.two o a b=>o∈ops/\a.Ok ws bs/\b.Ok ws bs
def Tr.dep:Tr->Nat
 |.num _=>1
 |.word _=>1
 |.waits _=>1
 |.no t=>t.dep+1
 |.two _ a b=>max a.dep b.dep+1
theorem Tr.low:∀t:Tr,cB 0 t.d=true
 |.num _=>rfl
 |.word _=>rfl
 |.waits _=>rfl
 |.no t=>by simp only[Tr.d,cB,cc];rw[t.low];rfl
 |.two _ a b=>by simp only[Tr.d,cB,cc];rw[a.low,b.low];rfl
def Tr.noref(t:Tr):∀k,t.d≠.ref k:=by
 intro k
 cases t <;>simp[Tr.d]
def eC{ws:List Str}:∀d∈ws.map D.str,(∀k,d≠.ref k)/\cB 0 d=true:=fun d hd=>by
 obtain⟨a,_,rfl⟩:=Qkq.mp hd
 exact⟨fun k z=>(nomatch z),rfl⟩
def gC{ws:List Str}{m:Nat}:∀d∈ws.map D.str,cB m d=true:=fun d hd=>by
 obtain⟨a,_,rfl⟩:=Qkq.mp hd
 rfl
def Jr{n:Nat}(h:(n:Int)<5):∃o,o∈ops/\kL ([.str "plus",.str "minus",.str "less",.str "same",.str "both"]:List D) (n:Int)=some (.str o):=by
 rcases n with _|_|_|_|_|n
 ·exact⟨"plus",by simp[ops],rfl⟩
 ·exact⟨"minus",by simp[ops],rfl⟩
 ·exact⟨"less",by simp[ops],rfl⟩
 ·exact⟨"same",by simp[ops],rfl⟩
 ·exact⟨"both",by simp[ops],rfl⟩
 ·omega
theorem jk:∀(n:Nat) {S S0:aK} {k i j:Nat} {ws bs:List Str} {deep:Nat} {Q:Res->aK->Prop} (x:Ex k S0 S) (hi:i≠k) (hj:j≠k) (hw:S[i]?=some (.lst (ws.map D.str))) (hb:S[j]?=some (.lst (bs.map D.str))) (lw:ws.length<1000) (lb:bs.length<1000) (hn:deep<n)
  (h:∀(t:Tr) (S':aK),t.Ok ws bs->t.dep<=deep+1->Ex k S0 S'->Ex k S S'->S'.length=S.length->Q (.d t.d) S'),Fn (bF n) [.ref k,.ref i,.ref j,.int deep] S Q
 |0,_,_,_,_,_,_,_,_,_,_,_,_,_,_,_,_,hn,_=>absurd hn (Nat.not_lt_zero _)
 | n+1,S,S0,k,i,j,ws,bs,deep,Q,x,hi,hj,hw,hb,lw,lb,hn,h=>by
   have y:Ex k S S:=by obtain⟨a,b,c,hh⟩:=x.pot;exact Ex.refl hh
   have fin:∀(t:Tr) (S':aK),t.Ok ws bs->t.dep<=deep+1->Ex k S S'->Op (settle S t.d S') fun p=>Q p.1 p.2:=fun t S' h1 h2 e=>lA e x.lt t.noref (dG t.low) fun a b c=>h _ _ h1 h2 x.set y.set (by simp)
   refine cp ?_
   unfold vE
   symm
   apply bU y (by decide) (by decide) fun way S1 hway e1 _ l1=> ?_
   have hw1:=e1.keep _ _ hi hw
   have hb1:=e1.keep _ _ hj hb
   have bare:∀S2,Ex k S S2->T (aL (fE (fV (aN (ef (bu (aq 1)))) (aN (aE Kn (aA aJ (ao (aq 0) (ao (cF (.int 3)) aw))) (cF (.int 0))))) (cP (aA bQ (ao (aq 0) (ao (aq 1) aw)))) g7)
     (cP (aA aJ (ao (aq 0) (ao (aE aW (cM (cg (ao (cF (.int 3)) (ao (cF (.int 10)) aw)))) (yz intOfD (ao (aE (e_ false) (aA aJ (ao (aq 0) (ao (cF (.int 5)) aw))) (cF (.int 0))) aw))) aw)))))
     [some (.ref k),some (.ref i),some (.ref j),some (.int deep),some (.int way),none] S2 fun o=>match o with|.rt d S'=>Op (settle S d S') fun p=>Q p.1 p.2|_=>False:=by
     intro S2 e2
     have hw2:=e2.keep _ _ hi hw
     have plain:∀S3,Ex k S S3->T (cP (aA aJ (ao (aq 0) (ao (aE aW (cM (cg (ao (cF (.int 3)) (ao (cF (.int 10)) aw)))) (yz intOfD (ao (aE (e_ false) (aA aJ (ao (aq 0) (ao (cF (.int 5)) aw))) (cF (.int 0))) aw))) aw))))
       [some (.ref k),some (.ref i),some (.ref j),some (.int deep),some (.int way),none] S3 fun o=>match o with|.rt d S'=>Op (settle S d S') fun p=>Q p.1 p.2|_=>False:=by
       intro S3 e3
       symm
       apply⟨by decide,?_⟩
       apply bU (e3.app (G:= [O.lst [D.int 3,D.int 10]])) (by decide) (by decide) fun d S4 hd e4 e4' l4=> ?_
       apply eU ?_
       have hnew:S4[S3.length]?=some (.lst [.int 3,.int 10]):=e4'.keep _ _ (by have:=e3.lt;omega) aX
       have hm:∃m:Int,(m=3\/m=10)/\Op (intOfD [D.bl (decide ((d:Int)=0))]) (fun z=>∃r,z=.int r/\kL ([.int 3,.int 10]:List D) r=some (.int m)):=by
         by_cases c:(d:Int)=0
         · exact⟨10,.inr rfl,_,rfl,1,by rw[Qeq c];rfl,rfl⟩
         · exact⟨3,.inl rfl,_,rfl,0,by rw[Qdq c];rfl,rfl⟩
       obtain⟨m,hm,z,e5,r,rfl,e6⟩:=hm
       refine⟨_,e5,?_⟩
       apply fW hnew e6 ?_
       refine bU e4 (by omega) (by omega) fun v S5 hv e5 _ l5=> ?_
       dsimp only
       exact fin (.num v) _ (by show v<=9;omega) (by show 1<=deep+1;omega) e5
     symm
     refine cv hw2 ?_
     refine⟨⟨rfl,hw2⟩,?_⟩
     dsimp only
     refine bf (fun c=> ?_) (fun c=> ?_)
     · symm
       apply bU e2 (by decide) (by decide) fun d S3 hd e3 _ l3=> ?_
       refine bf (fun c2=> ?_) (fun c2=> ?_)
       · symm
         have hne:0<(ws.map D.str).length:=by
           cases ws with
           |nil=>simp at c
           |cons a b=>simp
         refine fg e3 hi (e3.keep _ _ hi hw) hne (by simpa using lw) eC gC fun v S4 hv e4 _ l4=> ?_
         obtain⟨z,hz,rfl⟩:=Qkq.mp hv
         exact fin (.word z) _ hz (by show 1<=deep+1;omega) e4
       · exact cN (plain S3 e3)
     · rw[Quq (by decide)]
       exact cN (plain S2 e2)
   have go:∀{R:Res->aK->Prop} {S2:aK},Ex k S S2->1<=deep->(∀(t:Tr) (S':aK),t.Ok ws bs->t.dep<=deep->Ex k S S'->R (.d t.d) S')->Fn (bF n) [.ref k,.ref i,.ref j,.int ((deep:Int)-1)] S2 R:=by
     intro R S2 e2 hd hR
     have e:((deep:Int)-1)=((deep-1:Nat):Int):=by omega
     rw[e]
     exact jk n e2 hi hj (e2.keep _ _ hi hw) (e2.keep _ _ hj hb) lw lb (by omega) fun t S' h1 h2 h3 _ _=>hR t S' h1 (by omega) h3
   have rest:∀S2,Ex k S S2->1<=deep->T (aL (fE (fV (aN (aE (e_ false) (aq 4) (cF (.int 3)))) (aN (ef (bu (aq 2))))) (cP (bA (ao (cF (.str "waits")) (ao (aA bQ (ao (aq 0) (ao (aq 2) aw))) aw)))) g7)
     (aL (fE (aN (aE (e_ false) (aq 4) (cF (.int 4)))) (cP (bA (ao (cF (.str "not")) (ao (aA (bF n) (ao (aq 0) (ao (aq 1) (ao (aq 2) (ao (aE mC (aq 3) (cF (.int 1))) aw))))) aw)))) g7)
     (aL (bt 5 (aE aW (cM (cg (ao (cF (.str "plus")) (ao (cF (.str "minus")) (ao (cF (.str "less")) (ao (cF (.str "same")) (ao (cF (.str "both")) aw))))))) (aA aJ (ao (aq 0) (ao (cF (.int 5)) aw)))))
     (cP (bA (ao (aq 5) (ao (aA (bF n) (ao (aq 0) (ao (aq 1) (ao (aq 2) (ao (aE mC (aq 3) (cF (.int 1))) aw))))) (ao (aA (bF n) (ao (aq 0) (ao (aq 1) (ao (aq 2) (ao (aE mC (aq 3) (cF (.int 1))) aw))))) aw))))))))
     [some (.ref k),some (.ref i),some (.ref j),some (.int deep),some (.int way),none] S2 fun o=>match o with|.rt d S'=>Op (settle S d S') fun p=>Q p.1 p.2|_=>False:=by
     intro S2 e2 hd1
     have hb2:=e2.keep _ _ hj hb
     have third:T (aL (bt 5 (aE aW (cM (cg (ao (cF (.str "plus")) (ao (cF (.str "minus")) (ao (cF (.str "less")) (ao (cF (.str "same")) (ao (cF (.str "both")) aw))))))) (aA aJ (ao (aq 0) (ao (cF (.int 5)) aw)))))
       (cP (bA (ao (aq 5) (ao (aA (bF n) (ao (aq 0) (ao (aq 1) (ao (aq 2) (ao (aE mC (aq 3) (cF (.int 1))) aw))))) (ao (aA (bF n) (ao (aq 0) (ao (aq 1) (ao (aq 2) (ao (aE mC (aq 3) (cF (.int 1))) aw))))) aw))))))
       [some (.ref k),some (.ref i),some (.ref j),some (.int deep),some (.int way),none] S2 fun o=>match o with|.rt d S'=>Op (settle S d S') fun p=>Q p.1 p.2|_=>False:=by
       symm
       apply⟨by decide,?_⟩
       refine bU (e2.app (G:= [O.lst [.str "plus",.str "minus",.str "less",.str "same",.str "both"]])) (by decide) (by decide) fun d S4 hd e4 e4' l4=> ?_
       dsimp only
       obtain⟨o,ho,e5⟩:=Jr hd
       refine fW (e4'.keep _ _ (by have:=e2.lt;omega) aX) e5 ?_
       symm
       apply go e4 hd1 fun t1 S5 h1 h2 e5=> ?_
       apply go e5 hd1 fun t2 S6 h3 h4 e6=> ?_
       refine⟨by show 3<=_;decide,?_⟩
       exact fin (.two o t1 t2) _ ⟨ho,h1,h3⟩ (by simp only[Tr.dep];omega) e6
     have second:T (aL (fE (aN (aE (e_ false) (aq 4) (cF (.int 4)))) (cP (bA (ao (cF (.str "not")) (ao (aA (bF n) (ao (aq 0) (ao (aq 1) (ao (aq 2) (ao (aE mC (aq 3) (cF (.int 1))) aw))))) aw)))) g7)
       (aL (bt 5 (aE aW (cM (cg (ao (cF (.str "plus")) (ao (cF (.str "minus")) (ao (cF (.str "less")) (ao (cF (.str "same")) (ao (cF (.str "both")) aw))))))) (aA aJ (ao (aq 0) (ao (cF (.int 5)) aw)))))
       (cP (bA (ao (aq 5) (ao (aA (bF n) (ao (aq 0) (ao (aq 1) (ao (aq 2) (ao (aE mC (aq 3) (cF (.int 1))) aw))))) (ao (aA (bF n) (ao (aq 0) (ao (aq 1) (ao (aq 2) (ao (aE mC (aq 3) (cF (.int 1))) aw))))) aw)))))))
       [some (.ref k),some (.ref i),some (.ref j),some (.int deep),some (.int way),none] S2 fun o=>match o with|.rt d S'=>Op (settle S d S') fun p=>Q p.1 p.2|_=>False:=by
       symm
       refine eU ?_
       dsimp only
       refine bf (fun c=> ?_) (fun c=> ?_)
       · symm
         apply go e2 hd1 fun t S5 h1 h2 e5=> ?_
         refine⟨by show 2<=_;decide,?_⟩
         exact fin (.no t) _ h1 (by simp only[Tr.dep];omega) e5
       · exact cN third
     symm
     refine eU ?_
     dsimp only
     refine bf (fun c=> ?_) (fun c=> ?_)
     · symm
       refine cv hb2 ?_
       refine⟨⟨rfl,hb2⟩,?_⟩
       dsimp only
       refine bf (fun c=> ?_) (fun c=> ?_)
       · symm
         have hne:0<(bs.map D.str).length:=by
           cases bs with
           |nil=>simp at c
           |cons a b=>simp
         refine fg e2 hj hb2 hne (by simpa using lb) eC gC fun v S4 hv e4 _ l4=> ?_
         obtain⟨z,hz,rfl⟩:=Qkq.mp hv
         symm
         refine⟨by show 2<=_;decide,?_⟩
         exact fin (.waits z) _ hz (by show 1<=deep+1;omega) e4
       · exact cN second
     · rw[Quq (by decide)]
       exact cN second
   refine bf (fun c=> ?_) (fun c=> ?_)
   · rw[Qhq rfl]
     exact(bare S1 e1).mono fun o ho=>by
       cases o with
       |rt d S'=>exact ho
       |_=>exact ho.elim
   · symm
     refine bf (fun c2=> ?_) (fun c2=> ?_)
     · exact(bare S1 e1).mono fun o ho=>by
         cases o with
         |rt d S'=>exact ho
         |_=>exact ho.elim
     · have hd1:1<=deep:=by
         have:=of_decide_eq_false c
         omega
       refine cN ?_
       exact(rest S1 e1 hd1).mono fun o ho=>by
         cases o with
         |rt d S'=>exact ho
         |_=>exact ho.elim
inductive Rw where
 |put (x:Str) (t:Tr)|unl (t:Tr) (n:Nat)|go (n:Nat)|do_ (g:Option Str) (r d:Str) (t:Tr)|wait (b:Str) (t:Tr)|call (b:Str)|all (b:Str)|tell (t:Tr)
 |take (p:Str)|give (p:Str)|pass (p q:Str)|say (t:Tr)
def Hg:Option Str->D
 |none=>.non
 |some x=>.str x
def Rw.d:Rw->D
 |.put x t=>.tup [.str "put",.str x,t.d]
 |.unl t n=>.tup [.str "unless",t.d,.int n]
 |.go n=>.tup [.str "go",.int n]
 |.do_ g r d t=>.tup [.str "do",Hg g,.str r,.str d,t.d]
 |.wait b t=>.tup [.str "wait",.str b,t.d]
 |.call b=>.tup [.str "call",.str b]
 |.all b=>.tup [.str "all",.str b]
 |.tell t=>.tup [.str "tell",t.d]
 |.take p=>.tup [.str "take",.str p]
 |.give p=>.tup [.str "give",.str p]
 |.pass p q=>.tup [.str "pass",.str p,.str q]
 |.say t=>.tup [.str "say",t.d]
structure Sc where
 own:Bool
 ws:List Str
 ps:List Str
 bs:List Str
 gs:List (Str×Str)
 ts:List Str
def F7(sc:Sc)(t:Tr):Prop:=t.Ok sc.ws sc.bs/\t.dep<=4
def Rw.Ok(sc:Sc)(n:Nat):Rw->Prop
 |.put x t=>x∈sc.ps/\F7 sc t
 |.unl t m=>F7 sc t/\m<=n
 |.go m=>m<=n
 |.do_ g r d t=>(∀x,g=some x->x∈sc.ps)/\(r,d)∈sc.gs/\F7 sc t
 |.wait b t=>sc.own=false/\b∈sc.bs/\F7 sc t
 |.call b=>sc.own=false/\b∈sc.bs
 |.all b=>sc.own=false/\b∈sc.bs
 |.tell t=>sc.own=false/\F7 sc t
 |.take p=>sc.own=true/\p∈sc.ts
 |.give p=>sc.own=true/\p∈sc.ts
 |.pass p q=>sc.own=true/\p∈sc.ts/\q∈sc.ts
 |.say t=>sc.own=true/\F7 sc t
def Rw.Ok.mono{sc:Sc}{n m:Nat}{r:Rw}(h:r.Ok sc n)(l:n<=m):r.Ok sc m:=by
 cases r with
 |unl t k=>exact⟨h.1,QAq h.2 l⟩
 |go k=>exact QAq h l
 |_=>exact h
theorem Rw.low(r:Rw):cB 0 r.d=true:=by
 cases r with
 |do_ g r d t=>cases g <;>simp only[Rw.d,cB,cc,Hg,t.low,Bool.and_true,Bool.true_and]
 |_=>simp only[Rw.d,cB,cc,Tr.low,Bool.and_true,Bool.true_and]
def sy(sc:Sc)(rs:List Rw):Prop:=∀r∈rs,r.Ok sc rs.length
def D9{S S0:aK}{k i j:Nat}{at_:Nat}{sc:Sc}{Q:Res->aK->Prop}(x:Ex k S0 S)(hi:i≠k)(hj:j≠k)(hw:S[i]?=some (.lst (sc.ws.map D.str)))(hb:S[j]?=some (.lst (sc.bs.map D.str)))(lw:sc.ws.length<1000)(lb:sc.bs.length<1000)(b0:0<sc.bs.length)(hg:(("given":Str))∈sc.ws)(ho:sc.own=false)
  (h:∀(rs:List Rw) (S':aK),(∀r∈rs,r.Ok sc (at_+rs.length))->1<=rs.length->rs.length<=3->Ex k S0 S'->Ex k S S'->S'.length=S.length->Q (.l (rs.map Rw.d)) S'):Fn jf [.ref k,.ref i,.ref j,.int at_] S Q:=by
 have y:Ex k S S:=by obtain⟨a,b,c,hh⟩:=x.pot;exact Ex.refl hh
 have fin:∀(rs:List Rw) (S':aK),(∀r∈rs,r.Ok sc (at_+rs.length))->1<=rs.length->rs.length<=3->Ex k S S'->Op (dJ S (rs.map Rw.d) S') fun p=>Q p.1 p.2:=fun rs S' h1 h2 h2' e=>Ik e x.lt (bg fun r _=>dG r.low) fun a b c=>h _ _ h1 h2 h2' x.set y.set (by simp)
 refine cp ?_
 unfold qJ
 symm
 apply jk 4 (deep:=1) y hi hj hw hb lw lb (by decide) fun t S1 h1 h2 e1 _ l1=> ?_
 refine⟨by show 3<=_;decide,?_⟩
 symm
 refine bU (e1.app (G:= [O.lst [.int 0,.str "given",t.d]])) (by decide) (by decide) fun d S2 hd e2 e2' l2=> ?_
 dsimp only
 have ht:∃t2:Tr,F7 sc t2/\kL ([.int 0,.str "given",t.d]:List D) (d:Int)=some t2.d:=by
  rcases d with _|_|_|d
  ·exact⟨.num 0,⟨by show 0<=9;omega,by show 1<=4;omega⟩,rfl⟩
  ·exact⟨.word "given",⟨hg,by show 1<=4;omega⟩,rfl⟩
  ·exact⟨t,⟨h1,by omega⟩,rfl⟩
  ·omega
 obtain⟨t2,ht2,ha⟩:=ht
 refine fW (e2'.keep _ _ (by have:=e1.lt;omega) aX) ha ?_
 symm
 refine fg e2 hj (e2.keep _ _ hj hb) (by simpa using b0) (by simpa using lb) eC gC fun v S3 hv e3 _ l3=> ?_
 obtain⟨z,hz,rfl⟩:=Qkq.mp hv
 symm
 refine⟨by show 3<=_;decide,?_⟩
 symm
 apply bU e3 (by decide) (by decide) fun way S4 hway e4 _ l4=> ?_
 refine eU ?_
 dsimp only
 refine bf (fun c=> ?_) (fun c=> ?_)
 ·symm
  refine⟨by show 1<=_;decide,?_⟩
  refine fin [.wait z t2] _ (fun r hr=> ?_) (by simp) (by simp) e4
  rw[Qfq.mp hr]
  exact⟨ho,hz,ht2⟩
 ·symm
  apply jk 4 (deep:=2) e4 hi hj (e4.keep _ _ hi hw) (e4.keep _ _ hj hb) lw lb (by decide) fun t3 S5 h3 h4 e5 _ l5=> ?_
  refine⟨by show 2<=_;decide,?_⟩
  symm
  refine⟨by show 3<=_;decide,?_⟩
  symm
  refine⟨by show 2<=_;decide,?_⟩
  symm
  have hw3:∃g:Nat,(g=at_\/g=at_+3)/\kL ([.int at_,.int ((at_:Int)+3)]:List D) ((way:Int)-1)=some (.int (g:Nat)):=by
   have:=of_decide_eq_false c
   rcases way with _|_|_|way
   ·exact absurd rfl this
   ·exact⟨at_,.inl rfl,rfl⟩
   ·exact⟨at_+3,.inr rfl,rfl⟩
   ·omega
  obtain⟨g,hg',hga⟩:=hw3
  apply fW aX hga ?_
  refine⟨by show 2<=_;decide,?_⟩
  symm
  refine⟨by show 3<=_;decide,?_⟩
  refine fin [.unl (.no t3) (at_+3),.wait z t2,.go g] _ (fun r hr=> ?_) (by simp) (by simp) e5.app
  simp only[Qsq,QXq,or_false] at hr
  have hl:([.unl (.no t3) (at_+3),.wait z t2,.go g]:List Rw).length=3:=rfl
  rcases hr with rfl|rfl|rfl
  ·exact⟨⟨h3,by show t3.dep+1<=4;omega⟩,by rw[hl];exact Qmq _⟩
  ·exact⟨ho,hz,ht2⟩
  ·show g<=at_+3
   omega
def dF(g:Str×Str):D:=.tup [.str g.1,.str g.2]
def zV{gs:List (Str×Str)}:∀d∈gs.map dF,(∀k,d≠.ref k)/\cB 0 d=true:=fun d hd=>by
 obtain⟨a,_,rfl⟩:=Qkq.mp hd
 exact⟨fun k z=>(nomatch z),rfl⟩
def C0{gs:List (Str×Str)}{m:Nat}:∀d∈gs.map dF,cB m d=true:=fun d hd=>by
 obtain⟨a,_,rfl⟩:=Qkq.mp hd
 rfl
def Il{S S0:aK}{k g t i:Nat}{sc:Sc}{Q:Res->aK->Prop}{n:Nat}(x:Ex k S0 S)(hg:g≠k)(ht:t≠k)(hi:i≠k)(gg:S[g]?=some (.lst (sc.gs.map dF)))(gt:S[t]?=some (.lst (sc.ps.map D.str)))(gw:S[i]?=some (.lst (sc.ws.map D.str)))
  (g0:0<sc.gs.length) (lg:sc.gs.length<1000) (lt:sc.ps.length<900) (lw:sc.ws.length<1000)
  (h:∀(r:Rw) (S':aK),r.Ok sc n->Ex k S0 S'->Ex k S S'->S'.length=S.length->Q (.d r.d) S'):Fn lO [.ref k,.ref g,.ref t,.ref i] S Q:=by
 have y:Ex k S S:=by obtain⟨a,b,c,hh⟩:=x.pot;exact Ex.refl hh
 refine cp ?_
 unfold yn
 symm
 refine fg y hg gg (by simpa using g0) (by simpa using lg) zV C0 fun v S1 hv e1 _ l1=> ?_
 obtain⟨⟨rm,dd⟩,hm,rfl⟩:=Qkq.mp hv
 dsimp only
 apply gF rfl (aC (bB (aC (bB (bZ ?_)))))
 apply B0 ?_
 apply⟨by decide,?_⟩
 refine cv (e1.keep _ _ ht gt) ?_
 refine⟨⟨rfl,rfl,trivial,by simp only[lQm,Qnq,QGq];exact QAq (show 0+1+sc.ps.length<=1000 by omega) (by decide)⟩,?_⟩
 symm
 have hnr:∀d∈([.non]++sc.ps.map D.str:List D),(∃o:Option Str,d=Hg o/\∀z,o=some z->z∈sc.ps):=fun d hd=>by
  rcases mQa.mp hd with hd|hd
  ·rw[Qfq.mp hd]
   exact⟨none,rfl,fun z hz=>by cases hz⟩
  ·obtain⟨a,ha,rfl⟩:=Qkq.mp hd
   exact⟨some a,rfl,fun z hz=>by cases hz;exact ha⟩
 have hnr2:∀(m:Nat),∀d∈([.non]++sc.ps.map D.str:List D),(∀k,d≠.ref k)/\cB m d=true:=fun m d hd=>by
  obtain⟨o,rfl,_⟩:=hnr d hd
  cases o <;>exact⟨fun k z=>(nomatch z),rfl⟩
 refine fg (i:=S1.length) (e1.app (G:= [O.lst ([.non]++sc.ps.map D.str)])) (by have:=e1.lt;omega) aX (by simp) (by simp;omega) (hnr2 0) (fun d hd=>(hnr2 _ d hd).2) fun v2 S2 hv2 e2 _ l2=> ?_
 obtain⟨o,rfl,ho⟩:=hnr v2 hv2
 symm
 apply⟨by decide,?_⟩
 refine jk 4 (deep:=1) (bs:= []) (e2.app (G:= [O.lst []])) hi (j:=S2.length) (by have:=e2.lt;omega) (bh (e2.keep _ _ hi gw)) aX lw (by decide) (by decide) fun t3 S3 h3 h4 e3 _ l3=> ?_
 symm
 refine⟨by show 5<=_;decide,?_⟩
 have hsub:t3.Ok sc.ws sc.bs:=by
  have gen:∀t:Tr,t.Ok sc.ws []->t.Ok sc.ws sc.bs:=by
   intro t
   induction t with
   |num n=>exact id
   |word x=>exact id
   |waits b=>intro z;exact absurd z (by simp[Tr.Ok])
   |no t ih=>exact ih
   |two o a b iha ihb=>exact fun z=>⟨z.1,iha z.2.1,ihb z.2.2⟩
  exact gen t3 h3
 refine lA (d:=(Rw.do_ o rm dd t3).d) e3 x.lt (fun k z=>(nomatch z)) (dG (Rw.low _)) fun a b c=> ?_
 exact h (.do_ o rm dd t3) _ ⟨ho,hm,hsub,by omega⟩ x.set y.set (by simp)
end W28
namespace DL
open PySem PySem.Spec L2
def CB{Γ:dh}{S:aK}{f:bN}{g:eJ}{Q:D->aK->Prop}(h:E f Γ S fun x S1=>∃k ds0,x=.ref k/\S1[k]?=some (.lst ds0)/\E g Γ S1 fun p S2=>∃ds,S2[k]?=some (.lst ds)/\(p.2.isM=true/\ds.length+p.1.length<=sizeLine)/\Q .non (S2.set k (.lst (ds++p.1)))):E (uP f g) Γ S Q:=by
 obtain⟨x,S1,e1,k,ds0,rfl,h1,p,S2,e2,ds,h2,h3,q⟩:=h
 exact⟨_,_,by unfold uP;rw[e1];simp only[Qbq,e2,h1,h2];rw[Qhq h3],q⟩
def An{Γ:dh}{S:aK}{f g:bN}{Q:D->aK->Prop}(h:E f Γ S fun d S1=>∃k,d=.bl k/\if k=true then E g Γ S1 Q else Q (.bl false) S1):E (zY f g) Γ S Q:=by
 obtain⟨d,S1,e1,k,rfl,q⟩:=h
 cases k with
 |true=>obtain⟨j,S2,e2,q⟩:=(q:E g Γ S1 Q);exact⟨j,S2,by unfold zY;rw[e1];exact e2,q⟩
 |false=>exact⟨_,S1,by unfold zY;rw[e1];rfl,q⟩
def fA{ds:List D}{y:D}{Q:List D×D->Prop}(h:ds.length<sizeLine)(q:Q (ds++ [y],.non)):Op (iQ ds [y]) Q:=⟨_,by simp only[iQ];rw[Qhq h],q⟩
end DL
namespace W28
open PySem PySem.Spec L2 DL
def gA:List Str:= ["given"]
def sf{Γ:dh}{S:aK}{i j l:Nat}{w m:Int}{ds:List D}{Q:Bool->aK->Prop}(hi:Γ[i]?=some (some (.int w)))(hj:Γ[j]?=some (some (.ref l)))(hS:S[l]?=some (.lst ds))(q:∀c,(c=true->0<ds.length)->Q c S):
  E (fV (aN (aE Gb (aq i) (cF (.int m)))) (aN (ef (bu (aq j))))) Γ S Q:=by
 refine xH (gf (nH (cG hi (DT (JA ?_)))))
 refine bf (fun c=> ?_) fun c=>q false fun z=>(nomatch z)
 refine gf (BM (i_ (cG hj (cv hS ⟨⟨rfl,hS⟩,q _ fun z=> ?_⟩))))
 cases ds with
 |nil=>cases z
 |cons a b=>simp
def r8{Γ:dh}{S:aK}{i j l:Nat}{w m:Int}{ds:List D}{Q:Bool->aK->Prop}(hi:Γ[i]?=some (some (.int w)))(hj:Γ[j]?=some (some (.ref l)))(hS:S[l]?=some (.lst ds))(q:∀c,(c=true->0<ds.length)->Q c S):
  E (fV (aN (aE (e_ false) (aq i) (cF (.int m)))) (aN (ef (bu (aq j))))) Γ S Q:=by
 refine xH (gf (nH (cG hi (DT (eU ?_)))))
 refine bf (fun c=> ?_) fun c=>q false fun z=>(nomatch z)
 refine gf (BM (i_ (cG hj (cv hS ⟨⟨rfl,hS⟩,q _ fun z=> ?_⟩))))
 cases ds with
 |nil=>cases z
 |cons a b=>simp
def Im{Γ:dh}{S:aK}{i:Nat}{w m:Int}{Q:Bool->aK->Prop}(hi:Γ[i]?=some (some (.int w)))(q:∀c,Q c S):E (aN (aE (e_ false) (aq i) (cF (.int m)))) Γ S Q:=gf (nH (cG hi (DT (eU (q _)))))
def Gi{Γ:dh}{S:aK}{i j:Nat}{m s:Str}{w n:Int}{Q:D->aK->Prop}(hi:Γ[i]?=some (some (.str m)))(hj:Γ[j]?=some (some (.int w)))(q:∀b:Nat,b<=1->Q (.int b) S):
  E (yz intOfD (ao (zY (aE (e_ false) (aq i) (cF (.str s))) (aE (e_ false) (aq j) (cF (.int n)))) aw)) Γ S Q:=by
 refine Mq (jo (An (nH (cG hi (DT (jc ⟨_,rfl,?_⟩))))))
 have fin:∀b:Bool,E aw Γ S fun ds S2=>Op (intOfD (.bl b::ds)) fun d=>Q d S2:=fun b=>tJ (by
  cases b with
  |true=>exact⟨_,rfl,q 1 (by omega)⟩
  |false=>exact⟨_,rfl,q 0 (by omega)⟩)
 refine bf (fun c=> ?_) (fun c=> ?_)
 ·exact nH (cG hj (DT (eU (fin _))))
 ·exact fin false
def HD{S S0:aK}{k t b g:Nat}{ah:Str}{things aa:List Str}{goals:List (Str×Str)}{Q:Res->aK->Prop}(x:Ex k S0 S)(nt:t≠k)(nb:b≠k)(ng:g≠k)(gt:S[t]?=some (.lst (things.map D.str)))(gb:S[b]?=some (.lst (aa.map D.str)))(gg:S[g]?=some (.lst (goals.map dF)))
  (lt:things.length<500) (lb:aa.length<500) (lg:goals.length<500)
  (h:∀(rs:List Rw) (S':aK),sy ⟨false,things++gA,things,aa,goals,[]⟩ rs->0<rs.length->rs.length<=12->Ex k S0 S'->Ex k S S'->S'.length=S.length->Q (.d (.tup (rs.map Rw.d))) S'):
  Fn kF [.ref k,.tup [.str ah,.ref t,.ref b],.ref g,.int 4] S Q:=by
 have y:Ex k S S:=by obtain⟨a,b,c,hh⟩:=x.pot;exact Ex.refl hh
 have kl:=x.lt
 have tl:=(gQs.mp gt).1
 have bl:=(gQs.mp gb).1
 have gl:=(gQs.mp gg).1
 generalize hsc:(⟨false,things++gA,things,aa,goals,[]⟩:Sc)=sc at h
 have so:sc.own=false:=by rw[←hsc]
 have sw:sc.ws=things++gA:=by rw[←hsc]
 have sp:sc.ps=things:=by rw[←hsc]
 have sb:sc.bs=aa:=by rw[←hsc]
 have sg:sc.gs=goals:=by rw[←hsc]
 refine cp ?_
 unfold tE
 symm
 apply gF rfl (aC (bB (aC (bB (aC (bB (bZ ?_)))))))
 apply B0 ?_
 apply cv gt ?_
 refine⟨by decide,?_⟩
 refine⟨⟨rfl,rfl,gt,by simp only[lQm,Qnq,QGq];exact QAq (show things.length+(0+1)<=1000 by omega) (by decide)⟩,?_⟩
 symm
 refine⟨by decide,?_⟩
 have ew:things.map D.str++ [D.str "given"]=sc.ws.map D.str:=by rw[sw];simp[gA]
 rw[ew]
 have e0:Ex k S (S++ [O.lst (sc.ws.map D.str)]++ [O.lst []]):=y.app.app
 generalize hr:S.length+1=r
 have hlen0:(S++ [O.lst (sc.ws.map D.str)]).length=r:=by simp[hr]
 rw[hlen0]
 have iw:(S++ [O.lst (sc.ws.map D.str)]++ [O.lst []])[S.length]?=some (.lst (sc.ws.map D.str)):=bh aX
 have ir:(S++ [O.lst (sc.ws.map D.str)]++ [O.lst []])[r]?=some (.lst []):=by rw[←hlen0];exact aX
 have il:(S++ [O.lst (sc.ws.map D.str)]++ [O.lst []]).length=r+1:=by simp[←hr]
 generalize (S++ [O.lst (sc.ws.map D.str)]++ [O.lst []])=S1 at e0 iw ir il⊢
 apply cy (kN ?_)
 apply bU e0 (by decide) (by decide) fun many S2 hmany e2 e2' l2=> ?_
 refine⟨_,rfl,⟨by omega,by omega⟩,?_⟩
 have nr:r≠k:=by omega
 have nw:S.length≠k:=by omega
 let Inv:Nat->dh->aK->Prop:=fun n Γ' S'=>∃(o9 o10 o11:Option D) (rs:List Rw),Γ'= [some (.ref k),some (.tup [.str ah,.ref t,.ref b]),some (.ref g),some (.int 4),some (.str ah),some (.ref t),some (.ref b),some (.ref S.length),some (.ref r),o9,o10,o11]∧
  Ex k S S'/\S'[S.length]?=some (.lst (sc.ws.map D.str))/\S'[r]?=some (.lst (rs.map Rw.d))/\rs.length<=3*n/\n<=rs.length/\n<=4/\∀q∈rs,q.Ok sc rs.length
 refine⟨Inv,⟨_,_,_,[],rfl,e2,e2'.keep _ _ nw iw,e2'.keep _ _ nr ir,by simp,by simp,by omega,by simp⟩,fun _ _ _ _=>trivial,?_,?_⟩
 ·rintro n d Γ' S3 hd ⟨o9,o10,o11,rs,rfl,e3,hw3,hr3,hl1,hl2,hn4,hok⟩
  have hn4':n<4:=by
   have:=(gQs.mp hd).1
   simp only[kS,lQm,QVq] at this
   omega
  apply bB ?_
  refine bU e3 (by decide) (by decide) fun way S4 hway e4 e4' l4=> ?_
  dsimp only
  have hw4:=e4'.keep _ _ nw hw3
  have hr4:=e4'.keep _ _ nr hr3
  have gt4:=e4.keep _ _ nt gt
  have gb4:=e4.keep _ _ nb gb
  have gg4:=e4.keep _ _ ng gg
  rw[←sp] at gt4
  rw[←sb] at gb4
  rw[←sg] at gg4
  have more:∀(ms:List Rw) (o11':Option D) (S5:aK),Ex k S S5->S5[S.length]?=some (.lst (sc.ws.map D.str))->S5[r]?=some (.lst (rs.map Rw.d++ms.map Rw.d))->1<=ms.length->ms.length<=3->(∀q∈ms,q.Ok sc (rs.length+ms.length))→
    Inv (n+1) [some (.ref k),some (.tup [.str ah,.ref t,.ref b]),some (.ref g),some (.int 4),some (.str ah),some (.ref t),some (.ref b),some (.ref S.length),some (.ref r),some d,some (.int way),o11'] S5:=by
   intro ms o11' S5 e5 h1 h2 h3 h4 h5
   refine⟨_,_,_,rs++ms,rfl,e5,h1,by rw[h2,Qzq],by rw[lQa];omega,by rw[lQa];omega,by omega,fun q hq=> ?_⟩
   rw[lQa]
   rcases mQa.mp hq with hq|hq
   ·exact(hok q hq).mono (by omega)
   ·exact h5 q hq
  have small:∀m:Nat,m<=100->m<sizeLine:=fun m hm=>Nat.lt_of_le_of_lt hm (by decide)
  have l9:rs.length<=9:=by omega
  have lr:(rs.map Rw.d).length=rs.length:=by simp
  have sok:∀{t':Tr},t'.Ok sc.ws sc.bs->t'.dep<=3->F7 sc t':=fun h1 h2=>⟨h1,by omega⟩
  have lw':sc.ws.length<1000:=by rw[sw];simp[gA];omega
  have lb':sc.bs.length<1000:=by rw[sb];omega
  have lp':sc.ps.length<900:=by rw[sp];omega
  have lg':sc.gs.length<1000:=by rw[sg];omega
  refine f_ (sf rfl rfl gb4 fun c hc=>bf (fun c1=> ?_) (fun c1=> ?_))
  ·
   apply jn (CB ?_)
   apply⟨_,_,rfl,hr4,?_⟩
   apply cv hr4 ?_
   rw[lr]
   refine D9 (sc:=sc) e4 nw nb hw4 gb4 lw' lb' (by simpa using hc c1) (by rw[sw];simp[gA]) so fun ms S5 h1 h1' h2 e5 e5' l5=> ?_
   dsimp only
   have hr5:=e5'.keep _ _ nr hr4
   have hlen:=ms.length
   refine⟨_,hr5,⟨rfl,?_⟩,?_⟩
   ·simp only[lQm]
    exact nQl (small _ (by omega))
   ·exact more ms _ _ (e5.put (by omega) kl) (fu (by omega) (e5'.keep _ _ nw hw4)) (cX hr5) h1' h2 h1
  refine f_ (sf rfl rfl gb4 fun c hc=>bf (fun c1=> ?_) (fun c1=> ?_))
  ·apply cy (zK ?_)
   refine⟨by decide,?_⟩
   refine Gi rfl rfl fun v hv=> ?_
   have hc2:∃(f:Str->Rw) (s:Str),(∀z,(f z).d=.tup [.str s,.str z])/\(∀z n,z∈sc.bs->(f z).Ok sc n)/\kL ([.str "call",.str "all"]:List D) (v:Int)=some (.str s):=by
    rcases v with _|_|v
    ·exact⟨.call,"call",fun _=>rfl,fun z n hz=>⟨so,hz⟩,rfl⟩
    ·exact⟨.all,"all",fun _=>rfl,fun z n hz=>⟨so,hz⟩,rfl⟩
    ·omega
   obtain⟨f,s,hf,hfo,hs⟩:=hc2
   refine fW aX hs ?_
   apply jn (kQ ?_)
   apply⟨_,_,rfl,bh hr4,?_⟩
   refine fg (e4.app (G:= [O.lst [.str "call",.str "all"]])) nb (bh gb4) (hc c1) (by simp;omega) eC gC fun v2 S5 hv2 e5 e5' l5=> ?_
   obtain⟨z,hz,rfl⟩:=Qkq.mp hv2
   symm
   refine⟨by show 2<=_;decide,?_⟩
   symm
   have hr5:=e5'.keep _ _ nr (bh hr4)
   refine⟨_,hr5,fA (small _ (by rw[lr];omega)) ?_⟩
   refine more [f z] _ _ (e5.put (by omega) kl) (fu (by omega) (e5'.keep _ _ nw (bh hw4))) ?_ (by simp) (by simp) fun q' hq'=>by rw[Qfq.mp hq'];exact hfo _ _ hz
   rw[cX hr5]
   simp[hf]
  refine f_ (r8 rfl rfl gg4 fun c hc=>bf (fun c1=> ?_) (fun c1=> ?_))
  ·apply jn (kQ ?_)
   apply⟨_,_,rfl,hr4,?_⟩
   apply Il (n:=rs.length+1) (sc:=sc) e4 ng nt nw gg4 gt4 hw4 (by simpa using hc c1) lg' lp' lw' fun q S5 h1 e5 e5' l5=> ?_
   have hr5:=e5'.keep _ _ nr hr4
   refine⟨_,hr5,fA (small _ (by rw[lr];omega)) ?_⟩
   exact more [q] _ _ (e5.put (by omega) kl) (fu (by omega) (e5'.keep _ _ nw hw4)) (cX hr5) (by simp) (by simp) fun q' hq'=>by rw[Qfq.mp hq'];exact h1
  refine f_ (Im rfl fun c=>bf (fun c1=> ?_) (fun c1=> ?_))
  ·apply cy (jn (kQ ?_))
   apply⟨_,_,rfl,hr4,?_⟩
   apply jk 4 (deep:=2) e4 nw nb hw4 gb4 lw' lb' (by decide) fun t3 S5 h3 h4 e5 e5' l5=> ?_
   have hr5:=e5'.keep _ _ nr hr4
   apply cv hr5 ?_
   refine⟨by show 3<=_;decide,?_⟩
   symm
   refine⟨_,hr5,fA (small _ (by rw[lr];omega)) ?_⟩
   dsimp only
   apply jn (kQ ?_)
   apply⟨_,_,rfl,cX hr5,?_⟩
   apply bU (e5.put (r:=r) (by omega) kl) (by decide) (by decide) fun v S6 hv e6 e6' l6=> ?_
   refine⟨by show 2<=_;decide,?_⟩
   symm
   have hr6:=e6'.keep _ _ nr (cX hr5)
   refine⟨_,hr6,fA (small _ (by simp;omega)) ?_⟩
   refine more [.unl t3 (rs.length+2),.tell (.num v)] _ _ (e6.put (by omega) kl) (fu (by omega) (e6'.keep _ _ nw (fu (by omega) (e5'.keep _ _ nw hw4)))) ?_ (by simp) (by simp) fun q hq=> ?_
   ·rw[cX hr6]
    simp[Rw.d,Tr.d]
   ·simp only[Qsq,QXq,or_false] at hq
    rcases hq with rfl|rfl
    ·exact⟨sok h3 (by omega),by show rs.length+2<=rs.length+2;omega⟩
    ·exact⟨so,by show v<=9;omega,by show 1<=4;omega⟩
  refine f_ (sf rfl rfl gt4 fun c hc=>bf (fun c1=> ?_) (fun c1=> ?_))
  ·apply jn (kQ ?_)
   apply⟨_,_,rfl,hr4,?_⟩
   refine fg e4 nt gt4 (hc c1) (by simp;omega) eC gC fun v S5 hv e5 e5' l5=> ?_
   obtain⟨z,hz,rfl⟩:=Qkq.mp hv
   symm
   apply jk 4 (deep:=2) e5 nw nb (e5'.keep _ _ nw hw4) (e5'.keep _ _ nb gb4) lw' lb' (by decide) fun t3 S6 h3 h4 e6 e6' l6=> ?_
   refine⟨by show 3<=_;decide,?_⟩
   symm
   have hr6:=e6'.keep _ _ nr (e5'.keep _ _ nr hr4)
   refine⟨_,hr6,fA (small _ (by rw[lr];omega)) ?_⟩
   exact more [.put z t3] _ _ (e6.put (by omega) kl) (fu (by omega) (e6'.keep _ _ nw (e5'.keep _ _ nw hw4))) (cX hr6) (by simp) (by simp) fun q' hq'=>by rw[Qfq.mp hq'];exact⟨hz,sok h3 (by omega)⟩
  ·apply jn (kQ ?_)
   apply⟨_,_,rfl,hr4,?_⟩
   apply jk 4 (deep:=1) e4 nw nb hw4 gb4 lw' lb' (by decide) fun t3 S6 h3 h4 e6 e6' l6=> ?_
   refine⟨by show 2<=_;decide,?_⟩
   symm
   have hr6:=e6'.keep _ _ nr hr4
   refine⟨_,hr6,fA (small _ (by rw[lr];omega)) ?_⟩
   exact more [.tell t3] _ _ (e6.put (by omega) kl) (fu (by omega) (e6'.keep _ _ nw hw4)) (cX hr6) (by simp) (by simp) fun q' hq'=>by rw[Qfq.mp hq'];exact⟨so,sok h3 (by omega)⟩
 ·rintro Γ' S3 ⟨o9,o10,o11,rs,rfl,e3,hw3,hr3,hl1,hl2,hn4,hok⟩
  have hlen:(kS 0 (1+(many:Int))).length=many+1:=by simp only[kS,lQm,QVq];omega
  rw[hlen] at hl1 hl2 hn4
  symm
  refine cv hr3 ?_
  refine⟨rfl,?_⟩
  dsimp only
  refine lA e3 x.lt (fun k z=>(nomatch z)) (by simp only[cB];exact bg fun q _=>dG q.low) fun a b c=> ?_
  exact h rs _ hok (by omega) (by omega) x.set y.set (by simp)
end W28
namespace DL
open PySem PySem.Spec L2
def MP{Γ' Γ0:dh}{d:D}(h:Γ'.set 0 none=Γ0.set 0 none):Γ'.set 0 (some d)=Γ0.set 0 (some d):=by
 have:=congrArg (fun Γ:dh=>Γ.set 0 (some d)) h
 simpa using this
def Ao{Γ:dh}{S:aK}{js:List (Option Nat)}{f:eJ}{elt:bN}{Q:List D->aK->Prop}(F:D->D)(h:E f Γ S fun p S1=>p.2.stays S1 p.1/\p.1.length<=1000/\(∀d∈p.1,E elt ((mD js Γ).set 0 (some d)) S1 fun y S2=>y=F d/\S2=S1)/\Q (p.1.map F) S1):
  E (cx js (jq f) (cC 0) cW elt) Γ S Q:=by
 refine l_ (rK (h.mono fun p S1 hp=> ?_))
 obtain⟨hs,hl,he,q⟩:=hp
 refine⟨fun n Γ' S' acc=>S'=S1/\acc=(p.1.take n).map F/\Γ'.set 0 none=(mD js Γ).set 0 none,⟨rfl,rfl,rfl⟩,fun n Γ' S' acc h=>by rw[h.1];exact hs,fun n d Γ' S' acc hd h=> ?_,fun Γ' S' acc h=> ?_⟩
 ·obtain⟨rfl,rfl,h3⟩:=h
  refine bB (uq ?_)
  rw[Qhq rfl,MP h3]
  refine(he d (mQg hd)).mono fun y S2 qr=> ?_
  obtain⟨e1,e2⟩:=qr
  subst e1 e2
  have hn:=(gQs.mp hd).1
  refine⟨?_,rfl,?_,by simp⟩
  ·rw[lQm,Qxq]
   exact bG (by omega)
  ·rw[QYq,hd]
   simp
 ·obtain⟨rfl,rfl,_⟩:=h
  rw[QEq]
  exact q
end DL
namespace W28
open PySem PySem.Spec L2 DL
def vH(p:Str×Nat):D:=.tup [.str p.1,.int p.2]
def Gq(p:Str×Str):D:=.tup [.str p.1,.str p.2]
def jU(p:Str×List Rw):D:=.tup [.str p.1,.tup (p.2.map Rw.d)]
def B2{Γ:dh}{S S0:aK}{k j l:Nat}{m:Nat}{ws:List Str}{Q:List D->aK->Prop}(x:Ex k S0 S)(h0:Γ.getD 0 none=some (.ref k))(hj:Γ[j]?=some (some (.ref l)))(hl:S[l]?=some (.lst (ws.map D.str)))(nl:l≠k)(m0:0<m)(m1:m<1000)(lw:ws.length<=1000)
  (h:∀(ps:List (Str×Nat)) (S':aK),ps.map (·.1)=ws->(∀p∈ps,p.2<m)->Ex k S0 S'->Ex k S S'->S'.length=S.length->Q (ps.map vH) S'):
  E (cx [none,some 0] (jq (bu (aq j))) (cC 0) cW (bA (ao (aq 0) (ao (aA aJ (ao (aq 1) (ao (cF (.int m)) aw))) aw)))) Γ S Q:=by
 have y:Ex k S S:=by obtain⟨a,b,c,hh⟩:=x.pot;exact Ex.refl hh
 refine l_ (rK (i_ (cG hj (cv hl ?_))))
 refine⟨fun n Γ' S' acc=>∃(o:Option D) (ps:List (Str×Nat)),Γ'= [o,some (.ref k)]/\Ex k S0 S'/\Ex k S S'/\S'.length=S.length/\ps.map (·.1)=ws.take n/\(∀p∈ps,p.2<m)/\acc=ps.map vH,⟨none,[],by show [none,Γ.getD 0 none]=_;rw[h0],x,y,rfl,rfl,by simp,rfl⟩,?_,?_,?_⟩
 ·rintro n Γ' S' acc ⟨o,ps,_,_,e,_⟩
  exact e.keep _ _ nl hl
 ·rintro n d Γ' S' acc hd ⟨o,ps,rfl,e0,e1,el,h1,h2,rfl⟩
  obtain⟨z,hz,rfl⟩:∃z,ws[n]?=some z/\d=.str z:=by
   rw[gQm] at hd
   obtain⟨z,hz,e⟩:=oQm.mp hd
   exact⟨z,hz,e.symm⟩
  symm
  rw[Qhq rfl]
  symm
  apply bU e0 (by omega) (by omega) fun v S2 hv e2 e2' l2=> ?_
  refine⟨by show 2<=_;decide,?_⟩
  have hn:=(gQs.mp hz).1
  have hlen:ps.length=n:=by
   have:=congrArg List.length h1
   rw[lQm,Qxq] at this
   omega
  refine⟨?_,_,ps++ [(z,v)],rfl,e2,e1.trans e2',by omega,?_,fun p hp=> ?_,by simp[vH]⟩
  ·rw[lQm]
   exact bG (by omega)
  ·rw[Qzq,h1,QYq,hz]
   rfl
  ·rcases mQa.mp hp with hp|hp
   ·exact h2 p hp
   ·rw[Qfq.mp hp]
    show v<m
    omega
 ·rintro Γ' S' acc ⟨o,ps,rfl,e0,e1,el,h1,h2,rfl⟩
  exact h ps S' (by rw[h1];simp) h2 e0 e1 el
def J8{Γ:dh}{S S0:aK}{k j l:Nat}{ws:List Str}{Q:List D->aK->Prop}(x:Ex k S0 S)(h0:Γ.getD 0 none=some (.ref k))(hj:Γ[j]?=some (some (.ref l)))(hl:S[l]?=some (.lst (ws.map D.str)))(nl:l≠k)(lw:ws.length<=1000)
  (h:∀(ps:List (Str×Str)) (S':aK),ps.map (·.1)=ws->(∀p∈ps,p.2="row" \/p.2="turns")->Ex k S0 S'->Ex k S S'->Q (ps.map Gq) S'):
  E (cx [none,some 0] (jq (bu (aq j))) (cC 0) cW (bA (ao (aq 0) (ao (aE aW (cM (cg (ao (cF (.str "row")) (ao (cF (.str "turns")) aw)))) (aA aJ (ao (aq 1) (ao (cF (.int 2)) aw)))) aw)))) Γ S Q:=by
 have y:Ex k S S:=by obtain⟨a,b,c,hh⟩:=x.pot;exact Ex.refl hh
 refine l_ (rK (i_ (cG hj (cv hl ?_))))
 refine⟨fun n Γ' S' acc=>∃(o:Option D) (ps:List (Str×Str)),Γ'= [o,some (.ref k)]/\Ex k S0 S'/\Ex k S S'/\ps.map (·.1)=ws.take n/\(∀p∈ps,p.2="row" \/p.2="turns")/\acc=ps.map Gq,⟨none,[],by show [none,Γ.getD 0 none]=_;rw[h0],x,y,rfl,by simp,rfl⟩,?_,?_,?_⟩
 ·rintro n Γ' S' acc ⟨o,ps,_,_,e,_⟩
  exact e.keep _ _ nl hl
 ·rintro n d Γ' S' acc hd ⟨o,ps,rfl,e0,e1,h1,h2,rfl⟩
  obtain⟨z,hz,rfl⟩:∃z,ws[n]?=some z/\d=.str z:=by
   rw[gQm] at hd
   obtain⟨z,hz,e⟩:=oQm.mp hd
   exact⟨z,hz,e.symm⟩
  symm
  rw[Qhq rfl]
  symm
  apply⟨by decide,?_⟩
  refine bU (e0.app (G:= [O.lst [.str "row",.str "turns"]])) (by decide) (by decide) fun v S2 hv e2 e2' l2=> ?_
  dsimp only
  have hs:∃s:Str,(s="row" \/s="turns")/\kL ([.str "row",.str "turns"]:List D) (v:Int)=some (.str s):=by
   rcases v with _|_|v
   ·exact⟨"row",.inl rfl,rfl⟩
   ·exact⟨"turns",.inr rfl,rfl⟩
   ·omega
  obtain⟨s,hs,ha⟩:=hs
  refine fW (e2'.keep _ _ (by have:=e0.lt;omega) aX) ha ?_
  symm
  refine⟨by show 2<=_;decide,?_⟩
  have hn:=(gQs.mp hz).1
  have hlen:ps.length=n:=by
   have:=congrArg List.length h1
   rw[lQm,Qxq] at this
   omega
  refine⟨?_,_,ps++ [(z,s)],rfl,e2,(e1.app).trans e2',?_,fun p hp=> ?_,by simp[Gq]⟩
  ·rw[lQm]
   exact bG (by omega)
  ·rw[Qzq,h1,QYq,hz]
   rfl
  ·rcases mQa.mp hp with hp|hp
   ·exact h2 p hp
   ·rw[Qfq.mp hp]
    exact hs
 ·rintro Γ' S' acc ⟨o,ps,rfl,e0,e1,h1,h2,rfl⟩
  exact h ps S' (by rw[h1];simp) h2 e0 e1
def Rw.Ok.sub{a:Bool}{ws ps bs ts:List Str}{gs gs':List (Str×Str)}{n:Nat}{r:Rw}(h:r.Ok ⟨a,ws,ps,bs,gs,ts⟩ n)(hs:∀g∈gs,g∈gs'):r.Ok ⟨a,ws,ps,bs,gs',ts⟩ n:=by
 cases r with
 |do_ g r d t=>exact⟨h.1,hs _ h.2.1,h.2.2⟩
 |_=>exact h
def sy.sub{a:Bool}{ws ps bs ts:List Str}{gs gs':List (Str×Str)}{rs:List Rw}(h:sy ⟨a,ws,ps,bs,gs,ts⟩ rs)(hs:∀g∈gs,g∈gs'):sy ⟨a,ws,ps,bs,gs',ts⟩ rs:=fun r hr=>(h r hr).sub hs
structure Rm where
 name:Str
 ah:Str
 things:List (Str×Nat)
 aa:List (Str×Str)
 ae:List (Str×List Rw)
def Rm.d(r:Rm):D:=.tup [.str r.name,.str r.ah,.tup (r.things.map vH),.tup (r.aa.map Gq),.tup (r.ae.map jU)]
structure xO(gs:List (Str×Str))(r:Rm):Prop where
 mn:r.ah="at once" \/r.ah="when free"
 tv:∀p∈r.things,p.2<=9
 l1:r.things.length<=6
 l2:r.aa.length<=6
 l3:r.ae.length<=6
 bv:∀p∈r.aa,p.2="row" \/p.2="turns"
 pr:∀p∈r.ae,sy ⟨false,r.things.map (·.1)++gA,r.things.map (·.1),r.aa.map (·.1),gs,[]⟩ p.2/\p.2.length<=12
def Eu(p:Str×List Rw):cB 0 (jU p)=true:=by
 simp only[jU,cB,cc,Bool.and_true,Bool.true_and]
 exact bg fun r _=>r.low
def Rm.low(r:Rm):cB 0 r.d=true:=by
 simp only[Rm.d,cB,cc,Bool.and_true,Bool.true_and,QCq]
 exact⟨bg fun _ _=>rfl,bg fun _ _=>rfl,bg fun p _=>Eu p⟩
end W28
namespace DL
open PySem PySem.Spec L2
def KO{Γ:dh}{S:aK}{f:eJ}{g:bN}{Q:List D->aK->Prop}(h:E f Γ S fun p S1=>E g Γ S1 fun r S2=>∃n:Nat,r=.int n/\(p.2.isM=true/\p.2.stays S2 p.1/\p.1.length*n<=1000/\n<=1)/\Q ((List.replicate n p.1).flatten) S2):E (GM f g) Γ S Q:=by
 obtain⟨p,S1,e1,r,S2,e2,n,rfl,⟨h1,h2,h3,h4⟩,q⟩:=h
 refine⟨_,S2,?_,q⟩
 unfold GM
 rw[e1]
 simp only[Qbq]
 rw[e2]
 simp only[Qbq]
 rw[Qhq ⟨h1,h2,by omega,by omega,by simpa using QAq h3 (by decide)⟩]
 simp
end DL
namespace W28
open PySem PySem.Spec L2 DL
def Hx{S S0:aK}{k g m:Nat}{name:Str}{goals:List (Str×Str)}{Q:Res->aK->Prop}(x:Ex k S0 S)(ng:g≠k)(nm:m≠k)(gg:S[g]?=some (.lst (goals.map dF)))(gm:S[m]?=some (.lst [.str "at once",.str "when free"]))(lg:goals.length<=100)
  (h:∀(r:Rm) (S':aK),r.name=name->xO (goals++r.ae.map fun p=>(name,p.1)) r->Ex k S0 S'->Ex k S S'->S'.length=S.length->Q (.d r.d) S'):
  Fn kg [.ref k,.str name,.ref g,.ref m,.int 2] S Q:=by
 have y:Ex k S S:=by obtain⟨a,b,c,hh⟩:=x.pot;exact Ex.refl hh
 have kl:=x.lt
 refine cp ?_
 unfold uj
 symm
 refine fg y nm gm (by decide) (by decide) (fun d hd=> ?_) (fun d hd=> ?_) fun mn S1 hmn e1 _ l1=> ?_
 ·simp only[Qsq,QXq,or_false] at hd
  rcases hd with rfl|rfl <;>exact⟨fun k z=>(nomatch z),rfl⟩
 ·simp only[Qsq,QXq,or_false] at hd
  rcases hd with rfl|rfl <;>rfl
 obtain⟨ah,hman,rfl⟩:∃s:Str,(s="at once" \/s="when free")/\mn=.str s:=by
  simp only[Qsq,QXq,or_false] at hmn
  rcases hmn with rfl|rfl
  ·exact⟨_,.inl rfl,rfl⟩
  ·exact⟨_,.inr rfl,rfl⟩
 symm
 apply⟨by decide,?_⟩
 refine bU (e1.app (G:= [O.lst [.int 1,.int 1,.int 2,.int 0]])) (by decide) (by decide) fun v S2 hv e2 e2' l2=> ?_
 dsimp only
 obtain⟨nt,hnt,ha⟩:∃n:Nat,n<=2/\kL ([.int 1,.int 1,.int 2,.int 0]:List D) (v:Int)=some (.int n):=by
  rcases v with _|_|_|_|v
  ·exact⟨1,by omega,rfl⟩
  ·exact⟨1,by omega,rfl⟩
  ·exact⟨2,by omega,rfl⟩
  ·exact⟨0,by omega,rfl⟩
  ·omega
 refine fW (e2'.keep _ _ (by have:=e1.lt;omega) aX) ha ?_
 symm
 apply iT e2 (by omega) (by omega) (by decide) fun things S3 _ hth e3 e3' l3=> ?_
 apply bU (e3.app (G:= [O.lst (things.map D.str)])) (by decide) (by decide) fun nb S4 hnb e4 e4' l4=> ?_
 apply iT e4 (by omega) (by omega) (by decide) fun aa S5 _ hbe e5 e5' l5=> ?_
 refine⟨by decide,?_⟩
 have k3:S3.length≠k:=by have:=e3.lt;omega
 have k5:S5.length≠k:=by have:=e5.lt;omega
 have gt:(S5++ [O.lst (aa.map D.str)]++ [O.lst []])[S3.length]?=some (.lst (things.map D.str)):=bh (bh (e5'.keep _ _ k3 (e4'.keep _ _ k3 aX)))
 have gb:(S5++ [O.lst (aa.map D.str)]++ [O.lst []])[S5.length]?=some (.lst (aa.map D.str)):=bh aX
 have hl3:S.length<=S3.length:=e3.len
 have hl5:S.length<=S5.length:=e5.len
 have h35:S3.length<S5.length:=by
  have:=e5'.len
  have:=e4'.len
  simp only[lQa,Qnq,QGq] at *
  omega
 have e6:Ex k S (S5++ [O.lst (aa.map D.str)]++ [O.lst []]):=e5.app.app
 generalize hr:S5.length+1=r
 have hlen0:(S5++ [O.lst (aa.map D.str)]).length=r:=by simp[hr]
 rw[hlen0]
 have gr:(S5++ [O.lst (aa.map D.str)]++ [O.lst []])[r]?=some (.lst []):=by rw[←hlen0];exact aX
 generalize (S5++ [O.lst (aa.map D.str)]++ [O.lst []])=S6 at e6 gt gb gr⊢
 have hth':things.length=nt:=by omega
 have hbe':aa.length=nb:=by omega
 apply cy (kN ?_)
 apply bU e6 (by decide) (by decide) fun nd S7 hnd e7 e7' l7=> ?_
 apply iT e7 (by omega) (by omega) (by decide) fun dws S8 _ hdw e8 e8' l8=> ?_
 have kr:r≠k:=by omega
 let Inv:Nat->dh->aK->Prop:=fun n Γ' S'=>∃(o9 o10 o11:Option D) (ds:List (Str×List Rw)),Γ'= [some (.ref k),some (.str name),some (.ref g),some (.ref m),some (.int 2),some (.str ah),some (.ref S3.length),some (.ref S5.length),some (.ref r),o9,o10,o11,none]∧
  Ex k S S'/\S'[S3.length]?=some (.lst (things.map D.str))/\S'[S5.length]?=some (.lst (aa.map D.str))/\S'[r]?=some (.lst (ds.map jU))/\ds.length=n/\(∀p∈ds,sy ⟨false,things++gA,things,aa,goals++ds.map fun p=>(name,p.1),[]⟩ p.2/\p.2.length<=12)
 refine⟨Inv,⟨none,none,none,[],rfl,e8,e8'.keep _ _ k3 (e7'.keep _ _ k3 gt),e8'.keep _ _ k5 (e7'.keep _ _ k5 gb),e8'.keep _ _ kr (e7'.keep _ _ kr gr),rfl,by simp⟩,fun _ _ _ _=>trivial,?_,?_⟩
 ·rintro n d Γ' S9 hd ⟨o9,o10,o11,ds,rfl,e9,gt9,gb9,gr9,hn,hpr⟩
  obtain⟨w,hw,rfl⟩:∃z,dws[n]?=some z/\d=.str z:=by
   rw[gQm] at hd
   obtain⟨z,hz,e⟩:=oQm.mp hd
   exact⟨z,hz,e.symm⟩
  have hn6:n<3:=by
   have:=(gQs.mp hw).1
   omega
  apply bB ?_
  apply Ao (fun d=>match d with|.tup (a::_)=>.tup [.str name,a]|d=>d) ?_
  refine cv gr9 ?_
  refine⟨gr9,by simp;omega,fun d hd=> ?_,?_⟩
  ·obtain⟨p,_,rfl⟩:=Qkq.mp hd
   symm
   apply ay rfl ?_
   exact⟨by show 2<=_;decide,rfl,rfl⟩
  have eh:(ds.map jU).map (fun d=>match d with|.tup (a::_)=>.tup [.str name,a]|d=>d)=(ds.map fun p=>(name,p.1)).map dF:=by
   rw[QPq,QPq]
   rfl
  rw[eh]
  generalize hh:(ds.map fun p=>(name,p.1))=here
  have lh:here.length=n:=by rw[←hh];simpa using hn
  symm
  apply B0 ?_
  have gg9:=e9.keep _ _ ng gg
  apply cv (bh gg9) ?_
  apply KO ?_
  apply cv aX ?_
  apply bU (e9.app (G:= [O.lst (here.map dF)])) (by decide) (by decide) fun v2 S10 hv2 e10 e10' l10=> ?_
  apply eU ?_
  have k9:S9.length≠k:=by have:=e9.lt;omega
  have g10:=e10'.keep _ _ k9 aX
  obtain⟨q,hq,hqe⟩:∃q:Nat,q<=1/\intOfD [D.bl (decide ((v2:Int)=0))]=some (.int q):=by
   by_cases c:(v2:Int)=0
   ·exact⟨1,by omega,by rw[Qeq c];rfl⟩
   ·exact⟨0,by omega,by rw[Qdq c];rfl⟩
  refine⟨_,hqe,?_⟩
  refine⟨q,rfl,⟨rfl,g10,?_,hq⟩,?_⟩
  ·simp only[lQm]
   have:here.length*q<=here.length*1:=Nat.mul_le_mul_left _ hq
   omega
  obtain⟨some_,hso,hsub,hsl⟩:∃l:List (Str×Str),goals.map dF++(List.replicate q (here.map dF)).flatten=l.map dF/\(∀g∈l,g∈goals++here)/\l.length<=goals.length+10:=by
   rcases q with _|_|q
   ·exact⟨goals,by simp,fun g hg=>List.mem_append_left _ hg,by omega⟩
   ·exact⟨goals++here,by simp,fun g hg=>hg,by rw[lQa];omega⟩
   ·omega
  refine⟨⟨rfl,rfl,e10.keep _ _ ng gg,?_⟩,?_⟩
  ·have:=congrArg List.length hso
   rw[lQa] at this
   rw[this,lQm]
   exact nQl (bG (by omega))
  rw[hso]
  symm
  apply kQ ?_
  have gr11:(S10++ [O.lst (some_.map dF)])[r]?=some (.lst (ds.map jU)):=bh (e10'.keep _ _ kr (bh gr9))
  apply⟨_,_,rfl,gr11,?_⟩
  refine⟨by show 3<=_;decide,?_⟩
  symm
  refine HD (goals:=some_) (e10.app (G:= [O.lst (some_.map dF)])) k3 k5 (by have:=e10.lt;omega) (bh (e10'.keep _ _ k3 (bh gt9))) (bh (e10'.keep _ _ k5 (bh gb9))) aX (by omega) (by omega) (by omega) fun rs S11 h1 h2 h3 e11 e11' l11=> ?_
  symm
  refine⟨by show 2<=_;decide,?_⟩
  symm
  have gr12:=e11'.keep _ _ kr gr11
  refine⟨_,gr12,fA (bG (by simp;omega)) ?_⟩
  refine⟨_,_,_,ds++ [(w,rs)],rfl,e11.put (by omega) kl,fu (by omega) (e11'.keep _ _ k3 (bh (e10'.keep _ _ k3 (bh gt9)))),fu (by omega) (e11'.keep _ _ k5 (bh (e10'.keep _ _ k5 (bh gb9)))),?_,by simp[hn],fun p hp=> ?_⟩
  ·rw[cX gr12]
   simp[jU]
  ·rcases mQa.mp hp with hp|hp
   ·refine⟨(hpr p hp).1.sub fun g hg=> ?_,(hpr p hp).2⟩
    rw[Qzq,←Qvq]
    exact List.mem_append_left _ hg
   ·rw[Qfq.mp hp]
    refine⟨h1.sub fun g hg=> ?_,h3⟩
    rw[Qzq,←Qvq]
    refine List.mem_append_left _ ?_
    rw[hh]
    exact hsub g hg
 ·rintro Γ' S9 ⟨o9,o10,o11,ds,rfl,e9,gt9,gb9,gr9,hn,hpr⟩
  have hn4:ds.length<=3:=by
   rw[hn]
   simp only[lQm]
   omega
  symm
  apply J8 e9 rfl rfl gb9 k5 (by omega) fun bs S10 hb1 hb2 e10 e10'=> ?_
  apply B2 (m:=3) e10 rfl rfl (e10'.keep _ _ k3 gt9) k3 (by decide) (by decide) (by omega) fun ts S11 ht1 ht2 e11 e11' l11=> ?_
  refine cv (e11'.keep _ _ kr (e10'.keep _ _ kr gr9)) ?_
  apply⟨rfl,?_⟩
  refine⟨by show 5<=_;decide,?_⟩
  have lt1:ts.length=things.length:=by rw[←ht1];simp
  have lb1:bs.length=aa.length:=by rw[←hb1];simp
  refine lA (d:=(Rm.mk name ah ts bs ds).d) e11 x.lt (fun k z=>(nomatch z)) (dG (Rm.low _)) fun a b c=> ?_
  refine h ⟨name,ah,ts,bs,ds⟩ _ rfl ⟨hman,fun p hp=>by have:=ht2 p hp;omega,by show ts.length<=6;omega,by show bs.length<=6;omega,by show ds.length<=6;omega,hb2,?_⟩ x.set y.set (by simp)
  intro p hp
  show sy ⟨false,ts.map (·.1)++gA,ts.map (·.1),bs.map (·.1),_,[]⟩ p.2/\_
  rw[ht1,hb1]
  exact hpr p hp
end W28
namespace DL
open PySem PySem.Spec L2
theorem Ll{c:kd}{b:dt}{Q:Out->Prop}(I:Nat->dh->aK->Prop)(hc:∀m Γ S,I m Γ S->E c Γ S fun k S1=>if k=true then∃m',m=m'+1/\T b Γ S1 fun o=>match o with|.nx Γ2 S2=>I m' Γ2 S2|_=>False else Q (.nx Γ S1)):
  ∀(n m:Nat) (Γ:dh) (S:aK),m<n->I m Γ S->T (F9 c b n) Γ S Q
 |0,_,_,_,h,_=>absurd h (Nat.not_lt_zero _)
 | n+1,m,Γ,S,h,hi=>by
   obtain⟨k,S1,e1,q⟩:=hc m Γ S hi
   cases k with
   |false=>exact⟨_,by simp only[F9];rw[e1];rfl,q⟩
   | true=>
     obtain⟨m',rfl,o,e2,q⟩:=(q:∃m',m=m'+1/\T b Γ S1 _)
     cases o with
     | nx Γ2 S2=>
       obtain⟨o,e3,q⟩:=Ll I hc n m' Γ2 S2 (by omega) q
       exact⟨o,by simp only[F9];rw[e1];simp only[Qbq,if_true];rw[e2];exact e3,q⟩
     |_=>exact q.elim
def G_{Γ:dh}{S:aK}{f:eJ}{Q:List D->aK->Prop}(h:E f Γ S fun p S1=>p.2.isL=true/\∃ss,q0 p.1=some ss/\(p.1.length<=3/\ss.Nodup)/\Q (tq ss p.1) S1):E (xZ f) Γ S Q:=by
 obtain⟨p,S1,e1,l,ss,h1,h2,q⟩:=h
 exact⟨_,S1,by unfold xZ;rw[e1];simp only[Qbq];rw[Qhq l,h1];simp only[Qbq];rw[Qhq h2],q⟩
def CU{α:Type}{f:α->D}{ss:List Str}{xs:List α}(a0:α)(h3:xs.length<=3):∃ys:List α,ys.Perm xs/\tq ss (xs.map f)=ys.map f:=by
 refine⟨Zp.sortBy ss a0 xs,Zp.eO ss xs h3,?_⟩
 have hl:(tq ss (xs.map f)).length=((Zp.sortBy ss a0 xs).map f).length:=by
  unfold tq
  rw[(Zp.eO ss (xs.map f) (by simpa using h3)).length_eq,lQm,lQm,(Zp.eO ss xs h3).length_eq]
 apply List.ext_getElem?
 intro i
 cases e:(tq ss (xs.map f))[i]? with
 | none=>
   rw[List.getElem?_eq_none_iff] at e
   rw[eq_comm,List.getElem?_eq_none_iff]
   omega
 | some d=>
   obtain⟨y,hy,r⟩:=uf (R:=fun(d:D) (a:α)=>d=f a) (ss:=ss) (xs:=xs.map f) (ys:=xs) (d:=.non) (d':=a0) (by simp) (by simpa using h3) (fun i d hd=>by
     rw[gQm] at hd
     obtain⟨y,hy,e⟩:=oQm.mp hd
     exact⟨y,hy,e.symm⟩) i d e
   rw[gQm,hy,r]
   rfl
end DL
namespace W28
open PySem PySem.Spec L2 DL
def aZ(rs:List Rm):List (Str×Str):=rs.flatMap fun r=>r.ae.map fun p=>(r.name,p.1)
def xO.sub{gs gs':List (Str×Str)}{r:Rm}(h:xO gs r)(hs:∀g∈gs,g∈gs'):xO gs' r:={h with pr:=fun p hp=>⟨(h.pr p hp).1.sub hs,(h.pr p hp).2⟩}
theorem BF:∀rs:List Rm,q0 (rs.map Rm.d)=some (rs.map (·.name))
 | []=>rfl
 | r::rs=>by
   show q0 (Rm.d r::rs.map Rm.d)=_
   simp only[Rm.d,q0]
   rw[BF rs]
   rfl
def zZ{S:aK}{Γ:dh}{i j v:Nat}{rs:List Rm}{f:eJ}{Q:Out->Prop}{tg:Tag}(hv:v<Γ.length)(hj:Γ[j]?=some (some (.ref i)))(hS:S[i]?=some (.lst []))
  (hf:∀(R:List D×Tag->aK->Prop),R (rs.map Rm.d,tg) S->E f Γ S R) (hs:∀o,tg.stays (S.set i o) (rs.map Rm.d)) (nvj:v≠j) (hd:∀r∈rs,r.ae.length<=6) (hl:rs.length<=3)
  (q:∀o,Q (.nx (Γ.set v o) (S.set i (.lst ((aZ rs).map dF))))):
  T (lU (jq f) (cC v) (nX (uP (aq j) (iM (cx [none,some v] (jq (bu (aE aW (aq v) (cF (.int 4))))) (cC 0) cW (bA (ao (aE aW (aq 1) (cF (.int 0))) (ao (aE aW (aq 0) (cF (.int 0))) aw)))))))) Γ S Q:=by
 refine kN (rK (hf _ ?_))
 have si:i<S.length:=(gQs.mp hS).1
 have vget:∀o:Option D,(Γ.set v o)[v]?=some o:=fun o=>Qyq hv
 have jget:∀o:Option D,(Γ.set v o)[j]?=some (some (.ref i)):=fun o=>by rw[QKq nvj];exact hj
 refine⟨fun n Γ' S'=>(n=0->Γ'=Γ)/\(∃o,Γ'=Γ.set v o)/\S'=S.set i (.lst ((aZ (rs.take n)).map dF)),⟨fun _=>rfl,?_,?_⟩,fun n Γ' S' h=> ?_,fun n d Γ' S' hd' ⟨_,⟨o,hΓ⟩,hS'⟩=> ?_,fun Γ' S' ⟨h0,⟨o,hΓ⟩,hS'⟩=> ?_⟩
 ·exact⟨Γ[v],by rw[List.set_getElem_self]⟩
 ·apply List.ext_getElem?
  intro x
  rw[List.getElem?_set]
  split
  ·rename_i e
   subst e
   rw[hS]
   rfl
  ·rfl
 ·rw[h.2.2];exact hs _
 ·obtain⟨r,hr,rfl⟩:∃r,rs[n]?=some r/\d=r.d:=by
   rw[gQm] at hd'
   obtain⟨z,hz,e⟩:=oQm.mp hd'
   exact⟨z,hz,e.symm⟩
  subst hΓ hS'
  have hn:=(gQs.mp hr).1
  refine bB (jn (CB ?_))
  rw[List.set_set]
  refine cG (jget _) ?_
  refine⟨_,_,rfl,cX hS,Aw (Ao (fun d=>match d with|.tup (a::_)=>.tup [.str r.name,a]|d=>d) ?_)⟩
  refine i_ (nH (cG (vget _) (DT (ay rfl (eK ?_)))))
  have hdl:=hd r (mQg hr)
  refine⟨trivial,by simp;omega,fun d hd=> ?_,?_⟩
  ·obtain⟨p,_,rfl⟩:=Qkq.mp hd
   have sg:(mD [none,some v] (Γ.set v (some r.d))).set 0 (some (jU p))= [some (jU p),some r.d]:=by
    show [some (jU p),(Γ.set v (some r.d)).getD v none]=_
    rw[Qlq,vget]
    rfl
   rw[sg]
   symm
   apply ay rfl ?_
   apply ay rfl ?_
   exact⟨by show 2<=_;decide,rfl,rfl⟩
  ·have lg:∀l:List Rm,(∀r∈l,r.ae.length<=6)->(aZ l).length<=6*l.length:=by
    intro l
    induction l with
    |nil=>intro _;simp[aZ]
    | cons a l ih=>
      intro h
      have:=ih fun r hr=>h r (Qpq _ hr)
      have:=h a (QBq ..)
      simp only[aZ,QSq,lQa,lQm,Qnq] at *
      omega
   have lt:=lg (rs.take n) fun r hr=>hd r (List.mem_of_mem_take hr)
   rw[Qxq] at lt
   refine⟨_,cX hS,⟨rfl,?_⟩,fun z=>absurd z (by omega),⟨_,rfl⟩,?_⟩
   ·simp only[lQm]
    exact nQl (bG (by omega))
   ·rw[List.set_set,QYq,hr]
    congr 2
    simp only[aZ,List.flatMap_append,Qzq,Option.toList_some,QSq,List.flatMap_nil,List.append_nil,QPq]
    rfl
 ·subst hΓ hS'
  rw[lQm,QEq]
  exact q o
def Ha(stem:Str):∀a b:Str,stem++a=stem++b->a=b:=by
 intro a b h
 have h1:(stem++a).cps.toList=(stem++b).cps.toList:=by rw[h]
 have e:∀c:Str,(stem++c).cps.toList=stem.cps.toList++c.cps.toList:=fun c=>by
  show(stem.cps++c.cps).toList=_
  simp
 rw[e,e] at h1
 exact Str.ext' (Array.toList_inj.mp (List.append_cancel_left h1))
def Dd(stem:Str):(six.map (stem++·)).Nodup:=by
 have base:six.Nodup:=by decide +kernel
 exact List.Pairwise.map (R:=(·≠·)) (S:=(·≠·)) _ (fun a b n e=>n (Ha stem a b e)) base
def FX{S S0:aK}{k m many:Nat}{Q:Res->aK->Prop}(x:Ex k S0 S)(nm:m≠k)(gm:S[m]?=some (.lst [.str "at once",.str "when free"]))(hm:many<=3)
  (h:∀(rs:List Rm) (S':aK),(rs.map (·.name)).Nodup->rs.length<=3->(∀r∈rs,xO (aZ rs) r)->Ex k S0 S'->Ex k S S'->S'.length=S.length->Q (.d (.tup (rs.map Rm.d))) S'):
  Fn i3 [.ref k,.int many,.ref m,.int 2] S Q:=by
 have y:Ex k S S:=by obtain⟨a,b,c,hh⟩:=x.pot;exact Ex.refl hh
 have kl:=x.lt
 have ml:=(gQs.mp gm).1
 refine cp ?_
 unfold qB
 symm
 apply iT y (by omega) (by omega) (by decide) fun names S1 hp hnl e1 e1' l1=> ?_
 refine⟨by decide,?_⟩
 have nn:names.Nodup:=by
  obtain⟨l,hp⟩:=hp
  exact(List.nodup_append.mp (hp.nodup_iff.mpr (Dd _))).1
 generalize ha:S1.length=a
 generalize hr:a+1=r
 have hlen0:(S1++ [O.lst (names.map D.str)]).length=r:=by simp[ha,hr]
 rw[hlen0]
 have e2:Ex k S (S1++ [O.lst (names.map D.str)]++ [O.lst []]):=e1.app.app
 have ga:(S1++ [O.lst (names.map D.str)]++ [O.lst []])[a]?=some (.lst (names.map D.str)):=by rw[←ha];exact bh aX
 have gr:(S1++ [O.lst (names.map D.str)]++ [O.lst []])[r]?=some (.lst []):=by rw[←hlen0];exact aX
 have hk1:=e1.lt
 generalize (S1++ [O.lst (names.map D.str)]++ [O.lst []])=S2 at e2 ga gr⊢
 have sa:S.length<=a:=by rw[←ha];exact e1.len
 have ka:a≠k:=by omega
 have kr:r≠k:=by omega
 refine cy (Ll (fun q Γ' S'=>∃(o6 o7 o8:Option D) (lf:List Str) (rs:List Rm),Γ'= [some (.ref k),some (.int many),some (.ref m),some (.int 2),some (.ref a),some (.ref r),o6,o7,o8]/\Ex k S S'/\S'[a]?=some (.lst (lf.map D.str))/\S'[r]?=some (.lst (rs.map Rm.d))/\lf.length=q/\(rs.map (·.name)++lf).Perm names/\∀x∈rs,xO (aZ rs) x) ?_ 4 names.length _ _ (by omega) ?_)
 ·rintro q Γ' S3 ⟨o6,o7,o8,lf,rs,rfl,e3,ga3,gr3,hq,hpm,hok⟩
  have hlen:=hpm.length_eq
  rw[lQa,lQm] at hlen
  symm
  refine cv ga3 ?_
  refine⟨⟨rfl,ga3⟩,?_⟩
  dsimp only
  refine bf (fun c=> ?_) (fun c=> ?_)
  ·have hl0:0<lf.length:=by
    cases lf with
    |nil=>simp at c
    |cons a b=>simp
   apply⟨lf.length-1,by omega,?_⟩
   refine⟨by decide,?_⟩
   refine cy ?_
   have k3:S3.length≠k:=by have:=e3.lt;omega
   have r3:=(gQs.mp gr3).1
   have a3:=(gQs.mp ga3).1
   have stay:∀o,Tag.stays ((S3++ [O.lst []]).set S3.length o) (rs.map Rm.d) (.st r):=fun o=>fu (by omega) (bh gr3)
   refine zZ (i:=S3.length) (j:=6) (v:=7) (rs:=rs) (tg:=.st r) (by simp) rfl aX (fun R hR=>i_ (cG rfl (cv (bh gr3) hR))) stay (by decide) (fun r hr=>(hok r hr).l3) (by omega) (fun o=> ?_)
   have e4:Ex k S ((S3++ [O.lst []]).set S3.length (.lst ((aZ rs).map dF))):=e3.app.put e3.len kl
   have ga4:((S3++ [O.lst []]).set S3.length (.lst ((aZ rs).map dF)))[a]?=some (.lst (lf.map D.str)):=fu (by omega) (bh ga3)
   have gr4:((S3++ [O.lst []]).set S3.length (.lst ((aZ rs).map dF)))[r]?=some (.lst (rs.map Rm.d)):=fu (by omega) (bh gr3)
   have gg4:((S3++ [O.lst []]).set S3.length (.lst ((aZ rs).map dF)))[S3.length]?=some (.lst ((aZ rs).map dF)):=cX aX
   have lg:(aZ rs).length<=100:=by
    have gen:∀l:List Rm,(∀r∈l,r.ae.length<=6)->(aZ l).length<=6*l.length:=by
     intro l
     induction l with
     |nil=>intro _;simp[aZ]
     | cons a l ih=>
       intro h
       have:=ih fun r hr=>h r (Qpq _ hr)
       have:=h a (QBq ..)
       simp only[aZ,QSq,lQa,lQm,Qnq] at *
       omega
    have:=gen rs fun r hr=>(hok r hr).l3
    omega
   generalize ((S3++ [O.lst []]).set S3.length (.lst ((aZ rs).map dF)))=S4 at e4 ga4 gr4 gg4⊢
   dsimp only
   apply cy (zK (kQ ?_))
   apply⟨_,_,rfl,ga4,?_⟩
   apply cv ga4 ?_
   refine bU e4 (by simp only[lQm];omega) (by simp only[lQm];omega) fun j S5 hj e5 e5' l5=> ?_
   dsimp only
   symm
   have hj':j<lf.length:=by simpa using hj
   have ga5:=e5'.keep _ _ ka ga4
   refine⟨_,ga5,?_⟩
   refine LN (d:=((lf.map D.str).eraseIdx j,D.str lf[j])) ?_ ?_
   ·simp only[m_]
    rw[Qhq ⟨by omega,by omega⟩,lQm,HP hj' (by omega)]
    simp[gQe hj']
   dsimp only
   refine jn (kQ ?_)
   have e6:Ex k S (S5.set a (.lst ((lf.map D.str).eraseIdx j))):=e5.put sa kl
   have ga6:(S5.set a (.lst ((lf.map D.str).eraseIdx j)))[a]?=some (.lst ((lf.eraseIdx j).map D.str)):=by rw[cX ga5,p8]
   have gr6:(S5.set a (.lst ((lf.map D.str).eraseIdx j)))[r]?=some (.lst (rs.map Rm.d)):=fu (by omega) (e5'.keep _ _ kr gr4)
   have gg6:(S5.set a (.lst ((lf.map D.str).eraseIdx j)))[S3.length]?=some (.lst ((aZ rs).map dF)):=fu (by omega) (e5'.keep _ _ k3 gg4)
   generalize (S5.set a (.lst ((lf.map D.str).eraseIdx j)))=S6 at e6 ga6 gr6 gg6⊢
   symm
   apply⟨_,_,rfl,gr6,?_⟩
   apply Hx (goals:=aZ rs) e6 k3 nm gg6 (e6.keep _ _ nm gm) lg fun rm S7 hrn hro e7 e7' l7=> ?_
   have gr7:=e7'.keep _ _ kr gr6
   refine⟨_,gr7,fA (bG (by simp only[lQm];omega)) ?_⟩
   have hgo:aZ (rs++ [rm])=aZ rs++rm.ae.map fun p=>(rm.name,p.1):=by simp[aZ]
   refine⟨_,_,_,lf.eraseIdx j,rs++ [rm],rfl,e7.put (by omega) kl,fu (by omega) (e7'.keep _ _ ka ga6),?_,?_,?_,fun q hq=> ?_⟩
   ·rw[cX gr7]
    simp
   ·rw[List.length_eraseIdx_of_lt hj']
   ·rw[Qzq]
    show((rs.map (·.name)++ [rm.name])++lf.eraseIdx j).Perm names
    rw[hrn]
    exact yB hj' hpm
   ·rw[hgo]
    rcases mQa.mp hq with hq|hq
    ·exact(hok q hq).sub fun g hg=>List.mem_append_left _ hg
    ·rw[Qfq.mp hq,hrn]
     exact hro
  ·have hl0:lf= []:=by
    cases lf with
    |nil=>rfl
    |cons a b=>simp at c
   subst hl0
   rw[List.append_nil] at hpm
   apply qW (Jc (Aw (G_ ?_)))
   refine cv gr3 ?_
   have l3:rs.length<=3:=by simp at hlen;omega
   refine⟨rfl,_,BF rs,⟨by simpa using l3,hpm.nodup_iff.mpr nn⟩,?_⟩
   obtain⟨ys,hy,he⟩:=CU (f:=Rm.d) (ss:=rs.map (·.name)) (xs:=rs) ⟨"","",[],[],[]⟩ l3
   rw[he]
   refine lA e3 x.lt (fun k z=>(nomatch z)) (by simp only[cB];exact bg fun q _=>dG q.low) fun a b c=> ?_
   refine h ys _ ((hy.map _).nodup_iff.mpr (hpm.nodup_iff.mpr nn)) (by rw[hy.length_eq];exact l3) (fun q hq=>(hok q (hy.mem_iff.mp hq)).sub fun g hg=> ?_) x.set y.set (by simp)
   simp only[aZ,QOq] at hg⊢
   obtain⟨z,hz,hg⟩:=hg
   exact⟨z,hy.mem_iff.mpr hz,hg⟩
 ·exact⟨none,none,none,names,[],rfl,e2,ga,gr,rfl,by simp,by simp⟩
def JS{S S0:aK}{k g w p:Nat}{words passes:List Str}{goals:List (Str×Str)}{Q:Res->aK->Prop}(x:Ex k S0 S)(ng:g≠k)(nw:w≠k)(np:p≠k)(gg:S[g]?=some (.lst (goals.map dF)))(gw:S[w]?=some (.lst (words.map D.str)))(gp:S[p]?=some (.lst (passes.map D.str)))
  (lg:goals.length<500) (lw:words.length<500) (lp:passes.length<500)
  (h:∀(rs:List Rw) (S':aK),sy ⟨true,words,words,[],goals,passes⟩ rs->0<rs.length->rs.length<=9->Ex k S0 S'->Ex k S S'->S'.length=S.length->Q (.d (.tup (rs.map Rw.d))) S'):
  Fn mf [.ref k,.ref g,.ref w,.ref p,.int 4] S Q:=by
 have y:Ex k S S:=by obtain⟨a,b,c,hh⟩:=x.pot;exact Ex.refl hh
 have kl:=x.lt
 have gl:=(gQs.mp gg).1
 have wl:=(gQs.mp gw).1
 have pl:=(gQs.mp gp).1
 generalize hsc:(⟨true,words,words,[],goals,passes⟩:Sc)=sc at h
 have so:sc.own=true:=by rw[←hsc]
 have sw:sc.ws=words:=by rw[←hsc]
 have sp:sc.ps=words:=by rw[←hsc]
 have sb:sc.bs= []:=by rw[←hsc]
 have sg:sc.gs=goals:=by rw[←hsc]
 have st:sc.ts=passes:=by rw[←hsc]
 refine cp ?_
 unfold vR
 symm
 refine⟨by decide,?_⟩
 generalize hr:S.length=r
 have ir:(S++ [O.lst []])[r]?=some (.lst []):=by rw[←hr];exact aX
 have e0:Ex k S (S++ [O.lst []]):=y.app
 generalize (S++ [O.lst []])=S1 at e0 ir⊢
 have nr:r≠k:=by omega
 apply cy (kN ?_)
 apply bU e0 (by decide) (by decide) fun many S2 hmany e2 e2' l2=> ?_
 refine⟨_,rfl,⟨by omega,by omega⟩,?_⟩
 let Inv:Nat->dh->aK->Prop:=fun n Γ' S'=>∃(o6 o7:Option D) (rs:List Rw),Γ'= [some (.ref k),some (.ref g),some (.ref w),some (.ref p),some (.int 4),some (.ref r),o6,o7]∧
  Ex k S S'/\S'[r]?=some (.lst (rs.map Rw.d))/\rs.length<=2*n/\n<=rs.length/\n<=4/\∀q∈rs,q.Ok sc rs.length
 have small:∀m:Nat,m<=100->m<sizeLine:=fun m hm=>Nat.lt_of_le_of_lt hm (by decide)
 have lw':sc.ws.length<1000:=by rw[sw];omega
 have lp':sc.ps.length<900:=by rw[sp];omega
 have lg':sc.gs.length<1000:=by rw[sg];omega
 have up:∀{t':Tr} {d:Nat},t'.Ok sc.ws []->t'.dep<=d+1->d<=3->F7 sc t':=fun h1 h2 h3=>⟨by rw[sb];exact h1,by omega⟩
 refine⟨Inv,⟨_,_,[],rfl,e2,e2'.keep _ _ nr ir,by simp,by simp,by omega,by simp⟩,fun _ _ _ _=>trivial,?_,?_⟩
 ·rintro n d Γ' S3 hd ⟨o6,o7,rs,rfl,e3,hr3,hl1,hl2,hn4,hok⟩
  have hn4':n<4:=by
   have:=(gQs.mp hd).1
   simp only[kS,lQm,QVq] at this
   omega
  apply bB ?_
  refine bU e3 (by decide) (by decide) fun way S4 hway e4 e4' l4=> ?_
  dsimp only
  have hr4:=e4'.keep _ _ nr hr3
  have gw4:=e4.keep _ _ nw gw
  have gg4:=e4.keep _ _ ng gg
  have gp4:=e4.keep _ _ np gp
  rw[←sw] at gw4
  rw[←sg] at gg4
  rw[←st] at gp4
  have gw4':=gw4
  rw[sw,←sp] at gw4'
  have more:∀(ms:List Rw) (S5:aK),Ex k S S5->S5[r]?=some (.lst (rs.map Rw.d++ms.map Rw.d))->1<=ms.length->ms.length<=2->(∀q∈ms,q.Ok sc (rs.length+ms.length))→
    Inv (n+1) [some (.ref k),some (.ref g),some (.ref w),some (.ref p),some (.int 4),some (.ref r),some d,some (.int way)] S5:=by
   intro ms S5 e5 h2 h3 h4 h5
   refine⟨_,_,rs++ms,rfl,e5,by rw[h2,Qzq],by rw[lQa];omega,by rw[lQa];omega,by omega,fun q hq=> ?_⟩
   rw[lQa]
   rcases mQa.mp hq with hq|hq
   ·exact(hok q hq).mono (by omega)
   ·exact h5 q hq
  have lr:(rs.map Rw.d).length=rs.length:=by simp
  have said:∀S5 (q5:List Rw),Ex k S S5->S5[r]?=some (.lst (q5.map Rw.d))->q5.length<=50->∀(R:Out->Prop),(∀(t:Tr) (S6:aK),F7 sc t->Ex k S S6->S6[r]?=some (.lst ((q5++ [Rw.say t]).map Rw.d))->R (.nx [some (.ref k),some (.ref g),some (.ref w),some (.ref p),some (.int 4),some (.ref r),some d,some (.int way)] S6))→
    T (nX (rD iQ (aq 5) (ao (bA (ao (cF (.str "say")) (ao (aA (bF 4) (ao (aq 0) (ao (aq 2) (ao (cM (cg aw)) (ao (cF (.int 1)) aw))))) aw))) aw))) [some (.ref k),some (.ref g),some (.ref w),some (.ref p),some (.int 4),some (.ref r),some d,some (.int way)] S5 R:=by
   intro S5 q5 e5 hr5 hl5 R hR
   apply jn (kQ ?_)
   apply⟨_,_,rfl,hr5,?_⟩
   apply⟨by decide,?_⟩
   have w5:=e5.keep _ _ nw gw
   rw[←sw] at w5
   refine jk 4 (deep:=1) (bs:= []) (e5.app (G:= [O.lst []])) nw (j:=S5.length) (by have:=e5.lt;omega) (bh w5) aX lw' (by decide) (by decide) fun t3 S6 h3 h4 e6 e6' l6=> ?_
   symm
   refine⟨by show 2<=_;decide,?_⟩
   symm
   have hr6:=e6'.keep _ _ nr (bh hr5)
   refine⟨_,hr6,fA (small _ (by simp;omega)) ?_⟩
   refine hR t3 _ (up h3 h4 (by omega)) (e6.put (by omega) kl) ?_
   rw[cX hr6]
   simp[Rw.d]
  refine f_ (sf rfl rfl gg4 fun c hc=>bf (fun c1=> ?_) (fun c1=> ?_))
  ·apply jn (kQ ?_)
   apply⟨_,_,rfl,hr4,?_⟩
   apply Il (n:=rs.length+1) (sc:=sc) e4 ng nw nw gg4 gw4' gw4 (by simpa using hc c1) lg' lp' lw' fun q S5 h1 e5 e5' l5=> ?_
   have hr5:=e5'.keep _ _ nr hr4
   refine⟨_,hr5,fA (small _ (by rw[lr];omega)) ?_⟩
   exact more [q] _ (e5.put (by omega) kl) (cX hr5) (by simp) (by simp) fun q' hq'=>by rw[Qfq.mp hq'];exact h1
  refine f_ (r8 rfl rfl gp4 fun c hc=>bf (fun c1=> ?_) (fun c1=> ?_))
  ·apply jn (kQ ?_)
   apply⟨_,_,rfl,hr4,?_⟩
   apply⟨by decide,?_⟩
   refine bU (e4.app (G:= [O.lst [.str "take",.str "give"]])) (by decide) (by decide) fun v S5 hv e5 e5' l5=> ?_
   dsimp only
   have hc2:∃(f:Str->Rw) (s:Str),(∀z,(f z).d=.tup [.str s,.str z])/\(∀z n,z∈sc.ts->(f z).Ok sc n)/\kL ([.str "take",.str "give"]:List D) (v:Int)=some (.str s):=by
    rcases v with _|_|v
    ·exact⟨.take,"take",fun _=>rfl,fun z n hz=>⟨so,hz⟩,rfl⟩
    ·exact⟨.give,"give",fun _=>rfl,fun z n hz=>⟨so,hz⟩,rfl⟩
    ·omega
   obtain⟨f,s,hf,hfo,hs⟩:=hc2
   refine fW (e5'.keep _ _ (by have:=e4.lt;omega) aX) hs ?_
   symm
   refine fg e5 np (e5'.keep _ _ np (bh gp4)) (hc c1) (by rw[st];simp;omega) eC gC fun v2 S6 hv2 e6 e6' l6=> ?_
   obtain⟨z,hz,rfl⟩:=Qkq.mp hv2
   symm
   refine⟨by show 2<=_;decide,?_⟩
   symm
   have hr6:=e6'.keep _ _ nr (e5'.keep _ _ nr (bh hr4))
   refine⟨_,hr6,fA (small _ (by rw[lr];omega)) ?_⟩
   refine more [f z] _ (e6.put (by omega) kl) ?_ (by simp) (by simp) fun q' hq'=>by rw[Qfq.mp hq'];exact hfo _ _ hz
   rw[cX hr6]
   simp[hf]
  refine f_ (r8 rfl rfl gp4 fun c hc=>bf (fun c1=> ?_) (fun c1=> ?_))
  ·apply jn (kQ ?_)
   apply⟨_,_,rfl,hr4,?_⟩
   refine fg e4 np gp4 (hc c1) (by rw[st];simp;omega) eC gC fun v2 S5 hv2 e5 e5' l5=> ?_
   obtain⟨z,hz,rfl⟩:=Qkq.mp hv2
   symm
   refine fg e5 np (e5'.keep _ _ np gp4) (hc c1) (by rw[st];simp;omega) eC gC fun v3 S6 hv3 e6 e6' l6=> ?_
   obtain⟨z2,hz2,rfl⟩:=Qkq.mp hv3
   symm
   refine⟨by show 3<=_;decide,?_⟩
   symm
   have hr6:=e6'.keep _ _ nr (e5'.keep _ _ nr hr4)
   refine⟨_,hr6,fA (small _ (by rw[lr];omega)) ?_⟩
   exact more [.pass z z2] _ (e6.put (by omega) kl) (cX hr6) (by simp) (by simp) fun q' hq'=>by rw[Qfq.mp hq'];exact⟨so,hz,hz2⟩
  refine f_ (r8 rfl rfl gw4 fun c hc=>bf (fun c1=> ?_) (fun c1=> ?_))
  ·apply jn (kQ ?_)
   apply⟨_,_,rfl,hr4,?_⟩
   refine fg e4 nw gw4 (hc c1) (by simp;omega) eC gC fun v2 S5 hv2 e5 e5' l5=> ?_
   obtain⟨z,hz,rfl⟩:=Qkq.mp hv2
   symm
   apply⟨by decide,?_⟩
   refine jk 4 (deep:=2) (bs:= []) (e5.app (G:= [O.lst []])) nw (j:=S5.length) (by have:=e5.lt;omega) (bh (e5'.keep _ _ nw gw4)) aX lw' (by decide) (by decide) fun t3 S6 h3 h4 e6 e6' l6=> ?_
   symm
   refine⟨by show 3<=_;decide,?_⟩
   symm
   have hr6:=e6'.keep _ _ nr (bh (e5'.keep _ _ nr hr4))
   refine⟨_,hr6,fA (small _ (by rw[lr];omega)) ?_⟩
   exact more [.put z t3] _ (e6.put (by omega) kl) (cX hr6) (by simp) (by simp) fun q' hq'=>by rw[Qfq.mp hq'];exact⟨by rw[sp,←sw];exact hz,up h3 h4 (by omega)⟩
  refine f_ (Im rfl fun c=>bf (fun c1=> ?_) (fun c1=> ?_))
  ·apply cy (jn (kQ ?_))
   apply⟨_,_,rfl,hr4,?_⟩
   apply⟨by decide,?_⟩
   refine jk 4 (deep:=2) (bs:= []) (e4.app (G:= [O.lst []])) nw (j:=S4.length) (by have:=e4.lt;omega) (bh gw4) aX lw' (by decide) (by decide) fun t3 S5 h3 h4 e5 e5' l5=> ?_
   symm
   have hr5:=e5'.keep _ _ nr (bh hr4)
   apply cv hr5 ?_
   refine⟨by show 3<=_;decide,?_⟩
   symm
   refine⟨_,hr5,fA (small _ (by rw[lr];omega)) ?_⟩
   dsimp only
   have hr6:(S5.set r (.lst (rs.map Rw.d++ [.tup [.str "unless",t3.d,.int (((rs.map Rw.d).length:Int)+2)]])))[r]?=some (.lst ((rs++ [Rw.unl t3 (rs.length+2)]).map Rw.d)):=by
    rw[cX hr5]
    simp[Rw.d]
   refine said _ (rs++ [Rw.unl t3 (rs.length+2)]) (e5.put (by omega) kl) hr6 (by simp;omega) _ fun t4 S6 h5 e6 hr7=> ?_
   refine more [.unl t3 (rs.length+2),.say t4] _ e6 (by rw[hr7];simp) (by simp) (by simp) fun q hq=> ?_
   simp only[Qsq,QXq,or_false] at hq
   rcases hq with rfl|rfl
   ·exact⟨up h3 h4 (by omega),Qmq _⟩
   ·exact⟨so,h5⟩
  ·refine said _ rs e4 hr4 (by omega) _ fun t4 S6 h5 e6 hr7=> ?_
   exact more [.say t4] _ e6 (by rw[hr7];simp) (by simp) (by simp) fun q' hq'=>by rw[Qfq.mp hq'];exact⟨so,h5⟩
 ·rintro Γ' S3 ⟨o6,o7,rs,rfl,e3,hr3,hl1,hl2,hn4,hok⟩
  have hlen:(kS 0 (1+(many:Int))).length=many+1:=by simp only[kS,lQm,QVq];omega
  rw[hlen] at hl1 hl2 hn4
  have fin:∀(rs:List Rw) (S4:aK),Ex k S S4->S4[r]?=some (.lst (rs.map Rw.d))->(∀q∈rs,q.Ok sc rs.length)->0<rs.length->rs.length<=9->T (cP (tupQ (ip (bu (aq 5))))) [some (.ref k),some (.ref g),some (.ref w),some (.ref p),some (.int 4),some (.ref r),o6,o7] S4 fun o=>match o with
    |.nx _ S'=>Op (settle S .non S') fun p=>Q p.1 p.2|.rt d S'=>Op (settle S d S') fun p=>Q p.1 p.2|.rl l S'=>Op (dJ S l S') fun p=>Q p.1 p.2|_=>False:=by
   intro rs S4 e4 hr4 hok h1 h2
   symm
   refine cv hr4 ?_
   refine⟨rfl,?_⟩
   dsimp only
   refine lA e4 x.lt (fun k z=>(nomatch z)) (by simp only[cB];exact bg fun q _=>dG q.low) fun a b c=> ?_
   exact h rs _ hok h1 h2 x.set y.set (by simp)
  apply cy (f_ ?_)
  apply bU e3 (by decide) (by decide) fun v S4 hv e4 e4' l4=> ?_
  refine eU ?_
  dsimp only
  have hr4:=e4'.keep _ _ nr hr3
  refine bf (fun c=> ?_) (fun c=> ?_)
  ·apply jn (kQ ?_)
   apply⟨_,_,rfl,hr4,?_⟩
   apply cv hr4 ?_
   refine bU e4 (by simp only[lQm];omega) (by simp only[lQm];omega) fun v2 S5 hv2 e5 e5' l5=> ?_
   symm
   refine⟨by show 2<=_;decide,?_⟩
   symm
   have hr5:=e5'.keep _ _ nr hr4
   refine⟨_,hr5,fA (small _ (by simp;omega)) ?_⟩
   dsimp only
   simp only[lQm] at hv2
   refine fin (rs++ [Rw.go v2]) _ (e5.put (by omega) kl) (by rw[cX hr5];simp[Rw.d]) (fun q hq=> ?_) (by simp) (by simp;omega)
   rw[lQa]
   rcases mQa.mp hq with hq|hq
   ·exact(hok q hq).mono (by simp)
   ·rw[Qfq.mp hq]
    show v2<=rs.length+1
    omega
  ·exact cN (fin rs S4 e4 hr4 hok (by omega) (by omega))
def mJ(p:List (Str×Nat)×List Rw):D:=.tup [.tup (p.1.map vH),.tup (p.2.map Rw.d)]
structure eM where
 rooms:List Rm
 passes:List (Str×Nat)
 shared:List (Str×Nat)
 af:List (List (Str×Nat)×List Rw)
def eM.d(w:eM):D:=.tup [.tup (w.rooms.map Rm.d),.tup (w.passes.map vH),.tup (w.shared.map vH),.tup (w.af.map mJ)]
structure Bc(gs:List (Str×Str))(shared passes:List Str)(h:List (Str×Nat)×List Rw):Prop where
 tv:∀p∈h.1,p.2<=9
 l1:h.1.length<=6
 l2:h.2.length<=9
 l0:0<h.2.length
 pr:sy ⟨true,h.1.map (·.1)++shared,h.1.map (·.1)++shared,[],gs,passes⟩ h.2
structure kK(w:eM):Prop where
 nd:(w.rooms.map (·.name)).Nodup
 l1:w.rooms.length<=3
 l2:w.passes.length<=6
 l3:w.shared.length<=6
 l4:w.af.length<=4
 l0:0<w.af.length
 pv:∀p∈w.passes,p.2<=9
 sv:∀p∈w.shared,p.2<=9
 rm:∀r∈w.rooms,xO (aZ w.rooms) r
 hd:∀h∈w.af,Bc (aZ w.rooms) (w.shared.map (·.1)) (w.passes.map (·.1)) h
def FD(p:List (Str×Nat)×List Rw):cB 0 (mJ p)=true:=by
 simp only[mJ,cB,cc,Bool.and_true,Bool.true_and,QCq]
 exact⟨bg fun _ _=>rfl,bg fun r _=>r.low⟩
def eM.low(w:eM):cB 0 w.d=true:=by
 simp only[eM.d,cB,cc,Bool.and_true,Bool.true_and,QCq]
 exact⟨bg fun r _=>r.low,bg fun _ _=>rfl,bg fun _ _=>rfl,bg fun p _=>FD p⟩
def C8{rs:List Rm}(hd:∀r∈rs,r.ae.length<=6):(aZ rs).length<=6*rs.length:=by
 induction rs with
 |nil=>simp[aZ]
 | cons a l ih=>
   have:=ih fun r hr=>hd r (Qpq _ hr)
   have:=hd a (QBq ..)
   simp only[aZ,QSq,lQa,lQm,Qnq] at *
   omega
def FV{S S0:aK}{k af:Nat}{rs:List Rm}{Q:Res->aK->Prop}(x:Ex k S0 S)(h0:0<af)(h4:af<=4)(nd:(rs.map (·.name)).Nodup)(hl:rs.length<=3)(hok:∀r∈rs,xO (aZ rs) r)
  (h:∀(w:eM) (S':aK),kK w->Ex k S0 S'->Ex k S S'->S'.length=S.length->Q (.d w.d) S'):
  Fn i4 [.ref k,.tup (rs.map Rm.d),.int af,.int 2] S Q:=by
 have y:Ex k S S:=by obtain⟨a,b,c,hh⟩:=x.pot;exact Ex.refl hh
 have kl:=x.lt
 have gln:=C8 fun r hr=>(hok r hr).l3
 refine cp ?_
 unfold qI
 symm
 refine⟨by decide,?_⟩
 refine cy ?_
 refine zZ (i:=S.length) (j:=4) (v:=5) (rs:=rs) (tg:=.tu) (by simp) rfl aX (fun R hR=>i_ (cG rfl (eK hR))) (fun _=>trivial) (by decide) (fun r hr=>(hok r hr).l3) hl (fun o=> ?_)
 have e1:Ex k S ((S++ [O.lst []]).set S.length (.lst ((aZ rs).map dF))):=y.app.put (Qmq _) kl
 have gg1:((S++ [O.lst []]).set S.length (.lst ((aZ rs).map dF)))[S.length]?=some (.lst ((aZ rs).map dF)):=cX aX
 generalize ((S++ [O.lst []]).set S.length (.lst ((aZ rs).map dF)))=S1 at e1 gg1⊢
 generalize hg:S.length=g at gg1⊢
 have ng:g≠k:=by omega
 symm
 apply bU e1 (by decide) (by decide) fun np S2 hnp e2 e2' l2=> ?_
 apply iT e2 (by omega) (by omega) (by decide) fun passes S3 _ hpl e3 e3' l3=> ?_
 apply⟨by decide,?_⟩
 have k3:S3.length≠k:=by have:=e3.lt;omega
 have gg3:(S3++ [O.lst (passes.map D.str)])[g]?=some (.lst ((aZ rs).map dF)):=bh (e3'.keep _ _ ng (e2'.keep _ _ ng gg1))
 have gp3:(S3++ [O.lst (passes.map D.str)])[S3.length]?=some (.lst (passes.map D.str)):=aX
 have e3a:Ex k S (S3++ [O.lst (passes.map D.str)]):=e3.app
 have sl3:S.length<=S3.length:=e3.len
 have l3a:(S3++ [O.lst (passes.map D.str)]).length=S3.length+1:=by simp
 generalize (S3++ [O.lst (passes.map D.str)])=T3 at gg3 gp3 e3a l3a⊢
 refine bU (e3a.app (G:= [O.lst [.int 0,.int 0,.int 1,.int 2]])) (by decide) (by decide) fun v S4 hv e4 e4' l4=> ?_
 dsimp only
 obtain⟨ns,hns,ha⟩:∃n:Nat,n<=2/\kL ([.int 0,.int 0,.int 1,.int 2]:List D) (v:Int)=some (.int n):=by
  rcases v with _|_|_|_|v
  ·exact⟨0,by omega,rfl⟩
  ·exact⟨0,by omega,rfl⟩
  ·exact⟨1,by omega,rfl⟩
  ·exact⟨2,by omega,rfl⟩
  ·omega
 refine fW (e4'.keep _ _ (by have:=e3a.lt;omega) aX) ha ?_
 symm
 apply iT e4 (by omega) (by omega) (by decide) fun shared S5 _ hsl e5 e5' l5=> ?_
 refine⟨by decide,?_⟩
 have k5:S5.length≠k:=by have:=e5.lt;omega
 have gg5:(S5++ [O.lst (shared.map D.str)]++ [O.lst []])[g]?=some (.lst ((aZ rs).map dF)):=bh (bh (e5'.keep _ _ ng (e4'.keep _ _ ng (bh gg3))))
 have gp5:(S5++ [O.lst (shared.map D.str)]++ [O.lst []])[S3.length]?=some (.lst (passes.map D.str)):=bh (bh (e5'.keep _ _ k3 (e4'.keep _ _ k3 (bh gp3))))
 have gs5:(S5++ [O.lst (shared.map D.str)]++ [O.lst []])[S5.length]?=some (.lst (shared.map D.str)):=bh aX
 have h35:S3.length<S5.length:=by
  have:=e5'.len
  have:=e4'.len
  simp only[lQa,Qnq,QGq] at *
  omega
 have e6:Ex k S (S5++ [O.lst (shared.map D.str)]++ [O.lst []]):=e5.app.app
 generalize hr:S5.length+1=r
 have hlen0:(S5++ [O.lst (shared.map D.str)]).length=r:=by simp[hr]
 rw[hlen0]
 have gr:(S5++ [O.lst (shared.map D.str)]++ [O.lst []])[r]?=some (.lst []):=by rw[←hlen0];exact aX
 generalize (S5++ [O.lst (shared.map D.str)]++ [O.lst []])=S6 at e6 gg5 gp5 gs5 gr⊢
 have kr:r≠k:=by have:=e5.lt;omega
 apply cy (kN ?_)
 refine⟨_,rfl,⟨by omega,by omega⟩,?_⟩
 let Inv:Nat->dh->aK->Prop:=fun n Γ' S'=>∃(o9 o10 o11:Option D) (hs:List (List (Str×Nat)×List Rw)),Γ'= [some (.ref k),some (.tup (rs.map Rm.d)),some (.int af),some (.int 2),some (.ref g),o,some (.ref S3.length),some (.ref S5.length),some (.ref r),o9,o10,o11,none]∧
  Ex k S S'/\S'[g]?=some (.lst ((aZ rs).map dF))/\S'[S3.length]?=some (.lst (passes.map D.str))/\S'[S5.length]?=some (.lst (shared.map D.str))/\S'[r]?=some (.lst (hs.map mJ))/\hs.length=n/\(∀p∈hs,Bc (aZ rs) shared passes p)
 refine⟨Inv,⟨none,none,none,[],rfl,e6,gg5,gp5,gs5,gr,rfl,by simp⟩,fun _ _ _ _=>trivial,?_,?_⟩
 ·rintro n d Γ' S7 hd ⟨o9,o10,o11,hs,rfl,e7,gg7,gp7,gs7,gr7,hn,hpr⟩
  have hn4:n<4:=by
   have:=(gQs.mp hd).1
   simp only[kS,lQm,QVq] at this
   omega
  apply bB ?_
  apply⟨by decide,?_⟩
  refine bU (e7.app (G:= [O.lst [.int 0,.int 1,.int 1,.int 2]])) (by decide) (by decide) fun v S8 hv e8 e8' l8=> ?_
  dsimp only
  obtain⟨nw,hnw,ha⟩:∃n:Nat,n<=2/\kL ([.int 0,.int 1,.int 1,.int 2]:List D) (v:Int)=some (.int n):=by
   rcases v with _|_|_|_|v
   ·exact⟨0,by omega,rfl⟩
   ·exact⟨1,by omega,rfl⟩
   ·exact⟨1,by omega,rfl⟩
   ·exact⟨2,by omega,rfl⟩
   ·omega
  refine fW (e8'.keep _ _ (by have:=e7.lt;omega) aX) ha ?_
  symm
  apply iT e8 (by omega) (by omega) (by decide) fun own S9 _ hol e9 e9' l9=> ?_
  have k9:S9.length≠k:=by have:=e9.lt;omega
  have keep9:∀{i:Nat} {o:O},i≠k->S7[i]?=some o->(S9++ [O.lst (own.map D.str)])[i]?=some o:=fun n h=>bh (e9'.keep _ _ n (e8'.keep _ _ n (bh h)))
  have go9:(S9++ [O.lst (own.map D.str)])[S9.length]?=some (.lst (own.map D.str)):=aX
  have e9a:Ex k S (S9++ [O.lst (own.map D.str)]):=e9.app
  have gg9:=keep9 ng gg7
  have gp9:=keep9 k3 gp7
  have gs9:=keep9 k5 gs7
  have gr9:=keep9 kr gr7
  have r9:r<S9.length:=by
   have:=(gQs.mp gr7).1
   have:=e8'.len
   have:=e9'.len
   simp only[lQa,Qnq,QGq] at *
   omega
  generalize (S9++ [O.lst (own.map D.str)])=T9 at go9 e9a gg9 gp9 gs9 gr9⊢
  apply B0 ?_
  apply cv go9 ?_
  refine cv gs9 ?_
  refine⟨⟨rfl,rfl,go9,by simp only[lQm];exact nQl (bG (by omega))⟩,?_⟩
  rw[←Qzq]
  symm
  refine JS (words:=own++shared) (passes:=passes) (goals:=aZ rs) (e9a.app (G:= [O.lst ((own++shared).map D.str)])) ng (by have:=e9a.lt;omega) k3 (bh gg9) aX (bh gp9) (by omega) (by rw[lQa];omega) (by omega) fun pr S10 h1 h2 h3 e10 e10' l10=> ?_
  symm
  apply kQ ?_
  have gr10:=e10'.keep _ _ kr (bh gr9)
  apply⟨_,_,rfl,gr10,?_⟩
  apply B2 (m:=3) e10 rfl rfl (e10'.keep _ _ k9 (bh go9)) k9 (by decide) (by decide) (by omega) fun ts S11 ht1 ht2 e11 e11' l11=> ?_
  refine⟨by show 2<=_;decide,?_⟩
  symm
  have gr11:=e11'.keep _ _ kr gr10
  refine⟨_,gr11,fA (bG (by simp only[lQm];omega)) ?_⟩
  have kp:∀{i:Nat} {o:O},i≠k->i≠r->T9[i]?=some o->∀o',(S11.set r o')[i]?=some o:=fun n n2 h o'=>fu n2 (e11'.keep _ _ n (e10'.keep _ _ n (bh h)))
  have lt1:ts.length=own.length:=by rw[←ht1];simp
  refine⟨_,_,_,hs++ [(ts,pr)],rfl,e11.put (by omega) kl,kp ng (by omega) gg9 _,kp k3 (by omega) gp9 _,kp k5 (by omega) gs9 _,?_,by simp[hn],fun p hp=> ?_⟩
  ·rw[cX gr11]
   simp[mJ]
  ·rcases mQa.mp hp with hp|hp
   ·exact hpr p hp
   ·rw[Qfq.mp hp]
    refine⟨fun p hp=>by have:=ht2 p hp;omega,by show ts.length<=6;omega,h3,h2,?_⟩
    show sy ⟨true,ts.map (·.1)++shared,ts.map (·.1)++shared,[],_,_⟩ pr
    rw[ht1]
    exact h1
 ·rintro Γ' S7 ⟨o9,o10,o11,hs,rfl,e7,gg7,gp7,gs7,gr7,hn,hpr⟩
  have hn4:hs.length=af:=by
   rw[hn]
   simp only[kS,lQm,QVq]
   omega
  symm
  apply B2 (m:=3) e7 rfl rfl gp7 k3 (by decide) (by decide) (by omega) fun ps S8 hp1 hp2 e8 e8' l8=> ?_
  apply B2 (m:=3) e8 rfl rfl (e8'.keep _ _ k5 gs7) k5 (by decide) (by decide) (by omega) fun ss S9 hs1 hs2 e9 e9' l9=> ?_
  refine cv (e9'.keep _ _ kr (e8'.keep _ _ kr gr7)) ?_
  apply⟨rfl,?_⟩
  refine⟨by show 4<=_;decide,?_⟩
  have lp1:ps.length=passes.length:=by rw[←hp1];simp
  have ls1:ss.length=shared.length:=by rw[←hs1];simp
  refine lA (d:=(eM.mk rs ps ss hs).d) e9 x.lt (fun k z=>(nomatch z)) (dG (eM.low _)) fun a b c=> ?_
  refine h ⟨rs,ps,ss,hs⟩ _ ⟨nd,hl,by show ps.length<=6;omega,by show ss.length<=6;omega,by show hs.length<=4;omega,by show 0<hs.length;omega,fun p hp=>by have:=hp2 p hp;omega,fun p hp=>by have:=hs2 p hp;omega,hok,?_⟩ x.set y.set (by simp)
  show∀h∈hs,Bc (aZ rs) (ss.map (·.1)) (ps.map (·.1)) h
  rw[hs1,hp1]
  exact hpr
def wL{S S0:aK}{k:Nat}{Q:Res->aK->Prop}(x:Ex k S0 S)(h:∀(w:eM) (S':aK),kK w->Ex k S0 S'->Ex k S S'->S'.length=S.length->Q (.d w.d) S'):Fn eE [.ref k] S Q:=by
 have y:Ex k S S:=by obtain⟨a,b,c,hh⟩:=x.pot;exact Ex.refl hh
 have kl:=x.lt
 refine cp ?_
 unfold kJ
 symm
 apply⟨by decide,?_⟩
 refine bU (y.app (G:= [O.lst [.int 1,.int 2,.int 3,.int 1,.int 2,.int 0]])) (by decide) (by decide) fun v S1 hv e1 e1' l1=> ?_
 dsimp only
 obtain⟨n,hn,ha⟩:∃n:Nat,n<=3/\kL ([.int 1,.int 2,.int 3,.int 1,.int 2,.int 0]:List D) (v:Int)=some (.int n):=by
  rcases v with _|_|_|_|_|_|v
  ·exact⟨1,by omega,rfl⟩
  ·exact⟨2,by omega,rfl⟩
  ·exact⟨3,by omega,rfl⟩
  ·exact⟨1,by omega,rfl⟩
  ·exact⟨2,by omega,rfl⟩
  ·exact⟨0,by omega,rfl⟩
  ·omega
 apply fW (e1'.keep _ _ (by omega) aX) ha ?_
 apply⟨by decide,?_⟩
 refine FX (m:=S1.length) (e1.app (G:= [O.lst [.str "at once",.str "when free"]])) (by have:=e1.lt;omega) aX hn fun rs S2 nd hl hok e2 e2' l2=> ?_
 symm
 apply bU e2 (by decide) (by decide) fun v2 S3 hv2 e3 e3' l3=> ?_
 rw[show(1:Int)+(v2:Int)=((1+v2:Nat):Int) by omega]
 refine FV e3 (by omega) (by omega) nd hl hok fun w S4 hw e4 e4' l4=> ?_
 dsimp only
 refine lA e4 x.lt (fun k z=>(nomatch z)) (dG (eM.low _)) fun a b c=> ?_
 exact h w _ hw x.set y.set (by simp)
end W28
namespace DL
open PySem PySem.Spec L2
def JM{Γ:dh}{S:aK}{js:List (Option Nat)}{f:eJ}{g:nW}{elt:bN}{Q:List D->aK->Prop}(P:dh->Prop)(F:D->D)(h0:P (mD js Γ)) (h:E f Γ S fun p S1=>p.2.stays S1 p.1/\p.1.length<=1000∧
   (∀d∈p.1,∀Γ',P Γ'->Tg g d Γ' S1 fun Γ1 S2=>S2=S1/\P Γ1/\E elt Γ1 S1 fun y S3=>y=F d/\S3=S1)/\Q (p.1.map F) S1):E (cx js (jq f) g cW elt) Γ S Q:=by
 refine l_ (rK (h.mono fun p S1 hp=> ?_))
 obtain⟨hs,hl,he,q⟩:=hp
 refine⟨fun n Γ' S' acc=>S'=S1/\acc=(p.1.take n).map F/\P Γ',⟨rfl,rfl,h0⟩,fun n Γ' S' acc h=>by rw[h.1];exact hs,fun n d Γ' S' acc hd h=> ?_,fun Γ' S' acc h=> ?_⟩
 ·obtain⟨rfl,rfl,h3⟩:=h
  obtain⟨Γ1,S2,e1,rfl,h4,h5⟩:=he d (mQg hd) Γ' h3
  refine⟨Γ1,S2,e1,uq ?_⟩
  rw[Qhq rfl]
  refine h5.mono fun y S3 qr=> ?_
  obtain⟨e2,e3⟩:=qr
  subst e2 e3
  have hn:=(gQs.mp hd).1
  refine⟨?_,rfl,?_,h4⟩
  ·rw[lQm,Qxq]
   exact bG (by omega)
  ·rw[QYq,hd]
   simp
 ·obtain⟨rfl,rfl,_⟩:=h
  rw[QEq]
  exact q
def tX{α:Type}{Γ:dh}{S:aK}{js:List (Option Nat)}{f:eJ}{g:nW}{elt:bN}{Q:List D->aK->Prop}(P:dh->Prop)(enc G:α->D)(h0:P (mD js Γ)) (h:E f Γ S fun p S1=>∃xs:List α,p.1=xs.map enc/\p.2.stays S1 p.1/\xs.length<=1000∧
   (∀x∈xs,∀Γ',P Γ'->Tg g (enc x) Γ' S1 fun Γ1 S2=>S2=S1/\P Γ1/\E elt Γ1 S1 fun y S3=>y=G x/\S3=S1)/\Q (xs.map G) S1):E (cx js (jq f) g cW elt) Γ S Q:=by
 refine l_ (rK (h.mono fun p S1 hp=> ?_))
 obtain⟨xs,hx,hs,hl,he,q⟩:=hp
 refine⟨fun n Γ' S' acc=>S'=S1/\acc=(xs.take n).map G/\P Γ',⟨rfl,rfl,h0⟩,fun n Γ' S' acc h=>by rw[h.1];exact hs,fun n d Γ' S' acc hd h=> ?_,fun Γ' S' acc h=> ?_⟩
 ·obtain⟨rfl,rfl,h3⟩:=h
  have hd:p.1[n]?=some d:=hd
  rw[hx,gQm] at hd
  obtain⟨x,hxn,rfl⟩:=oQm.mp hd
  obtain⟨Γ1,S2,e1,rfl,h4,h5⟩:=he x (mQg hxn) Γ' h3
  refine⟨Γ1,S2,e1,uq ?_⟩
  rw[Qhq rfl]
  refine h5.mono fun y S3 qr=> ?_
  obtain⟨e2,e3⟩:=qr
  subst e2 e3
  have hn:=(gQs.mp hxn).1
  refine⟨?_,rfl,?_,h4⟩
  ·rw[lQm,Qxq]
   exact bG (by omega)
  ·rw[QYq,hxn]
   simp
 ·obtain⟨rfl,rfl,_⟩:=h
  have e:p.1.length=xs.length:=by rw[hx,lQm]
  show Q ((xs.take p.1.length).map G) _
  rw[e,QEq]
  exact q
def dg{S:aK}{d:D}{Q:Res->aK->Prop}(hd:∀k,d≠.ref k)(hl:cB 0 d=true)(q:Q (.d d) S):Op (settle S d S) fun p=>Q p.1 p.2:=iE uD (QEq) hd (dG hl) q
def Fd{S:aK}{ds:List D}{Q:Res->aK->Prop}(hl:cc 0 ds=true)(q:Q (.l ds) S):Op (dJ S ds S) fun p=>Q p.1 p.2:=ni uD (QEq) (jG hl) q
end DL
namespace W28
open PySem PySem.Spec L2 DL
structure dk where
 room:Int
 deed:Int
 row:Int
 given:Int
 told:Int
structure fm where
 vals:List Int
 within:Int
 row:List Int
 ag:List Int
 aa:List (List (Int×Int))
structure bR where
 rooms:List fm
 passes:List (Int×List Int)
 shared:List Int
 af:List (List Int×List dk)
def bL(l:List Int):D:=.tup (l.map D.int)
def dk.d(f:dk):D:=.tup [.int f.room,.int f.deed,.int f.row,.int f.given,.int f.told]
def pairD(p:Int×Int):D:=.tup [.int p.1,.int p.2]
def cT(l:List (Int×Int)):D:=.tup (l.map pairD)
def fm.d(r:fm):D:=.tup [bL r.vals,.int r.within,bL r.row,bL r.ag,.tup (r.aa.map cT)]
def yp(p:Int×List Int):D:=.tup [.int p.1,bL p.2]
def yf(h:List Int×List dk):D:=.tup [bL h.1,.tup (h.2.map dk.d)]
def bR.d(s:bR):D:=.tup [.tup (s.rooms.map fm.d),.tup (s.passes.map yp),bL s.shared,.tup (s.af.map yf)]
def lF(l:List Int):cB 0 (bL l)=true:=by simp only[bL,cB];exact bg fun _ _=>rfl
def sZ(l:List (Int×Int)):cB 0 (cT l)=true:=by simp only[cT,cB];exact bg fun _ _=>rfl
def fm.low(r:fm):cB 0 r.d=true:=by
 simp only[fm.d,cB,cc,lF,Bool.and_true,Bool.true_and]
 exact bg fun l _=>sZ l
def A6(p:Int×List Int):cB 0 (yp p)=true:=by simp only[yp,cB,cc,lF,Bool.and_true]
def AA(h:List Int×List dk):cB 0 (yf h)=true:=by
 simp only[yf,cB,cc,lF,Bool.and_true,Bool.true_and]
 exact bg fun _ _=>rfl
def bR.low(s:bR):cB 0 s.d=true:=by
 simp only[bR.d,cB,cc,lF,Bool.and_true,Bool.true_and,QCq]
 exact⟨bg fun r _=>r.low,bg fun p _=>A6 p,bg fun h _=>AA h⟩
def fP(ts:List (Str×Nat)):List Int:=ts.map fun p=>(p.2:Int)
def ff(r:Rm):fm:=⟨fP r.things,-1,[],[],r.aa.map fun _=> []⟩
def D0:dk:=⟨-1,-1,0,0,0⟩
def eL(w:eM):bR:=⟨w.rooms.map ff,w.passes.map fun p=>((p.2:Int),[]),fP w.shared,w.af.map fun h=>(fP h.1,[D0])⟩
section
variable{S:aK}{Q:Res->aK->Prop}
def ke{ts:List (Str×Nat)}(l:ts.length<=1000)(h:Q (.d (bL (fP ts))) S):Fn gH [.tup (ts.map vH)] S Q:=by
 refine cp ?_
 unfold sR
 symm
 apply JM (fun Γ'=>∃a b,Γ'= [a,b]) (fun d=>match d with|.tup [_,v]=>v|d=>d) ⟨none,none,rfl⟩ ?_
 refine⟨trivial,by simpa using l,fun d hd Γ' hΓ=> ?_,?_⟩
 ·obtain⟨p,_,rfl⟩:=Qkq.mp hd
  obtain⟨a,b,rfl⟩:=hΓ
  refine gF rfl (aC (bB (aC (bB (bZ ?_)))))
  apply⟨rfl,⟨_,_,rfl⟩,?_⟩
  exact⟨rfl,rfl⟩
 ·have e:(ts.map vH).map (fun d=>match d with|.tup [_,v]=>v|d=>d)=(fP ts).map D.int:=by
   simp only[fP,QPq]
   rfl
  rw[e]
  exact dg (d:=bL (fP ts)) (fun k z=>(nomatch z)) (lF _) h
def u0{r:Rm}(l1:r.things.length<=6)(l2:r.aa.length<=6)(h:Q (.d (ff r).d) S):Fn i9 [r.d] S Q:=by
 refine cp ?_
 unfold qu
 symm
 apply gF rfl (aC (bB (aC (bB (aC (bB (aC (bB (aC (bB (bZ ?_)))))))))))
 apply ke (by omega) ?_
 apply⟨by decide,?_⟩
 apply⟨by decide,?_⟩
 apply Ao (fun _=>.tup []) ?_
 refine⟨trivial,by simp;omega,fun d hd=> ?_,?_⟩
 ·symm
  exact⟨by decide,rfl,rfl⟩
 ·symm
  refine⟨by show 5<=_;decide,?_⟩
  have e:D.tup ((r.aa.map Gq).map fun _=>D.tup [])=D.tup ((ff r).aa.map cT):=by
   simp only[ff,QPq]
   rfl
  rw[e]
  exact dg (d:=(ff r).d) (fun k z=>(nomatch z)) (fm.low _) h
def F6{w:eM}(o:kK w)(h:Q (.d (eL w).d) S):Fn xS [w.d] S Q:=by
 refine cp ?_
 unfold EY
 symm
 apply gF rfl (aC (bB (aC (bB (aC (bB (aC (bB (bZ ?_)))))))))
 apply⟨by decide,?_⟩
 have l1:=o.l1
 have l2:=o.l2
 have l3:=o.l3
 have l4:=o.l4
 apply tX (α:=Rm) (fun Γ'=>∃a,Γ'= [a]) Rm.d (fun r=>(ff r).d) ⟨none,rfl⟩ ?_
 refine⟨w.rooms,rfl,trivial,by omega,fun r hr Γ' hΓ=> ?_,?_⟩
 ·obtain⟨a,rfl⟩:=hΓ
  apply bB ⟨rfl,⟨_,rfl⟩,?_⟩
  exact u0 (o.rm r hr).l1 (o.rm r hr).l2 ⟨rfl,rfl⟩
 symm
 apply tX (α:=Str×Nat) (fun Γ'=>∃a b,Γ'= [a,b]) vH (fun p=>yp ((p.2:Int),[])) ⟨none,none,rfl⟩ ?_
 refine⟨w.passes,rfl,trivial,by omega,fun r hr Γ' hΓ=> ?_,?_⟩
 ·obtain⟨a,b,rfl⟩:=hΓ
  refine gF rfl (aC (bB (aC (bB (bZ ?_)))))
  apply⟨rfl,⟨_,_,rfl⟩,?_⟩
  apply⟨by decide,?_⟩
  exact⟨by show 2<=_;decide,rfl,rfl⟩
 symm
 apply ke (by omega) ?_
 apply tX (α:=List (Str×Nat)×List Rw) (fun Γ'=>∃a b,Γ'= [a,b,some D0.d]) mJ (fun h=>yf (fP h.1,[D0])) ⟨none,none,rfl⟩ ?_
 refine⟨w.af,rfl,trivial,by omega,fun r hr Γ' hΓ=> ?_,?_⟩
 ·obtain⟨a,b,rfl⟩:=hΓ
  refine gF rfl (aC (bB (aC (bB (bZ ?_)))))
  apply⟨rfl,⟨_,_,rfl⟩,?_⟩
  refine ke (by have:=(o.hd r hr).l1;omega) ?_
  symm
  refine⟨by show 1<=_;decide,?_⟩
  symm
  exact⟨by show 2<=_;decide,rfl,rfl⟩
 symm
 refine⟨by show 4<=_;decide,?_⟩
 have e1:w.rooms.map (fun r=>(ff r).d)=(eL w).rooms.map fm.d:=by simp only[eL,QPq];rfl
 have e2:w.passes.map (fun p=>yp ((p.2:Int),[]))=(eL w).passes.map yp:=by simp only[eL,QPq];rfl
 have e3:w.af.map (fun h=>yf (fP h.1,[D0]))=(eL w).af.map yf:=by simp only[eL,QPq];rfl
 rw[e1,e2,e3]
 exact dg (d:=(eL w).d) (fun k z=>(nomatch z)) (bR.low _) h
end
end W28
namespace DL
open PySem PySem.Spec L2
section
variable{Γ:dh}{S:aK}
def qA{f:bN}{Q:D->aK->Prop}(h:E f Γ S fun d S1=>∃i,d=.int i/\Q (.int (-i)) S1):E (uw f) Γ S Q:=by
 obtain⟨d,S1,e1,i,rfl,q⟩:=h
 exact⟨_,S1,by unfold uw;rw[e1];rfl,q⟩
def c9{Q:Option Int->aK->Prop}(q:Q none S):E qF Γ S Q:=⟨_,_,rfl,q⟩
def da{f:bN}{Q:Option Int->aK->Prop}(h:E f Γ S fun d S1=>∃i,d=.int i/\Q (some i) S1):E (pV f) Γ S Q:=by
 obtain⟨d,S1,e1,i,rfl,q⟩:=h
 exact⟨_,S1,by unfold pV;rw[e1];rfl,q⟩
def jF{f:bN}{lo hi:Kk}{Q:D->aK->Prop}(h:E f Γ S fun d S1=>E lo Γ S1 fun l S2=>E hi Γ S2 fun u S3=>∃ds,d=.tup ds/\Q (.tup (jC ds l u)) S3):E (p7 f lo hi) Γ S Q:=by
 obtain⟨d,S1,e1,l,S2,e2,u,S3,e3,ds,rfl,q⟩:=h
 exact⟨_,S3,by unfold p7;rw[e1];simp only[Qbq];rw[e2];simp only[Qbq];rw[e3];rfl,q⟩
def Kx{i j:Nat}{f:g9}{Q:Out->Prop}(h:E f Γ S fun ds S1=>∃a b,ds= [a,b]/\Q (.nx ((Γ.set i (some a)).set j (some b)) S1)):T (G7 i j f) Γ S Q:=by
 obtain⟨ds,S1,e1,a,b,rfl,q⟩:=h
 exact⟨_,by unfold G7;rw[e1];rfl,q⟩
end
def EV{α:Type}{xs:List α}{i:Nat}(h:i<=xs.length):jC xs none (some (i:Int))=xs.take i:=by
 unfold jC
 rw[HT.sL,HT.Ct,Nat.min_eq_left h]
 simp
def iU{α:Type}{xs:List α}{i:Nat}(h:i<=xs.length):jC xs (some (i:Int)) none=xs.drop i:=by
 unfold jC
 rw[HT.sL,HT.Ct,Nat.min_eq_left h]
 rw[List.take_of_length_le]
 simp
def yK{α:Type}{xs:List α}(h:0<xs.length):jC xs none (some (-1))=xs.dropLast:=by
 unfold jC
 rw[HT.sL]
 show(xs.drop 0).take (HT.fI xs.length xs.length (some (-1))-0)=_
 rw[show HT.fI xs.length xs.length (some (-1))=xs.length-1 by simp only[HT.fI];rw[Qhq (by omega)];omega]
 simp[List.dropLast_eq_take]
def ym{α:Type}{xs:List α}{x:α}(h:xs.getLast? =some x):kL xs (-1)=some x:=by
 have h0:0<xs.length:=by
  cases xs with
  |nil=>cases h
  |cons a b=>simp
 unfold kL CD
 rw[Quq (by omega),Qhq (by omega)]
 rw[List.getLast?_eq_getElem?] at h
 simp only[Qbq]
 rw[show((-1:Int)+(xs.length:Int)).toNat=xs.length-1 by omega]
 exact h
end DL
namespace W28
open PySem PySem.Spec L2 DL
section
variable{S:aK}{Q:Res->aK->Prop}
def cA{s:bR}{h:Nat}{vs:List Int}{fs:List dk}{f:dk}(h1:s.af[h]?=some (vs,fs))(h2:fs.getLast? =some f)(q:Q (.d f.d) S):Fn dm [s.d,.int h] S Q:=by
 refine cp ?_
 unfold qV
 symm
 apply ay rfl ?_
 refine ay (d:=yf (vs,fs)) (bp (by rw[gQm,h1];rfl)) ?_
 symm
 refine ay rfl ?_
 apply qA ?_
 refine⟨1,rfl,?_⟩
 refine ay (d:=f.d) (ym (by rw[List.getLast?_map,h2];rfl)) ?_
 exact dg (fun k z=>(nomatch z)) rfl q
def progOf(w:eM)(h:Nat)(f:dk):Option (List Rw):=
 if f.room= -1 then(w.af[h]?).map (·.2) else if 0<=f.room/\0<=f.deed then(w.rooms[f.room.toNat]?).bind fun r=>(r.ae[f.deed.toNat]?).map (·.2) else none
def mw{α:Type}{xs:List α}{i:Int}{x:α}(h0:0<=i)(h:xs[i.toNat]?=some x):kL xs i=some x:=by
 obtain⟨n,rfl⟩:∃n:Nat,i=n:=⟨i.toNat,by omega⟩
 exact bp (by simpa using h)
def yN(rs:List Rw):cB 0 (.tup (rs.map Rw.d))=true:=by simp only[cB];exact bg fun r _=>r.low
def gQ{w:eM}{h:Nat}{f:dk}{pr:List Rw}(hp:progOf w h f=some pr)(q:Q (.d (.tup (pr.map Rw.d))) S):Fn fR [w.d,.int h,f.d] S Q:=by
 refine cp ?_
 unfold qH
 apply cy (Kx ?_)
 apply ay rfl ?_
 apply ay rfl ?_
 apply⟨_,_,rfl,?_⟩
 refine eU ?_
 dsimp only
 unfold progOf at hp
 by_cases c:f.room= -1
 ·rw[Qhq c] at hp
  obtain⟨hh,h1,rfl⟩:=oQm.mp hp
  rw[Qeq c,Qhq rfl]
  symm
  apply ay rfl ?_
  refine ay (d:=mJ hh) (bp (by rw[gQm,h1];rfl)) ?_
  symm
  refine ay rfl ?_
  exact dg (fun k z=>(nomatch z)) (yN _) q
 ·rw[Quq c] at hp
  split at hp
  ·rename_i c2
   obtain⟨r,h1,hp⟩:=ar hp
   obtain⟨dd,h2,rfl⟩:=oQm.mp hp
   rw[Qdq c,Quq (by decide)]
   symm
   apply ay rfl ?_
   refine ay (d:=r.d) (mw c2.1 (by rw[gQm,h1];rfl)) ?_
   symm
   apply ay rfl ?_
   refine ay (d:=jU dd) (mw c2.2 (by rw[gQm,h2];rfl)) ?_
   symm
   refine ay rfl ?_
   exact dg (fun k z=>(nomatch z)) (yN _) q
  ·cases hp
def et{xs:List D}{i:Nat}{d:D}(hi:i<xs.length)(hl:xs.length<=900)(h1:cc 0 xs=true)(h2:cB 0 d=true)(q:Q (.d (.tup (xs.set i d))) S):Fn dS [.tup xs,.int i,d] S Q:=by
 refine cp ?_
 unfold sD
 symm
 apply jF ?_
 apply c9 (da ?_)
 apply⟨_,rfl,_,rfl,?_⟩
 refine⟨by show 1<=_;decide,?_⟩
 rw[EV (by omega)]
 refine dv (by simp only[Qxq,Qnq,QGq];exact nQl (bG (by omega))) ?_
 apply jF ?_
 apply da ?_
 refine⟨_,rfl,c9 ⟨_,rfl,?_⟩⟩
 rw[show((i:Int)+1)=((i+1:Nat):Int) by omega,iU (by omega)]
 refine dv (by simp only[lQa,Qxq,List.length_drop,Qnq,QGq];exact nQl (bG (by omega))) ?_
 have e:xs.take i++ [d]++xs.drop (i+1)=xs.set i d:=by
  rw[List.set_eq_take_append_cons_drop,Qhq hi]
  simp
 rw[e]
 refine dg (fun k z=>(nomatch z)) ?_ q
 simp only[cB]
 refine xp fun z hz=> ?_
 rcases QTq hz with hz|rfl
 ·have gen:∀l:List D,cc 0 l=true->∀z∈l,cB 0 z=true:=by
   intro l
   induction l with
   |nil=>intro _ z hz;cases hz
   | cons a l ih=>
     intro h z hz
     simp only[cc,QCq] at h
     rcases Qsq.mp hz with rfl|hz
     · exact h.1
     · exact ih h.2 z hz
  exact gen xs h1 z hz
 ·exact h2
end
section
variable{S:aK}{Q:Res->aK->Prop}
def map_set{α β:Type}(f:α->β)(l:List α)(i:Nat)(a:α):(l.set i a).map f=(l.map f).set i (f a):=by
 rw[List.map_set]
def a_(s:bR):∀k,s.d≠.ref k:=fun k z=>(nomatch z)
def dN{s:bR}{i:Nat}{r:fm}(hi:i<s.rooms.length)(hl:s.rooms.length<=900)(q:Q (.d ({s with rooms:=s.rooms.set i r}:bR).d) S):Fn dA [s.d,.int i,r.d] S Q:=by
 refine cp ?_
 unfold t6
 symm
 apply ay rfl ?_
 apply et (by simpa using hi) (by simpa using hl) (bg fun r _=>r.low) r.low ?_
 refine⟨by show 1<=_;decide,?_⟩
 apply jF ?_
 apply da ?_
 refine⟨_,rfl,c9 ⟨_,rfl,?_⟩⟩
 refine dv (by show 4<=_;decide) ?_
 refine dg (d:=({s with rooms:=s.rooms.set i r}:bR).d) (a_ _) (bR.low _) q|>fun z=> ?_
 rw[←map_set]
 exact z
def ie{s:bR}{i:Nat}{p:Int×List Int}(hi:i<s.passes.length)(hl:s.passes.length<=900)(q:Q (.d ({s with passes:=s.passes.set i p}:bR).d) S):Fn fL [s.d,.int i,yp p] S Q:=by
 refine cp ?_
 unfold ub
 symm
 apply ay rfl ?_
 apply ay rfl ?_
 apply et (by simpa using hi) (by simpa using hl) (bg fun r _=>A6 r) (A6 p) ?_
 refine⟨by show 2<=_;decide,?_⟩
 apply jF ?_
 apply da ?_
 refine⟨_,rfl,c9 ⟨_,rfl,?_⟩⟩
 refine dv (by show 4<=_;decide) ?_
 refine dg (d:=({s with passes:=s.passes.set i p}:bR).d) (a_ _) (bR.low _) q|>fun z=> ?_
 rw[←map_set]
 exact z
def iq{s:bR}{i:Nat}{vs:List Int}{fs:List dk}(hi:i<s.af.length)(hl:s.af.length<=900)(q:Q (.d ({s with af:=s.af.set i (vs,fs)}:bR).d) S):Fn fN [s.d,.int i,bL vs,.tup (fs.map dk.d)] S Q:=by
 refine cp ?_
 unfold ug
 apply qW (nH (jF ?_))
 apply c9 (da ?_)
 apply⟨_,rfl,_,rfl,?_⟩
 apply ay rfl ?_
 refine⟨by show 2<=_;decide,?_⟩
 symm
 apply et (d:=yf (vs,fs)) (by simpa using hi) (by simpa using hl) (bg fun r _=>AA r) (AA (vs,fs)) ?_
 refine⟨by show 1<=_;decide,?_⟩
 refine dv (by show 4<=_;decide) ?_
 refine dg (d:=({s with af:=s.af.set i (vs,fs)}:bR).d) (a_ _) (bR.low _) q|>fun z=> ?_
 rw[←map_set]
 exact z
def iP{s:bR}{h:Nat}{vs:List Int}{fs:List dk}{f:dk}(h1:s.af[h]?=some (vs,fs))(h0:0<fs.length)(lf:fs.length<=900)(hl:s.af.length<=900)(q:Q (.d ({s with af:=s.af.set h (vs,fs.dropLast++ [f])}:bR).d) S):Fn d_ [s.d,.int h,f.d] S Q:=by
 refine cp ?_
 unfold jO
 symm
 apply ay rfl ?_
 refine ay (d:=yf (vs,fs)) (bp (by rw[gQm,h1];rfl)) ?_
 apply gF rfl (aC (bB (aC (bB (bZ ?_)))))
 apply jF ?_
 apply c9 (da (qA ?_))
 apply⟨1,rfl,_,rfl,_,rfl,?_⟩
 refine⟨by show 1<=_;decide,?_⟩
 rw[yK (by simpa using h0)]
 refine dv (by simp only[List.length_dropLast,lQm,Qnq,QGq];exact nQl (bG (by omega))) ?_
 symm
 have e:(fs.map dk.d).dropLast++ [f.d]=(fs.dropLast++ [f]).map dk.d:=by rw[Qzq,List.map_dropLast];rfl
 rw[e]
 refine iq (gQs.mp h1).1 hl ?_
 exact dg (a_ _) (bR.low _) q
def qm{s:bR}{h:Nat}{vs:List Int}{fs:List dk}{f:dk}{n:Int}(h1:s.af[h]?=some (vs,fs))(h2:fs.getLast? =some f)(lf:fs.length<=900)(hl:s.af.length<=900)(q:Q (.d ({s with af:=s.af.set h (vs,fs.dropLast++ [{f with row:=n}])}:bR).d) S):Fn j6 [s.d,.int h,.int n] S Q:=by
 refine cp ?_
 unfold Bw
 symm
 apply cA h1 h2 ?_
 apply jF ?_
 apply c9 (da ?_)
 apply⟨_,rfl,_,rfl,?_⟩
 refine⟨by show 1<=_;decide,?_⟩
 refine dv (by show 3<=_;decide) ?_
 apply jF ?_
 apply da ?_
 refine⟨_,rfl,c9 ⟨_,rfl,?_⟩⟩
 refine dv (by show 5<=_;decide) ?_
 symm
 have h0:0<fs.length:=by
  cases fs with
  |nil=>cases h2
  |cons a b=>simp
 refine iP (f:={f with row:=n}) h1 h0 lf hl ?_
 exact dg (a_ _) (bR.low _) q
def oG(r:fm)(h:Int):fm:=if r.within= -1 then{r with within:=h} else{r with row:=r.row++ [h]}
def hZ(r:fm):fm:=match r.ag,r.row with
 |a::l,_=>{r with within:=a,ag:=l}
 | [],a::l=>{r with within:=a,row:=l}
 | [],[]=>{r with within:= -1}
def uF{s:bR}{i:Nat}{h:Int}{r:fm}(h1:s.rooms[i]?=some r)(hl:s.rooms.length<=900)(lr:r.row.length<=900)(q:Q (.d ({s with rooms:=s.rooms.set i (oG r h)}:bR).d) S):Fn lE [s.d,.int i,.int h] S Q:=by
 have hi:=(gQs.mp h1).1
 refine cp ?_
 unfold zc
 symm
 apply ay rfl ?_
 refine ay (d:=r.d) (bp (by rw[gQm,h1];rfl)) ?_
 apply gF rfl (aC (bB (aC (bB (aC (bB (aC (bB (aC (bB (bZ ?_)))))))))))
 refine eU ?_
 dsimp only
 unfold oG at q
 by_cases c:r.within= -1
 ·rw[Qhq c] at q
  rw[Qeq c,Qhq rfl]
  symm
  refine⟨by show 5<=_;decide,?_⟩
  symm
  refine dN (r:={r with within:=h}) hi hl ?_
  exact dg (a_ _) (bR.low _) q
 ·rw[Quq c] at q
  rw[Qdq c,Quq (by decide)]
  symm
  refine⟨by show 1<=_;decide,?_⟩
  refine dv (by simp only[lQm,Qnq,QGq];exact nQl (bG (by omega))) ?_
  symm
  refine⟨by show 5<=_;decide,?_⟩
  symm
  have e:D.tup (r.row.map D.int++ [D.int h])=bL (r.row++ [h]):=by simp[bL]
  rw[e]
  refine dN (r:={r with row:=r.row++ [h]}) hi hl ?_
  exact dg (a_ _) (bR.low _) q
end
section
variable{S:aK}{Q:Res->aK->Prop}
def FU{α:Type}{a:α}{l:List α}:kL (a::l) 0=some a:=bp (j:=0) rfl
def xf{S:aK}{ds:List D}{Q:Bool->Prop}(q:Q (!ds.isEmpty)):Op (Az S (.tup ds)) Q:=⟨_,rfl,q⟩
def yV{s:bR}{i:Nat}{r:fm}(h1:s.rooms[i]?=some r)(hl:s.rooms.length<=900)(q:Q (.d ({s with rooms:=s.rooms.set i (hZ r)}:bR).d) S):Fn pQ [s.d,.int i] S Q:=by
 have hi:=(gQs.mp h1).1
 refine cp ?_
 unfold E4
 symm
 apply ay rfl ?_
 refine ay (d:=r.d) (bp (by rw[gQm,h1];rfl)) ?_
 refine gF rfl (aC (bB (aC (bB (aC (bB (aC (bB (aC (bB (bZ ?_)))))))))))
 obtain⟨vals,within,row,ag,aa⟩:=r
 symm
 refine xf ?_
 cases ag with
 | cons a l=>
   apply bf (fun _=> ?_) (fun c=>by cases c)
   apply ay (d:=.int a) FU ?_
   apply jF ?_
   apply da ?_
   apply⟨_,rfl,c9 ⟨_,rfl,?_⟩⟩
   refine⟨by show 5<=_;decide,?_⟩
   symm
   have e:D.tup (jC ((a::l).map D.int) (some 1) none)=bL l:=by
     rw[show(some (1:Int))=some ((1:Nat):Int) from rfl,iU (by simp)]
     rfl
   rw[e]
   refine dN (r:=⟨vals,a,row,l,aa⟩) hi hl ?_
   exact dg (a_ _) (bR.low _) q
 | nil=>
   refine bf (fun c=>by cases c) (fun _=> ?_)
   apply cN ?_
   refine xf ?_
   cases row with
   | cons a l=>
     apply bf (fun _=> ?_) (fun c=>by cases c)
     apply ay (d:=.int a) FU ?_
     apply jF ?_
     apply da ?_
     apply⟨_,rfl,c9 ⟨_,rfl,?_⟩⟩
     refine⟨by show 5<=_;decide,?_⟩
     symm
     have e:D.tup (jC ((a::l).map D.int) (some 1) none)=bL l:=by
       rw[show(some (1:Int))=some ((1:Nat):Int) from rfl,iU (by simp)]
       rfl
     rw[e]
     refine dN (r:=⟨vals,a,l,[],aa⟩) hi hl ?_
     exact dg (a_ _) (bR.low _) q
   | nil=>
     refine bf (fun c=>by cases c) (fun _=> ?_)
     apply cN ?_
     refine⟨by show 5<=_;decide,?_⟩
     symm
     refine dN (r:=⟨vals,-1,[],[],aa⟩) hi hl ?_
     exact dg (a_ _) (bR.low _) q
def fS{α:Type}{enc:α->D}{nm:α->Str}{xs:List α}(he:∀a,∃r,enc a=.tup (.str (nm a)::r))(hl:xs.length<=1000)(q:Q (.l ((xs.map nm).map D.str)) S):Fn eG [.tup (xs.map enc)] S Q:=by
 refine cp ?_
 unfold vW
 symm
 apply tX (α:=α) (fun Γ'=>∃a,Γ'= [a]) enc (fun a=>.str (nm a)) ⟨none,rfl⟩ ?_
 refine⟨xs,rfl,trivial,hl,fun r hr Γ' hΓ=> ?_,?_⟩
 ·obtain⟨a,rfl⟩:=hΓ
  refine bB ⟨rfl,⟨_,rfl⟩,?_⟩
  obtain⟨rr,e⟩:=he r
  rw[e]
  symm
  exact ay FU ⟨rfl,rfl⟩
 ·have e:xs.map (fun a=>D.str (nm a))=(xs.map nm).map D.str:=by rw[QPq];rfl
  rw[e]
  exact Fd (bg fun _ _=>rfl) q
theorem nM:∀ss:List Str,oX (ss.map D.str)=some (ss.map V.str)
 | []=>rfl
 |s::ss=>by simp only[QDq,oX,wz,Qbq];rw[nM ss];rfl
theorem wA{x:Str}:∀{ns:List Str},x∈ns->∃j,og (.str x) (ns.map V.str)=some j/\ns[j]?=some x
 | [],h=>by cases h
 | n::ns,h=>by
   by_cases c:n=x
   · subst c
     exact⟨0,by simp[og,rP],rfl⟩
   · obtain⟨j,h1,h2⟩:=wA (ns:=ns) ((Qsq.mp h).resolve_left (Ne.symm c))
     exact⟨j+1,by simp only[QDq,og];rw[h1];simp[rP,c],by simpa using h2⟩
end
end W28
namespace DL
open PySem PySem.Spec L2
section
variable{Γ:dh}{S:aK}
def KE{T:String}{f:bN}{Q:D->aK->Prop}(h:E f Γ S fun d S1=>Op (GW S1 T d) fun k=>Q (.bl k) S1):E (DE T f) Γ S Q:=by
 obtain⟨d,S1,e1,k,e2,q⟩:=h
 exact⟨_,S1,by unfold DE;rw[e1];simp only[Qbq];rw[e2];rfl,q⟩
def lM{b:Bool}{Q:Bool->Prop}(q:Q b):Op (Az S (.bl b)) Q:=⟨_,rfl,q⟩
def Lp{f g:bN}{Q:D->aK->Prop}(h:E f Γ S fun x S1=>E g Γ S1 fun y S2=>∃k kvs z v,x=.ref k/\y=.str z/\S2[k]?=some (.dct kvs)/\sx kvs (.inr z)=some v/\Q v S2):E (K3 f g) Γ S Q:=by
 obtain⟨x,S1,e1,y,S2,e2,k,kvs,z,v,rfl,rfl,h1,h2,q⟩:=h
 exact⟨v,S2,by unfold K3;rw[e1];simp only[Qbq];rw[e2];simp only[Qbq,h1,uZ,h2],q⟩
def jV{i j:Int}{Q:D->Prop}(q:Q (.bl (!decide (i=j)))):Op (e_ true S (.int i) (.int j)) Q:=⟨_,by simp[e_,wz,AO],q⟩
def FH{i j:Int}{Q:D->Prop}(q:Q (.int (if j<i then j else i))):Op (minD [.int i,.int j]) Q:=⟨_,rfl,q⟩
def Ih{i j:Int}{Q:D->Prop}(q:Q (.int (if j>i then j else i))):Op (maxD [.int i,.int j]) Q:=⟨_,rfl,q⟩
end
end DL
namespace W28
open PySem PySem.Spec L2 DL
def Kh(o:Str)(a b:Int):Int:=
 if o="plus" then(if 9<a+b then 9 else a+b) else if o="minus" then(if 0>a-b then 0 else a-b) else if o="less" then(if a<b then 1 else 0)
 else if o="same" then(if a=b then 1 else 0) else(if a≠0/\b≠0 then 1 else 0)
def Ab(th wt:Str->Int):Tr->Int
 |.num n=>n
 |.word x=>th x
 |.waits b=>if 0<wt b then 1 else 0
 |.no t=>if Ab th wt t=0 then 1 else 0
 |.two o a b=>Kh o (Ab th wt a) (Ab th wt b)
def Dz{o:Str}{a b:Int}(ha:0<=a/\a<=9)(hb:0<=b/\b<=9):0<=Kh o a b/\Kh o a b<=9:=by
 unfold Kh
 repeat' split
 all_goals omega
theorem my{th wt:Str->Int}{ws bs:List Str}(h:∀x∈ws,0<=th x/\th x<=9):∀{t:Tr},t.Ok ws bs->0<=Ab th wt t/\Ab th wt t<=9
 |.num n,ho=>by have:n<=9:=ho;simp only[Ab];omega
 |.word x,ho=>h x ho
 |.waits b,_=>by simp only[Ab];split <;>omega
 |.no t,_=>by simp only[Ab];split <;>omega
 |.two o a b,ho=>Dz (my h ho.2.1) (my h ho.2.2)
section
variable{S:aK}{Q:Res->aK->Prop}
def dZ{S:aK}{i:Int}{Q:Res->aK->Prop}(q:Q (.d (.int i)) S):Op (settle S (.int i) S) fun p=>Q p.1 p.2:=dg (fun k z=>(nomatch z)) rfl q
def q_{o:Str}{a b:Int}(q:Q (.d (.int (Kh o a b))) S):Fn gR [.str o,.int a,.int b] S Q:=by
 refine cp ?_
 unfold mW
 unfold Kh at q
 symm
 refine jc ?_
 dsimp only
 by_cases c1:o="plus"
 ·rw[Qhq c1] at q
  rw[Qeq c1,Qhq rfl]
  symm
  refine FH ?_
  exact dZ q
 rw[Quq c1] at q
 rw[Qdq c1,Quq (by decide)]
 apply cN ?_
 refine jc ?_
 dsimp only
 by_cases c2:o="minus"
 ·rw[Qhq c2] at q
  rw[Qeq c2,Qhq rfl]
  symm
  refine Ih ?_
  exact dZ q
 rw[Quq c2] at q
 rw[Qdq c2,Quq (by decide)]
 apply cN ?_
 refine jc ?_
 dsimp only
 by_cases c3:o="less"
 ·rw[Qhq c3] at q
  rw[Qeq c3,Qhq rfl]
  symm
  by_cases c:a<b
  ·rw[Qhq c] at q
   rw[Qeq c,Qhq rfl]
   symm
   exact dZ q
  ·rw[Quq c] at q
   rw[Qdq c,Quq (by decide)]
   symm
   exact dZ q
 rw[Quq c3] at q
 rw[Qdq c3,Quq (by decide)]
 apply cN ?_
 refine jc ?_
 dsimp only
 by_cases c4:o="same"
 ·rw[Qhq c4] at q
  rw[Qeq c4,Qhq rfl]
  symm
  refine eU ?_
  dsimp only
  by_cases c:a=b
  ·rw[Qhq c] at q
   rw[Qeq c,Qhq rfl]
   symm
   exact dZ q
  ·rw[Quq c] at q
   rw[Qdq c,Quq (by decide)]
   symm
   exact dZ q
 rw[Quq c4] at q
 rw[Qdq c4,Quq (by decide)]
 apply cN ?_
 refine jV ?_
 dsimp only
 by_cases c5:a=0
 ·rw[Quq (fun z=>z.1 c5)] at q
  rw[Qeq c5]
  show if (false=true) then _ else _
  rw[Quq (by decide)]
  show if (false=true) then _ else _
  rw[Quq (by decide)]
  symm
  exact dZ q
 ·rw[Qdq c5]
  show if (true=true) then _ else _
  rw[Qhq rfl]
  symm
  refine jV ?_
  dsimp only
  by_cases c6:b=0
  ·rw[Quq (fun z=>z.2 c6)] at q
   rw[Qeq c6]
   show if (false=true) then _ else _
   rw[Quq (by decide)]
   symm
   exact dZ q
  ·rw[Qhq ⟨c5,c6⟩] at q
   rw[Qdq c6]
   show if (true=true) then _ else _
   rw[Qhq rfl]
   symm
   exact dZ q
end
def ic{Γ:dh}{S:aK}{T:String}{f:bN}{d:D}{b:Bool}{Q:Bool->aK->Prop}(h:E f Γ S fun x S1=>x=d/\S1=S)(hd:GW S T d=some b)(q:Q b S):E (lu (DE T f)) Γ S Q:=by
 refine DV (KE (h.mono fun x S1 qr=> ?_))
 obtain⟨e1,e2⟩:=qr
 subst e1 e2
 exact⟨b,hd,lM q⟩
def GD{o:Str}(h:o∈ops):o≠"waits" /\o≠"not":=by
 simp only[ops,Qsq,QXq,or_false] at h
 rcases h with rfl|rfl|rfl|rfl|rfl <;>exact⟨by decide +kernel,by decide +kernel⟩
theorem gW{th wt:Str->Int}{ws bs:List Str}{i j:Nat}{kvs kws:List (Key×D)}{S:aK}(hi:S[i]?=some (.dct kvs))(hj:S[j]?=some (.dct kws))(h1:∀x∈ws,sx kvs (.inr x)=some (.int (th x)))(h2:∀b∈bs,sx kws (.inr b)=some (.int (wt b))):
  ∀(n:Nat) (t:Tr) {Q:Res->aK->Prop},t.Ok ws bs->t.dep<=n->Q (.d (.int (Ab th wt t))) S->Fn (gJ n) [t.d,.ref i,.ref j] S Q
 |0,t,Q,_,hd,_=>by cases t <;>simp[Tr.dep] at hd
 | n+1,t,Q,ho,hd,q=>by
   refine cp ?_
   unfold vt
   cases t with
   | num v=>
     refine cy (f_ (ic (d:=.int v) (cG rfl ⟨rfl,rfl⟩) rfl ?_))
     apply bf (fun _=> ?_) (fun c=>by cases c)
     exact dZ q
   | word x=>
     refine cy (f_ (ic (d:=.str x) (cG rfl ⟨rfl,rfl⟩) rfl ?_))
     refine bf (fun c=>by cases c) (fun _=>cN ?_)
     refine cy (f_ (ic (d:=.str x) (cG rfl ⟨rfl,rfl⟩) rfl ?_))
     refine bf (fun _=> ?_) (fun c=>by cases c)
     apply qW (Lp ?_)
     refine⟨_,_,_,_,rfl,rfl,hi,h1 x ho,?_⟩
     exact dZ q
   | waits b=>
     refine cy (f_ (ic (d:=.tup [.str "waits",.str b]) (cG rfl ⟨rfl,rfl⟩) rfl ?_))
     refine bf (fun c=>by cases c) (fun _=>cN ?_)
     refine cy (f_ (ic (d:=.tup [.str "waits",.str b]) (cG rfl ⟨rfl,rfl⟩) rfl ?_))
     apply bf (fun c=>by cases c) (fun _=>cN ?_)
     apply ay rfl ?_
     refine jc ?_
     dsimp only
     rw[Qeq rfl,Qhq rfl]
     symm
     apply Lp ?_
     refine ay rfl ?_
     apply⟨_,_,_,_,rfl,rfl,hj,h2 b ho,?_⟩
     simp only[Ab] at q
     by_cases c:0<wt b
     · rw[Qhq c] at q
       rw[Qeq c,Qhq rfl]
       symm
       exact dZ q
     · rw[Quq c] at q
       rw[Qdq c,Quq (by decide)]
       symm
       exact dZ q
   | no t=>
     have hd':t.dep<=n:=by simp only[Tr.dep] at hd;omega
     refine cy (f_ (ic (d:=.tup [.str "not",t.d]) (cG rfl ⟨rfl,rfl⟩) rfl ?_))
     refine bf (fun c=>by cases c) (fun _=>cN ?_)
     refine cy (f_ (ic (d:=.tup [.str "not",t.d]) (cG rfl ⟨rfl,rfl⟩) rfl ?_))
     apply bf (fun c=>by cases c) (fun _=>cN ?_)
     apply ay rfl ?_
     refine jc ?_
     dsimp only
     rw[Qdq (show¬(("not":Str)="waits") by decide +kernel),Quq (by decide)]
     apply cN ?_
     apply ay rfl ?_
     apply gW hi hj h1 h2 n t ho hd' ?_
     apply ay rfl ?_
     refine jc ?_
     dsimp only
     rw[Qeq rfl,Qhq rfl]
     symm
     refine eU ?_
     dsimp only
     simp only[Ab] at q
     by_cases c:Ab th wt t=0
     · rw[Qhq c] at q
       rw[Qeq c,Qhq rfl]
       symm
       exact dZ q
     · rw[Quq c] at q
       rw[Qdq c,Quq (by decide)]
       symm
       exact dZ q
   | two o a b=>
     have hda:a.dep<=n:=by simp only[Tr.dep] at hd;omega
     have hdb:b.dep<=n:=by simp only[Tr.dep] at hd;omega
     obtain⟨n1,n2⟩:=GD ho.1
     refine cy (f_ (ic (d:=.tup [.str o,a.d,b.d]) (cG rfl ⟨rfl,rfl⟩) rfl ?_))
     refine bf (fun c=>by cases c) (fun _=>cN ?_)
     refine cy (f_ (ic (d:=.tup [.str o,a.d,b.d]) (cG rfl ⟨rfl,rfl⟩) rfl ?_))
     apply bf (fun c=>by cases c) (fun _=>cN ?_)
     apply ay rfl ?_
     refine jc ?_
     dsimp only
     rw[Qdq n1,Quq (by decide)]
     apply cN ?_
     apply ay rfl ?_
     apply gW hi hj h1 h2 n a ho.2.1 hda ?_
     apply ay rfl ?_
     refine jc ?_
     dsimp only
     rw[Qdq n2,Quq (by decide)]
     apply cN ?_
     apply ay rfl ?_
     apply ay rfl ?_
     apply gW hi hj h1 h2 n b ho.2.2 hdb ?_
     refine q_ ?_
     exact dZ q
end W28
namespace DL
open PySem PySem.Spec L2
def vz{l:List (Key×D)}{k:Key}(h:k∈l.map (·.1)):∃d,sx l k=some d/\(k,d)∈l:=by
 unfold sx
 cases e:l.find? fun kv=>decide (kv.1=k) with
 | none=>
   obtain⟨p,hp,rfl⟩:=Qkq.mp h
   have:=List.find?_eq_none.mp e p hp
   simp at this
 | some p=>
   have h1:=List.find?_some e
   have h2:=List.mem_of_find?_eq_some e
   have h3:p.1=k:=by simpa using h1
   exact⟨p.2,rfl,by rw[←h3];exact h2⟩
def zP{l:List (Key×D)}{k:Key}{v:D}{p:Key×D}(h:p∈putD l k v):p∈l\/p=(k,v):=by
 unfold putD at h
 split at h
 ·obtain⟨q,hq,e⟩:=Qkq.mp h
  split at e
  ·rename_i c
   rw[←e,c]
   exact .inr rfl
  ·rw[←e]
   exact .inl hq
 ·rcases mQa.mp h with h|h
  ·exact .inl h
  ·exact .inr (Qfq.mp h)
def mm{l:List (Key×D)}{k x:Key}{v:D}(h:x=k\/x∈l.map (·.1)):x∈(putD l k v).map (·.1):=by
 unfold putD
 split
 ·rename_i c
  have key:∀p∈l,(if p.1=k then(p.1,v) else p).1=p.1:=fun p _=>by split <;>rfl
  have e:(l.map fun p=>if p.1=k then(p.1,v) else p).map (·.1)=l.map (·.1):=by
   rw[QPq]
   exact List.map_congr_left key
  rw[e]
  rcases h with rfl|h
  ·obtain⟨p,hp,hc⟩:=List.any_eq_true.mp c
   exact Qkq.mpr ⟨p,hp,by simpa using hc⟩
  ·exact h
 ·rw[Qzq]
  rcases h with rfl|h
  ·exact Qoq _ (by simp)
  ·exact List.mem_append_left _ h
theorem nh:∀{more l:List (Key×D)} {p:Key×D},p∈dB l more->p∈l\/p∈more
 | [],l,p,h=>.inl h
 | q::more,l,p,h=>by
   rcases nh (more:=more) (l:=putD l q.1 q.2) h with h|h
   · rcases zP h with h|rfl
     · exact .inl h
     · exact .inr (QBq ..)
   · exact .inr (Qpq _ h)
theorem g8:∀{more l:List (Key×D)} {x:Key},x∈l.map (·.1)\/x∈more.map (·.1)->x∈(dB l more).map (·.1)
 | [],l,x,h=>h.elim id fun z=>by cases z
 | q::more,l,x,h=>by
   refine g8 (more:=more) (l:=putD l q.1 q.2) ?_
   rcases h with h|h
   · exact .inl (mm (.inr h))
   · rcases Qsq.mp h with rfl|h
     · exact .inl (mm (.inl rfl))
     · exact .inr h
theorem tY:∀ss:List Str,yT (ss.map D.str)=some (ss.map Sum.inr)
 | []=>rfl
 |s::ss=>by simp only[QDq,yT,uZ,Qbq];rw[tY ss];rfl
section
variable{Γ:dh}{S:aK}
def Mw{Q:D->aK->Prop}(q:Q (.ref S.length) (S++ [.dct []])):E Mu Γ S Q:=⟨_,_,rfl,q⟩
def IJ{f g:eJ}{Q:D->aK->Prop}(h:E f Γ S fun p S1=>E g Γ S1 fun r S2=>∃ss:List Str,p.1=ss.map D.str/\(p.2.stays S2 p.1/\p.1.length=r.1.length)/\Q (.ref S2.length) (S2++ [.dct (dB [] ((ss.map Sum.inr).zip r.1))])):E (Km f g) Γ S Q:=by
 obtain⟨p,S1,e1,r,S2,e2,ss,h1,h2,q⟩:=h
 refine⟨_,_,?_,q⟩
 unfold Km
 rw[e1]
 simp only[Qbq]
 rw[e2]
 simp only[Qbq]
 rw[Qhq h2,h1,tY]
 rfl
def K4{f g:bN}{Q:D->aK->Prop}(h:E f Γ S fun x S1=>E g Γ S1 fun y S2=>∃k j l0 l m,x=.ref k/\y=.ref j/\k≠j/\S1[k]?=some (.dct l0)/\S2[k]?=some (.dct l)/\S2[j]?=some (.dct m)/\l.length+m.length<=sizeLine/\Q .non (S2.set k (.dct (dB l m)))):E (Ho f g) Γ S Q:=by
 obtain⟨x,S1,e1,y,S2,e2,k,j,l0,l,m,rfl,rfl,hn,h0,h1,h2,h3,q⟩:=h
 exact⟨_,_,by unfold Ho;rw[e1];simp only[Qbq];rw[e2];simp only[Qbq];rw[Qhq hn];simp only[h0,h1,h2];rw[Qhq h3],q⟩
def Mk{f g h:bN}{Q:Out->Prop}(w:E h Γ S fun d S1=>E f Γ S1 fun x S2=>E g Γ S2 fun y S3=>∃k l z,x=.ref k/\y=.str z/\S3[k]?=some (.dct l)/\l.length<sizeLine/\Q (.nx Γ (S3.set k (.dct (putD l (.inr z) d))))):T (L3 f g h) Γ S Q:=by
 obtain⟨d,S1,e1,x,S2,e2,y,S3,e3,k,l,z,rfl,rfl,h1,h2,q⟩:=w
 exact⟨_,by unfold L3;rw[e1];simp only[Qbq];rw[e2];simp only[Qbq];rw[e3];simp only[Qbq,h1,uZ];rw[Qhq h2],q⟩
def Mg{α:Type}{n:Nat}{js:List (Option Nat)}{i:ye}{g:nW}{fk fv:bN}{Q:Out->Prop}(P:dh->Prop)(enc:α->D)(key:α->Str)(val:α->D)(h0:P (mD js Γ)) (h:E i Γ S fun p S1=>∃xs:List α,p.1=xs.map enc/\p.2 S1/\xs.length<=1000∧
   (∀x∈xs,∀Γ',P Γ'->Tg g (enc x) Γ' S1 fun Γ1 S2=>S2=S1/\P Γ1/\E fk Γ1 S1 fun y S3=>y=.str (key x)/\S3=S1/\E fv Γ1 S1 fun z S4=>z=val x/\S4=S1)∧
   Q (.nx (Γ.set n (some (.ref S1.length))) (S1++ [.dct (dB [] (xs.map fun x=>(Sum.inr (key x),val x)))]))):T (L8 n (uu js i g cW fk fv)) Γ S Q:=by
 obtain⟨⟨ds,W⟩,S1,e1,xs,rfl,hW,hl,hs,q⟩:=h
 have lp:∀(l:List (Key×D)) (k:Key) (v:D),(putD l k v).length<=l.length+1:=fun l k v=>by
  unfold putD
  split <;>simp
 have go:∀(ys:List α) (Γ':dh) (acc:List (Key×D)),(∀y∈ys,y∈xs)->P Γ'->acc.length+ys.length<=1000->∃r,ji g cW fk fv W (ys.map enc) Γ' S1 acc=some (r,S1)/\r=dB acc (ys.map fun x=>(Sum.inr (key x),val x)):=by
  intro ys
  induction ys with
  |nil=>intro Γ' acc _ _ _;exact⟨acc,by simp only[List.map_nil,ji];rw[Qhq hW],rfl⟩
  | cons a ys ih=>
    intro Γ' acc hm hp hlen
    obtain⟨Γ1,S2,e2,rfl,hp1,y,S3,e3,rfl,rfl,z,S4,e4,rfl,rfl⟩:=hs a (hm a (QBq ..)) Γ' hp
    have hlen2:=lp acc (Sum.inr (key a)) (val a)
    simp only[Qnq] at hlen
    obtain⟨r,e5,hr⟩:=ih Γ1 (putD acc (Sum.inr (key a)) (val a)) (fun y hy=>hm y (Qpq _ hy)) hp1 (by omega)
    refine⟨r,?_,hr⟩
    simp only[QDq,ji]
    rw[Qhq hW,e2]
    simp only[Qbq,cW,if_true]
    rw[e3]
    simp only[Qbq]
    rw[e4]
    simp only[Qbq,uZ]
    rw[Qhq (bG (by omega))]
    exact e5
 obtain⟨r,e2,rfl⟩:=go xs _ [] (fun _ h=>h) h0 (by simpa using hl)
 exact⟨_,by unfold L8 uu;rw[e1];simp only[Qbq];rw[e2];rfl,q⟩
end
def Fj{Γ:dh}{S:aK}{f g:eJ}{Q:(List D×(aK->Prop))->aK->Prop}(h:E f Γ S fun p S1=>E g Γ S1 fun r S2=>(p.2.stays S2 p.1/\p.1.length<=r.1.length)/\Q (we p.1 r.1,fun S=>p.2.stays S p.1/\r.2.stays S r.1) S2):E (Bi f g) Γ S Q:=by
 obtain⟨p,S1,e1,r,S2,e2,hc,q⟩:=h
 exact⟨_,S2,by unfold Bi;rw[e1];simp only[Qbq];rw[e2];simp only[Qbq];rw[Qhq hc],q⟩
def lT(l:List (Key×D)):Prop:=∀p∈l,∃v:Int,p.2=.int v/\0<=v/\v<=9
def lT.merge{l m:List (Key×D)}(h1:lT l)(h2:lT m):lT (dB l m):=fun p hp=>(nh hp).elim (h1 p) (h2 p)
def lT.put{l:List (Key×D)}{k:Key}{v:Int}(h:lT l)(h0:0<=v)(h9:v<=9):lT (putD l k (.int v)):=fun p hp=>by
 rcases zP hp with hp|rfl
 ·exact h p hp
 ·exact⟨v,rfl,h0,h9⟩
def numAt(l:List (Key×D))(x:Str):Int:=match sx l (.inr x) with|some (.int v)=>v|_=>0
def ph{l:List (Key×D)}(h:lT l){x:Str}(hx:(Sum.inr x:Key)∈l.map (·.1)):sx l (.inr x)=some (.int (numAt l x))/\0<=numAt l x/\numAt l x<=9:=by
 obtain⟨d,h1,h2⟩:=vz hx
 obtain⟨v,h3,h4,h5⟩:=h _ h2
 have h3:d=.int v:=h3
 subst h3
 have e:numAt l x=v:=by unfold numAt;rw[h1]
 rw[e]
 exact⟨h1,h4,h5⟩
def E9{ss:List Str}{vs:List Int}(h:∀v∈vs,0<=v/\v<=9):lT ((ss.map (Sum.inr:Str->Key)).zip (vs.map D.int)):=fun p hp=>by
 have h2:p.2∈vs.map D.int:=(List.of_mem_zip (show(p.1,p.2)∈_ from hp)).2
 obtain⟨v,hv,e⟩:=Qkq.mp h2
 exact⟨v,e.symm,h v hv⟩
def DU{ss:List Str}{ds:List D}(h:ss.length=ds.length):((ss.map (Sum.inr:Str->Key)).zip ds).map (·.1)=ss.map Sum.inr:=by
 rw[List.map_fst_zip]
 simpa using Nat.le_of_eq h
end DL
namespace W28
open PySem PySem.Spec L2 DL
def eF(ts:List (Str×Nat))(vs:List Int):List (Key×D):=dB [] (((ts.map (·.1)).map Sum.inr).zip (vs.map D.int))
def Da(w:eM)(s:bR)(ts:List (Str×Nat))(vs:List Int):List (Key×D):=dB (eF w.shared s.shared) (eF ts vs)
def ve(r:Rm)(rs:fm)(given:Int):List (Key×D):=putD (eF r.things rs.vals) (.inr "given") (.int given)
def BV(r:Rm)(rs:fm):List (Key×D):=dB [] ((r.aa.zip rs.aa).map fun p=>(Sum.inr p.1.1,D.int (p.2.length:Nat)))
def iI{ts:List (Str×Nat)}{vs:List Int}(h:∀v∈vs,0<=v/\v<=9):lT (eF ts vs):=lT.merge (fun p hp=>by cases hp) (E9 h)
def iy{ts:List (Str×Nat)}{vs:List Int}(hl:ts.length=vs.length){x:Str}(h:x∈ts.map (·.1)):(Sum.inr x:Key)∈(eF ts vs).map (·.1):=by
 refine g8 (.inr ?_)
 rw[DU (by simpa using hl)]
 exact Qkq.mpr ⟨x,h,rfl⟩
structure rA(S S':aK):Prop where
 len:S.length<=S'.length
 eq:∀j,j<S.length->S'[j]?=S[j]?
def rA.refl{S:aK}:rA S S:=⟨Qmq _,fun _ _=>rfl⟩
def rA.app{S S1 G:aK}(x:rA S S1):rA S (S1++G):=⟨by rw[lQa];have:=x.len;omega,fun j hj=>by rw[QHq (by have:=x.len;omega)];exact x.eq j hj⟩
def rA.put{S S1:aK}{r:Nat}{o:O}(x:rA S S1)(hr:S.length<=r):rA S (S1.set r o):=⟨by simpa using x.len,fun j hj=>by rw[QKq (by omega)];exact x.eq j hj⟩
def Bu{S S':aK}{d:D}{Q:Res->aK->Prop}(x:rA S S')(hd:∀k,d≠.ref k)(hl:cB 0 d=true)(q:Q (.d d) S):Op (settle S d S') fun p=>Q p.1 p.2:=by
 refine iE ⟨x.len,fun k o hk e=>.inl (by rw[←x.eq k hk];exact e)⟩ ?_ hd (dG hl) q
 apply List.ext_getElem?
 intro j
 by_cases hj:j<S.length
 ·rw[List.getElem?_take_of_lt hj]
  exact x.eq j hj
 ·rw[List.getElem?_eq_none (by rw[Qxq];omega),List.getElem?_eq_none (by omega)]
def ig:∀a:Str×Nat,∃r,vH a=.tup (.str a.1::r):=fun a=>⟨_,rfl⟩
def Cy:∀a:Str×Str,∃r,Gq a=.tup (.str a.1::r):=fun a=>⟨_,rfl⟩
section
variable{S:aK}{Q:Res->aK->Prop}
theorem sF:∀{m l:List (Key×D)},(dB l m).length<=l.length+m.length
 | [],l=>Qmq _
 | q::m,l=>by
   have h1:(dB (putD l q.1 q.2) m).length<=(putD l q.1 q.2).length+m.length:=sF
   have h2:(putD l q.1 q.2).length<=l.length+1:=by unfold putD;split <;>simp
   show(dB (putD l q.1 q.2) m).length<=_
   simp only[Qnq]
   omega
def ue{ts:List (Str×Nat)}{vs:List Int}:(eF ts vs).length<=ts.length:=by
 refine QAq sF ?_
 simp only[QGq,List.length_zip,lQm]
 omega
def xm{w:eM}{s:bR}{h:Nat}{ts:List (Str×Nat)}{pr:List Rw}{vs:List Int}{fs:List dk}{f:dk}{t:Tr}(hw:w.af[h]?=some (ts,pr))(hs:s.af[h]?=some (vs,fs))(hf:fs.getLast? =some f)(hr:f.room= -1)
  (l1:w.shared.length=s.shared.length) (l2:ts.length=vs.length) (b1:w.shared.length<=100) (b2:ts.length<=100) (v1:∀v∈s.shared,0<=v/\v<=9) (v2:∀v∈vs,0<=v/\v<=9)
  (ho:t.Ok (ts.map (·.1)++w.shared.map (·.1)) []) (hd:t.dep<=6) (q:Q (.d (.int (Ab (numAt (Da w s ts vs)) (fun _=>0) t))) S):Fn eg [w.d,s.d,.int h,t.d] S Q:=by
 have nine:lT (Da w s ts vs):=lT.merge (iI v1) (iI v2)
 refine cp ?_
 unfold p_
 symm
 apply cA hs hf ?_
 apply ay (d:=.int f.room) rfl ?_
 refine eU ?_
 dsimp only
 rw[Qeq hr,Qhq rfl]
 symm
 apply IJ ?_
 apply ay rfl ?_
 apply fS (enc:=vH) (nm:=(·.1)) ig (by omega) ?_
 refine ay rfl ?_
 refine eK (ds:=s.shared.map D.int) ?_
 refine⟨_,rfl,⟨trivial,by simp only[lQm];exact l1⟩,?_⟩
 dsimp only
 rw[show dB [] (((w.shared.map (·.1)).map (Sum.inr:Str->Key)).zip (s.shared.map D.int))=eF w.shared s.shared from rfl]
 apply cy (jn (K4 ?_))
 apply IJ ?_
 apply ay rfl ?_
 refine ay (d:=mJ (ts,pr)) (bp (by rw[gQm,hw];rfl)) ?_
 symm
 apply ay rfl ?_
 apply fS (enc:=vH) (nm:=(·.1)) ig (by omega) ?_
 apply ay rfl ?_
 refine ay (d:=yf (vs,fs)) (bp (by rw[gQm,hs];rfl)) ?_
 symm
 refine ay rfl ?_
 refine eK (ds:=vs.map D.int) ?_
 refine⟨_,rfl,⟨trivial,by simp only[lQm];exact l2⟩,?_⟩
 dsimp only
 rw[show dB [] (((ts.map (·.1)).map (Sum.inr:Str->Key)).zip (vs.map D.int))=eF ts vs from rfl]
 have ga:(S++ [O.dct (eF w.shared s.shared)])[S.length]?=some (.dct (eF w.shared s.shared)):=aX
 have hlen:(S++ [O.dct (eF w.shared s.shared)]).length=S.length+1:=by simp
 have x1:rA S (S++ [O.dct (eF w.shared s.shared)]):=rA.refl.app
 show∃k j l0 l m,D.ref S.length=.ref k/\D.ref (S++ [O.dct (eF w.shared s.shared)]).length=.ref j/\k≠j/\(S++ [O.dct (eF w.shared s.shared)])[k]?=some (.dct l0)/\(S++ [O.dct (eF w.shared s.shared)]++ [O.dct (eF ts vs)])[k]?=some (.dct l)/\(S++ [O.dct (eF w.shared s.shared)]++ [O.dct (eF ts vs)])[j]?=some (.dct m)/\_
 refine⟨_,_,_,_,_,rfl,rfl,by omega,ga,bh ga,aX,?_,?_⟩
 ·have h1:=ue (ts:=w.shared) (vs:=s.shared)
  have h2:=ue (ts:=ts) (vs:=vs)
  exact nQl (bG (by omega))
 have gm:((S++ [O.dct (eF w.shared s.shared)]++ [O.dct (eF ts vs)]).set S.length (.dct (dB (eF w.shared s.shared) (eF ts vs))))[S.length]?=some (.dct (Da w s ts vs)):=cX (bh ga)
 have x2:rA S ((S++ [O.dct (eF w.shared s.shared)]++ [O.dct (eF ts vs)]).set S.length (.dct (dB (eF w.shared s.shared) (eF ts vs)))):=x1.app.put (Qmq _)
 generalize ((S++ [O.dct (eF w.shared s.shared)]++ [O.dct (eF ts vs)]).set S.length (.dct (dB (eF w.shared s.shared) (eF ts vs))))=S2 at gm x2⊢
 symm
 apply Mw ?_
 refine gW (th:=numAt (Da w s ts vs)) (wt:=fun _=>0) (ws:=ts.map (·.1)++w.shared.map (·.1)) (bs:= []) (bh gm) aX (fun x hx=> ?_) (fun b hb=>by cases hb) 6 t ho hd ?_
 ·refine(ph nine ?_).1
  refine g8 ?_
  rcases mQa.mp hx with hx|hx
  ·exact .inr (iy l2 hx)
  ·exact .inl (iy l1 hx)
 ·exact Bu x2.app (fun k z=>(nomatch z)) rfl q
end
section
variable{S:aK}{Q:Res->aK->Prop}
theorem zJ:∀(bs:List (Str×Str)) (ls:List (List (Int×Int))),we ((bs.map (·.1)).map D.str) (ls.map cT)=(bs.zip ls).map fun p=>D.tup [.str p.1.1,cT p.2]
 | [],_=>rfl
 |_::_,[]=>rfl
 | b::bs,l::ls=>by
   have:=zJ bs ls
   simp only[we,QDq,List.zipWith_cons_cons,List.zip_cons_cons] at this⊢
   rw[this]
def zu(r:Rm)(rs:fm)(x:Str):Int:=numAt (BV r rs) x
def FP{r:Rm}{rs:fm}(hl:r.aa.length=rs.aa.length){x:Str}(h:x∈r.aa.map (·.1)):sx (BV r rs) (.inr x)=some (.int (zu r rs x)):=by
 have hk:(Sum.inr x:Key)∈(BV r rs).map (·.1):=by
  refine g8 (.inr ?_)
  rw[QPq]
  obtain⟨b,hb,rfl⟩:=Qkq.mp h
  obtain⟨i,hi,e⟩:=List.getElem_of_mem hb
  refine Qkq.mpr ⟨(b,rs.aa[i]'(by omega)),?_,rfl⟩
  rw[←e]
  have:(r.aa.zip rs.aa)[i]?=some (r.aa[i],rs.aa[i]'(by omega)):=by
   rw[List.getElem?_zip_eq_some]
   exact⟨gQe hi,gQe (by omega)⟩
  exact mQg this
 obtain⟨d,h1,h2⟩:=vz hk
 have hi:∃v:Int,d=.int v:=by
  rcases nh h2 with h2|h2
  ·cases h2
  ·obtain⟨p,_,e⟩:=Qkq.mp h2
   exact⟨_,(congrArg (·.2) e).symm⟩
 obtain⟨v,rfl⟩:=hi
 unfold zu DL.numAt
 rw[h1]
def uY{w:eM}{s:bR}{h i:Nat}{vs:List Int}{fs:List dk}{f:dk}{r:Rm}{rs:fm}{t:Tr}(hs:s.af[h]?=some (vs,fs))(hf:fs.getLast? =some f)(hr:f.room=i)(hw:w.rooms[i]?=some r)(hsr:s.rooms[i]?=some rs)
  (l1:r.things.length=rs.vals.length) (l2:r.aa.length=rs.aa.length) (b1:r.things.length<=100) (b2:r.aa.length<=100) (v1:∀v∈rs.vals,0<=v/\v<=9) (v2:0<=f.given/\f.given<=9)
  (ho:t.Ok (r.things.map (·.1)++gA) (r.aa.map (·.1))) (hd:t.dep<=6) (q:Q (.d (.int (Ab (numAt (ve r rs f.given)) (zu r rs) t))) S):Fn eg [w.d,s.d,.int h,t.d] S Q:=by
 have nine:lT (ve r rs f.given):=(iI v1).put v2.1 v2.2
 refine cp ?_
 unfold p_
 symm
 apply cA hs hf ?_
 apply ay (d:=.int f.room) rfl ?_
 refine eU ?_
 dsimp only
 rw[Qdq (show¬f.room= -1 by omega),Quq (by decide),hr]
 apply cN ?_
 apply IJ ?_
 apply ay rfl ?_
 refine ay (d:=r.d) (bp (by rw[gQm,hw];rfl)) ?_
 symm
 apply ay rfl ?_
 apply fS (enc:=vH) (nm:=(·.1)) ig (by omega) ?_
 apply ay rfl ?_
 refine ay (d:=rs.d) (bp (by rw[gQm,hsr];rfl)) ?_
 symm
 refine ay rfl ?_
 refine eK (ds:=rs.vals.map D.int) ?_
 refine⟨_,rfl,⟨trivial,by simp only[lQm];exact l1⟩,?_⟩
 dsimp only
 rw[show dB [] (((r.things.map (·.1)).map (Sum.inr:Str->Key)).zip (rs.vals.map D.int))=eF r.things rs.vals from rfl]
 have x1:rA S (S++ [O.dct (eF r.things rs.vals)]):=rA.refl.app
 apply cy (Mk ?_)
 apply ay (d:=.int f.given) rfl ?_
 refine⟨_,_,_,rfl,rfl,aX,bG (by have:=ue (ts:=r.things) (vs:=rs.vals);omega),?_⟩
 have gm:((S++ [O.dct (eF r.things rs.vals)]).set S.length (.dct (putD (eF r.things rs.vals) (.inr "given") (.int f.given))))[S.length]?=some (.dct (ve r rs f.given)):=cX aX
 have x2:rA S ((S++ [O.dct (eF r.things rs.vals)]).set S.length (.dct (putD (eF r.things rs.vals) (.inr "given") (.int f.given)))):=x1.put (Qmq _)
 generalize ((S++ [O.dct (eF r.things rs.vals)]).set S.length (.dct (putD (eF r.things rs.vals) (.inr "given") (.int f.given))))=S2 at gm x2⊢
 apply cy (Mg (α:=(Str×Str)×List (Int×Int)) (fun Γ'=>∃a b,Γ'= [a,b]) (fun p=>D.tup [.str p.1.1,cT p.2]) (fun p=>p.1.1) (fun p=>.int (p.2.length:Nat)) ⟨none,none,rfl⟩ (Fj ?_))
 apply ay rfl ?_
 refine ay (d:=r.d) (bp (by rw[gQm,hw];rfl)) ?_
 symm
 apply ay rfl ?_
 apply fS (enc:=Gq) (nm:=(·.1)) Cy (by omega) ?_
 apply ay rfl ?_
 refine ay (d:=rs.d) (bp (by rw[gQm,hsr];rfl)) ?_
 symm
 refine ay rfl ?_
 refine eK (ds:=rs.aa.map cT) ?_
 refine⟨⟨trivial,by simp only[lQm];omega⟩,r.aa.zip rs.aa,zJ _ _,⟨trivial,trivial⟩,by rw[List.length_zip];omega,fun p hp Γ' hΓ=> ?_,?_⟩
 ·obtain⟨a,b,rfl⟩:=hΓ
  refine gF rfl (aC (bB (aC (bB (bZ ?_)))))
  apply⟨rfl,⟨_,_,rfl⟩,?_⟩
  apply⟨rfl,rfl,?_⟩
  refine eK (ds:=p.2.map pairD) ?_
  exact⟨by simp,rfl⟩
 symm
 refine gW (th:=numAt (ve r rs f.given)) (wt:=zu r rs) (ws:=r.things.map (·.1)++gA) (bs:=r.aa.map (·.1)) (kws:=BV r rs) (bh gm) aX (fun x hx=> ?_) (fun b hb=>FP l2 hb) 6 t ho hd ?_
 ·refine(ph nine ?_).1
  refine mm ?_
  rcases mQa.mp hx with hx|hx
  ·exact .inr (iy l1 hx)
  ·left
   rw[Qfq.mp hx]
 ·exact Bu x2.app (fun k z=>(nomatch z)) rfl q
end
end W28
namespace DL
open PySem PySem.Spec L2
def DA{Γ:dh}{S:aK}{neg:Bool}{f:bN}{g:eJ}{Q:D->aK->Prop}(h:E f Γ S fun x S1=>E g Γ S1 fun p S2=>∃v vs,wz x=some v/\oX p.1=some vs/\Q (.bl (if neg then !Ej v vs else Ej v vs)) S2):E (Br neg f g) Γ S Q:=by
 obtain⟨x,S1,e1,p,S2,e2,v,vs,h1,h2,q⟩:=h
 exact⟨_,S2,by unfold Br;rw[e1];simp only[Qbq];rw[e2];simp only[Qbq];rw[h1,h2];rfl,q⟩
def Hm{x:Str}{ss:List Str}:Ej (.str x) (ss.map V.str)=decide (x∈ss):=by
 induction ss with
 |nil=>rfl
 | cons a ss ih=>
   show(rP (.str a) (.str x)||Ej (.str x) (ss.map V.str))=_
   rw[ih]
   simp only[rP,Qsq]
   by_cases c:a=x
   · subst c;simp
   · have c':¬x=a:=fun z=>c z.symm
     simp[c,c']
end DL
namespace W28
open PySem PySem.Spec L2 DL
section
variable{S:aK}{Q:Res->aK->Prop}
def fH(ns:List Str)(vs:List Int)(x:Str)(v:Int):List Int:=vs.set ((og (.str x) (ns.map V.str)).getD 0) v
def oE{α:Type}{enc:α->D}{nm:α->Str}{xs:List α}{x:Str}(he:∀a,∃r,enc a=.tup (.str (nm a)::r))(hl:xs.length<=1000)(hx:x∈xs.map nm)(q:((og (.str x) ((xs.map nm).map V.str)).getD 0)<xs.length->Q (.d (.int ((og (.str x) ((xs.map nm).map V.str)).getD 0:Nat))) S):Fn dD [.tup (xs.map enc),.str x] S Q:=by
 refine cp ?_
 unfold vL
 obtain⟨j,h1,h2⟩:=wA hx
 have hj:j<xs.length:=by have:=(gQs.mp h2).1;simpa using this
 rw[h1] at q
 refine qW ?_
 have key:E (iM (dY eG (ao (aq 0) aw))) ([D.tup (xs.map enc),D.str x].map some++List.replicate (2- [D.tup (xs.map enc),D.str x].length) none) S fun p S1=>p=((xs.map nm).map D.str,.fr)/\S1=S:=by
  symm
  exact fS he hl ⟨rfl,rfl⟩
 obtain⟨p,S1,e1,rfl,rfl⟩:=key
 refine⟨.int j,S1,?_,dg (fun k z=>(nomatch z)) rfl (q hj)⟩
 unfold I0
 rw[e1]
 simp only[Qbq]
 rw[Qhq (show Tag.fr.isL=true from rfl)]
 show((aq 1 _ S1).bind _)=_
 rw[show aq 1 ([D.tup (xs.map enc),D.str x].map some++List.replicate (2- [D.tup (xs.map enc),D.str x].length) none) S1=some (.str x,S1) from rfl]
 simp only[Qbq]
 rw[Qhq (show Tag.stays S1 _ .fr from trivial)]
 show(wz (.str x)).bind _=_
 simp only[wz,Qbq]
 rw[nM]
 simp only[Qbq]
 rw[h1]
 rfl
def EN{w:eM}{s:bR}{h i:Nat}{vs:List Int}{fs:List dk}{f:dk}{r:Rm}{rs:fm}{x:Str}{v:Int}(hs:s.af[h]?=some (vs,fs))(hf:fs.getLast? =some f)(hr:f.room=i)(hw:w.rooms[i]?=some r)(hsr:s.rooms[i]?=some rs)
  (l1:r.things.length=rs.vals.length) (b1:r.things.length<=100) (b2:s.rooms.length<=100) (hx:x∈r.things.map (·.1))
  (q:Q (.d ({s with rooms:=s.rooms.set i {rs with vals:=fH (r.things.map (·.1)) rs.vals x v}}:bR).d) S):Fn fJ [w.d,s.d,.int h,.str x,.int v] S Q:=by
 refine cp ?_
 unfold nU
 symm
 apply cA hs hf ?_
 apply ay (d:=.int f.room) rfl ?_
 refine jV ?_
 dsimp only
 rw[Qdq (show¬f.room= -1 by omega),hr]
 show if (true=true) then _ else _
 rw[Qhq rfl]
 symm
 apply ay rfl ?_
 refine ay (d:=r.d) (bp (by rw[gQm,hw];rfl)) ?_
 symm
 apply ay rfl ?_
 apply oE (enc:=vH) (nm:=(·.1)) ig (by omega) hx fun hj=> ?_
 apply ay rfl ?_
 refine ay (d:=rs.d) (bp (by rw[gQm,hsr];rfl)) ?_
 symm
 apply ay rfl ?_
 refine et (xs:=rs.vals.map D.int) (by rw[lQm];omega) (by rw[lQm];omega) (bg fun _ _=>rfl) rfl ?_
 symm
 refine⟨by show 1<=_;decide,?_⟩
 apply jF ?_
 apply ay rfl ?_
 refine ay (d:=rs.d) (bp (by rw[gQm,hsr];rfl)) ?_
 apply da ?_
 refine⟨_,rfl,c9 ⟨_,rfl,?_⟩⟩
 refine dv (by show 5<=_;decide) ?_
 symm
 have e:({rs with vals:=fH (r.things.map (·.1)) rs.vals x v}:fm).d=.tup ([.tup ((rs.vals.map D.int).set ((og (.str x) ((r.things.map (·.1)).map V.str)).getD 0) (.int v))]++jC [bL rs.vals,.int rs.within,bL rs.row,bL rs.ag,.tup (rs.aa.map cT)] (some 1) none):=by
  show D.tup [bL (fH _ _ _ _),_,_,_,_]=_
  unfold fH bL
  rw[map_set]
  rfl
 rw[←e]
 refine dN (gQs.mp hsr).1 (by omega) ?_
 exact dg (a_ _) (bR.low _) q
end
section
variable{S:aK}{Q:Res->aK->Prop}
def xg(w:eM)(s:bR)(h:Nat)(ts:List (Str×Nat))(vs:List Int)(fs:List dk)(x:Str)(v:Int):bR:=
 if x∈w.shared.map (·.1) then{s with shared:=fH (w.shared.map (·.1)) s.shared x v} else{s with af:=s.af.set h (fH (ts.map (·.1)) vs x v,fs)}
def GS{w:eM}{s:bR}{h:Nat}{ts:List (Str×Nat)}{pr:List Rw}{vs:List Int}{fs:List dk}{f:dk}{x:Str}{v:Int}(hw:w.af[h]?=some (ts,pr))(hs:s.af[h]?=some (vs,fs))(hf:fs.getLast? =some f)(hr:f.room= -1)
  (l1:w.shared.length=s.shared.length) (l2:ts.length=vs.length) (b1:w.shared.length<=100) (b2:ts.length<=100) (b3:s.af.length<=100) (hx:x∈ts.map (·.1)++w.shared.map (·.1))
  (q:Q (.d (xg w s h ts vs fs x v).d) S):Fn fJ [w.d,s.d,.int h,.str x,.int v] S Q:=by
 refine cp ?_
 unfold nU
 symm
 apply cA hs hf ?_
 apply ay (d:=.int f.room) rfl ?_
 refine jV ?_
 dsimp only
 rw[Qeq hr]
 refine bf (fun c=>by cases c) (fun _=>cN ?_)
 apply cy (f_ (gf (DA ?_)))
 apply ay rfl ?_
 apply fS (enc:=vH) (nm:=(·.1)) ig (by omega) ?_
 refine⟨_,_,rfl,nM _,?_⟩
 unfold xg at q
 show if Ej (.str x) ((w.shared.map (·.1)).map V.str)=true then _ else _
 rw[Hm]
 by_cases c:x∈w.shared.map (·.1)
 ·rw[Qhq c] at q
  rw[Qeq c,Qhq rfl]
  symm
  apply ay rfl ?_
  apply ay rfl ?_
  apply oE (enc:=vH) (nm:=(·.1)) ig (by omega) c fun hj=> ?_
  refine et (xs:=s.shared.map D.int) (by rw[lQm];omega) (by rw[lQm];omega) (bg fun _ _=>rfl) rfl ?_
  symm
  apply ay rfl ?_
  apply ay rfl ?_
  apply ay rfl ?_
  refine⟨by show 4<=_;decide,?_⟩
  rw[←map_set]
  exact dg (d:=({s with shared:=fH (w.shared.map (·.1)) s.shared x v}:bR).d) (a_ _) (bR.low _) q
 ·rw[Quq c] at q
  rw[Qdq c,Quq (by decide)]
  refine cN ?_
  have hx':x∈ts.map (·.1):=(mQa.mp hx).resolve_right c
  symm
  apply ay rfl ?_
  refine ay (d:=yf (vs,fs)) (bp (by rw[gQm,hs];rfl)) ?_
  apply gF rfl (aC (bB (aC (bB (bZ ?_)))))
  apply ay rfl ?_
  refine ay (d:=mJ (ts,pr)) (bp (by rw[gQm,hw];rfl)) ?_
  symm
  apply ay rfl ?_
  apply oE (enc:=vH) (nm:=(·.1)) ig (by omega) hx' fun hj=> ?_
  refine et (xs:=vs.map D.int) (by rw[lQm];omega) (by rw[lQm];omega) (bg fun _ _=>rfl) rfl ?_
  symm
  rw[←map_set]
  rw[show D.tup ((vs.set ((og (.str x) ((ts.map (·.1)).map V.str)).getD 0) v).map D.int)=bL (fH (ts.map (·.1)) vs x v) from rfl]
  generalize fH (ts.map (·.1)) vs x v=nv at q⊢
  have hh:h<s.af.length:=(gQs.mp hs).1
  have hb:s.af.length<=900:=by omega
  have q2:Op (settle S ({s with af:=s.af.set h (nv,fs)}:bR).d S) fun p=>Q p.1 p.2:=dg (a_ _) (bR.low _) q
  exact iq hh hb q2
end
section
variable{S:aK}{Q:Res->aK->Prop}
def hU(ns:List Str)(x:Str):Nat:=(og (.str x) (ns.map V.str)).getD 0
def nE{ns:List Str}{x:Str}(h:x∈ns):hU ns x<ns.length/\ns[hU ns x]?=some x:=by
 obtain⟨j,h1,h2⟩:=wA h
 unfold hU
 rw[h1]
 exact⟨(gQs.mp h2).1,h2⟩
def jA{α:Type}{enc:α->D}{nm:α->Str}{xs:List α}{x:Str}(he:∀a,∃r,enc a=.tup (.str (nm a)::r))(hl:xs.length<=1000)(hx:x∈xs.map nm)(q:Q (.d (.int (hU (xs.map nm) x:Nat))) S):Fn dD [.tup (xs.map enc),.str x] S Q:=oE he hl hx fun _=>q
def nq{w:eM}{s:bR}{h i:Nat}{vs:List Int}{fs:List dk}{f:dk}{r:Rm}{x:Str}(hs:s.af[h]?=some (vs,fs))(hf:fs.getLast? =some f)(hr:f.room=i)(hw:w.rooms[i]?=some r)(b2:r.aa.length<=100)(hx:x∈r.aa.map (·.1))
  (q:Q (.d (.tup [.int i,.int (hU (r.aa.map (·.1)) x:Nat)])) S):Fn jQ [w.d,s.d,.int h,.str x] S Q:=by
 refine cp ?_
 unfold yl
 symm
 apply cA hs hf ?_
 refine ay (d:=.int f.room) rfl ?_
 rw[hr]
 symm
 apply ay rfl ?_
 refine ay (d:=r.d) (bp (by rw[gQm,hw];rfl)) ?_
 symm
 apply ay rfl ?_
 apply jA (enc:=Gq) (nm:=(·.1)) Cy (by omega) hx ?_
 refine⟨by show 2<=_;decide,?_⟩
 exact dg (fun k z=>(nomatch z)) rfl q
def j8{s:bR}{i b:Nat}{rs:fm}{l:List (Int×Int)}(hsr:s.rooms[i]?=some rs)(hb:b<rs.aa.length)(b1:rs.aa.length<=100)(b2:s.rooms.length<=100)
  (q:Q (.d ({s with rooms:=s.rooms.set i {rs with aa:=rs.aa.set b l}}:bR).d) S):Fn fM [s.d,.int i,.int b,cT l] S Q:=by
 refine cp ?_
 unfold sH
 symm
 apply ay rfl ?_
 refine ay (d:=rs.d) (bp (by rw[gQm,hsr];rfl)) ?_
 symm
 apply jF ?_
 apply c9 (da ?_)
 apply⟨_,rfl,_,rfl,?_⟩
 apply ay rfl ?_
 refine et (xs:=rs.aa.map cT) (by rw[lQm];omega) (by rw[lQm];omega) (bg fun l _=>sZ l) (sZ l) ?_
 symm
 refine⟨by show 1<=_;decide,?_⟩
 refine dv (by show 5<=_;decide) ?_
 symm
 rw[←map_set]
 generalize hnb:rs.aa.set b l=nb at q⊢
 have e:({rs with aa:=nb}:fm).d=.tup (jC [bL rs.vals,.int rs.within,bL rs.row,bL rs.ag,.tup (rs.aa.map cT)] none (some 4)++ [.tup (nb.map cT)]):=rfl
 rw[←e]
 have hi:i<s.rooms.length:=(gQs.mp hsr).1
 have hl:s.rooms.length<=900:=by omega
 have q2:Op (settle S ({s with rooms:=s.rooms.set i {rs with aa:=nb}}:bR).d S) fun p=>Q p.1 p.2:=dg (a_ _) (bR.low _) q
 exact dN hi hl q2
def i8(p:Int×List Int)(h:Int):Int×List Int:=if 0<p.1 then(p.1-1,p.2) else(p.1,p.2++ [h])
def ib(p:Int×List Int):Int×List Int:=match p.2 with
 |_::l=>(p.1,l)
 | []=>(if 9<p.1+1 then 9 else p.1+1,[])
def yk{w:eM}{s:bR}{h:Int}{x:Str}{p:Int×List Int}(hx:x∈w.passes.map (·.1))(hp:s.passes[hU (w.passes.map (·.1)) x]?=some p)(b1:w.passes.length<=100)(b2:s.passes.length<=100)(b3:p.2.length<=900)
  (q:Q (.d ({s with passes:=s.passes.set (hU (w.passes.map (·.1)) x) (i8 p h)}:bR).d) S):Fn uG [w.d,s.d,.int h,.str x] S Q:=by
 refine cp ?_
 unfold FQ
 symm
 apply ay rfl ?_
 refine jA (enc:=vH) (nm:=(·.1)) ig (by omega) hx ?_
 generalize hU (w.passes.map (·.1)) x=j at hp q⊢
 have hj:j<s.passes.length:=(gQs.mp hp).1
 have hl:s.passes.length<=900:=by omega
 symm
 apply ay rfl ?_
 refine ay (d:=yp p) (bp (by rw[gQm,hp];rfl)) ?_
 refine gF rfl (aC (bB (aC (bB (bZ ?_)))))
 have q2:Op (settle S ({s with passes:=s.passes.set j (i8 p h)}:bR).d S) fun p=>Q p.1 p.2:=dg (a_ _) (bR.low _) q
 unfold i8 at q2
 symm
 by_cases c:0<p.1
 ·rw[Qhq c] at q2
  rw[Qeq c,Qhq rfl]
  symm
  refine⟨by show 2<=_;decide,?_⟩
  symm
  exact ie (p:=(p.1-1,p.2)) hj hl q2
 ·rw[Quq c] at q2
  rw[Qdq c,Quq (by decide)]
  apply cN ?_
  refine⟨by show 1<=_;decide,?_⟩
  refine dv (by simp only[lQm,Qnq,QGq];exact nQl (bG (by omega))) ?_
  symm
  refine⟨by show 2<=_;decide,?_⟩
  symm
  have e:D.tup [.int p.1,.tup (p.2.map D.int++ [.int h])]=yp (p.1,p.2++ [h]):=by simp[yp,bL]
  rw[e]
  exact ie hj hl q2
end
section
variable{S:aK}{Q:Res->aK->Prop}
def mL{w:eM}{s:bR}{x:Str}{p:Int×List Int}(hx:x∈w.passes.map (·.1))(hp:s.passes[hU (w.passes.map (·.1)) x]?=some p)(b1:w.passes.length<=100)(b2:s.passes.length<=100)
  (q:Q (.d ({s with passes:=s.passes.set (hU (w.passes.map (·.1)) x) (ib p)}:bR).d) S):Fn gX [w.d,s.d,.str x] S Q:=by
 refine cp ?_
 unfold qo
 symm
 apply ay rfl ?_
 refine jA (enc:=vH) (nm:=(·.1)) ig (by omega) hx ?_
 generalize hU (w.passes.map (·.1)) x=j at hp q⊢
 have hj:j<s.passes.length:=(gQs.mp hp).1
 have hl:s.passes.length<=900:=by omega
 symm
 apply ay rfl ?_
 refine ay (d:=yp p) (bp (by rw[gQm,hp];rfl)) ?_
 refine gF rfl (aC (bB (aC (bB (bZ ?_)))))
 have q2:Op (settle S ({s with passes:=s.passes.set j (ib p)}:bR).d S) fun p=>Q p.1 p.2:=dg (a_ _) (bR.low _) q
 obtain⟨v,row⟩:=p
 symm
 refine xf ?_
 cases row with
 | cons a l=>
   apply bf (fun _=> ?_) (fun c=>by cases c)
   apply jF ?_
   apply da ?_
   apply⟨_,rfl,c9 ⟨_,rfl,?_⟩⟩
   refine⟨by show 2<=_;decide,?_⟩
   symm
   have e:D.tup (jC ((a::l).map D.int) (some 1) none)=bL l:=by
     rw[show(some (1:Int))=some ((1:Nat):Int) from rfl,iU (by simp)]
     rfl
   rw[e]
   exact ie (p:=(v,l)) hj hl q2
 | nil=>
   apply bf (fun c=>by cases c) (fun _=>cN ?_)
   apply FH ?_
   refine⟨by show 2<=_;decide,?_⟩
   symm
   exact ie (p:=(if 9<v+1 then 9 else v+1,[])) hj hl q2
def CH{wd sd hd rd:D}{s:bR}(q:Q (.d s.d) S):Fn se [wd,s.d,hd,rd] S Q:=by
 refine cp ?_
 unfold Bq
 symm
 exact dg (a_ _) (bR.low _) q
def FS{wd:D}{s:bR}{h n:Nat}{vs:List Int}{fs:List dk}{f:dk}(h1:s.af[h]?=some (vs,fs))(h2:fs.getLast? =some f)(lf:fs.length<=900)(hl:s.af.length<=900)(q:Q (.d ({s with af:=s.af.set h (vs,fs.dropLast++ [{f with row:=n}])}:bR).d) S):Fn xF [wd,s.d,.int h,(Rw.go n).d] S Q:=by
 refine cp ?_
 unfold EC
 symm
 apply ay (d:=.int n) rfl ?_
 have q2:Op (settle S ({s with af:=s.af.set h (vs,fs.dropLast++ [{f with row:=n}])}:bR).d S) fun p=>Q p.1 p.2:=dg (a_ _) (bR.low _) q
 exact qm h1 h2 lf hl q2
end
section
variable{S:aK}{Q:Res->aK->Prop}
def AN{w:eM}{s:bR}{h:Int}{x:Str}{p:Int×List Int}(hx:x∈w.passes.map (·.1))(hp:s.passes[hU (w.passes.map (·.1)) x]?=some p)(b1:w.passes.length<=100)(b2:s.passes.length<=100)(b3:p.2.length<=900)
  (q:Q (.d ({s with passes:=s.passes.set (hU (w.passes.map (·.1)) x) (i8 p h)}:bR).d) S):Fn oJ [w.d,s.d,.int h,(Rw.take x).d] S Q:=by
 refine cp ?_
 unfold yA
 symm
 apply ay (d:=.str x) rfl ?_
 have q2:Op (settle S ({s with passes:=s.passes.set (hU (w.passes.map (·.1)) x) (i8 p h)}:bR).d S) fun p=>Q p.1 p.2:=dg (a_ _) (bR.low _) q
 exact yk hx hp b1 b2 b3 q2
def A8{w:eM}{s:bR}{hd:D}{x:Str}{p:Int×List Int}(hx:x∈w.passes.map (·.1))(hp:s.passes[hU (w.passes.map (·.1)) x]?=some p)(b1:w.passes.length<=100)(b2:s.passes.length<=100)
  (q:Q (.d ({s with passes:=s.passes.set (hU (w.passes.map (·.1)) x) (ib p)}:bR).d) S):Fn pq [w.d,s.d,hd,(Rw.give x).d] S Q:=by
 refine cp ?_
 unfold yo
 symm
 apply ay (d:=.str x) rfl ?_
 have q2:Op (settle S ({s with passes:=s.passes.set (hU (w.passes.map (·.1)) x) (ib p)}:bR).d S) fun p=>Q p.1 p.2:=dg (a_ _) (bR.low _) q
 exact mL hx hp b1 b2 q2
end
section
variable{S:aK}{Q:Res->aK->Prop}
def Ag(w:eM)(s:bR)(h:Nat)(t:Tr)(v:Int):Prop:=∀(S:aK) (Q:Res->aK->Prop),Q (.d (.int v)) S->Fn eg [w.d,s.d,.int h,t.d] S Q
def Puts(w:eM)(s:bR)(h:Nat)(x:Str)(v:Int)(s':bR):Prop:=∀(S:aK) (Q:Res->aK->Prop),Q (.d s'.d) S->Fn fJ [w.d,s.d,.int h,.str x,.int v] S Q
def Bf{w:eM}{s:bR}{h:Int}{x y:Str}{p p2:Int×List Int}(hx:x∈w.passes.map (·.1))(hy:y∈w.passes.map (·.1))(hp:s.passes[hU (w.passes.map (·.1)) x]?=some p)(b1:w.passes.length<=100)(b2:s.passes.length<=100)(b3:p2.2.length<=900)
  (hp2:(s.passes.set (hU (w.passes.map (·.1)) x) (ib p))[hU (w.passes.map (·.1)) y]?=some p2)
  (q:Q (.d ({s with passes:=(s.passes.set (hU (w.passes.map (·.1)) x) (ib p)).set (hU (w.passes.map (·.1)) y) (i8 p2 h)}:bR).d) S):Fn pe [w.d,s.d,.int h,(Rw.pass x y).d] S Q:=by
 refine cp ?_
 unfold yU
 symm
 apply ay (d:=.str x) rfl ?_
 apply mL hx hp b1 b2 ?_
 apply ay (d:=.str y) rfl ?_
 have q2:Op (settle S ({s with passes:=(s.passes.set (hU (w.passes.map (·.1)) x) (ib p)).set (hU (w.passes.map (·.1)) y) (i8 p2 h)}:bR).d S) fun p=>Q p.1 p.2:=dg (a_ _) (bR.low _) q
 exact yk (s:={s with passes:=s.passes.set (hU (w.passes.map (·.1)) x) (ib p)}) hy hp2 b1 (by simpa using b2) b3 q2
def C3{w:eM}{s s':bR}{h:Nat}{x:Str}{t:Tr}{v:Int}(hr:Ag w s h t v)(hp:Puts w s h x v s')(q:Q (.d s'.d) S):Fn rS [w.d,s.d,.int h,(Rw.put x t).d] S Q:=by
 refine cp ?_
 unfold Bp
 symm
 apply ay (d:=.str x) rfl ?_
 apply ay (d:=t.d) rfl ?_
 apply hr _ _ ?_
 refine hp _ _ ?_
 exact dg (a_ _) (bR.low _) q
def wH{w:eM}{s:bR}{h n:Nat}{t:Tr}{v:Int}{vs:List Int}{fs:List dk}{f:dk}(hr:Ag w s h t v)(h1:s.af[h]?=some (vs,fs))(h2:fs.getLast? =some f)(lf:fs.length<=900)(hl:s.af.length<=900)
  (q:Q (.d (if v=0 then({s with af:=s.af.set h (vs,fs.dropLast++ [{f with row:=n}])}:bR) else s).d) S):Fn kE [w.d,s.d,.int h,(Rw.unl t n).d] S Q:=by
 refine cp ?_
 unfold tw
 symm
 apply ay (d:=t.d) rfl ?_
 apply hr _ _ ?_
 refine eU ?_
 dsimp only
 by_cases c:v=0
 ·rw[Qhq c] at q
  rw[Qeq c,Qhq rfl]
  symm
  apply ay (d:=.int n) rfl ?_
  have q2:Op (settle S ({s with af:=s.af.set h (vs,fs.dropLast++ [{f with row:=n}])}:bR).d S) fun p=>Q p.1 p.2:=dg (a_ _) (bR.low _) q
  exact qm h1 h2 lf hl q2
 ·rw[Quq c] at q
  rw[Qdq c,Quq (by decide)]
  apply cN ?_
  exact dg (a_ _) (bR.low _) q
end
section
variable{S:aK}{Q:Res->aK->Prop}
def Bb{w:eM}{s:bR}{h:Nat}{t:Tr}{v:Int}{vs:List Int}{fs:List dk}{f:dk}(hr:Ag w s h t v)(h1:s.af[h]?=some (vs,fs))(h2:fs.getLast? =some f)(lf:fs.length<=900)(hl:s.af.length<=900)
  (q:Q (.d ({s with af:=s.af.set h (vs,fs.dropLast++ [{f with told:=v}])}:bR).d) S):Fn n_ [w.d,s.d,.int h,(Rw.tell t).d] S Q:=by
 refine cp ?_
 unfold zk
 symm
 apply ay (d:=t.d) rfl ?_
 apply hr _ _ ?_
 apply jF ?_
 refine cA h1 h2 ?_
 apply c9 (da ?_)
 apply⟨_,rfl,_,rfl,?_⟩
 refine⟨by show 1<=_;decide,?_⟩
 refine dv (by show 5<=_;decide) ?_
 symm
 have h0:0<fs.length:=by
  cases fs with
  |nil=>cases h2
  |cons a b=>simp
 have q2:Op (settle S ({s with af:=s.af.set h (vs,fs.dropLast++ [{f with told:=v}])}:bR).d S) fun p=>Q p.1 p.2:=dg (a_ _) (bR.low _) q
 exact iP (f:={f with told:=v}) h1 h0 lf hl q2
def Dh{w:eM}{s:bR}{h i:Nat}{vs:List Int}{fs:List dk}{f:dk}{r:Rm}{rs:fm}{x:Str}(hs:s.af[h]?=some (vs,fs))(hf:fs.getLast? =some f)(hr:f.room=i)(hw:w.rooms[i]?=some r)(hsr:s.rooms[i]?=some rs)(b2:r.aa.length<=100)(l2:r.aa.length=rs.aa.length)(b3:s.rooms.length<=100)(hx:x∈r.aa.map (·.1))
  (q:Q (.d ({s with rooms:=s.rooms.set i {rs with aa:=rs.aa.set (hU (r.aa.map (·.1)) x) []}}:bR).d) S):Fn r_ [w.d,s.d,.int h,(Rw.all x).d] S Q:=by
 have hp:=(nE hx).1
 rw[lQm] at hp
 refine cp ?_
 unfold Ci
 symm
 apply ay (d:=.str x) rfl ?_
 refine nq hs hf hr hw b2 hx ?_
 refine gF rfl (aC (bB (aC (bB (bZ ?_)))))
 generalize hU (r.aa.map (·.1)) x=b at hp q⊢
 symm
 apply⟨by decide,?_⟩
 have q2:Op (settle S ({s with rooms:=s.rooms.set i {rs with aa:=rs.aa.set b []}}:bR).d S) fun p=>Q p.1 p.2:=dg (a_ _) (bR.low _) q
 exact j8 (l:= []) hsr (by omega) (by omega) b3 q2
end
section
variable{S:aK}{Q:Res->aK->Prop}
def Io:∀a:Rm,∃r,a.d=.tup (.str a.name::r):=fun a=>⟨_,rfl⟩
def FJ:∀a:Str×List Rw,∃r,jU a=.tup (.str a.1::r):=fun a=>⟨_,rfl⟩
def E3{w:eM}{s:bR}{h:Nat}{g:Option Str}{rn dn:Str}{t:Tr}{v:Int}{vs:List Int}{fs:List dk}{r:Rm}{rs:fm}(hr:Ag w s h t v)(hs:s.af[h]?=some (vs,fs))(hrn:rn∈w.rooms.map (·.name))(hw:w.rooms[hU (w.rooms.map (·.name)) rn]?=some r)(hsr:s.rooms[hU (w.rooms.map (·.name)) rn]?=some rs)(hdn:dn∈r.ae.map (·.1))
  (b1:w.rooms.length<=100) (b2:r.ae.length<=100) (b3:s.rooms.length<=100) (b4:rs.row.length<=900) (b5:fs.length<=900) (b6:s.af.length<=100)
  (q:Q (.d ({s with af:=s.af.set h (vs,fs++ [⟨(hU (w.rooms.map (·.name)) rn:Nat),(hU (r.ae.map (·.1)) dn:Nat),0,v,0⟩]),rooms:=s.rooms.set (hU (w.rooms.map (·.name)) rn) (oG rs h)}:bR).d) S):Fn w6 [w.d,s.d,.int h,(Rw.do_ g rn dn t).d] S Q:=by
 refine cp ?_
 unfold EM
 symm
 apply ay rfl ?_
 apply ay (d:=.str rn) rfl ?_
 refine jA (enc:=Rm.d) (nm:=(·.name)) Io (by omega) hrn ?_
 generalize hU (w.rooms.map (·.name)) rn=i at hw hsr q⊢
 symm
 apply ay rfl ?_
 refine ay (d:=r.d) (bp (by rw[gQm,hw];rfl)) ?_
 symm
 apply ay rfl ?_
 apply ay (d:=.str dn) rfl ?_
 refine jA (enc:=jU) (nm:=(·.1)) FJ (by omega) hdn ?_
 generalize hU (r.ae.map (·.1)) dn=dd at q⊢
 symm
 apply ay (d:=t.d) rfl ?_
 apply hr _ _ ?_
 refine⟨by show 5<=_;decide,?_⟩
 symm
 apply ay rfl ?_
 refine ay (d:=yf (vs,fs)) (bp (by rw[gQm,hs];rfl)) ?_
 apply gF rfl (aC (bB (aC (bB (bZ ?_)))))
 refine⟨by show 1<=_;decide,?_⟩
 refine dv (by simp only[lQm,Qnq,QGq];exact nQl (bG (by omega))) ?_
 symm
 have e:fs.map dk.d++ [D.tup [.int i,.int dd,.int 0,.int v,.int 0]]=(fs++ [(⟨i,dd,0,v,0⟩:dk)]).map dk.d:=by rw[Qzq];rfl
 rw[e]
 generalize hnf:fs++ [(⟨i,dd,0,v,0⟩:dk)]=nf at q⊢
 have hh:h<s.af.length:=(gQs.mp hs).1
 apply iq (vs:=vs) (fs:=nf) hh (by omega) ?_
 have q2:Op (settle S ({s with af:=s.af.set h (vs,nf),rooms:=s.rooms.set i (oG rs h)}:bR).d S) fun p=>Q p.1 p.2:=dg (a_ _) (bR.low _) q
 exact uF (s:={s with af:=s.af.set h (vs,nf)}) hsr (by show s.rooms.length<=900;omega) b4 q2
end
section
variable{S:aK}{Q:Res->aK->Prop}
def ur(free:Bool)(rs:fm)(b:Nat)(h:Int):fm:=match rs.aa[b]? with
 |some (p::l)=>if free then{rs with aa:=rs.aa.set b l} else{rs with aa:=rs.aa.set b l,within:=p.2,ag:=rs.ag++ [h]}
 |_=>rs
def Ax{w:eM}{s:bR}{h i:Nat}{vs:List Int}{fs:List dk}{f:dk}{r:Rm}{rs:fm}{x:Str}(hs:s.af[h]?=some (vs,fs))(hf:fs.getLast? =some f)(hr:f.room=i)(hw:w.rooms[i]?=some r)(hsr:s.rooms[i]?=some rs)(b2:r.aa.length<=100)(l2:r.aa.length=rs.aa.length)(b3:s.rooms.length<=100)(b4:rs.ag.length<=900)(hx:x∈r.aa.map (·.1))
  (q:Q (.d ({s with rooms:=s.rooms.set i (ur (decide (r.ah="when free")) rs (hU (r.aa.map (·.1)) x) h)}:bR).d) S):Fn oH [w.d,s.d,.int h,(Rw.call x).d] S Q:=by
 have hp:=(nE hx).1
 rw[lQm] at hp
 have hi:i<s.rooms.length:=(gQs.mp hsr).1
 refine cp ?_
 unfold zD
 symm
 apply ay (d:=.str x) rfl ?_
 refine nq hs hf hr hw b2 hx ?_
 refine gF rfl (aC (bB (aC (bB (bZ ?_)))))
 generalize hU (r.aa.map (·.1)) x=b at hp q⊢
 have hb:b<rs.aa.length:=by omega
 obtain⟨line,hline⟩:∃l,rs.aa[b]?=some l:=⟨_,gQe hb⟩
 have q2:Op (settle S ({s with rooms:=s.rooms.set i (ur (decide (r.ah="when free")) rs b h)}:bR).d S) fun p=>Q p.1 p.2:=dg (a_ _) (bR.low _) q
 unfold ur at q2
 rw[hline] at q2
 symm
 apply ay rfl ?_
 refine ay (d:=rs.d) (bp (by rw[gQm,hsr];rfl)) ?_
 symm
 apply ay rfl ?_
 refine ay (d:=cT line) (bp (by rw[gQm,hline];rfl)) ?_
 symm
 refine xf ?_
 cases line with
 | nil=>
   apply bf (fun _=> ?_) (fun c=>by cases c)
   have e:s.rooms.set i rs=s.rooms:=by
     apply List.ext_getElem?
     intro j
     rw[List.getElem?_set]
     split
     · rename_i c
       subst c
       rw[hsr]
       first|done|simp[hi]
     · rfl
   have e2:({s with rooms:=s.rooms.set i rs}:bR)=s:=by rw[e]
   have q3:Op (settle S ({s with rooms:=s.rooms.set i rs}:bR).d S) fun p=>Q p.1 p.2:=q2
   rw[e2] at q3
   exact q3
 | cons p l=>
   apply bf (fun c=>by cases c) (fun _=>cN ?_)
   apply jF ?_
   apply da ?_
   apply⟨_,rfl,c9 ⟨_,rfl,?_⟩⟩
   have e:D.tup (jC ((p::l).map pairD) (some 1) none)=cT l:=by
     rw[show(some (1:Int))=some ((1:Nat):Int) from rfl,iU (by simp)]
     rfl
   rw[e]
   refine j8 hsr hb (by omega) b3 ?_
   dsimp only at q2
   generalize hnb:rs.aa.set b l=nb at q2⊢
   symm
   apply ay rfl ?_
   refine ay (d:=r.d) (bp (by rw[gQm,hw];rfl)) ?_
   symm
   apply ay (d:=.str r.ah) rfl ?_
   refine jc ?_
   dsimp only
   by_cases c:r.ah="when free"
   · rw[Qeq c] at q2⊢
     rw[Qhq rfl] at q2
     rw[Qhq rfl]
     symm
     exact q2
   · rw[Qdq c] at q2⊢
     rw[Quq (by decide)] at q2
     rw[Quq (by decide)]
     apply cN ?_
     refine ay rfl ?_
     have g1:((s.rooms.set i {rs with aa:=nb}).map fm.d)[i]?=some ({rs with aa:=nb}:fm).d:=by rw[gQm,Qyq hi];rfl
     symm
     refine ay (d:=({rs with aa:=nb}:fm).d) (bp g1) ?_
     apply gF rfl (aC (bB (aC (bB (aC (bB (aC (bB (aC (bB (bZ ?_)))))))))))
     apply ay (d:=pairD p) FU ?_
     apply ay (d:=.int p.2) rfl ?_
     refine⟨by show 1<=_;decide,?_⟩
     refine dv (by simp only[lQm,Qnq,QGq];exact nQl (bG (by omega))) ?_
     symm
     refine⟨by show 5<=_;decide,?_⟩
     symm
     have e3:D.tup [bL rs.vals,.int p.2,bL rs.row,.tup (rs.ag.map D.int++ [.int h]),.tup (nb.map cT)]=({rs with aa:=nb,within:=p.2,ag:=rs.ag++ [(h:Int)]}:fm).d:=by simp[fm.d,bL]
     rw[e3]
     have q3:Op (settle S ({s with rooms:=(s.rooms.set i {rs with aa:=nb}).set i {rs with aa:=nb,within:=p.2,ag:=rs.ag++ [(h:Int)]}}:bR).d S) fun p=>Q p.1 p.2:=by rw[List.set_set];exact q2
     exact dN (s:={s with rooms:=s.rooms.set i {rs with aa:=nb}}) (by simpa using hi) (by simp;omega) q3
end
end W28
namespace DL
open PySem PySem.Spec L2
def ko{α:Type}{Γ:dh}{S:aK}{js:List (Option Nat)}{i:ye}{g:nW}{t:kd}{elt:bN}{Q:List D->aK->Prop}(P:dh->Prop)(enc G:α->D)(c:α->Bool)(h0:P (mD js Γ)) (h:E i Γ S fun p S1=>∃xs:List α,p.1=xs.map enc/\p.2 S1/\xs.length<=1000∧
   (∀x∈xs,∀Γ',P Γ'->Tg g (enc x) Γ' S1 fun Γ1 S2=>S2=S1/\P Γ1/\E t Γ1 S1 fun k S3=>S3=S1/\k=c x/\(c x=true->E elt Γ1 S1 fun y S4=>y=G x/\S4=S1))/\Q ((xs.filter c).map G) S1):E (cx js i g t elt) Γ S Q:=by
 refine l_ (h.mono fun p S1 hp=> ?_)
 obtain⟨xs,hx,hs,hl,he,q⟩:=hp
 refine⟨fun n Γ' S' acc=>S'=S1/\acc=((xs.take n).filter c).map G/\P Γ',⟨rfl,rfl,h0⟩,fun n Γ' S' acc h=>by rw[h.1];exact hs,fun n d Γ' S' acc hd h=> ?_,fun Γ' S' acc h=> ?_⟩
 ·obtain⟨rfl,rfl,h3⟩:=h
  have hd:p.1[n]?=some d:=hd
  rw[hx,gQm] at hd
  obtain⟨x,hxn,rfl⟩:=oQm.mp hd
  obtain⟨Γ1,S2,e1,rfl,h4,h5⟩:=he x (mQg hxn) Γ' h3
  refine⟨Γ1,S2,e1,?_⟩
  refine h5.mono fun k S3 qr=> ?_
  obtain⟨e2,e3,h6⟩:=qr
  subst e2 e3
  have hn:=(gQs.mp hxn).1
  have tk:((xs.take (n+1)).filter c).map G=((xs.take n).filter c).map G++if c x=true then [G x] else []:=by
   rw[QYq,hxn]
   cases hc:c x <;>simp[hc]
  by_cases hc:c x=true
  ·rw[Qhq hc]
   refine(h6 hc).mono fun y S4 qr=> ?_
   obtain⟨e4,e5⟩:=qr
   subst e4 e5
   refine⟨?_,rfl,?_,h4⟩
   ·rw[lQm]
    have:=List.length_filter_le c (xs.take n)
    rw[Qxq] at this
    exact bG (by omega)
   ·rw[tk,Qhq hc]
  ·rw[Quq hc]
   refine⟨rfl,?_,h4⟩
   rw[tk,Quq hc,List.append_nil]
 ·obtain⟨rfl,rfl,_⟩:=h
  have e:p.1.length=xs.length:=by rw[hx,lQm]
  show Q (((xs.take p.1.length).filter c).map G) _
  rw[e,QEq]
  exact q
end DL
namespace W28
open PySem PySem.Spec L2 DL
section
variable{S:aK}{Q:Res->aK->Prop}
def zd(l:List (Int×Int))(t h:Int):List (Int×Int):=l.take (l.filter fun p=>decide (p.1<=t)).length++ [(t,h)]++l.drop (l.filter fun p=>decide (p.1<=t)).length
def A5{w:eM}{s:bR}{h i:Nat}{vs:List Int}{fs:List dk}{f:dk}{r:Rm}{rs:fm}{x so:Str}{t:Tr}{v:Int}{line:List (Int×Int)}(hs:s.af[h]?=some (vs,fs))(hf:fs.getLast? =some f)(hr:f.room=i)(hw:w.rooms[i]?=some r)(hsr:s.rooms[i]?=some rs)(b2:r.aa.length<=100)(l2:r.aa.length=rs.aa.length)(b3:s.rooms.length<=100)(hx:x∈r.aa.map (·.1))
  (hso:r.aa[hU (r.aa.map (·.1)) x]?=some (x,so)) (hline:rs.aa[hU (r.aa.map (·.1)) x]?=some line) (b4:line.length<=900) (hre:Ag w s h t v)
  (q:Q (.d ({s with rooms:=s.rooms.set i (hZ {rs with aa:=rs.aa.set (hU (r.aa.map (·.1)) x) (zd line (if so="turns" then v else 0) h)})}:bR).d) S):Fn oZ [w.d,s.d,.int h,(Rw.wait x t).d] S Q:=by
 have hp:=(nE hx).1
 rw[lQm] at hp
 have hi:i<s.rooms.length:=(gQs.mp hsr).1
 refine cp ?_
 unfold yJ
 symm
 apply ay (d:=.str x) rfl ?_
 refine nq hs hf hr hw b2 hx ?_
 refine gF rfl (aC (bB (aC (bB (bZ ?_)))))
 generalize hU (r.aa.map (·.1)) x=b at hp q hso hline⊢
 have hb:b<rs.aa.length:=by omega
 symm
 apply ay rfl ?_
 refine ay (d:=r.d) (bp (by rw[gQm,hw];rfl)) ?_
 symm
 apply ay rfl ?_
 refine ay (d:=Gq (x,so)) (bp (by rw[gQm,hso];rfl)) ?_
 symm
 apply ay (d:=.str so) rfl ?_
 refine jc ?_
 dsimp only
 have key:∀tv:Int,tv=(if so="turns" then v else 0)->T (aL (bt 7 (aE aW (aE aW (aE aW (aE aW (aq 1) (cF (.int 0))) (aq 4)) (cF (.int 4))) (aq 5)))
   (aL (bt 8 (jI (iM (cx [none,none,some 6] (jq (bu (aq 7))) (mr (nG 2 (aS (cC 0) (aS (cC 1) fw)))) (aN (aE MR (aq 0) (aq 2))) (aq 0)))))
   (aL (bt 9 (aA fM (ao (aq 1) (ao (aq 4) (ao (aq 5) (ao (aE cm (aE cm (p7 (aq 7) qF (pV (aq 8))) (bA (ao (bA (ao (aq 6) (ao (aq 2) aw))) aw))) (p7 (aq 7) (pV (aq 8)) qF)) aw))))))
   (cP (aA pQ (ao (aq 9) (ao (aq 4) aw)))))))
   [some w.d,some s.d,some (.int h),some (Rw.wait x t).d,some (.int i),some (.int b),some (.int tv),none,none,none] S (fun o=>match o with
   |.nx _ S'=>Op (settle S .non S') fun p=>Q p.1 p.2|.rt d S'=>Op (settle S d S') fun p=>Q p.1 p.2|.rl l S'=>Op (dJ S l S') fun p=>Q p.1 p.2|_=>False):=by
  intro tv htv
  rw[←htv] at q
  symm
  apply ay rfl ?_
  refine ay (d:=rs.d) (bp (by rw[gQm,hsr];rfl)) ?_
  symm
  apply ay rfl ?_
  refine ay (d:=cT line) (bp (by rw[gQm,hline];rfl)) ?_
  symm
  apply ko (α:=Int×Int) (fun Γ'=>∃a b,Γ'= [a,b,some (.int tv)]) pairD (fun p=>.int p.1) (fun p=>decide (p.1<=tv)) ⟨none,none,rfl⟩ ?_
  refine eK (ds:=line.map pairD) ?_
  refine⟨line,rfl,trivial,by omega,fun p hp Γ' hΓ=> ?_,?_⟩
  ·obtain⟨a,b,rfl⟩:=hΓ
   refine gF rfl (aC (bB (aC (bB (bZ ?_)))))
   apply⟨rfl,⟨_,_,rfl⟩,?_⟩
   apply⟨rfl,rfl,fun _=> ?_⟩
   exact⟨rfl,rfl⟩
  have el:((line.filter fun p=>decide (p.1<=tv)).map fun p=>D.int p.1).length=(line.filter fun p=>decide (p.1<=tv)).length:=lQm ..
  have ln:=List.length_filter_le (fun p=>decide (p.1<=tv)) line
  unfold zd at q
  symm
  rw[el]
  generalize (line.filter fun p=>decide (p.1<=tv)).length=n at q ln⊢
  apply jF ?_
  apply c9 (da ?_)
  refine⟨_,rfl,line.map pairD,rfl,?_⟩
  rw[EV (by rw[lQm];exact ln)]
  symm
  refine⟨by show 2<=_;decide,?_⟩
  symm
  refine⟨by show 1<=_;decide,?_⟩
  refine dv (by simp only[lQm,Qxq,Qnq,QGq];exact nQl (bG (by omega))) ?_
  apply jF ?_
  apply da ?_
  refine⟨_,rfl,c9 ⟨line.map pairD,rfl,?_⟩⟩
  rw[iU (by rw[lQm];exact ln)]
  refine dv (by simp only[lQa,lQm,Qxq,List.length_drop,Qnq,QGq];exact nQl (bG (by omega))) ?_
  symm
  have e:D.tup ((line.map pairD).take n++ [D.tup [.int tv,.int h]]++(line.map pairD).drop n)=cT (line.take n++ [(tv,(h:Int))]++line.drop n):=by
   simp only[cT,Qzq,List.map_take,List.map_drop]
   rfl
  rw[e]
  generalize line.take n++ [(tv,(h:Int))]++line.drop n=nl at q⊢
  apply j8 hsr hb (by omega) b3 ?_
  have q2:Op (settle S ({s with rooms:=s.rooms.set i (hZ {rs with aa:=rs.aa.set b nl})}:bR).d S) fun p=>Q p.1 p.2:=dg (a_ _) (bR.low _) q
  generalize hnr:({rs with aa:=rs.aa.set b nl}:fm)=nr at q2⊢
  have q3:Op (settle S ({s with rooms:=(s.rooms.set i nr).set i (hZ nr)}:bR).d S) fun p=>Q p.1 p.2:=by rw[List.set_set];exact q2
  exact yV (s:={s with rooms:=s.rooms.set i nr}) (Qyq hi) (by simp;omega) q3
 by_cases c:so="turns"
 ·rw[Qeq c,Qhq rfl]
  symm
  apply ay (d:=t.d) rfl ?_
  refine hre _ _ ?_
  exact key v (by rw[Qhq c])
 ·rw[Qdq c,Quq (by decide)]
  refine cN ?_
  exact key 0 (by rw[Quq c])
end
end W28
namespace DL
open PySem PySem.Spec L2
section
variable{Γ:dh}{S:aK}
def Ms{tbl:List (Str×Str)}{g:bN}{Q:D->aK->Prop}(h:E g Γ S fun y S1=>∃x nm,y=.str x/\tbl.lookup x=some nm/\Q (.fn nm) S1):E (L9 tbl g) Γ S Q:=by
 obtain⟨y,S1,e1,x,nm,rfl,e2,q⟩:=h
 exact⟨_,S1,by unfold L9;rw[e1];simp only[Qbq];rw[e2];rfl,q⟩
def Gj{i:Nat}{T:List (Str×dX)}{g:g9}{x:Str}{F:dX}{Q:D->aK->Prop}(h1:Γ[i]?=some (some (.fn x)))(h2:T.lookup x=some F)(h:E (aA F g) Γ S Q):E (tM i T g) Γ S Q:=by
 obtain⟨y,S1,e1,q⟩:=h
 exact⟨_,S1,by unfold tM;rw[h1];show(T.lookup x).bind _=_;rw[h2];exact e1,q⟩
def Lh{neg:Bool}{x:D}{Q:D->Prop}(q:Q (.bl (if neg then !isNone x else isNone x))):Op (Gy neg S x .non) Q:=⟨_,rfl,q⟩
end
def vZ{α:Type}{xs:List α}{a b:α}:kL (xs++ [a,b]) (-2)=some a:=by
 unfold kL CD
 rw[Quq (by omega),Qhq (by simp;omega)]
 simp only[Qbq]
 rw[show((-2:Int)+((xs++ [a,b]).length:Int)).toNat=xs.length by simp;omega]
 simp
end DL
namespace W28
open PySem PySem.Spec L2 DL
section
variable{S:aK}{Q:Res->aK->Prop}
def M0:Rw->dX
 |.put _ _=>rS
 |.unl _ _=>kE
 |.go _=>xF
 |.do_ _ _ _ _=>w6
 |.wait _ _=>oZ
 |.call _=>oH
 |.all _=>r_
 |.tell _=>n_
 |.take _=>oJ
 |.give _=>pq
 |.pass _ _=>pe
 |.say _=>se
def Rw.kind:Rw->Str
 |.put _ _=>"put"
 |.unl _ _=>"unless"
 |.go _=>"go"
 |.do_ _ _ _ _=>"do"
 |.wait _ _=>"wait"
 |.call _=>"call"
 |.all _=>"all"
 |.tell _=>"tell"
 |.take _=>"take"
 |.give _=>"give"
 |.pass _ _=>"pass"
 |.say _=>"say"
def Rw.d_kind(r:Rw):∃l,r.d=.tup (.str r.kind::l):=by cases r <;>exact⟨_,rfl⟩
def Hu(r:Rw):∃nm,mB.lookup r.kind=some nm/\tW.lookup nm=some (M0 r):=by
 cases r
 ·exact⟨"by_put",rfl,rfl⟩
 ·exact⟨"by_unless",rfl,rfl⟩
 ·exact⟨"by_go",rfl,rfl⟩
 ·exact⟨"by_do",rfl,rfl⟩
 ·exact⟨"by_wait",rfl,rfl⟩
 ·exact⟨"by_call",rfl,rfl⟩
 ·exact⟨"by_all",rfl,rfl⟩
 ·exact⟨"by_tell",rfl,rfl⟩
 ·exact⟨"by_take",rfl,rfl⟩
 ·exact⟨"by_give",rfl,rfl⟩
 ·exact⟨"by_pass",rfl,rfl⟩
 ·exact⟨"by_say",rfl,rfl⟩
def IW(w:eM)(s:bR)(h:Nat)(r:Rw)(s':bR):Prop:=∀(S:aK) (Q:Res->aK->Prop),Q (.d s'.d) S->Fn (M0 r) [w.d,s.d,.int h,r.d] S Q
def yW{w:eM}{s s':bR}{h:Nat}{r:Rw}(hd:IW w s h r s')(q:Q (.d s'.d) S):Fn jP [w.d,s.d,.int h,r.d] S Q:=by
 obtain⟨nm,n1,n2⟩:=Hu r
 obtain⟨l,hl⟩:=r.d_kind
 refine cp ?_
 unfold vI
 apply cy (zK (Ms ?_))
 rw[hl]
 refine ay (d:=.str r.kind) FU ?_
 rw[←hl]
 refine⟨_,nm,rfl,n1,?_⟩
 apply qW (Gj (x:=nm) rfl n2 ?_)
 refine hd _ _ ?_
 exact dg (a_ _) (bR.low _) q
def qv{w:eM}{s s':bR}{h i:Nat}{vs:List Int}{gs:List dk}{f2 f:dk}{rs:fm}{pr:List Rw}{g:Option Str}{rn dn:Str}{t:Tr}(hs:s.af[h]?=some (vs,gs++ [f2,f]))(hr:f.room=i)(hsr:s.rooms[i]?=some rs)(b3:s.rooms.length<=900)(b4:s.af.length<=900)
  (hp:progOf w h f2=some pr) (h1:1<=f2.row) (hrow:pr[(f2.row-1).toNat]?=some (.do_ g rn dn t))
  (hg:∀outside:bR,outside={s with rooms:=s.rooms.set i (hZ rs),af:=s.af.set h (vs,gs++ [f2])}->match g with|none=>s'=outside|some x=>Puts w outside h x f.told s')
  (q:Q (.d s'.d) S):Fn jL [w.d,s.d,.int h] S Q:=by
 have hh:h<s.af.length:=(gQs.mp hs).1
 refine cp ?_
 unfold vQ
 symm
 apply ay rfl ?_
 refine ay (d:=yf (vs,gs++ [f2,f])) (bp (by rw[gQm,hs];rfl)) ?_
 refine gF rfl (aC (bB (aC (bB (bZ ?_)))))
 have hml:(gs++ [f2,f]).map dk.d=gs.map dk.d++ [f2.d,f.d]:=by simp
 dsimp only
 rw[hml]
 symm
 apply qA ?_
 refine⟨1,rfl,?_⟩
 refine ay (d:=f.d) (ym (by simp)) ?_
 refine gF rfl (aC (bB (aC (bB (aC (bB (aC (bB (aC (bB (bZ ?_)))))))))))
 rw[hr]
 symm
 apply yV hsr b3 ?_
 apply jF ?_
 apply c9 (da (qA ?_))
 refine⟨1,rfl,_,rfl,_,rfl,?_⟩
 rw[yK (by simp)]
 have hdl:D.tup ((gs.map dk.d++ [f2.d,f.d]).dropLast)=.tup ((gs++ [f2]).map dk.d):=by
  rw[show gs.map dk.d++ [f2.d,f.d]=(gs.map dk.d++ [f2.d])++ [f.d] by simp,List.dropLast_concat]
  simp
 rw[hdl]
 symm
 refine iq (s:={s with rooms:=s.rooms.set i (hZ rs)}) hh b4 ?_
 have hg:=hg _ rfl
 dsimp only at hg⊢
 generalize ({s with rooms:=s.rooms.set i (hZ rs),af:=s.af.set h (vs,gs++ [f2])}:bR)=outside at hg⊢
 symm
 apply qA ?_
 refine⟨2,rfl,?_⟩
 apply ay (d:=f2.d) vZ ?_
 apply gQ hp ?_
 apply qA ?_
 refine⟨2,rfl,?_⟩
 apply ay (d:=f2.d) vZ ?_
 apply ay (d:=.int f2.row) rfl ?_
 refine ay (d:=(Rw.do_ g rn dn t).d) (mw (by omega) (by rw[gQm,hrow];rfl)) ?_
 symm
 apply ay (d:=Hg g) rfl ?_
 refine Lh ?_
 cases g with
 | none=>
   dsimp only at hg
   subst hg
   apply bf (fun _=> ?_) (fun c=>by cases c)
   exact dg (a_ _) (bR.low _) q
 | some x=>
   apply bf (fun c=>by cases c) (fun _=>cN ?_)
   apply ay (d:=.str x) rfl ?_
   refine hg _ _ ?_
   exact dg (a_ _) (bR.low _) q
end
section
variable{S:aK}{Q:Res->aK->Prop}
def ME(h:Nat):Option Int->D
 |none=>.non
 |some v=>.tup [.int h,.int v]
def G2(h:Nat)(e:Option Int):cB 0 (ME h e)=true:=by cases e <;>rfl
def J0(s:bR)(h:Nat)(e:Option Int):D:=.tup [s.d,ME h e]
def rQ(s:bR)(h:Nat)(e:Option Int):cB 0 (J0 s h e)=true:=by
 simp only[J0,cB,cc,G2,bR.low,Bool.and_true]
def yi(w:eM)(s:bR)(h:Nat)(s':bR)(e:Option Int):Prop:=∀(S:aK) (Q:Res->aK->Prop),Q (.d (J0 s' h e)) S->Fn oz [w.d,s.d,.int h] S Q
def CJ{w:eM}{s:bR}{h i:Nat}{vs:List Int}{fs:List dk}{f:dk}{rs:fm}(hs:s.af[h]?=some (vs,fs))(hf:fs.getLast? =some f)(hr:f.room=i)(hsr:s.rooms[i]?=some rs)(hn:rs.within≠h)(b3:s.rooms.length<=900)(b4:rs.row.length<=900):
  yi w s h {s with rooms:=s.rooms.set i (oG rs h)} none:=by
 intro S Q q
 refine cp ?_
 unfold n0
 symm
 apply cA hs hf ?_
 apply ay (d:=.int f.room) rfl ?_
 refine jV ?_
 dsimp only
 rw[Qdq (show¬f.room= -1 by omega),hr]
 show if (true=true) then _ else _
 rw[Qhq rfl]
 symm
 apply ay rfl ?_
 refine ay (d:=rs.d) (bp (by rw[gQm,hsr];rfl)) ?_
 symm
 apply ay (d:=.int rs.within) rfl ?_
 refine jV ?_
 dsimp only
 rw[Qdq hn]
 show if (true=true) then _ else _
 rw[Qhq rfl]
 symm
 apply uF hsr b3 b4 ?_
 refine⟨by show 2<=_;decide,?_⟩
 exact dg (d:=J0 _ h none) (fun k z=>(nomatch z)) (rQ _ _ _) q
def Here(s:bR)(h:Nat)(f:dk):Prop:=f.room= -1\/∃(i:Nat) (rs:fm),f.room=i/\s.rooms[i]?=some rs/\rs.within=h
def vT{w:eM}{s:bR}{h:Nat}{f:dk}{a b c d:Option D}{Q:Bool->aK->Prop}(hh:Here s h f)(q:Q false S):E (fV (aN (aE (e_ true) (aq 4) (cF (.int (-1))))) (aN (aE (e_ true) (aE aW (aE aW (aE aW (aq 1) (cF (.int 0))) (aq 4)) (cF (.int 1))) (aq 2)))) [some w.d,some s.d,some (.int h),some f.d,some (.int f.room),a,b,c] S Q:=by
 rcases hh with hr|⟨i,rs,hr,hsr,hi⟩
 ·symm
  refine jV ?_
  dsimp only
  rw[Qeq hr]
  show if (false=true) then _ else _
  rw[Quq (by decide)]
  exact q
 ·symm
  refine jV ?_
  dsimp only
  rw[Qdq (show¬f.room= -1 by omega),hr]
  show if (true=true) then _ else _
  rw[Qhq rfl]
  symm
  apply ay rfl ?_
  refine ay (d:=rs.d) (bp (by rw[gQm,hsr];rfl)) ?_
  symm
  apply ay (d:=.int rs.within) rfl ?_
  refine jV ?_
  dsimp only
  rw[Qeq hi]
  exact q
def zG{w:eM}{s s':bR}{h:Nat}{vs:List Int}{fs:List dk}{f:dk}{pr:List Rw}(hs:s.af[h]?=some (vs,fs))(hf:fs.getLast? =some f)(hh:Here s h f)(hp:progOf w h f=some pr)(hrow:f.row=pr.length)
  (he:∀(S:aK) (Q:Res->aK->Prop),Q (.d s'.d) S->Fn jL [w.d,s.d,.int h] S Q):yi w s h s' none:=by
 intro S Q q
 refine cp ?_
 unfold n0
 symm
 apply cA hs hf ?_
 refine ay (d:=.int f.room) rfl ?_
 refine cy (f_ (vT (d:=none) hh ?_))
 apply bf (fun c=>by cases c) (fun _=>cN ?_)
 apply gQ hp ?_
 apply ay (d:=.int f.row) rfl ?_
 refine eU ?_
 dsimp only
 rw[lQm,Qeq hrow,Qhq rfl]
 symm
 apply he _ _ ?_
 refine⟨by show 2<=_;decide,?_⟩
 exact dg (d:=J0 _ h none) (fun k z=>(nomatch z)) (rQ _ _ _) q
def J4(w:eM)(s:bR)(h:Nat)(r:Rw)(e:Option Int):Prop:=match r with
 |.say t=>∃v,e=some v/\Ag w s h t v
 |_=>e=none
def y8{w:eM}{s s':bR}{h:Nat}{vs:List Int}{fs:List dk}{f:dk}{pr:List Rw}{r:Rw}{e:Option Int}(hs:s.af[h]?=some (vs,fs))(hf:fs.getLast? =some f)(hh:Here s h f)(hp:progOf w h f=some pr)(h0:0<=f.row)(hrow:pr[f.row.toNat]?=some r)(b1:fs.length<=900)(b2:s.af.length<=900)
  (hsay:J4 w s h r e) (hd:IW w {s with af:=s.af.set h (vs,fs.dropLast++ [{f with row:=f.row+1}])} h r s'):yi w s h s' e:=by
 intro S Q q
 have hlt:=(gQs.mp hrow).1
 refine cp ?_
 unfold n0
 symm
 apply cA hs hf ?_
 refine ay (d:=.int f.room) rfl ?_
 refine cy (f_ (vT (d:=none) hh ?_))
 apply bf (fun c=>by cases c) (fun _=>cN ?_)
 apply gQ hp ?_
 apply ay (d:=.int f.row) rfl ?_
 refine eU ?_
 dsimp only
 rw[lQm,Qdq (show¬f.row=(pr.length:Int) by omega),Quq (by decide)]
 apply cN ?_
 refine ay (d:=.int f.row) rfl ?_
 refine ay (d:=r.d) (mw h0 (by rw[gQm,hrow];rfl)) ?_
 symm
 obtain⟨l,hl⟩:=r.d_kind
 have key:T (cP (bA (ao (aA jP (ao (aq 0) (ao (aA j6 (ao (aq 1) (ao (aq 2) (ao (aE cm (aE aW (aq 3) (cF (.int 2))) (cF (.int 1))) aw)))) (ao (aq 2) (ao (aq 6) aw))))) (ao (aq 7) aw))))
   [some w.d,some s.d,some (.int h),some f.d,some (.int f.room),some (.tup (pr.map Rw.d)),some r.d,some (ME h e)] S (fun o=>match o with
   |.nx _ S'=>Op (settle S .non S') fun p=>Q p.1 p.2|.rt d S'=>Op (settle S d S') fun p=>Q p.1 p.2|.rl l S'=>Op (dJ S l S') fun p=>Q p.1 p.2|_=>False):=by
  symm
  apply ay (d:=.int f.row) rfl ?_
  apply qm hs hf b1 b2 ?_
  apply yW hd ?_
  refine⟨by show 2<=_;decide,?_⟩
  exact dg (d:=J0 _ h e) (fun k z=>(nomatch z)) (rQ _ _ _) q
 cases r with
 | say t=>
   obtain⟨v,rfl,hv⟩:=hsay
   apply ay (d:=.str "say") rfl ?_
   refine jc ?_
   dsimp only
   rw[Qeq rfl,Qhq rfl]
   symm
   apply ay (d:=t.d) rfl ?_
   apply hv _ _ ?_
   refine⟨by show 2<=_;decide,?_⟩
   exact key
 | _=>
   have hsay:e=none:=hsay
   subst hsay
   apply ay rfl ?_
   refine jc ?_
   dsimp only
   refine bf (fun c=>absurd (of_decide_eq_true c) (by decide +kernel)) (fun _=>cN ?_)
   exact key
end
end W28
namespace DL
open PySem PySem.Spec L2
section
variable{Γ:dh}{S:aK}
def El{f:bN}{g:eJ}{Q:D->aK->Prop}(h:E f Γ S fun x S1=>∃k ds0,x=.ref k/\S1[k]?=some (.lst ds0)/\E g Γ S1 fun p S2=>∃ds,S2[k]?=some (.lst ds)/\(p.2.isL=false/\ds.length+p.1.length<=sizeLine)/\Q .non (S2.set k (.lst (ds++p.1)))):E (vi f g) Γ S Q:=by
 obtain⟨x,S1,e1,k,ds0,rfl,h1,p,S2,e2,ds,h2,h3,q⟩:=h
 exact⟨_,_,by unfold vi;rw[e1];simp only[Qbq,e2,h1,h2];rw[Qhq h3],q⟩
end
def Bk{S S':aK}{k:Nat}{ds:List D}{Q:Res×aK->Prop}(hc:oK S S')(hk:S.length<=k)(hS:S'[k]?=some (.lst ds))(hl:cc S.length ds=true)(q:Q (.l ds,S'.take S.length)):Op (settle S (.ref k) S') Q:=by
 refine⟨_,?_,q⟩
 unfold settle
 rw[Qhq hc]
 show(if k<S.length then _ else _)=_
 rw[Quq (by omega),hS]
 show(if cc S.length ds=true then _ else _)=_
 rw[Qhq hl]
def xx{n:Nat}(h:n<=100000):n<=sizeLine:=QAq h (by decide)
theorem gM:∀ss:List Int,oX (ss.map D.int)=some (ss.map V.int)
 | []=>rfl
 |s::ss=>by simp only[QDq,oX,wz,Qbq];rw[gM ss];rfl
def oD{x:Int}{ss:List Int}:Ej (.int x) (ss.map V.int)=decide (x∈ss):=by
 induction ss with
 |nil=>rfl
 | cons a ss ih=>
   show(rP (.int a) (.int x)||Ej (.int x) (ss.map V.int))=_
   rw[ih]
   simp only[rP,Qsq]
   by_cases c:a=x
   · subst c;simp
   · have c':¬x=a:=fun z=>c z.symm
     simp[c,c']
end DL
namespace W28
open PySem PySem.Spec L2 DL
section
variable{S:aK}{Q:Res->aK->Prop}
def zX{S S':aK}(x:rA S S'):S'.take S.length=S:=by
 apply List.ext_getElem?
 intro j
 by_cases hj:j<S.length
 ·rw[List.getElem?_take_of_lt hj]
  exact x.eq j hj
 ·rw[List.getElem?_eq_none (by rw[Qxq];omega),List.getElem?_eq_none (by omega)]
def Jx{S S':aK}{ds:List D}{Q:Res->aK->Prop}(x:rA S S')(hl:cc 0 ds=true)(q:Q (.l ds) S):Op (dJ S ds S') fun p=>Q p.1 p.2:=
 ni ⟨x.len,fun k o hk e=>.inl (by rw[←x.eq k hk];exact e)⟩ (zX x) (jG hl) q
def Bd{S S':aK}{k:Nat}{ds:List D}{Q:Res->aK->Prop}(x:rA S S')(hk:S.length<=k)(hS:S'[k]?=some (.lst ds))(hl:cc 0 ds=true)(q:Q (.l ds) S):Op (settle S (.ref k) S') fun p=>Q p.1 p.2:=
 Bk ⟨x.len,fun k o hk e=>.inl (by rw[←x.eq k hk];exact e)⟩ hk hS (jG hl) (by rw[zX x];exact q)
def yM{l:List (Int×Int)}(hl:l.length<=1000)(q:Q (.l ((l.map (·.2)).map D.int)) S):Fn mh [cT l] S Q:=by
 refine cp ?_
 unfold vA
 symm
 apply tX (α:=Int×Int) (fun Γ'=>∃a b,Γ'= [a,b]) pairD (fun p=>.int p.2) ⟨none,none,rfl⟩ ?_
 refine eK (ds:=l.map pairD) ?_
 refine⟨l,rfl,trivial,hl,fun p hp Γ' hΓ=> ?_,?_⟩
 ·obtain⟨a,b,rfl⟩:=hΓ
  refine gF rfl (aC (bB (aC (bB (bZ ?_)))))
  apply⟨rfl,⟨_,_,rfl⟩,?_⟩
  exact⟨rfl,rfl⟩
 ·have e:l.map (fun p=>D.int p.2)=(l.map (·.2)).map D.int:=by rw[QPq];rfl
  rw[e]
  exact Fd (bg fun _ _=>rfl) q
def iX(r:fm):List Int:=r.row++r.ag++r.aa.flatMap fun l=>l.map (·.2)
def held(s:bR):List Int:=s.passes.flatMap (·.2)++s.rooms.flatMap iX
theorem oq{α β:Type}{f:α->List β}{n:Nat}:∀{l:List α},(∀a∈l,(f a).length<=n)->(l.flatMap f).length<=n*l.length
 | [],_=>by simp
 | a::l,h=>by
   have h1:=h a (QBq ..)
   have h2:=oq (f:=f) (l:=l) fun b hb=>h b (Qpq _ hb)
   rw[QSq,lQa,Qnq,Nat.mul_add]
   omega
def pA{α β:Type}{f:α->List β}{l:List α}{n:Nat}{a:α}(h:l[n]?=some a):(l.take (n+1)).flatMap f=(l.take n).flatMap f++f a:=by
 rw[QYq,h]
 simp
def ql{s:bR}{n:Nat}(hn:n<=100)(b1:s.passes.length<=100)(b2:s.rooms.length<=20)(p1:∀p∈s.passes,p.2.length<=n)(r1:∀r∈s.rooms,r.row.length<=n/\r.ag.length<=n/\r.aa.length<=10/\∀l∈r.aa,l.length<=n)
  (q:Q (.l ((held s).map D.int)) S):Fn eV [s.d] S Q:=by
 have bw:∀acc:List D,rA S (S++ [.lst acc]):=fun acc=>rA.refl.app
 have hr:∀r∈s.rooms,∀j:Nat,((r.aa.take j).flatMap fun l=>l.map (·.2)).length<=1000:=fun r hr j=>by
  obtain⟨_,_,h3,h4⟩:=r1 r hr
  have h5:=oq (f:=fun l:List (Int×Int)=>l.map (·.2)) (n:=n) (l:=r.aa.take j) fun l hl=>by rw[lQm];exact h4 l (List.mem_of_mem_take hl)
  have h6:(r.aa.take j).length<=10:=by rw[Qxq];omega
  have h7:n*(r.aa.take j).length<=100*10:=Nat.mul_le_mul hn h6
  omega
 have hrm:∀r∈s.rooms,(iX r).length<=1200:=fun r h=>by
  have h1:=hr r h r.aa.length
  obtain⟨h2,h3,_⟩:=r1 r h
  rw[QEq] at h1
  simp only[iX,lQa]
  omega
 have hpl:∀j:Nat,((s.passes.take j).flatMap (·.2)).length<=10000:=fun j=>by
  have h5:=oq (f:=fun p:Int×List Int=>p.2) (n:=n) (l:=s.passes.take j) fun l hl=>p1 l (List.mem_of_mem_take hl)
  have h6:(s.passes.take j).length<=100:=by rw[Qxq];omega
  have h7:n*(s.passes.take j).length<=100*100:=Nat.mul_le_mul hn h6
  omega
 have hrl:∀j:Nat,((s.rooms.take j).flatMap iX).length<=24000:=fun j=>by
  have h5:=oq (f:=iX) (n:=1200) (l:=s.rooms.take j) fun l hl=>hrm l (List.mem_of_mem_take hl)
  have h6:(s.rooms.take j).length<=20:=by rw[Qxq];omega
  omega
 refine cp ?_
 unfold lV
 symm
 refine⟨by decide,?_⟩
 apply cy (kN (rK ?_))
 refine ay rfl ?_
 refine eK (ds:=s.passes.map yp) ?_
 refine⟨fun j Γ' S'=>(∃a b c d e f g,Γ'= [some s.d,some (.ref S.length),a,b,c,d,e,f,g])/\S'=S++ [.lst (((s.passes.take j).flatMap (·.2)).map D.int)],⟨⟨_,_,_,_,_,_,_,rfl⟩,rfl⟩,fun _ _ _ _=>trivial,?_,?_⟩
 ·rintro j d Γ' S' hd ⟨⟨a,b,c,d1,e,f,g,rfl⟩,rfl⟩
  have hd:(s.passes.map yp)[j]?=some d:=hd
  rw[gQm] at hd
  obtain⟨p,hp,rfl⟩:=oQm.mp hd
  refine gF rfl (aC (bB (aC (bB (bZ ?_)))))
  apply jn (El ?_)
  apply⟨_,_,rfl,aX,?_⟩
  refine eK (ds:=p.2.map D.int) ?_
  refine⟨_,aX,⟨rfl,?_⟩,⟨_,_,_,_,_,_,_,rfl⟩,?_⟩
  ·have:=hpl j
   have:=p1 p (mQg hp)
   simp only[lQm]
   exact xx (by omega)
  ·rw[pA hp,Qzq]
   simp
 rintro Γ' S' ⟨⟨a,b,c,d1,e,f,g,rfl⟩,rfl⟩
 have hl:(s.passes.map yp).length=s.passes.length:=lQm ..
 rw[hl,QEq]
 apply cy (kN (rK ?_))
 refine ay rfl ?_
 refine eK (ds:=s.rooms.map fm.d) ?_
 refine⟨fun j Γ' S'=>(∃a b c d e f g,Γ'= [some s.d,some (.ref S.length),a,b,c,d,e,f,g])/\S'=S++ [.lst ((s.passes.flatMap (·.2)++(s.rooms.take j).flatMap iX).map D.int)],⟨⟨_,_,_,_,_,_,_,rfl⟩,by simp⟩,fun _ _ _ _=>trivial,?_,?_⟩
 ·rintro j d Γ' S' hd ⟨⟨a,b,c,d1,e,f,g,rfl⟩,rfl⟩
  have hd:(s.rooms.map fm.d)[j]?=some d:=hd
  rw[gQm] at hd
  obtain⟨r,hrj,rfl⟩:=oQm.mp hd
  have hrm':=mQg hrj
  obtain⟨h2,h3,h4,h5⟩:=r1 r hrm'
  have hlen:(s.passes.flatMap (·.2)++(s.rooms.take j).flatMap iX).length<=34000:=by
   have:=hpl s.passes.length
   rw[QEq] at this
   have:=hrl j
   rw[lQa]
   omega
  generalize hacc:s.passes.flatMap (·.2)++(s.rooms.take j).flatMap iX=acc at hlen⊢
  refine gF rfl (aC (bB (aC (bB (aC (bB (aC (bB (aC (bB (bZ ?_)))))))))))
  apply cy (jn (El ?_))
  apply⟨_,_,rfl,aX,?_⟩
  refine dv (i:=r.row.map D.int) (j:=r.ag.map D.int) (by simp only[lQm];exact xx (by omega)) ?_
  refine eK ?_
  refine⟨_,aX,⟨rfl,?_⟩,?_⟩
  ·simp only[lQa,lQm]
   exact xx (by omega)
  dsimp only
  have e1:(S++ [O.lst (acc.map D.int)]).set S.length (.lst (acc.map D.int++(r.row.map D.int++r.ag.map D.int)))=S++ [.lst ((acc++(r.row++r.ag)).map D.int)]:=by simp
  rw[e1]
  apply kN (rK ?_)
  refine⟨fun j Γ' S'=>(∃a b c d e f g,Γ'= [some s.d,some (.ref S.length),a,b,c,d,e,f,g])/\S'=S++ [.lst ((acc++(r.row++r.ag)++(r.aa.take j).flatMap fun l=>l.map (·.2)).map D.int)],⟨⟨_,_,_,_,_,_,_,rfl⟩,by simp⟩,fun _ _ _ _=>trivial,?_,?_⟩
  ·rintro m d Γ' S' hd ⟨⟨a,b,c,d1,e,f,g,rfl⟩,rfl⟩
   have hd:(r.aa.map cT)[m]?=some d:=hd
   rw[gQm] at hd
   obtain⟨l,hlm,rfl⟩:=oQm.mp hd
   have hll:=h5 l (mQg hlm)
   refine bB ?_
   apply jn (CB ?_)
   apply⟨_,_,rfl,aX,?_⟩
   apply yM (by omega) ?_
   refine⟨_,aX,⟨rfl,?_⟩,⟨_,_,_,_,_,_,_,rfl⟩,?_⟩
   ·have:=hr r hrm' m
    simp only[lQa,lQm]
    exact xx (by omega)
   ·rw[pA hlm,←Qvq,Qzq]
    simp
  ·rintro Γ' S' ⟨h1,rfl⟩
   refine⟨h1,?_⟩
   have hl:(r.aa.map cT).length=r.aa.length:=lQm ..
   rw[hl,QEq,pA hrj]
   subst hacc
   simp only[iX,Qvq]
 ·rintro Γ' S' ⟨⟨a,b,c,d1,e,f,g,rfl⟩,rfl⟩
  have hl:(s.rooms.map fm.d).length=s.rooms.length:=lQm ..
  rw[hl,QEq]
  symm
  exact Bd (bw _) (Qmq _) aX (bg fun _ _=>rfl) q
end
section
variable{S:aK}{Q:Res->aK->Prop}
def F3(s:bR)(h:Nat):Option dk:=(s.af[h]?).bind fun p=>p.2.getLast?
def y9(w:eM)(s:bR)(h:Nat):Bool:=match F3 s h with
 |some f=>decide (f.room= -1)&&decide (f.row=(((progOf w h f).getD []).length:Int))
 |none=>false
def pN{w:eM}{s:bR}{h:Nat}{vs:List Int}{fs:List dk}{f:dk}{pr:List Rw}(hs:s.af[h]?=some (vs,fs))(hf:fs.getLast? =some f)(hp:progOf w h f=some pr)(q:Q (.d (.bl (y9 w s h))) S):Fn fX [w.d,s.d,.int h] S Q:=by
 have hb:y9 w s h=(decide (f.room= -1)&&decide (f.row=(pr.length:Int))):=by
  unfold y9 F3
  rw[hs]
  show(match fs.getLast? with|some f=>_|none=>_)=_
  rw[hf]
  simp only[hp,Option.getD_some]
 rw[hb] at q
 refine cp ?_
 unfold k8
 symm
 apply cA hs hf ?_
 apply An ?_
 apply ay (d:=.int f.room) rfl ?_
 refine eU ?_
 refine⟨_,rfl,?_⟩
 by_cases c:f.room= -1
 ·rw[Qeq c] at q⊢
  rw[Qhq rfl]
  symm
  apply ay (d:=.int f.row) rfl ?_
  apply gQ hp ?_
  refine eU ?_
  rw[lQm]
  exact dg (fun k z=>(nomatch z)) rfl q
 ·rw[Qdq c] at q⊢
  rw[Quq (by decide)]
  exact dg (fun k z=>(nomatch z)) rfl q
def sP(w:eM)(s:bR):List Nat:=(List.range s.af.length).filter fun h=> !decide ((h:Int)∈held s)&& !y9 w s h
def zi(h:Nat):D:=.int h
def Iv(w:eM)(s:bR):Prop:=∀(S:aK) (Q:Res->aK->Prop),Q (.l ((sP w s).map zi)) S->Fn jT [w.d,s.d] S Q
def yY{w:eM}{s:bR}(hh:∀(S:aK) (Q:Res->aK->Prop),Q (.l ((held s).map D.int)) S->Fn eV [s.d] S Q)(hp:∀h<s.af.length,∃vs fs f pr,s.af[h]?=some (vs,fs)/\fs.getLast? =some f/\progOf w h f=some pr)(b1:s.af.length<=100):Iv w s:=by
 intro S Q q
 refine cp ?_
 unfold vS
 symm
 apply hh _ _ ?_
 apply ko (α:=Nat) (fun Γ'=>∃a,Γ'= [a,some w.d,some s.d,some (.ref S.length)]) (fun(i:Nat)=>D.int (0+(i:Int))) zi (fun h=> !decide ((h:Int)∈held s)&& !y9 w s h) ⟨none,rfl⟩ ?_
 apply ay rfl ?_
 refine⟨_,rfl,?_,?_⟩
 ·simp only[lQm]
  omega
 refine⟨List.range s.af.length,?_,trivial,by simp;omega,fun h hm Γ' hΓ=> ?_,?_⟩
 ·simp only[kS,lQm]
  rfl
 ·obtain⟨a,rfl⟩:=hΓ
  obtain⟨vs,fs,f,pr,h1,h2,h3⟩:=hp h (List.mem_range.mp hm)
  refine bB ⟨rfl,⟨_,rfl⟩,?_⟩
  rw[Int.zero_add]
  apply xH (gf (DA ?_))
  refine cv (ds:=(held s).map D.int) aX ?_
  refine⟨_,_,rfl,gM _,?_⟩
  rw[oD]
  by_cases c:(h:Int)∈held s
  ·rw[Qeq c]
   refine bf (fun c=>by cases c) (fun _=> ?_)
   exact⟨rfl,rfl,fun c=>by cases c⟩
  ·rw[Qdq c]
   apply bf (fun _=> ?_) (fun c=>by cases c)
   refine pN h1 h2 h3 ?_
   dsimp only
   refine lM ?_
   apply⟨rfl,rfl,fun _=> ?_⟩
   exact⟨rfl,rfl⟩
 ·refine Jx (rA.refl.app) (bg fun _ _=>rfl) q
def A2{w:eM}{s s':bR}{h:Nat}{e:Option Int}(hm:Iv w s)(hh:h∈sP w s)(hst:yi w s h s' e)(q:Q (.d (J0 s' h e)) S):Fn oB [w.d,s.d,.int h] S Q:=by
 refine cp ?_
 unfold yw
 apply cy (f_ (gf (DA ?_)))
 refine hm _ _ ?_
 dsimp only
 have e1:(sP w s).map zi=((sP w s).map fun h:Nat=>(h:Int)).map D.int:=by rw[QPq];rfl
 refine⟨_,_,rfl,by rw[e1];exact gM _,?_⟩
 rw[oD,Qeq (Qkq.mpr ⟨h,hh,rfl⟩)]
 apply bf (fun c=>by cases c) (fun _=>cN ?_)
 refine hst _ _ ?_
 exact dg (fun k z=>(nomatch z)) (rQ _ _ _) q
end
structure j2(n:Nat)(r:Rm)(rs:fm):Prop where
 lv:r.things.length=rs.vals.length
 lb:r.aa.length=rs.aa.length
 vv:∀v∈rs.vals,0<=v/\v<=9
 br:rs.row.length<=n
 bl:rs.ag.length<=n
 bb:∀l∈rs.aa,l.length<=n
structure Fw(w:eM)(h:Nat)(f:dk):Prop where
 pr:∃pr,progOf w h f=some pr/\0<=f.row/\f.row<=pr.length
 gv:0<=f.given/\f.given<=9
 tv:0<=f.told/\f.told<=9
def MH(w:eM)(h:Nat)(f:dk):Prop:=∃pr g rn dn t,progOf w h f=some pr/\1<=f.row/\pr[(f.row-1).toNat]?=some (.do_ g rn dn t)
def jB:List dk->Prop
 | []=>False
 |f0::tl=>f0.room= -1/\∀f∈tl,f.room≠-1
structure jx(w:eM)(n h:Nat)(ts:List (Str×Nat))(vs:List Int)(fs:List dk):Prop where
 lv:ts.length=vs.length
 vv:∀v∈vs,0<=v/\v<=9
 lf:fs.length<=n
 fr:∀f∈fs,Fw w h f
 hd:jB fs
 ch:∀f∈fs.dropLast,MH w h f
structure eo(w:eM)(n:Nat)(s:bR):Prop where
 lr:w.rooms.length=s.rooms.length
 rm:∀(i:Nat) (r:Rm) (rs:fm),w.rooms[i]?=some r->s.rooms[i]?=some rs->j2 n r rs
 lp:w.passes.length=s.passes.length
 ps:∀p∈s.passes,p.2.length<=n
 ls:w.shared.length=s.shared.length
 sv:∀v∈s.shared,0<=v/\v<=9
 lh:w.af.length=s.af.length
 hd:∀(h:Nat) (ts:List (Str×Nat)) (pr:List Rw) (vs:List Int) (fs:List dk),w.af[h]?=some (ts,pr)->s.af[h]?=some (vs,fs)->jx w n h ts vs fs
def j2.mono{n m:Nat}{r:Rm}{rs:fm}(h:j2 n r rs)(l:n<=m):j2 m r rs:=⟨h.lv,h.lb,h.vv,QAq h.br l,QAq h.bl l,fun x hx=>QAq (h.bb x hx) l⟩
def jx.mono{w:eM}{n m h:Nat}{ts:List (Str×Nat)}{vs:List Int}{fs:List dk}(x:jx w n h ts vs fs)(l:n<=m):jx w m h ts vs fs:=⟨x.lv,x.vv,QAq x.lf l,x.fr,x.hd,x.ch⟩
def eo.mono{w:eM}{n m:Nat}{s:bR}(x:eo w n s)(l:n<=m):eo w m s:=⟨x.lr,fun i r rs h1 h2=>(x.rm i r rs h1 h2).mono l,x.lp,fun p hp=>QAq (x.ps p hp) l,x.ls,x.sv,x.lh,fun h ts pr vs fs h1 h2=>(x.hd h ts pr vs fs h1 h2).mono l⟩
def get_set{α:Type}{l:List α}{i j:Nat}{a b:α}(h:(l.set i a)[j]?=some b):(j=i/\b=a)\/(j≠i/\l[j]?=some b):=by
 rw[List.getElem?_set] at h
 split at h
 ·rename_i c
  split at h
  ·cases h;exact .inl ⟨c.symm,rfl⟩
  ·cases h
 ·rename_i c
  exact .inr ⟨fun z=>c z.symm,h⟩
def eo.room{w:eM}{n i:Nat}{s:bR}{r:Rm}{nr:fm}(x:eo w n s)(hw:w.rooms[i]?=some r)(hr:j2 n r nr):eo w n {s with rooms:=s.rooms.set i nr} where
 lr:=by simpa using x.lr
 rm:=fun j r2 rs2 h1 h2=>by
  rcases get_set h2 with⟨rfl,rfl⟩|⟨_,h2⟩
  ·rw[hw] at h1;cases h1;exact hr
  ·exact x.rm j r2 rs2 h1 h2
 lp:=x.lp
 ps:=x.ps
 ls:=x.ls
 sv:=x.sv
 lh:=x.lh
 hd:=x.hd
def eo.pass{w:eM}{n i:Nat}{s:bR}{p:Int×List Int}(x:eo w n s)(hp:p.2.length<=n):eo w n {s with passes:=s.passes.set i p} where
 lr:=x.lr
 rm:=x.rm
 lp:=by simpa using x.lp
 ps:=fun q hq=>by
  rcases QTq hq with hq|rfl
  ·exact x.ps q hq
  ·exact hp
 ls:=x.ls
 sv:=x.sv
 lh:=x.lh
 hd:=x.hd
def eo.share{w:eM}{n:Nat}{s:bR}{vs:List Int}(x:eo w n s)(hl:vs.length=s.shared.length)(hv:∀v∈vs,0<=v/\v<=9):eo w n {s with shared:=vs}:=⟨x.lr,x.rm,x.lp,x.ps,by rw[x.ls,←hl],hv,x.lh,x.hd⟩
def eo.hand{w:eM}{n h:Nat}{s:bR}{ts:List (Str×Nat)}{pr:List Rw}{vs:List Int}{fs:List dk}(x:eo w n s)(hw:w.af[h]?=some (ts,pr))(hr:jx w n h ts vs fs):eo w n {s with af:=s.af.set h (vs,fs)} where
 lr:=x.lr
 rm:=x.rm
 lp:=x.lp
 ps:=x.ps
 ls:=x.ls
 sv:=x.sv
 lh:=by simpa using x.lh
 hd:=fun j ts2 pr2 vs2 fs2 h1 h2=>by
  rcases get_set h2 with⟨rfl,e⟩|⟨_,h2⟩
  ·rw[hw] at h1;cases h1;cases e;exact hr
  ·exact x.hd j ts2 pr2 vs2 fs2 h1 h2
def nR{α:Type}{l:List α}{a:α}(h:l.getLast? =some a):l=l.dropLast++ [a]:=by
 cases l with
 |nil=>cases h
 | cons x y=>
   have hn:x::y≠[]:=by simp
   rw[List.getLast?_eq_some_getLast hn] at h
   cases h
   exact(List.dropLast_concat_getLast hn).symm
def jB.last{fs:List dk}{f f':dk}:∀{ini:List dk},jB (ini++ [f])->f'.room=f.room->jB (ini++ [f'])
 | [],h,e=>⟨by rw[e];exact h.1,fun _ z=>by cases z⟩
 | a::l,h,e=>⟨h.1,fun x hx=>by
   rcases mQa.mp hx with hx|hx
   · exact h.2 x (mQa.mpr (.inl hx))
   · rw[Qfq.mp hx,e];exact h.2 f (mQa.mpr (.inr (Qfq.mpr rfl)))⟩
def jB.push{f':dk}:∀{fs:List dk},jB fs->f'.room≠-1->jB (fs++ [f'])
 | [],h,_=>h.elim
 | a::l,h,e=>⟨h.1,fun x hx=>by
   rcases mQa.mp hx with hx|hx
   · exact h.2 x hx
   · rw[Qfq.mp hx];exact e⟩
def jB.pop{f2 f:dk}:∀{gs:List dk},jB (gs++ [f2,f])->jB (gs++ [f2])
 | [],h=>⟨h.1,fun _ z=>by cases z⟩
 | a::l,h=>⟨h.1,fun x hx=>h.2 x (by
   rcases mQa.mp hx with hx|hx
   · exact mQa.mpr (.inl hx)
   · exact mQa.mpr (.inr (by rw[Qfq.mp hx];simp)))⟩
def jB.two{f:dk}:∀{ini:List dk},jB (ini++ [f])->f.room≠-1->∃gs f2,ini=gs++ [f2]
 | [],h,e=>absurd h.1 e
 |a::l,h,e=>⟨(a::l).dropLast,(a::l).getLast (by simp),(List.dropLast_concat_getLast (by simp)).symm⟩
section
variable{w:eM}{n h:Nat}{ts:List (Str×Nat)}{vs:List Int}{fs:List dk}{f f' f2:dk}
def jx.setLast(x:jx w n h ts vs fs)(hf:fs.getLast? =some f)(e:f'.room=f.room)(i:Fw w h f'):jx w n h ts vs (fs.dropLast++ [f']):=by
 have hs:=nR hf
 have hd:=x.hd
 rw[hs] at hd
 refine⟨x.lv,x.vv,?_,fun g hg=> ?_,jB.last (fs:=fs) hd e,fun g hg=> ?_⟩
 ·have:=congrArg List.length hs
  have:=x.lf
  simp only[lQa,Qnq,QGq] at *
  omega
 ·rcases mQa.mp hg with hg|hg
  ·exact x.fr g (List.dropLast_subset _ hg)
  ·rw[Qfq.mp hg];exact i
 ·rw[List.dropLast_concat] at hg
  exact x.ch g hg
def jx.push(x:jx w n h ts vs fs)(hf:fs.getLast? =some f)(d:MH w h f)(e:f'.room≠-1)(i:Fw w h f'):jx w (n+1) h ts vs (fs++ [f']):=by
 refine⟨x.lv,x.vv,?_,fun g hg=> ?_,x.hd.push e,fun g hg=> ?_⟩
 ·have:=x.lf
  simp only[lQa,Qnq,QGq]
  omega
 ·rcases mQa.mp hg with hg|hg
  ·exact x.fr g hg
  ·rw[Qfq.mp hg];exact i
 ·rw[List.dropLast_concat,nR hf] at hg
  rcases mQa.mp hg with hg|hg
  ·exact x.ch g hg
  ·rw[Qfq.mp hg];exact d
def jx.pop{gs:List dk}(x:jx w n h ts vs (gs++ [f2,f])):jx w n h ts vs (gs++ [f2])/\MH w h f2:=by
 have e:(gs++ [f2,f]).dropLast=gs++ [f2]:=by rw[show gs++ [f2,f]=(gs++ [f2])++ [f] by simp,List.dropLast_concat]
 have hd:=x.ch
 rw[e] at hd
 refine⟨⟨x.lv,x.vv,?_,fun g hg=>x.fr g ?_,x.hd.pop,fun g hg=>hd g ?_⟩,hd f2 (by simp)⟩
 ·have:=x.lf
  simp only[lQa,Qnq,QGq] at *
  omega
 ·rcases mQa.mp hg with hg|hg
  ·exact mQa.mpr (.inl hg)
  ·exact mQa.mpr (.inr (by rw[Qfq.mp hg];simp))
 ·rw[List.dropLast_concat] at hg
  exact mQa.mpr (.inl hg)
def jx.vals{nv:List Int}(x:jx w n h ts vs fs)(hl:nv.length=vs.length)(hv:∀v∈nv,0<=v/\v<=9):jx w n h ts nv fs:=⟨by rw[x.lv,hl],hv,x.lf,x.fr,x.hd,x.ch⟩
def jx.last(x:jx w n h ts vs fs):∃f,fs.getLast? =some f/\Fw w h f:=by
 have:=x.hd
 cases fs with
 |nil=>exact this.elim
 | cons a l=>
   refine⟨_,List.getLast?_eq_some_getLast (by simp),x.fr _ (List.getLast_mem (by simp))⟩
end
def m4{w:eM}{h:Nat}{f:dk}{pr:List Rw}(hp:progOf w h f=some pr):(f.room= -1/\∃ts,w.af[h]?=some (ts,pr))\/∃(i j:Nat) (r:Rm) (dn:Str),f.room=i/\f.deed=j/\w.rooms[i]?=some r/\r.ae[j]?=some (dn,pr):=by
 unfold progOf at hp
 split at hp
 ·rename_i c
  obtain⟨⟨ts,pr'⟩,h1,h2⟩:=oQm.mp hp
  cases h2
  exact .inl ⟨c,ts,h1⟩
 ·split at hp
  ·rename_i c
   obtain⟨r,h1,h2⟩:=ar hp
   obtain⟨⟨dn,pr'⟩,h3,h4⟩:=oQm.mp h2
   cases h4
   exact .inr ⟨f.room.toNat,f.deed.toNat,r,dn,by omega,by omega,h1,h3⟩
  ·cases hp
def Dg{w:eM}{h i j:Nat}{f:dk}{r:Rm}{dn:Str}{pr:List Rw}(h1:f.room=i)(h2:f.deed=j)(h3:w.rooms[i]?=some r)(h4:r.ae[j]?=some (dn,pr)):progOf w h f=some pr:=by
 unfold progOf
 rw[Quq (by omega),Qhq ⟨by omega,by omega⟩,h1,h2]
 show(w.rooms[i]?).bind _=_
 rw[h3]
 show(r.ae[j]?).map _=_
 rw[h4]
 rfl
def Dm(w:eM)(h:Nat)(f:dk):Option Sc:=if f.room= -1 then(w.af[h]?).map fun p=>⟨true,p.1.map (·.1)++w.shared.map (·.1),p.1.map (·.1)++w.shared.map (·.1),[],aZ w.rooms,w.passes.map (·.1)⟩
 else(w.rooms[f.room.toNat]?).map fun r=>⟨false,r.things.map (·.1)++gA,r.things.map (·.1),r.aa.map (·.1),aZ w.rooms,[]⟩
def Eb{w:eM}{h:Nat}{f:dk}{pr:List Rw}(o:kK w)(hp:progOf w h f=some pr):∃sc,Dm w h f=some sc/\sy sc pr:=by
 unfold Dm
 rcases m4 hp with⟨c,ts,h1⟩|⟨i,j,r,dn,h1,h2,h3,h4⟩
 ·rw[Qhq c,h1]
  exact⟨_,rfl,(o.hd _ (mQg h1)).pr⟩
 ·rw[Quq (by omega),h1]
  refine⟨_,by rw[show((i:Int)).toNat=i by omega,h3];rfl,((o.rm _ (mQg h3)).pr _ (mQg h4)).1⟩
def DJ{w:eM}(o:kK w):eo w 1 (eL w) where
 lr:=by simp[eL]
 rm:=fun i r rs h1 h2=>by
  simp only[eL,gQm,h1,Option.map_some,Option.some.injEq] at h2
  subst h2
  have hr:=o.rm r (mQg h1)
  refine⟨by simp[ff,fP],by simp[ff],fun v hv=> ?_,by simp[ff],by simp[ff],fun l hl=> ?_⟩
  ·simp only[ff,fP,Qkq] at hv
   obtain⟨p,hp,rfl⟩:=hv
   have:=hr.tv p hp
   omega
  ·simp only[ff,Qkq] at hl
   obtain⟨p,hp,rfl⟩:=hl
   simp
 lp:=by simp[eL]
 ps:=fun p hp=>by
  simp only[eL,Qkq] at hp
  obtain⟨p,hp,rfl⟩:=hp
  simp
 ls:=by simp[eL,fP]
 sv:=fun v hv=>by
  simp only[eL,fP,Qkq] at hv
  obtain⟨p,hp,rfl⟩:=hv
  have:=o.sv p hp
  omega
 lh:=by simp[eL]
 hd:=fun h ts pr vs fs h1 h2=>by
  simp only[eL,gQm,h1,Option.map_some,Option.some.injEq] at h2
  cases h2
  have hr:=o.hd _ (mQg h1)
  refine⟨by simp[fP],fun v hv=> ?_,by simp,fun f hf=> ?_,⟨rfl,fun _ z=>by cases z⟩,fun f hf=>by cases hf⟩
  ·simp only[fP,Qkq] at hv
   obtain⟨p,hp,rfl⟩:=hv
   have:=hr.tv p hp
   omega
  ·rw[Qfq.mp hf]
   refine⟨⟨pr,?_,by decide,?_⟩,by decide,by decide⟩
   ·unfold progOf
    rw[Qhq (show D0.room= -1 from rfl),h1]
    rfl
   ·show(0:Int)<=_
    omega
def vP(h:Int)(a b:List Int):Prop:=b=a\/b=a.drop 1\/b=a++ [h]\/b=a.drop 1++ [h]
def kz(h:Int)(a b:List (Int×Int)):Prop:=b=a\/b=a.drop 1\/b= []\/(b.filter (fun p=>decide (p.2≠h))=a/\b.length=a.length+1)
structure rJ(m:Str)(h:Int)(r r':fm):Prop where
 rw:vP h r.row r'.row
 lt:vP h r.ag r'.ag
 lb:r.aa.length=r'.aa.length
 bl:∀(b:Nat) (l l':List (Int×Int)),r.aa[b]?=some l->r'.aa[b]?=some l'->kz h l l'
 w1:r.within≠h->r'.within≠r.within->r.within<0/\r'.within=h
 w2:r.within=h->r'.within≠h->(r.ag++r.row++ [-1])[0]?=some r'.within\/(m="at once" /\∃p l,p::l∈r.aa/\r'.within=p.2)
 gn:∀x∈r.row++r.ag,x∉r'.row++r'.ag->r'.within=x
section
variable{m:Str}{h:Nat}{r:fm}
def iG{l l':List (Int×Int)}{b:Nat}(h1:r.aa[b]?=some l)(h2:r.aa[b]?=some l'):kz h l l':=by
 rw[h1] at h2
 cases h2
 exact .inl rfl
def rJ.refl:rJ m h r r:=⟨.inl rfl,.inl rfl,rfl,fun b l l' h1 h2=>iG h1 h2,fun _ z=>absurd rfl z,fun e z=>absurd e z,fun x hx hn=>absurd hx hn⟩
def rJ.come:rJ m h r (oG r h):=by
 unfold oG
 split
 ·rename_i c
  exact⟨.inl rfl,.inl rfl,rfl,fun b l l' h1 h2=>iG h1 h2,fun _ _=>⟨by omega,rfl⟩,fun _ z=>absurd rfl z,fun x hx hn=>absurd hx hn⟩
 ·refine⟨.inr (.inr (.inl rfl)),.inl rfl,rfl,fun b l l' h1 h2=>iG h1 h2,fun _ z=>absurd rfl z,fun e z=>absurd e z,fun x hx hn=>absurd ?_ hn⟩
  show x∈(r.row++ [(h:Int)])++r.ag
  rcases mQa.mp hx with hx|hx
  ·exact mQa.mpr (.inl (mQa.mpr (.inl hx)))
  ·exact mQa.mpr (.inr hx)
def rJ.leave{nb:List (List (Int×Int))}(hw:r.within=h)(lb:r.aa.length=nb.length)(hb:∀(b:Nat) (l l':List (Int×Int)),r.aa[b]?=some l->nb[b]?=some l'->kz h l l'):rJ m h r (hZ {r with aa:=nb}):=by
 obtain⟨vals,within,row,ag,aa⟩:=r
 cases ag with
 | cons a l=>
   refine⟨.inl rfl,.inr (.inl rfl),lb,hb,fun z=>absurd hw z,fun _ _=>.inl rfl,fun x hx hn=> ?_⟩
   rcases mQa.mp hx with hx|hx
   · exact absurd (mQa.mpr (.inl hx)) hn
   · rcases Qsq.mp hx with rfl|hx
     · rfl
     · exact absurd (mQa.mpr (.inr hx)) hn
 | nil=>
   cases row with
   | cons a l=>
     refine⟨.inr (.inl rfl),.inl rfl,lb,hb,fun z=>absurd hw z,fun _ _=>.inl rfl,fun x hx hn=> ?_⟩
     rcases mQa.mp hx with hx|hx
     · rcases Qsq.mp hx with rfl|hx
       · rfl
       · exact absurd (mQa.mpr (.inl hx)) hn
     · cases hx
   |nil=>exact⟨.inl rfl,.inl rfl,lb,hb,fun z=>absurd hw z,fun _ _=>.inl rfl,fun x hx hn=>by simp at hx⟩
def sW{b:Nat}{nl:List (Int×Int)}(hb:∀l,r.aa[b]?=some l->kz h l nl):∀(c:Nat) (l l':List (Int×Int)),r.aa[c]?=some l->(r.aa.set b nl)[c]?=some l'->kz h l l':=fun c l l' h1 h2=>by
 rcases get_set h2 with⟨rfl,rfl⟩|⟨_,h2⟩
 ·exact hb l h1
 ·exact iG h1 h2
def rJ.line{b:Nat}{nl:List (Int×Int)}(hb:∀l,r.aa[b]?=some l->kz h l nl):rJ m h r {r with aa:=r.aa.set b nl}:=⟨.inl rfl,.inl rfl,by simp,sW hb,fun _ z=>absurd rfl z,fun e z=>absurd e z,fun x hx hn=>absurd hx hn⟩
def yS{l:List (Int×Int)}(hn:(h:Int)∉l.map (·.2)):l.filter (fun p=>decide (p.2≠(h:Int)))=l:=List.filter_eq_self.mpr fun p hp=>Qeq fun e=>hn (Qkq.mpr ⟨p,hp,e⟩)
def EF{l:List (Int×Int)}{t:Int}(hn:(h:Int)∉l.map (·.2)):kz h l (zd l t h):=by
 refine .inr (.inr (.inr ⟨?_,?_⟩))
 ·unfold zd
  generalize (l.filter fun p=>decide (p.1<=t)).length=k
  have e:l.take k++l.drop k=l:=List.take_append_drop ..
  rw[List.filter_append,List.filter_append,yS (l:=l.take k) (fun z=>hn (by rw[List.map_take] at z;exact List.mem_of_mem_take z)),yS (l:=l.drop k) (fun z=>hn (by rw[List.map_drop] at z;exact List.mem_of_mem_drop z)),List.filter_cons_of_neg (by simp)]
  simp[e]
 ·unfold zd
  have:=List.length_filter_le (fun p:Int×Int=>decide (p.1<=t)) l
  simp only[lQa,Qxq,List.length_drop,Qnq,QGq]
  omega
def rJ.wait{b:Nat}{l:List (Int×Int)}{t:Int}(hw:r.within=h)(hl:r.aa[b]?=some l)(hn:(h:Int)∉iX r):rJ m h r (hZ {r with aa:=r.aa.set b (zd l t h)}):=by
 refine rJ.leave hw (by simp) (sW fun l' hl'=> ?_)
 rw[hl] at hl'
 cases hl'
 refine EF fun z=>hn ?_
 exact mQa.mpr (.inr (QOq.mpr ⟨l,mQg hl,z⟩))
def rJ.call{b:Nat}{fr:Bool}(hw:r.within=h)(hm:fr=false->m="at once"):rJ m h r (ur fr r b h):=by
 unfold ur
 split
 ·rename_i p l e
  have hb:∀l',r.aa[b]?=some l'->kz (h:Int) l' l:=fun l' hl'=>by
   rw[e] at hl'
   cases hl'
   exact .inr (.inl rfl)
  split
  ·exact rJ.line hb
  ·rename_i c
   refine⟨.inl rfl,.inr (.inr (.inl rfl)),by simp,sW hb,fun z=>absurd hw z,fun _ _=>.inr ⟨hm (by simpa using c),p,l,mQg e,rfl⟩,fun x hx hn=>absurd ?_ hn⟩
   show x∈r.row++(r.ag++ [(h:Int)])
   rcases mQa.mp hx with hx|hx
   ·exact mQa.mpr (.inl hx)
   ·exact mQa.mpr (.inr (mQa.mpr (.inl hx)))
 ·exact rJ.refl
end
structure Rl(w:eM)(s:bR)(h:Nat)(s':bR):Prop where
 rm:∀(i:Nat) (r:fm) (rm:Rm),s.rooms[i]?=some r->w.rooms[i]?=some rm->∃r',s'.rooms[i]?=some r'/\rJ rm.ah h r r'
 ps:∀(i:Nat) (p:Int×List Int),s.passes[i]?=some p->∃p',s'.passes[i]?=some p'/\vP h p.2 p'.2
 hd:∀g:Nat,g≠h->s'.af[g]?=s.af[g]?
structure LF(s:bR)(h:Nat)(s':bR):Prop where
 rm:∀(i:Nat) (r:fm),s.rooms[i]?=some r->∃us,s'.rooms[i]?=some {r with vals:=us}
 ps:s'.passes=s.passes
 hd:∀g:Nat,g≠h->s'.af[g]?=s.af[g]?
section
variable{w:eM}{s s' s2:bR}{h:Nat}
def Rl.refl:Rl w s h s:=⟨fun i r rm h1 _=>⟨r,h1,.refl⟩,fun i p h1=>⟨p,h1,.inl rfl⟩,fun _ _=>rfl⟩
def Rl.hand{p:List Int×List dk}(x:Rl w s h s'):Rl w s h {s' with af:=s'.af.set h p}:=⟨x.rm,x.ps,fun g hg=>by
 show(s'.af.set h p)[g]?=_
 rw[QKq (Ne.symm hg)]
 exact x.hd g hg⟩
def Rl.from{p:List Int×List dk}(x:Rl w {s with af:=s.af.set h p} h s'):Rl w s h s':=⟨x.rm,x.ps,fun g hg=>by
 rw[x.hd g hg]
 show(s.af.set h p)[g]?=_
 rw[QKq (Ne.symm hg)]⟩
def Rl.mild(x:Rl w s h s')(y:LF s' h s2):Rl w s h s2:=by
 refine⟨fun i r rm h1 h2=> ?_,fun i p h1=> ?_,fun g hg=>(y.hd g hg).trans (x.hd g hg)⟩
 ·obtain⟨r',e,z⟩:=x.rm i r rm h1 h2
  obtain⟨us,e2⟩:=y.rm i r' e
  exact⟨_,e2,z.rw,z.lt,z.lb,z.bl,z.w1,z.w2,z.gn⟩
 ·rw[y.ps]
  exact x.ps i p h1
def Rl.room{i:Nat}{r nr:fm}(hr:s.rooms[i]?=some r)(hn:∀rm,w.rooms[i]?=some rm->rJ rm.ah h r nr):Rl w s h {s with rooms:=s.rooms.set i nr}:=by
 refine⟨fun j r' rm h1 h2=> ?_,fun j p h1=>⟨p,h1,.inl rfl⟩,fun _ _=>rfl⟩
 by_cases c:j=i
 ·subst c
  rw[hr] at h1
  cases h1
  exact⟨nr,Qyq (gQs.mp hr).1,hn rm h2⟩
 ·exact⟨r',by show(s.rooms.set i nr)[j]?=_;rw[QKq (Ne.symm c)];exact h1,.refl⟩
def zN{p:Int×List Int}:(ib p).2=p.2.drop 1:=by
 obtain⟨v,l⟩:=p
 cases l <;>rfl
def zR{p:Int×List Int}:(i8 p h).2=p.2\/(i8 p h).2=p.2++ [(h:Int)]:=by
 unfold i8
 split
 ·exact .inl rfl
 ·exact .inr rfl
def Gp{p:Int×List Int}:vP h p.2 (i8 p h).2:=by
 rcases zR (h:=h) (p:=p) with z|z
 ·exact .inl z
 ·exact .inr (.inr (.inl z))
def Rl.pass{i:Nat}{p np:Int×List Int}(hp:s.passes[i]?=some p)(hn:vP h p.2 np.2):Rl w s h {s with passes:=s.passes.set i np}:=by
 refine⟨fun i r rm h1 _=>⟨r,h1,.refl⟩,fun j q h1=> ?_,fun _ _=>rfl⟩
 by_cases c:j=i
 ·subst c
  rw[hp] at h1
  cases h1
  exact⟨np,Qyq (gQs.mp hp).1,hn⟩
 ·exact⟨q,by show(s.passes.set i np)[j]?=_;rw[QKq (Ne.symm c)];exact h1,.inl rfl⟩
def Rl.two{i j:Nat}{p p2:Int×List Int}(hp:s.passes[i]?=some p)(hp2:(s.passes.set i (ib p))[j]?=some p2):Rl w s h {s with passes:=(s.passes.set i (ib p)).set j (i8 p2 h)}:=by
 refine⟨fun i r rm h1 _=>⟨r,h1,.refl⟩,fun k q h1=> ?_,fun _ _=>rfl⟩
 have first:∃q',(s.passes.set i (ib p))[k]?=some q'/\(q'.2=q.2\/q'.2=q.2.drop 1):=by
  by_cases c:k=i
  ·subst c
   rw[hp] at h1
   cases h1
   exact⟨_,Qyq (gQs.mp hp).1,.inr zN⟩
  ·exact⟨q,by rw[QKq (Ne.symm c)];exact h1,.inl rfl⟩
 obtain⟨q',e1,e2⟩:=first
 by_cases c:k=j
 ·subst c
  have hp2:=Option.some.inj (e1.symm.trans hp2)
  subst hp2
  refine⟨_,Qyq (gQs.mp e1).1,?_⟩
  rcases zR (h:=h) (p:=q') with z|z <;>rw[z] <;>rcases e2 with e2|e2 <;>rw[e2]
  ·exact .inl rfl
  ·exact .inr (.inl rfl)
  ·exact .inr (.inr (.inl rfl))
  ·exact .inr (.inr (.inr rfl))
 ·refine⟨q',by show((s.passes.set i (ib p)).set j _)[k]?=_;rw[QKq (Ne.symm c)];exact e1,?_⟩
  rcases e2 with e2|e2 <;>rw[e2]
  ·exact .inl rfl
  ·exact .inr (.inl rfl)
end
section
variable{w:eM}{n h:Nat}{s:bR}{vs:List Int}{fs:List dk}{f:dk}{sc:Sc}
def eo.whand(x:eo w n s)(hs:s.af[h]?=some (vs,fs)):∃ts pr,w.af[h]?=some (ts,pr)/\jx w n h ts vs fs:=by
 have hl:h<w.af.length:=by rw[x.lh];exact(gQs.mp hs).1
 exact⟨_,_,gQe hl,x.hd h _ _ vs fs (gQe hl) hs⟩
def eo.wroom{i:Nat}{r:Rm}(x:eo w n s)(hw:w.rooms[i]?=some r):∃rs,s.rooms[i]?=some rs/\j2 n r rs:=by
 have hl:i<s.rooms.length:=by rw[←x.lr];exact(gQs.mp hw).1
 exact⟨_,gQe hl,x.rm i r _ hw (gQe hl)⟩
def lQ{t:Sc}(hsc:Dm w h f=some t):(f.room= -1/\∃ts pr,w.af[h]?=some (ts,pr)/\t=⟨true,ts.map (·.1)++w.shared.map (·.1),ts.map (·.1)++w.shared.map (·.1),[],aZ w.rooms,w.passes.map (·.1)⟩)∨
  (f.room≠-1/\∃r,w.rooms[f.room.toNat]?=some r/\t=⟨false,r.things.map (·.1)++gA,r.things.map (·.1),r.aa.map (·.1),aZ w.rooms,[]⟩):=by
 unfold Dm at hsc
 split at hsc
 ·rename_i c
  obtain⟨⟨ts,pr⟩,h1,h2⟩:=oQm.mp hsc
  exact .inl ⟨c,ts,pr,h1,h2.symm⟩
 ·rename_i c
  obtain⟨r,h1,h2⟩:=oQm.mp hsc
  exact .inr ⟨c,r,h1,h2.symm⟩
def mj(x:Fw w h f)(c:f.room≠-1):f.room=(f.room.toNat:Int):=by
 obtain⟨pr,hp,_⟩:=x.pr
 rcases m4 hp with⟨c',_⟩|⟨i,_,_,_,h1,_⟩
 ·exact absurd c' c
 ·omega
def mv{t:Tr}(o:kK w)(x:eo w n s)(hs:s.af[h]?=some (vs,fs))(hf:fs.getLast? =some f)(hsc:Dm w h f=some sc)(ht:F7 sc t):∃v,(0<=v/\v<=9)/\Ag w s h t v:=by
 obtain⟨ts,pr,hw,hi⟩:=x.whand hs
 have o2:=o.hd _ (mQg hw)
 have fi:=hi.fr f (List.mem_of_getLast? hf)
 have b3:=o.l3
 have b4:=o2.l1
 have ls:=x.ls
 rcases lQ hsc with⟨c,ts',pr',hw',rfl⟩|⟨c,r,hr,rfl⟩
 ·rw[hw] at hw'
  cases hw'
  have nine:lT (Da w s ts vs):=lT.merge (iI x.sv) (iI hi.vv)
  refine⟨Ab (numAt (Da w s ts vs)) (fun _=>0) t,?_,fun S Q q=>xm hw hs hf c ls hi.lv (by omega) (by dsimp only at b4;omega) x.sv hi.vv ht.1 (by have:=ht.2;omega) q⟩
  refine my (ws:=ts.map (·.1)++w.shared.map (·.1)) (bs:= []) (fun y hy=> ?_) ht.1
  refine(ph nine (g8 ?_)).2
  rcases mQa.mp hy with hy|hy
  ·exact .inr (iy hi.lv hy)
  ·exact .inl (iy ls hy)
 ·obtain⟨rs,hsr,ri⟩:=x.wroom hr
  have orm:=o.rm r (mQg hr)
  have b5:=orm.l1
  have b6:=orm.l2
  have nine:lT (ve r rs f.given):=(iI ri.vv).put fi.gv.1 fi.gv.2
  refine⟨Ab (numAt (ve r rs f.given)) (zu r rs) t,?_,fun S Q q=>uY hs hf (mj fi c) hr hsr ri.lv ri.lb (by omega) (by omega) ri.vv fi.gv ht.1 (by have:=ht.2;omega) q⟩
  refine my (ws:=r.things.map (·.1)++gA) (bs:=r.aa.map (·.1)) (fun y hy=> ?_) ht.1
  refine(ph nine (mm ?_)).2
  rcases mQa.mp hy with hy|hy
  ·exact .inr (iy ri.lv hy)
  ·left
   rw[Qfq.mp hy]
def nF{ns:List Str}{y:Str}{v:Int}{us:List Int}(h1:∀v∈us,0<=v/\v<=9)(h2:0<=v/\v<=9):(fH ns us y v).length=us.length/\∀u∈fH ns us y v,0<=u/\u<=9:=by
 unfold fH
 refine⟨by simp,fun z hz=> ?_⟩
 rcases QTq hz with hz|rfl
 ·exact h1 z hz
 ·exact h2
def CL{i j:Nat}{rs r':fm}{us:List Int}(hsr:s.rooms[i]?=some rs)(hj:s.rooms[j]?=some r'):∃us',(s.rooms.set i {rs with vals:=us})[j]?=some {r' with vals:=us'}:=by
 by_cases c:j=i
 ·subst c
  rw[hsr] at hj
  cases hj
  exact⟨us,Qyq (gQs.mp hsr).1⟩
 ·exact⟨r'.vals,by rw[QKq (Ne.symm c)];exact hj⟩
def B6{y:Str}{v:Int}(o:kK w)(x:eo w n s)(hs:s.af[h]?=some (vs,fs))(hf:fs.getLast? =some f)(hsc:Dm w h f=some sc)(hy:y∈sc.ps)(hv:0<=v/\v<=9):∃s',Puts w s h y v s'/\eo w n s'/\LF s h s':=by
 obtain⟨ts,pr,hw,hi⟩:=x.whand hs
 have o2:=o.hd _ (mQg hw)
 have fi:=hi.fr f (List.mem_of_getLast? hf)
 have b1:=o.l1
 have b3:=o.l3
 have b4:=o2.l1
 have b7:=o.l4
 have lr:=x.lr
 have lh:=x.lh
 rcases lQ hsc with⟨c,ts',pr',hw',rfl⟩|⟨c,r,hr,rfl⟩
 ·rw[hw] at hw'
  cases hw'
  refine⟨xg w s h ts vs fs y v,fun S Q q=>GS hw hs hf c x.ls hi.lv (by omega) (by dsimp only at b4;omega) (by omega) hy q,?_⟩
  unfold xg
  split
  ·obtain⟨k1,k2⟩:=nF (ns:=w.shared.map (·.1)) (y:=y) x.sv hv
   exact⟨x.share k1 k2,fun i r hr=>⟨r.vals,hr⟩,rfl,fun _ _=>rfl⟩
  ·obtain⟨k1,k2⟩:=nF (ns:=ts.map (·.1)) (y:=y) hi.vv hv
   exact⟨x.hand hw (hi.vals k1 k2),fun i r hr=>⟨r.vals,hr⟩,rfl,fun g hg=>QKq (Ne.symm hg)⟩
 ·obtain⟨rs,hsr,ri⟩:=x.wroom hr
  have orm:=o.rm r (mQg hr)
  have b5:=orm.l1
  refine⟨_,fun S Q q=>EN hs hf (mj fi c) hr hsr ri.lv (by omega) (by omega) hy q,?_⟩
  obtain⟨k1,k2⟩:=nF (ns:=r.things.map (·.1)) (y:=y) ri.vv hv
  refine⟨x.room hr ⟨by rw[ri.lv,←k1],ri.lb,k2,ri.br,ri.bl,ri.bb⟩,fun j r' hj=> ?_,rfl,fun _ _=>rfl⟩
  exact CL hsr hj
def eo.goes{m:Int}{pr:List Rw}(x:eo w n s)(hs:s.af[h]?=some (vs,fs))(hf:fs.getLast? =some f)(hp:progOf w h f=some pr)(h0:0<=m)(h1:m<=pr.length):eo w n {s with af:=s.af.set h (vs,fs.dropLast++ [{f with row:=m}])}:=by
 obtain⟨ts,pr',hw,hi⟩:=x.whand hs
 have fi:=hi.fr f (List.mem_of_getLast? hf)
 exact x.hand hw (hi.setLast hf rfl ⟨⟨pr,hp,h0,h1⟩,fi.gv,fi.tv⟩)
def eo.tells{v:Int}(x:eo w n s)(hs:s.af[h]?=some (vs,fs))(hf:fs.getLast? =some f)(hv:0<=v/\v<=9):eo w n {s with af:=s.af.set h (vs,fs.dropLast++ [{f with told:=v}])}:=by
 obtain⟨ts,pr',hw,hi⟩:=x.whand hs
 have fi:=hi.fr f (List.mem_of_getLast? hf)
 exact x.hand hw (hi.setLast hf rfl ⟨fi.pr,fi.gv,hv⟩)
def j2.come{r:Rm}{rs:fm}{k:Int}(x:j2 n r rs):j2 (n+1) r (oG rs k):=by
 unfold oG
 have:=x.br
 split
 ·exact⟨x.lv,x.lb,x.vv,by show rs.row.length<=_;omega,Nat.le_succ_of_le x.bl,fun l hl=>Nat.le_succ_of_le (x.bb l hl)⟩
 ·exact⟨x.lv,x.lb,x.vv,by simp;omega,Nat.le_succ_of_le x.bl,fun l hl=>Nat.le_succ_of_le (x.bb l hl)⟩
def j2.leave{r:Rm}{rs:fm}(x:j2 n r rs):j2 n r (hZ rs):=by
 obtain⟨vals,within,row,ag,aa⟩:=rs
 have h1:=x.br
 have h2:=x.bl
 unfold hZ
 dsimp only at h1 h2⊢
 cases ag with
 |cons a l=>exact⟨x.lv,x.lb,x.vv,x.br,by simp at h2;show l.length<=n;omega,x.bb⟩
 | nil=>
   cases row with
   |cons a l=>exact⟨x.lv,x.lb,x.vv,by simp at h1;show l.length<=n;omega,x.bl,x.bb⟩
   |nil=>exact⟨x.lv,x.lb,x.vv,x.br,x.bl,x.bb⟩
def j2.line{r:Rm}{rs:fm}{b:Nat}{l:List (Int×Int)}(x:j2 n r rs)(hl:l.length<=n):j2 n r {rs with aa:=rs.aa.set b l}:=⟨x.lv,by simp;exact x.lb,x.vv,x.br,x.bl,fun k hk=>by
 rcases QTq hk with hk|rfl
 ·exact x.bb k hk
 ·exact hl⟩
def j2.call{r:Rm}{rs:fm}{b:Nat}{k:Int}{fr:Bool}(x:j2 n r rs):j2 (n+1) r (ur fr rs b k):=by
 unfold ur
 split
 ·rename_i p l e
  have hl:=x.bb _ (mQg e)
  have y:=(x.mono (Nat.le_succ n)).line (b:=b) (l:=l) (by simp at hl;omega)
  have z:=x.bl
  split
  ·exact y
  ·exact⟨y.lv,y.lb,y.vv,y.br,by simp;omega,y.bb⟩
 ·exact x.mono (Nat.le_succ n)
def EK{l:List (Int×Int)}{a b:Int}:(zd l a b).length=l.length+1:=by
 unfold zd
 have:=List.length_filter_le (fun p:Int×Int=>decide (p.1<=a)) l
 simp only[lQa,Qxq,List.length_drop,Qnq,QGq]
 omega
def Hn{rn dn:Str}(o:kK w)(hg:(rn,dn)∈aZ w.rooms):rn∈w.rooms.map (·.name)/\∃r,w.rooms[hU (w.rooms.map (·.name)) rn]?=some r/\dn∈r.ae.map (·.1):=by
 unfold aZ at hg
 obtain⟨r,hr,hd⟩:=QOq.mp hg
 obtain⟨p,hp,e⟩:=Qkq.mp hd
 cases e
 have hm:r.name∈w.rooms.map (·.name):=Qkq.mpr ⟨r,hr,rfl⟩
 refine⟨hm,r,?_,Qkq.mpr ⟨p,hp,rfl⟩⟩
 obtain⟨h1,h2⟩:=nE hm
 obtain⟨i,hi,e⟩:=List.getElem_of_mem hr
 have e2:(w.rooms.map (·.name))[i]?=some r.name:=by rw[gQm,gQe hi,e];rfl
 rw[kY o.nd h2 e2,gQe hi,e]
def GV{i:Nat}{rs:fm}{y:Int}(hsr:s.rooms[i]?=some rs)(hy:y∈iX rs):y∈held s:=mQa.mpr (.inr (QOq.mpr ⟨rs,mQg hsr,hy⟩))
def Bt{r:Rw}{pr:List Rw}(o:kK w)(x:eo w n s)(hn:n<=100)(hs:s.af[h]?=some (vs,fs))(hf:fs.getLast? =some f)(hp:progOf w h f=some pr)(h1:1<=f.row)(hrow:pr[(f.row-1).toNat]?=some r)(hnot:(h:Int)∉held s)(hin:∀(i:Nat) (rs:fm),f.room=i->s.rooms[i]?=some rs->rs.within=h):∃s',IW w s h r s'/\eo w (n+1) s'/\Rl w s h s':=by
 obtain⟨sc,hsc,hok⟩:=Eb o hp
 have rok:=hok r (mQg hrow)
 obtain⟨ts,pr',hw,hi⟩:=x.whand hs
 have fi:=hi.fr f (List.mem_of_getLast? hf)
 have b1:=o.l1
 have b2:=o.l2
 have b3:=o.l3
 have b4:=o.l4
 have lr:=x.lr
 have lp:=x.lp
 have lh:=x.lh
 have lf:=hi.lf
 have x1:=x.mono (Nat.le_succ n)
 have inRoom:sc.own=false->∃(i:Nat) (r:Rm) (rs:fm),f.room=i/\w.rooms[i]?=some r/\s.rooms[i]?=some rs/\j2 n r rs/\xO (aZ w.rooms) r/\sc.bs=r.aa.map (·.1):=fun ho=>by
  rcases lQ hsc with⟨c,ts',pr',hw',rfl⟩|⟨c,r,hr,rfl⟩
  ·cases ho
  ·obtain⟨rs,hsr,ri⟩:=x.wroom hr
   exact⟨_,r,rs,mj fi c,hr,hsr,ri,o.rm r (mQg hr),rfl⟩
 have onOwn:sc.own=true->sc.ts=w.passes.map (·.1):=fun ho=>by
  rcases lQ hsc with⟨c,ts',pr',hw',rfl⟩|⟨c,r,hr,rfl⟩
  ·rfl
  ·cases ho
 have passAt:∀y,y∈w.passes.map (·.1)->∀ps:List (Int×List Int),w.passes.length=ps.length->∃p,ps[hU (w.passes.map (·.1)) y]?=some p:=fun y hy ps hl=>by
  have:=(nE hy).1
  rw[lQm] at this
  exact⟨_,gQe (by omega)⟩
 have takeL:∀p:Int×List Int,p.2.length<=n->(i8 p h).2.length<=n+1:=fun p hp=>by
  unfold i8
  split
  ·show p.2.length<=_;omega
  ·simp;omega
 have giveL:∀p:Int×List Int,p.2.length<=n->(ib p).2.length<=n:=fun p hp=>by
  obtain⟨v,l⟩:=p
  unfold ib
  cases l with
  |nil=>simp
  |cons a l=>simp at hp;show l.length<=n;omega
 cases r with
 | put y t=>
   obtain⟨v,hv,hr⟩:=mv o x hs hf hsc rok.2
   obtain⟨s',hp',hi',hm'⟩:=B6 o x hs hf hsc rok.1 hv
   exact⟨s',fun S Q q=>C3 hr hp' q,hi'.mono (Nat.le_succ n),Rl.refl.mild hm'⟩
 | unl t m=>
   obtain⟨v,hv,hr⟩:=mv o x hs hf hsc rok.1
   refine⟨_,fun S Q q=>wH hr hs hf (by omega) (by omega) q,?_⟩
   split
   · exact⟨x1.goes hs hf hp (by omega) (by have:=rok.2;omega),Rl.refl.hand⟩
   · exact⟨x1,.refl⟩
 |go m=>exact⟨_,fun S Q q=>FS hs hf (by omega) (by omega) q,x1.goes hs hf hp (by omega) (by have:m<=pr.length:=rok;omega),Rl.refl.hand⟩
 | do_ g rn dn t=>
   obtain⟨v,hv,hr⟩:=mv o x hs hf hsc rok.2.2
   have hgs:sc.gs=aZ w.rooms:=by
     rcases lQ hsc with⟨c,ts',pr',hw',rfl⟩|⟨c,r,hr,rfl⟩ <;>rfl
   have hgo:=rok.2.1
   rw[hgs] at hgo
   obtain⟨hrn,r,hwr,hdn⟩:=Hn o hgo
   obtain⟨rs,hsr,ri⟩:=x.wroom hwr
   have orm:=o.rm r (mQg hwr)
   have b5:=orm.l3
   have b6:=ri.br
   refine⟨_,fun S Q q=>E3 hr hs hrn hwr hsr hdn (by omega) (by omega) (by omega) (by omega) (by omega) (by omega) q,?_⟩
   have hlt:=nE hdn
   have hdl:=hlt.1
   rw[lQm] at hdl
   obtain⟨⟨dn',pr2⟩,hd2⟩:∃p,r.ae[hU (r.ae.map (·.1)) dn]?=some p:=⟨_,gQe hdl⟩
   have pf:progOf w h ⟨(hU (w.rooms.map (·.name)) rn:Nat),(hU (r.ae.map (·.1)) dn:Nat),0,v,0⟩=some pr2:=Dg rfl rfl hwr hd2
   have hh:=hi.push (f':=⟨(hU (w.rooms.map (·.name)) rn:Nat),(hU (r.ae.map (·.1)) dn:Nat),0,v,0⟩) hf ⟨pr,g,rn,dn,t,hp,h1,hrow⟩ (by show((hU (w.rooms.map (·.name)) rn:Nat):Int)≠-1;omega) ⟨⟨pr2,pf,by show(0:Int)<=0;omega,by show(0:Int)<=_;omega⟩,hv,by show(0:Int)<=0/\(0:Int)<=9;omega⟩
   exact⟨(x1.hand hw hh).room hwr ri.come,Rl.hand (Rl.room hsr fun rm _=>rJ.come)⟩
 | wait y t=>
   obtain⟨i,r,rs,hri,hwr,hsr,ri,orm,hbs⟩:=inRoom rok.1
   obtain⟨v,hv,hr⟩:=mv o x hs hf hsc rok.2.2
   have hy:=rok.2.1
   rw[hbs] at hy
   have b6:=orm.l2
   have lb:=ri.lb
   obtain⟨k1,k2⟩:=nE hy
   rw[lQm] at k1
   rw[gQm] at k2
   obtain⟨⟨y',so⟩,k3,k4⟩:=oQm.mp k2
   have k4:y'=y:=k4
   subst k4
   obtain⟨line,hl⟩:∃l,rs.aa[hU (r.aa.map (·.1)) y']?=some l:=⟨_,gQe (by omega)⟩
   have ll:=ri.bb line (mQg hl)
   refine⟨_,fun S Q q=>A5 hs hf hri hwr hsr (by omega) lb (by omega) hy k3 hl (by omega) hr q,?_⟩
   exact⟨x1.room hwr (((ri.mono (Nat.le_succ n)).line (by rw[EK];omega)).leave),Rl.room hsr fun rm _=>rJ.wait (hin i rs hri hsr) hl fun z=>hnot (GV hsr z)⟩
 | call y=>
   obtain⟨i,r,rs,hri,hwr,hsr,ri,orm,hbs⟩:=inRoom rok.1
   have hy:=rok.2
   rw[hbs] at hy
   have b6:=orm.l2
   have b7:=ri.bl
   refine⟨_,fun S Q q=>Ax hs hf hri hwr hsr (by omega) ri.lb (by omega) (by omega) hy q,?_⟩
   refine⟨x1.room hwr ri.call,Rl.room hsr fun rm hrm=>rJ.call (hin i rs hri hsr) fun z=> ?_⟩
   rw[hwr] at hrm
   cases hrm
   exact orm.mn.resolve_right (of_decide_eq_false z)
 | all y=>
   obtain⟨i,r,rs,hri,hwr,hsr,ri,orm,hbs⟩:=inRoom rok.1
   have hy:=rok.2
   rw[hbs] at hy
   have b6:=orm.l2
   refine⟨_,fun S Q q=>Dh hs hf hri hwr hsr (by omega) ri.lb (by omega) hy q,?_⟩
   exact⟨x1.room hwr ((ri.mono (Nat.le_succ n)).line (by simp)),Rl.room hsr fun rm _=>rJ.line fun l _=>.inr (.inr (.inl rfl))⟩
 | tell t=>
   obtain⟨v,hv,hr⟩:=mv o x hs hf hsc rok.2
   exact⟨_,fun S Q q=>Bb hr hs hf (by omega) (by omega) q,x1.tells hs hf hv,Rl.refl.hand⟩
 | take y=>
   have hy:=rok.2
   rw[onOwn rok.1] at hy
   obtain⟨p,hp'⟩:=passAt y hy s.passes lp
   have pl:=x.ps p (mQg hp')
   exact⟨_,fun S Q q=>AN hy hp' (by omega) (by omega) (by omega) q,x1.pass (takeL p pl),Rl.pass hp' Gp⟩
 | give y=>
   have hy:=rok.2
   rw[onOwn rok.1] at hy
   obtain⟨p,hp'⟩:=passAt y hy s.passes lp
   have pl:=x.ps p (mQg hp')
   exact⟨_,fun S Q q=>A8 hy hp' (by omega) (by omega) q,x1.pass (Nat.le_succ_of_le (giveL p pl)),Rl.pass hp' (by rw[zN];exact .inr (.inl rfl))⟩
 | pass y z=>
   have hy:=rok.2.1
   have hz:=rok.2.2
   rw[onOwn rok.1] at hy hz
   obtain⟨p,hp'⟩:=passAt y hy s.passes lp
   have pl:=x.ps p (mQg hp')
   have x2:eo w n _:=x.pass (i:=hU (w.passes.map (·.1)) y) (giveL p pl)
   obtain⟨p2,hp2⟩:=passAt z hz (s.passes.set (hU (w.passes.map (·.1)) y) (ib p)) (by simpa using lp)
   have pl2:=x2.ps p2 (mQg hp2)
   refine⟨_,fun S Q q=>Bf hy hz hp' (by omega) (by omega) (by omega) hp2 q,(x2.mono (Nat.le_succ n)).pass (takeL p2 pl2),Rl.two hp' hp2⟩
 |say t=>exact⟨s,fun S Q q=>CH (sd:=.non) q,x1,.refl⟩
end
section
variable{w:eM}{n h:Nat}{s:bR}{vs:List Int}{fs:List dk}{f:dk}{sc:Sc}
def eo.mays(o:kK w)(x:eo w n s)(hn:n<=100):Iv w s:=by
 have b1:=o.l1
 have b2:=o.l2
 have b4:=o.l4
 have lr:=x.lr
 have lp:=x.lp
 have lh:=x.lh
 refine yY (fun S Q q=>ql hn (by omega) (by omega) x.ps (fun rs hrs=> ?_) q) (fun h hh=> ?_) (by omega)
 ·obtain⟨i,hi,e⟩:=List.getElem_of_mem hrs
  have hs:s.rooms[i]?=some rs:=by rw[gQe hi,e]
  have hw:w.rooms[i]?=some (w.rooms[i]'(by omega)):=gQe (by omega)
  have ri:=x.rm i _ rs hw hs
  have:=(o.rm _ (mQg hw)).l2
  have:=ri.lb
  exact⟨ri.br,ri.bl,by omega,ri.bb⟩
 ·obtain⟨⟨vs,fs⟩,hs⟩:∃p,s.af[h]?=some p:=⟨_,gQe hh⟩
  obtain⟨ts,pr,hw,hi⟩:=x.whand hs
  obtain⟨f,hf,fi⟩:=hi.last
  obtain⟨pr',hp,_⟩:=fi.pr
  exact⟨vs,fs,f,pr',hs,hf,hp⟩
def Rw.isSay:Rw->Bool
 |.say _=>true
 |_=>false
def vq(w:eM)(h:Nat)(f:dk):Bool:=decide (f.room<0)&&match (w.af[h]?).bind fun p=>p.2[f.row.toNat]? with
 |some r=>r.isSay
 |none=>false
def GR(o:kK w)(x:eo w n s)(hn:n<=100)(hm:h∈sP w s)(hs:s.af[h]?=some (vs,fs))(hf:fs.getLast? =some f):∃s' e,yi w s h s' e/\eo w (n+1) s'/\Rl w s h s'/\e.isSome=vq w h f/\∀v,e=some v->0<=v/\v<=9:=by
 obtain⟨ts,prh,hw,hi⟩:=x.whand hs
 have fi:=hi.fr f (List.mem_of_getLast? hf)
 obtain⟨pr,hp,hr0,hr1⟩:=fi.pr
 have b1:=o.l1
 have b4:=o.l4
 have lr:=x.lr
 have lh:=x.lh
 have lf:=hi.lf
 have hnot:(h:Int)∉held s:=fun z=>by
  have:=(List.mem_filter.mp hm).2
  rw[QCq,Qeq z] at this
  cases this.1
 have nb:¬(f.room= -1/\f.row=pr.length):=by
  rintro⟨c1,c2⟩
  have:=(List.mem_filter.mp hm).2
  rw[QCq] at this
  have hb:y9 w s h=true:=by
   unfold y9 F3
   rw[hs]
   show(match fs.getLast? with|some f=>_|none=>_)=_
   rw[hf]
   simp only[hp,Option.getD_some,c1,c2,decide_true,Bool.and_true]
  rw[hb] at this
  exact absurd this.2 (by decide)
 by_cases c:f.room= -1
 ·
  have hp':pr=prh:=by
   unfold progOf at hp
   rw[Qhq c,hw] at hp
   cases hp;rfl
  subst hp'
  have hlt:f.row.toNat<pr.length:=by
   have:f.row≠pr.length:=fun z=>nb ⟨c,z⟩
   omega
  have hrow:pr[f.row.toNat]?=some (pr[f.row.toNat]):=gQe hlt
  generalize pr[f.row.toNat]=r at hrow
  obtain⟨sc,hsc,hok⟩:=Eb o hp
  have rok:=hok r (mQg hrow)
  have hsb:vq w h f=r.isSay:=by
   unfold vq
   rw[hw]
   show(decide (f.room<0)&&match pr[f.row.toNat]? with|some r=>r.isSay|none=>false)=_
   rw[hrow,Qeq (by omega)]
   rfl
  have says:∃e,J4 w s h r e/\e.isSome=vq w h f/\∀v,e=some v->0<=v/\v<=9:=by
   rw[hsb]
   cases r with
   | say t=>
     obtain⟨v,hv,hr⟩:=mv o x hs hf hsc rok.2
     exact⟨some v,⟨v,rfl,hr⟩,rfl,fun u hu=>by cases hu;exact hv⟩
   |_=>exact⟨none,rfl,rfl,fun u hu=>by cases hu⟩
  obtain⟨e,he,h1,h2⟩:=says
  have x2:=x.goes hs hf hp (m:=f.row+1) (by omega) (by omega)
  have hl:h<s.af.length:=(gQs.mp hs).1
  obtain⟨s',hd,hi',hrl⟩:=Bt (f:={f with row:=f.row+1}) (r:=r) (pr:=pr) o x2 hn (Qyq hl) (by simp) hp (by show 1<=f.row+1;omega) (by show pr[(f.row+1-1).toNat]?=_;rw[show f.row+1-1=f.row by omega];exact hrow) hnot (fun i rs e=>by have e:f.room=i:=e;omega)
  exact⟨s',e,y8 hs hf (.inl c) hp hr0 hrow (by omega) (by omega) he hd,hi',Rl.from hrl,h1,h2⟩
 ·
  have hsb:vq w h f=false:=by
   unfold vq
   have:=mj fi c
   rw[Qdq (by omega)]
   rfl
  rcases m4 hp with⟨c',_⟩|⟨i,j,r,dn,h1,h2,h3,h4⟩
  ·exact absurd c' c
  obtain⟨rs,hsr,ri⟩:=x.wroom h3
  have br:=ri.br
  by_cases cw:rs.within=h
  ·have here:Here s h f:=.inr ⟨i,rs,h1,hsr,cw⟩
   by_cases ce:f.row=pr.length
   ·
    have hsp:=nR hf
    have hd:=hi.hd
    rw[hsp] at hd
    obtain⟨gs,f2,hg⟩:=hd.two c
    have hfs:fs=gs++ [f2,f]:=by rw[hsp,hg];simp
    subst hfs
    obtain⟨hi2,did⟩:=hi.pop
    obtain⟨pr2,g,rn,dn2,t,p1,p2,p3⟩:=did
    have x2:eo w n {s with rooms:=s.rooms.set i (hZ rs),af:=s.af.set h (vs,gs++ [f2])}:=(x.hand hw hi2).room h3 ri.leave
    obtain⟨sc,hsc,hok⟩:=Eb o p1
    have rok:=hok _ (mQg p3)
    have hl:h<s.af.length:=(gQs.mp hs).1
    cases g with
    | none=>
      refine⟨_,none,zG hs hf here hp ce fun S Q q=>qv hs h1 hsr (by omega) (by omega) p1 p2 p3 (fun _ e=>e.symm) q,x2.mono (Nat.le_succ n),Rl.hand (Rl.room hsr fun rm _=>rJ.leave cw rfl fun b l l' k1 k2=>iG k1 k2),by rw[hsb];rfl,fun v hv=>by cases hv⟩
    | some y=>
      obtain⟨s',hp',hi',hm'⟩:=B6 (y:=y) (v:=f.told) o x2 (Qyq hl) (by simp) hsc (rok.1 y rfl) fi.tv
      refine⟨s',none,zG hs hf here hp ce fun S Q q=>qv hs h1 hsr (by omega) (by omega) p1 p2 p3 (fun _ e=>by rw[e];exact hp') q,hi'.mono (Nat.le_succ n),Rl.mild (Rl.hand (Rl.room hsr fun rm _=>rJ.leave cw rfl fun b l l' k1 k2=>iG k1 k2)) hm',by rw[hsb];rfl,fun v hv=>by cases hv⟩
   ·
    have hlt:f.row.toNat<pr.length:=by omega
    have hrow:pr[f.row.toNat]?=some (pr[f.row.toNat]):=gQe hlt
    generalize pr[f.row.toNat]=r' at hrow
    have rok:=((o.rm _ (mQg h3)).pr _ (mQg h4)).1 r' (mQg hrow)
    have he:J4 w s h r' none:=by
     cases r' with
     |say t=>exact absurd rok.1 (show¬(false=true) by decide)
     |_=>rfl
    have x2:=x.goes hs hf hp (m:=f.row+1) (by omega) (by omega)
    have hl:h<s.af.length:=(gQs.mp hs).1
    obtain⟨s',hd,hi',hrl⟩:=Bt (f:={f with row:=f.row+1}) (r:=r') (pr:=pr) o x2 hn (Qyq hl) (by simp) hp (by show 1<=f.row+1;omega) (by show pr[(f.row+1-1).toNat]?=_;rw[show f.row+1-1=f.row by omega];exact hrow) hnot (fun i' rs' e k=>by
     have e:f.room=i':=e
     have:i'=i:=by omega
     subst this
     rw[show s.rooms[i']?=some rs' from k] at hsr
     cases hsr
     exact cw)
    exact⟨s',none,y8 hs hf here hp hr0 hrow (by omega) (by omega) he hd,hi',Rl.from hrl,by rw[hsb];rfl,fun v hv=>by cases hv⟩
  ·
   exact⟨_,none,CJ hs hf h1 hsr cw (by omega) (by omega),(x.mono (Nat.le_succ n)).room h3 ri.come,Rl.room hsr fun rm _=>rJ.come,by rw[hsb];rfl,fun v hv=>by cases hv⟩
end
end W28
namespace DL
open PySem PySem.Spec L2
section
variable{Γ:dh}{S:aK}
def HS{f:eJ}{Q:D->aK->Prop}(h:E f Γ S fun p S1=>p.2.isL=true/\∃bs,JC p.1=some bs/\Q (.bl (bs.all id)) S1):E (xC f) Γ S Q:=by
 obtain⟨p,S1,e1,l,bs,e2,q⟩:=h
 exact⟨_,S1,by unfold xC;rw[e1];simp only[Qbq];rw[Qhq l,e2];rfl,q⟩
def Fq{i j:Int}{Q:D->Prop}(h:E6 i j)(q:Q (.int (i^j.toNat))):Op (xK S (.int i) (.int j)) Q:=⟨_,by simp only[xK,intD];rw[Qhq h],q⟩
def JK{i j:Int}{Q:D->Prop}(h:IntMulOk i j)(q:Q (.int (i*j))):Op (nT S (.int i) (.int j)) Q:=⟨_,by simp only[nT,intD];rw[Qhq h],q⟩
end
theorem uk:∀n:Nat,JC (List.replicate n (.bl true))=some (List.replicate n true)
 |0=>rfl
 |n+1=>by simp only[QNq,JC];rw[uk n];rfl
end DL
namespace W28
open PySem PySem.Spec L2 DL
section
variable{S S0:aK}{Q:Res->aK->Prop}
def DP(l:List Nat):l.map zi=(l.map fun h:Nat=>(h:Int)).map D.int:=by rw[QPq];rfl
def j_{l:List Nat}:∀d∈l.map zi,(∀k,d≠.ref k)/\cB 0 d=true:=fun d hd=>by
 obtain⟨a,_,rfl⟩:=Qkq.mp hd
 exact⟨fun k z=>(nomatch z),rfl⟩
def Gu{k i:Nat}{l:List Nat}{last:Int}(x:Ex k S0 S)(hi:i≠k)(hS:S[i]?=some (.lst (l.map zi)))(h0:0<l.length)(h1:l.length<1000)
  (h:∀(m:Nat) (S':aK),m∈l->Ex k S0 S'->Ex k S S'->S'.length=S.length->Q (.d (.int m)) S'):Fn kA [.ref k,.ref i,.int last] S Q:=by
 have y:Ex k S S:=by obtain⟨a,b,c,hh⟩:=x.pot;exact Ex.refl hh
 have pick:∀S1,Ex k S S1->S1.length=S.length->T (cP (aA bQ (ao (aq 0) (ao (aq 1) aw)))) [some (.ref k),some (.ref i),some (.int last)] S1 (fun o=>match o with
   |.nx _ S'=>Op (settle S .non S') fun p=>Q p.1 p.2|.rt d S'=>Op (settle S d S') fun p=>Q p.1 p.2|.rl l S'=>Op (dJ S l S') fun p=>Q p.1 p.2|_=>False):=fun S1 y1 hl=>by
  symm
  refine fg (xs:=l.map zi) y1 hi (y1.keep _ _ hi hS) (by simpa using h0) (by simpa using h1) j_ (fun d hd=>dG (j_ d hd).2) fun d S' hd e1 e2 hl2=> ?_
  obtain⟨m,hm,rfl⟩:=Qkq.mp hd
  dsimp only
  refine lA e1 x.lt (j_ _ hd).1 (dG (j_ _ hd).2) fun a b c=> ?_
  exact h m _ hm x.set y.set (by simp)
 refine cp ?_
 unfold sT
 apply cy (f_ (xH (gf (DA ?_))))
 refine cv hS ?_
 refine⟨_,_,rfl,by rw[DP];exact gM _,?_⟩
 rw[oD]
 show if decide (last∈l.map fun h:Nat=>(h:Int))=true then _ else _
 by_cases c:last∈l.map fun h:Nat=>(h:Int)
 ·rw[Qeq c,Qhq rfl]
  obtain⟨m,hm,rfl⟩:=Qkq.mp c
  symm
  apply bU y (by decide) (by decide) fun d S' hd e1 e2 hl2=> ?_
  refine eU ?_
  dsimp only
  by_cases c2:(d:Int)=0
  ·rw[Qeq c2,Qhq rfl]
   symm
   refine lA e1 x.lt (fun k z=>(nomatch z)) rfl fun a b c=> ?_
   exact h m _ hm x.set y.set (by simp)
  ·rw[Qdq c2,Quq (by decide)]
   refine cN ?_
   exact pick S' e1 hl2
 ·rw[Qdq c,Quq (by decide)]
  rw[Quq (by decide)]
  refine cN ?_
  exact pick S y rfl
end
end W28
namespace DL
open PySem PySem.Spec L2
def DX{S:aK}{k:Nat}{ds:List D}{Q:List D×Tag->Prop}(hS:S[k]?=some (.frz ds))(q:Q (ds,.fz k)):Op (t5 S (.ref k)) Q:=⟨_,by simp only[t5,hS],q⟩
def LD{S:aK}{k:Nat}{ds:List D}{i:Int}{d:D}{Q:D->Prop}(hS:S[k]?=some (.frz ds))(h:kL ds i=some d)(q:Q d):Op (aW S (.ref k) (.int i)) Q:=⟨_,by simp only[aW,hS];exact h,q⟩
def Ln{i:Int}{Q:D->Prop}(q:Q (.int (if i<0 then -i else i))):Op (Hh [.int i]) Q:=⟨_,rfl,q⟩
def EH{b:Bool}{Q:D->Prop}(q:Q (.int (if b then 1 else 0))):Op (intOfD [.bl b]) Q:=⟨_,rfl,q⟩
def sQ{j:Nat}{n:Nat}{d:D}(h:(kS 0 (j:Int))[n]?=some d):d=.int n/\n<j:=by
 have hl:n<j:=by
  have:=(gQs.mp h).1
  unfold kS at this
  simpa using this
 unfold kS at h
 rw[gQm,List.getElem?_range (by simpa using hl)] at h
 cases h
 exact⟨by simp,hl⟩
end DL
namespace W28
open PySem PySem.Spec L2 DL
section
variable{S:aK}{Q:Res->aK->Prop}
def IH{ns:List Int}{k:Nat}(hS:S[0]?=some (.frz (ns.map D.int)))(q:∀a b:Int,Q (.l [.int a,.int b,.int 0]) S):Fn me [.ref 0,.int k] S Q:=by
 refine cp ?_
 unfold vC
 have key:∀c0:Int,T (aL (bt 3 (aE nT (aE rE (aq 2) (aE nT (aE xK (cF (.int 10)) (cF (.int 60))) (aE xK (cF (.int 10)) (cF (.int 60))))) (yz intOfD (ao (aE LX (aq 2) (aE xK (cF (.int 10)) (cF (.int 18)))) aw))))
   (Es (cg (ao (aq 3) (ao (aE rE (aE cm (aE cm (aq 2) (aE nT (cF (.int 104729)) (aq 1))) (cF (.int 7))) (cF (.int 2305843009213693951))) (ao (cF (.int 0)) aw))))))
   [some (.ref 0),some (.int k),some (.int c0),none] S (fun o=>match o with
   |.nx _ S'=>Op (settle S .non S') fun p=>Q p.1 p.2|.rt d S'=>Op (settle S d S') fun p=>Q p.1 p.2|.rl l S'=>Op (dJ S l S') fun p=>Q p.1 p.2|_=>False):=by
  intro c0
  symm
  apply Fq ⟨by decide,by decide,by decide⟩ ?_
  apply Fq ⟨by decide,by decide,by decide⟩ ?_
  refine JK (IntMulOk.of_bits (by decide +kernel) (by decide +kernel)) ?_
  refine sU (show(0:Int)<10^(60:Int).toNat*10^(60:Int).toNat by decide +kernel) ?_
  generalize c0%(10^(60:Int).toNat*10^(60:Int).toNat)=c1
  symm
  refine Fq ⟨by decide,by decide,by decide⟩ ?_
  generalize (10:Int)^(18:Int).toNat=c2
  symm
  refine EH ?_
  have hb:Hv c1 (if decide (c2<=c0)=true then 1 else 0):=by
   right
   split <;>decide
  generalize (if decide (c2<=c0)=true then(1:Int) else 0)=c3 at hb⊢
  apply vy hb ?_
  apply vy (.inl ⟨by decide,by decide⟩) ?_
  apply sU (by decide) ?_
  refine⟨by show 3<=_;decide,?_⟩
  exact Fd rfl (q _ _)
 symm
 apply DX hS ?_
 rw[lQm]
 by_cases c:(k:Int)<ns.length
 ·rw[Qeq c,Qhq rfl]
  have hk:k<ns.length:=by omega
  symm
  refine LD hS (bp (x:=.int ns[k]) (by rw[gQm,gQe hk];rfl)) ?_
  symm
  refine Ln ?_
  exact key _
 ·rw[Qdq c,Quq (by decide)]
  refine cN ?_
  exact key 0
end
end W28
namespace DL
open PySem PySem.Spec L2
def KA{α:Type}(xs:List α):jC xs (some 1) none=xs.drop 1:=by
 cases xs with
 |nil=>rfl
 |cons a l=>exact iU (i:=1) (by simp)
section
variable{Γ:dh}{S:aK}
def H_{neg:Bool}{f:bN}{g:eJ}{Q:D->aK->Prop}(h:E f Γ S fun x S1=>E g Γ S1 fun p S2=>∃v vs,jM x=some v/\gd p.1=some vs/\v.depth<=60/\Q (.bl (if neg then !vs.any (PyData.eqv · v) else vs.any (PyData.eqv · v))) S2):E (IQ neg f g) Γ S Q:=by
 obtain⟨x,S1,e1,p,S2,e2,v,vs,h1,h2,h3,q⟩:=h
 exact⟨_,S2,by unfold IQ;rw[e1];simp only[Qbq];rw[e2];simp only[Qbq];rw[h1,h2];simp only[Qbq];rw[Qhq h3],q⟩
def Cb{neg:Bool}{x y:D}{p r:PyData}{Q:D->Prop}(h1:jM x=some p)(h2:jM y=some r)(h3:p.depth<=60)(q:Q (.bl (if neg then !PyData.eqv p r else PyData.eqv p r))):Op (Cu neg S x y) Q:=⟨_,by unfold Cu;rw[h1,h2];simp only[Qbq];rw[Qhq h3],q⟩
def AF{neg:Bool}{i j:Int}{Q:D->Prop}(q:Q (.bl (if neg then !decide (i=j) else decide (i=j)))):Op (Cu neg S (.int i) (.int j)) Q:=Cb (p:=.int i) (r:=.int j) rfl rfl (by simp[PyData.depth]) (by
 have:PyData.eqv (.int i) (.int j)=decide (i=j):=by simp[PyData.eqv,BEq.beq]
 rw[this];exact q)
def J6{neg:Bool}{f g:eJ}{Q:D->aK->Prop}(h:E f Γ S fun p S1=>E g Γ S1 fun r S2=>(p.2.isL=true/\r.2.isL=true/\p.2.stays S2 p.1)/\∃us vs,gd p.1=some us/\gd r.1=some vs/\(PyData.list us).depth<=60/\Q (.bl (if neg then !PyData.eqvAll us vs else PyData.eqvAll us vs)) S2):E (E8 neg f g) Γ S Q:=by
 obtain⟨p,S1,e1,r,S2,e2,hc,us,vs,h1,h2,h3,q⟩:=h
 exact⟨_,S2,by unfold E8;rw[e1];simp only[Qbq];rw[e2];simp only[Qbq];rw[Qhq hc,h1,h2];simp only[Qbq];rw[Qhq h3],q⟩
def Gf{f g h:eJ}{Q:(List D×(aK->Prop))->aK->Prop}(w:E f Γ S fun p S1=>E g Γ S1 fun r S2=>E h Γ S2 fun u S3=>((p.2.isL=false/\r.2.isL=false/\u.2.isL=false)/\p.2.stays S2 p.1/\p.2.stays S3 p.1/\r.2.stays S3 r.1/\p.1.length<=r.1.length/\p.1.length<=u.1.length)/\Q (kO p.1 r.1 u.1,fun S=>p.2.stays S p.1/\r.2.stays S r.1/\u.2.stays S u.1) S3):E (B3 f g h) Γ S Q:=by
 obtain⟨p,S1,e1,r,S2,e2,u,S3,e3,hc,q⟩:=w
 exact⟨_,S3,by unfold B3;rw[e1];simp only[Qbq];rw[e2];simp only[Qbq];rw[e3];simp only[Qbq];rw[Qhq hc],q⟩
end
def m3(n:Nat)(d:D):Prop:=∃p,jM d=some p/\p.depth<=n
theorem wO{n:Nat}:∀{ds:List D},(∀d∈ds,m3 n d)->∃ps,gd ds=some ps/\PyData.depthAll ps<=n
 | [],_=>⟨[],rfl,Nat.zero_le _⟩
 | d::ds,h=>by
   obtain⟨p,e1,h1⟩:=h d (QBq ..)
   obtain⟨ps,e2,h2⟩:=wO (ds:=ds) fun x hx=>h x (Qpq _ hx)
   exact⟨p::ps,by simp only[gd];rw[e1,e2];rfl,by simp only[PyData.depthAll];omega⟩
def wV{n:Nat}{ds:List D}(h:∀d∈ds,m3 n d):m3 (n+1) (.tup ds):=by
 obtain⟨ps,e,h1⟩:=wO h
 exact⟨.tuple ps,by simp only[jM];rw[e];rfl,by simp only[PyData.depth];omega⟩
def As{α:Type}{n:Nat}{l:List α}{f:α->D}(h:∀a,m3 n (f a)):m3 (n+1) (.tup (l.map f)):=wV fun d hd=>by
 obtain⟨a,_,rfl⟩:=Qkq.mp hd
 exact h a
def GI{m n:Nat}{d:D}(h:m3 m d)(l:m<=n):m3 n d:=by
 obtain⟨p,e,h1⟩:=h
 exact⟨p,e,QAq h1 l⟩
def A_{i:Int}{n:Nat}:m3 n (.int i):=⟨.int i,rfl,by simp[PyData.depth]⟩
def Iu{x:PyData}(l:x.canLay0=true):∀{vs:List PyData},x∈vs->vs.any (PyData.eqv · x)=true:=fun h=>List.any_eq_true.mpr ⟨x,h,SeqAt.eqv_refl x l⟩
theorem Cc:∀{ds:List D} {ps:List PyData} {d:D} {p:PyData},gd ds=some ps->d∈ds->jM d=some p->p∈ps
 | [],_,_,_,_,h,_=>by cases h
 | a::ds,ps,d,p,e,h,hd=>by
   simp only[gd] at e
   obtain⟨x,e1,e⟩:=ar e
   obtain⟨xs,e2,rfl⟩:=oQm.mp e
   rcases Qsq.mp h with rfl|h
   · rw[hd] at e1
     cases e1
     exact QBq ..
   · exact Qpq _ (Cc e2 h hd)
def Ie{n:Nat}{ds:List D}{d:D}(h:∀x∈ds,m3 n x)(hd:d∈ds):∃v vs,jM d=some v/\gd ds=some vs/\v.depth<=n/\vs.any (PyData.eqv · v)=true:=by
 obtain⟨p,e1,h1⟩:=h d hd
 obtain⟨ps,e2,_⟩:=wO h
 exact⟨p,ps,e1,e2,h1,Iu (jH e1) (Cc e2 hd e1)⟩
end DL
namespace W28
open PySem PySem.Spec L2 DL
def Cm(l:List Int):m3 1 (bL l):=As fun _=>A_
def GU(p:Int×Int):m3 1 (pairD p):=wV fun d hd=>by
 simp only[Qsq,QXq,or_false] at hd
 rcases hd with rfl|rfl <;>exact A_
def rZ(l:List (Int×Int)):m3 2 (cT l):=As GU
def JU(f:dk):m3 1 f.d:=wV fun d hd=>by
 simp only[Qsq,QXq,or_false] at hd
 rcases hd with rfl|rfl|rfl|rfl|rfl <;>exact A_
def LH(h:List Int×List dk):m3 3 (yf h):=wV fun d hd=>by
 simp only[Qsq,QXq,or_false] at hd
 rcases hd with rfl|rfl
 ·exact GI (Cm _) (by omega)
 ·exact As JU
section
variable{S:aK}{Q:Res->aK->Prop}{h:Int}
def DN(l:List Int):D.tup ((l.map D.int).drop 1)=bL (l.drop 1):=by unfold bL;rw[List.map_drop]
def qd{a b:List Int}(hr:vP h a b)(la:a.length<=900)(q:Q (.d (.bl true)) S):Fn fj [bL a,bL b,.int h] S Q:=by
 refine cp ?_
 unfold oh
 have sl:∀{Γ:dh} {S:aK} {Q:D->aK->Prop},Γ[0]?=some (some (bL a))->Q (bL (a.drop 1)) S->E (p7 (aq 0) (pV (cF (.int 1))) qF) Γ S Q:=fun hg q=>by
  refine jF (cG hg (da (DT ⟨1,rfl,c9 ⟨_,rfl,?_⟩⟩)))
  rw[KA,DN]
  exact q
 have ad:∀{S:aK} {Q:D->Prop} {l:List Int},l.length<=900->Q (bL (l++ [h]))->Op (cm S (bL l) (.tup [.int h])) Q:=fun hl q=>by
  refine dv (by rw[lQm];exact QAq (show _<=901 by simp;omega) (by decide)) ?_
  unfold bL at q
  rw[Qzq] at q
  exact q
 refine cy (zK (HU (GB ?_)))
 refine jo (cG rfl (jo (sl rfl (jo (nH (cG rfl (yu (jo (cG rfl (tJ ⟨by show 1<=_;decide,ad la ?_⟩))))))))))
 refine jo (nH (sl rfl (yu (jo (cG rfl (tJ ⟨by show 1<=_;decide,ad (by rw[List.length_drop];omega) ?_⟩))))))
 refine tJ ⟨by show 4<=_;decide,?_⟩
 refine qW (H_ (cG rfl (i_ (cG rfl (cv aX ?_)))))
 obtain⟨v,vs,e1,e2,h1,h2⟩:=Ie (n:=1) (ds:= [bL a,bL (a.drop 1),bL (a++ [h]),bL (a.drop 1++ [h])]) (d:=bL b) (fun x hx=>by
  simp only[Qsq,QXq,or_false] at hx
  rcases hx with rfl|rfl|rfl|rfl <;>exact Cm _) (by
  rcases hr with rfl|rfl|rfl|rfl <;>simp)
 refine⟨v,vs,e1,e2,by omega,?_⟩
 rw[h2]
 exact Bu rA.refl.app (fun k z=>(nomatch z)) rfl q
theorem lW:∀l:List (Int×Int),gd (l.map pairD)=some (l.map fun p=>.tuple [.int p.1,.int p.2])
 | []=>rfl
 | a::l=>by
   simp only[QDq,gd]
   rw[lW l]
   rfl
theorem vw:∀l:List (Int×Int),PyData.depthAll (l.map fun p=>.tuple [.int p.1,.int p.2])<=1
 | []=>by simp[PyData.depthAll]
 | a::l=>by
   have:=vw l
   simp only[QDq,PyData.depthAll,PyData.depth]
   omega
def C5:∀l:List (Int×Int),PyData.canLayAll0 (l.map fun p=>.tuple [.int p.1,.int p.2])=true:=fun l=>iH (lW l)
def Aq{a b:List (Int×Int)}(hr:kz h a b)(la:a.length<=900)(lb:b.length<=900)(q:Q (.d (.bl true)) S):Fn gS [cT a,cT b,.int h] S Q:=by
 refine cp ?_
 unfold mO
 have all:∀x∈[cT a,cT (a.drop 1),D.tup []],m3 2 x:=fun x hx=>by
  simp only[Qsq,QXq,or_false] at hx
  rcases hx with rfl|rfl|rfl
  ·exact rZ _
  ·exact rZ _
  ·exact⟨.tuple [],rfl,by simp[PyData.depth,PyData.depthAll]⟩
 obtain⟨v,e1,h1⟩:=rZ b
 obtain⟨vs,e2,_⟩:=wO all
 refine cy (f_ (gf (H_ (cG rfl (i_ (yu (jo (cG rfl (jo (jF (cG rfl (da (DT ⟨1,rfl,c9 ⟨_,rfl,?_⟩⟩)))))))))))))
 rw[KA,←List.map_drop]
 refine jo (yu (tJ ⟨by decide,tJ ⟨by show 3<=_;decide,eK ?_⟩⟩))
 refine⟨v,vs,e1,e2,by omega,?_⟩
 refine bf (fun _=> ?_) (fun c=>cN ?_)
 ·symm
  exact dg (fun k z=>(nomatch z)) rfl q
 ·have hr':b.filter (fun p=>decide (p.2≠h))=a/\b.length=a.length+1:=by
   have no:cT b∈[cT a,cT (a.drop 1),D.tup []]->False:=fun z=>by
    obtain⟨v',vs',k1,k2,_,k3⟩:=Ie all z
    rw[e1] at k1
    rw[e2] at k2
    cases k1
    cases k2
    have c:vs.any (PyData.eqv · v)=false:=c
    rw[k3] at c
    cases c
   rcases hr with rfl|rfl|rfl|hr
   ·exact(no (by simp)).elim
   ·exact(no (by simp)).elim
   ·exact(no (by simp[cT])).elim
   ·exact hr
  refine qW (An (J6 (Aw ?_)))
  refine ko (α:=Int×Int) (fun Γ'=>∃o,Γ'= [o,some (.int h)]) pairD pairD (fun p=>decide (p.2≠h)) ⟨none,rfl⟩ ?_
  refine rK (i_ (cG rfl (eK (ds:=b.map pairD) ?_)))
  refine⟨b,rfl,trivial,by omega,fun p hp Γ' hΓ=> ?_,?_⟩
  ·obtain⟨o,rfl⟩:=hΓ
   apply bB ⟨rfl,⟨_,rfl⟩,?_⟩
   apply ay (d:=.int p.2) rfl ?_
   apply AF ?_
   refine⟨rfl,by by_cases c:p.2=h <;>simp[c],fun _=> ?_⟩
   symm
   exact⟨rfl,rfl⟩
  rw[hr'.1]
  refine Aw ?_
  refine⟨_,S,rfl,?_⟩
  refine⟨⟨rfl,rfl,trivial⟩,_,_,lW a,lW a,?_,?_⟩
  ·have:=vw a
   simp only[PyData.depth]
   omega
  rw[SeqAt.eqvAll_refl _ (C5 a)]
  refine⟨true,rfl,?_⟩
  rw[Qhq rfl]
  refine nH (Ij (i_ (cG rfl (eK (ds:=b.map pairD) (nH (Ij (i_ (cG rfl (eK (ds:=a.map pairD) (DT (LM (AF ?_))))))))))))
  rw[lQm,lQm,hr'.2]
  have e:decide (((a.length+1:Nat):Int)=(a.length:Int)+1)=true:=Qeq (by omega)
  show Op (settle S (.bl (decide _)) S) _
  rw[e]
  exact dg (fun k z=>(nomatch z)) rfl q
end
def tZ(m:Str):Prop:=m="at once" \/m="when free"
def F8{m:Str}(h:tZ m):jM (.str m)=some (.str m):=by
 have:PyData.strOk m=true:=by rcases h with rfl|rfl <;>decide +kernel
 simp only[jM]
 rw[Qhq this]
def tV(m:Str)(r:fm):List Int:=((r.ag++r.row++ [-1]).headD 0)::if m="at once" then(r.aa.filter fun l=> !l.isEmpty).map fun l=>(l.headD (0,0)).2 else []
section
variable{S:aK}{Q:Res->aK->Prop}{h:Int}{m:Str}{r r':fm}
def EZ(hm:tZ m)(b1:r.row.length<=200)(b2:r.ag.length<=200)(b3:r.aa.length<=6)(q:Q (.l ((tV m r).map D.int)) S):Fn gY [.str m,r.d] S Q:=by
 refine cp ?_
 unfold qL
 symm
 apply gF rfl (aC (bB (aC (bB (aC (bB (aC (bB (aC (bB (bZ ?_)))))))))))
 refine dv (i:=r.ag.map D.int) (j:=r.row.map D.int) (by rw[lQm,lQm];exact QAq (show _<=400 by omega) (by decide)) ?_
 symm
 apply qA ?_
 apply⟨1,rfl,?_⟩
 refine⟨by show 1<=_;decide,?_⟩
 refine dv (by rw[lQa,lQm,lQm];exact QAq (show _<=401 by show _+1<=_;omega) (by decide)) ?_
 symm
 have e0:r.ag.map D.int++r.row.map D.int++ [.int (-1)]=(r.ag++r.row++ [-1]).map D.int:=by simp
 rw[e0]
 have e1:kL ((r.ag++r.row++ [-1]).map D.int) (0:Int)=some (.int ((r.ag++r.row++ [-1]).headD 0)):=by
  cases hc:r.ag++r.row++ [-1] with
  |nil=>simp at hc
  |cons a l=>exact bp (j:=0) rfl
 apply ay e1 ?_
 refine⟨by show 1<=_;decide,?_⟩
 generalize hX:(r.ag++r.row++ [-1]).headD 0=X
 refine cy (f_ (gf (nH (cG rfl (DT (Cb (F8 hm) (F8 (.inl rfl)) (by simp[PyData.depth]) ?_))))))
 have e2:PyData.eqv (.str m) (.str "at once")=decide (m="at once"):=by simp[PyData.eqv,BEq.beq]
 rw[e2]
 show if decide (m="at once")=true then _ else _
 by_cases c:m="at once"
 ·rw[Qeq c,Qhq rfl]
  refine jn (CB (cG rfl ⟨_,_,rfl,aX,Aw ?_⟩))
  refine ko (α:=List (Int×Int)) (fun Γ'=>∃o,Γ'= [o]) cT (fun l=>.int (l.headD (0,0)).2) (fun l=> !l.isEmpty) ⟨none,rfl⟩ ?_
  refine rK (i_ (cG rfl (eK (ds:=r.aa.map cT) ?_)))
  refine⟨r.aa,rfl,trivial,by omega,fun l hl Γ' hΓ=> ?_,?_⟩
  ·obtain⟨o,rfl⟩:=hΓ
   refine bB ⟨rfl,⟨_,rfl⟩,?_⟩
   obtain⟨p,hp,hd⟩:=rZ l
   refine gf (nH (cG rfl (yu (tJ ⟨by decide,Cb hp (r:=.tuple []) rfl (by omega) ?_⟩))))
   refine⟨rfl,?_,fun hc=> ?_⟩
   ·have:p=.tuple (l.map fun p=>.tuple [.int p.1,.int p.2]):=by
     unfold cT at hp
     simp only[jM] at hp
     rw[lW] at hp
     cases hp
     rfl
    rw[this]
    cases l with
    |nil=>rfl
    |cons a l=>simp[PyData.eqv,PyData.eqvAll]
   ·cases l with
    |nil=>cases hc
    | cons a l=>
      refine nH (nH (cG rfl (DT (ay (d:=pairD a) (bp (j:=0) rfl) (DT (ay (d:=.int a.2) rfl ⟨rfl,rfl⟩))))))
  ·have lf:=List.length_filter_le (fun l:List (Int×Int)=> !l.isEmpty) r.aa
   refine⟨_,aX,⟨rfl,by simp only[lQm,Qnq,QGq];exact QAq (show _<=100 by omega) (by decide)⟩,?_⟩
   symm
   refine Bd (rA.refl.app.put (Qmq _)) (Qmq _) (Qyq (by simp)) ?_ ?_
   ·show cc 0 ([D.int X]++_)=true
    simp only[List.cons_append,List.nil_append,cc,cB,Bool.true_and]
    exact bg fun _ _=>rfl
   ·have: [D.int X]++((r.aa.filter fun l=> !l.isEmpty).map fun l=>D.int (l.headD (0,0)).2)=(tV m r).map D.int:=by
     unfold tV
     rw[hX,Qhq c,QDq,QPq]
     rfl
    rw[this]
    exact q
 ·rw[Qdq c,Quq (by decide)]
  apply cN ?_
  refine Bd rA.refl.app (Qmq _) aX rfl ?_
  have: [D.int X]=(tV m r).map D.int:=by
   unfold tV
   rw[hX,Quq c]
   rfl
  rw[this]
  exact q
theorem BL{α:Type}(enc:α->D):∀{xs ys:List α},we (xs.map enc) (ys.map enc)=(xs.zip ys).map fun p=>.tup [enc p.1,enc p.2]
 | [],_=>by simp[we]
 |_::_,[]=>by simp[we]
 | x::xs,y::ys=>by
   exact congrArg (D.tup [enc x,enc y]::·) (BL enc (xs:=xs) (ys:=ys))
theorem xw{α:Type}:∀{xs ys:List α} {p:α×α},p∈xs.zip ys->∃i:Nat,xs[i]?=some p.1/\ys[i]?=some p.2
 | [],_,_,h=>by cases h
 |_::_,[],_,h=>by cases h
 | x::xs,y::ys,p,h=>by
   rcases Qsq.mp h with rfl|h
   · exact⟨0,rfl,rfl⟩
   · obtain⟨i,h1,h2⟩:=xw h
     exact⟨i+1,by simpa using h1,by simpa using h2⟩
def Cs{α:Type}{enc:α->D}{xs ys:List α}{Γ:dh}{S:aK}{f g:eJ}{elt:bN}{k:Nat}{Q:D->aK->Prop}(hk:Γ[k]?=some (some (.int h)))(hf:E f Γ S fun p S1=>p=(xs.map enc,.tu)/\S1=S)(hg:E g Γ S fun p S1=>p=(ys.map enc,.tu)/\S1=S)(l1:xs.length=ys.length)(l2:xs.length<=100)
  (he:∀x y,(x,y)∈xs.zip ys->E elt [some (enc x),some (enc y),some (.int h)] S fun d S1=>d=.bl true/\S1=S) (q:Q (.bl true) S):
  E (xC (iM (cx [none,none,some k] (Bi f g) (mr (nG 2 (aS (cC 0) (aS (cC 1) fw)))) cW elt))) Γ S Q:=by
 refine HS (Aw ?_)
 refine ko (α:=α×α) (fun Γ'=>∃a b,Γ'= [a,b,some (.int h)]) (fun p=>.tup [enc p.1,enc p.2]) (fun _=>.bl true) (fun _=>true) ⟨none,none,by simp[mD,hk]⟩ ?_
 refine Fj (hf.mono fun p S1 hp=> ?_)
 obtain⟨rfl,rfl⟩:=hp
 refine hg.mono fun p S1 hp=> ?_
 obtain⟨rfl,rfl⟩:=hp
 refine⟨⟨trivial,by simp[l1]⟩,xs.zip ys,BL enc,⟨trivial,trivial⟩,by rw[List.length_zip];omega,fun p hp Γ' hΓ=> ?_,?_⟩
 ·obtain⟨a,b,rfl⟩:=hΓ
  refine gF rfl (aC (bB (aC (bB (bZ ⟨rfl,⟨_,_,rfl⟩,uq ⟨rfl,rfl,fun _=> ?_⟩⟩)))))
  exact he p.1 p.2 hp
 ·refine⟨rfl,_,by rw[List.map_const'];exact uk _,?_⟩
  have:(List.replicate ((xs.zip ys).filter fun _=>true).length true).all id=true:=by simp
  rw[this]
  exact q
def uQ(hr:rJ m h r r')(hm:tZ m)(b1:r.row.length<=200)(b2:r.ag.length<=200)(b3:r.aa.length<=6)(b4:∀l∈r.aa,l.length<=200)(b5:∀l∈r'.aa,l.length<=200)(b6:r'.row.length<=200)(b7:r'.ag.length<=200)(h0:0<=h)(q:Q (.d (.bl true)) S):Fn eZ [.str m,r.d,r'.d,.int h] S Q:=by
 refine cp ?_
 unfold jK
 symm
 apply ay (d:=bL r.row) rfl ?_
 apply ay (d:=bL r'.row) rfl ?_
 refine qd hr.rw (by omega) ?_
 refine lM ?_
 apply bf (fun c=>by cases c) (fun _=> ?_)
 apply ay (d:=bL r.ag) rfl ?_
 apply ay (d:=bL r'.ag) rfl ?_
 refine qd hr.lt (by omega) ?_
 refine lM ?_
 refine bf (fun c=>by cases c) (fun _=>cN ?_)
 refine cy (f_ (FY (DV ?_)))
 refine Cs (enc:=cT) (xs:=r.aa) (ys:=r'.aa) (h:=h) rfl ?_ ?_ hr.lb (by omega) (fun x y hxy=> ?_) ?_
 ·symm
  apply ay (d:=.tup (r.aa.map cT)) rfl ?_
  exact⟨rfl,rfl⟩
 ·symm
  apply ay (d:=.tup (r'.aa.map cT)) rfl ?_
  exact⟨rfl,rfl⟩
 ·obtain⟨i,h1,h2⟩:=xw hxy
  have k1:=b4 x (mQg h1)
  have k2:=b5 y (mQg h2)
  symm
  exact Aq (hr.bl i x y h1 h2) (by omega) (by omega) ⟨rfl,rfl⟩
 refine lM ?_
 apply bf (fun c=>by cases c) (fun _=>cN ?_)
 apply ay (d:=.int r.within) rfl ?_
 refine jV ?_
 have rest:T (aL (fE (fV (aN (aE (e_ false) (aE aW (aq 1) (cF (.int 1))) (aq 3))) (fV (aN (aE (e_ true) (aE aW (aq 2) (cF (.int 1))) (aq 3))) (aN (Br true (aE aW (aq 2) (cF (.int 1))) (iM (dY gY (ao (aq 0) (ao (aq 1) aw)))))))) (cP (cF (.bl false))) g7)
   (aL (bt 4 (cM (cx [none,some 2] (jq (bu (aE cm (aE aW (aq 1) (cF (.int 2))) (aE aW (aq 1) (cF (.int 3)))))) (cC 0) (aN (Br true (aq 0) (bu (aE cm (aE aW (aq 1) (cF (.int 2))) (aE aW (aq 1) (cF (.int 3))))))) (aq 0))))
   (cP (xC (iM (cx [none,some 2] (jq (bu (aq 4))) (cC 0) cW (aE (e_ false) (aE aW (aq 1) (cF (.int 1))) (aq 0)))))))) [some (.str m),some r.d,some r'.d,some (.int h),none] S (fun o=>match o with
   |.nx _ S'=>Op (settle S .non S') fun p=>Q p.1 p.2|.rt d S'=>Op (settle S d S') fun p=>Q p.1 p.2|.rl l S'=>Op (dJ S l S') fun p=>Q p.1 p.2|_=>False):=by
  have last:T (aL (bt 4 (cM (cx [none,some 2] (jq (bu (aE cm (aE aW (aq 1) (cF (.int 2))) (aE aW (aq 1) (cF (.int 3)))))) (cC 0) (aN (Br true (aq 0) (bu (aE cm (aE aW (aq 1) (cF (.int 2))) (aE aW (aq 1) (cF (.int 3))))))) (aq 0))))
   (cP (xC (iM (cx [none,some 2] (jq (bu (aq 4))) (cC 0) cW (aE (e_ false) (aE aW (aq 1) (cF (.int 1))) (aq 0))))))) [some (.str m),some r.d,some r'.d,some (.int h),none] S (fun o=>match o with
   |.nx _ S'=>Op (settle S .non S') fun p=>Q p.1 p.2|.rt d S'=>Op (settle S d S') fun p=>Q p.1 p.2|.rl l S'=>Op (dJ S l S') fun p=>Q p.1 p.2|_=>False):=by
   refine cy (zK (HU ?_))
   apply ko (α:=Int) (fun Γ'=>∃o,Γ'= [o,some r'.d]) D.int D.int (fun x=> !decide (x∈r'.row++r'.ag)) ⟨none,rfl⟩ ?_
   apply ay (d:=bL r.row) rfl ?_
   refine ay (d:=bL r.ag) rfl ?_
   refine dv (i:=r.row.map D.int) (j:=r.ag.map D.int) (by rw[lQm,lQm];exact QAq (show _<=400 by omega) (by decide)) ?_
   symm
   refine⟨r.row++r.ag,by simp,trivial,by rw[lQa];omega,fun x hx Γ' hΓ=> ?_,?_⟩
   ·obtain⟨o,rfl⟩:=hΓ
    refine bB ⟨rfl,⟨_,rfl⟩,?_⟩
    apply gf (DA ?_)
    apply ay (d:=bL r'.row) rfl ?_
    refine ay (d:=bL r'.ag) rfl ?_
    refine dv (i:=r'.row.map D.int) (j:=r'.ag.map D.int) (by rw[lQm,lQm];exact QAq (show _<=400 by omega) (by decide)) ?_
    symm
    refine⟨_,_,rfl,by rw[←Qzq];exact gM _,?_⟩
    rw[oD]
    apply⟨rfl,rfl,fun _=> ?_⟩
    exact⟨rfl,rfl⟩
   generalize hg:(r.row++r.ag).filter (fun x=> !decide (x∈r'.row++r'.ag))=gone
   have gl:gone.length<=400:=by rw[←hg];exact QAq (List.length_filter_le ..) (by rw[lQa];omega)
   have gw:∀x∈gone,r'.within=x:=fun x hx=>by
    rw[←hg] at hx
    obtain⟨h1,h2⟩:=List.mem_filter.mp hx
    exact hr.gn x h1 (by simpa using h2)
   refine qW (HS (Aw ?_))
   refine ko (α:=Int) (fun Γ'=>∃o,Γ'= [o,some r'.d]) D.int (fun _=>.bl true) (fun _=>true) ⟨none,rfl⟩ ?_
   refine rK (i_ (cG rfl (cv aX ?_)))
   refine⟨gone,rfl,aX,by omega,fun x hx Γ' hΓ=> ?_,?_⟩
   ·obtain⟨o,rfl⟩:=hΓ
    apply bB ⟨rfl,⟨_,rfl⟩,uq ⟨rfl,rfl,fun _=> ?_⟩⟩
    apply ay (d:=.int r'.within) rfl ?_
    refine eU ?_
    exact⟨congrArg D.bl (Qeq (gw x hx)),rfl⟩
   ·refine⟨rfl,_,by rw[List.map_const'];exact uk _,?_⟩
    have:(List.replicate (gone.filter fun _=>true).length true).all id=true:=by simp
    rw[this]
    exact Bu rA.refl.app (fun k z=>(nomatch z)) rfl q
  symm
  apply ay (d:=.int r.within) rfl ?_
  refine eU ?_
  refine bf (fun c1=> ?_) (fun _=> ?_)
  ·have c1:r.within=h:=of_decide_eq_true c1
   symm
   apply ay (d:=.int r'.within) rfl ?_
   refine jV ?_
   refine bf (fun c2=> ?_) (fun _=> ?_)
   ·have c2:r'.within≠h:=by simpa using c2
    apply gf (DA ?_)
    apply ay (d:=.int r'.within) rfl ?_
    refine EZ hm b1 b2 b3 ?_
    refine⟨_,_,rfl,gM _,?_⟩
    rw[oD]
    have hin:r'.within∈tV m r:=by
     unfold tV
     rcases hr.w2 c1 c2 with z|⟨z,p,l,hp,e⟩
     ·refine Qsq.mpr (.inl ?_)
      cases hc:r.ag++r.row++ [-1] with
      |nil=>simp at hc
      |cons a l=>rw[hc] at z;cases z;rfl
     ·rw[Qhq z]
      refine Qsq.mpr (.inr (Qkq.mpr ⟨p::l,List.mem_filter.mpr ⟨hp,rfl⟩,e.symm⟩))
    rw[Qeq hin]
    refine bf (fun c=>by cases c) (fun _=>cN last)
   ·refine bf (fun c=>by cases c) (fun _=>cN last)
  ·refine bf (fun c=>by cases c) (fun _=>cN last)
 refine bf (fun c1=> ?_) (fun _=> ?_)
 ·have c1:r.within≠h:=by simpa using c1
  symm
  apply ay (d:=.int r'.within) rfl ?_
  refine ay (d:=.int r.within) rfl ?_
  refine jV ?_
  refine bf (fun c2=> ?_) (fun _=> ?_)
  ·have c2:r'.within≠r.within:=by simpa using c2
   obtain⟨k1,k2⟩:=hr.w1 c1 c2
   symm
   apply ay (d:=.int r.within) rfl ?_
   refine bf (fun c3=> ?_) (fun _=> ?_)
   ·have c3:(0:Int)<=r.within:=of_decide_eq_true c3
    omega
   symm
   apply ay (d:=.int r'.within) rfl ?_
   refine jV ?_
   rw[Qeq k2]
   refine bf (fun c=>by cases c) (fun _=>cN rest)
  ·refine bf (fun c=>by cases c) (fun _=>cN rest)
 ·refine bf (fun c=>by cases c) (fun _=>cN rest)
end
section
variable{w:eM}{n h:Nat}{s s':bR}{S:aK}{Q:Res->aK->Prop}
def Ez(o:kK w)(x:eo w n s)(y:eo w (n+1) s')(rl:Rl w s h s')(hn:n<=100)(q:Q (.d (.bl true)) S):Fn ja [w.d,s.d,s'.d,.int h] S Q:=by
 have lr:=x.lr
 have lr':=y.lr
 have lp:=x.lp
 have lp':=y.lp
 have lh:=x.lh
 have lh':=y.lh
 have b2:=o.l2
 have b4:=o.l4
 refine cp ?_
 unfold qR
 apply cy (kN (Gf ?_))
 apply ay (d:=.tup (w.rooms.map Rm.d)) rfl ?_
 apply ay (d:=.tup (s.rooms.map fm.d)) rfl ?_
 apply ay (d:=.tup (s'.rooms.map fm.d)) rfl ?_
 refine⟨⟨⟨rfl,rfl,rfl⟩,trivial,trivial,trivial,by simp;omega,by simp;omega⟩,?_⟩
 refine⟨fun _ Γ' S'=>(∃a b c d,Γ'= [some w.d,some s.d,some s'.d,some (.int h),a,b,c,d])/\S'=S,⟨⟨_,_,_,_,rfl⟩,rfl⟩,fun _ _ _ _=>⟨trivial,trivial,trivial⟩,?_,?_⟩
 ·rintro j d Γ' S' hd ⟨⟨a,b,c,e,rfl⟩,rfl⟩
  obtain⟨d1,d2,d3,h1,h2,h3,rfl⟩:=pG hd
  have h1:(w.rooms.map Rm.d)[j]?=some d1:=h1
  have h2:(s.rooms.map fm.d)[j]?=some d2:=h2
  have h3:(s'.rooms.map fm.d)[j]?=some d3:=h3
  rw[gQm] at h1 h2 h3
  obtain⟨rm,h1',rfl⟩:=oQm.mp h1
  obtain⟨rs,h2',rfl⟩:=oQm.mp h2
  obtain⟨rs',h3',rfl⟩:=oQm.mp h3
  clear h1 h2 h3
  obtain⟨rs2,k1,k2⟩:=rl.rm j rs rm h2' h1'
  rw[h3'] at k1
  cases k1
  have ri:=x.rm j rm rs h1' h2'
  have ri':=y.rm j rm rs' h1' h3'
  have orm:=o.rm rm (mQg h1')
  have z1:=ri.br
  have z2:=ri.bl
  have z3:=ri.lb
  have z4:=orm.l2
  have z5:=ri'.br
  have z6:=ri'.bl
  apply gF rfl (aC (bB (aC (bB (aC (bB (bZ ?_)))))))
  apply ay (d:=.str rm.ah) rfl ?_
  refine uQ k2 orm.mn (by omega) (by omega) (by omega) (fun l hl=>by have:=ri.bb l hl;omega) (fun l hl=>by have:=ri'.bb l hl;omega) (by omega) (by omega) (by omega) ?_
  refine lM ?_
  refine bf (fun c=>by cases c) (fun _=>cN ?_)
  exact⟨⟨_,_,_,_,rfl⟩,rfl⟩
 rintro Γ' S' ⟨⟨a,b,c,e,rfl⟩,hS'⟩
 subst S'
 refine cy (f_ (FY (DV ?_)))
 refine Cs (enc:=yp) (xs:=s.passes) (ys:=s'.passes) (h:=h) rfl ?_ ?_ (by omega) (by omega) (fun p p' hpp=> ?_) ?_
 ·symm
  apply ay (d:=.tup (s.passes.map yp)) rfl ?_
  exact⟨rfl,rfl⟩
 ·symm
  apply ay (d:=.tup (s'.passes.map yp)) rfl ?_
  exact⟨rfl,rfl⟩
 ·obtain⟨i,h1,h2⟩:=xw hpp
  have h1:s.passes[i]?=some p:=h1
  have h2:s'.passes[i]?=some p':=h2
  obtain⟨p2,k1,k2⟩:=rl.ps i p h1
  rw[h2] at k1
  cases k1
  have:=x.ps p (mQg h1)
  symm
  apply ay (d:=bL p.2) rfl ?_
  apply ay (d:=bL p'.2) rfl ?_
  exact qd k2 (by omega) ⟨rfl,rfl⟩
 refine lM ?_
 refine bf (fun c=>by cases c) (fun _=>cN ?_)
 apply cy (kN (Fx ?_))
 apply ay (d:=.tup (w.af.map mJ)) rfl ?_
 refine⟨(w.af.length:Nat),by rw[lQm],by omega,?_⟩
 refine⟨fun _ Γ' S'=>(∃a b c d,Γ'= [some w.d,some s.d,some s'.d,some (.int h),a,b,c,d])/\S'=S,⟨⟨_,_,_,_,rfl⟩,rfl⟩,fun _ _ _ _=>trivial,?_,?_⟩
 ·rintro j d Γ' S' hd ⟨⟨a,b,c,e,rfl⟩,rfl⟩
  obtain⟨rfl,hj⟩:=sQ hd
  apply bB ?_
  refine AF ?_
  refine bf (fun c=> ?_) (fun _=> ?_)
  ·have c:j≠h:=fun z=>by rw[z] at c;simp at c
   have e1:=rl.hd j c
   obtain⟨p,hp⟩:∃p,s.af[j]?=some p:=⟨_,gQe (by omega)⟩
   rw[hp] at e1
   symm
   apply ay (d:=.tup (s.af.map yf)) rfl ?_
   refine ay (d:=yf p) (bp (by rw[gQm,hp];rfl)) ?_
   symm
   apply ay (d:=.tup (s'.af.map yf)) rfl ?_
   refine ay (d:=yf p) (bp (by rw[gQm,e1];rfl)) ?_
   obtain⟨v,k1,k2⟩:=LH p
   refine Cb k1 k1 (by omega) ?_
   rw[SeqAt.eqv_refl _ (jH k1)]
   refine bf (fun c=>by cases c) (fun _=>cN ?_)
   exact⟨⟨_,_,_,_,rfl⟩,rfl⟩
  ·refine bf (fun c=>by cases c) (fun _=>cN ?_)
   exact⟨⟨_,_,_,_,rfl⟩,rfl⟩
 rintro Γ' S' ⟨⟨a,b,c,e,rfl⟩,rfl⟩
 symm
 exact dg (fun k z=>(nomatch z)) rfl q
end
def F1:∀ns:List Int,ns.length<=63->∃S',HG [.ref 0] [.frz (ns.map D.int)]=some (.d (.bl true),S'):=by
 intro ns hns
 suffices h:Fn HG [.ref 0] [.frz (ns.map D.int)] fun r _=>r=.d (.bl true) by
  obtain⟨r,S',e,rfl⟩:=h
  exact⟨S',e⟩
 refine cp ?_
 unfold LP
 refine cy (kN ?_)
 apply Fx ?_
 apply DX rfl ?_
 apply FH ?_
 refine Ih ?_
 obtain⟨m,hm,hm4⟩:∃m:Nat,(if (if (5:Int)<((ns.map D.int).length:Nat) then(5:Int) else((ns.map D.int).length:Nat))>(1:Int) then(if (5:Int)<((ns.map D.int).length:Nat) then(5:Int) else((ns.map D.int).length:Nat)) else 1)=(m:Int)/\m<=5:=by
  refine⟨(if (if (5:Int)<((ns.map D.int).length:Nat) then(5:Int) else((ns.map D.int).length:Nat))>(1:Int) then(if (5:Int)<((ns.map D.int).length:Nat) then(5:Int) else((ns.map D.int).length:Nat)) else 1).toNat,?_,?_⟩ <;>(repeat' split) <;>omega
 refine⟨m,congrArg D.int hm,by omega,?_⟩
 refine⟨fun n Γ' S'=>(∃a1 a2 a3 a4 a5 a6 a7 a8,Γ'= [some (.ref 0),a1,a2,a3,a4,a5,a6,a7,a8])/\S'[0]?=some (.frz (ns.map D.int)),⟨⟨_,_,_,_,_,_,_,_,rfl⟩,rfl⟩,fun _ _ _ _=>trivial,?_,?_⟩
 ·rintro n d Γ' S hd ⟨⟨a1,a2,a3,a4,a5,a6,a7,a8,rfl⟩,hS⟩
  obtain⟨rfl,_⟩:=sQ hd
  apply bB ?_
  apply IH hS fun pa pb=> ?_
  have pot0:Ex S.length (S++ [oV pa pb 0]) (S++ [oV pa pb 0]):=Ex.refl aX
  have hS0:(S++ [oV pa pb 0])[0]?=some (.frz (ns.map D.int)):=bh hS
  have h0:0≠S.length:=by
   have:=(gQs.mp hS).1
   omega
  show Fn eE [.ref S.length] (S++ [oV pa pb 0]) _
  generalize S.length=kp at pot0 h0⊢
  generalize S++ [oV pa pb 0]=S1 at pot0 hS0⊢
  apply wL pot0 fun w S2 ok x2 _ _=> ?_
  apply F6 ok ?_
  apply qA ?_
  refine⟨1,rfl,?_⟩
  apply kN (Fx ?_)
  refine⟨(50:Nat),rfl,by decide,?_⟩
  refine⟨fun j Γ' S'=>(∃(s:bR) (last:Int) (b6 b7 b8:Option D),Γ'= [some (.ref 0),some (.int n),some (.ref kp),some w.d,some s.d,some (.int last),b6,b7,b8]/\eo w (1+j) s)/\Ex kp S1 S',?_,fun _ _ _ _=>trivial,?_,?_⟩
  ·exact⟨⟨eL w,-1,_,_,_,rfl,DJ ok⟩,x2⟩
  ·rintro j d Γ' S' hd ⟨⟨s,last,b6,b7,b8,rfl,hinv⟩,hex⟩
   obtain⟨rfl,hj⟩:=sQ (j:=50) hd
   refine bB ?_
   have hm:=hinv.mays ok (by omega)
   have hkl:kp<S'.length:=hex.lt
   symm
   apply hm _ _ ?_
   apply cv aX ?_
   apply⟨⟨rfl,aX⟩,?_⟩
   by_cases hm0:sP w s= []
   ·rw[hm0]
    refine bf (fun c=>by cases c) (fun _=>cN ?_)
    exact⟨⟨s,last,_,_,_,rfl,hinv.mono (by omega)⟩,hex.app⟩
   ·have hpos:0<(sP w s).length:=List.length_pos_iff.mpr hm0
    have hne:(!((sP w s).map zi).isEmpty)=true:=by
     cases hc:sP w s with
     |nil=>exact absurd hc hm0
     |cons a l=>rfl
    rw[hne,Qhq rfl]
    have hml:(sP w s).length<=4:=by
     have h1:=List.length_filter_le (fun h:Nat=> !decide ((h:Int)∈held s)&& !y9 w s h) (List.range s.af.length)
     have h2:=hinv.lh
     have h3:=ok.l4
     rw[QVq] at h1
     unfold sP
     omega
    symm
    refine Gu (S0:=S1) hex.app (by omega) aX hpos (by omega) fun h S4 hh e1 _ _=> ?_
    have hhl:h<s.af.length:=List.mem_range.mp (List.mem_filter.mp hh).1
    obtain⟨⟨vs,fs⟩,hs⟩:∃p,s.af[h]?=some p:=⟨_,gQe hhl⟩
    obtain⟨ts,pr,hw,hi⟩:=hinv.whand hs
    obtain⟨f,hf,fi⟩:=hi.last
    obtain⟨s',e,hst,hi',hrl,_⟩:=GR ok hinv (by omega) hh hs hf
    symm
    apply A2 hm hh hst ?_
    apply ay (d:=s'.d) rfl ?_
    refine Ez ok hinv hi' hrl (by omega) ?_
    refine lM ?_
    apply bf (fun c=>by cases c) (fun _=>cN ?_)
    exact⟨⟨s',h,_,_,_,rfl,hi'.mono (by omega)⟩,e1⟩
  ·rintro Γ' S' ⟨⟨s,last,b6,b7,b8,rfl,hinv⟩,hex⟩
   exact⟨⟨_,_,_,_,_,_,_,_,rfl⟩,hex.keep _ _ h0 hS0⟩
 ·rintro Γ' S' ⟨⟨a1,a2,a3,a4,a5,a6,a7,a8,rfl⟩,hS⟩
  symm
  have hl:=(gQs.mp hS).1
  refine iE (S2:= [.frz (ns.map D.int)]) ⟨by show 1<=S'.length;omega,fun k o hk e=> ?_⟩ ?_ (fun k z=>(nomatch z)) rfl rfl
  ·have hk:k<1:=hk
   have:k=0:=by omega
   subst this
   rw[hS] at e
   exact .inl e
  ·cases S' with
   |nil=>simp at hl
   | cons a l=>
     simp at hS
     subst hS
     rfl
end W28
open PySem PySem.W PyProof.Rows L2 DL
theorem PySem.Challenge.cw_calledroom_k30_whole_let_on_in_order_holds : PySem.Challenge.rw_calledroom_k30_whole_let_on_in_order.Holds := by
  w_on; o_law; k_head; (case hw => w_witness2)
  k_fill
  refine DL.La (l := PySem.Challenge.rw_calledroom_k30_whole_let_on_in_order) (k := 14) rfl rfl ⟨rfl, by decide, by decide⟩ (fun w h Y => PySem.W.kIn_of Y) (fun w => ?nl) ?F
  case nl => rfl
  case F =>
    intro w mg fa h KX G hmg
    refine' W28.all_mk KX G hmg ?_ ?_ ?_ ?_ ?_ ?_ ?_ ?_ ?_ ?_ ?_ ?_ ?_ ?_ ?_ ?_ ?_ ?_ ?_ ?_ ?_ ?_ ?_ ?_ ?_ ?_ ?_ ?_ ?_ ?_ ?_ ?_ ?_ ?_ ?_ ?_ ?_ ?_ ?_ ?_ ?_ ?_ ?_ ?_ ?_ ?_ ?_ ?_ ?_ ?_ ?_ ?_ ?_ ?_ ?_ ?_ ?_ ?_ ?_ ?_ ?_ ?_ ?_ ?_ ?_ ?_ ?_ ?_ ?_ ?_ ?_ ?_ ?_ ?_ ?_ ?_ ?_ ?_ ?_ ?_ ?_ ?_ ?_ ?_ ?_ ?_ ?_ ?_ ?_ W28.F1
    any_goals first | exact DL.bx.of (by k_is) (by k_is) (by k_is) (by k_is) | k_is
