import PyProof.Rows.All
import Wide.FinOn
import KE.KEqDict
import KE.KSortTup
import KE.KUnpack
import KE.KDictOf
import KE.KFromBytes
import KE.KIsAll
import PySem.Challenge.RW_calledroom_k23_called_at_once
set_option Elab.async false
set_option linter.all false
set_option maxRecDepth 100000
set_option maxHeartbeats 8000000
namespace PySem.W.Fast
def tw13378351764616087228:True:=⟨⟩
def tw14420723328103971490:True:=⟨⟩
def tw4156444046572696199:True:=⟨⟩
def tw9094752009926462792:True:=⟨⟩
def tw12984330100180001756:True:=⟨⟩
def tw5660542590918710067:True:=⟨⟩
def tw3227643905216778835:True:=⟨⟩
def tw4208974643987145906:True:=⟨⟩
def tw11400073423567147790:True:=⟨⟩
def tw7720779241967938355:True:=⟨⟩
def tw4931321384455117784:True:=⟨⟩
def tw17659038395454340056:True:=⟨⟩
def tw7116575502244015726:True:=⟨⟩
def tw141025408203499477:True:=⟨⟩
def tw3079501354441345717:True:=⟨⟩
def tw17690229804787944139:True:=⟨⟩
def tw2372248206279897543:True:=⟨⟩
def tw11162555548731701815:True:=⟨⟩
def tw6277108653586049576:True:=⟨⟩
def tw15082242963021688643:True:=⟨⟩
def tw5944479776432304758:True:=⟨⟩
def tw16553803771160293939:True:=⟨⟩
def tw10464737841036140859:True:=⟨⟩
def tw2321229604605679884:True:=⟨⟩
def tw16947416161092178449:True:=⟨⟩
def tw8509990782707973378:True:=⟨⟩
def tw18267442322519536937:True:=⟨⟩
def tw12348101672589026738:True:=⟨⟩
def tw6731583361149284140:True:=⟨⟩
def tw9291876759997987523:True:=⟨⟩
def tw8184299291984096434:True:=⟨⟩
def tw913045269435896814:True:=⟨⟩
def tw3532055725366046428:True:=⟨⟩
def tw2130396523020414100:True:=⟨⟩
def tw13111899834180837596:True:=⟨⟩
def tw4008486858503423087:True:=⟨⟩
def tw9996587073497302491:True:=⟨⟩
def tw8765774503652060267:True:=⟨⟩
def tw3279312766721195009:True:=⟨⟩
def tw15654838851909518841:True:=⟨⟩
def tw15721119670629746242:True:=⟨⟩
def tw6290746950371603631:True:=⟨⟩
def tw8450705281459487150:True:=⟨⟩
def tw11085029253140200578:True:=⟨⟩
def tw14826790319821600166:True:=⟨⟩
def tw3955908923463772173:True:=⟨⟩
def tw2607531861452140525:True:=⟨⟩
def tw10660658829245278138:True:=⟨⟩
def tw16304062255471254210:True:=⟨⟩
def tw1975820274618590978:True:=⟨⟩
def tw8057083252033778112:True:=⟨⟩
def tw8955618650376804855:True:=⟨⟩
def tw8761107529903175478:True:=⟨⟩
def tw427595254512245311:True:=⟨⟩
def tw16909925937549435469:True:=⟨⟩
def tw1434882204278063038:True:=⟨⟩
def tw15470144829989577535:True:=⟨⟩
def tw16104737033728467482:True:=⟨⟩
def tw12865011940507324953:True:=⟨⟩
def tw8700192496398900942:True:=⟨⟩
def tw10159250688326938769:True:=⟨⟩
def tw4832603722159043564:True:=⟨⟩
def tw15222410247745105792:True:=⟨⟩
def tw17377819651814208493:True:=⟨⟩
def tw10816742599693652874:True:=⟨⟩
def tw16554599066581181999:True:=⟨⟩
def tw7124008764366987285:True:=⟨⟩
def tw7659877654563687510:True:=⟨⟩
def tw12698335071212252274:True:=⟨⟩
def tw1946686019970125303:True:=⟨⟩
def tw10709634121147905975:True:=⟨⟩
def tw16946057264881503879:True:=⟨⟩
def tw4820531673207055855:True:=⟨⟩
def tw8874218258695181954:True:=⟨⟩
def tw12765776599411402136:True:=⟨⟩
def tw8775875447356677224:True:=⟨⟩
def tw10789982411099683053:True:=⟨⟩
def tw13486821916143882196:True:=⟨⟩
def tw16154613945169118537:True:=⟨⟩
def tw1510305270384536195:True:=⟨⟩
def tw1730908375717648719:True:=⟨⟩
def tw1013166847003618443:True:=⟨⟩
def tw14347367856356982132:True:=⟨⟩
def tw13910287529526146477:True:=⟨⟩
def tw7565104539694883224:True:=⟨⟩
def tw2977241672785127609:True:=⟨⟩
def tw16421814287936502639:True:=⟨⟩
def tw14023999419783390739:True:=⟨⟩
def tw17293726826018159660:True:=⟨⟩
def tw5600247986461724672:True:=⟨⟩
def tw16325218960412507735:True:=⟨⟩
def tw2923119446777266513:True:=⟨⟩
def tw11200791978751080729:True:=⟨⟩
def tw124080486205739982:True:=⟨⟩
def tw2971472583800857620:True:=⟨⟩
def tw17195595684353181045:True:=⟨⟩
def tw12750144786517335090:True:=⟨⟩
def tw17442111753965741519:True:=⟨⟩
def tw15485480604777803034:True:=⟨⟩
def tw10087873838677082402:True:=⟨⟩
def tw6131980931977462481:True:=⟨⟩
def tw2297195158595583510:True:=⟨⟩
def tw2795193689250235527:True:=⟨⟩
def tw14436853152558336383:True:=⟨⟩
def tw9964254601770789841:True:=⟨⟩
def tw5985226202744400966:True:=⟨⟩
def tw5007196330289093162:True:=⟨⟩
def tw14125085578225633894:True:=⟨⟩
def tw2143290190524406739:True:=⟨⟩
def tw7710850236383453978:True:=⟨⟩
def tw9207930136970947793:True:=⟨⟩
def tw10709228391447057681:True:=⟨⟩
def tw1691049311310265879:True:=⟨⟩
def tw17664391262855449140:True:=⟨⟩
def tw14859353701362707041:True:=⟨⟩
def tw16975166680922397096:True:=⟨⟩
def tw3275420938150619531:True:=⟨⟩
def tw15233441183448946409:True:=⟨⟩
def tw3050140603454216534:True:=⟨⟩
def tw1691895601026475595:True:=⟨⟩
def tw15203905207003592496:True:=⟨⟩
def tw3128411029283847575:True:=⟨⟩
def tw11348601739732293047:True:=⟨⟩
def tw9759060894622937260:True:=⟨⟩
def tw13080085056438352881:True:=⟨⟩
def tw5116187011266589384:True:=⟨⟩
def tw4219621318014249316:True:=⟨⟩
def tw14102757222496466980:True:=⟨⟩
def tw12859080254120951838:True:=⟨⟩
def tw18160527763061866580:True:=⟨⟩
def tw3728288878172170701:True:=⟨⟩
def tw5401499232861441579:True:=⟨⟩
def tw17447075130129355184:True:=⟨⟩
def tw9863500420767742182:True:=⟨⟩
def tw647009273031842764:True:=⟨⟩
def tw8632278733312879356:True:=⟨⟩
def tw15963662470983315954:True:=⟨⟩
def tw8383283646045775932:True:=⟨⟩
def tw12687186177584441490:True:=⟨⟩
def tw15699590781382619150:True:=⟨⟩
def tw674670225341716000:True:=⟨⟩
def tw16542756241457179686:True:=⟨⟩
def tw6937574965804865775:True:=⟨⟩
def tw11973484871297681696:True:=⟨⟩
def tw6046675683268464009:True:=⟨⟩
def tw76147371224530208:True:=⟨⟩
def tw9386278480509472391:True:=⟨⟩
def tw16241495031222833348:True:=⟨⟩
def tw3499117115064033553:True:=⟨⟩
def tw16438138478853397405:True:=⟨⟩
def tw8127982570693374099:True:=⟨⟩
def tw8383475559027992799:True:=⟨⟩
def tw9310897421226942709:True:=⟨⟩
def tw705742191683912738:True:=⟨⟩
def tw7813681623036766526:True:=⟨⟩
def tw603689342288170457:True:=⟨⟩
def tw9763904609616803362:True:=⟨⟩
def tw10854258551899019935:True:=⟨⟩
def tw9833602236093755152:True:=⟨⟩
def tw4393118640363011182:True:=⟨⟩
def tw15575326755241024325:True:=⟨⟩
def tw3798564249760692082:True:=⟨⟩
def tw5400586753562777596:True:=⟨⟩
def tw46308122872185791:True:=⟨⟩
def tw9595940664565716767:True:=⟨⟩
def tw3544627979240176416:True:=⟨⟩
def tw9232526630352670549:True:=⟨⟩
def tw16539767806804068970:True:=⟨⟩
def tw11645137090515871174:True:=⟨⟩
def tw4473244267882147596:True:=⟨⟩
def tw3095523421583566368:True:=⟨⟩
def tw10076805646345540841:True:=⟨⟩
def tw11152835519688836325:True:=⟨⟩
def tw6236993133643782668:True:=⟨⟩
def tw3744798981156728570:True:=⟨⟩
def tw16971686176307515584:True:=⟨⟩
def tw15201817808707902229:True:=⟨⟩
def tw18345279996187337841:True:=⟨⟩
def tw11617801691868911841:True:=⟨⟩
def tw15216828373560159818:True:=⟨⟩
def tw7017121345913425861:True:=⟨⟩
def tw1324257633640261749:True:=⟨⟩
def tw5537810371884673997:True:=⟨⟩
def tw5234141345135897715:True:=⟨⟩
def tw15649984100932009200:True:=⟨⟩
def tw18192344218527806036:True:=⟨⟩
def tw6384269266985718490:True:=⟨⟩
def tw16997496355280546881:True:=⟨⟩
def tw14203053521931852673:True:=⟨⟩
def tw5871380721450582240:True:=⟨⟩
def tw4121878154646966002:True:=⟨⟩
def tw17763471171881262100:True:=⟨⟩
def tw12825475050890869605:True:=⟨⟩
def tw7872570192735423287:True:=⟨⟩
def tw14103302551723394727:True:=⟨⟩
def tw4402434724427793774:True:=⟨⟩
def tw11828126864376226252:True:=⟨⟩
def tw13086947895644143439:True:=⟨⟩
def tw11622819376012907382:True:=⟨⟩
def tw6837144256577559166:True:=⟨⟩
def tw9385047161711808740:True:=⟨⟩
def tw11732158448107557633:True:=⟨⟩
def tw9784145749147370507:True:=⟨⟩
def tw11972603904818488116:True:=⟨⟩
def tw1703849012159321093:True:=⟨⟩
def tw2045066481610435799:True:=⟨⟩
def tw7654265842453542212:True:=⟨⟩
def tw1426149585429047389:True:=⟨⟩
def tw15422475662757578630:True:=⟨⟩
def tw16317035498652480220:True:=⟨⟩
def tw6953840594704071399:True:=⟨⟩
def tw11864550429135384993:True:=⟨⟩
def tw12442229343155687788:True:=⟨⟩
def tw9554287328828092177:True:=⟨⟩
def tw13242833232463498532:True:=⟨⟩
def tw6282116617355780491:True:=⟨⟩
def tw2172353168349163857:True:=⟨⟩
def tw10703886295442023950:True:=⟨⟩
def tw12587119737417147272:True:=⟨⟩
def tw7455202291432623319:True:=⟨⟩
def tw17010927927048519016:True:=⟨⟩
def tw14156311337020333905:True:=⟨⟩
def tw6279031827635399068:True:=⟨⟩
def tw2000307895371921269:True:=⟨⟩
def tw4666975421559474392:True:=⟨⟩
def tw14009912786381537947:True:=⟨⟩
def tw16296785226094813326:True:=⟨⟩
def tw704174894331689635:True:=⟨⟩
def tw924197808442687661:True:=⟨⟩
def tw6707654028598485776:True:=⟨⟩
def tw1218405374269455962:True:=⟨⟩
def tw16875334321020990798:True:=⟨⟩
def tw9129380657017617670:True:=⟨⟩
def tw6842180275374057884:True:=⟨⟩
def tw12776542654811315830:True:=⟨⟩
def tw13992159343531867606:True:=⟨⟩
def tw11124321305373954105:True:=⟨⟩
def tw17522548083392918175:True:=⟨⟩
def tw3691692700521621985:True:=⟨⟩
def tw6674355535553143541:True:=⟨⟩
def tw17702020673754984344:True:=⟨⟩
def tw5160839156165471035:True:=⟨⟩
def tw10182587386899358866:True:=⟨⟩
def tw8478002626373906659:True:=⟨⟩
def tw16058423086148124018:True:=⟨⟩
def tw7248834916471101451:True:=⟨⟩
def tw2195836243797725751:True:=⟨⟩
def tw12354070865041673783:True:=⟨⟩
def tw13033485862988294679:True:=⟨⟩
def tw12510878335932851161:True:=⟨⟩
def tw8665310854481596907:True:=⟨⟩
def tw17036992610497074248:True:=⟨⟩
def tw6613191827308654413:True:=⟨⟩
def tw3181976325597149453:True:=⟨⟩
def tw16051809865447410751:True:=⟨⟩
def tw17010056775614876345:True:=⟨⟩
def tw15358551684582060172:True:=⟨⟩
def tw4592773579366293721:True:=⟨⟩
def tw8636946287354944136:True:=⟨⟩
def tw16446695071006480821:True:=⟨⟩
def tw17804763792470046629:True:=⟨⟩
def tw2743432093953202025:True:=⟨⟩
def tw11769199191239355412:True:=⟨⟩
def tw6354841944313773341:True:=⟨⟩
def tw8182542568993475516:True:=⟨⟩
def tw11897255033572317540:True:=⟨⟩
def tw11954507508522969821:True:=⟨⟩
def tw15367650311650605644:True:=⟨⟩
def tw2582394356902090243:True:=⟨⟩
def tw10181184444880407302:True:=⟨⟩
def tw16440596097186503497:True:=⟨⟩
def tw10280570990105664782:True:=⟨⟩
def tw16140132145554474263:True:=⟨⟩
def tw6929567335395288474:True:=⟨⟩
def tw9645211966349183657:True:=⟨⟩
def tw8200882900423964238:True:=⟨⟩
def tw5719468293526768351:True:=⟨⟩
def tw3940700223492187823:True:=⟨⟩
def tw15933105415446560542:True:=⟨⟩
def tw17134810364478849302:True:=⟨⟩
def tw16314379922035810687:True:=⟨⟩
def tw13971865063785320315:True:=⟨⟩
def tw15135324072866400296:True:=⟨⟩
def tw1835556684797670935:True:=⟨⟩
def tw13555069876079389378:True:=⟨⟩
def tw5669617039479292710:True:=⟨⟩
def tw14683988109574695627:True:=⟨⟩
def tw17627600124493618364:True:=⟨⟩
def tw3726396639835267825:True:=⟨⟩
def tw1620730812412318389:True:=⟨⟩
def tw241111660126330218:True:=⟨⟩
def tw10614955857018557480:True:=⟨⟩
def tw4188298865657192734:True:=⟨⟩
def tw13915803955812161761:True:=⟨⟩
def tw6364356412944786108:True:=⟨⟩
def tw18427480220627821840:True:=⟨⟩
def tw6727376357797636965:True:=⟨⟩
def tw4868547012726927710:True:=⟨⟩
def tw13681126230620156274:True:=⟨⟩
def tw17050638597569215095:True:=⟨⟩
def tw5864215810596963384:True:=⟨⟩
def tw11863902009198760631:True:=⟨⟩
def tw3815515101936444091:True:=⟨⟩
def tw7212250529174927142:True:=⟨⟩
def tw6955694373128183736:True:=⟨⟩
def tw4997419604135855422:True:=⟨⟩
def tw12751534394197827731:True:=⟨⟩
def tw6292556693634061176:True:=⟨⟩
def tw8901051674601700221:True:=⟨⟩
def tw120692616751992324:True:=⟨⟩
def tw9173799444765809438:True:=⟨⟩
def tw8310955102724159997:True:=⟨⟩
def tw1880028683833973984:True:=⟨⟩
def tw10816543352762025829:True:=⟨⟩
def tw4337915217630332461:True:=⟨⟩
def tw1356563729261002549:True:=⟨⟩
def tw17492474190876496693:True:=⟨⟩
def tw3982724381993208773:True:=⟨⟩
def tw18239163326724845684:True:=⟨⟩
def tw31270718648608556:True:=⟨⟩
def tw16109384005930585617:True:=⟨⟩
def tw8887707561070460460:True:=⟨⟩
def tw4468332458245350090:True:=⟨⟩
def tw9245396942119375599:True:=⟨⟩
def tw10637149901820410858:True:=⟨⟩
def tw17381689823255682596:True:=⟨⟩
def tw12507918616326759906:True:=⟨⟩
end PySem.W.Fast
set_option bootstrap.genMatcherCode false
set_option compiler.extract_closed false
noncomputable section
local macro_rules|`(tactic|omega)=>`(tactic|lia)
abbrev gQm:=@List.getElem?_map
abbrev lQm:=@List.length_map
abbrev mQg:=@List.mem_of_getElem?
abbrev oQm:=@Option.map_eq_some_iff
abbrev gQe:=@List.getElem?_eq_getElem
abbrev gQs:=@List.getElem?_eq_some_iff
abbrev lQa:=@List.length_append
abbrev nQl:=@Nat.le_of_lt
abbrev mQa:=@List.mem_append
abbrev Qaq:=@PySem.wpAny_bind
abbrev Qbq:=@Option.bind_some
abbrev Qcq:=@PySem.Heap.get?_push_of_some
abbrev Qdq:=@decide_eq_false
abbrev Qeq:=@decide_eq_true
abbrev Qfq:=@List.mem_singleton
abbrev Qgq:=@PySem.wpAny_pure
abbrev Qhq:=@if_pos
abbrev Qiq:=@PySem.Heap.lt_size
abbrev Qjq:=@List.size_toArray
abbrev Qkq:=@List.mem_map
abbrev Qlq:=@List.getD_eq_getElem?_getD
abbrev Qmq:=@Nat.le_refl
abbrev Qnq:=@List.length_cons
abbrev Qoq:=@List.mem_append_right
abbrev Qpq:=@List.mem_cons_of_mem
abbrev Qqq:=@Nat.lt_of_lt_of_le
abbrev Qrq:=@PySem.Heap.get?_push_size
abbrev Qsq:=@List.mem_cons
abbrev Qtq:=@Bool.false_ne_true
abbrev Quq:=@if_neg
abbrev Qvq:=@List.append_assoc
abbrev Qwq:=@Nat.ne_of_lt
abbrev Qxq:=@List.length_take
abbrev Qyq:=@List.getElem?_set_self
abbrev Qzq:=@List.map_append
abbrev QAq:=@Nat.le_trans
abbrev QBq:=@List.mem_cons_self
abbrev QCq:=@Bool.and_eq_true
abbrev QDq:=@List.map_cons
abbrev QEq:=@List.take_length
abbrev QFq:=@PySem.W.mg_none_of
abbrev QGq:=@List.length_nil
abbrev QHq:=@List.getElem?_append_left
abbrev QIq:=@List.length_replicate
abbrev QJq:=@List.Perm.append_right
abbrev QKq:=@List.getElem?_set_ne
abbrev QLq:=@PySem.wpAny_holding
abbrev QMq:=@PySem.wpAny_field
abbrev QNq:=@List.replicate_succ
abbrev QOq:=@List.mem_flatMap
abbrev QPq:=@List.map_map
abbrev QQq:=@List.getElem?_append_right
abbrev QRq:=@PySem.wpAny_mono
abbrev QSq:=@List.flatMap_cons
abbrev QTq:=@List.mem_or_eq_of_mem_set
abbrev QUq:=@List.all_eq_true
abbrev QVq:=@List.length_range
abbrev QWq:=@List.drop_eq_getElem_cons
abbrev QXq:=@List.not_mem_nil
abbrev QYq:=@List.take_add_one
abbrev QZq:=@of_decide_eq_true
abbrev QaQ:=@of_decide_eq_false
abbrev QbQ:=@List.getElem_of_mem
abbrev QcQ:=@List.mem_of_getLast?
abbrev QdQ:=@Option.some.inj
abbrev QeQ:=@List.of_mem_zip
abbrev QfQ:=@List.getLast?_map
abbrev QgQ:=@PySem.wpAny_ite_false
abbrev QhQ:=@PySem.wpAny_newObj_type
abbrev QiQ:=@PySem.wpAny_callSpecial?_slot
abbrev QjQ:=@List.Sublist.refl
abbrev QkQ:=@List.eq_of_mem_replicate
abbrev QlQ:=@List.map_replicate
namespace L2
open PySem PySem.Spec PyProof.Rows
abbrev Key:=Sum Int Str
def tW:Key->Value->Bool
 |.inl k,v=>Value.isInt k v
 |.inr x,v=>Value.isStrOf x v
def P3(w:World):Key->Int
 |.inl k=>hashInt k
 |.inr x=>hashStr w x
def dG:∀{k:Key} {v:Value},tW k v=true->(∃i t,k=Sum.inl i/\v=Value.int i t)\/(∃x t,k=Sum.inr x/\v=Value.str x t)
 | .inl i,v,h=>by
   obtain⟨t,e⟩:=Value.isInt_shape (k:=i) (v:=v) h
   exact .inl ⟨i,t,rfl,e⟩
 | .inr x,v,h=>by
   obtain⟨t,e⟩:=Value.isStrOf_shape (x:=x) (v:=v) h
   exact .inr ⟨x,t,rfl,e⟩
def Fx(i:Int)(t:Tok):tW (.inl i) (.int i t)=true:=by simp[tW,Value.isInt]
def sO(x:Str)(t:Tok):tW (.inr x) (.str x t)=true:=by simp[tW,Value.isStrOf]
def K9(a b:Int):decide ((Sum.inl a:Key)=Sum.inl b)=(a==b):=by
 by_cases e:a=b
 ·subst e;simp
 ·have h:¬(Sum.inl a:Key)=Sum.inl b:=λq=>e (Sum.inl.inj q)
  rw[Qdq h]
  exact(beq_eq_false_iff_ne.mpr e).symm
def Ll(a b:Str):decide ((Sum.inr a:Key)=Sum.inr b)=decide (a=b):=by
 by_cases e:a=b
 ·subst e;simp
 ·have h:¬(Sum.inr a:Key)=Sum.inr b:=λq=>e (Sum.inr.inj q)
  rw[Qdq h,Qdq e]
def LN(a:Int)(b:Str):decide ((Sum.inl a:Key)=Sum.inr b)=false:=Qdq (λq=>nomatch q)
def L7(a:Str)(b:Int):decide ((Sum.inr a:Key)=Sum.inl b)=false:=Qdq (λq=>nomatch q)
def cc(prog:Program)(w:World):PySem.KeyKind prog w Key where
 is:=tW
 hash:=P3 w
 inj:=λv a b g f=>by
  rcases dG g with⟨i,t,rfl,rfl⟩|⟨x,t,rfl,rfl⟩
  ·rcases dG f with⟨j,u,rfl,e⟩|⟨y,u,rfl,e⟩
   ·injection e with c _;rw[c]
   ·exact nomatch e
  ·rcases dG f with⟨j,u,rfl,e⟩|⟨y,u,rfl,e⟩
   ·exact nomatch e
   ·injection e with c _;rw[c]
 byValue:=λk v h=>by
  rcases dG h with⟨i,t,rfl,rfl⟩|⟨x,t,rfl,rfl⟩ <;>rfl
 pyHash:=λd h=>by
  rcases dG d with⟨i,t,rfl,rfl⟩|⟨x,t,rfl,rfl⟩
  ·exact wpAny_pyHash_int h
  ·exact wpAny_pyHash_str h
 eqBool:=λl d h=>by
  rcases dG l with⟨i,t,rfl,rfl⟩|⟨x,t,rfl,rfl⟩
  ·rcases dG d with⟨j,u,rfl,rfl⟩|⟨y,u,rfl,rfl⟩
   ·rw[K9] at h;exact wpAny_eqBool_int h
   ·rw[LN] at h;exact SeqAt.EqAt.int_str i t y u _ _ _ _ h
  ·rcases dG d with⟨j,u,rfl,rfl⟩|⟨y,u,rfl,rfl⟩
   ·rw[L7] at h;exact SeqAt.EqAt.str_int x t j u _ _ _ _ h
   ·rw[Ll] at h;exact wpAny_eqBool_str h
 «strs»:=λk x t v h=>by
  rcases dG h with⟨i,u,rfl,e⟩|⟨y,u,rfl,e⟩
  ·exact nomatch e
  ·injection e with c _
   subst c
   cases v <;>rfl
def Bx(prog:Program)(w:World)(i:Int)(t:Tok):(cc prog w).is (.inl i) (.int i t)=true:=Fx i t
def Bz(prog:Program)(w:World)(x:Str)(t:Tok):(cc prog w).is (.inr x) (.str x t)=true:=sO x t
inductive V where
 |non|bl (b:Bool)|int (i:Int)|str (x:Str)|byt (b:Array UInt8)|flt (b:UInt64)|ref (a:Addr)|ty (n:String)
 deriving DecidableEq
def RelV:V->Value->Prop
 |.non,u=>u=Value.none
 |.bl b,u=>u=Value.bool b
 |.int i,u=>∃t,u=Value.int i t
 |.str x,u=>∃t,u=Value.str x t
 |.byt b,u=>∃t,u=Value.bytes b t
 |.flt b,u=>∃t,u=Value.float b t
 |.ref a,u=>u=Value.ref a
 |.ty n,u=>u=Value.type n
abbrev bI:List V->List Value->Prop:=Paired RelV
def bI.length(r:bI xs a):xs.length=a.length:=Paired.length r
theorem bI.get:∀{xs:List V} {a:List Value} {i:Nat} {x:V},bI xs a->xs[i]?=some x->∃u,a[i]?=some u/\RelV x u
 |_,_,_,_,.nil,e=>by simp at e
 |_,_,0,_,.cons r _,e=>by simp at e;subst e;exact⟨_,rfl,r⟩
 | _,_,i+1,x,.cons _ t,e=>by
   obtain⟨u,b,c⟩:=bI.get (i:=i) (x:=x) t (by simpa using e)
   exact⟨u,by simpa using b,c⟩
theorem bI.set(r:RelV x u):∀{xs:List V} {a:List Value} (i:Nat),bI xs a->bI (xs.set i x) (a.set i u)
 |_,_,_,.nil=>.nil
 |_,_,0,.cons _ t=>.cons r t
 |_,_,i+1,.cons q t=>.cons q (bI.set r i t)
theorem bI.append:∀{xs ys:List V} {a ws:List Value},bI xs a->bI ys ws->bI (xs++ys) (a++ws)
 |_,_,_,_,.nil,s=>s
 |_,_,_,_,.cons r t,s=>.cons r (bI.append t s)
theorem bI.take:∀{xs:List V} {a:List Value} (n:Nat),bI xs a->bI (xs.take n) (a.take n)
 |_,_,0,_=>.nil
 |_,_,_+1,.nil=>.nil
 |_,_,n+1,.cons r t=>.cons r (bI.take n t)
theorem bI.drop:∀{xs:List V} {a:List Value} (n:Nat),bI xs a->bI (xs.drop n) (a.drop n)
 |_,_,0,r=>r
 |_,_,_+1,.nil=>.nil
 |_,_,n+1,.cons _ t=>bI.drop n t
def wK:Option V->Option Value->Prop
 |some v,some u=>RelV v u
 |none,none=>True
 |_,_=>False
def KV:List (κ×V)->List (κ×Value)->Prop:=Paired λ(p:κ×V) (q:κ×Value)=>p.1=q.1/\RelV p.2 q.2
def kV:Key->V
 |.inl i=>.int i
 |.inr x=>.str x
inductive HO where
 |lst (xs:List V)
 |tup (xs:List V)
 |dK (kvs:List (Key×V))|dT (kvs:List (List Key×V))
 |set (S:Int->Bool) (n:Nat)
 |ins (C dx:Addr) (fs:List (Str×V))
 |own (x:Addr)
 |xd (fs:List (Str×V))
 |met (f x:Addr)
 |rng (lo hi:Int)
 |frz (o:Obj) (u:HO)
 |tbl (ps:Array Value)
 |ext (φ:Heap->Prop)
abbrev Hp:=Addr->Option HO
def upd(H:Hp)(a:Addr)(o:HO):Hp:=λb=>if b=a then some o else H b
def cn:upd H a o a=some o:=by unfold upd;rw[Qhq rfl]
def bx(h:b≠a):upd H a o b=H b:=by unfold upd;rw[Quq h]
def Io{H:Hp}(h:H a=some o)(h':H b=some u)(d:o≠u):a≠b:=by
 intro e;subst e;rw[h] at h';exact d (QdQ h')
def fS{H:Hp}(h:H a=some o)(h':H b=none):a≠b:=by
 intro e;subst e;rw[h] at h';cases h'
def Bj(h:Heap)(a:Addr)(items:Array Value):Prop:=∃o,h.get? a=some o/\o.cls=.type "tuple" /\o.dict=none/\∃n,o.data=.seq items n
def Bj.it(x:Bj h a items):IsTup h a items:=by
 obtain⟨o,e,c,_,d⟩:=x
 exact⟨o,e,c,d⟩
def Bj.new(h:Heap)(items:Array Value):Bj (h.push {cls:=.type "tuple",data:=.seq items}) h.objs.size items:=⟨_,Qrq _ rfl,rfl,rfl,_,rfl⟩
section
variable(P:Program)(w:World)
def dq(H:Hp)(h:Heap)(a:Addr):HO->Prop
 |.lst d=>d.length<=sizeLine/\∃(c:List Value) (n:Nat),bI d c/\h.get? a=some {cls:=.type "list",data:=.seq c.toArray n}
 |.tup d=>d.length<=sizeLine/\∃c:List Value,bI d c/\Bj h a c.toArray
 |.dK b=>b.length<=sizeLine/\(a==sysModules)=false/\∃r,KV b r/\h.DictOf (cc P w) a r
 |.dT b=>b.length<=sizeLine/\(a==sysModules)=false/\∃d:List (List Key×Addr×Value),
   Paired (λ(p:List Key×V) (q:List Key×Addr×Value)=>p.1=q.1/\H q.2.1=some (.tup (p.1.map kV))/\RelV p.2 q.2.2) b d∧
   ∃o k A,h.get? a=some o/\o.ExactDict/\o.data=.dict k A/\k.toList=d.map (entryOfKey<|tupleKind<|cc P w)/\(d.map (·.1)).Nodup
 |.set S n=>h.SetOf (intKind P w) a S n
 |.ins C i g=>H i=some (.own a)/\g.length<=1000/\i≠a/\h.get? a=some (PySem.W.instObj C i)∧
   ∃e,h.Ns1 i e/\(∀f,wK (g.lookup f)<|e f)/\PySem.Within e (g.map (·.1))
 |.own _=>∃o,h.get? a=some o
 |.xd g=>∃e,h.Ns1 a e/\∀f,wK (g.lookup f) (e f)
 |.rng y s=>∃t u v,h.get? a=some {cls:=.type "range",data:=.fields #[.int y t,.int s u,.int 1 v]}
 |.frz o u=>h.get? a=some o/\dq H h a u
 |.tbl z=>h.get? a=some {cls:=.none,data:=.fields z}
 |.met f x=>h.get? a=some (PySem.W.methodObj (.ref f)<|.ref x)
 |.ext j=>j h/\(∃o,h.get? a=some o)/\∀l m:Heap,j l->(∀o,l.get? a=some o->m.get? a=some o)->j m
def p0(H:Hp)(h:Heap):Prop:=∀a o,H a=some o->dq P w H h a o
end
section
variable{P:Program}{w:World}{H H':Hp}{h h':Heap}{a:Addr}{o:HO}
theorem dq.lt(x:dq P w H h a o):a<h.objs.size:=by
 cases o with
 |lst c=>obtain⟨_,_,_,_,e⟩:=x;exact Qiq e
 |tup c=>obtain⟨_,_,_,p⟩:=x;exact p.it.lt
 |dK b=>obtain⟨_,_,_,_,o,_,_,e,_⟩:=x;exact Qiq e
 |dT b=>obtain⟨_,_,_,_,o,_,_,e,_⟩:=x;exact Qiq e
 |set S n=>obtain⟨o,_,_,_,e,_⟩:=x;exact Qiq e
 |ins C m d=>obtain⟨_,_,_,e,_⟩:=x;exact Qiq e
 |own y=>obtain⟨_,e⟩:=x;exact Qiq e
 |xd d=>obtain⟨_,⟨_,_,_,e,_⟩,_⟩:=x;exact Qiq e
 |rng k i=>obtain⟨_,_,_,e⟩:=x;exact Qiq e
 |frz g u=>obtain⟨e,_⟩:=x;exact Qiq e
 |tbl l=>exact Qiq (show h.get? a=some _ from x)
 |met f y=>exact Qiq (show h.get? a=some _ from x)
 |ext j=>obtain⟨_,⟨_,e⟩,_⟩:=x;exact Qiq e
theorem Paired.mapP{F G:α->c->Prop}:∀{l₁:List α} {l₂:List c},Paired F l₁ l₂->(∀a b,F a b->G a b)->Paired G l₁ l₂
 |_,_,.nil,_=>.nil
 |_,_,.cons r t,f=>.cons (f _ _ r) (Paired.mapP t f)
def dq.stay(x:dq P w H h a o)(k:∀b u,(b=a\/H b=some (.own a))->h.get? b=some u->h'.get? b=some u)
  (G:∀b,H b=some (.own a)->H' b=some (.own a)) (ht:∀b xs,H b=some (.tup xs)->H' b=some (.tup xs)):dq P w H' h' a o:=by
 induction o with
 |lst xs=>obtain⟨z,l,n,r,e⟩:=x;exact⟨z,l,n,r,k _ _ (.inl rfl) e⟩
 |tup xs=>obtain⟨z,l,r,g,e,c⟩:=x;exact⟨z,l,r,g,k _ _ (.inl rfl) e,c⟩
 |dK A=>obtain⟨z,y,M,r,g,i,j,e,c⟩:=x;exact⟨z,y,M,r,g,i,j,k _ _ (.inl rfl) e,c⟩
 | dT A=>
   obtain⟨z,y,xs,r,g,i,j,e,c⟩:=x
   exact⟨z,y,xs,Paired.mapP r λp q z=>⟨z.1,ht _ _ z.2.1,z.2.2⟩,g,i,j,k _ _ (.inl rfl) e,c⟩
 |set S n=>obtain⟨g,i,j,t,e,c⟩:=x;exact⟨g,i,j,t,k _ _ (.inl rfl) e,c⟩
 | ins C U K=>
   obtain⟨d,z,J,e,m,⟨s,i,j,I,c⟩,r⟩:=x
   exact⟨G _ d,z,J,k _ _ (.inl rfl) e,m,⟨s,i,j,k _ _ (.inr d) I,c⟩,r⟩
 |own y=>obtain⟨g,e⟩:=x;exact⟨g,k _ _ (.inl rfl) e⟩
 |xd K=>obtain⟨m,⟨s,i,j,e,c⟩,r⟩:=x;exact⟨m,⟨s,i,j,k _ _ (.inl rfl) e,c⟩,r⟩
 |rng R N=>obtain⟨t,u,v,e⟩:=x;exact⟨t,u,v,k _ _ (.inl rfl) e⟩
 |frz g u L=>obtain⟨e,q⟩:=x;exact⟨k _ _ (.inl rfl) e,L q⟩
 | tbl F=>
   have e:h.get? a=some {cls:=.none,data:=.fields F}:=x
   show h'.get? a=some {cls:=.none,data:=.fields F}
   exact k a _ (.inl rfl) e
 | met f y=>
   have e:h.get? a=some (PySem.W.methodObj (.ref f)<|.ref y):=x
   show h'.get? a=some (PySem.W.methodObj (.ref f)<|.ref y)
   exact k a _ (.inl rfl) e
 |ext Q=>obtain⟨p,⟨o,e⟩,B⟩:=x;exact⟨B _ _ p λo q=>k _ _ (.inl rfl) q,⟨o,k _ _ (.inl rfl) e⟩,B⟩
def p0.lt(x:p0 P w H h)(e:H a=some o):a<h.objs.size:=(x a o e).lt
def p0.fresh(x:p0 P w H h)(e:h.objs.size<=a):H a=none:=by
 cases q:H a with
 |none=>rfl
 |some u=>exact absurd (Qqq (x.lt q) e) (Nat.lt_irrefl _)
def p0.kept(x:p0 P w H h)(k:∀b u,h.get? b=some u->h'.get? b=some u):p0 P w H h':=λa o e=>
 (x a o e).stay (λb u _ q=>k b u q) (λ_ q=>q) λ_ _ q=>q
def p0.laid(x:p0 P w H h)(k:∀b u,h.get? b=some u->h'.get? b=some u)(g:h.objs.size<=a)(new:dq P w (upd H a o) h' a o):p0 P w (upd H a o) h':=λb u e=>by
 have d:=x.fresh g
 by_cases f:b=a
 ·subst f;rw[cn] at e;cases e;exact new
 ·rw[bx f] at e
  exact(x b u e).stay (λc v _ q=>k c v q) (λc q=>by rw[bx (fS q d)];exact q) λc i q=>by rw[bx (fS q d)];exact q
end
def Rd(H:Hp)(a:Addr)(u:HO):Prop:=H a=some u\/∃o,H a=some (.frz o u)
def Rd.ok(r:Rd H a u)(x:p0 P w H h):dq P w H h a u:=by
 rcases r with r|⟨o,r⟩
 ·exact x a u r
 ·obtain⟨_,q⟩:=x a _ r
  exact q
def Om:Option HO->Prop
 |some (.lst _)=>True
 |some (.dK _)=>True
 |some (.dT _)=>True
 |some (.set _ _)=>True
 |some (.ins _ _ _)=>True
 |some (.ext _)=>True
 |_=>False
section
variable{P:Program}{w:World}{H:Hp}{h h':Heap}{x e:Addr}{o':HO}
def p0.write(ok:p0 P w H h)(i:Om (H x))(he:e=x\/H e=some (.own x))(k:∀b u,b≠e->h.get? b=some u->h'.get? b=some u)(m:∃u,h'.get? e=some u)
  (new:dq P w (upd H x o') h' x o'):p0 P w (upd H x o') h':=λb u q=>by
 have d:∀c y,H c=some (.own y)->c≠x:=λc y r z=>by subst z;rw[r] at i;exact i
 have f:∀c g,H c=some (.tup g)->c≠x:=λc g r z=>by subst z;rw[r] at i;exact i
 by_cases l:b=x
 ·subst l;rw[cn] at q;cases q;exact new
 ·rw[bx l] at q
  by_cases a:b=e
  ·have n:H b=some (.own x):=by
    rcases he with z|z
    ·exact absurd (a.trans z) l
    ·rw[a];exact z
   rw[q] at n;cases n
   obtain⟨v,o⟩:=m
   exact⟨v,by rw[a];exact o⟩
  ·refine(ok b u q).stay (λc v j r=>k c v ?_ r) (λc r=>by rw[bx (d c b r)];exact r) λc g r=>by rw[bx (f c g r)];exact r
   rcases j with rfl|j
   ·exact a
   ·rintro rfl
    rcases he with z|z
    ·exact d c b j z
    ·rw[j] at z;cases z;exact l rfl
end
structure Un(fs ex:List Addr)(H H':Hp)(h h':Heap):Prop where
 keep:∀b o,h.get? b=some o->H b=none->b∉fs->b∉ex->h'.get? b=some o
 slot:∀b o,h.get? b=some o->H b=none->b∈fs->b∉ex->∃sl,h'.get? b=some {o with slots:=sl}
 free:∀b o,h.get? b=some o->H b=none->b∉ex->H' b=none
 there:∀b o,h.get? b=some o->b∉ex->∃o',h'.get? b=some o'
 tups:∀b xs,H b=some (.tup xs)->H' b=some (.tup xs)
 frzs:∀b o u,H b=some (.frz o u)->H' b=some (.frz o u)
 tbls:∀b ps,H b=some (.tbl ps)->∃more,H' b=some (.tbl (ps++more))
section
variable{fs fs' ex ex':List Addr}{H H1 H2:Hp}{h h1 h2 h':Heap}{a x e:Addr}{o:HO}
def Un.any(u:Un fs ex H H1 h h1){b:Addr}{c:Obj}(q:h.get? b=some c)(n:H b=none)(d:b∉ex):∃g,h1.get? b=some {c with slots:=g}:=by
 by_cases f:b∈fs
 ·exact u.slot b c q n f d
 ·exact⟨c.slots,u.keep b c q n f d⟩
def Un.kept(k:∀b u,h.get? b=some u->h'.get? b=some u):Un fs ex H H h h':=
 ⟨λb c q _ _ _=>k b c q,λb c q _ _ _=>⟨c.slots,k b c q⟩,λ_ _ _ n _=>n,λb c q _=>⟨c,k b c q⟩,λ_ _ q=>q,λ_ _ _ q=>q,λ_ d q=>⟨#[],by rw[q];simp⟩⟩
def Un.refl:Un fs ex H H h h:=Un.kept λ_ _ q=>q
def Un.laid(k:∀b u,h.get? b=some u->h'.get? b=some u)(d:h.objs.size<=a)(c:H a=none):Un fs ex H (upd H a o) h h' where
 keep:=λb u q _ _ _=>k b u q
 slot:=λb u q _ _ _=>⟨u.slots,k b u q⟩
 free:=λb u q n _=>by rw[bx (Qwq<|Qqq (Qiq q) d)];exact n
 there:=λb u q _=>⟨u,k b u q⟩
 tups:=λb f q=>by rw[bx (fS q c)];exact q
 frzs:=λb u f q=>by rw[bx (fS q c)];exact q
 tbls:=λb g q=>⟨#[],by rw[bx (fS q c),q];simp⟩
def Un.write(d:Om (H x))(he:e=x\/H e=some (.own x))(k:∀b u,b≠e->h.get? b=some u->h'.get? b=some u)(g:∃u,h'.get? e=some u):Un fs ex H (upd H x o) h h':=by
 have i:∀b,H b=none->b≠x:=λb n z=>by subst z;rw[n] at d;exact d
 have j:∀b,H b=none->b≠e:=λb n z=>by
  subst z
  rcases he with r|r
  ·exact i b n r
  ·rw[n] at r;cases r
 have f:∀b u,H b=some u->¬Om (some u)->b≠x:=λb u q l z=>by subst z;rw[q] at d;exact l d
 refine⟨λb u q n _ _=>k b u (j b n) q,λb u q n _ _=>⟨u.slots,k b u (j b n) q⟩,λb u q n _=>by rw[bx (i b n)];exact n,λb u q _=> ?_,
  λb m q=>by rw[bx (f b _ q λz=>z)];exact q,λb u m q=>by rw[bx (f b _ q λz=>z)];exact q,λb p q=>⟨#[],by rw[bx (f b _ q λz=>z),q];simp⟩⟩
 by_cases c:b=e
 ·subst c;exact g
 ·exact⟨u,k b u c q⟩
end
def OK(h:Heap)(H:Hp):List Addr:=(List.range h.objs.size).filter λa=>(H a).isSome
def zR(h:Heap)(H:Hp):Heap:=PySem.W.hideAll h (OK h H)
def FC(h:Heap)(H:Hp):(zR h H).objs.size=h.objs.size:=PySem.W.hideAll_size _ _
def IQ{h:Heap}{H:Hp}(e:h.get? b=some o)(n:H b=none):(zR h H).get? b=some o:=
 PySem.W.hideAll_get _ e λa=>by
  have q:(H b).isSome=true:=(List.mem_filter.mp a).2
  rw[n] at q;simp at q
def Jt(e:(zR h H).get? b=some o):h.get? b=some o/\H b=none:=by
 have a:h.get? b=some o:=PySem.W.of_hideAll (OK h H) e
 refine⟨a,?_⟩
 cases q:H b with
 |none=>rfl
 | some x=>
   have c:b∈OK h H:=List.mem_filter.mpr ⟨List.mem_range.mpr<|Qiq a,by simp[q]⟩
   have z:(zR h H).get? b=none:=PySem.W.hideAll_none (OK h H) c
   rw[z] at e;cases e
structure Mod(K:PySem.W.Frag)(mg:Str->Option Value)(base:Heap):Prop where
 kin:K.In base
 glob:base.Ns mainGlobals mg
 blt:∃mb,base.Ns builtinsNs mb/\∀x:Str,x≠"__name__" ->mb x=bootBuiltins x
 nolimit:base.NoLimit
structure Cx where
 prog:Program
 w:World
 K:PySem.W.Frag
 mg:Str->Option Value
 base:Heap
 A:Around
 N:List Str
 s₀:Shared
 H₀:Hp
 env:Env
 outer:List Env
 stack:List Env
 ex:List Addr
 fn:Str->Bool
 calm:Bool
 pn:List (Addr×Obj)
 xe:Value->Shared->Prop
def IR(l:List Env):List Addr:=l.filterMap (·.frame)
abbrev Cx.fs(X:Cx):List Addr:=IR X.outer
def KZ(sc:Scope)(x:Str):Prop:=sc.names.lookup x=some .local\/sc.names.lookup x=some .cell\/sc.names.lookup x=some .free
def Loc(sc:Scope)(x:Str):Prop:=sc.names.lookup x=some .local\/sc.names.lookup x=some .cell
def Look(env:Env)(h:Heap)(m:Str->Option Value)(x:Str)(u:Value):Prop:=
 (env.kindOf x=some .local/\m x=some u)\/((env.kindOf x=some .cell\/env.kindOf x=some .free)/\∃c,env.cells.lookup x=some c/\h.IsCell c (some u))
structure Cx.Ok(X:Cx):Prop where
 mod:Mod X.K X.mg X.base
 kind:X.env.scope.kind=.function
 glob:X.env.globals=mainGlobals
 blt:X.env.builtins=builtinsNs
 above:X.s₀.heap.objs.size<=X.env.locals
 inj:∀x y c,X.env.cells.lookup x=some c->X.env.cells.lookup y=some c->x=y
 has:∀x,(X.env.kindOf x=some .cell\/X.env.kindOf x=some .free)->∃c,X.env.cells.lookup x=some c
 cab:∀x c,X.fn x=true->X.env.cells.lookup x=some c->X.s₀.heap.objs.size<=c
 hd:X.calm=true->X.A.handled=none
 frames:X.A.frames=some X.stack
 stk:X.stack=X.outer\/(X.stack=X.env::X.outer/\X.env.frame=some X.env.locals)
 exf:∀b∈X.ex,b≠X.env.locals/\∀x c,X.env.cells.lookup x=some c->c≠b
 bs:∀b o,X.base.get? b=some o->X.s₀.heap.get? b=some o/\X.H₀ b=none
 bsz:X.base.objs.size<=X.s₀.heap.objs.size
 noex:∀b o,X.base.get? b=some o->b∉X.ex
 exfs:∀b∈X.ex,b∉X.fs
 funs:X.s₀.heap.FunFrames X.base X.outer
 frf:∀b∈X.fs,X.H₀ b=none
structure Inv(X:Cx)(pins:List (Addr×Obj))(σ:List (Option V))(H:Hp)(s:Shared):Prop where
 ok:X.Ok
 os:s.os=X.s₀.os
 bare:AllBare s.gens
 base:Un X.fs X.ex X.H₀ H X.s₀.heap s.heap
 loc:∃m,s.heap.Ns X.env.locals m/\∀(i:Nat) (x:Str) (v:V),X.N[i]?=some x->σ[i]?=some (some v)->KZ X.env.scope x->∃u,RelV v u/\Look X.env s.heap m x u
 cell:∀x c,X.env.cells.lookup x=some c->∃v,s.heap.IsCell c v
 free:H X.env.locals=none
 freeC:∀x c,X.env.cells.lookup x=some c->H c=none
 pin:∀p∈X.pn++pins,s.heap.get? p.1=some p.2/\H p.1=none/\p.1≠X.env.locals/\p.1∉X.fs/\∀v,p.2.data≠.cell v
 hok:p0 X.prog X.w H s.heap
 len:σ.length=X.N.length
section
variable{X:Cx}{pins:List (Addr×Obj)}{σ:List (Option V)}{H H':Hp}{s:Shared}{h':Heap}
def Cx.Ok.nofr(ok:X.Ok)(e:X.base.get? b=some o):b∉X.fs:=λa=>by
 have:=(ok.funs.mem a).1
 rw[e] at this;cases this
def Inv.bs(I:Inv X pins σ H s):∀b o,X.base.get? b=some o->s.heap.get? b=some o/\H b=none:=λb o e=>
 ⟨I.base.keep b o (I.ok.bs b o e).1 (I.ok.bs b o e).2 (I.ok.nofr e)<|I.ok.noex b o e,I.base.free b o (I.ok.bs b o e).1 (I.ok.bs b o e).2<|I.ok.noex b o e⟩
def Inv.bk(I:Inv X pins σ H s):∀b o,X.base.get? b=some o->s.heap.get? b=some o:=λb o e=>(I.bs b o e).1
def Inv.mod(I:Inv X pins σ H s):Mod X.K X.mg X.base:=I.ok.mod
def Inv.kIn(I:Inv X pins σ H s):X.K.In s.heap:=I.ok.mod.kin.keeps I.bk
def Inv.lt(I:Inv X pins σ H s):X.env.locals<s.heap.objs.size:=let ⟨_,hn,_⟩:=I.loc;hn.lt
def Inv.sz(I:Inv X pins σ H s):X.s₀.heap.objs.size<=s.heap.objs.size:=QAq I.ok.above (nQl I.lt)
def Inv.nofs(I:Inv X pins σ H s)(h:s.heap.objs.size<=a):a∉X.fs:=λc=>by
 obtain⟨_,o,b,_⟩:=I.ok.funs.mem c
 exact absurd (Qqq (Qiq b)<|QAq I.sz h)<|Nat.lt_irrefl _
def Inv.cne(I:Inv X pins σ H s):∀x c,X.env.cells.lookup x=some c->c≠X.env.locals:=λx c e z=>by
 obtain⟨v,o,d,f⟩:=I.cell x c e
 obtain⟨m,⟨g,i,h,b,a,_⟩,_⟩:=I.loc
 rw[z,b] at d;cases d;rw[a] at f;cases f
theorem Inv.funs(I:Inv X pins σ H s):s.heap.FunFrames X.base X.outer:=by
 have a:∀(l:List Env),(∀b∈IR l,b∈X.fs)->X.s₀.heap.FunFrames X.base l->s.heap.FunFrames X.base l:=by
  intro l
  induction l with
  |nil=>intro _ _;trivial
  | cons k r q=>
    intro g m
    obtain⟨j,⟨L,o,d,i,h,n⟩,p⟩:=m
    have c:L∈X.fs:=g L (by unfold IR;rw[List.filterMap_cons,d];exact QBq)
    obtain⟨t,e⟩:=I.base.slot L o h (I.ok.frf L c) c λz=>I.ok.exfs L z c
    exact⟨j,⟨L,_,d,i,e,n⟩,q (λb f=>g b (by unfold IR;rw[List.filterMap_cons,d];exact Qpq _ f)) p⟩
 exact a X.outer (λ_ f=>f) I.ok.funs
def Inv.stack(I:Inv X pins σ H s):s.heap.FunFrames X.base X.stack:=by
 rcases I.ok.stk with e|⟨e,a⟩
 ·rw[e];exact I.funs
 ·rw[e]
  obtain⟨m,b,_⟩:=I.loc
  refine .cons (by rw[I.ok.kind];decide) a b ?_ I.funs
  exact Heap.get?_none_of_le<|QAq I.ok.bsz I.ok.above
def Inv.stkSub(I:Inv X pins σ H s):∀b∈IR X.stack,b∈X.env.locals::X.fs:=λb a=>by
 rcases I.ok.stk with e|⟨e,c⟩
 ·rw[e] at a;exact Qpq _ a
 ·rw[e] at a
  unfold IR at a
  rw[List.filterMap_cons,c] at a
  exact a
def Inv.stkFree(I:Inv X pins σ H s):∀b∈IR X.stack,H b=none:=λb a=>by
 rcases Qsq.mp (I.stkSub b a) with e|a
 ·rw[e];exact I.free
 ·obtain⟨_,o,c,_⟩:=I.ok.funs.mem a
  exact I.base.free b o c (I.ok.frf b a) λz=>I.ok.exfs b z a
def Inv.step{g':Array GenState}{t':Nat}{d':Drawn}{ch:List Addr}(I:Inv X pins σ H s)
  (h:∀b∈ch,(b∈X.ex\/X.s₀.heap.objs.size<=b)/\b≠X.env.locals/\(∀x c,X.env.cells.lookup x=some c->c≠b)/\∀p∈X.pn++pins,p.1≠b)
  (keep:∀b o,b≠X.env.locals->b∉X.fs->b∉ch->s.heap.get? b=some o->H b=none->h'.get? b=some o)
  (slot:∀b o,b≠X.env.locals->b∈X.fs->b∉ch->s.heap.get? b=some o->H b=none->∃L,h'.get? b=some {o with slots:=L}) (free:∀b o,b∉ch->s.heap.get? b=some o->H b=none->H' b=none)
  (there:∀b o,b∉ch->s.heap.get? b=some o->∃F,h'.get? b=some F)
  (tups:∀b xs,H b=some (.tup xs)->H' b=some (.tup xs)) (frzs:∀b o u,H b=some (.frz o u)->H' b=some (.frz o u)) (tbls:∀b ps,H b=some (.tbl ps)->∃more,H' b=some (.tbl (ps++more)))
  (ns:∀m,s.heap.Ns X.env.locals m->h'.Ns X.env.locals m) (J:p0 X.prog X.w H' h') (hg:AllBare g'):
  Inv X pins σ H' {s with heap:=h',gens:=g',drawn:=d',toks:=t'}:=by
 have C:∀b o,X.s₀.heap.get? b=some o->b≠X.env.locals:=λb o e=>Qwq (Qqq (Qiq e) I.ok.above)
 have j:∀b o,X.s₀.heap.get? b=some o->b∉X.ex->b∉ch:=λb o e a y=>by
  rcases(h b y).1 with z|z
  ·exact a z
  ·exact absurd (Qqq (Qiq e) z)<|Nat.lt_irrefl _
 have g:∀x c,X.env.cells.lookup x=some c->∀v,s.heap.IsCell c v->h'.IsCell c v:=λx c e v S=>by
  obtain⟨o,A,G⟩:=S
  have f:c∉ch:=λz=>(h c z).2.2.1 x c e rfl
  by_cases Q:c∈X.fs
  ·obtain⟨L,q⟩:=slot c o (I.cne x c e) Q f A (I.freeC x c e)
   exact⟨_,q,G⟩
  ·exact⟨o,keep c o (I.cne x c e) Q f A<|I.freeC x c e,G⟩
 refine⟨I.ok,I.os,hg,⟨λb o e n y a=> ?_,λb o e n y a=> ?_,λb o e n a=> ?_,λb o e a=> ?_,λb xs e=>tups b xs<|I.base.tups b xs e,λb o xs e=>frzs b o xs<|I.base.frzs b o xs e,λb ps e=> ?_⟩,?_,λx c e=> ?_,?_,λx c e=> ?_,λp N=> ?_,J,I.len⟩
 ·exact keep b o (C b o e) y (j b o e a) (I.base.keep b o e n y a)<|I.base.free b o e n a
 ·obtain⟨L,t⟩:=I.base.slot b o e n y a
  obtain⟨K,B⟩:=slot b _ (C b o e) y (j b o e a) t (I.base.free b o e n a)
  exact⟨K,B⟩
 ·obtain⟨F,t⟩:=I.base.there b o e a
  exact free b F (j b o e a) t<|I.base.free b o e n a
 ·obtain⟨F,t⟩:=I.base.there b o e a
  exact there b F (j b o e a) t
 ·obtain⟨R,t⟩:=I.base.tbls b ps e
  obtain⟨Y,B⟩:=tbls b _ t
  exact⟨R++Y,by rw[B,Array.append_assoc]⟩
 ·obtain⟨m,U,Z⟩:=I.loc
  refine⟨m,ns m U,λi x v t B W=> ?_⟩
  obtain⟨u,r,l⟩:=Z i x v t B W
  refine⟨u,r,?_⟩
  rcases l with l|⟨k,c,e,z⟩
  ·exact .inl l
  ·exact .inr ⟨k,c,e,g x c e _ z⟩
 ·obtain⟨v,z⟩:=I.cell x c e
  exact⟨v,g x c e v z⟩
 ·obtain⟨m,⟨o,_,_,A,_⟩,_⟩:=I.loc
  exact free _ o (λz=>(h _ z).2.1 rfl) A I.free
 ·obtain⟨v,o,A,G⟩:=I.cell x c e
  exact free c o (λz=>(h c z).2.2.1 x c e rfl) A<|I.freeC x c e
 ·obtain⟨e,n,P,M,d⟩:=I.pin p N
  have f:p.1∉ch:=λz=>(h p.1 z).2.2.2 p N rfl
  exact⟨keep p.1 p.2 P M f e n,free p.1 p.2 f e n,P,M,d⟩
def Inv.un(I:Inv X pins σ H s)(u:Un X.fs [] H H' s.heap h')(f:p0 X.prog X.w H' h'):Inv X pins σ H' {s with heap:=h',toks:=t'}:=by
 obtain⟨m,⟨o,p,q,h,r⟩,_⟩:=id I.loc
 obtain⟨v,j⟩:=u.any h I.free (by simp)
 exact I.step (g':=s.gens) (d':=s.drawn) (ch:= []) (λ_ z=>nomatch z) (λb o _ g _ e n=>u.keep b o e n g (by simp)) (λb o _ g _ e n=>u.slot b o e n g (by simp)) (λb o _ e n=>u.free b o e n (by simp)) (λb o _ e=>u.there b o e (by simp)) u.tups u.frzs u.tbls (λl i=>by
  obtain⟨t,d,c,a,k⟩:=i
  rw[h] at a;cases a
  exact⟨_,d,c,j,k⟩) f I.bare
def Inv.call(I:Inv X pins σ H s)(u:Un (IR X.stack) ch H H' s.heap h')(j:p0 X.prog X.w H' h')(t:AllBare g')
  (f:∀b∈ch,(b∈X.ex\/X.s₀.heap.objs.size<=b)/\b≠X.env.locals/\(∀x c,X.env.cells.lookup x=some c->c≠b)/\∀p∈X.pn++pins,p.1≠b):
  Inv X pins σ H' {s with heap:=h',gens:=g',drawn:=d',toks:=t'}:=by
 obtain⟨m,⟨o,A,B,k,r⟩,_⟩:=id I.loc
 obtain⟨F,i⟩:=u.any k I.free λz=>(f _ z).2.1 rfl
 exact I.step (ch:=ch) f (λb o i v a e n=>u.keep b o e n (λz=>(Qsq.mp (I.stkSub b z)).elim i v) a) (λb o _ _ a e n=>u.any e n a) (λb o a e n=>u.free b o e n a) (λb o a e=>u.there b o e a) u.tups u.frzs u.tbls (λy l=>by
  obtain⟨C,h,g,d,q⟩:=l
  rw[k] at d;cases d
  exact⟨_,h,g,i,q⟩) j t
def Inv.turned(I:Inv X pins σ H s)(k:∀b o,b≠it->s.heap.get? b=some o->h'.get? b=some o)(i:H it=none)(f:it≠X.env.locals)
  (l:it∈X.ex\/X.s₀.heap.objs.size<=it) (t:∀x c,X.env.cells.lookup x=some c->c≠it) (w:∀p∈X.pn++pins,p.1≠it):Inv X pins σ H {s with heap:=h',toks:=t'}:=by
 have d:∀b u,H b=some u->b≠it:=λb u e z=>by rw[z,i] at e;cases e
 refine I.step (g':=s.gens) (d':=s.drawn) (ch:= [it]) (λb A=> ?_) (λb o _ _ a e _=>k b o (λz=>a (by simp[z])) e) (λb o _ _ a e _=>⟨o.slots,k b o (λz=>a (by simp[z])) e⟩) (λ_ _ _ _ n=>n)
  (λb o a e=>⟨o,k b o (λz=>a (by simp[z])) e⟩) (λ_ _ e=>e) (λ_ _ _ e=>e) (λb B e=>⟨#[],by rw[e];simp⟩) (λm g=> ?_) (λb u e=> ?_) I.bare
 ·have e:b=it:=by simpa using A
  subst e
  exact⟨l,f,t,w⟩
 ·obtain⟨o,j,y,h,r⟩:=g
  exact⟨o,j,y,k _ o (Ne.symm f) h,r⟩
 ·refine(I.hok b u e).stay (λc v a q=>k c v ?_ q) (λ_ q=>q) λ_ _ q=>q
  rcases a with z|z
  ·rw[z];exact d b u e
  ·exact d c _ z
def Inv.tok(I:Inv X pins σ H s)(t:Nat):Inv X pins σ H {s with toks:=t}:=I.un (h':=s.heap) (t':=t) Un.refl I.hok
def Inv.kept(I:Inv X pins σ H s)(k:∀b u,s.heap.get? b=some u->h'.get? b=some u):Inv X pins σ H {s with heap:=h',toks:=t'}:=I.un (Un.kept k) (I.hok.kept k)
def Inv.laid(I:Inv X pins σ H s)(k:∀b u,s.heap.get? b=some u->h'.get? b=some u)(c:s.heap.objs.size<=a)(new:dq X.prog X.w (upd H a o) h' a o):
  Inv X pins σ (upd H a o) {s with heap:=h',toks:=t'}:=I.un (Un.laid k c<|I.hok.fresh c) (I.hok.laid k c new)
def Inv.write(I:Inv X pins σ H s)(c:Om (H x))(he:e=x\/H e=some (.own x))(k:∀b u,b≠e->s.heap.get? b=some u->h'.get? b=some u)(a:∃u,h'.get? e=some u)
  (new:dq X.prog X.w (upd H x o) h' x o):Inv X pins σ (upd H x o) {s with heap:=h',toks:=t'}:=I.un (Un.write c he k a) (I.hok.write c he k a new)
def Inv.pins_of(I:Inv X pins σ H s)(h:∀p∈a,s.heap.get? p.1=some p.2/\H p.1=none/\p.1≠X.env.locals/\p.1∉X.fs/\∀v,p.2.data≠.cell v):Inv X a σ H s:=
 ⟨I.ok,I.os,I.bare,I.base,I.loc,I.cell,I.free,I.freeC,λp b=>(mQa.mp b).elim (λz=>I.pin p<|List.mem_append_left _ z) (h p),I.hok,I.len⟩
def Ca{N:List Str}(e:N.Nodup){i j:Nat}{x:Str}(a:N[i]?=some x)(b:N[j]?=some x):i=j:=by
 obtain⟨f,c⟩:=gQs.mp a
 obtain⟨g,d⟩:=gQs.mp b
 exact(List.getElem_inj e).mp (c.trans d.symm)
def Fh{E:Value->Shared->Prop}{Q:Unit->Shared->Prop}(I:Inv X pins σ H s)(hN:X.N.Nodup)(hi:X.N[i]?=some x)(B:Loc X.env.scope x)(r:RelV v u)
  (h:∀s',Inv X pins (σ.set i<|some v) H s'->(∃a,Heap.SameBut a s.heap s'.heap/\(a=X.env.locals\/X.env.cells.lookup x=some a))->Q () s') (hf:X.fn x=true\/X.env.scope.names.lookup x=some .local:=by first|exact .inl rfl|exact .inr rfl|assumption):wpAny M A (storeName X.env x u) Q E s:=by
 obtain⟨m,hn,hl⟩:=id I.loc
 have S:(X.env.scope.kind==.class||(X.env.scope.kind==.module&&X.env.locals !=X.env.globals))=false:=by rw[I.ok.kind];rfl
 have J:i<σ.length:=by rw[I.len];exact(gQs.mp hi).1
 have R:=I.cne
 have g:∀{a:Addr} {h':Heap},(∃o,s.heap.get? a=some o/\H a=none)->Heap.SameBut a s.heap h'->p0 X.prog X.w H h':=λ{a h'} ha f b ob e=>by
  obtain⟨_,_,C⟩:=ha
  refine(I.hok b ob e).stay (λc w' t q=>(f.2 c ?_).trans q) (λ_ q=>q) λ_ _ q=>q
  rintro rfl
  rcases t with rfl|t
  ·rw[C] at e;cases e
  ·rw[C] at t;cases t
 rcases B with G|G
 ·refine wpAny_storeName_local G hn (λh' a0 f=> ?_) S
  obtain⟨oL,_,_,a1,_⟩:=id hn
  refine h _ ⟨I.ok,I.os,I.bare,⟨λb o e n K B=> ?_,λb o e n K B=> ?_,I.base.free,λb o e B=> ?_,I.base.tups,I.base.frzs,I.base.tbls⟩,⟨_,a0,λj y v' l F e3=> ?_⟩,λy c e=> ?_,I.free,I.freeC,λp hp=> ?_,g ⟨oL,a1,I.free⟩ f,by simpa using I.len⟩ ⟨_,f,.inl rfl⟩
  ·exact(f.2 b<|Qwq<|Qqq (Qiq e) I.ok.above).trans (I.base.keep b o e n K B)
  ·obtain⟨sl,l⟩:=I.base.slot b o e n K B
   exact⟨sl,(f.2 b<|Qwq<|Qqq (Qiq e) I.ok.above).trans l⟩
  ·obtain⟨o',l⟩:=I.base.there b o e B
   exact⟨o',(f.2 b<|Qwq<|Qqq (Qiq e) I.ok.above).trans l⟩
  ·by_cases P:j=i
   ·subst P
    rw[hi] at l;cases l
    rw[Qyq J] at F
    cases F
    exact⟨u,r,.inl ⟨G,by simp⟩⟩
   ·rw[QKq (Ne.symm P)] at F
    obtain⟨u',r',q⟩:=hl j y v' l F e3
    refine⟨u',r',?_⟩
    rcases q with⟨k,e⟩|⟨k,c,e,z⟩
    ·refine .inl ⟨k,?_⟩
     have:y≠x:=λe=>P (Ca hN l (e▸hi))
     simp[this,e]
    ·exact .inr ⟨k,c,e,z.sameBut f<|R y c e⟩
  ·obtain⟨w',z⟩:=I.cell y c e
   exact⟨w',z.sameBut f<|R y c e⟩
  ·obtain⟨e,n,ne,nf,d⟩:=I.pin p hp
   exact⟨(f.2 p.1 ne).trans e,n,ne,nf,d⟩
 ·have L:X.fn x=true:=by
   rcases hf with z|z
   ·exact z
   ·rw[z] at G;cases G
  obtain⟨c,t⟩:=I.ok.has x (.inl G)
  obtain⟨w',z⟩:=I.cell x c t
  refine wpAny_storeName_cell I.ok.kind G t z (λh' W f=> ?_)
  obtain⟨oc,U,Y⟩:=id z
  refine h {s with heap:=h'} ⟨I.ok,I.os,I.bare,⟨λb o e n K B=> ?_,λb o e n K B=> ?_,I.base.free,λb o e B=> ?_,I.base.tups,I.base.frzs,I.base.tbls⟩,⟨m,hn.sameBut f<|Ne.symm<|R x c t,λj y v' l F e3=> ?_⟩,λy c' e=> ?_,I.free,I.freeC,λp hp=> ?_,g ⟨oc,U,I.freeC x c t⟩ f,by simpa using I.len⟩ ⟨c,f,.inr t⟩
  ·exact(f.2 b<|Qwq<|Qqq (Qiq e)<|I.ok.cab x c L t).trans (I.base.keep b o e n K B)
  ·obtain⟨sl,l⟩:=I.base.slot b o e n K B
   exact⟨sl,(f.2 b<|Qwq<|Qqq (Qiq e)<|I.ok.cab x c L t).trans l⟩
  ·obtain⟨o',l⟩:=I.base.there b o e B
   exact⟨o',(f.2 b<|Qwq<|Qqq (Qiq e)<|I.ok.cab x c L t).trans l⟩
  ·by_cases P:j=i
   ·subst P
    rw[hi] at l;cases l
    rw[Qyq J] at F
    cases F
    exact⟨u,r,.inr ⟨.inl G,c,t,W⟩⟩
   ·rw[QKq (Ne.symm P)] at F
    obtain⟨u',r',q⟩:=hl j y v' l F e3
    refine⟨u',r',?_⟩
    rcases q with q|⟨k,c',e,z'⟩
    ·exact .inl q
    ·refine .inr ⟨k,c',e,z'.sameBut f ?_⟩
     rintro rfl
     exact P<|Ca hN l (I.ok.inj _ _ _ e t▸hi)
  ·by_cases Z:c'=c
   ·subst Z;exact⟨_,W⟩
   ·obtain⟨w2,z2⟩:=I.cell y c' e
    exact⟨w2,z2.sameBut f Z⟩
  ·obtain⟨e,n,ne,nf,d⟩:=I.pin p hp
   refine⟨(f.2 p.1 ?_).trans e,n,ne,nf,d⟩
   intro q
   rw[q,U] at e
   have q':oc=p.2:=QdQ e
   exact d w' (by rw[←q'];exact Y)
def qd{E:Value->Shared->Prop}{Q:Unit->Shared->Prop}(I:Inv X pins σ H s)(e:X.N.Nodup)(hi:X.N[i]?=some x)(b:Loc X.env.scope x)(r:RelV v u)
  (h:∀a,Inv X pins (σ.set i<|some v) H a->Q () a) (c:X.fn x=true\/X.env.scope.names.lookup x=some .local:=by first|exact .inl rfl|exact .inr rfl|assumption):wpAny M A (storeName X.env x u) Q E s:=
 Fh I e hi b r (λa d _=>h a d) c
def Inv.call'{a:Shared}(I:Inv X pins σ H s)(g:a.os=s.os)(u:Un (IR X.stack) ch H H' s.heap a.heap)(f:p0 X.prog X.w H' a.heap)(i:AllBare a.gens)
  (d:∀b∈ch,(b∈X.ex\/X.s₀.heap.objs.size<=b)/\b≠X.env.locals/\(∀x c,X.env.cells.lookup x=some c->c≠b)/\∀p∈X.pn++pins,p.1≠b):Inv X pins σ H' a:=by
 obtain⟨h',g',d',t',h⟩:=a
 have e:h=s.os:=g
 subst e
 exact I.call (g':=g') (t':=t') (d':=d') u f i d
end
abbrev XK:=Value->Option Addr->Hp->Prop
abbrev St:=List (Option V)
abbrev VK:=V->Hp->Prop
abbrev TE:=St->Hp->VK->Prop
abbrev TT:=St->Hp->(Bool->Hp->Prop)->Prop
abbrev TA:=St->Hp->(List V->Hp->Prop)->Prop
structure Ends where
 nx:St->Hp->Prop
 rt:VK
 bk:St->Hp->Prop:=λ_ _=>False
 ct:St->Hp->Prop:=λ_ _=>False
abbrev TS:=Ends->St->Hp->Prop
def EP(X:Cx)(a:List (Addr×Obj))(d:St)(Q:VK)(u:Value)(c:Shared):Prop:=∃v b,Inv X a d b c/\RelV v u/\Q v b
def TP(X:Cx)(a:List (Addr×Obj))(e:St)(Q:Bool->Hp->Prop)(b:Bool)(d:Shared):Prop:=∃c,Inv X a e c d/\Q b c
def AP(X:Cx)(a:List (Addr×Obj))(f:St)(Q:List V->Hp->Prop)(d:List Value)(e:Shared):Prop:=∃b c,Inv X a f c e/\bI b d/\Q b c
def SP(X:Cx)(b:List (Addr×Obj))(D:Ends)(f:Flow)(d:Shared):Prop:=
 match f with
 |.next=>∃a c,Inv X b a c d/\D.nx a c
 |.brk=>∃a c,Inv X b a c d/\D.bk a c
 |.cont=>∃a c,Inv X b a c d/\D.ct a c
 |.ret u=>∃v a c,Inv X b a c d/\RelV v u/\D.rt v c
def PE(X:Cx)(e:Expr)(t:TE):Prop:=
 ∀(a:List (Addr×Obj)) (s:Shared) (b:St) (H:Hp) (Q:VK),Inv X a b H s->t b H Q->wpAny (model X.prog X.w) X.A (eval e X.env) (EP X a b Q) X.xe s
def PT(X:Cx)(e:Expr)(t:TT):Prop:=
 ∀(a:List (Addr×Obj)) (s:Shared) (b:St) (H:Hp) (Q:Bool->Hp->Prop),Inv X a b H s->t b H Q->wpAny (model X.prog X.w) X.A (isTrue e X.env<|eval e X.env) (TP X a b Q) X.xe s
def PW(X:Cx)(e:Expr)(t:TT):Prop:=
 ∀(b:Sem Value) (a:List (Addr×Obj)) (s:Shared) (c:St) (H:Hp) (Q:Bool->Hp->Prop),Inv X a c H s->t c H Q->wpAny (model X.prog X.w) X.A (isTrue e X.env b) (TP X a c Q) X.xe s
def PW.pt(h:PW X e t):PT X e t:=h _
def PA(X:Cx)(d:List Expr)(t:TA):Prop:=
 ∀(b:Pos) (a:List (Addr×Obj)) (s:Shared) (c:St) (H:Hp) (Q:List V->Hp->Prop),Inv X a c H s->t c H Q->wpAny (model X.prog X.w) X.A (spliced<|backTo b<|starEach d X.env) (AP X a c Q) X.xe s
def PS(X:Cx)(st:Stmt)(t:TS):Prop:=
 ∀(a:List (Addr×Obj)) (s:Shared) (b:St) (H:Hp) (D:Ends),Inv X a b H s->t D b H->wpAny (model X.prog X.w) X.A (exec st X.env) (SP X a D) X.xe s
def uC(X:Cx)(st:List Stmt)(t:TS):Prop:=
 ∀(a:List (Addr×Obj)) (s:Shared) (b:St) (H:Hp) (D:Ends),Inv X a b H s->t D b H->wpAny (model X.prog X.w) X.A (execs st X.env) (SP X a D) X.xe s
def c_{Q b:α->Shared->Prop}{E:Value->Shared->Prop}(h:wpAny M A t Q E s)(c:∀a s,Q a s->b a s):wpAny M A t b E s:=QRq h c λ_ _ x=>x
section
variable{X:Cx}
def LZ(i:Nat):TE:=λa H Q=>∃v,a[i]?=some (some v)/\Q v H
def tC(v:V):TE:=λ_ H Q=>Q v H
def HX(o:X.N[i]?=some x)(q:KZ X.env.scope x)(hd:(x==("__debug__":Str))=false:=by decide)(g:(x==("__classdict__":Str))=false:=by decide):PE X (.Name x pos) (LZ i):=by
 intro f s t H Q I h
 obtain⟨v,e,h⟩:=h
 obtain⟨m,n,p⟩:=I.loc
 obtain⟨u,r,l⟩:=p i x v o e q
 have b:EP X f t Q u s:=⟨v,H,I,r,h⟩
 rcases l with⟨d,k⟩|⟨d,c,j,a⟩
 ·exact wpAny_Name (wpAny_loadName_local I.ok.kind d n k b) hd
 ·rcases d with d|d
  ·exact wpAny_Name (wpAny_loadName_cell I.ok.kind d j a b) hd
  ·exact wpAny_Name (wpAny_loadName_free I.ok.kind d j a b g) hd
def Ln{i j pos}:PE X (.Constant (.int i) j pos) (tC<|.int i):=λ_ _ _ H _ I h=>wpAny_Constant_int ⟨.int i,H,I.tok _,⟨_,rfl⟩,h⟩
def NH{b j pos}:PE X (.Constant (.bool b) j pos) (tC<|.bl b):=λ_ _ _ H _ I h=>Constant_bool ⟨.bl b,H,I,rfl,h⟩
def ME{j pos}:PE X (.Constant .none j pos) (tC .non):=λ_ _ _ H _ I h=>Constant_none ⟨.non,H,I,rfl,h⟩
def LB{x j pos}:PE X (.Constant (.str x) j pos) (tC<|.str x):=λ_ _ _ H _ I h=>Calls.Constant_str ⟨.str x,H,I.tok _,⟨_,rfl⟩,h⟩
def Gl(X:Cx)(x:Str):Prop:=X.env.kindOf x=some .globalImplicit
def yF{E:Value->Shared->Prop}{Q:Value->Shared->Prop}(I:Inv X a d H s)(c:Gl X x)(b:X.mg x=some u)(h:Q u s)
  (hd:(x==("__debug__":Str))=false:=by decide):wpAny (model X.prog X.w) X.A (eval (.Name x pos) X.env) Q E s:=
 Calls.Name_function_global I.ok.kind c (Calls.loadGlobal_global (by rw[I.ok.glob];exact I.mod.glob.keeps I.bk) b h) hd
def oZ{E:Value->Shared->Prop}{Q:Value->Shared->Prop}(I:Inv X a i H s)(g:Gl X x)(b:X.mg x=none)(f:bootBuiltins x=some u)(h:Q u s)
  (c:x≠"__name__":=by decide) (hd:(x==("__debug__":Str))=false:=by decide):wpAny (model X.prog X.w) X.A (eval (.Name x pos) X.env) Q E s:=by
 obtain⟨j,d,e⟩:=I.mod.blt
 exact Calls.Name_function_global I.ok.kind g (Calls.loadGlobal_builtin (by rw[I.ok.glob];exact I.mod.glob.keeps I.bk) b (by rw[I.ok.blt];exact d.keeps I.bk) ((e x c).trans f) h) hd
def yD(b:Gl X x)(a:X.mg x=some u)(r:RelV v u)(hd:(x==("__debug__":Str))=false:=by decide):PE X (.Name x pos) (tC v):=
 λ_ _ _ H _ I h=>yF I b a ⟨v,H,I,r,h⟩ hd
def J2(c:Gl X x)(a:X.mg x=none)(b:bootBuiltins x=some u)(r:RelV v u)(d:x≠"__name__":=by decide)(hd:(x==("__debug__":Str))=false:=by decide):PE X (.Name x pos) (tC v):=
 λ_ _ _ H _ I h=>oZ I c a b ⟨v,H,I,r,h⟩ d hd
variable{a b:Expr}{ta tb:TE}{pos:Pos}
variable{tA tB':TT}{rest:List Expr}
def Pc(t u:TT):TT:=λd H Q=>t d H λc H1=>if c=true then u d H1 Q else Q false H1
def QZ(t u:TT):TT:=λd H Q=>t d H λc H1=>if c=true then Q true H1 else u d H1 Q
def Pr(t:TT):TT:=λd H Q=>t d H λc H1=>Q (!c) H1
def Kw(f:PT X a tA):PW X (.BoolOp .And [a] pos) tA:=by
 intro j d s g H Q I h
 refine isTrue_and (c_ (f d s g H Q I h) λc i e=> ?_)
 cases c with
 |true=>exact isTrue_and_nil e
 |false=>exact e
def Mq(f:PT X a tA):PW X (.BoolOp .Or [a] pos) tA:=by
 intro j d s g H Q I h
 refine isTrue_or (c_ (f d s g H Q I h) λc i e=> ?_)
 cases c with
 |false=>exact isTrue_or_nil e
 |true=>exact e
def LR(i:PT X a tA)(m:PW X (.BoolOp .And (b::rest) pos) tB'):PW X (.BoolOp .And (a::b::rest) pos) (Pc tA tB'):=by
 intro l d s e H Q I h
 refine isTrue_and (c_ (i d s e H _ I h) λc j k=> ?_)
 obtain⟨H1,f,g⟩:=k
 cases c with
 |true=>exact m l d j e H1 Q f g
 |false=>exact⟨H1,f,g⟩
def Nh(i:PT X a tA)(m:PW X (.BoolOp .Or (b::rest) pos) tB'):PW X (.BoolOp .Or (a::b::rest) pos) (QZ tA tB'):=by
 intro l d s e H Q I h
 refine isTrue_or (c_ (i d s e H _ I h) λc j k=> ?_)
 obtain⟨H1,f,g⟩:=k
 cases c with
 |true=>exact⟨H1,f,g⟩
 |false=>exact m l d j e H1 Q f g
def Li(e:PT X a tA):PT X (.UnaryOp .Not a pos) (Pr tA):=by
 intro d s f H Q I h
 exact isTrue_not<|e d s f H (λc H1=>Q (!c) H1) I h
def MY(ta tb:TE):TE:=λd H Q=>ta d H λx H1=>∃c,x=.bl c/\if c=true then tb d H1 Q else Q (.bl false) H1
def Na(ta:TE):TE:=λd H Q=>ta d H λx H1=>∃c,x=.bl c/\Q (.bl (!c)) H1
def LQ{op}{t:TE}(h:PE X a t):PE X (.BoolOp op [a] pos) t:=λc s e H Q I d=>BoolOp_one (h c s e H Q I d)
def La(i:PE X a ta)(m:PE X (.BoolOp .And (b::rest) pos) tb):PE X (.BoolOp .And (a::b::rest) pos) (MY ta tb):=by
 intro d s g H Q I h
 refine BoolOp_and (c_ (i d s g H _ I h) λv k l=> ?_)
 obtain⟨x,H1,f,j,e⟩:=l
 obtain⟨c,rfl,e⟩:=e
 cases j
 refine wpAny_truthy_bool ?_
 cases c with
 |true=>exact m d k g H1 Q f e
 |false=>exact⟨.bl false,H1,f,rfl,e⟩
def Mt(f:PE X a ta):PE X (.UnaryOp .Not a pos) (Na ta):=by
 intro d s k H Q I h
 refine UnaryOp_ (c_ (f d s k H _ I h) λv l g=> ?_)
 obtain⟨x,H1,j,i,e⟩:=g
 obtain⟨c,rfl,e⟩:=e
 cases i
 exact not_of<|wpAny_truthy_bool ⟨.bl (!c),H1,j,rfl,e⟩
def Q4(t:TT)(ta tb:TE):TE:=λd H Q=>t d H λc H1=>if c=true then ta d H1 Q else tb d H1 Q
def Ht(m:PT X c tA)(k:PE X a ta)(n:PE X b tb):PE X (.IfExp c a b pos) (Q4 tA ta tb):=by
 intro e s f H Q I h
 refine wpAny_IfExp (c_ (m e s f H _ I h) λd g l=> ?_)
 obtain⟨H1,i,j⟩:=l
 cases d with
 |true=>exact k e g f H1 Q i j
 |false=>exact n e g f H1 Q i j
end
def je(K:PySem.W.Frag)(H:Hp)(a:Addr)(xs:List V):Prop:=
 Rd H a (.lst xs)∨
  ∃(o:Obj) (b:Array Value) (n:Nat),K.lookup a=some o/\o.cls=.type "list" /\o.dict=none/\o.data=.seq b n/\b.size<=sizeLine/\bI xs b.toList
def jq(K:PySem.W.Frag)(H:Hp)(a:Addr)(xs:List V):Prop:=
 Rd H a (.tup xs)∨
  ∃(o:Obj) (b:Array Value) (n:Nat),K.lookup a=some o/\o.cls=.type "tuple" /\o.data=.seq b n/\b.size<=sizeLine/\bI xs b.toList
def O_:Value->Option V
 |.none=>some .non
 |.bool b=>some (.bl b)
 |.int i _=>some (.int i)
 |.str x _=>some (.str x)
 |.bytes b _=>some (.byt b)
 |.float b _=>some (.flt b)
 |.ref a=>some (.ref a)
 |.type n=>some (.ty n)
 |_=>none
def RelV.abs(r:RelV x u):O_ u=some x:=by
 cases x with
 |non=>cases r;rfl
 |bl _=>cases r;rfl
 |int _=>obtain⟨t,rfl⟩:=r;rfl
 |str _=>obtain⟨t,rfl⟩:=r;rfl
 |byt _=>obtain⟨t,rfl⟩:=r;rfl
 |flt _=>obtain⟨t,rfl⟩:=r;rfl
 |ref _=>cases r;rfl
 |ty _=>cases r;rfl
def RelV.inj(r:RelV x u)(q:RelV y u):x=y:=QdQ (r.abs.symm.trans q.abs)
theorem bI.inj:∀{xs ys:List V} {a:List Value},bI xs a->bI ys a->xs=ys
 |_,_,_,.nil,.nil=>rfl
 |_,_,_,.cons r t,.cons r' t'=>by rw[r.inj r',bI.inj t t']
section
variable{X:Cx}{pins:List (Addr×Obj)}{σ:St}{H:Hp}{s:Shared}{a:Addr}{xs ys:List V}
def je.of{K:PySem.W.Frag}(h:H a=some (.lst xs)):je K H a xs:=.inl (.inl h)
def jq.of{K:PySem.W.Frag}(h:H a=some (.tup xs)):jq K H a xs:=.inl (.inl h)
def Inv.list(I:Inv X pins σ H s)(h:je X.K H a xs):∃b:List Value,bI xs b/\PlainL s.heap a b.toArray/\xs.length<=sizeLine:=by
 rcases h with h|⟨o,b,n,c,f,g,d,i,r⟩
 ·obtain⟨z,b,n,r,e⟩:=h.ok I.hok
  exact⟨b,r,⟨_,n,e,rfl,rfl,rfl⟩,z⟩
 ·refine⟨b.toList,r,⟨o,n,I.kIn a o c,f,g,by simpa using d⟩,?_⟩
  have e:=r.length
  simp only[Array.length_toList] at e
  omega
def Inv.tuple(I:Inv X pins σ H s)(h:jq X.K H a xs):∃b:List Value,bI xs b/\IsTup s.heap a b.toArray/\xs.length<=sizeLine:=by
 rcases h with h|⟨o,b,n,c,f,d,g,r⟩
 ·obtain⟨z,b,r,p⟩:=h.ok I.hok
  exact⟨b,r,p.it,z⟩
 ·refine⟨b.toList,r,⟨o,I.kIn a o c,f,n,by simpa using d⟩,?_⟩
  have e:=r.length
  simp only[Array.length_toList] at e
  omega
def Inv.list_inj(I:Inv X pins σ H s)(h:je X.K H a xs)(h':je X.K H a ys):xs=ys:=by
 obtain⟨c,r,⟨o,n,e,_,_,d⟩,_⟩:=I.list h
 obtain⟨b,j,⟨k,l,g,_,_,f⟩,_⟩:=I.list h'
 rw[e] at g;cases g
 rw[d] at f
 injection f with i _
 have:c=b:=by simpa using congrArg Array.toList i
 subst this
 exact r.inj j
def Inv.tuple_inj(I:Inv X pins σ H s)(h:jq X.K H a xs)(h':jq X.K H a ys):xs=ys:=by
 obtain⟨c,r,⟨o,e,_,n,d⟩,_⟩:=I.tuple h
 obtain⟨b,j,⟨k,g,_,l,f⟩,_⟩:=I.tuple h'
 rw[e] at g;cases g
 rw[d] at f
 injection f with i _
 have:c=b:=by simpa using congrArg Array.toList i
 subst this
 exact r.inj j
end
abbrev Cx.wish(X:Cx)(E:Value->Shared->Prop):Cx:={X with xe:=E}
abbrev Cx.nox(X:Cx):Cx:=X.wish λ_ _=>False
def Cx.Ok.wish{X:Cx}(ok:X.Ok)(E:Value->Shared->Prop):(X.wish E).Ok:=
 ⟨ok.mod,ok.kind,ok.glob,ok.blt,ok.above,ok.inj,ok.has,ok.cab,ok.hd,ok.frames,ok.stk,ok.exf,ok.bs,ok.bsz,ok.noex,ok.exfs,ok.funs,ok.frf⟩
def Cx.Ok.unwish{X:Cx}{E:Value->Shared->Prop}(ok:(X.wish E).Ok):X.Ok:=
 ⟨ok.mod,ok.kind,ok.glob,ok.blt,ok.above,ok.inj,ok.has,ok.cab,ok.hd,ok.frames,ok.stk,ok.exf,ok.bs,ok.bsz,ok.noex,ok.exfs,ok.funs,ok.frf⟩
section
variable{X:Cx}{pins:List (Addr×Obj)}{σ:St}{H:Hp}{s:Shared}{E:Value->Shared->Prop}
def Inv.wish(I:Inv X pins σ H s)(E:Value->Shared->Prop):Inv (X.wish E) pins σ H s:=⟨I.ok.wish E,I.os,I.bare,I.base,I.loc,I.cell,I.free,I.freeC,I.pin,I.hok,I.len⟩
def Inv.unwish(I:Inv (X.wish E) pins σ H s):Inv X pins σ H s:=⟨I.ok.unwish,I.os,I.bare,I.base,I.loc,I.cell,I.free,I.freeC,I.pin,I.hok,I.len⟩
theorem SP.unwish{D:Ends}(h:SP (X.wish E) pins D f c):SP X pins D f c:=by
 cases f with
 |next=>obtain⟨a,b,I,q⟩:=h;exact⟨a,b,I.unwish,q⟩
 |brk=>obtain⟨a,b,I,q⟩:=h;exact⟨a,b,I.unwish,q⟩
 |cont=>obtain⟨a,b,I,q⟩:=h;exact⟨a,b,I.unwish,q⟩
 |ret u=>obtain⟨v,a,b,I,r,q⟩:=h;exact⟨v,a,b,I.unwish,r,q⟩
def uC.nox{st:List Stmt}{t:TS}(h:uC X.nox st t):uC X st t:=λpins s σ H D I a=>
 QRq (h pins s σ H D (I.wish _) a) (λ_ _ q=>q.unwish) λ_ _ z=>False.elim z
end
section
variable{X:Cx}{st:Stmt}{rest:List Stmt}{t u:TS}{e:Expr}{te:TE}{pos:Pos}
def MZ:TS:=λD a H=>D.nx a H
def Px(t u:TS):TS:=λD a H=>t {D with nx:=u D} a H
def Kb:uC X [] MZ:=λ_ _ a H _ I h=>wpAny_execs_nil ⟨a,H,I,h⟩
def HN(c:PS X st t)(k:uC X rest u):uC X (st::rest) (Px t u):=by
 intro a s i H D I h
 refine wpAny_execs_cons (c_ (c a s i H {D with nx:=u D} I h) λf d q=> ?_)
 cases f with
 | next=>
   obtain⟨b,j,g,q⟩:=q
   exact k a d b j D g q
 |ret v=>exact q
 |brk=>exact q
 |cont=>exact q
def Kp(b:PS X st t):uC X [st] t:=by
 intro a s c H D I h
 refine wpAny_execs_cons (c_ (b a s c H D I h) λf d q=> ?_)
 cases f with
 |next=>exact wpAny_execs_nil q
 |ret v=>exact q
 |brk=>exact q
 |cont=>exact q
def Inv.quiet(I:Inv X a b H s):interactive X.env=false:=by simp[interactive,I.ok.kind]
def M1(te:TE):TS:=λD a H=>te a H λ_ H1=>D.nx a H1
def JI(he:PE X e te)(hs:swapsWith e none pos.line X.env=pure false:=by rfl):PS X (.Expr e pos) (M1 te):=by
 intro a s b H D I h
 exact wpAny_Expr_any (c_ (he a s b H _ I h) λv f ⟨x,H1,c,g,d⟩=>⟨b,H1,c,d⟩) I.quiet hs
def Pe(te:TE):TS:=λD a H=>te a H D.rt
def GR(he:PE X e te):PS X (.Return (some e) pos) (Pe te):=by
 intro a s b H D I h
 exact wpAny_Return_some (c_ (he a s b H _ I h) λv g ⟨x,H1,d,c,f⟩=>⟨x,b,H1,d,c,f⟩)
def P7(c:TT)(t u:TS):TS:=λD a H=>c a H λb H1=>if b=true then t D a H1 else u D a H1
def M8(o:PT X c i)(m:uC X a t)(p:uC X b u):PS X (.If c a b pos) (P7 i t u):=by
 intro f s g H D I h
 refine wpAny_If (c_ (o f s g H _ I h) λd j n=> ?_)
 obtain⟨H1,k,l⟩:=n
 cases d with
 |true=>exact m f j g H1 D k l
 |false=>exact p f j g H1 D k l
def Mm:TS:=λ_ _ _=>False
def HV:PS X st Mm:=λ_ _ _ _ _ _ h=>h.elim
end
abbrev TG:=V->St->Hp->(St->Hp->Prop)->Prop
abbrev HB:=List V->St->Hp->(St->Hp->Prop)->Prop
def PG(X:Cx)(a:Expr)(t:TG):Prop:=
 ∀ (b:List (Addr×Obj)) (s:Shared) (d:St) (H:Hp) (v:V) (u:Value) (Q:St->Hp->Prop),Inv X b d H s->RelV v u->t v d H Q→
   wpAny (model X.prog X.w) X.A (assign a X.env u) (λ_ f=>∃c e,Inv X b c e f/\Q c e) X.xe s
def GC(X:Cx)(ts:List Expr)(t:HB):Prop:=
 ∀ (a:List (Addr×Obj)) (s:Shared) (e:St) (H:Hp) (d:List V) (c:List Value) (Q:St->Hp->Prop),Inv X a e H s->bI d c->t d e H Q→
   wpAny (model X.prog X.w) X.A (assignInOrder ((assignEach ts X.env).map (·.2)) c) (λ_ g=>∃b f,Inv X a b f g/\Q b f) X.xe s
abbrev Il:=V->V->V->Hp->(Hp->Prop)->Prop
def MA(X:Cx)(t:Il):Prop:=
 ∀ (a:List (Addr×Obj)) (s:Shared) (c:St) (H:Hp) (o i v:V) (e d u:Value) (Q:Hp->Prop),Inv X a c H s->RelV o e->RelV i d->RelV v u->t o i v H Q→
   wpAny (model X.prog X.w) X.A (setItem e d u) (λ_ f=>∃b,Inv X a c b f/\Q b) X.xe s
abbrev OH:=V->V->Hp->VK->Prop
def QC(X:Cx)(c:Operator)(t:OH):Prop:=
 ∀ (a:List (Addr×Obj)) (s:Shared) (b:St) (H:Hp) (x y:V) (v u:Value) (Q:VK),Inv X a b H s->RelV x v->RelV y u->t x y H Q→
   wpAny (model X.prog X.w) X.A (inplaceOp c v u) (EP X a b Q) X.xe s
section
variable{X:Cx}{pos:Pos}
def qm(i:Nat):TG:=λv a H Q=>Q (a.set i<|some v) H
def y9(e:X.N.Nodup)(hi:X.N[i]?=some x)(b:Loc X.env.scope x)(c:X.fn x=true\/X.env.scope.names.lookup x=some .local:=by first|exact .inl rfl|exact .inr rfl|assumption):PG X (.Name x pos) (qm i):=by
 intro a s g H v u Q I r h
 exact wpAny_assign_Name<|qd I e hi b r (λf d=>⟨_,H,d,h⟩) c
def Py:HB:=λa b H Q=>a= []/\Q b H
def Ou(t:TG)(u:HB):HB:=λb c H Q=>∃v r,b=v::r/\t v c H λa d=>u r a d Q
def JF:GC X [] Py:=by
 intro a s b H d c Q I r h
 obtain⟨e,h⟩:=h
 subst e
 cases r
 exact assignInOrder_nil ⟨b,H,I,h⟩
def Hy(d:PG X e t)(i:GC X b u)
  (hs:(assignEach (e::b) X.env).map (·.2)=assign e X.env::(assignEach b X.env).map (·.2):=by rfl):GC X (e::b) (Ou t u):=by
 intro a s n H q p Q I r h
 obtain⟨v,o,f,h⟩:=h
 subst f
 cases r with
 | cons r l=>
   rw[hs]
   refine assignInOrder_cons (c_ (d a s n H _ _ _ I r h) λ_ g m=> ?_)
   obtain⟨c,H1,j,k⟩:=m
   exact i a g c H1 _ _ Q j l k
def P5(K:PySem.W.Frag)(n:Nat)(t:HB):TG:=λv c H Q=>∃a b,v=.ref a/\jq K H a b/\b.length=n/\t b c H Q
def LU(C:X.calm=true)(h:GC X d t)
  (p:(assignEach d X.env).length=n:=by rfl) (f:(assignEach d X.env).findIdx? (·.1)=none:=by rfl):PG X (.Tuple d k pos) (P5 X.K n t):=by
 intro c s j H v u Q I r g
 obtain⟨a,q,x,m,z,g⟩:=g
 subst x
 cases r
 obtain⟨A,i,l,F⟩:=I.tuple m
 refine assign_Tuple_tuple (I.ok.hd C) l (by simp[p,←z,i.length]) f λy w=> ?_
 have B:Inv X c j H {s with heap:=y}:=I.kept (t':=s.toks) λb o e=>w b o (Qwq<|Qiq e) e
 exact h c _ j H q _ Q B (by simpa using i) g
def NB(c b:TE)(t:Il):TG:=λv a H Q=>c a H λo H1=>b a H1 λi H2=>t o i v H2 λH3=>Q a H3
def Le(j:PE X o g)(hi:PE X i f)(hs:MA X t)
  (k:∀v,assign (.Subscript o i pos) X.env v=(do
   let b←holding [v] (eval o X.env)
   let c←holding [v,b] (eval i X.env)
   standAt pos
   holding [v,b,c] (setItem b c v)
   release [v,b,c] []):=by intro _;rfl):PG X (.Subscript o i pos) (NB g f t):=by
 intro a s e H v u Q I r h
 rw[k]
 refine Qaq<|QLq (c_ (j a s e H _ I h) λb q d=> ?_)
 obtain⟨x,H1,z,n,A⟩:=d
 refine Qaq<|QLq (c_ (hi a q e H1 _ z A) λc p d=> ?_)
 obtain⟨y,H2,m,B,C⟩:=d
 refine Qaq<|wpAny_standAt<|Qaq<|QLq (c_ (hs a p e H2 x y v b c u _ m n B r C) λ_ F d=> ?_)
 obtain⟨H3,l,w⟩:=d
 exact wpAny_release ⟨e,H3,l,w⟩
def FR(b:TE)(g:TG):TS:=λD a H=>b a H λx H1=>g x a H1 D.nx
def LY(he:PE X e b)(m:PG X tg g)(hs:swapsWithSole [tg] e pos.line X.env=pure false:=by rfl)(j:swappedStores [tg] e X.env=pure none:=by rfl)
  (f:(assignEach [tg] X.env).map (·.2)= [assign tg X.env]:=by rfl):PS X (.Assign [tg] e pos) (FR b g):=by
 intro a s c H D I h
 refine wpAny_Assign_stores (c_ (he a s c H _ I h) λv i ⟨x,H1,k,d,l⟩=> ?_) hs j
 rw[f]
 exact c_ (m a i c H1 x v _ k d l) λ_ n q=>q
def Mi(g:X.N.Nodup)(hi:X.N[i]?=some x)(j:Loc X.env.scope x)(he:PE X e c)(hs:swapsWith e (some<|.Name x a) pos.line X.env=pure false:=by rfl)(k:X.fn x=true\/X.env.scope.names.lookup x=some .local:=by first|exact .inl rfl|exact .inr rfl|assumption):
  PS X (.Assign [.Name x a] e pos) (FR c<|qm i):=by
 intro b s n H D I h
 refine wpAny_Assign_Name (c_ (he b s n H _ I h) λv p ⟨y,H1,l,f,m⟩=> ?_) hs
 exact qd l g hi j f (λo d=>⟨_,H1,d,m⟩) k
def NA(i j:Nat)(c:TA):TS:=λD a H=>c a H λb H1=>∃v w,b= [v,w]/\D.nx ((a.set i<|some v).set j (some w)) H1
def Lq{i j:Nat}{x y:Str}{a b:Expr}{B:TA}{l m n:Pos}{kt k2 pt2}(hc:X.calm=true)(z:X.N.Nodup)(hi:X.N[i]?=some x)(S:X.N[j]?=some y)(t:i≠j)
  (C:X.env.scope.names.lookup x=some .local) (G:X.env.scope.names.lookup y=some .local) (K:PA X [a,b] B)
  (R:swappedStores [.Tuple [.Name x l,.Name y m] kt n] (.Tuple [a,b] k2 pt2) X.env=pure (some [x,y]))
  (hs:swapsWithSole [.Tuple [.Name x l,.Name y m] kt n] (.Tuple [a,b] k2 pt2) pos.line X.env=pure false:=by rfl):
  PS X (.Assign [.Tuple [.Name x l,.Name y m] kt n] (.Tuple [a,b] k2 pt2) pos) (NA i j B):=by
 intro c s F H D I h
 rw[exec_Assign_arm]
 refine Qaq<|wpAny_standAt ?_
 rw[hs]
 refine Qaq<|Qgq ?_
 rw[Quq (by decide)]
 refine Qaq<|Tuple_ (c_ (K _ c s F H _ I h) λW d Y=> ?_)
 obtain⟨vs,H1,U,P,r⟩:=Y
 obtain⟨v,w,Q,r⟩:=r
 subst Q
 obtain⟨g,f,rfl,rv,rw'⟩:∃g f,W= [g,f]/\RelV v g/\RelV w f:=by
  cases P with
  | cons p q=>
    cases q with
    | cons p' Z=>
      cases Z
      exact⟨_,_,rfl,p,p'⟩
 refine QhQ ?_ (by show 2<=_;decide)
 have M:Inv X c F H1 {d with heap:=d.heap.push {cls:=.type "tuple",data:=.seq [g,f].toArray}}:=U.kept (t':=d.toks) λb o e=>Qcq _ e
 rw[R]
 refine Qaq<|Qgq ?_
 show wpAny (model X.prog X.w) X.A (do rule "assign.swapped-stores";let items←unpackItems (.ref d.heap.objs.size) 2 none;assignInOrder [λv=>bindName X.env y v,λv=>bindName X.env x v] items.reverse;pure Flow.next) _ _ _
 refine Qaq<|wpAny_rule<|Qaq (unpackItems_tuple (items:= #[g,f]) (I.ok.hd hc) (IsTup.new d.heap _) λh' k=> ?_)
 have J:=M.kept (h':=h') (t':=d.toks) λb o e=>k b o (Qwq<|Qiq e) e
 show wpAny _ _ (assignInOrder [λv=>bindName X.env y v,λv=>bindName X.env x v] [f,g] >>= λ_=>pure Flow.next) _ _ _
 refine Qaq<|assignInOrder_cons<|wpAny_bindName<|qd J z S (.inl G) rw' (λs2 L=> ?_)<|.inr G
 refine assignInOrder_cons<|wpAny_bindName<|qd L z hi (.inl C) rv (λs3 u=>assignInOrder_nil<|Qgq ?_)<|.inr C
 rw[List.set_comm _ _ (Ne.symm t)] at u
 exact⟨_,H1,u,r⟩
def Nr(h f e:TE)(a:V->V->Hp->VK->Prop)(d:OH)(b:Il):TS:=λD c H=>h c H λo H1=>f c H1 λi H2=>a o i H2 λx H3=>e c H3 λy H4=>d x y H4 λz H5=>b o i z H5 λg=>D.nx c g
def NN(X:Cx)(t:V->V->Hp->VK->Prop):Prop:=
 ∀ (a:List (Addr×Obj)) (s:Shared) (b:St) (H:Hp) (o i:V) (d c:Value) (Q:VK),Inv X a b H s->RelV o d->RelV i c->t o i H Q→
   wpAny (model X.prog X.w) X.A (getItem d c) (EP X a b Q) X.xe s
def JW(y:PE X o w)(hi:PE X i q)(hg:NN X b)(he:PE X e p)(J:QC X r l)(hs:MA X c)
  (z:∀d f new,augStore i d f new=(do holding [new,d,f] (setItem d f new);release [new,d,f] [];pure .next):=by intros;rfl):PS X (.AugAssign (.Subscript o i k) r e pos) (Nr w q p b l c):=by
 intro a s j H D I h
 refine wpAny_AugAssign_SubscriptAny (c_ (y a s j H _ I h) λd Q ⟨u,H1,I1,n,q1⟩=> ?_) z
 refine c_ (hi a Q j H1 _ I1 q1) λf L g=> ?_
 obtain⟨x,H2,B,t,q2⟩:=g
 refine c_ (hg a L j H2 u x d f _ B n t q2) λm G g=> ?_
 obtain⟨x3,H3,A,r3,U⟩:=g
 refine c_ (he a G j H3 _ A U) λv C g=> ?_
 obtain⟨x4,H4,F,Z,q4⟩:=g
 refine c_ (J a C j H4 x3 x4 m v _ F r3 Z q4) λnew S g=> ?_
 obtain⟨R,H5,M,Y,N⟩:=g
 exact c_ (hs a S j H5 u x R d f new _ M n t Y N) λ_ s6 ⟨W,P,K⟩=>⟨j,W,P,K⟩
def Q9(f:Int->Int->Int):OH:=λx y H Q=>∃i j,x=.int i/\y=.int j/\Q (.int (f i j)) H
def Lr:QC X .Add (Q9 λi j=>i+j):=by
 intro a s g H x y v u Q I b e h
 obtain⟨i,j,d,c,q⟩:=h
 subst d;subst c
 obtain⟨t,rfl⟩:=b
 obtain⟨f,rfl⟩:=e
 exact iadd_int ⟨.int _,H,I.tok _,⟨_,rfl⟩,q⟩
end
section
variable{X:Cx}{pos:Pos}
def Lo(c:TT)(g:TS):TS:=λD a H=>∃W:Nat->St->Hp->Prop,(∃m,W m a H)/\∀m a H,W m a H→
 c a H λb H1=>if b=true then∃N:St->Hp->Prop,(∀d f,N d f->∃e,e<m/\W e d f)/\g {D with nx:=N,ct:=N,bk:=D.nx} a H1 else D.nx a H1
def GM(x:PassesOwn (model X.prog X.w) X.A X.env X.xe)(M:PT X c t)(R:uC X g z):PS X (.While c g [] pos) (Lo t z):=by
 intro d s Q H D I h
 obtain⟨W,⟨J,S⟩,j⟩:=h
 refine wpAny_While<|codeAny_whileLoop (λn G=>∃i B,Inv X d i B G/\W n i B) ?_ J ⟨Q,H,I,S⟩
 rintro n F ⟨e,H1,K,P⟩
 refine wpAny_passesOwn x (c_ (M d F e H1 _ K<|j n e H1 P) λb C L=> ?_)
 obtain⟨H2,u,l⟩:=L
 cases b with
 | true=>
   obtain⟨N,y,l⟩:=l
   rw[Qhq rfl]
   refine wpAny_passesOwn x (c_ (R d C e H2 _ u l) λf U k=> ?_)
   cases f with
   | next=>
     obtain⟨a,H3,o,r⟩:=k
     obtain⟨p,m,q⟩:=y a H3 r
     exact⟨p,m,a,H3,o,q⟩
   | cont=>
     obtain⟨a,H3,o,r⟩:=k
     obtain⟨p,m,q⟩:=y a H3 r
     exact⟨p,m,a,H3,o,q⟩
   |brk=>exact k
   |ret v=>exact k
 | false=>
   rw[Quq Qtq]
   exact wpAny_execs_nil ⟨e,H2,u,l⟩
end
structure It where
 go:Nat->Hp->Prop
 yld:Nat->Hp->V->Hp->Prop
 stop:Nat->Hp->Prop
def sP(X:Cx)(a:List (Addr×Obj))(H:Hp)(b:Addr):Prop:=
 H b=none/\b≠X.env.locals/\b∉X.fs/\(b∈X.ex\/X.s₀.heap.objs.size<=b)/\(∀x c,X.env.cells.lookup x=some c->c≠b)/\∀p∈X.pn++a,p.1≠b
def Inv.fpOk{H f:Hp}(I:Inv X a i H s)(d:s.heap.objs.size<=b)(h:f b=none):sP X a f b:=by
 refine⟨h,Nat.ne_of_gt<|Qqq I.lt d,I.nofs d,.inr (QAq I.sz d),λx c e z=> ?_,λp g z=> ?_⟩
 ·obtain⟨v,q⟩:=I.cell x c e
  exact absurd (Qqq q.lt (by rw[z];exact d))<|Nat.lt_irrefl _
 ·exact absurd (Qqq (Qiq (I.pin p g).1) (by rw[z];exact d))<|Nat.lt_irrefl _
structure Turn(P:Program)(w:World)(K:PySem.W.Frag)(tg:Expr)(J:It)(fp:List Addr)(it:Addr)(tn:Nat->Heap->Prop):Prop where
 mem:it∈fp
 obj:∀i h,tn i h->∀b∈fp,∃o,h.get? b=some o/\∀v,o.data≠.cell v
 keep:∀i h h',tn i h->(∀b∈fp,∀o,h.get? b=some o->h'.get? b=some o)->tn i h'
 item:∀(X:Cx),X.prog=P->X.w=w->X.K=K->X.calm=true->∀(i:Nat) (pins:List (Addr×Obj)) (s:Shared) (σ:St) (H:Hp) (E:Value->Shared->Prop),Inv X pins σ H s->(∀b∈fp,sP X pins H b)->tn i s.heap->J.go i H→
  wpAny (model P w) X.A (pyNext (.ref it)) (λr s1=>∃u,r=some u∧
   wpAny (model P w) X.A (letOwnedTupleGo tg (.ref it) u) (λ_ s2=>∃x H',Inv X pins σ H' s2/\RelV x u/\J.yld i H x H'/\tn (i+1) s2.heap/\∀b∈fp,H' b=none) E s1) E s
 done:∀(X:Cx),X.prog=P->X.w=w->X.K=K->X.calm=true->∀(i:Nat) (pins:List (Addr×Obj)) (s:Shared) (σ:St) (H:Hp) (E:Value->Shared->Prop),Inv X pins σ H s->(∀b∈fp,sP X pins H b)->tn i s.heap->J.stop i H→
  wpAny (model P w) X.A (pyNext<|.ref it) (λr s1=>r=none/\Inv X pins σ H s1) E s
 self:∀(A:Around) (i:Nat) (s:Shared) (Q:Value->Shared->Prop) (E:Value->Shared->Prop),tn i s.heap->Q (.ref it) s->wpAny (model P w) A (pyIter<|.ref it) Q E s
abbrev TI:=St->Hp->(It->Hp->Prop)->Prop
def QX(X:Cx)(a:List (Addr×Obj))(i:St)(tg:Expr)(R:It->Hp->Prop)(c:Value)(g:Shared):Prop:=
 ∃(f:Addr) (h:List Addr) (e:Nat->Heap->Prop) (J:It) (d:Hp),c=.ref f/\Inv X a i d g/\Turn X.prog X.w X.K tg J h f e/\e 0 g.heap/\(∀b∈h,sP X a d b)/\R J d
def PI(X:Cx)(tg b:Expr)(e:TI):Prop:=
 ∀ (a:List (Addr×Obj)) (s:Shared) (c:St) (H:Hp) (R:It->Hp->Prop),Inv X a c H s->e c H R→
   wpAny (model X.prog X.w) X.A (eval b X.env) (λv d=>wpAny (model X.prog X.w) X.A (pyIter v) (QX X a c tg R) X.xe d) X.xe s
def IA{E:Value->Shared->Prop}{s:Shared}{Q:Unit->Shared->Prop}(b:s.heap.get? it=some o)(c:o.cls=.type n)(hd:o.data=.fields vs)
    (d: ["enumerate","zip","dict_itemiterator","dict_reverseitemiterator","odict_iterator","itertools.zip_longest","itertools.pairwise"].contains n=false) (a:Q () s):wpAny M A (letOwnedTupleGo tg (.ref it) u) Q E s:=by
  unfold letOwnedTupleGo
  cases tg <;>first
    |exact Qgq a
    |(cases u <;>first
        |exact Qgq a
        |(refine Qaq (wpAny_load b ?_)
          rw[c,hd]
          show wpAny M A (if (["enumerate","zip","dict_itemiterator","dict_reverseitemiterator","odict_iterator","itertools.zip_longest","itertools.pairwise"].contains n&&vs[0]? ==some (rawInt _))=true then _ else _) Q E s
          rw[Quq (by intro h;rw[d,Bool.false_and] at h;cases h)]
          exact Qgq a))
def QR(K:PySem.W.Frag)(a:Addr):It:=
 ⟨λi H=>∃b x,je K H a b/\b[i]?=some x,λi H x c=>c=H/\∀b,je K H a b->b[i]?=some x,λi H=>∃b,je K H a b/\b.length<=i⟩
def Qj(K:PySem.W.Frag)(a:Addr):It:=
 ⟨λi H=>∃b x,jq K H a b/\b[i]?=some x,λi H x c=>c=H/\∀b,jq K H a b->b[i]?=some x,λi H=>∃b,jq K H a b/\b.length<=i⟩
def Oy(lo:Int)(n:Nat):It:=⟨λi _=>i<n,λi H x a=>a=H/\x=.int (lo+i),λi _=>n<=i⟩
def Gv{P:Program}{w:World}{K:PySem.W.Frag}{tg:Expr}(a it:Addr):Turn P w K tg (QR K a) [it] it (λi h=>h.IsListIter it a i) where
 mem:=by simp
 obj:=λi h f b j=>by
  have e:b=it:=by simpa using j
  subst e
  obtain⟨o,e,c,d⟩:=f
  exact⟨o,e,λv z=>by rw[d] at z;cases z⟩
 keep:=λi h n f k=>f.at λo e=>k it (by simp) o e
 item:=by
  intro X t C J R i g s Q H E I q f M
  subst t C J
  obtain⟨Y,x,m,B⟩:=M
  obtain⟨G,r,p,hz⟩:=I.list m
  obtain⟨u,hu,U⟩:=r.get B
  obtain⟨F,N,f2,L,y,A⟩:=q it (by simp)
  refine wpAny_pyNext_list_item f p.isList (x:=u) (by simpa using hu) λn l Z=> ?_
  have I1:Inv X g Q H {s with heap:=n}:=I.turned (t':=s.toks) (λb o j e=>(Z.2 b j).trans e) F N L y A
  obtain⟨o,e,c,d⟩:=id l
  exact⟨u,rfl,IA (s:={s with heap:=n}) e c d (by decide) ⟨x,H,I1,U,⟨rfl,λys hy=>by rw[I.list_inj hy m];exact B⟩,l,λb j=>(q b j).1⟩⟩
 done:=by
  intro X t C J R i g s Q H E I q f M
  subst t C J
  obtain⟨Y,m,B⟩:=M
  obtain⟨G,r,p,hz⟩:=I.list m
  obtain⟨F,N,f2,L,y,A⟩:=q it (by simp)
  have hl:=r.length
  exact wpAny_pyNext_list_end (I.ok.hd R) f p.isList (by simp;omega) λn S=>⟨rfl,I.turned (t':=s.toks) (λb o j e=>S b o j e) F N L y A⟩
 self:=λ_ _ _ _ _ f h=>wpAny_pyIter_listiter f h
def DI{P:Program}{w:World}{K:PySem.W.Frag}{tg:Expr}(a it:Addr):Turn P w K tg (Qj K a) [it] it (λi h=>h.IsTupleIter it a i) where
 mem:=by simp
 obj:=λi h f b l=>by
  have e:b=it:=by simpa using l
  subst e
  obtain⟨o,e,c,d⟩:=f
  exact⟨o,e,λv z=>by rw[d] at z;cases z⟩
 keep:=λi h q f k=>f.at λo e=>k it (by simp) o e
 item:=by
  intro X y F J R i g s Q H E I r f M
  subst y F J
  obtain⟨Y,x,n,C⟩:=M
  obtain⟨j,t,p,hz⟩:=I.tuple n
  obtain⟨u,hu,U⟩:=t.get C
  obtain⟨G,N,f2,L,A,B⟩:=r it (by simp)
  refine wpAny_pyNext_tuple_item f (show s.heap.IsTuple a j.toArray from p) (x:=u) (by simpa using hu) λq m Z=> ?_
  have I1:Inv X g Q H {s with heap:=q}:=I.turned (t':=s.toks) (λb o l e=>(Z.2 b l).trans e) G N L A B
  obtain⟨o,e,c,d⟩:=id m
  exact⟨u,rfl,IA (s:={s with heap:=q}) e c d (by decide) ⟨x,H,I1,U,⟨rfl,λys hy=>by rw[I.tuple_inj hy n];exact C⟩,m,λb l=>(r b l).1⟩⟩
 done:=by
  intro X y F J R i g s Q H E I r f M
  subst y F J
  obtain⟨Y,n,C⟩:=M
  obtain⟨j,t,p,hz⟩:=I.tuple n
  obtain⟨G,N,f2,L,A,B⟩:=r it (by simp)
  have hl:=t.length
  exact wpAny_pyNext_tuple_end (I.ok.hd R) f (show s.heap.IsTuple a j.toArray from p) (by simp;omega) λq S=>⟨rfl,I.turned (t':=s.toks) (λb o l e=>S b o l e) G N L A B⟩
 self:=λ_ _ _ _ _ f h=>wpAny_pyIter_tupleiter f h
def Dr{P:Program}{w:World}{K:PySem.W.Frag}{tg:Expr}(it:Addr)(lo:Int)(n:Nat):Turn P w K tg (Oy lo n) [it] it (λi h=>IsRangeIter h it (lo+(i:Nat)*1) ((n:Int)-(i:Nat)) 1) where
 mem:=by simp
 obj:=λi h a b d=>by
  have e:b=it:=by simpa using d
  subst e
  exact⟨_,a,λv z=>by
   have J:Data.fields _=Data.cell v:=z
   cases J⟩
 keep:=λi h g a k=>k it (by simp) _ a
 item:=by
  intro X l q u A i c s F H E I j a y
  subst l q u
  obtain⟨r,B,L,x,m,p⟩:=j it (by simp)
  have W:=Walks.range (prog:=X.prog) (w:=X.w) (I.ok.hd A) it lo 1 n
  refine W.item i s _ _ y a λv g C M f Q=> ?_
  obtain⟨t,rfl⟩:=M
  have N:Inv X c F H {s with heap:=g,toks:=C}:=I.turned (λb o d e=>Q b o (by simpa using d) e) r B x m p
  refine⟨_,rfl,IA (s:={s with heap:=g,toks:=C}) (n:="range_iterator") f rfl rfl (by decide) ⟨.int (lo+i),H,N,⟨t,?_⟩,⟨rfl,rfl⟩,f,λb d=>(j b d).1⟩⟩
  rw[Int.mul_one]
 done:=by
  intro X l q u A i c s F H E I j a y
  subst l q u
  obtain⟨r,B,L,x,m,p⟩:=j it (by simp)
  exact wpAny_pyNext_range_end (I.ok.hd A) a (by have:n<=i:=y;omega) λg G=>⟨rfl,I.turned (t':=s.toks) (λb o d e=>G b o d e) r B x m p⟩
 self:=λ_ _ _ _ _ a h=>wpAny_pyIter_rangeiter a h
section
variable{X:Cx}{tg:Expr}
def Hn{a:List (Addr×Obj)}{f:St}{H:Hp}{s:Shared}{R:It->Hp->Prop}{E:Value->Shared->Prop}{lo hi:Int}{t u v:Tok}{c:Nat}(I:Inv X a f H s)(i: -(2^62)<=lo)(k:lo<2^62)(l: -(2^62)<=hi)(m:hi<2^62)
  (q:R (Oy lo (hi-lo).toNat) H):wpAny (model X.prog X.w) X.A (pyIter<|.ref s.heap.objs.size) (QX X a f tg R) E {s with heap:=s.heap.push {cls:=.type "range",data:=.fields #[.int lo t,.int hi u,.int 1 v]},toks:=c}:=by
 refine wpAny_pyIter_range (IsRange.new ..) (small_one i k l m) ?_
 have d:Inv X a f H {s with heap:=s.heap.push {cls:=.type "range",data:=.fields #[.int lo t,.int hi u,.int 1 v]},toks:=c}:=I.kept λb o e=>Qcq _ e
 refine⟨(s.heap.push {cls:=.type "range",data:=.fields #[.int lo t,.int hi u,.int 1 v]}).objs.size,[(s.heap.push {cls:=.type "range",data:=.fields #[.int lo t,.int hi u,.int 1 v]}).objs.size],_,_,H,rfl,
  d.kept (t':=c) λb o e=>Qcq _ e,Dr _ lo (hi-lo).toNat,?_,λb g=> ?_,q⟩
 ·have j:lo+((0:Nat):Int)*1=lo:=by simp
  have h:(((hi-lo).toNat:Nat):Int)-((0:Nat):Int)=Builtin.Range.rangeSize lo hi 1:=by rw[rangeSize_one];split <;>omega
  show IsRangeIter _ _ (lo+((0:Nat):Int)*1) ((((hi-lo).toNat:Nat):Int)-((0:Nat):Int)) 1
  rw[j,h]
  exact Qrq _ rfl
 ·have e:b=(s.heap.push {cls:=.type "range",data:=.fields #[.int lo t,.int hi u,.int 1 v]}).objs.size:=by simpa using g
  subst e
  exact d.fpOk (Qmq _)<|d.hok.fresh<|Qmq _
def MR(c:TA):TI:=λb H R=>c b H λa H1=>∃j:Int,a= [.int j]/\ -(2^62)<=j/\j<2^62/\R (Oy 0 j.toNat) H1
def Gm{a:Expr}{d:TA}{p pos:Pos}(m:Gl X "range")(f:X.mg "range"=none)(g:PA X [a] d)(hs:starEach [a] X.env= [(false,eval a X.env)]:=by rfl):PI X tg (.Call (.Name "range" p) [a] [] pos) (MR d):=by
 intro b s o H R I h
 refine Call_<|oZ I m f boot_range<|PyProof.Rows.callWith_type1 (c_ (g pos b s o H _ I h) λv u ⟨w,H1,k,i,c⟩=> ?_) hs rfl
 obtain⟨j,e,c,n,q⟩:=c
 subst e
 cases i with
 | cons r l=>
   cases l
   obtain⟨t,rfl⟩:=r
   exact call_range_1<|Hn k (by omega) (by omega) c n (by simpa using q)
def Ph(f:TI)(g:TG)(h:TS):TS:=λD a H=>f a H λJ H1=>∃W:Nat->Nat->St->Hp->Prop,(∃m,W 0 m a H1)/\∀i m a H,W i m a H→
 (J.stop i H/\D.nx a H)\/(J.go i H/\∃N:St->Hp->Prop,(∀b c,N b c->∃e,e<m/\W (i+1) e b c)/\∀x c,J.yld i H x c->g x a c λd H2=>h {D with nx:=N,ct:=N,bk:=D.nx} d H2)
def oV(fp:List Addr)(h:Heap):List (Addr×Obj):=fp.filterMap λb=>(h.get? b).map λo=>(b,o)
def dN{h:Heap}(a:b∈fp)(e:h.get? b=some o):(b,o)∈oV fp h:=List.mem_filterMap.mpr ⟨b,a,by rw[e];rfl⟩
def FP(a:p∈oV fp h):p.1∈fp/\h.get? p.1=some p.2:=by
 obtain⟨b,d,e⟩:=List.mem_filterMap.mp a
 cases q:h.get? b with
 |none=>rw[q] at e;cases e
 | some o=>
   rw[q] at e
   have c:(b,o)=p:=QdQ e
   subst c
   exact⟨d,q⟩
def Inv.pinned(I:Inv X a f H s)(l:∀b∈fp,sP X a H b)(h:∀b∈fp,∃o,s.heap.get? b=some o/\∀v,o.data≠.cell v):Inv X (a++oV fp s.heap) f H s:=
 I.pins_of λp i=>(mQa.mp i).elim (λz=>I.pin p<|Qoq _ z) λz=>by
  obtain⟨g,e⟩:=FP z
  obtain⟨j,m,k,_⟩:=l p.1 g
  obtain⟨o,c,d⟩:=h p.1 g
  rw[e] at c;cases c
  exact⟨e,j,m,k,d⟩
def Inv.unpinned(I:Inv X (a++d) b H s):Inv X a b H s:=I.pins_of λp c=>I.pin p (Qoq _<|List.mem_append_left _ c)
def LM(R:PassesOwn (model X.prog X.w) X.A X.env X.xe)(hc:X.calm=true)(hi:PI X tg k wi)(hg:PG X tg g)(p:uC X C tb)
  (hs:∀x,foldedSetIterable k X.env x=pure x:=by intro _;rfl):PS X (.For tg k C [] pos) (Ph wi g tb):=by
 intro a s σ H D I h
 refine wpAny_For (c_ (hi a s σ H _ I h) λv s1 h1=>c_ h1 λa2 s2 h2=> ?_) hs
 obtain⟨it,K,tn,J,H2,e,I2,T,a0,f2,W,⟨m0,w0⟩,Q⟩:=h2
 subst e
 have l:∀{z:Hp},(∀b∈K,z b=none)->∀b∈K,sP X a z b:=λhn b p=>⟨hn b p,(f2 b p).2⟩
 refine codeAny_forLoop_any (λn s'=>∃i q z,Inv X a q z s'/\tn i s'.heap/\(∀b∈K,z b=none)/\W i n q z) ?_ m0 ⟨0,σ,H2,I2,a0,λb p=>(f2 b p).1,w0⟩
 rintro n s3 ⟨i,y,H3,I3,P,M,w3⟩
 rcases Q i n y H3 w3 with⟨stop,qn⟩|⟨go,N,hN,L⟩
 ·refine wpAny_passesOwn R (c_ (T.done X rfl rfl rfl hc i a s3 y H3 X.xe I3 (l M) P stop) λr s4 F=> ?_)
  obtain⟨U,I4⟩:=F
  subst U
  exact wpAny_execs_nil ⟨y,H3,I4,qn⟩
 ·refine wpAny_passesOwn R (c_ (T.item X rfl rfl rfl hc i a s3 y H3 X.xe I3 (l M) P go) λr s4 F=> ?_)
  obtain⟨u,U,h4⟩:=F
  subst U
  refine wpAny_passesOwn R (c_ h4 λ_ s5 F=> ?_)
  obtain⟨x,H5,I5,r5,y5,G,a1⟩:=F
  have Y:=I5.pinned (l a1) (T.obj _ _ G)
  refine wpAny_passesOwn R (c_ (hg _ s5 y H5 x u _ Y r5<|L x H5 y5) λ_ s6 F=> ?_)
  obtain⟨Z,H6,I6,q6⟩:=F
  refine wpAny_passesOwn R (c_ (p _ s6 Z H6 _ I6 q6) λf s7 B=> ?_)
  have again:∀{c:St} {j:Hp},Inv X (a++oV K s5.heap) c j s7->N c j->∃m,m<n/\∃i q z,Inv X a q z s7/\tn i s7.heap/\(∀b∈K,z b=none)/\W i m q z:=λ{c j} t S=>by
   obtain⟨m',hm,w7⟩:=hN c j S
   refine⟨m',hm,i+1,c,j,t.unpinned,T.keep _ _ _ G λb p o e=>(t.pin (b,o)<|Qoq _<|Qoq _<|dN p e).1,λb p=> ?_,w7⟩
   obtain⟨o,e,d⟩:=T.obj _ _ G b p
   exact(t.pin (b,o)<|Qoq _<|Qoq _<|dN p e).2.1
  cases f with
  |next=>obtain⟨c,j,t,S⟩:=B;exact again t S
  |cont=>obtain⟨c,j,t,S⟩:=B;exact again t S
  |brk=>obtain⟨c,j,t,B⟩:=B;exact⟨c,j,t.unpinned,B⟩
  |ret v=>obtain⟨x7,c,j,t,r7,B⟩:=B;exact⟨x7,c,j,t.unpinned,r7,B⟩
end
abbrev R2:=V->V->Hp->VK->Prop
def lR(X:Cx)(f:Value->Value->Sem Value)(r:R2):Prop:=
 ∀ (a:List (Addr×Obj)) (s:Shared) (b:St) (H:Hp) (x y:V) (v u:Value) (Q:VK),Inv X a b H s->RelV x v->RelV y u->r x y H Q→
   wpAny (model X.prog X.w) X.A (f v u) (EP X a b Q) X.xe s
def PM(X:Cx)(f:Value->Sem Value)(r:V->Hp->VK->Prop):Prop:=
 ∀ (a:List (Addr×Obj)) (s:Shared) (b:St) (H:Hp) (x:V) (v:Value) (Q:VK),Inv X a b H s->RelV x v->r x H Q→
   wpAny (model X.prog X.w) X.A (f v) (EP X a b Q) X.xe s
def kh(X:Cx)(f:Value)(r:List V->Hp->VK->Prop):Prop:=
 ∀ (a:List (Addr×Obj)) (s:Shared) (c:St) (H:Hp) (d:List V) (b:List Value) (Q:VK),Inv X a c H s->bI d b->r d H Q→
   wpAny (model X.prog X.w) X.A (call f b) (EP X a c Q) X.xe s
def Pn(X:Cx)(r:V->Hp->(Bool->Hp->Prop)->Prop):Prop:=
 ∀ (a:List (Addr×Obj)) (s:Shared) (b:St) (H:Hp) (x:V) (v:Value) (Q:Bool->Hp->Prop),Inv X a b H s->RelV x v->r x H Q→
   wpAny (model X.prog X.w) X.A (truthy v) (TP X a b Q) X.xe s
def JB(r:R2)(c b:TE):TE:=λa H Q=>c a H λx H1=>b a H1 λy H2=>r x y H2 Q
def Q1(r:V->Hp->VK->Prop)(b:TE):TE:=λa H Q=>b a H λx H1=>r x H1 Q
def rI(C:Int->Int->Prop)(g:Int->Int->V):R2:=λx y H Q=>∃i j,x=.int i/\y=.int j/\C i j/\Q (g i j) H
def Gn(g:Int->Int->V):R2:=λx y H Q=>∃i j,x=.int i/\y=.int j/\Q (g i j) H
def rU(g:Int->V):V->Hp->VK->Prop:=λx H Q=>∃i,x=.int i/\Q (g i) H
section
variable{X:Cx}{a b c:Expr}{ta tb tc:TE}{pos:Pos}
def Mu(l:PE X a ta)(B:PE X b tb){R:V->V->Hp->Prop}(I:Inv X d e H s)
  (h:ta e H λx H1=>tb e H1 λy H2=>R x y H2)  {f:Value->Value->Sem Value}
  (p:∀v u j x y H2,Inv X d e H2 j->RelV x v->RelV y u->R x y H2->wpAny (model X.prog X.w) X.A (f v u) Q X.xe j):
  wpAny (model X.prog X.w) X.A (eval a X.env) (λv g=>wpAny (model X.prog X.w) X.A (eval b X.env) (λu i=>wpAny (model X.prog X.w) X.A (f v u) Q X.xe i) X.xe g) X.xe s:=by
 refine c_ (l d s e H _ I h) λv o k=> ?_
 obtain⟨x,H1,q,n,r⟩:=k
 refine c_ (B d o e H1 _ q r) λu j k=> ?_
 obtain⟨y,H2,m,t,z⟩:=k
 exact p v u j x y H2 m n t z
def tO{e:Operator}{r:R2}(f:lR X (binaryOp e) r)(g:PE X a ta)(n:PE X b tb):PE X (.BinOp a e b pos) (JB r ta tb):=by
 intro d s m H Q I h
 exact wpAny_BinOp (Mu g n I h λv u j x y H2 i k l q=>f d j m H2 x y v u Q i k l q)
def Ny{e:UnaryOp}{r:V->Hp->VK->Prop}(g:PM X (unaryOp e) r)(i:PE X a ta):PE X (.UnaryOp e a pos) (Q1 r ta):=by
 intro d s f H Q I h
 exact UnaryOp_ (c_ (i d s f H _ I h) λv j ⟨x,H1,l,k,m⟩=>g d j f H1 x v Q l k m)
def OL{f:Value->Value->Sem Value}{C:Int->Int->Prop}{g:Int->Int->Int}
  (d:∀(i j:Int) (t u:Tok) (s:Shared) (Q:Value->Shared->Prop) (E:Value->Shared->Prop),C i j->Q (.int (g i j) s.toks) {s with toks:=s.toks+1}->wpAny (model X.prog X.w) X.A (f (.int i t)<|.int j u) Q E s):
  lR X f (rI C λi j=>.int (g i j)):=by
 intro e s n H x y v u Q I l m h
 obtain⟨i,j,rfl,rfl,hc,q⟩:=h
 obtain⟨t,rfl⟩:=l
 obtain⟨k,rfl⟩:=m
 exact d i j t k s _ _ hc ⟨.int (g i j),H,I.tok _,⟨_,rfl⟩,q⟩
def N6{f:Value->Value->Sem Value}{g:Int->Int->Int}
  (d:∀(i j:Int) (t u:Tok) (s:Shared) (Q:Value->Shared->Prop) (E:Value->Shared->Prop),Q (.int (g i j) s.toks) {s with toks:=s.toks+1}->wpAny (model X.prog X.w) X.A (f (.int i t)<|.int j u) Q E s):
  lR X f (Gn λi j=>.int (g i j)):=by
 intro e s n H x y v u Q I l m h
 obtain⟨i,j,rfl,rfl,q⟩:=h
 obtain⟨t,rfl⟩:=l
 obtain⟨k,rfl⟩:=m
 exact d i j t k s _ _ ⟨.int (g i j),H,I.tok _,⟨_,rfl⟩,q⟩
def Kd{f:Value->Value->Sem Value}{g:Int->Int->Bool}
  (d:∀(i j:Int) (t u:Tok) (s:Shared) (Q:Value->Shared->Prop) (E:Value->Shared->Prop),Q (.bool (g i j)) s->wpAny (model X.prog X.w) X.A (f (.int i t)<|.int j u) Q E s):
  lR X f (Gn λi j=>.bl (g i j)):=by
 intro e s n H x y v u Q I l m h
 obtain⟨i,j,rfl,rfl,q⟩:=h
 obtain⟨t,rfl⟩:=l
 obtain⟨k,rfl⟩:=m
 exact d i j t k s _ _ ⟨.bl (g i j),H,I,rfl,q⟩
def G9(i j:Int):Prop:=0<j/\j<1073741824
def GI(i j:Int):Prop:=0<=j/\j<=1000000/\i.natAbs<2^64
def Hi(i j:Int):Prop:=(-(2^64)<i/\i<2^64)\/(-(2^64)<j/\j<2^64)
def Hi.ok(h:Hi i j):IntMulOk i j:=by
 rcases h with⟨d,e⟩|⟨d,e⟩
 ·exact .of_left (intBits_le_64 d e)
 ·exact .of_right (intBits_le_64 d e)
def Ml:lR X (binaryOp .Add) (Gn λi j=>.int (i+j)):=N6 λ_ _ _ _ _ _ _ q=>add_int q
def Lm:lR X (binaryOp .Sub) (Gn λi j=>.int (i-j)):=N6 λ_ _ _ _ _ _ _ q=>sub_int q
def J9:lR X (binaryOp .FloorDiv) (rI G9 λi j=>.int (i/j)):=OL λi j _ _ _ _ _ d q=>by
 have e:(0:Int)<j:=d.1
 have f:j<1073741824:=d.2
 exact floordiv_int (by omega) (by rw[Int.fdiv_eq_ediv_of_nonneg i (by omega)];exact q)<|.inl (PyProof.noPylong_small (by omega))
def Mp:lR X (binaryOp .Mod) (rI (λ_ j=>0<j) λi j=>.int (i%j)):=OL λi j _ _ _ _ _ d q=>by
 have e:(0:Int)<j:=d
 exact mod_int' (by omega) (by rw[Int.fmod_eq_emod_of_nonneg i (by omega)];exact q)
def LL:lR X (binaryOp .Pow) (rI GI λi j=>.int (i^j.toNat)):=OL λ_ _ _ _ _ _ _ d q=>pow_int_small d.1 d.2.1 d.2.2 q
def Q6{g:Int->Int}
  (d:∀(i:Int) (t:Tok) (s:Shared) (Q:Value->Shared->Prop) (E:Value->Shared->Prop),Q (.int (g i) s.toks) {s with toks:=s.toks+1}->wpAny (model X.prog X.w) X.A (f<|.int i t) Q E s):
  PM X f (rU λi=>.int (g i)):=by
 intro e s k H x v Q I j h
 obtain⟨i,rfl,q⟩:=h
 obtain⟨t,rfl⟩:=j
 exact d i t s _ _ ⟨.int (g i),H,I.tok _,⟨_,rfl⟩,q⟩
def LC:PM X (unaryOp .USub) (rU λi=>.int (-i)):=Q6 λ_ _ _ _ _ q=>neg_int q
end
def Du:V->V->Bool
 |.non,.non=>true|.non,.int _=>true|.int _,.non=>true|.non,.bl _=>true|.bl _,.non=>true|.non,.str _=>true|.str _,.non=>true
 |.int _,.int _=>true|.bl _,.bl _=>true|.str _,.str _=>true|.byt _,.byt _=>true
 |.int _,.str _=>true|.str _,.int _=>true|.bl _,.str _=>true|.str _,.bl _=>true
 |_,_=>false
def Qt:R2:=λx y H Q=>Du x y=true/\Q (.bl (decide (x=y))) H
def Qm:R2:=λx y H Q=>Du x y=true/\Q (.bl (!decide (x=y))) H
def Ea:decide (V.int i=V.int j)=(i==j):=by
 rw[Bool.eq_iff_iff]
 simp
def G7:decide (V.bl i=V.bl j)=(i==j):=by
 rw[Bool.eq_iff_iff]
 simp
def E_:decide (V.str i=V.str j)=(i==j):=by
 rw[Bool.eq_iff_iff]
 simp
def Ej:decide (V.byt i=V.byt j)=(i.toList==j.toList):=by
 rw[Bool.eq_iff_iff]
 cases i
 cases j
 simp
section
variable{X:Cx}{a b c:Expr}{ta tb tc:TE}{pos:Pos}
def cp{Q:VK}(I:Inv X d f H s)(q:Q (.bl k) H)(e:k=g):EP X d f Q (.bool g) s:=by
 subst e
 exact⟨.bl k,H,I,rfl,q⟩
def Nm:lR X (compareOp .Eq) Qt:=by
 intro k s l H x y v u Q I g d h
 obtain⟨f,q⟩:=h
 cases x with
 | non=>
   cases g
   cases y with
   |non=>cases d;exact PySem.EqNone.eq_none_none (cp I q (by simp))
   |bl j=>cases d;exact PySem.EqNone.eq_none_bool (cp I q (by simp))
   |int j=>obtain⟨e,rfl⟩:=d;exact PySem.EqNone.eq_none_int (cp I q (by simp))
   |str j=>obtain⟨e,rfl⟩:=d;exact PySem.EqNone.eq_none_str (cp I q (by simp))
   |_=>exact absurd (show false=true from f) Qtq
 | bl i=>
   cases g
   cases y with
   |non=>cases d;exact PySem.EqNone.eq_bool_none (cp I q (by simp))
   |bl j=>cases d;exact eq_bool (cp I q G7)
   |str j=>obtain⟨e,rfl⟩:=d;exact PySem.EqMixed.eq_bool_str (cp I q (by simp))
   |_=>exact absurd (show false=true from f) Qtq
 | int i=>
   obtain⟨t,rfl⟩:=g
   cases y with
   |non=>cases d;exact PySem.EqNone.eq_int_none (cp I q (by simp))
   |int j=>obtain⟨e,rfl⟩:=d;exact eq_int (cp I q Ea)
   |str j=>obtain⟨e,rfl⟩:=d;exact PySem.EqMixed.eq_int_str (cp I q (by simp))
   |_=>exact absurd (show false=true from f) Qtq
 | str i=>
   obtain⟨t,rfl⟩:=g
   cases y with
   |non=>cases d;exact PySem.EqNone.eq_str_none (cp I q (by simp))
   |bl j=>cases d;exact PySem.EqMixed.eq_str_bool (cp I q (by simp))
   |int j=>obtain⟨e,rfl⟩:=d;exact PySem.EqMixed.eq_str_int (cp I q (by simp))
   |str j=>obtain⟨e,rfl⟩:=d;exact eq_str (cp I q E_)
   |_=>exact absurd (show false=true from f) Qtq
 | byt i=>
   obtain⟨t,rfl⟩:=g
   cases y with
   |byt j=>obtain⟨e,rfl⟩:=d;exact PySem.W.eq_bytes (cp I q Ej)
   |_=>exact absurd (show false=true from f) Qtq
 |_=>cases y <;>exact absurd (show false=true from f) Qtq
def Qk:lR X (compareOp .NotEq) Qm:=by
 intro k s l H x y v u Q I g d h
 obtain⟨f,q⟩:=h
 cases x with
 | non=>
   cases g
   cases y with
   |non=>cases d;exact PySem.EqNone.ne_none_none (cp I q (by simp))
   |bl j=>cases d;exact PySem.EqNone.ne_none_bool (cp I q (by simp))
   |int j=>obtain⟨e,rfl⟩:=d;exact PySem.EqNone.ne_none_int (cp I q (by simp))
   |str j=>obtain⟨e,rfl⟩:=d;exact PySem.EqNone.ne_none_str (cp I q (by simp))
   |_=>exact absurd (show false=true from f) Qtq
 | bl i=>
   cases g
   cases y with
   |non=>cases d;exact PySem.EqNone.ne_bool_none (cp I q (by simp))
   |bl j=>cases d;exact ne_bool (cp I q<|congrArg not G7)
   |str j=>obtain⟨e,rfl⟩:=d;exact PySem.EqMixed.ne_bool_str (cp I q (by simp))
   |_=>exact absurd (show false=true from f) Qtq
 | int i=>
   obtain⟨t,rfl⟩:=g
   cases y with
   |non=>cases d;exact PySem.EqNone.ne_int_none (cp I q (by simp))
   |int j=>obtain⟨e,rfl⟩:=d;exact ne_int (cp I q<|congrArg not Ea)
   |str j=>obtain⟨e,rfl⟩:=d;exact PySem.EqMixed.ne_int_str (cp I q (by simp))
   |_=>exact absurd (show false=true from f) Qtq
 | str i=>
   obtain⟨t,rfl⟩:=g
   cases y with
   |non=>cases d;exact PySem.EqNone.ne_str_none (cp I q (by simp))
   |bl j=>cases d;exact PySem.EqMixed.ne_str_bool (cp I q (by simp))
   |int j=>obtain⟨e,rfl⟩:=d;exact PySem.EqMixed.ne_str_int (cp I q (by simp))
   |str j=>obtain⟨e,rfl⟩:=d;exact ne_str (cp I q<|congrArg not E_)
   |_=>exact absurd (show false=true from f) Qtq
 | byt i=>
   obtain⟨t,rfl⟩:=g
   cases y with
   |byt j=>obtain⟨e,rfl⟩:=d;exact PySem.W.ne_bytes (cp I q<|congrArg not Ej)
   |_=>exact absurd (show false=true from f) Qtq
 |_=>cases y <;>exact absurd (show false=true from f) Qtq
def Qn:lR X (compareOp .Lt) (Gn λi j=>.bl (decide (i<j))):=Kd λ_ _ _ _ _ _ _ q=>lt_int q
def Qc:lR X (compareOp .LtE) (Gn λi j=>.bl (decide (i<=j))):=Kd λ_ _ _ _ _ _ _ q=>le_int q
def Qa:lR X (compareOp .Gt) (Gn λi j=>.bl (decide (j<i))):=Kd λ_ _ _ _ _ _ _ q=>gt_int q
def QT:lR X (compareOp .GtE) (Gn λi j=>.bl (decide (j<=i))):=Kd λ_ _ _ _ _ _ _ q=>ge_int q
def PV:lR X (compareOp .Is) (λx y H Q=>y=.non/\Q (.bl (decide (x=.non))) H):=by
 intro e s g H x y v u Q I d f h
 obtain⟨rfl,q⟩:=h
 cases f
 refine is_none_gen<|cp I q ?_
 cases x <;>first
  |(cases d;rfl)
  |(obtain⟨t,rfl⟩:=d;rfl)
def OA:lR X (compareOp .IsNot) (λx y H Q=>y=.non/\Q (.bl (!decide (x=.non))) H):=by
 intro e s g H x y v u Q I d f h
 obtain⟨rfl,q⟩:=h
 cases f
 refine isnot_none_gen<|cp I q ?_
 cases x <;>first
  |(cases d;rfl)
  |(obtain⟨t,rfl⟩:=d;rfl)
def lR.or(h:lR X f r)(h':lR X f r'):lR X f (λx y H Q=>r x y H Q\/r' x y H Q):=by
 intro d s i H x y v u Q I e g q
 rcases q with q|q
 ·exact h d s i H x y v u Q I e g q
 ·exact h' d s i H x y v u Q I e g q
def IH(b:Expr){d:CmpOp}(h:d≠.In:=by decide)(g:d≠.NotIn:=by decide):behindInMarks d b=false:=by
 have e:(d==CmpOp.In)=false:=by cases d <;>first|rfl|exact absurd rfl h
 have f:(d==CmpOp.NotIn)=false:=by cases d <;>first|rfl|exact absurd rfl g
 cases b <;>simp[behindInMarks,e,f]
def EX{e:CmpOp}{r:R2}(g:lR X (compareOp e) r)(i:PE X a ta)(o:PE X b tb)(f:behindInMarks e b=false):PE X (.Compare a [e] [b] pos) (JB r ta tb):=by
 intro d s n H Q I h
 exact wpAny_Compare1 (Mu i o I h λv u k x y H2 j l m q=>g d k n H2 x y v u Q j l m q) f
def GF(t:TE):TT:=λd H Q=>t d H λx e=>∃k,x=.bl k/\Q k e
def uK(j:lR X (compareOp f) r)(l:PE X a ta)(G:PE X b tb)(i:behindInMarks f b=false):PT X (.Compare a [f] [b] pos) (GF<|JB r ta tb):=by
 intro d s g H Q I h
 refine wpAny_isTrue_Compare1 (c_ (l d s g H _ I h) λv q ⟨x,H1,w,o,A⟩=>c_ (G d q g H1 _ w A) λu p ⟨y,H2,n,B,C⟩=>
  c_ (j d p g H2 x y v u _ n o B C) λc J ⟨z,H3,m,F,k,e,t⟩=> ?_) i
 subst e
 cases F
 exact wpAny_truthy_bool ⟨H3,m,t⟩
def LJ(K:PySem.W.Frag)(x:V)(H:Hp)(k:Bool):Prop:=
 match x with
 |.non=>k=false
 |.bl b=>k=b
 |.int i=>k=(i !=0)
 |.str y=>y.length<=sizeLine/\k=((y.length:Int) !=0)
 |.byt y=>y.size<=sizeLine/\k=((y.size:Int) !=0)
 |.ref p=>(∃e,je K H p e/\k= !e.isEmpty)\/(∃e,jq K H p e/\k= !e.isEmpty)\/∃d,H p=some (.dK d)/\k= !d.isEmpty
 |_=>False
def DJ{κ:Type}{d:List (κ×V)}{vs:List (κ×Value)}(r:KV d vs):(!vs.isEmpty)= !d.isEmpty:=by
 cases r <;>rfl
def wa{xs:List V}{d:List Value}(r:bI xs d):(!d.toArray.isEmpty)= !xs.isEmpty:=by
 cases r <;>simp
def nq:(sizeLine:Nat)<2^63:=by rw[sizeLine_eq];decide
def Ld:Pn X (λx H Q=>∃k,LJ X.K x H k/\Q k H):=by
 intro B s L H x v Q I l h
 obtain⟨k,e,q⟩:=h
 have J:=nq
 have G:sizeLine=16777216:=sizeLine_eq
 cases x with
 | non=>
   cases l
   have d:k=false:=e
   subst d
   exact truthy_none ⟨H,I,q⟩
 | bl b=>
   cases l
   have d:k=b:=e
   subst d
   exact wpAny_truthy_bool ⟨H,I,q⟩
 | int i=>
   obtain⟨t,rfl⟩:=l
   have d:k=(i !=0):=e
   subst d
   exact PySem.P.truthy_int ⟨H,I,q⟩
 | str y=>
   obtain⟨t,rfl⟩:=l
   obtain⟨F,d⟩:y.length<=sizeLine/\k=((y.length:Int) !=0):=e
   subst d
   exact PySem.P.truthy_str (by omega) ⟨H,I.tok _,q⟩
 | byt y=>
   obtain⟨t,rfl⟩:=l
   obtain⟨F,d⟩:y.size<=sizeLine/\k=((y.size:Int) !=0):=e
   subst d
   exact PySem.W.truthy_bytes (by omega) ⟨H,I.tok _,q⟩
 | ref p=>
   cases l
   have d:(∃j,je X.K H p j/\k= !j.isEmpty)\/(∃j,jq X.K H p j/\k= !j.isEmpty)\/∃f,H p=some (.dK f)/\k= !f.isEmpty:=e
   rcases d with⟨j,n,d⟩|⟨j,n,d⟩|⟨f,n,d⟩
   · subst d
     obtain⟨u,r,z,A⟩:=I.list n
     have g:=r.length
     exact wpAny_truthy_list z.isList (by simp only[Qjq];omega) ⟨H,I.tok _,by rw[wa r];exact q⟩
   · subst d
     obtain⟨u,r,z,A⟩:=I.tuple n
     have g:=r.length
     exact truthy_tuple z (by simp only[Qjq];omega) ⟨H,I.tok _,by rw[wa r];exact q⟩
   · subst d
     obtain⟨A,C,o,r,m⟩:f.length<=sizeLine/\(p==sysModules)=false/\∃o,KV f o/\s.heap.DictOf (cc X.prog X.w) p o:=I.hok p _ n
     have g:f.length=o.length:=Paired.length r
     exact wpAny_truthy_dict C m (by omega) ⟨H,I.tok _,by rw[DJ r];exact q⟩
 |_=>exact(show False from e).elim
def GD(i:PE X a ta)(he:∀d,isTrue a X.env d=(do let v←d;standAt a.pos;holding [v] (truthy v))):
  PT X a (λf H Q=>ta f H λx g=>∃k,LJ X.K x g k/\Q k g):=by
 intro e s f H Q I h
 exact isTrue_plain (c_ (i e s f H _ I h) λv l ⟨x,H1,m,j,n⟩=>Ld e l f H1 x v Q m j n)<|he _
def Dx:lR X (binaryOp .Add) (λx y H Q=>∃i j,x=.str i/\y=.str j/\i.length+j.length<=sizeLine/\Q (.str (i++j)) H):=by
 intro d s l H x y v u Q I e f h
 obtain⟨i,j,rfl,rfl,hz,q⟩:=h
 obtain⟨t,rfl⟩:=e
 obtain⟨g,rfl⟩:=f
 exact add_str (λg k=>⟨.str (i++j),H,I.tok _,⟨_,rfl⟩,q⟩) hz
def vals1(r:bI [x] d):∃u,d= [u]/\RelV x u:=by
 cases r with
 |cons f e=>cases e;exact⟨_,rfl,f⟩
def vals2(r:bI [x,y] d):∃u e,d= [u,e]/\RelV x u/\RelV y e:=by
 cases r with
 | cons h f=>
   cases f with
   |cons i g=>cases g;exact⟨_,_,rfl,h,i⟩
def NF:kh X (.builtin "abs") (λxs H Q=>∃i,xs= [.int i]/\Q (.int (if i<0 then -i else i)) H):=by
 intro d s g H xs e Q I r h
 obtain⟨i,rfl,q⟩:=h
 obtain⟨u,rfl,t,rfl⟩:=vals1 r
 exact call_abs_int λu f=>⟨.int (if i<0 then -i else i),H,I.tok _,⟨_,rfl⟩,q⟩
def MG(f:X.calm=true):kh X (.builtin "max") (λxs H Q=>∃i j,xs= [.int i,.int j]/\Q (.int (if j>i then j else i)) H):=by
 intro e s o H xs n Q I r h
 obtain⟨i,j,rfl,q⟩:=h
 obtain⟨u,g,rfl,⟨t,rfl⟩,⟨t',rfl⟩⟩:=vals2 r
 refine max_two_ints (I.ok.hd f) λl m k=>⟨_,H,I.kept k,?_,q⟩
 by_cases d:j>i
 ·rw[Qhq d,Qhq d];exact⟨_,rfl⟩
 ·rw[Quq d,Quq d];exact⟨_,rfl⟩
def MJ(f:X.calm=true):kh X (.builtin "min") (λxs H Q=>∃i j,xs= [.int i,.int j]/\Q (.int (if j<i then j else i)) H):=by
 intro e s o H xs n Q I r h
 obtain⟨i,j,rfl,q⟩:=h
 obtain⟨u,g,rfl,⟨t,rfl⟩,⟨t',rfl⟩⟩:=vals2 r
 refine min_two_ints (I.ok.hd f) λl m k=>⟨_,H,I.kept k,?_,q⟩
 by_cases d:j<i
 ·rw[Qhq d,Qhq d];exact⟨_,rfl⟩
 ·rw[Quq d,Quq d];exact⟨_,rfl⟩
def MM:kh X (.type "int") (λxs H Q=>(∃i,xs= [.int i]/\Q (.int i) H)\/∃k,xs= [.bl k]/\Q (.int (if k then 1 else 0)) H):=by
 intro d s f H xs e Q I r h
 rcases h with⟨i,rfl,q⟩|⟨k,rfl,q⟩
 ·obtain⟨u,rfl,t,rfl⟩:=vals1 r
  exact call_int_int ⟨.int i,H,I,⟨_,rfl⟩,q⟩
 ·obtain⟨u,rfl,r1⟩:=vals1 r
  cases r1
  exact call_int_bool ⟨.int (if k then 1 else 0),H,I.tok _,⟨_,rfl⟩,q⟩
end
structure LP(h:Heap)(x dx C:Addr)(mA:Str->Option Value):Prop where
 obj:h.get? x=some (PySem.W.instObj C dx)
 ns:h.Ns1 dx mA
 ne:dx≠x
def Fj{h:Heap}(n:h.Ns1 g c):∃d,h.get? g=some d/\∀name,PySem.W.lookIn name d=some (c name):=by
 obtain⟨o,f,r,j,m,k,_,i⟩:=n
 refine⟨o,j,λname=> ?_⟩
 have e:=i name
 unfold nsFind findBy at e
 rw[←Array.find?_toList] at e
 unfold PySem.W.lookIn
 rw[m]
 dsimp only
 split
 ·rename_i y q
  rw[q] at e
  exact congrArg some e
 ·rename_i q
  rw[q] at e
  have a:f.toList.any (·.refKey)=false:=by
   rw[List.any_eq_false]
   intro y p
   obtain⟨z,t,b⟩:=k y (Array.mem_toList_iff.mp p)
   simp[DictEntry.refKey,b]
  have l:¬f.toList.any (·.refKey)=true:=by rw[a];exact Qtq
  rw[Quq l]
  exact congrArg some e
def LP.look(I:LP h x c C b):∃a,PySem.W.InstAt h x (PySem.W.instObj C c) C (some a)/\∀name,PySem.W.lookIn name a=some (b name):=
 let ⟨a,ho,hl⟩:=Fj I.ns
 ⟨a,⟨I.obj,rfl,rfl,ho⟩,hl⟩
def wK.some_of(r:wK (some v) o):∃u,o=some u/\RelV v u:=by
 cases o with
 |none=>exact(show False from r).elim
 |some u=>exact⟨u,rfl,r⟩
section
variable{P:Program}{w:World}{H H':Hp}{h h':Heap}{a C dx:Addr}{fs fs':List (Str×V)}
def KC(c:p0 P w H h)(e:H a=some (.ins C dx fs)):∃b,LP h a dx C b/\(∀f,wK (fs.lookup f)<|b f)/\PySem.Within b (fs.map (·.1))/\fs.length<=1000/\H dx=some (.own a):=by
 obtain⟨d,z,g,i,b,n,r,q⟩:=(show dq P w H h a (.ins C dx fs) from c a _ e)
 exact⟨b,⟨i,n,g⟩,r,q,z,d⟩
end
structure Pq(K:PySem.W.Frag)(C:Addr):Prop where
 pg:PySem.W.plainGet K C Str.empty=true
 hd:PySem.W.hasDictIn K C=true
 po:PySem.W.plainOver K C=true
 sa:PySem.W.findIn K (.ref C) "__setattr__"=some (some<|.builtin "object.__setattr__")
def Pq.get{K:PySem.W.Frag}{C:Addr}(c:Pq K C)(f:Str):PySem.W.plainGet K C f=true:=c.pg
section
variable{X:Cx}{pins:List (Addr×Obj)}{σ:St}{H:Hp}{s:Shared}{A:Around}{E:Value->Shared->Prop}{Q:Value->Shared->Prop}{c:Value}{b:Bool}
inductive rf(K:PySem.W.Frag)(H:Hp):V->Value->Prop where
 |non:rf K H .non (.type "NoneType")
 |bl (x:Bool):rf K H (.bl x) (.type "bool")
 |int (i:Int):rf K H (.int i) (.type "int")
 |str (x:Str):rf K H (.str x) (.type "str")
 |flt (x:UInt64):rf K H (.flt x) (.type "float")
 |lst {a:Addr} {xs:List V} (e:H a=some (.lst xs)):rf K H (.ref a) (.type "list")
 |frz {a:Addr} {o:Obj} {xs:List V} (e:H a=some (.frz o (.lst xs))):rf K H (.ref a) (.type "list")
 |tup {a:Addr} {xs:List V} (e:H a=some (.tup xs)):rf K H (.ref a) (.type "tuple")
 |dK {a:Addr} {kvs:List (Key×V)} (e:H a=some (.dK kvs)):rf K H (.ref a) (.type "dict")
 |dT {a:Addr} {kvs:List (List Key×V)} (e:H a=some (.dT kvs)):rf K H (.ref a) (.type "dict")
 |ins {a C dx:Addr} {fs:List (Str×V)} (e:H a=some (.ins C dx fs)) (cl:Pq K C) (ha:PySem.W.findIn K (.ref C) "__class__"=some (some<|.builtin "object.__class__"))
   (hn:PySem.W.specialIn K (.builtin "object.__class__") "__get__"=some (some<|.builtin "getset_descriptor.__get__")) (htk:PySem.W.takesIn K (.builtin "object.__class__")=some true)
   (hm:PySem.W.mroIn K C (.type "object")=some true):rf K H (.ref a) (.ref C)
def FZ(I:Inv X pins σ H s)(d:RelV x u)(m:rf X.K H x t)(e:PySem.W.kitOne X.K t c=some b)(h:∀l,Q (.bool b) {s with toks:=l}):
  wpAny (model X.prog X.w) A (call (.builtin "isinstance") [u,c]) Q E s:=by
 cases m with
 |non=>cases (show u=Value.none from d);exact PySem.W.kia_one PySem.W.kitx_none I.kIn True.intro e (λz=>nomatch z) h
 |bl y=>cases (show u=Value.bool y from d);exact PySem.W.kia_one PySem.W.kitx_bool I.kIn True.intro e (λz=>nomatch z) h
 |int i=>obtain⟨t,q⟩:=(show∃t,u=Value.int i t from d);cases q;exact PySem.W.kia_one PySem.W.kitx_int I.kIn True.intro e (λz=>nomatch z) h
 |str y=>obtain⟨t,q⟩:=(show∃t,u=Value.str y t from d);cases q;exact PySem.W.kia_one PySem.W.kitx_str I.kIn True.intro e (λz=>nomatch z) h
 |flt y=>obtain⟨t,q⟩:=(show∃t,u=Value.float y t from d);cases q;exact PySem.W.kia_one PySem.W.kitx_float I.kIn True.intro e (λz=>nomatch z) h
 | @lst a g ea=>
   cases (show u=Value.ref a from d)
   obtain⟨_,_,n,_,f⟩:=(show dq X.prog X.w H s.heap a (.lst g) from I.hok a _ ea)
   exact PySem.W.kia_one PySem.W.kitx_list I.kIn ⟨_,f,rfl⟩ e (λz=>nomatch z) h
 | @frz a ob g ea=>
   cases (show u=Value.ref a from d)
   obtain⟨_,_,_,n,_,f⟩:=(show dq X.prog X.w H s.heap a (.frz ob (.lst g)) from I.hok a _ ea)
   exact PySem.W.kia_one PySem.W.kitx_list I.kIn ⟨_,f,rfl⟩ e (λz=>nomatch z) h
 | @tup a g ea=>
   cases (show u=Value.ref a from d)
   obtain⟨_,_,_,p⟩:=(show dq X.prog X.w H s.heap a (.tup g) from I.hok a _ ea)
   obtain⟨o,f,j,_⟩:=p
   exact PySem.W.kia_one PySem.W.kitx_tuple I.kIn ⟨o,f,j⟩ e (λz=>nomatch z) h
 | @dK a kvs ea=>
   cases (show u=Value.ref a from d)
   obtain⟨_,_,F,_,p⟩:=(show dq X.prog X.w H s.heap a (.dK kvs) from I.hok a _ ea)
   obtain⟨o,k,r,f,j,_⟩:=p
   exact PySem.W.kia_one PySem.W.kitx_dict I.kIn ⟨o,f,j.1⟩ e (λz=>nomatch z) h
 | @dT a kvs ea=>
   cases (show u=Value.ref a from d)
   obtain⟨_,_,g,_,o,k,r,f,j,_⟩:=(show dq X.prog X.w H s.heap a (.dT kvs) from I.hok a _ ea)
   exact PySem.W.kia_one PySem.W.kitx_dict I.kIn ⟨o,f,j.1⟩ e (λz=>nomatch z) h
 | @ins a C dx fs ea cl ha hn htk hm=>
   cases (show u=Value.ref a from d)
   obtain⟨v,O,_⟩:=KC I.hok ea
   obtain⟨B,J,_⟩:=O.look
   exact PySem.W.kia_one (PySem.W.kitx_own (cl.get _) cl.hd ha hn htk hm) I.kIn J e (λz=>nomatch z) h
end
structure fZ(k:Nat)(A:Around):Prop where
 hd:A.handled=none
 dp:A.depth+3*k+5<recursionLimit
 un:A.units+16*k+200<cLine
def fZ.mono(r:fZ k A)(h:j<=k):fZ j A:=⟨r.hd,by have:=r.dp;omega,by have:=r.un;omega⟩
def fZ.deeper(r:fZ (k+1) A)(env:Env):fZ k (A.deeper env):=
 ⟨r.hd,by have:=r.dp;show A.depth+1+3*k+5<_;omega,by have:=r.un;show A.units+3+16*k+200<_;omega⟩
def fZ.depth(r:fZ k A):A.depth<recursionLimit:=by have:=r.dp;omega
def fZ.units(r:fZ k A):A.units+64<cLine:=by have:=r.un;omega
def fZ.units0(r:fZ k A):A.units<cLine:=by have:=r.un;omega
def LW:TA:=λ_ H Q=>Q [] H
def HM(b:TE)(tr:TA):TA:=λa H Q=>b a H λx H1=>tr a H1 λc H2=>Q (x::c) H2
section
variable{X:Cx}{e:Expr}{es:List Expr}{te:TE}{t:TA}{pos:Pos}
def ij:PA X [] LW:=λ_ _ _ _ H Q I h=>Calls.spliced_nil ⟨[],H,I,.nil,h⟩
def eO(c:PE X e te)(k:PA X es t)(hs:starEach (e::es) X.env=(false,eval e X.env)::starEach es X.env:=by rfl):PA X (e::es) (HM te t):=by
 intro pos a s b H Q I h
 rw[hs]
 show wpAny _ _ (spliced ((false,eval e X.env)::backTo pos (starEach es X.env))) _ _ s
 refine Calls.spliced_cons (c_ (c a s b H _ I h) λu i m=> ?_)
 obtain⟨x,H1,j,f,l⟩:=m
 exact c_ (k pos a i b H1 _ j l) λq p ⟨g,H2,d,n,o⟩=>⟨x::g,H2,d,.cons f n,o⟩
def PJ(t:TA):TE:=λb H Q=>t b H λa H1=>a.length<=sizeLine/\∀p,H1 p=none->Q (.ref p) (upd H1 p<|.tup a)
def PD(t:TA):TE:=λb H Q=>t b H λa H1=>a.length<=sizeLine/\∀p,H1 p=none->Q (.ref p) (upd H1 p<|.lst a)
def L5{x1}(h:PA X es t):PE X (.Tuple es x1 pos) (PJ t):=by
 intro a s j H Q I f
 refine wpAny_Tuple_spliced (c_ (h pos a s j H _ I f) λk c ⟨g,H1,d,r,z,q⟩=>⟨by rw[←r.length];exact z,?_⟩)
 have i:H1 c.heap.objs.size=none:=d.hok.fresh (Qmq _)
 refine⟨.ref c.heap.objs.size,upd H1 c.heap.objs.size<|.tup g,d.laid (t':=c.toks) (λb u e=>Qcq _ e) (Qmq _) ?_,rfl,q _ i⟩
 exact⟨z,k,r,⟨_,Qrq _ rfl,rfl,rfl,_,rfl⟩⟩
def L6(h:PA X es t):PE X (.List es pos) (PD t):=by
 intro a s j H Q I f
 refine wpAny_List_spliced (c_ (h pos a s j H _ I f) λk c ⟨g,H1,d,r,z,q⟩=>⟨by rw[←r.length];exact z,?_⟩)
 have i:H1 c.heap.objs.size=none:=d.hok.fresh (Qmq _)
 refine⟨.ref c.heap.objs.size,upd H1 c.heap.objs.size<|.lst g,d.laid (t':=c.toks) (λb u e=>Qcq _ e) (Qmq _) ?_,rfl,q _ i⟩
 exact⟨z,k,0,r,Qrq _ rfl⟩
end
abbrev Sp:=List V->Hp->VK->XK->Prop
abbrev Gz:=List Env->Hp->Shared->XK->Value->Shared->Prop
structure JJ(P:Program)(w:World)(K:PySem.W.Frag)(mg:Str->Option Value)(base:Heap)(A:Around)(outer:List Env)(s:Shared)(H:Hp):Prop where
 frames:A.frames=some outer
 mod:Mod K mg base
 bs:∀b o,base.get? b=some o->s.heap.get? b=some o/\H b=none
 bsz:base.objs.size<=s.heap.objs.size
 funs:s.heap.FunFrames base outer
 frf:∀b∈IR outer,H b=none
 hok:p0 P w H s.heap
 bare:AllBare s.gens
def CE(outer:List Env)(P:Program)(w:World)(H:Hp)(s:Shared)(Q:VK)(u:Value)(a:Shared):Prop:=
 ∃v b,a.os=s.os/\AllBare a.gens/\Un (IR outer) [] H b s.heap a.heap/\p0 P w b a.heap/\RelV v u/\Q v b
def CR(CX:Gz)(outer:List Env)(P:Program)(w:World)(H:Hp)(s:Shared)(Q:VK)(E:XK)(r:Result)(a:Shared):Prop:=
 match r with
 |.ok (.ret u)=>CE outer P w H s Q u a
 |.ok _=>False
 |.error e=>CX outer H s E e a
structure bh(P:Program)(w:World)(K:PySem.W.Frag)(mg:Str->Option Value)(base:Heap)(CX:Gz)(k:Nat)(f:Addr)(fd:FuncData)(ps:List Str)(sp:Sp):Prop where
 len:∀vs H Q E,sp vs H Q E->vs.length=ps.length
 run:∀(A:Around) (outer:List Env) (s:Shared) (H:Hp) (args:Args) (us:List Value) (vs:List V) (Q:VK) (E:XK),fZ k A->JJ P w K mg base A outer s H->BindsTo s fd args (ps.zip us)->bI vs us->sp vs H Q E→
  codeAny (model P w) A (.call (.ref f) args) (CR CX outer P w H s Q E) s
def bh.mono{P:Program}{w:World}{K:PySem.W.Frag}{mg:Str->Option Value}{base:Heap}{CX:Gz}{j k:Nat}{f:Addr}{c:FuncData}{ps:List Str}{sp:Sp}(F:bh P w K mg base CX j f c ps sp)(h:j<=k):
  bh P w K mg base CX k f c ps sp:=⟨F.len,λA a s H b e g Q E d=>F.run A a s H b e g Q E<|d.mono h⟩
def bh.imp{P:Program}{w:World}{K:PySem.W.Frag}{mg:Str->Option Value}{base:Heap}{CX:Gz}{k:Nat}{f:Addr}{d:FuncData}{ps:List Str}{sp b:Sp}(F:bh P w K mg base CX k f d ps sp)
  (h:∀vs H Q E,b vs H Q E->sp vs H Q E):bh P w K mg base CX k f d ps b:=
 ⟨λvs H Q E q=>F.len vs H Q E<|h _ _ _ _ q,λA a s H c m vs Q E l i e j g=>F.run A a s H c m vs Q E l i e j<|h _ _ _ _ g⟩
section
variable{X:Cx}{pins:List (Addr×Obj)}{σ:St}{H:Hp}{s s':Shared}
def Inv.env0(I:Inv X pins σ H s):JJ X.prog X.w X.K X.mg X.base X.A X.stack s H:=
 ⟨I.ok.frames,I.ok.mod,I.bs,QAq I.ok.bsz I.sz,I.stack,I.stkFree,I.hok,I.bare⟩
def Inv.after(I:Inv X pins σ H s)(h:CE X.stack X.prog X.w H s Q u s'):EP X pins σ Q u s':=by
 obtain⟨v,k,j,a,f,e,r,q⟩:=h
 obtain⟨i,g,d,t,c⟩:=s'
 obtain rfl:c=s.os:=j
 exact⟨v,k,I.call (h':=i) (g':=g) (d':=d) (t':=t) (ch:= []) f e a (λb z=>absurd z (by simp)),r,q⟩
end
def IG(sp:Sp)(a:List V)(E:XK)(t:TA):TE:=λc H Q=>t c H λb H1=>sp (b++a) H1 Q E
def Binds(K:PySem.W.Frag)(b:FuncData)(ps:List Str)(ds:List Value):Prop:=
 ∀(s:Shared) (a:List Value),K.In s.heap->(a++ds).length=ps.length->BindsTo s b ⟨a,[]⟩ (ps.zip (a++ds))
def Binds.all{K:PySem.W.Frag}{c:FuncData}{ps:List Str}(h:∀a:List Value,a.length=ps.length->bindArgs c ⟨a,[]⟩=pure (ps.zip a)):Binds K c ps []:=λs a _ b=>by
 rw[List.append_nil] at b⊢
 exact .of_eq (h a b)
def CF(CX:Gz)(X:Cx)(E:XK):Prop:=∀(a:List (Addr×Obj)) (c:St) (H:Hp) (s:Shared) (e:Value) (b:Shared),Inv X a c H s->CX X.stack H s E e b->X.xe e b
section
variable{X:Cx}{CX:Gz}{k:Nat}{f C:Addr}{fd:FuncData}{ps:List Str}{sp:Sp}{dvs:List V}{ds:List Value}{E:XK}{x m:Str}{p pos apos:Pos}{e o:Expr}{es:List Expr}{ta:TE}{t:TA}
def G4(F:bh X.prog X.w X.K X.mg X.base CX k f fd ps sp)(q:fZ k X.A)(v:Binds X.K fd ps ds)(hd:bI dvs ds)(i:CF CX X E)
  (I:Inv X a d H s) (r:bI vs b) (h:sp (vs++dvs) H Q E):wpAny (model X.prog X.w) X.A (call (.ref f) b) (EP X a d Q) X.xe s:=by
 have g:bI (vs++dvs) (b++ds):=r.append hd
 have l:(b++ds).length=ps.length:=by rw[←g.length];exact F.len _ _ _ _ h
 refine wpAny_call (codeAny_mono (F.run X.A X.stack s H ⟨b,[]⟩ (b++ds) (vs++dvs) Q E q I.env0 (v s b I.kIn l) g h) λr j c=> ?_)
 cases r with
 |error e=>exact i a d H s e j I c
 | ok n=>
   cases n with
   |ret u=>exact I.after c
   |next=>exact False.elim c
   |brk=>exact False.elim c
   |cont=>exact False.elim c
def EZ(F:bh X.prog X.w X.K X.mg X.base CX k f fd ps sp)(l:fZ k X.A)(n:Gl X x)(d:X.mg x=some (.ref f))(j:PySem.W.keepIn X.K (.ref f)=true)(v:Binds X.K fd ps ds)(hd:bI dvs ds)(i:CF CX X E)
  (g:PA X (e::es) t) (b:(x==("__debug__":Str))=false:=by decide) (he:starEach (e::es) X.env=(false,eval e X.env)::starEach es X.env:=by rfl) (hpl:(backTo pos<|starEach es X.env).any (·.1)=false:=by rfl):
  PE X (.Call (.Name x p) (e::es) [] pos) (IG sp dvs E t):=by
 intro a s u H Q I h
 refine wpAny_Call_Name_kw<|yF I n d ?_ b
 refine PySem.W.callWith_K (h₀:=X.base) I.ok.mod.kin j (c_ (g pos a s u H _ I h) λz y ⟨B,H1,c,r,q⟩=>⟨c.kIn,?_⟩) he hpl
 exact G4 F l v hd i c r q
end
structure aF(N P:List Str)(sc:Scope):Prop where
 kind:sc.kind=.function
 co:sc.isCoroutine=false
 gen:sc.isGenerator=false
 nd:N.Nodup
 pre:N.take P.length=P
 par:∀x∈P,sc.names.lookup x=some .local\/sc.names.lookup x=some .cell
 nofree:∀y∈sc.names,y.2≠.free
theorem xE:∀{a:List (Str×Value)} {m:Str->Option Value},(∀v,(x,v)∉a)->bindL b a m x=m x
 | [],_,_=>rfl
 | (n,v)::r,m,h=>by
   unfold bindL
   rw[xE λw c=>h w (Qpq _ c)]
   split
   · have:x≠n:=by rintro rfl;exact h v QBq
     simp[this]
   · rfl
theorem xS:∀{a:List (Str×Value)} {m:Str->Option Value},(∀v,(x,v)∉a)->bindC b a m x=m x
 | [],_,_=>rfl
 | (n,v)::r,m,h=>by
   unfold bindC
   rw[xS λw c=>h w (Qpq _ c)]
   split
   · rfl
   · have:x≠n:=by rintro rfl;exact h v QBq
     simp[this]
theorem xH{a:Str->Option NameKind}:∀{P:List Str} {vs:List Value} {i:Nat} {m:Str->Option Value},P.Nodup->P[i]?=some x->vs[i]?=some v->a x=some .local→
  bindL a (P.zip vs) m x=some v
 | [],_,_,_,_,h,_,_=>by simp at h
 |_::_,[],_,_,_,_,h,_=>by simp at h
 | p::P,w::vs,0,m,nd,h1,h2,hk=>by
   simp at h1 h2;subst h1;subst h2
   show bindL a ((p,w)::P.zip vs) m p=_
   unfold bindL
   rw[xE λv b=>(List.nodup_cons.mp nd).1 (QeQ b).1,Qhq hk]
   simp
 | p::P,w::vs,i+1,m,nd,h1,h2,hk=>by
   show bindL a ((p,w)::P.zip vs) m x=_
   unfold bindL
   exact xH (i:=i) (List.nodup_cons.mp nd).2 (by simpa using h1) (by simpa using h2) hk
theorem yg{a:Str->Option NameKind}:∀{P:List Str} {vs:List Value} {i:Nat} {m:Str->Option Value},P.Nodup->P[i]?=some x->vs[i]?=some v->a x≠some .local→
  bindC a (P.zip vs) m x=some v
 | [],_,_,_,_,h,_,_=>by simp at h
 |_::_,[],_,_,_,_,h,_=>by simp at h
 | p::P,w::vs,0,m,nd,h1,h2,hk=>by
   simp at h1 h2;subst h1;subst h2
   show bindC a ((p,w)::P.zip vs) m p=_
   unfold bindC
   rw[xS λv b=>(List.nodup_cons.mp nd).1 (QeQ b).1,Quq hk]
   simp
 | p::P,w::vs,i+1,m,nd,h1,h2,hk=>by
   show bindC a ((p,w)::P.zip vs) m x=_
   unfold bindC
   exact yg (i:=i) (List.nodup_cons.mp nd).2 (by simpa using h1) (by simpa using h2) hk
def start(N:List Str)(vs:List V):St:=vs.map some++List.replicate (N.length-vs.length) none
def B_(CX:Gz)(P:Program)(w:World)(K:PySem.W.Frag)(mg:Str->Option Value)(base:Heap)(N:List Str)(b:Str)(a:Scope)(f:Addr)(d:Value)(A:Around)(outer:List Env)(s:Shared)(H:Hp)(E:XK):Cx where
 prog:=P
 w:=w
 K:=K
 mg:=mg
 base:=base
 A:=A.deeper (envOfC b a s.heap.objs.size f d)
 N:=N
 s₀:=s
 H₀:=H
 env:=envOfC b a s.heap.objs.size f d
 outer:=outer
 stack:=envOfC b a s.heap.objs.size f d::outer
 ex:= []
 calm:=true
 fn:=λ_=>true
 pn:= []
 xe:=λe h=>wpAny (model P w) (A.deeper<|envOfC b a s.heap.objs.size f d) (leaving (envOfC b a s.heap.objs.size f d) e) (λ_ c=>CX outer H s E e c) (λg c=>CX outer H s E g c) h
def A0{sc:Scope}(h:sc.names.lookup x=some .cell):∃c,(cellsFrom n sc.names []).lookup x=some c:=by
 have q:=PySem.W.cellsFrom_some sc.names n [] (.inl h)
 exact Option.isSome_iff_exists.mp q
def Gb{CX:Gz}{P:Program}{w:World}{K:PySem.W.Frag}{mg:Str->Option Value}{base:Heap}{N ps:List Str}{g:Str}{d:Scope}{f:Addr}{G:Value}{A:Around}{outer:List Env}{s J:Shared}{H:Hp}{E:XK}{I:List Value}{vs:List V}
  (S:aF N ps d) (hd:A.handled=none) (l:JJ P w K mg base A outer s H) (X:vs.length=ps.length) (r:bI vs I)
  (x:InCallC s s.heap.objs.size (bindL (envOfC g d s.heap.objs.size f G).kindOf (ps.zip I) λ_=>none) (cellsFrom (s.heap.objs.size+1) d.names []) (bindC (envOfC g d s.heap.objs.size f G).kindOf (ps.zip I) λ_=>none) J):
  Inv (B_ CX P w K mg base N g d f G A outer s H E) [] (start N vs) H J:=by
 have R:ps.length<=N.length:=by have:=congrArg List.length S.pre;rw[Qxq] at this;omega
 obtain⟨C,U,rfl,hk⟩:=x.done
 have m:∀b:Addr,b∉(B_ CX P w K mg base N g d f G A outer s H E).ex:=λb z=>absurd (show b∈([]:List Addr) from z) (by simp)
 refine⟨⟨l.mod,S.kind,rfl,rfl,Qmq _,λy z c C j=> ?_,λy o=> ?_,λy c _ h=> ?_,λ_=>hd,Around.frames_deeper l.frames,.inr ⟨rfl,rfl⟩,λb z=>absurd z (m b),l.bs,l.bsz,λb _ _=>m b,λb z=>absurd z (m b),l.funs,l.frf⟩,
  rfl,l.bare,Un.kept hk,⟨_,x.toInCall.ns,λi y v C j Y=> ?_⟩,λy c h=>⟨_,x.cell y c h⟩,l.hok.fresh (Qmq _),λy c h=> ?_,λp t=>absurd (show p∈([]:List (Addr×Obj)) from t) (by simp),l.hok.kept hk,?_⟩
 ·exact name_of_addr x.apart (PySem.mem_of_lookup C)<|PySem.mem_of_lookup j
 ·have o:d.names.lookup y=some .cell\/d.names.lookup y=some .free:=o
  rcases o with o|o
  ·exact A0 o
  ·exact absurd rfl<|S.nofree _<|PySem.mem_of_lookup o
 ·exact nQl<|x.above y c<|PySem.mem_of_lookup h
 ·have F:i<vs.length:=by
   unfold start at j
   by_cases F:i<vs.length
   ·exact F
   ·rw[QQq (by simpa using F)] at j
    rw[List.getElem?_replicate] at j
    split at j <;>cases j
  have M:vs[i]?=some v:=by
   unfold start at j
   rw[QHq (by simpa using F),gQm] at j
   cases e:vs[i]? with
   |none=>rw[e] at j;cases j
   |some a=>rw[e] at j;cases j;rfl
  obtain⟨u,L,Q⟩:=r.get M
  have t:ps[i]?=some y:=by
   rw[←S.pre,List.getElem?_take_of_lt (by omega)];exact C
  have B:ps.Nodup:=by rw[←S.pre];exact S.nd.sublist (List.take_sublist _ _)
  refine⟨u,Q,?_⟩
  rcases S.par y (mQg t) with k|k
  ·exact .inl ⟨k,xH B t L k⟩
  ·obtain⟨c,e⟩:=A0 (n:=s.heap.objs.size+1) k
   refine .inr ⟨.inl k,c,e,?_⟩
   have q:=x.cell y c e
   rw[yg B t L (by show d.names.lookup y≠_;rw[k];decide)] at q
   exact q
 ·exact l.hok.fresh<|nQl<|x.above y c<|PySem.mem_of_lookup h
 ·unfold start
  show _=N.length
  rw[lQa,lQm,QIq]
  omega
def N5{K:PySem.W.Frag}{Z kV F pm d ct oc:Value}
    {sp:Sp} (lk:K.lookup f=some ⟨oc,od,.func (PySem.W.fnOf name c g h a Z kV F pm an d ct),X⟩) (L:PySem.W.codeIn K d c=true) (S:aF N ps a)
  (len:∀vs H Q E,sp vs H Q E->vs.length=ps.length)
  (l:∀(A:Around) (outer:List Env) (s:Shared) (H:Hp) (vs:List V) (Q:VK) (E:XK),fZ k (A.deeper (envOfC c a s.heap.objs.size f d))->sp vs H Q E→
   ∃t,uC (B_ CX P w K mg base N c a f d A outer s H E) h t/\t {nx:=λ_ j=>Q .non j,rt:=Q} (start N vs) H):
  bh P w K mg base CX (k+1) f (PySem.W.fnOf name c g h a Z kV F pm an d ct) ps sp:=by
 refine⟨len,λA outer s H Y us vs Q E U B hb r C=> ?_⟩
 have hl:=len _ _ _ _ C
 have KX:K.In s.heap:=B.mod.kin.keeps λb o e=>(B.bs b o e).1
 have M:s.heap.NoLimit:=B.mod.nolimit.keeps λb o e=>(B.bs b o e).1
 have m:∀y∈ps.zip us,a.names.lookup y.1=some .local\/(a.names.lookup y.1=some .cell/\((cellsFrom (s.heap.objs.size+1) a.names []).lookup y.1).isSome=true):=λ⟨n,v⟩ hy=>by
  rcases S.par n (QeQ hy).1 with q|q
  ·exact .inl q
  ·exact .inr ⟨q,PySem.W.cellsFrom_some _ _ _<|.inl q⟩
 refine codeAny_call_function U.depth (KX _ _ lk) rfl S.co S.gen rfl (PySem.W.codeRec_of KX L)<|hb _ _ _ _ ?_
 refine wpAny_newFunctionEnv_cells S.kind m λa0 he s1 x=> ?_
 subst he
 refine⟨M.keeps x.toInCall.keep,codeAny_func ?_⟩
 obtain⟨t,ht,hq⟩:=l A outer s H vs Q E (U.deeper _) C
 have I:Inv (B_ CX P w K mg base N c a f d A outer s H E) [] (start N vs) H s1:=Gb S U.hd B hl r x
 refine QRq (ht [] s1 (start N vs) H _ I hq) (λfl R p=> ?_) λe R p=>p
 have z:∀{i:St} {j:Hp} {v:V} {u:Value},Inv (B_ CX P w K mg base N c a f d A outer s H E) [] i j R->RelV v u->Q v j->CE outer P w H s Q u R:=
  λ{i j v u} J G q=>⟨v,j,J.os,J.bare,J.base,J.hok,G,q⟩
 cases fl with
 | ret u=>
   obtain⟨v,i,j,J,G,q⟩:=p
   exact z J G q
 | next=>
   obtain⟨i,j,J,q⟩:=p
   exact z (v:=V.non) (u:=Value.none) J rfl q
 | brk=>
   obtain⟨_,_,_,q⟩:=p
   exact False.elim q
 | cont=>
   obtain⟨_,_,_,q⟩:=p
   exact False.elim q
section
variable{X:Cx}{x:Str}{p pos:Pos}{e:Expr}{es:List Expr}{t:TA}{id T:String}{r:List V->Hp->VK->Prop}
def OC(r:List V->Hp->VK->Prop)(t:TA):TE:=λb H Q=>t b H λa H1=>r a H1 Q
def kb(u:kh X (.builtin id) r)(q:Gl X x)(d:X.mg x=none)(k:bootBuiltins x=some (.builtin id))(f:PA X (e::es) t)(i:x≠"__name__":=by decide)(b:(x==("__debug__":Str))=false:=by decide)
  (he:starEach (e::es) X.env=(false,eval e X.env)::starEach es X.env:=by rfl) (hpl:(backTo pos<|starEach es X.env).any (·.1)=false:=by rfl):PE X (.Call (.Name x p) (e::es) [] pos) (OC r t):=by
 intro a s c H Q I h
 refine wpAny_Call_Name_kw<|oZ I q d k ?_ i b
 exact PyProof.Rows.callWith_builtin1 (c_ (f pos a s c H _ I h) λn j ⟨o,H1,l,g,m⟩=>u a j c H1 o n Q l g m) he hpl
def F1(u:kh X (.type T) r)(q:Gl X x)(d:X.mg x=none)(k:bootBuiltins x=some (.type T))(f:PA X (e::es) t)(i:x≠"__name__":=by decide)(b:(x==("__debug__":Str))=false:=by decide)
  (he:starEach (e::es) X.env=(false,eval e X.env)::starEach es X.env:=by rfl) (hpl:(backTo pos<|starEach es X.env).any (·.1)=false:=by rfl):PE X (.Call (.Name x p) (e::es) [] pos) (OC r t):=by
 intro a s c H Q I h
 refine wpAny_Call_Name_kw<|oZ I q d k ?_ i b
 exact PyProof.Rows.callWith_type1 (c_ (f pos a s c H _ I h) λn j ⟨o,H1,l,g,m⟩=>u a j c H1 o n Q l g m) he hpl
end
section
variable{κ:Type}[DecidableEq κ]
def rA(a:List (κ×V))(k:κ):Option V:=(a.find? λb=>decide (b.1=k)).map (·.2)
def putK(a:List (κ×V))(k:κ)(v:V):List (κ×V):=
 if (a.any λb=>decide (b.1=k))=true then a.map (λb=>if b.1=k then(b.1,v) else b) else a++ [(k,v)]
def u6{p:κ×V}(e:p.1=k):rA (p::r) k=some p.2:=by simp[rA,List.find?_cons,e]
def vQ{p:κ×V}(e:¬p.1=k):rA (p::r) k=rA r k:=by simp[rA,List.find?_cons,e]
theorem AV(k:κ):∀a:List (κ×V),(a.any λkv=>decide (kv.1=k))=(rA a k).isSome
 | []=>rfl
 | p::r=>by
   rw[List.any_cons]
   by_cases e:p.1=k
   · simp only[u6 e,Qeq e,Bool.true_or,Option.isSome_some]
   · rw[vQ e,Qdq e,Bool.false_or];exact AV k r
def ji(a:List (κ×V))(k:κ)(v:V):(putK a k v).length<=a.length+1:=by
 unfold putK
 split
 ·rw[lQm];omega
 ·rw[lQa,Qnq,QGq];omega
def wK.isSome_eq(r:wK o u):o.isSome=u.isSome:=by
 cases o with
 | none=>cases u with
   |none=>rfl
   |some _=>exact(show False from r).elim
 | some _=>cases u with
   |none=>exact(show False from r).elim
   |some _=>rfl
def KV.val(r:KV a vs)(k:κ):wK (rA a k) (valueAt vs k):=by
 unfold KV at r
 induction r with
 |nil=>exact True.intro
 | @cons p q ps qs h t ih=>
   obtain⟨d,f⟩:=h
   by_cases e:p.1=k
   · have c:q.1=k:=d.symm.trans e
     have b:valueAt (q::qs) k=some q.2:=by simp[valueAt,List.find?_cons,c]
     rw[u6 e,b];exact f
   · have c:¬q.1=k:=λz=>e (d.trans z)
     have b:valueAt (q::qs) k=valueAt qs k:=by simp[valueAt,List.find?_cons,c]
     rw[vQ e,b];exact ih
theorem KV.any(r:KV a vs)(k:κ):(a.any λkv=>decide (kv.1=k))=vs.any λkv=>decide (kv.1=k):=by
 unfold KV at r
 induction r with
 |nil=>rfl
 |cons h t b=>rw[List.any_cons,List.any_cons,b,h.1]
def KV.repl(r:KV a vs)(k:κ)(c:RelV y u):
  KV (a.map λkv=>if kv.1=k then(kv.1,y) else kv) (vs.map λkv=>if kv.1=k then(kv.1,u) else kv):=by
 unfold KV at r⊢
 induction r with
 |nil=>exact .nil
 | @cons p q ps qs h t ih=>
   rw[QDq,QDq]
   refine .cons ?_ ih
   obtain⟨b,d⟩:=h
   by_cases e:p.1=k
   · rw[Qhq e,Qhq (b.symm.trans e)];exact⟨b,c⟩
   · rw[Quq e,Quq (λz=>e<|b.trans z)];exact⟨b,d⟩
def KV.put(r:KV a vs)(k:κ)(b:RelV y u):KV (putK a k y) (stored vs k u):=by
 unfold putK stored
 rw[r.any k]
 by_cases e:(vs.any λc=>decide (c.1=k))=true
 ·rw[Qhq e,Qhq e];exact r.repl k b
 ·rw[Quq e,Quq e];exact Paired.snoc r ⟨rfl,b⟩
def KV.length(r:KV a vs):a.length=vs.length:=Paired.length r
end
def BF(r:RelV (kV k) u):(cc P w).is k u=true:=by
 cases k with
 |inl i=>obtain⟨t,e⟩:=(show∃t,u=Value.int i t from r);subst e;exact Bx P w i t
 |inr x=>obtain⟨t,e⟩:=(show∃t,u=Value.str x t from r);subst e;exact Bz P w x t
theorem yt:∀{a:List Key} {b:List Value},bI (a.map kV) b->ItemsAre (cc P w) a b
 | [],_,r=>by rw[List.map_nil] at r;cases r;exact .nil
 | k::a,_,r=>by
   rw[QDq] at r
   cases r with
   |cons h t=>exact .cons (BF h) (yt t)
abbrev KT(H:Hp):List (List Key×V)->List (List Key×Addr×Value)->Prop:=Paired λp q=>p.1=q.1/\H q.2.1=some (.tup (p.1.map kV))/\RelV p.2 q.2.2
def KT.val(r:KT H a xs)(k:List Key):wK (rA a k) ((atKey xs k).map (·.2)):=by
 induction r with
 |nil=>exact True.intro
 | @cons p q ps qs h t ih=>
   obtain⟨d,_,f⟩:=h
   by_cases e:p.1=k
   · have c:q.1=k:=d.symm.trans e
     have b:atKey (q::qs) k=some q.2:=by simp[atKey,List.find?_cons,c]
     rw[u6 e,b];exact f
   · have c:¬q.1=k:=λz=>e (d.trans z)
     have b:atKey (q::qs) k=atKey qs k:=by simp[atKey,List.find?_cons,c]
     rw[vQ e,b];exact ih
def KT.repl(r:KT H a xs)(k:List Key)(f:RelV y u):
  KT H (a.map λkv=>if kv.1=k then(kv.1,y) else kv) (xs.map<|putAt k u):=by
 induction r with
 |nil=>exact .nil
 | @cons p q ps qs h t ih=>
   rw[QDq,QDq]
   refine .cons ?_ ih
   obtain⟨b,c,d⟩:=h
   unfold putAt
   by_cases e:p.1=k
   · rw[Qhq e,Qhq (b.symm.trans e)];exact⟨b,c,f⟩
   · rw[Quq e,Quq (λz=>e<|b.trans z)];exact⟨b,c,d⟩
def KT.put(r:KT H a xs)(k:List Key)(f:H b=some (.tup (k.map kV)))(c:RelV y u):
  KT H (putK a k y) (storedH xs k b u):=by
 have e:(a.any λd=>decide (d.1=k))=(atKey xs k).isSome:=by
  rw[AV,(r.val k).isSome_eq,Option.isSome_map]
 unfold putK storedH
 rw[e]
 by_cases q:(atKey xs k).isSome=true
 ·rw[Qhq q,Qhq q];exact r.repl k c
 ·rw[Quq q,Quq q];exact Paired.snoc r ⟨rfl,f,c⟩
def KT.keeps{H c:Hp}(r:KT H a xs)(ht:∀b ys,H b=some (.tup ys)->c b=some (.tup ys)):KT c a xs:=
 Paired.mapP r λ_ _ z=>⟨z.1,ht _ _ z.2.1,z.2.2⟩
section
variable{P:Program}{w:World}{H:Hp}{h:Heap}{a:Addr}
def K1(ok:p0 P w H h)(e:Rd H a u):dq P w H h a u:=e.ok ok
def Ij(ok:p0 P w H h)(e:Rd H a (.dK b)):b.length<=sizeLine/\(a==sysModules)=false/\∃vs,KV b vs/\h.DictOf (cc P w) a vs:=
 show dq P w H h a (.dK b) from K1 ok e
def Er(ok:p0 P w H h)(e:H a=some (.dK b)):b.length<=sizeLine/\(a==sysModules)=false/\∃vs,KV b vs/\h.DictOf (cc P w) a vs:=Ij ok (.inl e)
def C1{b:List Key}(ok:p0 P w H h)(e:H a=some (.tup (b.map kV))):(tupleKind<|cc P w).is h b a:=by
 obtain⟨_,c,r,o,d,f,_,n,g⟩:=(show dq P w H h a (.tup (b.map kV)) from ok a _ e)
 exact⟨o,c.toArray,n,d,f,g,by simpa using yt r⟩
def HL(ok:p0 P w H h)(e:Rd H a (.dT b)):b.length<=sizeLine/\(a==sysModules)=false∧
  ∃xs,KT H b xs/\h.DictOfH (tupleKind<|cc P w) a xs:=by
 obtain⟨z,y,xs,r,o,g,s,i,j,k,n,f⟩:=(show dq P w H h a (.dT b) from K1 ok e)
 refine⟨z,y,xs,r,o,g,s,i,j,k,n,λx c=> ?_,f⟩
 have d:∀{l:List (List Key×V)} {m:List (List Key×Addr×Value)},KT H l m->∀x∈m,(tupleKind<|cc P w).is h x.1 x.2.1:=by
  intro l m q
  induction q with
  |nil=>intro x c;exact nomatch c
  | @cons p q ps qs hq t ih=>
    intro x c
    rcases Qsq.mp c with e|c
    · subst e
      exact C1 ok (by rw[←hq.1];exact hq.2.1)
    · exact ih x c
 exact d r x c
def Oi(ok:p0 P w H h)(e:H a=some (.dT b)):b.length<=sizeLine/\(a==sysModules)=false∧
  ∃xs,KT H b xs/\h.DictOfH (tupleKind<|cc P w) a xs:=HL ok (.inl e)
end
def Ge(H:Hp)(a:Addr)(y:V)(r:Option V):Prop:=
 (∃c k,Rd H a (.dK c)/\y=kV k/\r=rA c k)\/∃c k b,Rd H a (.dT c)/\y=.ref b/\H b=some (.tup (k.map kV))/\r=rA c k
def IL(H:Hp)(a:Addr)(y v:V)(d:Hp):Prop:=
 (∃c k,H a=some (.dK c)/\y=kV k/\c.length<sizeLine/\d=upd H a (.dK (putK c k v)))∨
 ∃c k b,H a=some (.dT c)/\y=.ref b/\H b=some (.tup (k.map kV))/\c.length<sizeLine/\d=upd H a (.dT (putK c k v))
def Ge.k{H:Hp}{a:Addr}{b:List (Key×V)}{k:Key}(e:H a=some (.dK b)):Ge H a (kV k) (rA b k):=.inl ⟨b,k,.inl e,rfl,rfl⟩
def IL.k{H:Hp}{a:Addr}{b:List (Key×V)}{k:Key}{v:V}(e:H a=some (.dK b))(c:b.length<sizeLine):IL H a (kV k) v (upd H a<|.dK (putK b k v)):=.inl ⟨b,k,e,rfl,c,rfl⟩
section
variable{X:Cx}{pins:List (Addr×Obj)}{σ:St}{H:Hp}{s:Shared}{a:Addr}{y v:V}{u r:Value}{o:Option V}{A:Around}{E:Value->Shared->Prop}
def Inv.big(I:Inv X pins σ H s):sysModules<s.heap.objs.size:=by
 have h:mainGlobals<s.heap.objs.size:=(I.mod.glob.keeps I.bk).lt
 exact Nat.lt_trans (by decide) h
def FD{Q:Value->Shared->Prop}(G:A.units+1<cLine)(I:Inv X pins σ H s)(g:Ge H a y (some v))(x:RelV y u)(h:∀f t,Inv X pins σ H t->RelV v f->Q f t):
  wpAny (model X.prog X.w) A (getItem (.ref a) u) Q E s:=by
 rcases g with⟨m,k,e,n,l⟩|⟨m,k,b,e,n,B,l⟩
 ·subst n
  obtain⟨z,J,K,c,q⟩:=Ij I.hok e
  obtain⟨f,j,d⟩:=wK.some_of (v:=v) (o:=valueAt K k) (by rw[l];exact c.val k)
  exact wpAny_getItem_of (BF x) q.mapOf j<|h f _ (I.tok _) d
 ·subst n
  cases (show u=Value.ref b from x)
  obtain⟨z,J,F,c,q⟩:=HL I.hok e
  obtain⟨f,j,d⟩:=wK.some_of (v:=v) (o:=(atKey F k).map (·.2)) (by rw[l];exact c.val k)
  obtain⟨p,C,i⟩:=oQm.mp j
  refine wpAny_getItem_heap (tupleKind_room_in1 G) (C1 I.hok B) q C ?_
  rw[i]
  exact h f _ (I.tok _) d
def uO(I:Inv X pins σ H s)(d:Om (H a))(hs:Heap.SameBut a s.heap h')(he:∃q,h'.get? a=some q)(new:dq X.prog X.w (upd H a c) h' a c):
  Inv X pins σ (upd H a c) {s with heap:=h',toks:=t'}:=
 I.write (x:=a) (e:=a) d (.inl rfl) (λb q f z=>(hs.2 b f).trans z) he new
def vC{h':Heap}{b:List (Key×V)}(z:b.length<=sizeLine)(hd:(a==sysModules)=false)(c:KV b vs)(d:h'.DictOf (cc P w) a vs):
  dq P w e h' a (.dK b):=⟨z,hd,vs,c,d⟩
def FH{L:Hp}{Q:Unit->Shared->Prop}(Y:A.units+1<cLine)(I:Inv X pins σ H s)(g:IL H a y v L)(N:RelV y u)(G:RelV v r)(h:∀K,Inv X pins σ L K->Q () K):
  wpAny (model X.prog X.w) A (setItem (.ref a) u r) Q E s:=by
 rcases g with⟨d,k,e,t,l,p⟩|⟨d,k,b,e,t,F,l,p⟩
 ·subst t p
  obtain⟨z,B,vs,f,C⟩:=Er I.hok e
  have n:vs.length<=sizeLine:=by rw[←f.length];exact z
  have x:(putK d k v).length<=sizeLine:=by have:=ji d k v;omega
  refine wpAny_setItem_pairs (hsz:=n) (BF N) C λJ i m=>h _ ?_
  have P:∃q,J.get? a=some q:=let ⟨q,_,_,j,_⟩:=i;⟨q,j⟩
  exact uO I (by rw[e];exact True.intro) m P<|vC x B (f.put k G) i
 ·subst t p
  cases (show u=Value.ref b from N)
  obtain⟨z,B,S,f,C⟩:=Oi I.hok e
  have n:S.length<=sizeLine:=by rw[←Paired.length f];exact z
  have x:(putK d k v).length<=sizeLine:=by have:=ji d k v;omega
  refine wpAny_setItem_heap (hsz:=n) (tupleKind_room_in1 Y) (C1 I.hok F) C λJ i m=>h _ ?_
  obtain⟨q,U,ep,j,W,Z,h4,_,R⟩:=i
  refine uO I (by rw[e];exact True.intro) m ⟨q,j⟩ ⟨x,B,_,(f.put k F G).keeps λc ys M=> ?_,q,U,ep,j,W,Z,h4,R⟩
  rw[bx (Io M e (λz=>nomatch z))]
  exact M
end
def JX(i:Expr):Prop:=∀b a,subscripted i false b a=operate [b,a] (getItem b a)
def D4{E:Value->Shared->Prop}{T id:String}
  (m:typeLookup (.type T) "__getitem__"=pure (some<|.builtin id)) (hs:JX a)
  (h:wpAny (model prog w) A (eval b env) (λo e=>wpAny (model prog w) A (eval a env) (λi c=>c.TypeIs o T/\wpAny (model prog w) A (getItem o i) Q E c) E e) E s):
  wpAny (model prog w) A (eval (.Subscript b a pos) env) Q E s:=by
 refine Subscript_ (QRq h (λo e j=>QRq j (λi c d=> ?_) λ_ _ x=>x) λ_ _ x=>x)
 obtain⟨l,d⟩:=d
 unfold subscriptTail
 refine Qaq ?_
 rw[getitemInPython_of_ne l.not_modules]
 refine Qaq<|wpAny_specialOf l m ?_
 have g:wpAny (model prog w) A (subscripted a false o i) (λr f=>wpAny (model prog w) A (letTemporaryGo b o r >>= λ_=>pure r) Q E f) E c:=by
  rw[hs o i]
  exact wpAny_operating (QRq d (λr f k=>Qaq<|wpAny_letTemporaryGo<|Qgq k) λ_ _ x=>x)
 first
  |exact Qgq (Qaq g)
  |exact Qaq (Qgq<|Qaq g)
  |exact Qaq g
def B6(I:Inv X c h H s)(g:Ge H a y o):s.TypeIs (.ref a) "dict":=by
 rcases g with⟨d,k,e,_,_⟩|⟨d,k,b,e,_,_,_⟩
 ·obtain⟨_,_,i,_,f⟩:=Ij I.hok e
  exact f.typeIs
 ·obtain⟨_,_,j,_,f⟩:=HL I.hok e
  exact f.typeIs
def Nb(d c:TE):TE:=λb H Q=>d b H λx H1=>c b H1 λy H2=>∃a v,x=.ref a/\Ge H2 a y (some v)/\Q v H2
def Og(e d c:TE):TS:=λD b H=>c b H λv H1=>e b H1 λx H2=>d b H2 λy H3=>∃a H4,x=.ref a/\IL H3 a y v H4/\D.nx b H4
section
variable{X:Cx}{o i e value:Expr}{pos pos' tpos:Pos}{td ty tv:TE}
def JR(p:X.A.units+1<cLine)(j:PE X o td)(hi:PE X i ty)(hs:JX i):PE X (.Subscript o i pos) (Nb td ty):=by
 intro b s f H Q I h
 refine D4 PySem.F.slot_dict_getitem.lookup hs (c_ (j b s f H _ I h) λu m ⟨x,H1,q,n,r⟩=>c_ (hi b m f H1 _ q r) λJ G t=> ?_)
 obtain⟨y,H2,d,w,a,v,l,g,z⟩:=t
 subst l
 obtain rfl:u=Value.ref a:=n
 exact⟨B6 d g,FD p d g w λB C k c=>⟨v,H2,k,c,z⟩⟩
def Jy(t:X.A.units+1<cLine)(d:PE X o td)(hi:PE X i ty)(w:PE X value tv)(hs:swapsWith value (some<|.Subscript o i pos') pos.line X.env=pure false):
  PS X (.Assign [.Subscript o i pos'] value pos) (Og td ty tv):=by
 intro b s c H D I h
 refine wpAny_Assign_Subscript (c_ (w b s c H _ I h) λr p ⟨v,H1,B,m,C⟩=>c_ (d b p c H1 _ B C) λu n ⟨x,H2,j,q,G⟩=>c_ (hi b n c H2 _ j G) λL K ⟨y,H3,f,F,a,H4,k,g,z⟩=> ?_) hs
 subst k
 obtain rfl:u=Value.ref a:=q
 exact FH t f g F m λJ l=>⟨c,H4,l,z⟩
end
def Hx(h:Heap)(a:sysModules<h.objs.size):dq P w H (h.push {cls:=.type "dict",data:=.dict #[]}) h.objs.size (.dK []):=
 ⟨Nat.zero_le _,beq_eq_false_iff_ne.mpr<|Ne.symm<|Qwq a,[],.nil,Heap.DictOf.new h⟩
def Mk:TE:=λ_ H Q=>∀p,H p=none->Q (.ref p) (upd H p<|.dK [])
section
variable{X:Cx}{pos:Pos}
def GV:PE X (.Dict [] [] pos) Mk:=λb s c H Q I h=>
 wpAny_Dict_empty ⟨.ref s.heap.objs.size,_,I.laid (a:=s.heap.objs.size) (o:=.dK []) (t':=s.toks) (λ_ _ q=>Qcq _ q) (Qmq _)<|Hx s.heap I.big,rfl,h _<|I.hok.fresh<|Qmq _⟩
end
def lG(a more:List (Key×V)):List (Key×V):=more.foldl (λb c=>putK b c.1 c.2) a
def KV.merge:∀{more:List (Key×V)} {rs:List (Key×Value)} {a:List (Key×V)} {vs:List (Key×Value)},KV more rs->KV a vs->KV (lG a more) (merged vs rs):=by
 intro more rs a vs r
 unfold KV at r
 induction r generalizing a vs with
 |nil=>intro q;exact q
 | @cons p q ps qs h t ih=>
   intro b
   have e:KV (putK a p.1 p.2) (stored vs q.1 q.2):=by
     have:=b.put p.1 h.2
     rw[←h.1];exact this
   exact ih e
theorem jF:∀(more a:List (Key×V)),(lG a more).length<=a.length+more.length
 | [],a=>by show a.length<=a.length+0;omega
 | p::r,a=>by
   have b:=jF r (putK a p.1 p.2)
   have c:=ji a p.1 p.2
   show(lG (putK a p.1 p.2) r).length<=_
   rw[Qnq];omega
end L2
namespace HT
open PySem PyProof.Rows
section
open PySem.SeqAt
open PySem.AutoSeq1 (wpAny_loadPart')
open PySem.MeetsSeq PySem.MeetsSeq2 PySem.MeetsSeq3
end
section
variable{prog:Program}{w:World}{A:Around}{E:Value->Shared->Prop}{s:Shared}
def Ki{vs ws:List Value}{Q:Value->Shared->Prop}(ht:IsTup s.heap t vs.toArray)(x:IsTup s.heap b ws.toArray)(m:vs≠[])
  (u:ws= []->Q (.ref t) s) (v:ws≠[]->Q (.ref s.heap.objs.size) {s with heap:=s.heap.push {cls:=.type "tuple",data:=.seq (vs++ws).toArray}})
  (hsz:vs.length+ws.length<=sizeLine):wpAny (model prog w) A (binaryOp .Add (.ref t)<|.ref b) Q E s:=by
 obtain⟨⟨cls,o,data,q⟩,h,r,n,p⟩:=id ht
 obtain⟨⟨k,f,j,c⟩,a,d,l,g⟩:=id x
 simp only at r p d g
 subst r p d g
 have e:vs.toArray++ws.toArray=(vs++ws).toArray:=by simp
 by_cases i:ws= []
 ·exact concat_meets ⟨_,h,rfl⟩ ⟨_,a,rfl⟩ noFill_tuple_add seq_tuple_add PySem.F.slot_tuple_add PySem.F.entry_tuple_add (PySem.F.args_tuple_add_2 _ _)
   (tuple_addW1 t b vs.toArray ws.toArray n l o f q c (by simpa using m) (by simp[i])) ⟨h,a,u i⟩
 ·refine concat_meets ⟨_,h,rfl⟩ ⟨_,a,rfl⟩ noFill_tuple_add seq_tuple_add PySem.F.slot_tuple_add PySem.F.entry_tuple_add (PySem.F.args_tuple_add_2 _ _)
   (tuple_addW2 t b vs.toArray ws.toArray n l o f q c (by simpa using m) (by simpa using i) (by rw[Qjq,Qjq];exact hsz)) ⟨h,a,?_⟩
  rw[e]
  exact v i
def fT(n d:Nat):Option Int->Nat
 |none=>d
 |some v=>if v<0 then(v+(n:Int)).toNat else min v.toNat n
def vU(n d:Nat):fT n d none=d:=rfl
def E4(n d k:Nat):fT n d (some (k:Int))=min k n:=by
 show(if (k:Int)<0 then((k:Int)+(n:Int)).toNat else min (k:Int).toNat n)=min k n
 rw[Quq (by omega),Int.toNat_natCast]
def LO(n d:Nat)(hd:d<=n)(o:Option Int):fT n d o<=n:=by
 cases o with
 |none=>exact hd
 | some v=>
   show(if v<0 then(v+(n:Int)).toNat else min v.toNat n)<=n
   by_cases a:v<0
   · rw[Qhq a];omega
   · rw[Quq a];exact Nat.min_le_right _ _
def D3(v:Int)(n d:Nat):(if v<0 then max (v+(n:Int)) 0 else min v (n:Int))=((fT n d (some v):Nat):Int):=by
 show(if v<0 then max (v+(n:Int)) 0 else min v (n:Int))=(((if v<0 then(v+(n:Int)).toNat else min v.toNat n):Nat):Int)
 by_cases a:v<0
 ·simp only[Qhq a];omega
 ·simp only[Quq a];omega
def Ds(lo hi:Option Int)(n:Nat):Builtin.Slice.sliceAdjust lo hi 1 (n:Int)=(((fT n 0 lo:Nat):Int),((fT n n hi:Nat):Int)):=by
 have a:¬((1:Int)<0):=by omega
 unfold Builtin.Slice.sliceAdjust
 simp only[a,if_false]
 refine Prod.ext ?_ ?_
 ·cases lo with
  |none=>rfl
  |some v=>exact D3 v n 0
 ·cases hi with
  |none=>rfl
  |some v=>exact D3 v n n
def DQ(i j:Nat):Builtin.Slice.slicePlaces (i:Int) (j:Int) 1=j-i:=by
 unfold Builtin.Slice.slicePlaces
 have a:(1:Int)>0:=by omega
 simp only[a,if_true,Int.ediv_one]
 split <;>omega
def vd{Q:Option Int->Shared->Prop}(p:IsPart v o)(h:Q o s):wpAny (model prog w) A (Builtin.Slice.slicePartIndex v) Q E s:=by
 cases p with
 |none=>exact slicePart_none h
 |int i t=>exact slicePart_int h
def jQ{e:Addr}{d c:Value}{lo hi:Option Int}{n:Nat}{Q:Int×Int×Nat->Shared->Prop}(hs:s.heap.IsSliceOf e d c .none)(i:IsPart d lo)(f:IsPart c hi)
  (h:Q (((fT n 0 lo:Nat):Int),1,fT n n hi-fT n 0 lo) s):wpAny (model prog w) A (Builtin.Slice.sliceApplied (.ref e)<|pure (n:Int)) Q E s:=by
 obtain⟨j,a,g,b⟩:=id hs
 unfold Builtin.Slice.sliceApplied Builtin.Slice.sliceFields
 refine Qaq<|Qaq<|QMq a b (x:=d) rfl<|Qaq<|QMq a b (x:=c) rfl<|Qaq<|QMq a b (x:=.none) rfl<|Qgq ?_
 refine Qaq<|slicePart_none ?_
 show wpAny _ _ (if ((1:Int)==0)=true then _ else _) _ _ s
 rw[Quq (by decide)]
 refine Qaq<|vd i<|Qaq<|vd f<|Qaq<|Qgq ?_
 show wpAny _ _ (match Builtin.Slice.sliceAdjust lo hi 1 (n:Int) with|(lo,hi)=>pure (lo,(1:Int),Builtin.Slice.slicePlaces lo hi 1)) _ _ s
 rw[Ds lo hi n]
 show wpAny _ _ (pure (((fT n 0 lo:Nat):Int),(1:Int),Builtin.Slice.slicePlaces ((fT n 0 lo:Nat):Int) ((fT n n hi:Nat):Int) 1)) _ _ s
 rw[DQ]
 exact Qgq h
def Hm(xs:Array Value)(i k:Nat):((List.range k).filterMap λ(m:Nat)=>xs[((i:Int)+(m:Int)*1).toNat]?).toArray=((xs.toList.drop i).take k).toArray:=by
 have e:(λ(m:Nat)=>xs[((i:Int)+(m:Int)*1).toNat]?)=λm=>xs[i+m]? :=by
  funext m
  have:((i:Int)+(m:Int)*1).toNat=i+m:=by omega
  rw[this]
 rw[e]
 have:=pick_run xs i k
 rw[List.filterMap_map] at this
 have a:((λx=>xs[x]?)∘λx=>i+x)=λm=>xs[i+m]? :=rfl
 rw[a] at this
 rw[this]
def qC{t f:Addr}{items:Array Value}{g i:Value}{lo hi:Option Int}{Q:Value->Shared->Prop}(ht:IsTup s.heap t items)(hs:s.heap.IsSliceOf f g i .none)(o:IsPart g lo)(j:IsPart i hi)
  (k:¬(fT items.size 0 lo=0/\fT items.size items.size hi=items.size))
  (h:Q (.ref s.heap.objs.size) {s with heap:=s.heap.push {cls:=.type "tuple",data:=.seq ((items.toList.drop<|fT items.size 0 lo).take (fT items.size items.size hi-fT items.size 0 lo)).toArray}})
  (hsz:items.size<=sizeLine):wpAny (model prog w) A (getItem (.ref t)<|.ref f) Q E s:=by
 have a:sizeOk (.seq ((items.toList.drop<|fT items.size 0 lo).take (fT items.size items.size hi-fT items.size 0 lo)).toArray):=by
  show((items.toList.drop<|fT items.size 0 lo).take (fT items.size items.size hi-fT items.size 0 lo)).toArray.size<=sizeLine
  rw[Qjq,Qxq,List.length_drop,Array.length_toList]
  omega
 have p:fT items.size items.size hi<=items.size:=LO _ _ (Qmq _) hi
 obtain⟨l,d,c,n⟩:=id hs
 have b:s.TypeIs (.ref f) "slice":=⟨l,d,c⟩
 unfold getItem
 try with_reducible refine QLq ?_
 first|refine Qaq (Qgq ?_)|skip
 refine Qaq<|wpAny_sequenceKey ht.typeIs (by decide) ?_
 refine Qaq (QiQ (name:=Str.ofString "__getitem__") ht.typeIs PyProof.Rows.slot_tuple_getitem
  (wpAny_call_entry PyProof.Rows.slot_tuple_getitem ht.typeIs entry_tuple_getitem ?_ (args_tuple_getitem _ _)))
 show wpAny _ _ (Builtin.Tuple.tupleItemsOf (.ref t) >>= _) _ _ s
 refine Qaq<|tupleItemsOf_ ht ?_
 refine Qaq<|wpAny_typeOf b ?_
 rw[Qhq (by decide)]
 refine Qaq<|jQ hs o j ?_
 have e:¬((((fT items.size 0 lo:Nat):Int)==0&&(1:Int)==1&&(fT items.size items.size hi-fT items.size 0 lo)==items.size)=true):=by
  intro q
  rw[QCq,QCq] at q
  have r:((fT items.size 0 lo:Nat):Int)=0:=eq_of_beq q.1.1
  have u:fT items.size items.size hi-fT items.size 0 lo=items.size:=eq_of_beq q.2
  exact k ⟨by omega,by omega⟩
 show wpAny _ _ (if (((fT items.size 0 lo:Nat):Int)==0&&(1:Int)==1&&(fT items.size items.size hi-fT items.size 0 lo)==items.size)=true then _ else _) _ _ s
 rw[Quq e,Hm]
 first
  |exact Qaq (m:=Builtin.Tuple.tupleExact _) (QhQ (Qgq ⟨_,rfl,Qgq h⟩) a)
  |exact Qaq (m:=Builtin.Tuple.tupleExact _) (QhQ (Qaq<|Qgq<|Qgq ⟨_,rfl,Qgq h⟩) a)
  |exact Qaq (Qaq (m:=Builtin.Tuple.tupleExact _)<|QhQ (Qgq<|Qgq ⟨_,rfl,Qgq h⟩) a)
  |exact Qaq (Qaq (m:=Builtin.Tuple.tupleExact _)<|QhQ (Qgq ⟨_,rfl,Qgq h⟩) a)
end
end HT
namespace L2
open PySem PySem.Spec PyProof.Rows
abbrev TO:=St->Hp->(Option Int->Hp->Prop)->Prop
def PO(X:Cx)(e:Option Expr)(t:TO):Prop:=
 ∀ (a:List (Addr×Obj)) (s:Shared) (b:St) (H:Hp) (Q:Option Int->Hp->Prop),Inv X a b H s->t b H Q→
   wpAny (model X.prog X.w) X.A (evalPart e X.env) (λu d=>∃o c,Inv X a b c d/\IsPart u o/\Q o c) X.xe s
def JT:TO:=λ_ H Q=>Q none H
def MW(t:TE):TO:=λa H Q=>t a H λx H1=>∃i,x=.int i/\Q (some i) H1
section
variable{X:Cx}{e:Expr}{te:TE}{lo hi:Option Expr}{tl th:TO}{pos p2:Pos}
def Jo:PO X none JT:=by
 intro a s b H Q I h
 rw[evalPart_none]
 exact Qgq ⟨none,H,I,.none,h⟩
def JL(h:PE X e te):PO X (some e) (MW te):=by
 intro a s j H Q I c
 rw[evalPart_some]
 refine c_ (h a s j H _ I c) λu k b=> ?_
 obtain⟨x,H1,f,d,g⟩:=b
 obtain⟨i,rfl,q⟩:=g
 obtain⟨t,rfl⟩:=d
 exact⟨some i,H1,f,.int i t,q⟩
def P1(X:Cx)(r:V->Option Int->Option Int->Hp->VK->Prop):Prop:=
 ∀ (a:List (Addr×Obj)) (s:Shared) (f:St) (H:Hp) (x:V) (v c b:Value) (lo hi:Option Int) (d:Addr) (Q:VK),Inv X a f H s->RelV x v->s.heap.IsSliceOf d c b .none->IsPart c lo->IsPart b hi->r x lo hi H Q→
   ∃T id,typeLookup (.type T) "__getitem__"=pure (some<|.builtin id)/\s.TypeIs v T/\wpAny (model X.prog X.w) X.A (getItem v<|.ref d) (EP X a f Q) X.xe s
def Q5(r:V->Option Int->Option Int->Hp->VK->Prop)(te:TE)(tl th:TO):TE:=λa H Q=>te a H λx H1=>tl a H1 λl H2=>th a H2 λu H3=>r x l u H3 Q
def GU(F:P1 X r)(he:PE X e te)(y:PO X lo tl)(z:PO X hi th):PE X (.Subscript e (.Slice lo hi none p2) pos) (Q5 r te tl th):=by
 intro a s d H Q I h
 refine Subscript_ (c_ (he a s d H _ I h) λv t i=> ?_)
 obtain⟨x,H1,C,n,G⟩:=i
 refine wpAny_Slice (c_ (y a t d H1 _ C G) λf o ⟨l,H2,k,J,K⟩=>c_ (z a o d H2 _ k K) λg c i=> ?_)
 obtain⟨u,H3,j,p,B⟩:=i
 rw[evalPart_none]
 refine Qgq ?_
 have m:Inv X a d H3 {c with heap:=c.heap.push {cls:=.type "slice",data:=.fields #[f,g,.none]}}:=j.kept (t':=c.toks) λb L q=>Qcq _ q
 obtain⟨T,id,hT,ht,hg⟩:=F a {c with heap:=c.heap.push {cls:=.type "slice",data:=.fields #[f,g,.none]}} d H3 x v f g l u c.heap.objs.size Q m n (Heap.IsSliceOf.new ..) J p B
 show wpAny (model X.prog X.w) X.A (subscriptTail e (.Slice lo hi none p2) v<|.ref c.heap.objs.size) (EP X a d Q) X.xe {c with heap:=c.heap.push {cls:=.type "slice",data:=.fields #[f,g,.none]}}
 exact tail_any (ops:= [.ref c.heap.objs.size,v]) ht hT hg (by with_unfolding_all rfl)
def C2(xs:List V)(lo hi:Option Int):List V:=(xs.drop<|HT.fT xs.length 0 lo).take (HT.fT xs.length xs.length hi-HT.fT xs.length 0 lo)
def A1(xs:List V)(lo hi:Option Int):(C2 xs lo hi).length<=xs.length:=by
 unfold C2
 rw[Qxq,List.length_drop]
 omega
def PC(K:PySem.W.Frag):V->Option Int->Option Int->Hp->VK->Prop:=λx lo hi H Q=>∃a b,x=.ref a/\jq K H a b∧
 ¬(HT.fT b.length 0 lo=0/\HT.fT b.length b.length hi=b.length)/\∀p,H p=none->Q (.ref p) (upd H p<|.tup (C2 b lo hi))
def L3:P1 X (PC X.K):=by
 intro j s y H x v t u lo hi w Q I m k n l h
 obtain⟨a,d,rfl,hx,hw,q⟩:=h
 cases m
 obtain⟨f,r,g,i⟩:=I.tuple hx
 have c:f.toArray.size=d.length:=by rw[Qjq];exact r.length.symm
 refine⟨"tuple",_,PyProof.Rows.slot_tuple_getitem.lookup,g.typeIs,?_⟩
 refine HT.qC g k n l (by rw[c];exact hw) ?_ (by rw[c];exact i)
 rw[c]
 refine⟨.ref s.heap.objs.size,_,I.laid (t':=s.toks) (o:=.tup (C2 d lo hi)) (λb p q=>Qcq _ q) (Qmq _) ?_,rfl,q _<|I.hok.fresh<|Qmq _⟩
 exact⟨QAq (A1 d lo hi) i,_,(r.drop<|HT.fT d.length 0 lo).take (HT.fT d.length d.length hi-HT.fT d.length 0 lo),Bj.new _ _⟩
def K2(K:PySem.W.Frag):R2:=λx y H Q=>∃a b d c,x=.ref a/\y=.ref b/\jq K H a d/\jq K H b c/\d≠[]/\d.length+c.length<=sizeLine∧
 (c= []->Q (.ref a) H)/\(c≠[]->∀p,H p=none->Q (.ref p) (upd H p<|.tup (d++c)))
def bI.nil_iff(r:bI xs a):a= []↔xs= []:=by
 cases r with
 |nil=>simp
 |cons _ _=>simp
def J3:lR X (binaryOp .Add) (K2 X.K):=by
 intro f s r H x y v u Q I j n h
 obtain⟨a,b,i,m,rfl,rfl,ha,hb,hx,hz,q1,q2⟩:=h
 cases j
 cases n
 obtain⟨l,d,k,_⟩:=I.tuple ha
 obtain⟨g,c,p2,_⟩:=I.tuple hb
 refine HT.Ki k p2 (λz=>hx<|d.nil_iff.mp z) (λz=>⟨.ref a,H,I,rfl,q1<|c.nil_iff.mp z⟩) (λz=> ?_) (by rw[←d.length,←c.length];exact hz)
 refine⟨.ref s.heap.objs.size,_,I.laid (t':=s.toks) (o:=.tup (i++m)) (λb p q=>Qcq _ q) (Qmq _) ?_,rfl,q2 (λw=>z<|c.nil_iff.mpr w) _<|I.hok.fresh<|Qmq _⟩
 exact⟨by rw[lQa];exact hz,_,d.append c,Bj.new _ _⟩
end
def C7(n:Nat)(i:Int):Option Nat:=if 0<=i then(if i<n then some i.toNat else none) else if -(n:Int)<=i then some (i+n).toNat else none
def kj(xs:List α)(i:Int):Option α:=(C7 xs.length i).bind λj=>xs[j]?
def zx(h:C7 n i=some j):seqIndex? i n=some j/\j<n/\ -(n:Int)<=i/\i<n:=by
 unfold C7 at h
 by_cases b:0<=i
 ·rw[Qhq b] at h
  by_cases a:i<n
  ·rw[Qhq a] at h
   have e:i.toNat=j:=QdQ h
   exact⟨by rw[seqIndex_of b a,e],by omega,by omega,a⟩
  ·rw[Quq a] at h;cases h
 ·rw[Quq b] at h
  by_cases a: -(n:Int)<=i
  ·rw[Qhq a] at h
   have e:(i+n).toNat=j:=QdQ h
   exact⟨by rw[seqIndex_neg (by omega) a,e],by omega,a,by omega⟩
  ·rw[Quq a] at h;cases h
def zQ(h:kj xs i=some v):∃j,seqIndex? i xs.length=some j/\xs[j]?=some v/\j<xs.length/\ -(xs.length:Int)<=i/\i<xs.length:=by
 unfold kj at h
 cases e:C7 xs.length i with
 |none=>rw[e] at h;cases h
 | some j=>
   rw[e] at h
   obtain⟨a,b,c,d⟩:=zx e
   exact⟨j,a,h,b,c,d⟩
def D8(b:Expr):Prop:=∀o i,subscripted b false o i=operate [o,i] (getItem o i)
def JH(X:Cx)(r:R2):Prop:=
 ∀ (c a:Expr) (b:List (Addr×Obj)) (s:Shared) (d:St) (H:Hp) (x y:V) (v u:Value) (Q:VK),Inv X b d H s->RelV x v->RelV y u->r x y H Q→
   subscripted a false v u=operate [v,u] (getItem v u)->wpAny (model X.prog X.w) X.A (subscriptTail c a v u) (EP X b d Q) X.xe s
def OV(X:Cx)(id:String)(r:V->List V->Hp->VK->Prop):Prop:=
 ∀ (a:List (Addr×Obj)) (s:Shared) (c:St) (H:Hp) (x:V) (d:List V) (v:Value) (b:List Value) (Q:VK),Inv X a c H s->RelV x v->bI d b->r x d H Q→
   wpAny (model X.prog X.w) X.A (call (.builtin id) (v::b)) (EP X a c Q) X.xe s
section
variable{X:Cx}{a b:Expr}{ta tb:TE}{pos:Pos}
def JH.or(h:JH X r)(h':JH X r'):JH X (λx y H Q=>r x y H Q\/r' x y H Q):=by
 intro d c e s j H x y v u Q I g i q f
 rcases q with q|q
 ·exact h d c e s j H x y v u Q I g i q f
 ·exact h' d c e s j H x y v u Q I g i q f
def Of(i:JH X r)(d:PE X a ta)(l:PE X b tb)(hs:D8 b):PE X (.Subscript a b pos) (JB r ta tb):=by
 intro c s k H Q I h
 exact Subscript_ (Mu d l I h λv u f x y H2 e g j q=>i a b c f k H2 x y v u Q e g j q<|hs _ _)
def M9(K:PySem.W.Frag):R2:=λx y H Q=>∃p c i v,x=.ref p/\y=.int i/\je K H p c/\kj c i=some v/\Q v H
def NU(K:PySem.W.Frag):R2:=λx y H Q=>∃p c i v,x=.ref p/\y=.int i/\jq K H p c/\kj c i=some v/\Q v H
def Oo:R2:=λx y H Q=>∃z i c,x=.str z/\y=.int i/\z.length<=sizeLine/\kj z.cps.toList i=some c/\Q (.str ⟨#[c]⟩) H
def JG:JH X (M9 X.K):=by
 intro g f c s C H x y v u Q I G P h o
 obtain⟨p,S,i,z,rfl,rfl,hq,he,q⟩:=h
 cases G
 obtain⟨t,rfl⟩:=P
 obtain⟨l,r,n,U⟩:=I.list hq
 obtain⟨j,e,L,W,N,F⟩:=zQ he
 obtain⟨w,B,k⟩:=r.get L
 have M:=r.length
 have R:=nq
 have d:EP X c C Q w s:=⟨z,H,I,k,q⟩
 by_cases A:0<=i
 ·have m:i.toNat=j:=by
   rw[seqIndex_of A F] at e
   exact QdQ e
  exact item_listR n.isList A (by omega) (by rw[m];simpa using B) d o
 ·have m:(i+(l.toArray.size:Int)).toNat=j:=by
   rw[seqIndex_neg (by omega) N] at e
   rw[Qjq,←M]
   exact QdQ e
  exact subscriptTail_builtinR (x:=w) n.isList.typeIs slot_list_getitem.lookup
   (wpAny_getItem_list_neg (Q:=λr J=>r=w/\EP X c C Q r J) n.isList (by omega) (by rw[Qjq] <;>omega) (by omega) (by rw[m];simpa using B) ⟨rfl,d⟩) o
def Mc:JH X (NU X.K):=by
 intro f e c s l H x y v u Q I o J h m
 obtain⟨p,N,i,z,rfl,rfl,hq,he,q⟩:=h
 cases o
 obtain⟨t,rfl⟩:=J
 obtain⟨G,r,k,P⟩:=I.tuple hq
 obtain⟨j,n,C,R,S,L⟩:=zQ he
 obtain⟨w,B,g⟩:=r.get C
 have F:=r.length
 have M:=nq
 have d:EP X c l Q w s:=⟨z,H,I,g,q⟩
 exact subscriptTail_builtinR (x:=w) k.typeIs slot_tuple_getitem.lookup
  (getItem_tuple (j:=j) (Q:=λr A=>r=w/\EP X c l Q r A) k (by omega) (by omega) (by rw[Qjq,←F];exact n) (by simpa using B) ⟨rfl,d⟩) m
def L4:JH X Oo:=by
 intro e d g s G H x y v u Q I o A h k
 obtain⟨z,i,c,rfl,rfl,hz,he,q⟩:=h
 obtain⟨t,rfl⟩:=o
 obtain⟨B,rfl⟩:=A
 obtain⟨j,f,p,F,w,l⟩:=zQ he
 have r:z.cps.toList.length=z.length:=by simp[Str.length]
 rw[r] at f w l
 have C:=nq
 exact tail_any (typeIs_str s z t) slot_str_getitem.lookup (getItem_str (c:=c) (by
  have n:decide (i< -(2^63:Int))=false:=Qdq (by omega)
  have m:decide (i>=2^63)=false:=Qdq (by omega)
  rw[n,m,Bool.or_false]) (by rw[f];simpa using p) ⟨.str ⟨#[c]⟩,H,I.tok _,⟨_,rfl⟩,q⟩) k
def Qh(K:PySem.W.Frag):R2:=λx y H Q=>M9 K x y H Q\/NU K x y H Q\/Oo x y H Q
def Lf:JH X (Qh X.K):=JG.or (Mc.or L4)
def Dp(c:List Value)(n j:Nat)(u:Value):Obj.mapSeq (·.setIfInBounds j u) {cls:=.type "list",data:=.seq c.toArray n}={cls:=.type "list",data:=.seq (c.set j u).toArray n}:=by
 simp[Obj.mapSeq]
def Inv.lst(I:Inv X d f H s)(h:H p=some (.lst xs)):
  ∃(c:List Value) (n:Nat),bI xs c/\s.heap.get? p=some {cls:=.type "list",data:=.seq c.toArray n}/\xs.length<=sizeLine:=by
 obtain⟨z,c,n,r,e⟩:=I.hok p _ h
 exact⟨c,n,r,e,z⟩
def Inv.lstUpd{d its':List Value}(I:Inv X c j H s)(h:H p=some (.lst xs))
  (k:s.heap.get? p=some {cls:=.type "list",data:=.seq d.toArray n}) (i:f {cls:=.type "list",data:=.seq d.toArray n}={cls:=.type "list",data:=.seq its'.toArray g}) (r:bI ys its') (hz:ys.length<=sizeLine) (t:Nat):
  Inv X c j (upd H p<|.lst ys) {s with heap:=s.heap.update p f,toks:=t}:=by
 have e:(s.heap.update p f).get? p=some {cls:=.type "list",data:=.seq its'.toArray g}:=by
  rw[Heap.get?_update_self f k (by rw[i] <;>rfl),i]
 refine I.write (x:=p) (e:=p) (by rw[h];trivial) (.inl rfl) (λb u l q=>(Heap.get?_update_other _ _<|Ne.symm l).trans q) ⟨_,e⟩ ?_
 exact⟨hz,its',g,r,e⟩
def KR:V->V->V->Hp->(Hp->Prop)->Prop:=λo i v H Q=>∃p c k j,o=.ref p/\i=.int k/\H p=some (.lst c)/\C7 c.length k=some j/\Q (upd H p<|.lst (c.set j v))
def set_list:MA X KR:=by
 intro d s G H o i v K M u Q I F z A h
 obtain⟨p,B,k,j,rfl,rfl,hp,hj,q⟩:=h
 cases F
 obtain⟨t,rfl⟩:=z
 obtain⟨c,n,r,f,C⟩:=I.lst hp
 obtain⟨e,L,w,y⟩:=zx hj
 have l:=r.length
 have J:=nq
 have x:Inv X d G (upd H p<|.lst (B.set j v)) {s with heap:=s.heap.update p (Obj.mapSeq (·.setIfInBounds j u))}:=
  I.lstUpd hp f (Dp c n j u) (r.set A j) (by rw[List.length_set];exact C) s.toks
 by_cases m:0<=k
 ·have g:k.toNat=j:=by
   rw[seqIndex_of m y] at e
   exact QdQ e
  exact PySem.W.ki_setAt f m (by omega) (by rw[Qjq,←l];exact y) (by rw[g];exact⟨_,x,q⟩)
 ·have g:(k+(c.toArray.size:Int)).toNat=j:=by
   rw[seqIndex_neg (by omega) w] at e
   rw[Qjq,←l]
   exact QdQ e
  exact PySem.W.ki_setBack f (by omega) (by rw[Qjq,←l];exact w) (by omega) (by rw[g];exact⟨_,x,q⟩)
def ix:V->Bool
 |.non=>true
 |.bl _=>true
 |.int _=>true
 |.str _=>true
 |_=>false
def uU:V->V->Bool
 |.non,.non=>true
 |.bl a,.bl b=>a==b
 |.bl a,.int b=>(if a then 1 else 0)==b
 |.int a,.bl b=>a==(if b then 1 else 0)
 |.int a,.int b=>a==b
 |.str a,.str b=>a==b
 |_,_=>false
def Iv(e:RelV y u)(c:RelV x v)(g:ix y=true)(f:ix x=true):SeqAt.EqAt A s u v (uU y x):=by
 cases y with
 | non=>
   cases e
   cases x with
   |non=>cases c;exact SeqAt.EqAt.same _
   |bl b=>cases c;exact SeqAt.EqAt.none_bool b
   |int b=>obtain⟨t,rfl⟩:=c;exact SeqAt.EqAt.none_int b t
   |str b=>obtain⟨t,rfl⟩:=c;exact SeqAt.EqAt.none_str b t
   |_=>exact absurd (show false=true from f) Qtq
 | bl a=>
   cases e
   cases x with
   |non=>cases c;exact SeqAt.EqAt.bool_none a
   |bl b=>cases c;exact SeqAt.EqAt.bool_bool a b
   |int b=>obtain⟨t,rfl⟩:=c;exact SeqAt.EqAt.bool_int a b t
   |str b=>obtain⟨t,rfl⟩:=c;exact SeqAt.EqAt.bool_str a b t
   |_=>exact absurd (show false=true from f) Qtq
 | int a=>
   obtain⟨d,rfl⟩:=e
   cases x with
   |non=>cases c;exact SeqAt.EqAt.int_none a d
   |bl b=>cases c;exact SeqAt.EqAt.int_bool a d b
   |int b=>obtain⟨t,rfl⟩:=c;exact SeqAt.EqAt.int_int a d b t
   |str b=>obtain⟨t,rfl⟩:=c;exact SeqAt.EqAt.int_str a d b t
   |_=>exact absurd (show false=true from f) Qtq
 | str a=>
   obtain⟨d,rfl⟩:=e
   cases x with
   |non=>cases c;exact SeqAt.EqAt.str_none a d
   |bl b=>cases c;exact SeqAt.EqAt.str_bool a d b
   |int b=>obtain⟨t,rfl⟩:=c;exact SeqAt.EqAt.str_int a d b t
   |str b=>obtain⟨t,rfl⟩:=c;exact SeqAt.EqAt.str_str a d b t
   |_=>exact absurd (show false=true from f) Qtq
 |_=>exact absurd (show false=true from g) Qtq
def CA(x:V)(u:Value):Bool:=match u with
 |.none=>uU .non x
 |.bool b=>uU (.bl b) x
 |.int i _=>uU (.int i) x
 |.str z _=>uU (.str z) x
 |_=>false
def zS(r:RelV y u)(f:ix y=true):CA x u=uU y x:=by
 cases y with
 |non=>cases r;rfl
 |bl b=>cases r;rfl
 |int i=>obtain⟨t,rfl⟩:=r;rfl
 |str z=>obtain⟨t,rfl⟩:=r;rfl
 |_=>exact absurd (show false=true from f) Qtq
theorem qE:∀{xs:List V} {c:List Value},bI xs c->xs.all ix=true->c.any (CA x)=xs.any λy=>uU y x
 |_,_,.nil,_=>rfl
 | y::xs,u::c,.cons r t,f=>by
   rw[List.all_cons,QCq] at f
   rw[List.any_cons,List.any_cons,zS r f.1,qE t f.2]
theorem jV(e:RelV x v)(g:ix x=true):∀{xs:List V} {d:List Value},bI xs d->xs.all ix=true->∀u∈d,SeqAt.EqAt A s u v (CA x u)
 |_,_,.nil,_=>λu c=>by cases c
 | y::xs,u::d,.cons r t,f=>λh c=>by
   rw[List.all_cons,QCq] at f
   rcases Qsq.mp c with rfl|c
   · rw[zS r f.1];exact Iv r e f.1 g
   · exact jV e g t f.2 h c
def G0(x:V)(xs:List V):Bool:=xs.any λy=>uU y x
def OE(K:PySem.W.Frag)(d:Bool):R2:=λx y H Q=>∃p c,y=.ref p/\(je K H p c\/jq K H p c)/\ix x=true/\c.all ix=true/\Q (.bl (if d then !G0 x c else G0 x c)) H
def yp:lR X (compareOp .In) (OE X.K false):=by
 intro i s m H x y v u Q I g k h
 obtain⟨p,l,rfl,d,fx,fs,q⟩:=h
 cases k
 rcases d with d|d
 ·obtain⟨c,r,f,j⟩:=I.list d
  refine SeqAt.in_listAt (CA x) f.isList (λw e=>jV g fx r fs w (by simpa using e)) ⟨.bl _,H,I,rfl,?_⟩
  rw[show c.toArray.any (CA x)=c.any (CA x) by simp,qE r fs]
  exact q
 ·obtain⟨c,r,f,j⟩:=I.tuple d
  refine SeqAt.in_tupleAt (CA x) f (λw e=>jV g fx r fs w (by simpa using e)) ⟨.bl _,H,I,rfl,?_⟩
  rw[show c.toArray.any (CA x)=c.any (CA x) by simp,qE r fs]
  exact q
def zm:lR X (compareOp .NotIn) (OE X.K true):=by
 intro i s m H x y v u Q I g k h
 obtain⟨p,l,rfl,d,fx,fs,q⟩:=h
 cases k
 rcases d with d|d
 ·obtain⟨c,r,f,j⟩:=I.list d
  refine SeqAt.notIn_listAt (CA x) f.isList (λw e=>jV g fx r fs w (by simpa using e)) ⟨.bl _,H,I,rfl,?_⟩
  rw[show c.toArray.any (CA x)=c.any (CA x) by simp,qE r fs]
  exact q
 ·obtain⟨c,r,f,j⟩:=I.tuple d
  refine SeqAt.notIn_tupleAt (CA x) f (λw e=>jV g fx r fs w (by simpa using e)) ⟨.bl _,H,I,rfl,?_⟩
  rw[show c.toArray.any (CA x)=c.any (CA x) by simp,qE r fs]
  exact q
def Ah:kh X (.builtin "len") (λxs H Q=>∃p ys,xs= [.ref p]/\(je X.K H p ys\/jq X.K H p ys)/\Q (.int ys.length) H):=by
 intro i s m H xs l Q I r h
 obtain⟨p,ys,rfl,d,q⟩:=h
 obtain⟨u,rfl,rx⟩:=vals1 r
 cases rx
 have k:=nq
 rcases d with d|d
 ·obtain⟨f,e,g,j⟩:=I.list d
  have c:=e.length
  exact Calls.call_len_list g.isList (by simp only[Qjq] <;>omega) ⟨.int ys.length,H,I.tok _,⟨s.toks+1,by rw[Qjq,c]⟩,q⟩
 ·obtain⟨f,e,g,j⟩:=I.tuple d
  have c:=e.length
  exact len_tuple g (by simp only[Qjq] <;>omega) ⟨.int ys.length,H,I.tok _,⟨s.toks+1,by rw[Qjq,c]⟩,q⟩
def xc:kh X (.type "tuple") (λxs H Q=>∃p ys,xs= [.ref p]/\((je X.K H p ys/\∀l,H l=none->Q (.ref l) (upd H l<|.tup ys))\/(jq X.K H p ys/\Q (.ref p) H))):=by
 intro c s t H xs y Q I r h
 obtain⟨p,ys,rfl,h⟩:=h
 obtain⟨u,rfl,rx⟩:=vals1 r
 cases rx
 rcases h with⟨g,q⟩|⟨g,q⟩
 ·obtain⟨d,i,j,m⟩:=I.list g
  have k:=i.length
  refine call_tuple_list j.isList (λf x=> ?_) (by simp only[Qjq] <;>omega)
  have n:Inv X c t H {s with heap:=f}:=I.kept (t':=s.toks) x
  have v:Inv X c t (upd H f.objs.size<|.tup ys) {s with heap:=f.push {cls:=.type "tuple",data:=.seq d.toArray}}:=
   n.laid (t':=s.toks) (λb o e=>Qcq _ e) (Qmq _) (show dq X.prog X.w _ _ _ (.tup ys) from⟨m,d,i,Bj.new _ _⟩)
  exact⟨.ref f.objs.size,_,v,rfl,q _<|n.hok.fresh<|Qmq _⟩
 ·obtain⟨d,i,j,m⟩:=I.tuple g
  exact call_tuple_same j ⟨.ref p,H,I,rfl,q⟩
def PH(K:PySem.W.Frag)(T:String)(x:V)(H:Hp):Prop:=match x with
 |.str _=>T="str"
 |.int _=>T="int"
 |.ref p=>(T="list" /\∃d,je K H p d)\/(T="tuple" /\∃o,K.lookup p=some o/\o.cls=.type "tuple" /\o.dict=none)∨
   (T="dict" /\((∃c,H p=some (.dK c))\/∃c,H p=some (.dT c)))\/(T="set" /\∃S n,H p=some (.set S n))
 |_=>False
def Ia{T:String}(I:Inv X g u H s)(r:RelV x v)(h:PH X.K T x H):
  s.TypeIs v T/\∀a,v=.ref a->∃m,s.heap.get? a=some m/\m.dict=none:=by
 cases x with
 | str z=>
   obtain⟨t,rfl⟩:=r
   cases (show T="str" from h)
   exact⟨typeIs_str s z t,λ_ e=>nomatch e⟩
 | int i=>
   obtain⟨t,rfl⟩:=r
   cases (show T="int" from h)
   exact⟨typeIs_int s i t,λ_ e=>nomatch e⟩
 | ref p=>
   cases r
   rcases h with⟨rfl,xs,hq⟩|⟨rfl,o,d,hc,l⟩|⟨rfl,d⟩|⟨rfl,S,n,d⟩
   · obtain⟨w,_,q,_⟩:=I.list hq
     refine⟨q.isList.typeIs,λa e=> ?_⟩
     cases e
     obtain⟨o,n,e,c,l,_⟩:=q
     exact⟨o,e,l⟩
   · refine⟨⟨o,I.kIn p o d,hc⟩,λa e=> ?_⟩
     cases e
     exact⟨o,I.kIn _ o d,l⟩
   · have z:∃o,s.heap.get? p=some o/\o.ExactDict:=by
       rcases d with⟨k,d⟩|⟨k,d⟩
       · obtain⟨_,_,_,_,o,_,_,e,f,_⟩:=I.hok p _ d
         exact⟨o,e,f⟩
       · obtain⟨_,_,_,_,o,_,_,e,f,_⟩:=I.hok p _ d
         exact⟨o,e,f⟩
     obtain⟨o,e,f⟩:=z
     refine⟨⟨o,e,f.1⟩,λa j=> ?_⟩
     cases j
     exact⟨o,e,f.2.1⟩
   · obtain⟨o,_,_,_,e,f,_⟩:=I.hok p _ d
     refine⟨⟨o,e,f.1⟩,λa j=> ?_⟩
     cases j
     exact⟨o,e,f.2.1⟩
 |_=>exact False.elim h
def Nv(K:PySem.W.Frag)(T:String)(r:V->List V->Hp->VK->Prop)(d:TE):TE:=λc H Q=>d c H λx H1=>PH K T x H1/\r x [] H1 Q
def ON(K:PySem.W.Frag)(T:String)(r:V->List V->Hp->VK->Prop)(d:TE)(t:TA):TE:=λc H Q=>d c H λx H1=>PH K T x H1/\t c H1 λe H2=>r x e H2 Q
variable{o e:Expr}{es:List Expr}{to:TE}{t:TA}{name:Str}{apos cpos:Pos}{T id:String}{r:V->List V->Hp->VK->Prop}
def Ib(y:PlainAttrs T)(slot:Slot T name id)(g:typeOf (.builtin id)=pure (.type "method_descriptor"))(l:OV X id r)(m:PE X o to)
  (f:attributeBase o name X.env (eval o X.env)=eval o X.env:=by rfl) (d:(apos.endLine==cpos.line)=true:=by rfl):PE X (.Call (.Attribute o name apos) [] [] cpos) (Nv X.K T r to):=by
 intro c s k H Q I h
 refine wpAny_Call_method0_late f d (c_ (m c s k H _ I h) λv p z=> ?_)
 obtain⟨x,H1,j,i,u,w⟩:=z
 obtain⟨n,q⟩:=Ia j i u
 exact⟨T,id,y,slot,g,n,q,Calls.callWith_builtin rfl<|PySem.evalArgs_none<|l c p k H1 x [] v [] Q j i .nil w⟩
def vA(G:PlainAttrs T)(slot:Slot T name id)(j:typeOf (.builtin id)=pure (.type "method_descriptor"))(p:OV X id r)(q:PE X o to)(u:PA X (e::es) t)
  (g:attributeBase o name X.env (eval o X.env)=eval o X.env:=by rfl)
  (i:((backTo cpos (starEach (e::es) X.env)).all (λx=> !x.1)&&(backToKw cpos (keywordEach [] X.env)).all (λx=>x.1.isSome)
   &&decide ((e::es).length+([]:List Keyword).length+(if ([]:List Keyword).isEmpty then 0 else 1)<30))=true:=by rfl)
  (f:(apos.endLine==cpos.line)=true:=by rfl) (hs:starEach (e::es) X.env=(false,eval e X.env)::starEach es X.env:=by rfl) (d:(backTo cpos<|starEach es X.env).any (·.1)=false:=by rfl):
  PE X (.Call (.Attribute o name apos) (e::es) [] cpos) (ON X.K T r to t):=by
 intro c s k H Q I h
 refine wpAny_Call_method_late g i f rfl (c_ (q c s k H _ I h) λv A M=> ?_)
 obtain⟨x,H1,n,m,C,F⟩:=M
 obtain⟨z,B⟩:=Ia n m C
 refine⟨T,id,G,slot,j,z,B,?_⟩
 have l:=u cpos c A k H1 _ n F
 rw[hs] at l⊢
 refine Calls.callWith_builtin (by show(false||(backTo cpos<|starEach es X.env).any (·.1))=false;rw[d] <;>rfl)<|Calls.evalArgs_plain ?_
 exact c_ l λJ y ⟨L,H2,w,N,P⟩=>p c y k H2 x L v J Q w m N P
end
def MF(X:Cx)(id:String)(r:V->List V->Hp->VK->Prop):Prop:=
 ∀ (a:List (Addr×Obj)) (s:Shared) (c:St) (H:Hp) (x:V) (d:List V) (v:Value) (b:List Value) (Q:VK),Inv X a c H s->RelV x v->bI d b->r x d H Q→
   wpAny (model X.prog X.w) X.A (call (.builtin id) (v::b)) (EP X a c Q) X.xe s
def bI.one:∀{x:V} {a:List Value},bI [x] a->∃u,a= [u]/\RelV x u
 |_,_,.cons r .nil=>⟨_,rfl,r⟩
def bI.two:∀{x y:V} {a:List Value},bI [x,y] a->∃u v,a= [u,v]/\RelV x u/\RelV y v
 |_,_,_,.cons r (.cons q .nil)=>⟨_,_,rfl,r,q⟩
def bI.zero:∀{a:List Value},bI [] a->a= []
 |_,.nil=>rfl
theorem bI.dropLast(h:bI xs a):bI xs.dropLast a.dropLast:=by
 induction h with
 |nil=>exact .nil
 | cons r t b=>
   cases t with
   |nil=>exact .nil
   |cons q c=>exact .cons r b
theorem bI.eraseIdx:∀{xs:List V} {a:List Value} (i:Nat),bI xs a->bI (xs.eraseIdx i) (a.eraseIdx i)
 |_,_,_,.nil=>.nil
 |_,_,0,.cons _ t=>t
 |_,_,i+1,.cons r t=>.cons r (bI.eraseIdx i t)
theorem bI.rep(h:bI xs a):∀k:Nat,bI (List.replicate k xs).flatten (List.replicate k a).flatten
 |0=>.nil
 | k+1=>by
   rw[QNq,QNq,List.flatten_cons,List.flatten_cons]
   exact bI.append h<|bI.rep h k
def CU(l:List α):l.eraseIdx (l.length-1)=l.dropLast:=by
 induction l with
 |nil=>rfl
 | cons a r c=>
   cases r with
   |nil=>rfl
   | cons b r=>
     have e:(a::b::r).length-1=((b::r).length-1)+1:=by
       have d:(a::b::r).length=r.length+2:=rfl
       have f:(b::r).length=r.length+1:=rfl
       omega
     rw[e,List.eraseIdx_cons_succ,c]
     all_goals rfl
theorem xP:∀(l:List α) (i:Nat),(l.eraseIdx i).length<=l.length
 | [],_=>Qmq _
 |_::_,0=>Nat.le_succ _
 |_::r,i+1=>Nat.succ_le_succ (xP r i)
theorem foldl_rep(a:List Value):∀(k:Nat) (b:List Value),
  List.foldl (λc f=>c++f) b.toArray (List.replicate k a.toArray)=(b++(List.replicate k a).flatten).toArray
 |0,b=>by simp
 | k+1,b=>by
   have e:b.toArray++a.toArray=(b++a).toArray:=by simp
   have d:(b++a)++(List.replicate k a).flatten=b++(List.replicate (k+1) a).flatten:=by
     rw[QNq,List.flatten_cons,Qvq]
   rw[←d,←foldl_rep a k (b++a),←e,QNq,List.foldl_cons]
section
variable{X:Cx}{pins:List (Addr×Obj)}{σ:St}{H:Hp}{s:Shared}{l b:Addr}{xs ys zs:List V}
def Inv.lset{a its':List Value}{f:Array Value->Array Value}(I:Inv X pins σ H s)(h:H l=some (.lst xs))
  (e:s.heap.get? l=some {cls:=.type "list",data:=.seq a.toArray n}) (g:f a.toArray=its'.toArray) (c:bI ys its') (hz:ys.length<=sizeLine):
  Inv X pins σ (upd H l<|.lst ys) {s with heap:=s.heap.update l (Obj.mapSeq f),toks:=t'}:=by
 have q:=PySem.IsL.update e f
 rw[g] at q
 refine I.write (x:=l) (e:=l) (by rw[h];exact trivial) (.inl rfl) (λj u i d=>(Heap.get?_update_other s.heap (Obj.mapSeq f)<|Ne.symm i).trans d) ⟨_,q⟩ ?_
 exact⟨hz,its',_,c,q⟩
def Inv.lnew(I:Inv X pins σ H s)(c:bI ys a)(hz:ys.length<=sizeLine):
  Inv X pins σ (upd H s.heap.objs.size<|.lst ys) {s with heap:=s.heap.push {cls:=.type "list",data:=.seq a.toArray},toks:=t'}:=
 I.laid (λ_ _ q=>Qcq _ q) (Qmq _) ⟨hz,a,0,c,Qrq _ rfl⟩
def Inv.fresh(I:Inv X pins σ H s):H s.heap.objs.size=none:=I.hok.fresh (Qmq _)
def Inv.lstM(I:Inv X pins σ H s)(c:H l=some (.lst xs)):xs.length<=sizeLine/\∃(a:List Value) (n:Nat),bI xs a/\xs.length=a.length/\s.heap.get? l=some {cls:=.type "list",data:=.seq a.toArray n}:=by
 obtain⟨z,a,n,r,e⟩:=I.hok l _ c
 exact⟨z,a,n,r,r.length,e⟩
def ve(h:n<=sizeLine):Builtin.List.listTooLong n=false:=by
 unfold Builtin.List.listTooLong
 exact Qdq (by omega)
end
section
variable{X:Cx}
def ER:V->List V->Hp->VK->Prop:=λx b H Q=>∃l a y,x=.ref l/\b= [y]/\H l=some (.lst a)/\a.length<sizeLine/\Q .non (upd H l<|.lst (a++ [y]))
def rK:MF X "list.append" ER:=by
 intro b s k H x j v i Q I d c h
 obtain⟨l,f,y,rfl,rfl,hH,hz,q⟩:=h
 cases d
 obtain⟨u,rfl,ru⟩:=c.one
 obtain⟨z,a,n,r,g,e⟩:=I.lstM hH
 refine call_meets F.slot_list_append ⟨_,e,rfl⟩ F.entry_list_append (F.args_list_append_2 _ _) (PySem.list_append l a.toArray n u (by rw[Qjq];omega)) ⟨e,?_⟩
 refine⟨.non,_,I.lset (its':=a++ [u]) hH e (by simp) (r.append<|.cons ru .nil) ?_,rfl,q⟩
 rw[lQa,List.length_singleton]
 omega
def Ew:V->List V->Hp->VK->Prop:=λx d H Q=>∃l b c a,x=.ref l/\d= [.ref b]/\H l=some (.lst c)/\H b=some (.lst a)/\c.length+a.length<=sizeLine/\Q .non (upd H l<|.lst (c++a))
def Gi:MF X "list.extend" Ew:=by
 intro g s B H x G v C Q I k i h
 obtain⟨l,b,t,y,rfl,rfl,hH,hB,hz,q⟩:=h
 cases k
 obtain⟨u,rfl,ru⟩:=i.one
 cases ru
 obtain⟨z,c,n,r,A,e⟩:=I.lstM hH
 obtain⟨w,a,o,p,m,j⟩:=I.lstM hB
 have f:c.toArray.size+a.toArray.size<=sizeLine:=by rw[Qjq,Qjq];omega
 have d:¬(!c.toArray.isEmpty&&Builtin.List.listTooLong (c.toArray.size+a.toArray.size))=true:=by
  rw[ve f,Bool.and_false]
  exact Qtq
 refine call_meets F.slot_list_extend ⟨_,e,rfl⟩ F.entry_list_extend (F.args_list_extend_2 _ _)
  (AutoSeq1.list_extend_list_list_0 l c.toArray n b a.toArray o d (by rw[Qjq];omega) (by omega)) ⟨e,j,?_⟩
 refine⟨.non,_,I.lset (its':=c++a) hH e (by simp) (r.append p) ?_,rfl,q⟩
 rw[lQa]
 omega
def MV:V->List V->Hp->VK->Prop:=λx b H Q=>∃l a y,x=.ref l/\b= []/\H l=some (.lst a)/\a[a.length-1]?=some y/\Q y (upd H l<|.lst a.dropLast)
def Mz:MF X "list.pop" MV:=by
 intro d s t H x p v o Q I i f h
 obtain⟨l,m,y,rfl,rfl,hH,hy,q⟩:=h
 cases i
 have c:=f.zero
 subst c
 obtain⟨z,a,n,r,j,e⟩:=I.lstM hH
 obtain⟨u,k,g⟩:=r.get hy
 have b:a.toArray[a.toArray.size-1]?=some u:=by
  show a.toArray[a.length-1]?=some u
  rw[←Array.getElem?_toList,←j]
  exact k
 refine call_meets F.slot_list_pop ⟨_,e,rfl⟩ F.entry_list_pop (F.args_list_pop_1 _) (MeetsSeq.list_pop_last l a.toArray n u b (by rw[Qjq];omega)) ⟨e,?_⟩
 refine⟨y,_,I.lset (its':=a.dropLast) hH e ?_ r.dropLast ?_,g,q⟩
 ·show a.toArray.eraseIdxIfInBounds (a.toArray.size-1)=a.dropLast.toArray
  rw[Qjq,List.eraseIdxIfInBounds_toArray,CU]
 ·rw[List.length_dropLast]
  omega
def HC:V->List V->Hp->VK->Prop:=λx b H Q=>∃l a i k y,x=.ref l/\b= [.int i]/\H l=some (.lst a)/\ -(2^63)<=i/\i<2^63/\seqIndex? i a.length=some k/\a[k]?=some y/\Q y (upd H l<|.lst (a.eraseIdx k))
def G1:MF X "list.pop" HC:=by
 intro c s A H x p v o Q I g d h
 obtain⟨l,f,i,k,y,rfl,rfl,hH,h1,h2,hk,hy,q⟩:=h
 cases g
 obtain⟨u,rfl,ru⟩:=d.one
 obtain⟨t,rfl⟩:=ru
 obtain⟨z,a,n,r,m,e⟩:=I.lstM hH
 obtain⟨w,j,b⟩:=r.get hy
 refine call_meets F.slot_list_pop ⟨_,e,rfl⟩ F.entry_list_pop (F.args_list_pop_2 _ _)
  (MeetsSeq.list_pop_at l a.toArray n i t k w (fitsIndex_both h1 h2) (by rw[Qjq,←m];exact hk) (by rw[←Array.getElem?_toList];exact j) (by rw[Qjq];omega)) ⟨e,?_⟩
 refine⟨y,_,I.lset (its':=a.eraseIdx k) hH e ?_ (r.eraseIdx k) ?_,b,q⟩
 ·show a.toArray.eraseIdxIfInBounds k=(a.eraseIdx k).toArray
  rw[List.eraseIdxIfInBounds_toArray]
 ·have:=xP f k
  omega
def Pd:R2:=λx y H Q=>∃l b c a,x=.ref l/\y=.ref b/\H l=some (.lst c)/\H b=some (.lst a)/\c.length+a.length<=sizeLine/\∀p,H p=none->Q (.ref p) (upd H p<|.lst (c++a))
def Lb:lR X (binaryOp .Add) Pd:=by
 intro d s B H x y v u Q I i k h
 obtain⟨l,b,o,t,rfl,rfl,hH,hB,hz,q⟩:=h
 cases i
 cases k
 obtain⟨z,c,n,r,A,e⟩:=I.lstM hH
 obtain⟨p,a,w,m,j,g⟩:=I.lstM hB
 refine PySem.P.add_list e g ?_ (by rw[Qjq,Qjq];omega)
 have f:c.toArray++a.toArray=(c++a).toArray:=by simp
 rw[f]
 exact⟨.ref _,_,I.lnew (t':=s.toks) (r.append m) (by rw[lQa];omega),rfl,q _ I.fresh⟩
def PB:R2:=λx y H Q=>∃l k a,x=.ref l/\y=.int k/\H l=some (.lst a)/\ -(2^63)<=k/\k<2^63/\a.length*k.toNat<=sizeLine∧
 ∀p,H p=none->Q (.ref p) (upd H p<|.lst (List.replicate k.toNat a).flatten)
def len_rep(xs:List α)(k:Nat):(List.replicate k xs).flatten.length=k*xs.length:=by
 induction k with
 |zero=>simp
 |succ k a=>rw[QNq,List.flatten_cons,lQa,a,Nat.succ_mul,Nat.add_comm]
def Mg:lR X (binaryOp .Mult) PB:=by
 intro p s L H x y v u Q I w G h
 obtain⟨l,k,J,rfl,rfl,hH,h1,h2,hz,q⟩:=h
 cases w
 obtain⟨t,rfl⟩:=G
 obtain⟨z,b,n,r,C,e⟩:=I.lstM hH
 have f:b.toArray.size*k.toNat<=sizeLine:=by rw[Qjq,←C];exact hz
 have i:¬b.toArray.size*k.toNat>(2^63-1)/8:=by
  have:(sizeLine:Nat)<=(2^63-1)/8:=by decide
  omega
 have g:¬(!Builtin.List.listFitsIndex k)=true:=by
  rw[fitsIndex_both h1 h2]
  exact Qtq
 have c:¬Builtin.List.listTooLong (b.toArray.size*k.toNat)=true:=by
  rw[ve f]
  exact Qtq
 have d:List.foldl (λj o=>j++o) #[] (List.replicate (if b.toArray.isEmpty=true then 0 else k.toNat) b.toArray)=(List.replicate k.toNat b).flatten.toArray:=by
  have A:∀m:Nat,List.foldl (λj o=>j++o) #[] (List.replicate m b.toArray)=(List.replicate m b).flatten.toArray:=λm=>by
   have:=foldl_rep b m []
   rw[List.nil_append] at this
   exact this
  rw[A]
  cases b with
  |nil=>simp
  |cons a K=>rw[Quq (by simp)]
 refine wpAny_binaryOp_repeat_ref (T:="list") (U:="int") (by decide) ⟨_,e,rfl⟩ (λB=>typeIs_int B k t) noFill_list_mul F.fills_int_mul F.slot_int_rmul repeat_list F.slot_int_index.lookup
  (call_meets F.slot_int_rmul (typeIs_int s k t) F.entry_int_rmul (F.args_int_rmul_2 _ _) (int___rmul___int_list k t l b.toArray n)
   ⟨e,rfl,⟨_,e,rfl⟩,call_meets F.slot_list_mul ⟨_,e,rfl⟩ F.entry_list_mul (F.args_list_mul_2 _ _) (AutoListH.list___mul___list_int_3 l b.toArray n k t g i c) ⟨e,?_⟩⟩)
 rw[d]
 exact⟨.ref _,_,I.lnew (t':=s.toks) (r.rep k.toNat) (by rw[len_rep,Nat.mul_comm];exact hz),rfl,q _ I.fresh⟩
end
end L2
namespace Att
open PySem PySem.W PySem.Calls PyProof.Rows
def uq:∀(ns:List Int) (vs:List Value),WellAll P h vs (ns.map WData.int)->IntsAre vs ns:=by
 intro ns
 induction ns with
 | nil=>
   intro vs w
   rw[List.map_nil] at w
   cases w
   exact .nil
 | cons n ns c=>
   intro vs w
   rw[QDq] at w
   cases w with
   | cons a b=>
     cases a
     exact .cons _ _ (c _ b)
def F0{l:OpenLaw}(o:l.most=some n)
  (b:l.row.toRowW.claim.pre args=true) (i:WellAll P h vals args):
  ∃a vs ns,vals= [Value.ref a]/\args= [WData.list (ns.map WData.int)]/\h.get? a=some {cls:=.type "list",data:=.seq vs.toArray}/\IntsAre vs ns/\ns.length<=n:=by
 have j:WShape.hasAll [] args [.list .int]=true:=(pre_splitW b).1
 have k:l.pre.holds [] {args:=args}=true:=(pre_splitW b).2
 obtain⟨d,r,rfl,h1,h2⟩:=hasAllW_cons j
 obtain rfl:=hasAllW_nil h2
 obtain⟨u,rfl,h3⟩:=hasW_list h1
 obtain⟨ns,rfl⟩:=items_int h3
 have c:ns.length<=n:=by
  unfold OpenLaw.pre at k
  have g:(WTm.not<|.lt (.lit (.int (n:Int))) (.len (.arg 0))).holds [] {args:= [.list (ns.map .int)]}=true:=by
   have g:=(holds_andW k).1
   rw[o] at g
   exact g
  have f:=condW_of g (w_not<|w_lt w_lit<|w_len_list<|w_arg rfl)
  rw[lQm] at f
  refine Nat.le_of_not_lt λq=> ?_
  have s:(n:Int)<((ns.length:Nat):Int):=by omega
  first
   |(rw[Qeq s] at f;exact absurd f (by decide))
   |(simp at f;omega)
 cases i with
 | cons t p=>
   cases p
   cases t with
   |list m e=>exact⟨_,_,ns,rfl,rfl,m,uq ns _ e,c⟩
def FA(l:OpenLaw)(args:List WData):l.row.toRowW.claim.post args (.bool true) args=true:=
 postW_of (r:=l.row.toRowW) (X:=(true==true))
  (show WShape.has [] (.bool true) .bool=true by first|rfl|decide|simp[WShape.has,WShape.arms,WShape.armsAll])
  (show(WTm.eq .res<|.lit (.bool true)).value [] {args:=args,res:=some (.bool true),after:=args}=some (.bool (true==true)) from w_eq_bool (w_res rfl) w_lit) rfl
def BK{l:OpenLaw}{B:World->Heap->Prop}{d:DefRec}
  (H:l.most=some n) (t:d.params.defaults= [])
  (i:∀(w:World) (s₀ b:Shared) (mg u:Str->Option Value) (g:Addr) (o:Obj) (pm k e:Value) (a:Addr) (vs:List Value) (ns:List Int),
   Ground q c [] y w s₀ mg u b.heap->B w b.heap→
   b.heap.get? g=some o->o.data=.func (docDef d.name d.params d.body d.scope pm k e)->b.heap.CodeRec k d.name->mg d.name=some (.ref g)→
   b.heap.get? a=some {cls:=.type "list",data:=.seq vs.toArray}->IntsAre vs ns->ns.length<=n->b.gens= #[]→
   codeAny (model l.prog w) callerA (.call (.ref g) ⟨[.ref a],[]⟩) (λr j=>r=.ok (.ret (.bool true))/\OldK b.heap j.heap/\j.os=b.os/\AllBare j.gens) b):
  WalkO q c y B l.row.toRowW d [] (λf vs=>PySem.call f vs):=by
 intro w s₀ b mg u G Y g o pm k e N kV F J p z s L x A P h v K m M
 obtain rfl:N=.none:=Dflts.none z t
 obtain rfl:kV=.none:=Dflts.noKw z
 obtain⟨a,vs,ns,rfl,rfl,hobj,hints,hlen⟩:=F0 H h m
 refine enter_call (codeAny_mono (i w s₀ b mg u g o pm k e a vs ns G Y F (fd_plain J) p s hobj hints hlen L) λr j I=> ?_)
 obtain⟨rfl,h2,h3,h4⟩:=I
 exact⟨.inl ⟨.bool true,.bool true,[],rfl,λ_=>rfl,.bool true,FA l _,λ_=>⟨List.Pairwise.nil,λ_ C=>(nomatch C)⟩⟩,h2,h3,h4⟩
end Att
namespace L2
open PySem PySem.Spec PyProof.Rows
theorem xI:∀{vs:List Value} {ns:List Int},IntsAre vs ns->bI (ns.map V.int) vs
 |_,_,.nil=>.nil
 |_,_,.cons n t h=>.cons ⟨t,rfl⟩ (xI h)
def Ks(H:Hp):Prop:=∀b,H b=none\/∃o a,H b=some (.frz o (.lst a))
def Hq{K:PySem.W.Frag}{c:Shared}{vs:List Value}
  (KX:K.In c.heap) (J:c.heap.Ns mainGlobals mg) (g:c.heap.Ns builtinsNs R) (X:∀x:Str,x≠"__name__" ->R x=bootBuiltins x) (M:c.heap.NoLimit) (hg:c.gens= #[])
  (N:c.heap.get? a=some {cls:=.type "list",data:=.seq vs.toArray}) (hi:IntsAre vs ns) (hl:ns.length<=sizeLine) (hr:fZ k callerA)
  (F:∀base:Heap,K.In base->base.Ns mainGlobals mg->bh P w K mg base CX k Z fd [x] sp) (p:∀(s:Shared) (u:Value),BindsTo s fd ⟨[u],[]⟩ [(x,u)])
  (a0:∀H:Hp,Ks H->je K H a (ns.map V.int)->sp [.ref a] H (λv _=>v=.bl true) λ_ _ _=>False)
  (Y:∀H e i,CX [] H c (λ_ _ _=>False) e i->False):
  codeAny (model P w) callerA (.call (.ref Z) ⟨[.ref a],[]⟩) (λr i=>r=.ok (.ret (.bool true))/\OldK c.heap i.heap/\i.os=c.os/\AllBare i.gens) c:=by
 have rv:=xI hi
 have C:=hi.length
 have l:∀H:Hp,Ks H->je K H a (ns.map V.int)->p0 P w H c.heap->(∀b,H b≠none->b=a)->(H a≠none->K.lookup a=none)→
   codeAny (model P w) callerA (.call (.ref Z) ⟨[.ref a],[]⟩) (λr i=>r=.ok (.ret (.bool true))/\OldK c.heap i.heap/\i.os=c.os/\AllBare i.gens) c:=by
  intro H hO hS y hA hK
  have f:∀{b:Addr} {o:Obj},c.heap.get? b=some o->H b=none->(zR c.heap H).get? b=some o:=λe n=>IQ e n
  have U:∀{b:Addr} {o:Obj} {B:Array DictEntry} {t:Nat},c.heap.get? b=some o->o.data=.dict B t->H b=none:=λ{b o B t} e d=>by
   cases q:H b with
   |none=>rfl
   | some u=>
     have Q:b=a:=hA b (by rw[q];simp)
     subst Q
     rw[N] at e;cases e
     have d':Data.seq vs.toArray _=Data.dict B t:=d
     cases d'
  have j:∀{b:Addr} {m:Str->Option Value},c.heap.Ns b m->(zR c.heap H).Ns b m:=λ{b m} ⟨o,B,t,e,d,r⟩=>⟨o,B,t,f e<|U e d,d,r⟩
  have L:K.In (zR c.heap H):=λb o e=>f (KX b o e) (by
   cases q:H b with
   |none=>rfl
   | some u=>
     have Q:b=a:=hA b (by rw[q];simp)
     subst Q
     rw[hK (by rw[q];simp)] at e;cases e)
  have hM:Mod K mg (zR c.heap H):=⟨L,j J,⟨R,j g,X⟩,let ⟨mc,h1,h2⟩:=M;⟨mc,j h1,h2⟩⟩
  have e0:JJ P w K mg (zR c.heap H) callerA [] c H:=⟨rfl,hM,λb o e=>Jt e,Nat.le_of_eq<|FC _ _,trivial,λb g=>absurd (show b∈([]:List Addr) from g) (by simp),y,.of_eq hg⟩
  refine codeAny_mono ((F _ L<|j J).run callerA [] c H ⟨[.ref a],[]⟩ [.ref a] [.ref a] _ _ hr e0 (p c<|.ref a) (.cons rfl .nil) (a0 H hO hS)) λr i h=> ?_
  cases r with
  |error e=>exact(Y H e i h).elim
  | ok fl=>
    cases fl with
    |next=>exact False.elim h
    |brk=>exact False.elim h
    |cont=>exact False.elim h
    | ret u=>
      obtain⟨v,H',os,A,un,G,r',q⟩:=h
      have q':v=.bl true:=q
      subst q'
      obtain rfl:u=Value.bool true:=r'
      refine⟨rfl,OldK.of_keep λb o e=> ?_,os,A⟩
      cases q:H b with
      |none=>exact un.keep b o e q (by intro z;exact absurd (show b∈([]:List Addr) from z) (by simp)) (by simp)
      | some u=>
        rcases hO b with z|⟨ob,xs,z⟩
        · rw[q] at z;cases z
        · have z2:=un.frzs b ob _ z
          obtain⟨e1,_⟩:=y b _ z
          obtain⟨e2,_⟩:=G b _ z2
          rw[e] at e1;cases e1
          exact e2
 cases S:K.lookup a with
 | some o=>
   have e:=KX a o S
   rw[N] at e
   cases e
   refine l (λ_=>none) (λ_=>.inl rfl) (.inr ⟨_,vs.toArray,_,S,rfl,rfl,rfl,by rw[Qjq,C];exact hl,by simpa using rv⟩) (λb u z=>by have I:(none:Option HO)=some u:=z;cases I) (λb z=>absurd rfl z) λz=>absurd rfl z
 | none=>
   refine l (λb=>if b=a then some (.frz {cls:=.type "list",data:=.seq vs.toArray} (.lst (ns.map V.int))) else none) (λb=> ?_) (.inl (.inr ⟨{cls:=.type "list",data:=.seq vs.toArray},Qhq rfl⟩)) (λb u z=> ?_) (λb z=> ?_) λ_=>S
   · by_cases g:b=a
     · exact .inr ⟨_,_,Qhq g⟩
     · exact .inl (Quq g)
   · by_cases g:b=a
     · have I:=(Qhq g).symm.trans z
       cases I
       subst g
       exact⟨N,by rw[lQm];exact hl,vs,_,rv,N⟩
     · have I:=(Quq g).symm.trans z
       cases I
   · by_cases g:b=a
     · exact g
     · exact absurd (Quq g) z
def Jf{l:PySem.W.OpenLaw}{L:World->Heap->Prop}{d:DefRec}{K:Params->PySem.W.Frag}{CX:World->Gz}{sp:World->Sp}
  (Q:l.most=some n) (B:n<=sizeLine) (I:d.params.defaults= []) (U:fZ k callerA)
  (N:∀(w:World) (h:Heap),L w h->(K w.params).In h)
  (F:∀(w:World) (mg:Str->Option Value) (r:Addr) (h:Heap),(K w.params).In h->h.Ns mainGlobals mg->mg d.name=some (.ref r)→
   ∃ A:FuncData,(∀(s:Shared) (u:Value),BindsTo s A ⟨[u],[]⟩ [(x,u)])∧
     ∀base:Heap,(K w.params).In base->base.Ns mainGlobals mg->bh l.prog w (K w.params) mg base (CX w) k r A [x] (sp w))
  (C:∀(w:World) (H:Hp) (a:Addr) (ns:List Int),ns.length<=n->Ks H->je (K w.params) H a (ns.map V.int)->sp w [.ref a] H (λv _=>v=.bl true) λ_ _ _=>False)
  (t:∀(w:World) (H:Hp) (s:Shared) (e:Value) (y:Shared),CX w [] H s (λ_ _ _=>False) e y->False):
  PySem.W.WalkO q j P L l.row.toRowW d [] (λf vs=>PySem.call f vs):=by
 refine Att.BK Q I λw J m mg mb r o pm cd X a vs ns G Y ho hd S z p i c hg=> ?_
 have M:=N w _ Y
 obtain⟨A,hb,hF⟩:=F w mg r _ M G.T.g z
 exact Hq M G.T.g G.T.b G.T.builtins G.T.nolimit hg p i (QAq c B) U hF hb (λH Z R=>C w H a ns c Z R) λH e y=>t w H m e y
def iG(s:Stmt):Arguments:=match s with
 |.FunctionDef _ a _ _ _ _ _ _ _ _=>a
 |_=>{posonlyargs:= [],args:= [],vararg:=none,kwonlyargs:= [],kw_defaults:= [],kwarg:=none,defaults:= []}
def fL(s:Stmt):List Stmt:=match s with
 |.FunctionDef _ _ b _ _ _ _ _ _ _=>b
 |_=> []
def aB(s:Stmt):Scope:=match s with
 |.FunctionDef _ _ _ _ _ _ a _ _ _=>a
 |_=>{kind:=.function,names:= [],isGenerator:=false,isCoroutine:=false}
abbrev dm:Gz:=λ_ _ _ _ _ _=>False
abbrev E0:XK:=λ_ _ _=>False
def mZ:CF dm X E0:=λ_ _ _ _ _ _ _ h=>h.elim
structure dQ(K:PySem.W.Frag)(x qual:Str)(st:Stmt)(f:Addr)(fd:FuncData):Prop where
 ex:∃(oc:Value) (od:Option Addr) (kV doc pm:Value) (an:Option Addr) (cdv ct:Value) (osl:Array (Option Value)),
  fd=PySem.W.fnOf x qual (iG st) (fL st) (aB st) .none kV doc pm an cdv ct/\K.lookup f=some ⟨oc,od,.func fd,osl⟩/\PySem.W.codeIn K cdv qual=true
 kp:PySem.W.keepIn K (.ref f)=true
section
variable{P:Program}{w:World}{K:PySem.W.Frag}{mg:Str->Option Value}{base:Heap}
def dQ.ok{x a:Str}{st:Stmt}{f:Addr}{e:FuncData}{N ps:List Str}{k:Nat}{sp:Sp}(F:dQ K x a st f e)(S:aF N ps (aB st))(len:∀vs H Q E,sp vs H Q E->vs.length=ps.length)
  (c:∀(b:Value) (A:Around) (outer:List Env) (s:Shared) (H:Hp) (vs:List V) (Q:VK) (E:XK),fZ k (A.deeper (envOfC a (aB st) s.heap.objs.size f b))->sp vs H Q E→
   ∃t,uC (B_ dm P w K mg base N a (aB st) f b A outer s H E).nox (fL st) t/\t {nx:=λ_ g=>Q .non g,rt:=Q} (start N vs) H):bh P w K mg base dm (k+1) f e ps sp:=by
 obtain⟨m,n,kV,l,p,r,b,o,j,rfl,lk,hcd⟩:=F.ex
 refine N5 lk hcd S len λA outer s H vs Q E i d=> ?_
 obtain⟨t,h,q⟩:=c b A outer s H vs Q E i d
 exact⟨t,h.nox,q⟩
def dQ.binds{x a:Str}{st:Stmt}{f:Addr}{g:FuncData}{ps:List Str}(F:dQ K x a st f g)
  (h:∀(kV b pm:Value) (e:Option Addr) (c ct:Value) (d:List Value),d.length=ps.length->bindArgs (PySem.W.fnOf x a (iG st) (fL st) (aB st) .none kV b pm e c ct) ⟨d,[]⟩=pure (ps.zip d)):Binds K g ps []:=by
 obtain⟨j,k,kV,b,pm,e,c,ct,i,rfl,lk,hcd⟩:=F.ex
 exact .all (h kV b pm e c ct)
def CG{x a:Str}{st:Stmt}{f:Addr}{h:Value}{i g:Option Addr}{e:Array (Option Value)}{kV d pm b ct:Value}(l:K.lookup f=some ⟨h,i,.func (PySem.W.fnOf x a (iG st) (fL st) (aB st) .none kV d pm g b ct),e⟩)
  (c:PySem.W.codeIn K b a=true) (k:PySem.W.keepIn K (.ref f)=true):dQ K x a st f (PySem.W.fnOf x a (iG st) (fL st) (aB st) .none kV d pm g b ct):=⟨⟨h,i,kV,d,pm,g,b,ct,e,rfl,l,c⟩,k⟩
end
def D6(a:fZ k A):A.units+1<cLine:=Nat.lt_of_le_of_lt (Nat.add_le_add_left (by decide:1<=64) _) a.units
def bt(h:n<=1000):n<sizeLine:=Nat.lt_of_le_of_lt h (by decide)
section
variable{X:Cx}
def pv(i:Nat)(c:X.N[i]?=some x:=by rfl)(b:KZ X.env.scope x:=by first|exact Or.inl rfl|exact Or.inr (Or.inl rfl)|exact Or.inr (Or.inr rfl))(hd:(x==("__debug__":Str))=false:=by decide)
  (a:(x==("__classdict__":Str))=false:=by decide):PE X (.Name x pos) (LZ i):=HX c b hd a
end
section
variable{prog:Program}{w:World}{A:Around}{s:Shared}
def qP{R:Result->Shared->Prop}(I:Nat->Shared->Prop)
  (z:∀n s,I n s->wpAny (model prog w) A (pyNext it) (λr d=>match r with
   |none=>R (.ok .next) d
   |some v=>wpAny (model prog w) A (letOwnedTupleGo a it v) (λ_ b=>wpAny (model prog w) A (assign a env v) (λ_ j=>
     wpAny (model prog w) A (forIn q true λc r=>if r=true then do let ok←isTrue c env (eval c env);pure (ForInStep.yield ok) else pure (ForInStep.yield r)) (λok s₃=>
      if ok=true then wpAny (model prog w) A (eval p env) (λx l=>
       wpAny (model prog w) A (call (.builtin "list.append") [o,x]) (λ_ g=>∃m,m<n/\I m g) (λ_ _=>False) l) (λ_ _=>False) s₃
      else∃m,m<n/\I m s₃) (λ_ _=>False) j) (λ_ _=>False) b) (λ_ _=>False) d) (λ_ _=>False) s)
  (n:Nat) (h:I n s):codeAny (model prog w) A (.compLoop (.ListComp p [⟨a,k,q,0⟩] f pos) 0 it o env) R s:=by
 refine codeAny_loop rfl I (λn s C=> ?_) n h
 show wpAny _ A ((compTurn (.ListComp p [⟨a,k,q,0⟩] f pos) 0 it o env).onRaise (λx=>do noteFrame x env;theTreesLotGoes x)) _ _ s
 refine wpAny_noted ?_
 rw[compTurn_list]
 refine Qaq<|wpAny_standAt<|Qaq (QRq (z n s C) (λr d i=> ?_) λ_ _ e=>e.elim)
 cases r with
 |none=>exact Qgq i
 | some v=>
   refine Qaq (QRq i (λ_ b t=> ?_) λ_ _ e=>e.elim)
   refine Qaq (QRq t (λ_ j B=>Qaq (QRq B (λok s₃ h₃=> ?_) λ_ _ e=>e.elim)) λ_ _ e=>e.elim)
   cases ok with
   |false=>exact Qgq ⟨rfl,h₃⟩
   | true=>
     exact Qaq<|Qaq (QRq h₃ (λx l u=>Qaq (QRq u (λ_ g y=>Qgq<|Qgq ⟨rfl,y⟩) λ_ _ e=>e.elim)) λ_ _ e=>e.elim)
end
def aP(X:Cx)(N:List Str)(a:Scope)(b:List (Str×Addr))(C:Addr)(s:Shared)(H:Hp)(fp:List Addr):Cx where
 prog:=X.prog
 w:=X.w
 K:=X.K
 mg:=X.mg
 base:=X.base
 A:=X.A
 N:=N
 s₀:=s
 H₀:=H
 env:=compEnvC a b C X.env
 outer:=X.stack
 stack:=X.stack
 ex:=fp
 fn:=λ_=>false
 calm:=X.calm
 pn:= []
 xe:=λ_ _=>False
def lD(js:List (Option Nat))(a:St):St:=js.map λo=>o.bind λj=>a.getD j none
structure aL(X:Cx)(N:List Str)(js:List (Option Nat))(scope:Scope)(cl:List (Str×Addr)):Prop where
 kind:scope.kind=.function
 nocell:∀y∈scope.names,y.2≠.cell
 names:∀y∈scope.names,y.2=.local->scope.names.lookup y.1=some .local
 clos:closureFor scope X.env=pure cl
 sub:∀x c,cl.lookup x=some c->X.env.cells.lookup x=some c
 has:∀x,((relabel scope X.env).names.lookup x=some .cell\/(relabel scope X.env).names.lookup x=some .free)->∃c,cl.lookup x=some c
 cap:∀(k j:Nat) (x:Str),js[k]?=some (some j)->N[k]?=some x->X.N[j]?=some x/\(X.env.kindOf x=some .cell\/X.env.kindOf x=some .free)/\((relabel scope X.env).names.lookup x=some .cell\/(relabel scope X.env).names.lookup x=some .free)
 len:js.length=N.length
def oT(X:Cx)(b:List Expr)(t:TT):Prop:=
 ∀ (a:List (Addr×Obj)) (s:Shared) (d:St) (H:Hp) (Q:Bool->Hp->Prop),Inv X a d H s->t d H Q→
   wpAny (model X.prog X.w) X.A (forIn b true λc r=>if r=true then do let ok←isTrue c X.env (eval c X.env);pure (ForInStep.yield ok) else pure (ForInStep.yield r)) (TP X a d Q) X.xe s
def Mf:oT X [] (λ_ H Q=>Q true H):=λ_ _ _ H _ I h=>wpAny_tests_nil ⟨H,I,h⟩
def Lk(b:PT X c t):oT X [c] t:=λa s d H Q I h=>
 wpAny_tests_one (c_ (b a s d H Q I h) λok s' h'=>h')
def Oq(J:It)(g:TG)(k:TT)(l:TE)(Q:VK)(D:Addr)(n:St)(H:Hp):Prop:=
 ∃ W:Nat->Nat->St->Hp->Prop,(∃m,W 0 m n H)/\∀i m c e,W i m c e→
   (J.stop i e/\Q (.ref D) e)\/(J.go i e/\∃h:St->Hp->Prop,(∀b d,h b d->∃j,j<m/\W (i+1) j b d)∧
     ∀ x H2,J.yld i e x H2->g x c H2 λa H3=>k a H3 λok H4=>
       if ok=true then l a H4 λy H5=>∃f,H5 D=some (.lst f)/\f.length<sizeLine/\h a (upd H5 D (.lst (f++ [y]))) else h a H4)
def GY(js:List (Option Nat))(b:TI)(g:TG)(c:TT)(d:TE):TE:=λa H Q=>b a H λJ H1=>∀D,H1 D=none->Oq J g c d Q D (lD js a) (upd H1 D<|.lst [])
def Kq
  (S:aL X N js a R) (hc:X.calm=true) (hi:PI X tg P wi)
  (hg:∀C s H fp,PG (aP X N a R C s H fp) tg g) (ht:∀C s H fp,oT (aP X N a R C s H fp) b3 tt) (he:∀C s H fp,PE (aP X N a R C s H fp) b0 te)
  (hs:∀x,foldedSetIterable P X.env x=pure x:=by intro _;rfl):PE X (.ListComp b0 [⟨tg,P,b3,0⟩] a pos) (GY js wi g tt te):=by
 intro a5 s σ H Q I h
 rw[eval_ListComp]
 refine wpAny_comprehension_free (use:=none) rfl hs S.clos S.kind S.names (c_ (hi a5 s σ H _ I h) λv s1 h1=>c_ h1 λd4 f h2=> ?_)
 obtain⟨it,fp,tn,J,H2,e,B,T,b5,f2,hD⟩:=h2
 subst e
 refine QhQ<|wpAny_newFunctionEnv S.nocell (by intro y hy;simp at hy) (λL F t=> ?_) S.kind
 dsimp only at F t⊢
 generalize b1:f.heap.push {cls:=.type "list",dict:=none,data:=.seq ([]:List Value).toArray}=P2 at F t⊢
 have hC:P2.objs.size=f.heap.objs.size+1:=by rw[←b1,Heap.size_push]
 have c7:f.heap.objs.size≠P2.objs.size:=by rw[hC];exact Qwq (Nat.lt_succ_self _)
 have a8:f.heap.objs.size<=P2.objs.size:=by rw[hC];exact Nat.le_succ _
 have G:∀b,b<f.heap.objs.size->b≠P2.objs.size:=λb k=>by rw[hC];exact Qwq (Nat.lt_succ_of_lt k)
 have Z:∀b o,f.heap.get? b=some o->L.get? b=some o:=λb o e=>t.extBut b o (G b<|Qiq e) (Qcq _ (b1▸Qcq _ e))
 have c6:L.get? f.heap.objs.size=some {cls:=.type "list",dict:=none,data:=.seq ([]:List Value).toArray}:=t.extBut _ _ c7 (Qcq _ (b1▸Qrq _ rfl))
 have nD:H2 f.heap.objs.size=none:=B.fresh
 have nC:H2 P2.objs.size=none:=B.hok.fresh a8
 have b4:∀b∈fp,b<f.heap.objs.size:=λb k=>by
  obtain⟨o,e,_⟩:=T.obj _ _ b5 b k
  exact Qiq e
 obtain⟨W,⟨m0,w0⟩,c5⟩:=hD f.heap.objs.size nD
 have c0:(aP X N a R P2.objs.size f H2 fp).Ok:=by
  refine⟨B.ok.mod,S.kind,B.ok.glob,B.ok.blt,a8,λx y c h1 h2=>B.ok.inj x y c (S.sub x c h1) (S.sub y c h2),S.has,(λx c h=>by cases h),B.ok.hd,B.ok.frames,.inl rfl,
   λb k=>⟨G b (b4 b k),λx c h=>(f2 b k).2.2.2.2.1 x c (S.sub x c h)⟩,B.bs,QAq B.ok.bsz B.sz,λb o e k=> ?_,λb k z=> ?_,B.stack,B.stkFree⟩
  ·rcases(f2 b k).2.2.2.1 with z|z
   ·exact B.ok.noex b o e z
   ·exact absurd (Qqq (Qqq (Qiq e) B.ok.bsz) z)<|Nat.lt_irrefl _
  ·rcases Qsq.mp (B.stkSub b z) with q|q
   ·exact(f2 b k).2.1 q
   ·exact(f2 b k).2.2.1 q
 have b7:dq X.prog X.w (upd H2 f.heap.objs.size<|.lst []) L f.heap.objs.size (.lst []):=⟨Nat.zero_le _,[],0,.nil,c6⟩
 have I4:Inv (aP X N a R P2.objs.size f H2 fp) [] (lD js σ) (upd H2 f.heap.objs.size<|.lst []) {f with heap:=L,toks:=f.toks+([]:List (Str×Value)).length}:=by
  refine⟨c0,rfl,B.bare,Un.laid Z (Qmq _) nD,⟨_,F,λi x v h1 h2 h3=> ?_⟩,λx c h=> ?_,by show upd H2 _ _ P2.objs.size=none;rw[bx c7.symm];exact nC,λx c h=> ?_,λp hp=>absurd (show p∈([]:List (Addr×Obj)) from hp) (by simp),B.hok.laid Z (Qmq _) b7,by show(lD js σ).length=N.length;unfold lD;rw[lQm];exact S.len⟩
  ·unfold lD at h2
   rw[gQm] at h2
   cases e:js[i]? with
   |none=>rw[e] at h2;cases h2
   | some o=>
     rw[e] at h2
     cases o with
     |none=>cases h2
     | some j=>
       have a0:σ.getD j none=some v:=QdQ h2
       have hj:σ[j]?=some (some v):=by
         rw[Qlq] at a0
         cases q:σ[j]? with
         |none=>rw[q] at a0;cases a0
         |some y=>rw[q] at a0;exact congrArg some a0
       obtain⟨c1,c2,c3⟩:=S.cap i j x e h1
       obtain⟨m,hn,hl⟩:=B.loc
       have d2:KZ X.env.scope x:=by
         rcases c2 with z|z
         · exact .inr (.inl z)
         · exact .inr (.inr z)
       obtain⟨u,r,l⟩:=hl j x v c1 hj d2
       refine⟨u,r,.inr ⟨c3,?_⟩⟩
       obtain⟨c,b6⟩:=S.has x c3
       refine⟨c,b6,?_⟩
       rcases l with⟨z,_⟩|⟨_,c',e',z⟩
       · rcases c2 with y|y <;>rw[y] at z <;>cases z
       · rw[S.sub x c b6] at e'
         cases e'
         obtain⟨o,ho,hd⟩:=z
         exact⟨o,Z _ _ ho,hd⟩
  ·obtain⟨v,o,ho,hd⟩:=B.cell x c (S.sub x c h)
   exact⟨v,o,Z _ _ ho,hd⟩
  ·obtain⟨v,o,ho,hd⟩:=B.cell x c (S.sub x c h)
   rw[bx (Qwq<|Qiq ho)]
   exact B.freeC x c<|S.sub x c h
 have a1:∀{M:List (Addr×Obj)} {U:Hp},M= []->(∀b∈fp,U b=none)->∀b∈fp,sP (aP X N a R P2.objs.size f H2 fp) M U b:=λ{M U} ep hn b k=>by
  subst ep
  refine⟨hn b k,G b<|b4 b k,λz=>c0.exfs b k z,.inl k,λx c h=>(f2 b k).2.2.2.2.1 x c (S.sub x c h),λp hp=>absurd (show p∈([]:List (Addr×Obj)) from hp) (by simp)⟩
 have a6:codeAny (model X.prog X.w) X.A (.compLoop (.ListComp b0 [⟨tg,P,b3,0⟩] a pos) 0 (.ref it) (.ref f.heap.objs.size) (compEnvC a R P2.objs.size X.env))
   (compPost (model X.prog X.w) X.A X.xe none (EP X a5 σ Q) (.ref f.heap.objs.size) P2.objs.size) {f with heap:=L,toks:=f.toks+([]:List (Str×Value)).length}:=by
  refine qP (λn s'=>∃i a2 U,Inv (aP X N a R P2.objs.size f H2 fp) [] a2 U s'/\tn i s'.heap/\(∀b∈fp,U b=none)/\W i n a2 U) ?_ m0
   ⟨0,_,_,I4,T.keep _ _ _ b5 λb _ o e=>Z b o e,λb k=>by rw[bx (Qwq<|b4 b k)];exact(f2 b k).1,w0⟩
  rintro n s3 ⟨i,a4,H3,I3,c4,b9,w3⟩
  rcases c5 i n a4 H3 w3 with⟨stop,q⟩|⟨go,Nx,hN,b8⟩
  ·refine c_ (T.done (aP X N a R P2.objs.size f H2 fp) rfl rfl rfl hc i [] s3 a4 H3 _ I3 (a1 rfl b9) c4 stop) λr s4 Y=> ?_
   obtain⟨hr,I5⟩:=Y
   subst hr
   obtain⟨m,hn,_⟩:=id I5.loc
   refine⟨m,hn,λh' a3=>⟨.ref f.heap.objs.size,H3,?_,rfl,q⟩⟩
   have u:=I5.base
   have ne:∀b o,f.heap.get? b=some o->b≠P2.objs.size:=λb o e=>G b (Qiq e)
   refine B.call' (ch:=fp) I5.os ⟨λb o e n k hx=>(a3.2 b<|ne b o e).trans (u.keep b o e n k hx),λb o e n k hx=> ?_,u.free,λb o e hx=> ?_,u.tups,u.frzs,u.tbls⟩ (λb ob e=> ?_) I5.bare λb k=>⟨(f2 b k).2.2.2.1,(f2 b k).2.1,(f2 b k).2.2.2.2.1,(f2 b k).2.2.2.2.2⟩
   ·obtain⟨sl,e1⟩:=u.slot b o e n k hx
    exact⟨sl,(a3.2 b<|ne b o e).trans e1⟩
   ·obtain⟨o',e1⟩:=u.there b o e hx
    exact⟨o',(a3.2 b<|ne b o e).trans e1⟩
   ·refine(I5.hok b ob e).stay (λc w' hc q=>(a3.2 c ?_).trans q) (λ_ q=>q) λ_ _ q=>q
    have fC:H3 P2.objs.size=none:=I5.free
    rintro rfl
    rcases hc with z|z
    ·rw[←z,fC] at e;cases e
    ·rw[fC] at z;cases z
  ·refine c_ (T.item (aP X N a R P2.objs.size f H2 fp) rfl rfl rfl hc i [] s3 a4 H3 _ I3 (a1 rfl b9) c4 go) λr s4 Y=> ?_
   obtain⟨u,hr,h4⟩:=Y
   subst hr
   refine c_ h4 λ_ s5 Y=> ?_
   obtain⟨x,H5,I5,r5,y5,b2,d3⟩:=Y
   have d1:=I5.pinned (a1 rfl d3) (T.obj _ _ b2)
   refine c_ (hg P2.objs.size f H2 fp _ s5 a4 H5 x u _ d1 r5<|b8 x H5 y5) λ_ s6 Y=> ?_
   obtain⟨K,H6,I6,q6⟩:=Y
   refine c_ (ht P2.objs.size f H2 fp _ s6 K H6 _ I6 q6) λok s7 Y=> ?_
   obtain⟨H7,I7,q7⟩:=Y
   have again:∀{s8:Shared} {H8:Hp},Inv (aP X N a R P2.objs.size f H2 fp) ([]++oV fp s5.heap) K H8 s8->Nx K H8->∃m,m<n/\∃i a2 U,Inv (aP X N a R P2.objs.size f H2 fp) [] a2 U s8/\tn i s8.heap/\(∀b∈fp,U b=none)/\W i m a2 U:=λ{s8 H8} I8 n8=>by
    obtain⟨m',hm,w8⟩:=hN K H8 n8
    refine⟨m',hm,i+1,K,H8,I8.unpinned,T.keep _ _ _ b2 λb k o e=>(I8.pin (b,o)<|Qoq _<|Qoq _<|dN k e).1,λb k=> ?_,w8⟩
    obtain⟨o,e,d⟩:=T.obj _ _ b2 b k
    exact(I8.pin (b,o)<|Qoq _<|Qoq _<|dN k e).2.1
   cases ok with
   |false=>exact again I7 q7
   | true=>
     refine c_ (he P2.objs.size f H2 fp _ s7 K H7 _ I7 q7) λyv s8 Y=> ?_
     obtain⟨y,H8,I8,ry,xs,hx,hl,n8⟩:=Y
     refine c_ (rK (X:=aP X N a R P2.objs.size f H2 fp) _ s8 K H8 (.ref f.heap.objs.size) [y] (.ref f.heap.objs.size) [yv] (λ_ U=>Nx K U) I8 rfl (.cons ry .nil) ⟨_,xs,y,rfl,rfl,hx,hl,n8⟩) λ_ s9 Y=> ?_
     obtain⟨z,H9,I9,_,q9⟩:=Y
     exact again I9 q9
 exact codeAny_compStart_list a6<|T.self _ 0 _ _ _ (T.keep _ _ _ b5 λb _ o e=>Z b o e) a6
section
variable{X:Cx}
def Ie:kh X (.builtin "isinstance") (λxs H Q=>∃x T t b,xs= [x,.ty T]/\rf X.K H x t/\PySem.W.kitOne X.K t (.type T)=some b/\Q (.bl b) H):=by
 intro a s g H xs f Q I r h
 obtain⟨x,T,t,b,rfl,ty,e,q⟩:=h
 obtain⟨u,c,rfl,rx,rt⟩:=vals2 r
 cases (show c=Value.type T from rt)
 exact FZ I rx ty e λd=>⟨.bl b,H,I.tok d,rfl,q⟩
def KP:List V->List V->Bool
 | [],[]=>true
 |x::xs,y::ys=>uU x y&&KP xs ys
 |_,_=>false
theorem ET:∀{xs ys:List V},xs.length≠ys.length->KP xs ys=false
 | [],[],h=>absurd rfl h
 | [],_::_,_=>rfl
 |_::_,[],_=>rfl
 | x::xs,y::ys,h=>by
   have:=ET (xs:=xs) (ys:=ys) λe=>h (by simp[e])
   show(uU x y&&KP xs ys)=false
   rw[this,Bool.and_false]
theorem Fd:∀{xs ys:List V},xs.length=ys.length->(List.range xs.length).all (λj=>uU (xs.getD j .non) (ys.getD j .non))=KP xs ys
 | [],[],_=>rfl
 | [],_::_,h=>by cases h
 |_::_,[],h=>by cases h
 | x::xs,y::ys,h=>by
   have a:=Fd (xs:=xs) (ys:=ys) (Nat.succ.inj h)
   rw[Qnq,List.range_succ_eq_map,List.all_cons,List.all_map]
   show(uU x y&&_)=(uU x y&&KP xs ys)
   rw[←a]
   rfl
def LG{A:Around}{s:Shared}{xs ys:List V}{a vs:List Value}(r:bI xs a)(r':bI ys vs)(f:xs.all ix=true)(f':ys.all ix=true)(j:Nat)(h:j<a.toArray.size)(m:j<vs.toArray.size):
  SeqAt.EqAt A s a.toArray[j] vs.toArray[j] (uU (xs.getD j .non) (ys.getD j .non)):=by
 have g:=r.length
 have i:=r'.length
 have b:j<xs.length:=by rw[g];simpa using h
 have c:j<ys.length:=by rw[i];simpa using m
 obtain⟨u,k,o⟩:=r.get (gQe b)
 obtain⟨v,e,p⟩:=r'.get (gQe c)
 have q:xs.getD j .non=xs[j]:=by rw[Qlq,gQe b];rfl
 have d:ys.getD j .non=ys[j]:=by rw[Qlq,gQe c];rfl
 have n:a.toArray[j]=u:=by
  have:=(gQs.mp k).2
  simpa using this
 have l:vs.toArray[j]=v:=by
  have:=(gQs.mp e).2
  simpa using this
 rw[n,l,q,d]
 exact Iv o p (QUq.mp f _ (List.getElem_mem b)) (QUq.mp f' _ (List.getElem_mem c))
def P9(K:PySem.W.Frag)(e:Bool):R2:=λx y H Q=>∃a b d c,x=.ref a/\y=.ref b/\je K H a d/\je K H b c/\d.all ix=true/\c.all ix=true/\Q (.bl (if e then !KP d c else KP d c)) H
def K8(n:X.A.units<cLine):lR X (compareOp .NotEq) (P9 X.K true):=by
 intro p s J H x y v u Q I z F h
 obtain⟨a,b,f,m,rfl,rfl,ha,hb,fa,fb,q⟩:=h
 cases z
 cases F
 obtain⟨c,r,o,G⟩:=I.list ha
 obtain⟨i,k,d,C⟩:=I.list hb
 by_cases g:f.length=m.length
 ·have l:c.toArray.size=i.toArray.size:=by simp[←r.length,←k.length,g]
  refine SeqAt.RcNeAt.lists (e:=λj=>uU (f.getD j .non) (m.getD j .non)) o.isList d.isList l n (λj w B=>LG r k fa fb j w B) _ _ _ _ ⟨.bl _,H,I,rfl,?_⟩
  rw[show c.toArray.size=f.length by simp[r.length],Fd g]
  exact q
 ·refine SeqAt.RcNeAt.lists_lengths o.isList d.isList (by simpa [←r.length,←k.length] using g) n _ _ _ _ ⟨.bl _,H,I,rfl,?_⟩
  have t:Q (.bl (!KP f m)) H:=q
  rw[ET g] at t
  exact t
end
section
variable{X:Cx}
def BR{bs:List Bool}{a:List Value}(r:bI (bs.map V.bl) a){i:Nat}{v:Value}(h:a.toArray[i]?=some v):v=.bool (bs.getD i false):=by
 have f:i<a.length:=by
  have:=(Array.getElem?_eq_some_iff.mp h).1
  simpa using this
 have l:=r.length
 rw[lQm] at l
 have b:i<bs.length:=by omega
 obtain⟨u,e,q⟩:=r.get (i:=i) (x:=V.bl bs[i]) (by rw[gQm,gQe b];rfl)
 have c:a[i]?=some v:=by simpa using h
 rw[e] at c
 cases c
 have d:bs.getD i false=bs[i]:=by rw[Qlq,gQe b];rfl
 rw[d]
 exact q
theorem B3:∀bs:List Bool,(List.range bs.length).all (λi=>bs.getD i false)=bs.all id
 | []=>rfl
 | b::bs=>by
   rw[Qnq,List.range_succ_eq_map,List.all_cons,List.all_map,List.all_cons,←B3 bs]
   rfl
theorem Co:∀bs:List Bool,(List.range bs.length).any (λi=>bs.getD i false)=bs.any id
 | []=>rfl
 | b::bs=>by
   rw[Qnq,List.range_succ_eq_map,List.any_cons,List.any_map,List.any_cons,←Co bs]
   rfl
def KU(K:PySem.W.Frag)(f:List Bool->Bool):List V->Hp->VK->Prop:=λc H Q=>∃a b,c= [.ref a]/\je K H a (b.map V.bl)/\Q (.bl (f b)) H
def Gd(p:X.calm=true):kh X (.builtin "all") (KU X.K λbs=>bs.all id):=by
 intro j s F H t B Q I r h
 obtain⟨a,bs,rfl,ha,q⟩:=h
 obtain⟨u,rfl,rx⟩:=vals1 r
 cases (show u=Value.ref a from rx)
 obtain⟨c,g,f,z⟩:=I.list ha
 have m:c.toArray.size=bs.length:=by have:=g.length;simp at this;simp[this]
 have d:a<s.heap.objs.size:=by obtain⟨o,e,_⟩:=f.isList;exact Qiq e
 refine call_all_walk (wpAny_pyIter_list f.isList ⟨s.heap.objs.size,_,_,_,_,_,λi=>bs.getD i false,rfl,Walks.list (A:=X.A.in1) (show X.A.in1.handled=none from I.ok.hd p) s.heap.objs.size a (Qwq d) c.toArray,⟨⟨_,Qrq _ rfl,rfl,rfl⟩,f.isList.at λo e=>Qcq _ e⟩,?_,λh' x l=> ?_⟩)
 ·intro i v y C w n k
  rw[BR g n]
  exact wpAny_truthy_bool k
 ·rw[m,B3]
  refine⟨.bl _,H,I.kept (h':=h') λb o e=>l b o ?_ (Qcq _ e),rfl,q⟩
  have:=Qiq e
  simp
  exact Qwq this
def Gu(p:X.calm=true):kh X (.builtin "any") (KU X.K λbs=>bs.any id):=by
 intro j s F H t B Q I r h
 obtain⟨a,bs,rfl,ha,q⟩:=h
 obtain⟨u,rfl,rx⟩:=vals1 r
 cases (show u=Value.ref a from rx)
 obtain⟨c,g,f,z⟩:=I.list ha
 have m:c.toArray.size=bs.length:=by have:=g.length;simp at this;simp[this]
 have d:a<s.heap.objs.size:=by obtain⟨o,e,_⟩:=f.isList;exact Qiq e
 refine call_any_walk (wpAny_pyIter_list f.isList ⟨s.heap.objs.size,_,_,_,_,_,λi=>bs.getD i false,rfl,Walks.list (A:=X.A.in1) (show X.A.in1.handled=none from I.ok.hd p) s.heap.objs.size a (Qwq d) c.toArray,⟨⟨_,Qrq _ rfl,rfl,rfl⟩,f.isList.at λo e=>Qcq _ e⟩,?_,λh' x l=> ?_⟩)
 ·intro i v y C w n k
  rw[BR g n]
  exact wpAny_truthy_bool k
 ·rw[m,Co]
  refine⟨.bl _,H,I.kept (h':=h') λb o e=>l b o ?_ (Qcq _ e),rfl,q⟩
  have:=Qiq e
  simp
  exact Qwq this
end
end L2
namespace Dk
open PySem
def wL:mroOf (Value.type "dict")=pure [Value.type "dict",Value.type "object"]:=by
 rw[mroOf_type]
 rfl
def ui:typeLookup (Value.type "dict") (Str.ofString "__new__")=pure (some (Value.builtin "dict.__new__")):=by
 rw[typeLookup_type,builtinLookup_eq_fast]
 rfl
def Bn:isSubtype (Value.type "dict") (Value.type "dict")=pure true:=by
 rw[isSubtype_type]
 rfl
def iR:plainId "dict.__new__"=true:=by decide +kernel
def dH:TypeCalled "dict" "dict.__new__" "dict.__init__" where
 notType:=by decide +kernel
 canCreate:=by decide +kernel
 mro:=⟨_,_,wL⟩
 made:=madeBy_type wL ui (by decide +kernel)
 plain:=iR
 sub:=Bn
 init:=F.slot_dict_init
def um(a:Value):checkTypeCall "dict" {pos:= [a]}=pure ():=by rfl
def u0(a:Value):checkBuiltinCall "dict.__new__" {pos:= [Value.type "dict",a]}=pure ():=by with_unfolding_all rfl
def vp:entryFor table "dict.__new__"=some Builtin.«dict.__new__»:=by rfl
def uz{prog:Program}{w:World}{A:Around}{E:Value->Shared->Prop}{s:Shared}(a:Value){Q₁:Value->Shared->Prop}
  (h:Q₁ (.ref s.heap.objs.size) {s with heap:=s.heap.push {cls:=.type "dict",data:=.dict #[]}}):
  codeAny (model prog w) A (.call (.builtin "dict.__new__") {pos:= [.type "dict",a]}) (wants Q₁ E) s:=by
 refine codeAny_of_tree ?_
 show wpAny _ _ (do checkBuiltinCall "dict.__new__" _;_) _ _ _
 refine Qaq (wpAny_of_eq (u0 a) (Qgq ⟨plainId_quiet iR _,codeAny_builtin vp ?_⟩))
 rw[Around.under_plainId iR]
 refine Qaq (Qgq (QgQ rfl (Qaq (wpAny_of_eq Bn (QgQ rfl (Qaq (wpAny_of_eq wL (QgQ ?_ ?_))))))))
 ·rfl
 ·refine Qaq ?_
  have e:newObj (.type "dict") (.dict #[])=newObjAsIs (.type "dict") (.dict #[]):=by
   unfold newObj
   simp
  rw[e]
  exact Qaq (wpAny_alloc (Qgq (Qgq h)))
def AQ{prog:Program}{w:World}{A:Around}{E:Value->Shared->Prop}{s:Shared}{a:Value}{Q:Value->Shared->Prop}
  (h:wpAny (model prog w) A.in1.in1 (Builtin.«dict.__init__» {pos:= [.ref s.heap.objs.size,a]})
   (λm l=>match m with|.done f=>wants (λr b=>r=.none/\Q (.ref s.heap.objs.size) b) E (.ok f) l|.again x=>x.quiet=true/\codeAny (model prog w) A.in1 x (wants (λr b=>r=.none/\Q (.ref s.heap.objs.size) b) E) l)
   (λe l=>wants (λr b=>r=.none/\Q (.ref s.heap.objs.size) b) E (.error e) l) {s with heap:=s.heap.push {cls:=.type "dict",data:=.dict #[]}}):
  wpAny (model prog w) A (call (.type "dict") [a]) Q E s:=by
 obtain⟨c,G,j⟩:=dH.mro
 have g:=dH.made
 have k:=dH.sub
 refine wpAny_call (codeAny_of_tree ?_)
 refine Qgq ⟨Code.quiet_builtin _ (by decide +kernel),codeAny_builtin F.entry_type_call ?_⟩
 rw[Around.under_plain (weight_type_call_type "dict" [a] []) rfl]
 have C:=dH.notType
 have B:=dH.canCreate
 have u:=um a
 unfold Builtin.«type.__call__»
 dsimp only
 refine QgQ rfl ?_
 refine QgQ (by rw[B];rfl) ?_
 refine Qaq (wpAny_of_eq u (Qaq (wpAny_of_eq j (QgQ rfl (Qaq (wpAny_of_eq g (Qaq (Qgq (Qaq (QLq (wpAny_call (codeAny_mono (uz (E:=E) (Q₁:=λv d=>v=.ref s.heap.objs.size/\d={s with heap:=s.heap.push {cls:=.type "dict",data:=.dict #[]}}) a ⟨rfl,rfl⟩) λr d i=> ?_))))))))))))
 cases r with
 |error e=>exact i
 | ok t=>
   cases t with
   | ret y=>
     obtain⟨rfl,rfl⟩:=i
     have z:=Qrq s.heap (o:={cls:=.type "dict",data:=.dict #[]}) rfl
     have p:Shared.TypeIs {s with heap:=s.heap.push {cls:=.type "dict",data:=.dict #[]}} (.ref s.heap.objs.size) "dict":=⟨_,z,rfl⟩
     have q:=dH.init.lookup
     have n:=dH.init.bind (.ref s.heap.objs.size)
     refine Qaq (wpAny_isInstance p k (QgQ rfl (Qaq (QLq ?_))))
     unfold callSpecial?
     refine Qaq (wpAny_specialOf p q (QLq (Qaq (wpAny_of_eq n (Qaq (wpAny_call (codeAny_mono (codeAny_call_builtin dH.init.plain F.entry_dict_init (dH.init.check _ _ _ _ _ [a] [] _ p (F.args_dict_init_2 _ _) h)) λr b i=> ?_)))))))
     cases r with
     |error e=>exact i
     | ok t=>
       cases t with
       | ret v=>
         obtain⟨rfl,hq⟩:=i
         exact Qgq (QgQ rfl (Qgq hq))
       |_=>exact i.elim
   |_=>exact i.elim
def lN:entryFor table "dict.update.loop"=some Builtin.«dict.update.loop»:=by rfl
def iq:plainId "dict.update.loop"=true:=by decide +kernel
section
variable{prog:Program}{w:World}{K:Type}[DecidableEq K]{knd:KeyKind prog w K}
def Dq(a:List (K×Value))(k:K)(v:Value):(stored a k v).length<=a.length+1:=by
 unfold stored
 split
 ·rw[lQm];omega
 ·rw[lQa];simp
def Lp(b:Nat->K)(a:Nat->Value):Nat->List (K×Value)
 |0=> []
 |i+1=>stored (Lp b a i) (b i) (a i)
theorem EI(b:Nat->K)(a:Nat->Value):∀i,(Lp b a i).length<=i
 |0=>Qmq _
 |i+1=>QAq (Dq _ _ _) (Nat.succ_le_succ (EI b a i))
end
end Dk
namespace L2
open PySem PySem.Spec PyProof.Rows
section
variable{X:Cx}
def key_is{k:Key}{u:Value}(r:RelV (kV k) u)(P:Program)(w:World):(cc P w).is k u=true:=by
 cases k with
 |inl i=>obtain⟨t,rfl⟩:=(show∃t,u=Value.int i t from r);simp[cc,tW,Value.isInt]
 |inr x=>obtain⟨t,rfl⟩:=(show∃t,u=Value.str x t from r);simp[cc,tW,Value.isStrOf]
end
end L2
namespace Dk
open PySem
end Dk
namespace L2
open PySem PySem.Spec PyProof.Rows
def Ku{X:Cx}{N:List Str}{js:List (Option Nat)}{a:Scope}{Y:List (Str×Addr)}{tg P a6 L:Expr}{a8:List Expr}{pos b2:Pos}{wi:TI}{g gt:TG}{tt:TT}{te:TE}
  (S:aL X N js a Y) (hc:X.calm=true) (hi:PI X tg P wi)
  (hg:∀C s H fp,PG (aP X N a Y C s H fp) tg g) (ht:∀C s H fp,oT (aP X N a Y C s H fp) a8 tt) (he:∀C s H fp,PE (aP X N a Y C s H fp) a6 te) (d6:PG X L gt)
  (hs:∀x,foldedSetIterable P X.env x=pure x:=by intro _;rfl) (d9:swapsWithSole [L] (.ListComp a6 [⟨tg,P,a8,0⟩] a pos) b2.line X.env=pure true:=by rfl)
  (h1:(assignEach [L] X.env).map (·.2)= [assign L X.env]:=by rfl):PS X (.Assign [L] (.ListComp a6 [⟨tg,P,a8,0⟩] a pos) b2) (FR (GY js wi g tt te) gt):=by
 intro U s σ H Dn I h
 rw[exec_Assign_arm]
 refine Qaq<|wpAny_standAt<|Qaq<|wpAny_of_eq d9<|wpAny_ite_true rfl<|Qaq ?_
 rw[h1]
 show wpAny _ _ (do let _←comprehension _ _ _ _ _ _ _ (some λv=>assignAll v [assign L X.env]);pure ()) _ _ _
 refine Qaq ?_
 refine wpAny_comprehension_free (use:=some λv=>assignAll v [assign L X.env]) rfl hs S.clos S.kind S.names (c_ (hi U s σ H _ I h) λv s1 h1=>c_ h1 λe3 k h2=> ?_)
 obtain⟨it,fp,tn,J,H2,e,t,T,b7,f2,hD⟩:=h2
 subst e
 refine QhQ<|wpAny_newFunctionEnv S.nocell (by intro y hy;simp at hy) (λM G B=> ?_) S.kind
 dsimp only at G B⊢
 generalize b4:k.heap.push {cls:=.type "list",dict:=none,data:=.seq ([]:List Value).toArray}=P2 at G B⊢
 have hC:P2.objs.size=k.heap.objs.size+1:=by rw[←b4,Heap.size_push]
 have d3:k.heap.objs.size≠P2.objs.size:=by rw[hC];exact Qwq (Nat.lt_succ_self _)
 have a5:k.heap.objs.size<=P2.objs.size:=by rw[hC];exact Nat.le_succ _
 have K:∀b,b<k.heap.objs.size->b≠P2.objs.size:=λb f=>by rw[hC];exact Qwq (Nat.lt_succ_of_lt f)
 have a1:∀b o,k.heap.get? b=some o->M.get? b=some o:=λb o e=>B.extBut b o (K b<|Qiq e) (Qcq _ (b4▸Qcq _ e))
 have d1:M.get? k.heap.objs.size=some {cls:=.type "list",dict:=none,data:=.seq ([]:List Value).toArray}:=B.extBut _ _ d3 (Qcq _ (b4▸Qrq _ rfl))
 have nD:H2 k.heap.objs.size=none:=t.fresh
 have nC:H2 P2.objs.size=none:=t.hok.fresh a5
 have b6:∀b∈fp,b<k.heap.objs.size:=λb f=>by
  obtain⟨o,e,_⟩:=T.obj _ _ b7 b f
  exact Qiq e
 obtain⟨W,⟨m0,w0⟩,c7⟩:=hD k.heap.objs.size nD
 have c5:(aP X N a Y P2.objs.size k H2 fp).Ok:=by
  refine⟨t.ok.mod,S.kind,t.ok.glob,t.ok.blt,a5,λx y c h1 h2=>t.ok.inj x y c (S.sub x c h1) (S.sub y c h2),S.has,(λx c h=>by cases h),t.ok.hd,t.ok.frames,.inl rfl,
   λb f=>⟨K b (b6 b f),λx c h=>(f2 b f).2.2.2.2.1 x c (S.sub x c h)⟩,t.bs,QAq t.ok.bsz t.sz,λb o e f=> ?_,λb f z=> ?_,t.stack,t.stkFree⟩
  ·rcases(f2 b f).2.2.2.1 with z|z
   ·exact t.ok.noex b o e z
   ·exact absurd (Qqq (Qqq (Qiq e) t.ok.bsz) z)<|Nat.lt_irrefl _
  ·rcases Qsq.mp (t.stkSub b z) with q|q
   ·exact(f2 b f).2.1 q
   ·exact(f2 b f).2.2.1 q
 have b9:dq X.prog X.w (upd H2 k.heap.objs.size<|.lst []) M k.heap.objs.size (.lst []):=⟨Nat.zero_le _,[],0,.nil,d1⟩
 have I4:Inv (aP X N a Y P2.objs.size k H2 fp) [] (lD js σ) (upd H2 k.heap.objs.size<|.lst []) {k with heap:=M,toks:=k.toks+([]:List (Str×Value)).length}:=by
  refine⟨c5,rfl,t.bare,Un.laid a1 (Qmq _) nD,⟨_,G,λi x v h1 h2 h3=> ?_⟩,λx c h=> ?_,by show upd H2 _ _ P2.objs.size=none;rw[bx d3.symm];exact nC,λx c h=> ?_,λp hp=>absurd (show p∈([]:List (Addr×Obj)) from hp) (by simp),t.hok.laid a1 (Qmq _) b9,by show(lD js σ).length=N.length;unfold lD;rw[lQm];exact S.len⟩
  ·unfold lD at h2
   rw[gQm] at h2
   cases e:js[i]? with
   |none=>rw[e] at h2;cases h2
   | some o=>
     rw[e] at h2
     cases o with
     |none=>cases h2
     | some j=>
       have a2:σ.getD j none=some v:=QdQ h2
       have hj:σ[j]?=some (some v):=by
         rw[Qlq] at a2
         cases q:σ[j]? with
         |none=>rw[q] at a2;cases a2
         |some y=>rw[q] at a2;exact congrArg some a2
       obtain⟨c1,c2,c3⟩:=S.cap i j x e h1
       obtain⟨m,hn,hl⟩:=t.loc
       have d8:KZ X.env.scope x:=by
         rcases c2 with z|z
         · exact .inr (.inl z)
         · exact .inr (.inr z)
       obtain⟨u,r,l⟩:=hl j x v c1 hj d8
       refine⟨u,r,.inr ⟨c3,?_⟩⟩
       obtain⟨c,b8⟩:=S.has x c3
       refine⟨c,b8,?_⟩
       rcases l with⟨z,_⟩|⟨_,c',e',z⟩
       · rcases c2 with y|y <;>rw[y] at z <;>cases z
       · rw[S.sub x c b8] at e'
         cases e'
         obtain⟨o,ho,hd⟩:=z
         exact⟨o,a1 _ _ ho,hd⟩
  ·obtain⟨v,o,ho,hd⟩:=t.cell x c (S.sub x c h)
   exact⟨v,o,a1 _ _ ho,hd⟩
  ·obtain⟨v,o,ho,hd⟩:=t.cell x c (S.sub x c h)
   rw[bx (Qwq<|Qiq ho)]
   exact t.freeC x c<|S.sub x c h
 have a3:∀{R:List (Addr×Obj)} {Z:Hp},R= []->(∀b∈fp,Z b=none)->∀b∈fp,sP (aP X N a Y P2.objs.size k H2 fp) R Z b:=λ{R Z} ep hn b f=>by
  subst ep
  refine⟨hn b f,K b<|b6 b f,λz=>c5.exfs b f z,.inl f,λx c h=>(f2 b f).2.2.2.2.1 x c (S.sub x c h),λp hp=>absurd (show p∈([]:List (Addr×Obj)) from hp) (by simp)⟩
 have b3:codeAny (model X.prog X.w) X.A (.compLoop (.ListComp a6 [⟨tg,P,a8,0⟩] a pos) 0 (.ref it) (.ref k.heap.objs.size) (compEnvC a Y P2.objs.size X.env))
   (compPost (model X.prog X.w) X.A X.xe (some λv=>assignAll v [assign L X.env]) (λ_ s9=>wpAny (model X.prog X.w) X.A (pure ()) (λ_ d5=>wpAny (model X.prog X.w) X.A (pure Flow.next) (SP X U Dn) X.xe d5) X.xe s9) (.ref k.heap.objs.size) P2.objs.size) {k with heap:=M,toks:=k.toks+([]:List (Str×Value)).length}:=by
  refine qP (λn s'=>∃i a4 Z,Inv (aP X N a Y P2.objs.size k H2 fp) [] a4 Z s'/\tn i s'.heap/\(∀b∈fp,Z b=none)/\W i n a4 Z) ?_ m0
   ⟨0,_,_,I4,T.keep _ _ _ b7 λb _ o e=>a1 b o e,λb f=>by rw[bx (Qwq<|b6 b f)];exact(f2 b f).1,w0⟩
  rintro n s3 ⟨i,b0,H3,I3,c6,c4,w3⟩
  rcases c7 i n b0 H3 w3 with⟨stop,q⟩|⟨go,Nx,hN,c0⟩
  ·refine c_ (T.done (aP X N a Y P2.objs.size k H2 fp) rfl rfl rfl hc i [] s3 b0 H3 _ I3 (a3 rfl c4) c6 stop) λr s4 Q=> ?_
   obtain⟨hr,I5⟩:=Q
   subst hr
   obtain⟨m,hn,_⟩:=id I5.loc
   have e2:∀h',Heap.SameBut P2.objs.size s4.heap h'->Inv X U σ H3 {s4 with heap:=h'}:=by
    intro h' a0
    have u:=I5.base
    have ne:∀b o,k.heap.get? b=some o->b≠P2.objs.size:=λb o e=>K b (Qiq e)
    refine t.call' (ch:=fp) I5.os ⟨λb o e n f hx=>(a0.2 b<|ne b o e).trans (u.keep b o e n f hx),λb o e n f hx=> ?_,u.free,λb o e hx=> ?_,u.tups,u.frzs,u.tbls⟩ (λb ob e=> ?_) I5.bare λb f=>⟨(f2 b f).2.2.2.1,(f2 b f).2.1,(f2 b f).2.2.2.2.1,(f2 b f).2.2.2.2.2⟩
    ·obtain⟨sl,e1⟩:=u.slot b o e n f hx
     exact⟨sl,(a0.2 b<|ne b o e).trans e1⟩
    ·obtain⟨o',e1⟩:=u.there b o e hx
     exact⟨o',(a0.2 b<|ne b o e).trans e1⟩
    ·refine(I5.hok b ob e).stay (λc w' hc q=>(a0.2 c ?_).trans q) (λ_ q=>q) λ_ _ q=>q
     have fC:H3 P2.objs.size=none:=I5.free
     rintro rfl
     rcases hc with z|z
     ·rw[←z,fC] at e;cases e
     ·rw[fC] at z;cases z
   have IX:=e2 s4.heap ⟨rfl,λ_ _=>rfl⟩
   have b1:sP X U H3 P2.objs.size:=t.fpOk a5 I5.free
   obtain⟨oC,es,ep,d2,wQ,d4⟩:=hn
   have IP:=IX.pinned (fp:= [P2.objs.size]) (λb f=>by rw[Qfq] at f;rw[f];exact b1) (λb f=>by rw[Qfq] at f;rw[f];exact⟨oC,d2,λv=>by rw[wQ];simp⟩)
   show wpAny _ _ (assignAll (.ref k.heap.objs.size) [assign L X.env]) _ _ _
   rw[assignAll.eq_2]
   refine c_ (d6 _ s4 σ H3 (.ref k.heap.objs.size) (.ref k.heap.objs.size) _ IP rfl q) λ_ s6 Q=> ?_
   obtain⟨F,H6,I6,q6⟩:=Q
   have pC:=I6.pin (P2.objs.size,oC) (Qoq _<|Qoq _<|dN (Qfq.mpr rfl) d2)
   refine⟨m,⟨oC,es,ep,pC.1,wQ,d4⟩,λh' a0=>Qgq<|Qgq ⟨F,H6,?_,q6⟩⟩
   exact I6.unpinned.turned (it:=P2.objs.size) (t':=s6.toks) (λb o' f e=>(a0.2 b f).trans e) pC.2.1 pC.2.2.1 b1.2.2.2.1 b1.2.2.2.2.1 b1.2.2.2.2.2
  ·refine c_ (T.item (aP X N a Y P2.objs.size k H2 fp) rfl rfl rfl hc i [] s3 b0 H3 _ I3 (a3 rfl c4) c6 go) λr s4 Q=> ?_
   obtain⟨u,hr,h4⟩:=Q
   subst hr
   refine c_ h4 λ_ s5 Q=> ?_
   obtain⟨x,H5,I5,r5,y5,b5,e0⟩:=Q
   have d7:=I5.pinned (a3 rfl e0) (T.obj _ _ b5)
   refine c_ (hg P2.objs.size k H2 fp _ s5 b0 H5 x u _ d7 r5<|c0 x H5 y5) λ_ s6 Q=> ?_
   obtain⟨F,H6,I6,q6⟩:=Q
   refine c_ (ht P2.objs.size k H2 fp _ s6 F H6 _ I6 q6) λok s7 Q=> ?_
   obtain⟨H7,I7,q7⟩:=Q
   have again:∀{s8:Shared} {H8:Hp},Inv (aP X N a Y P2.objs.size k H2 fp) ([]++oV fp s5.heap) F H8 s8->Nx F H8->∃m,m<n/\∃i a4 Z,Inv (aP X N a Y P2.objs.size k H2 fp) [] a4 Z s8/\tn i s8.heap/\(∀b∈fp,Z b=none)/\W i m a4 Z:=λ{s8 H8} I8 n8=>by
    obtain⟨m',hm,w8⟩:=hN F H8 n8
    refine⟨m',hm,i+1,F,H8,I8.unpinned,T.keep _ _ _ b5 λb f o e=>(I8.pin (b,o)<|Qoq _<|Qoq _<|dN f e).1,λb f=> ?_,w8⟩
    obtain⟨o,e,d⟩:=T.obj _ _ b5 b f
    exact(I8.pin (b,o)<|Qoq _<|Qoq _<|dN f e).2.1
   cases ok with
   |false=>exact again I7 q7
   | true=>
     refine c_ (he P2.objs.size k H2 fp _ s7 F H7 _ I7 q7) λyv s8 Q=> ?_
     obtain⟨y,H8,I8,ry,xs,hx,hl,n8⟩:=Q
     refine c_ (rK (X:=aP X N a Y P2.objs.size k H2 fp) _ s8 F H8 (.ref k.heap.objs.size) [y] (.ref k.heap.objs.size) [yv] (λ_ Z=>Nx F Z) I8 rfl (.cons ry .nil) ⟨_,xs,y,rfl,rfl,hx,hl,n8⟩) λ_ s9 Q=> ?_
     obtain⟨z,H9,I9,_,q9⟩:=Q
     exact again I9 q9
 exact codeAny_compStart_list b3<|T.self _ 0 _ _ _ (T.keep _ _ _ b7 λb _ o e=>a1 b o e) b3
end L2
namespace Dk
open PySem
end Dk
namespace L2
open PySem PySem.Spec PyProof.Rows
section
variable{X:Cx}
def Jj(K:PySem.W.Frag):List V->Hp->VK->Prop:=λd H Q=>∃(a:Addr) (c:List Str),d= [.ref a]/\je K H a (c.map V.str)/\c.length<64/\∀(l:Addr) (b:List Str),H l=none->sortedS b=true->b.Perm c->Q (.ref l) (upd H l (.lst (b.map V.str)))
theorem ye:∀{ys:List Str} {a:List Value},bI (ys.map V.str) a->StrsAre a ys
 | [],_,r=>by cases r;exact .nil
 | y::ys,_,r=>by
   cases r with
   | cons h t=>
     obtain⟨b,rfl⟩:=h
     exact .cons y b (ye t)
def zj{ss:List Str}{vs:List Value}(h:StrsAre vs ss):bI (ss.map V.str) vs:=by
 induction h with
 |nil=>exact .nil
 |cons y t _ a=>exact .cons ⟨t,rfl⟩ a
def yG:kh X (.builtin "sorted") (Jj X.K):=by
 intro m s B H y A Q I r h
 obtain⟨a,l,rfl,ha,h64,q⟩:=h
 obtain⟨u,rfl,rx⟩:=vals1 r
 cases (show u=Value.ref a from rx)
 obtain⟨d,j,w,z⟩:=I.list ha
 have t:d.length=l.length:=by have:=j.length;simpa using this.symm
 have i:s.heap.objs.size<=s.heap.objs.size+1:=Nat.le_succ _
 refine sorted_strs w.isList (ye j) (by omega) λf c p k n=> ?_
 obtain⟨e,v⟩:=sortedAll_at s.heap d f
 have g:c.length=l.length:=k.length_eq
 refine⟨.ref (s.heap.objs.size+1),_,I.laid (a:=s.heap.objs.size+1) (o:=.lst (c.map V.str)) (h':=sortedAll s.heap d f) (t':=s.toks) (λb o x=> ?_) i ⟨?_,f.toList,e,zj p,?_⟩,rfl,q _ c (I.hok.fresh i) n k⟩
 ·exact sortedAll_old x
 ·rw[lQm,g]
  exact QAq (nQl h64) (by decide)
 ·simpa using v
end
end L2
namespace Zp
open PySem
section
variable{prog:Program}{w:World}{A:Around}{E:Value->Shared->Prop}{s:Shared}
def N9{i t:Addr}{k:Nat}{vs:Array Value}{v:Value}{Q:Value->Shared->Prop}(c:s.heap.IsTupleIter i t k)(d:s.heap.IsTuple t vs)(g:vs[k]?=some v)
  (q:∀h',h'.IsTupleIter i t (k+1)->Heap.SameBut i s.heap h'->Q v {s with heap:=h'}):wpAny (model prog w) A (Builtin.SmallTypes.nextOf (.ref i)) Q E s:=by
 obtain⟨j,b,e,a⟩:=id c
 obtain⟨l,f,_,m,h⟩:=d
 unfold Builtin.SmallTypes.nextOf
 refine Qaq (QiQ (name:=Str.ofString "__next__") c.typeIs F.slot_tuple_iterator_next (wpAny_call_entry F.slot_tuple_iterator_next c.typeIs F.entry_tuple_iterator_next ?_ (F.args_tuple_iterator_next_1 _)))
 refine(?_:wpAny _ _ (field (.ref i) 0 >>= _) _ _ s)
 refine Qaq (QMq b a (x:=.ref t) rfl ?_)
 refine(?_:wpAny _ _ (if (Value.ref t==Value.none)=true then _ else _) _ _ s)
 rw[Quq (λz=>by cases (show false=true from z))]
 refine(?_:wpAny _ _ (field (.ref i) 1 >>= _) _ _ s)
 refine Qaq (QMq b a (x:=.int k 0) rfl ?_)
 refine(?_:wpAny _ _ (seqItems? (.ref t) >>= _) _ _ s)
 refine Qaq (wpAny_seqItems f h ?_)
 simp only[Int.toNat_natCast,g]
 refine Qaq (wpAny_setField b a (by simp) (Qgq ⟨v,rfl,Qgq (q _ ⟨_,Heap.get?_update_self _ b (Obj.isFreed_of_fields (Obj.data_mapFields a _)),(Obj.cls_mapFields ..).trans e,?_⟩ (Heap.SameBut.update ..))⟩))
 rw[Obj.data_mapFields a]
 simp[rawInt]
def NY{i t:Addr}{k:Nat}{vs:Array Value}{Q:Value->Shared->Prop}(f:A.handled=none)(d:s.heap.IsTupleIter i t k)(g:s.heap.IsTuple t vs)(j:vs[k]?=none)
  (q:∀h' e,Heap.ExtBut i s.heap h'->(∃o,h'.get? e=some o/\o.cls=.type "StopIteration")->E (.ref e) {s with heap:=h'}):wpAny (model prog w) A (Builtin.SmallTypes.nextOf (.ref i)) Q E s:=by
 obtain⟨n,b,r,c⟩:=id d
 obtain⟨p,h,_,u,l⟩:=g
 unfold Builtin.SmallTypes.nextOf
 refine Qaq (QiQ (name:=Str.ofString "__next__") d.typeIs F.slot_tuple_iterator_next (wpAny_call_entry F.slot_tuple_iterator_next d.typeIs F.entry_tuple_iterator_next ?_ (F.args_tuple_iterator_next_1 _)))
 refine(?_:wpAny _ _ (field (.ref i) 0 >>= _) _ _ s)
 refine Qaq (QMq b c (x:=.ref t) rfl ?_)
 refine(?_:wpAny _ _ (if (Value.ref t==Value.none)=true then _ else _) _ _ s)
 rw[Quq (λz=>by cases (show false=true from z))]
 refine(?_:wpAny _ _ (field (.ref i) 1 >>= _) _ _ s)
 refine Qaq (QMq b c (x:=.int k 0) rfl ?_)
 refine(?_:wpAny _ _ (seqItems? (.ref t) >>= _) _ _ s)
 refine Qaq (wpAny_seqItems h l ?_)
 simp only[Int.toNat_natCast,j]
 refine Qaq (wpAny_rule (Qaq (wpAny_setField b c (by simp) ?_)))
 refine(?_:wpAny _ _ (newExc (.type "StopIteration") [] >>= _) _ _ _)
 refine Qaq ?_
 simp only[newExc,newTuple]
 refine Qaq (QhQ ?_ (by size_fits))
 refine Qaq (m:=firstArgMember _ _) (wpAny_of_eq (a:=Value.none) (by first|rfl|(simp only[firstArgMember];rfl)) (QhQ ?_ (by size_fits)))
 simp only[raiseNew]
 refine Qaq (wpAny_handled ?_)
 first|rw[show A.in1.handled=none from f]|rw[f]
 exact Qaq (Qgq (wpAny_throw (q _ _ (((Heap.SameBut.update ..).extBut.push _).push _) ⟨_,Qrq _ rfl,rfl⟩)))
end
def Rest(z O i j:Addr)(h h':Heap):Prop:=∀c o,c≠z->c≠O->c≠i->c≠j->h.get? c=some o->h'.get? c=some o
end Zp
namespace L2
open PySem PySem.Spec PyProof.Rows
section
variable{X:Cx}{pins:List (Addr×Obj)}{σ:St}{H:Hp}{s:Shared}{h':Heap}
def Inv.turnedL{t':Nat}{fp:List Addr}(I:Inv X pins σ H s)(d:∀b∈fp,sP X pins H b)(k:∀b o,b∉fp->s.heap.get? b=some o->h'.get? b=some o):Inv X pins σ H {s with heap:=h',toks:=t'}:=by
 have f:∀b u,H b=some u->b∉fp:=λb u e z=>by rw[(d b z).1] at e;cases e
 refine I.step (g':=s.gens) (d':=s.drawn) (ch:=fp) (λb g=>⟨(d b g).2.2.2.1,(d b g).2.1,(d b g).2.2.2.2.1,(d b g).2.2.2.2.2⟩) (λb o _ _ a e _=>k b o a e) (λb o _ _ a e _=>⟨o.slots,k b o a e⟩) (λ_ _ _ _ n=>n)
  (λb o a e=>⟨o,k b o a e⟩) (λ_ _ e=>e) (λ_ _ _ e=>e) (λb p e=>⟨#[],by rw[e];simp⟩) (λm h=> ?_) (λb u e=> ?_) I.bare
 ·obtain⟨o,j,l,i,r⟩:=h
  exact⟨o,j,l,k _ o (λz=>(d _ z).2.1 rfl) i,r⟩
 ·refine(I.hok b u e).stay (λc v a q=>k c v ?_ q) (λ_ q=>q) λ_ _ q=>q
  rcases a with z|z
  ·rw[z];exact f b u e
  ·exact f c _ z
def Inv.turnedNew{t':Nat}{fp:List Addr}{p:Addr}{o:HO}(I:Inv X pins σ H s)(f:∀b∈fp,sP X pins H b)(k:∀b u,b∉fp->s.heap.get? b=some u->h'.get? b=some u)(i:s.heap.objs.size<=p)
  (new:dq X.prog X.w (upd H p o) h' p o):Inv X pins σ (upd H p o) {s with heap:=h',toks:=t'}:=by
 have t:=I.hok.fresh i
 have g:∀b u,H b=some u->b∉fp:=λb u e z=>by rw[(f b z).1] at e;cases e
 have h:∀b u,H b=some u->upd H p o b=some u:=λb u e=>by rw[bx (fS e t)];exact e
 refine I.step (g':=s.gens) (d':=s.drawn) (ch:=fp) (λb d=>⟨(f b d).2.2.2.1,(f b d).2.1,(f b d).2.2.2.2.1,(f b d).2.2.2.2.2⟩) (λb o _ _ a e _=>k b o a e) (λb o _ _ a e _=>⟨o.slots,k b o a e⟩)
  (λb u _ e n=>by rw[bx (λz=>Nat.lt_irrefl _ (Qqq (Qiq e) (by rw[z];exact i)))];exact n)
  (λb o a e=>⟨o,k b o a e⟩) (λb A e=>h b _ e) (λb u v e=>h b _ e) (λb B e=>⟨#[],by rw[h b _ e];simp⟩) (λm j=> ?_) (λb u e=> ?_) I.bare
 ·obtain⟨o,x,y,l,r⟩:=j
  exact⟨o,x,y,k _ o (λz=>(f _ z).2.1 rfl) l,r⟩
 ·by_cases d:b=p
  ·subst d
   rw[cn] at e
   cases e
   exact new
  ·rw[bx d] at e
   refine(I.hok b u e).stay (λc v a q=>k c v ?_ q) (λc q=>h c _ q) λc _ q=>h c _ q
   rcases a with z|z
   ·rw[z];exact g b u e
   ·exact g c _ z
end
end L2
namespace Zp
open PySem PySem.W PyProof.Rows
def rP:KasT (Array Nat)->List (Array Nat)
 |.ret p=> [p]
 |.ask _ _ k=>rP (k true)++rP (k false)
def uW(n:Nat):KasT (Array Nat)->Bool
 |.ret _=>true
 |.ask i j k=>decide (i<n)&&decide (j<n)&&decide (i≠j)&&uW n (k true)&&uW n (k false)
def uN:∀n:Nat,n<=3->2<=n->uW n (kas_sort n)=true/\(rP (kas_sort n)).all (λp=>p.toList.isPerm (List.range n))=true:=by
 intro n a b
 have:n=2\/n=3:=by omega
 rcases this with rfl|rfl
 ·decide +kernel
 ·decide +kernel
inductive fh(h:Heap):List Value->List Str->Prop
 |nil:fh h [] []
 |cons {a:Addr} {o:Obj} {xs:Array Value} {n:Nat} {x:Str} {t:Tok} {vs:List Value} {fs:List Str}:h.get? a=some o->o.cls=.type "tuple" ->o.data=.seq xs n->xs[0]?=some (.str x t)->fh h vs fs->fh h (.ref a::vs) (x::fs)
theorem fh.keep{h h':Heap}(k:∀a o,h.get? a=some o->o.cls=.type "tuple" ->h'.get? a=some o):∀{vs:List Value} {fs:List Str},fh h vs fs->fh h' vs fs
 |_,_,.nil=>.nil
 |_,_,.cons e c d f r=>.cons (k _ _ e c) c d f (r.keep k)
theorem fh.len{h:Heap}:∀{vs:List Value} {fs:List Str},fh h vs fs->vs.length=fs.length
 |_,_,.nil=>rfl
 |_,_,.cons _ _ _ _ r=>congrArg (·+1) r.len
theorem fh.get{h:Heap}:∀{vs:List Value} {fs:List Str} {i:Nat},fh h vs fs->i<fs.length->∃a o xs n t,vs.getD i Value.none=.ref a/\h.get? a=some o/\o.data=.seq xs n/\xs[0]?=some (.str (fs.getD i "") t)
 |_,_,0,.cons e c d f r,_=>⟨_,_,_,_,_,rfl,e,d,f⟩
 | _,_,i+1,.cons e c d f r,hi=>by
   have:=r.get (i:=i) (by simpa using hi)
   simpa using this
 |_,_,_,.nil,hi=>by simp at hi
theorem fh.firsts{h:Heap}:∀{vs:List Value} {fs:List Str},fh h vs fs->∃a:List Value,KatTups h vs a/\a.length=fs.length/\∀v∈a,∃x t,v=.str x t
 |_,_,.nil=>⟨[],KatTups.nil,rfl,by simp⟩
 | _,_,.cons e c d f r=>by
   obtain⟨a,k,l,m⟩:=r.firsts
   exact⟨_::a,KatTups.cons e c d f k,by simp[l],λv b=>by
     rcases Qsq.mp b with z|z
     · exact⟨_,_,z⟩
     · exact m v z⟩
end Zp
namespace L2
open PySem PySem.Spec PyProof.Rows
section
variable{X:Cx}
def JY:lR X (binaryOp .Mult) (rI IntMulOk λi j=>.int (i*j)):=OL λ_ _ _ _ _ _ _ a q=>mul_int q a
inductive xU(H:Hp):List Addr->List Str->Prop
 |nil:xU H [] []
 |cons {a:Addr} {x:Str} {us:List V} {rs:List Addr} {ss:List Str}:H a=some (.tup (.str x::us))->xU H rs ss->xU H (a::rs) (x::ss)
theorem Cv{b:List (Addr×Obj)}{i:St}{H:Hp}{s:Shared}(I:Inv X b i H s):∀{rs:List Addr} {ss:List Str},xU H rs ss->Zp.fh s.heap (rs.map Value.ref) ss
 |_,_,.nil=>.nil
 | _,_,.cons (a:=a) h r=>by
   obtain⟨f,g,⟨o,c,j,n,e⟩,l⟩:=I.tuple (jq.of h)
   cases g with
   | cons d k=>
     obtain⟨t,rfl⟩:=d
     exact .cons (t:=t) c j e (by simp) (Cv I r)
theorem yd:∀{rs:List Addr} {b:List Value},bI (rs.map V.ref) b->b=rs.map Value.ref
 | [],_,r=>by cases r;rfl
 | a::rs,_,r=>by
   cases r with
   | cons h t=>
     cases h
     rw[yd t]
     rfl
theorem vm:∀(rs:List Addr),bI (rs.map V.ref) (rs.map Value.ref)
 | []=>.nil
 |a::rs=>.cons rfl (vm rs)
end
section
variable{X:Cx}
def Iz:NN X (λx y H Q=>∃p xs k v,x=.ref p/\y=.int ((k:Nat):Int)/\je X.K H p xs/\xs[k]?=some v/\Q v H):=by
 intro b s n H x y v u Q I d i h
 obtain⟨p,xs,k,z,rfl,rfl,hq,he,q⟩:=h
 cases d
 obtain⟨t,rfl⟩:=i
 obtain⟨f,r,g,m⟩:=I.list hq
 obtain⟨c,e,a⟩:=r.get he
 have l:k<xs.length:=(gQs.mp he).1
 have j:=nq
 exact wpAny_getItem_list g.isList (x:=c) (Int.natCast_nonneg k) (by omega) (by simpa using e) ⟨z,H,I,a,q⟩
end
section
variable{X:Cx}
def Hk(K:PySem.W.Frag):R2:=λx y H Q=>∃a b c,x=.ref a/\y=.ref b/\je K H a c/\je K H b []/\Q (.bl (!c.isEmpty)) H
def Hw(f:X.A.units<cLine):lR X (compareOp .NotEq) (Hk X.K):=by
 intro c s n H x y v u Q I e g h
 obtain⟨a,b,j,rfl,rfl,ha,hb,q⟩:=h
 cases j with
 |nil=>exact K8 f c s n H _ _ v u Q I e g ⟨a,b,[],[],rfl,rfl,ha,hb,rfl,rfl,q⟩
 | cons z w=>
   cases e
   cases g
   obtain⟨o,r,p,B⟩:=I.list ha
   obtain⟨i,k,d,t⟩:=I.list hb
   have l:=r.length
   have m:=k.length
   exact SeqAt.RcNeAt.lists_lengths p.isList d.isList (by simp[←l,←m]) f _ _ _ _ ⟨.bl true,H,I,rfl,q⟩
end
end L2
namespace HT
open PySem PySem.Spec PyProof.Rows
section
variable{prog:Program}{w:World}{A:Around}{E:Value->Shared->Prop}{s:Shared}
def nZ{t e:Addr}{items:Array Value}{f i:Value}{lo hi:Option Int}{Q:Value->Shared->Prop}(ht:IsTup s.heap t items)(hs:s.heap.IsSliceOf e f i .none)(o:IsPart f lo)(k:IsPart i hi)
  (g:fT items.size 0 lo=0/\fT items.size items.size hi=items.size) (h:Q (.ref t) s):wpAny (model prog w) A (getItem (.ref t) (.ref e)) Q E s:=by
 obtain⟨l,d,c,n⟩:=id hs
 have b:s.TypeIs (.ref e) "slice":=⟨l,d,c⟩
 unfold getItem
 try with_reducible refine QLq ?_
 first|refine Qaq (Qgq ?_)|skip
 refine Qaq (wpAny_sequenceKey ht.typeIs (by decide) ?_)
 refine Qaq (QiQ (name:=Str.ofString "__getitem__") ht.typeIs PyProof.Rows.slot_tuple_getitem
  (wpAny_call_entry PyProof.Rows.slot_tuple_getitem ht.typeIs entry_tuple_getitem ?_ (args_tuple_getitem _ _)))
 show wpAny _ _ (Builtin.Tuple.tupleItemsOf (.ref t) >>= _) _ _ s
 refine Qaq (tupleItemsOf_ ht ?_)
 refine Qaq (wpAny_typeOf b ?_)
 rw[Qhq (by decide)]
 refine Qaq (jQ hs o k ?_)
 have a:(((fT items.size 0 lo:Nat):Int)==0&&(1:Int)==1&&(fT items.size items.size hi-fT items.size 0 lo)==items.size)=true:=by
  rw[g.1,g.2]
  simp
 show wpAny _ _ (if (((fT items.size 0 lo:Nat):Int)==0&&(1:Int)==1&&(fT items.size items.size hi-fT items.size 0 lo)==items.size)=true then _ else _) _ _ s
 rw[Qhq a]
 have j:∀{A:Around} {E:Value->Shared->Prop} {R:Bool->Shared->Prop},R true s->wpAny (model prog w) A (Builtin.Tuple.tupleIsExact (.ref t)) R E s:=λ{A E R} h=>by
  unfold Builtin.Tuple.tupleIsExact
  exact Qaq (wpAny_typeOf ht.typeIs (Qgq h))
 refine Qaq (m:=Builtin.Tuple.tupleIsExact _) (j ?_)
 rw[Qhq rfl]
 refine Qaq (wpAny_rule ?_)
 exact Qgq ⟨_,rfl,Qgq h⟩
end
end HT
namespace L2
open PySem PySem.Spec PyProof.Rows
def PQ(K:PySem.W.Frag):V->Option Int->Option Int->Hp->VK->Prop:=λx c d H Q=>∃a b,x=.ref a/\jq K H a b∧
 (HT.fT b.length 0 c=0/\HT.fT b.length b.length d=b.length->Q (.ref a) H)/\(¬(HT.fT b.length 0 c=0/\HT.fT b.length b.length d=b.length)->∀p,H p=none->Q (.ref p) (upd H p (.tup (C2 b c d))))
def Jh{X:Cx}:P1 X (PQ X.K):=by
 intro d s t H x v o p m l q Q I k g n j h
 obtain⟨a,b,rfl,hx,q1,q2⟩:=h
 by_cases e:HT.fT b.length 0 m=0/\HT.fT b.length b.length l=b.length
 ·cases k
  obtain⟨f,r,i,u⟩:=I.tuple hx
  have c:f.toArray.size=b.length:=by rw[Qjq];exact r.length.symm
  refine⟨"tuple",_,PyProof.Rows.slot_tuple_getitem.lookup,i.typeIs,?_⟩
  exact HT.nZ i g n j (by rw[c];exact e) ⟨.ref a,H,I,rfl,q1 e⟩
 ·exact L3 d s t H _ v o p m l q Q I k g n j ⟨a,b,rfl,hx,e,q2 e⟩
end L2
namespace DL
open PySem PySem.Spec PyProof.Rows L2
inductive D where
 |non|bl (b:Bool)|int (i:Int)|str (x:Str)|tup (xs:List D)|ref (k:Nat)|fn (x:Str)
inductive O where
 |lst (xs:List D)|frz (xs:List D)|dct (kvs:List (Key×D))
abbrev aE:=List O
abbrev cB:=List (Option D)
structure Md where
 K:PySem.W.Frag
 mg:Str->Option Value
mutual
inductive Rel(M:Md)(ρ:List Addr)(H:Hp):D->V->Prop
 |non:Rel M ρ H .non .non
 |bl (b:Bool):Rel M ρ H (.bl b) (.bl b)
 |int (i:Int):Rel M ρ H (.int i) (.int i)
 |str (x:Str):Rel M ρ H (.str x) (.str x)
 |tup {a:Addr} {vs:List V} {ds:List D}:H a=some (.tup vs)->bc M ρ H ds vs->Rel M ρ H (.tup ds) (.ref a)
 |ref {k:Nat} {a:Addr}:ρ[k]?=some a->Rel M ρ H (.ref k) (.ref a)
 |fn {x:Str} {a:Addr}:M.mg x=some (.ref a)->Rel M ρ H (.fn x) (.ref a)
inductive bc(M:Md)(ρ:List Addr)(H:Hp):List D->List V->Prop
 |nil:bc M ρ H [] []
 |cons {d:D} {v:V} {ds:List D} {vs:List V}:Rel M ρ H d v->bc M ρ H ds vs->bc M ρ H (d::ds) (v::vs)
end
section
variable{M:Md}{ρ ρ':List Addr}{H H':Hp}
def QW:HO->Prop
 |.tup _=>True
 |.frz _ _=>True
 |_=>False
structure cH(ρ:List Addr)(H:Hp)(ρ':List Addr)(H':Hp):Prop where
 pre:ρ <+: ρ'
 new:∀a∈ρ',a∈ρ\/H a=none
 keep:∀a o,H a=some o->a∉ρ\/QW o->H' a=some o
 grow:∀a,H' a=none->H a=none
def cH.refl:cH ρ H ρ H:=⟨List.prefix_refl _,λ_ h=>.inl h,λ_ _ h _=>h,λ_ h=>h⟩
def cH.trans{H1 H2:Hp}(e:cH ρ H d H1)(f:cH d H1 b H2):cH ρ H b H2 where
 pre:=e.pre.trans f.pre
 new:=λa h=>(f.new a h).elim (λh=>e.new a h) λh=>.inr (e.grow a h)
 keep:=λa o h c=>f.keep a o (e.keep a o h c) (c.imp (λn m=>(e.new a m).elim n λz=>by rw[z] at h;cases h) id)
 grow:=λa h=>e.grow a (f.grow a h)
def cH.laid(h:H a=none):cH ρ H ρ (upd H a o) where
 pre:=List.prefix_refl _
 new:=λ_ h=>.inl h
 keep:=λb c e _=>by rw[bx];exact e;intro z;subst z;rw[h] at e;cases e
 grow:=λb e=>by
  by_cases z:b=a
  ·subst z;exact h
  ·rw[bx z] at e;exact e
theorem nj:∀{l:List α},l.Nodup->∀{i j:Nat} {a:α},l[i]?=some a->l[j]?=some a->i=j
 | [],_,_,_,_,h,_=>by simp at h
 |x::l,n,0,0,_,_,_=>rfl
 | x::l,n,0,j+1,a,h1,h2=>by
   rw[List.nodup_cons] at n
   simp at h1 h2
   subst h1
   exact absurd (mQg h2) n.1
 | x::l,n,i+1,0,a,h1,h2=>by
   rw[List.nodup_cons] at n
   simp at h1 h2
   subst h2
   exact absurd (mQg h1) n.1
 | x::l,n,i+1,j+1,a,h1,h2=>by
   rw[List.nodup_cons] at n
   simp at h1 h2
   exact congrArg (·+1)<|nj n.2 h1 h2
def cD(h:some (a,b)=some (c,d)):a=c/\b=d:=by cases h;exact⟨rfl,rfl⟩
def di{α:Type}{l l':List α}(h:l <+: l'){k:Nat}{a:α}(e:l[k]?=some a):l'[k]?=some a:=by
 obtain⟨t,rfl⟩:=h
 rw[QHq (gQs.mp e).1]
 exact e
mutual
theorem Rel.ext(e:cH ρ H ρ' H'):∀{d:D} {v:V},Rel M ρ H d v->Rel M ρ' H' d v
 |_,_,.non=>.non
 |_,_,.bl b=>.bl b
 |_,_,.int i=>.int i
 |_,_,.str x=>.str x
 |_,_,.tup h hs=>.tup (e.keep _ _ h<|.inr trivial) (bc.ext e hs)
 |_,_,.ref h=>.ref (di e.pre h)
 |_,_,.fn h=>.fn h
theorem bc.ext(e:cH ρ H ρ' H'):∀{ds:List D} {vs:List V},bc M ρ H ds vs->bc M ρ' H' ds vs
 |_,_,.nil=>.nil
 |_,_,.cons h hs=>.cons (Rel.ext e h) (bc.ext e hs)
end
mutual
theorem Rel.pre(e:ρ <+: ρ'):∀{d:D} {v:V},Rel M ρ H d v->Rel M ρ' H d v
 |_,_,.non=>.non
 |_,_,.bl b=>.bl b
 |_,_,.int i=>.int i
 |_,_,.str x=>.str x
 |_,_,.tup h hs=>.tup h (bc.pre e hs)
 |_,_,.ref h=>.ref (di e h)
 |_,_,.fn h=>.fn h
theorem bc.pre(e:ρ <+: ρ'):∀{ds:List D} {vs:List V},bc M ρ H ds vs->bc M ρ' H ds vs
 |_,_,.nil=>.nil
 |_,_,.cons h hs=>.cons (Rel.pre e h) (bc.pre e hs)
end
theorem bc.length:∀{ds:List D} {vs:List V},bc M ρ H ds vs->ds.length=vs.length
 |_,_,.nil=>rfl
 |_,_,.cons _ h=>congrArg (·+1) h.length
theorem bc.append:∀{ds a:List D} {vs ws:List V},bc M ρ H ds vs->bc M ρ H a ws->bc M ρ H (ds++a) (vs++ws)
 |_,_,_,_,.nil,h=>h
 |_,_,_,_,.cons h hs,h'=>.cons h (hs.append h')
theorem bc.get:∀{ds:List D} {vs:List V} {i:Nat} {d:D},bc M ρ H ds vs->ds[i]?=some d->∃v,vs[i]?=some v/\Rel M ρ H d v
 |_,_,0,_,.cons h _,e=>by cases e;exact⟨_,rfl,h⟩
 |_,_,i+1,_,.cons _ hs,e=>hs.get (i:=i) (by simpa using e)
 |_,_,_,_,.nil,e=>by simp at e
theorem bc.set(h:Rel M ρ H d v):∀{ds:List D} {vs:List V} (i:Nat),bc M ρ H ds vs->bc M ρ H (ds.set i d) (vs.set i v)
 |_,_,_,.nil=>.nil
 |_,_,0,.cons _ t=>.cons h t
 |_,_,i+1,.cons q t=>.cons q (bc.set h i t)
theorem bc.take:∀{ds:List D} {vs:List V} (n:Nat),bc M ρ H ds vs->bc M ρ H (ds.take n) (vs.take n)
 |_,_,0,_=>.nil
 |_,_,_+1,.nil=>.nil
 |_,_,n+1,.cons h hs=>.cons h (hs.take n)
theorem bc.drop:∀{ds:List D} {vs:List V} (n:Nat),bc M ρ H ds vs->bc M ρ H (ds.drop n) (vs.drop n)
 |_,_,0,h=>h
 |_,_,_+1,.nil=>.nil
 |_,_,n+1,.cons _ hs=>hs.drop n
theorem bc.eraseIdx:∀{ds:List D} {vs:List V} (n:Nat),bc M ρ H ds vs->bc M ρ H (ds.eraseIdx n) (vs.eraseIdx n)
 |_,_,_,.nil=>.nil
 |_,_,0,.cons _ h=>h
 |_,_,n+1,.cons h hs=>.cons h (hs.eraseIdx n)
def bc.dropLast(h:bc M ρ H ds vs):bc M ρ H ds.dropLast vs.dropLast:=by
 rw[List.dropLast_eq_take,List.dropLast_eq_take,h.length]
 exact h.take _
theorem bc.rep(h:bc M ρ H ds vs):∀k:Nat,bc M ρ H (List.replicate k ds).flatten (List.replicate k vs).flatten
 |0=>.nil
 |k+1=>by rw[QNq,QNq,List.flatten_cons,List.flatten_cons];exact h.append (h.rep k)
def cI(M:Md)(ρ:List Addr)(H:Hp):List (Key×D)->List (Key×V)->Prop
 | [],kv=>kv= []
 |(k,d)::r,kv=>∃v t,kv=(k,v)::t/\Rel M ρ H d v/\cI M ρ H r t
theorem cI.imp(f:∀d v,Rel M ρ H d v->Rel M ρ' H' d v):∀{l:List (Key×D)} {kv:List (Key×V)},cI M ρ H l kv->cI M ρ' H' l kv
 | [],_,h=>h
 |(_,_)::_,_,⟨v,t,e,h,hs⟩=>⟨v,t,e,f _ _ h,cI.imp f hs⟩
theorem cI.length:∀{l:List (Key×D)} {kv:List (Key×V)},cI M ρ H l kv->l.length=kv.length
 | [],_,h=>by cases h;rfl
 |(_,_)::_,_,⟨v,t,e,h,hs⟩=>by subst e;exact congrArg (·+1) hs.length
def qI(M:Md)(ρ:List Addr)(H:Hp)(a:Addr):O->Prop
 |.lst c=>∃b,H a=some (.lst b)/\bc M ρ H c b
 |.frz c=>∃b o,H a=some (.frz o (.lst b))/\bc M ρ H c b
 |.dct d=>∃e,H a=some (.dK e)/\cI M ρ H d e
structure gC(M:Md)(ρ:List Addr)(S:aE)(H:Hp):Prop where
 len:ρ.length=S.length
 nd:ρ.Nodup
 obj:∀(k:Nat) (a:Addr) (o:O),ρ[k]?=some a->S[k]?=some o->qI M ρ H a o
def qI.lay(h:qI M ρ H a o)(i:H b=none):qI M ρ (upd H b u) a o:=by
 have e:cH ρ H ρ (upd H b u):=cH.laid i
 have g:∀{x},H a=some x->upd H b u a=some x:=λ{x} h=>by rw[bx];exact h;intro z;subst z;rw[i] at h;cases h
 cases o with
 |lst j=>obtain⟨f,c,d⟩:=h;exact⟨f,g c,d.ext e⟩
 |frz j=>obtain⟨f,o,c,d⟩:=h;exact⟨f,o,g c,d.ext e⟩
 |dct k=>obtain⟨l,c,d⟩:=h;exact⟨l,g c,d.imp λ_ _ r=>r.ext e⟩
def gC.lay(h:gC M ρ S H)(e:H b=none):gC M ρ S (upd H b u):=⟨h.len,h.nd,λk a o c d=>(h.obj k a o c d).lay e⟩
theorem qI.pre(e:ρ <+: ρ')(h:qI M ρ H a o):qI M ρ' H a o:=by
 cases o with
 |lst f=>obtain⟨d,b,c⟩:=h;exact⟨d,b,c.pre e⟩
 |frz f=>obtain⟨d,o,b,c⟩:=h;exact⟨d,o,b,c.pre e⟩
 |dct g=>obtain⟨i,b,c⟩:=h;exact⟨i,b,c.imp λ_ _ r=>r.pre e⟩
def gC.box(h:gC M ρ S H)(j:a∉ρ)(i:qI M (ρ++ [a]) H a o):gC M (ρ++ [a]) (S++ [o]) H where
 len:=by rw[lQa,lQa,h.len];rfl
 nd:=by rw[List.nodup_append];exact⟨h.nd,by simp,λx g y f=>by rw[Qfq] at f;subst f;exact λz=>j (z▸g)⟩
 obj:=λk b u d e=>by
  by_cases c:k<ρ.length
  ·rw[QHq c] at d
   rw[QHq (h.len▸c)] at e
   exact(h.obj k b u d e).pre (List.prefix_append _ _)
  ·have c:ρ.length<=k:=Nat.le_of_not_lt c
   rw[QQq c] at d
   rw[QQq (h.len▸c)] at e
   have z:k-ρ.length=0:=by
    have:=(gQs.mp d).1
    simp at this
    omega
   have l:k-S.length=0:=by rw[←h.len];exact z
   rw[z] at d
   rw[l] at e
   cases d
   cases e
   exact i
def gC.put(h:gC M ρ S H)(i:ρ[k]?=some a)(B:S[k]?=some o)(J:qI M ρ (upd H a u) a A)(C:∀x,H a=some x->¬QW x):gC M ρ (S.set k A) (upd H a u)/\cH ρ H ρ (upd H a u):=by
 have F:a∈ρ:=mQg i
 have e:cH ρ H ρ (upd H a u):=by
  refine⟨List.prefix_refl _,λ_ h=>.inl h,λb x w c=> ?_,λb m=> ?_⟩
  ·rw[bx]
   ·exact w
   ·intro z
    subst z
    exact c.elim (λn=>n F) λK=>C _ w K
  ·by_cases z:b=a
   ·subst z;rw[cn] at m;cases m
   ·rw[bx z] at m;exact m
 refine⟨⟨by rw[List.length_set];exact h.len,h.nd,λj b p d l=> ?_⟩,e⟩
 by_cases c:j=k
 ·subst c
  rw[i] at d
  cases d
  rw[Qyq (gQs.mp B).1] at l
  cases l
  exact J
 ·rw[QKq (Ne.symm c)] at l
  have t:b≠a:=by
   intro z
   subst z
   have v:=(gQs.mp d)
   have y:=(gQs.mp i)
   obtain⟨v,P⟩:=v
   obtain⟨y,N⟩:=y
   exact c<|nj h.nd d i
  have q:=h.obj j b p d l
  cases p with
  |lst L=>obtain⟨s,f,g⟩:=q;exact⟨s,by rw[bx t];exact f,g.ext e⟩
  |frz L=>obtain⟨s,o,f,g⟩:=q;exact⟨s,o,by rw[bx t];exact f,g.ext e⟩
  |dct G=>obtain⟨I,f,g⟩:=q;exact⟨I,by rw[bx t];exact f,g.imp λ_ _ r=>r.ext e⟩
end
structure En(M:Md)(ρ:List Addr)(H:Hp)(Γ:cB)(σ:L2.St):Prop where
 len:σ.length=Γ.length
 get:∀(i:Nat) (d:D),Γ[i]?=some (some d)->∃v,σ[i]?=some (some v)/\Rel M ρ H d v
def En.ext(h:En M ρ H b c)(e:cH ρ H a f):En M a f b c:=⟨h.len,λi d q=>by obtain⟨v,g,j⟩:=h.get i d q;exact⟨v,g,j.ext e⟩⟩
def En.set(h:En M ρ H a b)(r:Rel M ρ H d v):En M ρ H (a.set i<|some d) (b.set i<|some v) where
 len:=by rw[List.length_set,List.length_set];exact h.len
 get:=λj e q=>by
  by_cases c:i=j
  ·subst c
   have l:i<a.length:=by
    have:=(gQs.mp q).1
    rwa [List.length_set] at this
   rw[Qyq l] at q
   cases q
   exact⟨v,Qyq (h.len▸l),r⟩
  ·rw[QKq c] at q⊢
   exact h.get j e q
structure Ok(M:Md)(ρ:List Addr)(Γ:cB)(S:aE)(σ:L2.St)(H:Hp):Prop where
 en:En M ρ H Γ σ
 st:gC M ρ S H
def Ok.to(h:Ok M ρ d S f H)(e:cH ρ H a b)(s:gC M a c b):Ok M a d c f b:=⟨h.en.ext e,s⟩
abbrev bH:=cB->aE->Option (D×aE)
abbrev ic:=cB->aE->Option (List D×aE)
abbrev jL:=cB->aE->Option (Bool×aE)
def tD(M:Md)(f:bH):TE:=λh H Q=>∃g e S d c,Ok M g e S h H/\f e S=some (d,c)/\∀a v b,cH g H a b->gC M a c b->Rel M a b d v->Q v b
def tL(M:Md)(f:ic):TE:=λj H Q=>∃i g S h d,Ok M i g S j H/\f g S=some (h,d)∧
 ∀b a e c,cH i H b c->gC M b d c->H a=none->a∉b->c a=some (.lst e)->bc M b c h e->Q (.ref a) c
def AO(M:Md)(f:ic):TA:=λi H Q=>∃h e S g c,Ok M h e S i H/\f e S=some (g,c)/\∀a d b,cH h H a b->gC M a c b->bc M a b g d->Q d b
def tB(M:Md)(f:jL):TT:=λh H Q=>∃g e S b d,Ok M g e S h H/\f e S=some (b,d)/\∀a c,cH g H a c->gC M a d c->Q b c
section
variable{X:Cx}
abbrev md(X:Cx):Md:=⟨X.K,X.mg⟩
def kn{t t':TE}(h:PE X e t)(w:∀b H Q,t' b H Q->t b H Q):PE X e t':=λa s b H Q I q=>h a s b H Q I (w _ _ _ q)
def OD{t t':TT}(h:PT X e t)(w:∀b H Q,t' b H Q->t b H Q):PT X e t':=λa s b H Q I q=>h a s b H Q I (w _ _ _ q)
def Qd{t t':TT}(h:PW X e t)(w:∀b H Q,t' b H Q->t b H Q):PW X e t':=λc a s b H Q I q=>h c a s b H Q I (w _ _ _ q)
def Ql{t t':TA}(h:PA X d t)(w:∀b H Q,t' b H Q->t b H Q):PA X d t':=λc a s b H Q I q=>h c a s b H Q I (w _ _ _ q)
def EH{t t':TS}(h:PS X e t)(w:∀D b H,t' D b H->t D b H):PS X e t':=λa s b H D I q=>h a s b H D I (w _ _ _ q)
def M_{t t':TS}(h:uC X e t)(w:∀D b H,t' D b H->t D b H):uC X e t':=λa s b H D I q=>h a s b H D I (w _ _ _ q)
noncomputable def ar(i:Nat):bH:=λa S=>match a[i]? with
 |some (some d)=>some (d,S)
 |_=>none
def Gj(h:ar i b S=some (d,a)):b[i]?=some (some d)/\a=S:=by
 unfold ar at h
 split at h
 ·cases h;exact⟨by assumption,rfl⟩
 ·cases h
def Nj(h:PE X e (LZ i)):PE X e (tD (md X)<|ar i):=kn h λl H Q f=>by
 obtain⟨g,k,S,d,j,ok,e,q⟩:=f
 obtain⟨c,rfl⟩:=Gj e
 obtain⟨v,a,b⟩:=ok.en.get i d c
 exact⟨v,a,q g v H cH.refl ok.st b⟩
noncomputable def cF(d:D):bH:=λ_ S=>some (d,S)
def kR(h:PE X e (tC v))(r:∀ρ H,Rel (md X) ρ H d v):PE X e (tD (md X)<|cF d):=kn h λg H Q a=>by
 obtain⟨ρ,c,S,f,b,ok,e,q⟩:=a
 cases e
 exact q ρ v H cH.refl ok.st<|r _ _
def mf{i:Int}{j pos}:PE X (.Constant (.int i) j pos) (tD (md X)<|cF<|.int i):=kR Ln λ_ _=>.int i
def Q_{b:Bool}{j pos}:PE X (.Constant (.bool b) j pos) (tD (md X)<|cF<|.bl b):=kR NH λ_ _=>.bl b
def Qx{j pos}:PE X (.Constant .none j pos) (tD (md X)<|cF .non):=kR ME λ_ _=>.non
def MO{x:Str}{j pos}:PE X (.Constant (.str x) j pos) (tD (md X)<|cF<|.str x):=kR LB λ_ _=>.str x
def bP(f:ic):bH:=λb S=>(f b S).bind λ(c,a)=>some (.ref a.length,a++ [.lst c])
def I0(h:PE X e (tL (md X) f)):PE X e (tD (md X)<|bP f):=kn h λA H Q n=>by
 obtain⟨u,k,S,d,z,ok,e,q⟩:=n
 unfold bP at e
 cases i:f k S with
 |none=>rw[i] at e;cases e
 | some p=>
   obtain⟨w,s⟩:=p
   rw[i] at e
   obtain⟨rfl,rfl⟩:=cD e
   refine⟨u,k,S,w,s,ok,i,λg a v o x l r t m y=> ?_⟩
   have j:=y.pre (List.prefix_append g [a])
   refine q (g++ [a]) (.ref a) o ⟨x.pre.trans<|List.prefix_append _ _,λb c=> ?_,x.keep,x.grow⟩ (l.box t ⟨v,m,j⟩)<|.ref ?_
   · rcases mQa.mp c with c|c
     · exact x.new b c
     · rw[Qfq] at c;subst c;exact .inr r
   · rw[←l.len,QQq (Qmq _)]
     simp
noncomputable def av:ic:=λ_ S=>some ([],S)
noncomputable def aq(f:bH)(g:ic):ic:=λa S=>(f a S).bind λ(d,c)=>(g a c).bind λ(e,b)=>some (d::e,b)
def au{o:Option α}(h:o.bind f=some b):∃a,o=some a/\f a=some b:=by
 cases o with
 |none=>cases h
 |some a=>exact⟨a,rfl,h⟩
def i_:PA X [] (AO (md X) av):=Ql ij λg H Q a=>by
 obtain⟨b,f,S,d,c,ok,e,q⟩:=a
 cases e
 exact q b [] H cH.refl ok.st .nil
def cT(n:PE X e (tD (md X) f))(y:PA X a (AO (md X) g))(hs:starEach (e::a) X.env=(false,eval e X.env)::starEach a X.env:=by rfl):PA X (e::a) (AO (md X)<|aq f g):=
 Ql (eO n y hs) λC H Q o=>by
  obtain⟨w,j,S,d,B,ok,e,q⟩:=o
  obtain⟨⟨x,k⟩,u,e⟩:=au e
  obtain⟨⟨s,t⟩,r,e⟩:=au e
  obtain⟨rfl,rfl⟩:=cD e
  refine⟨w,j,S,x,k,ok,u,λc v H1 l h p=>⟨c,j,k,s,t,ok.to l h,r,λi z H2 m b A=> ?_⟩⟩
  exact q i (v::z) H2 (l.trans m) b<|.cons (p.ext m) A
def bg(f:ic):bH:=λc S=>(f c S).bind λ(a,b)=>if a.length<=sizeLine then some (.tup a,b) else none
def Oe{j:List Expr}{f:ic}{k pos}(h:PA X j (AO (md X) f)):PE X (.Tuple j k pos) (tD (md X)<|bg f):=kn (L5 h) λv H Q m=>by
 obtain⟨r,l,S,d,u,ok,e,q⟩:=m
 obtain⟨⟨s,o⟩,n,e⟩:=au e
 dsimp only at e
 split at e
 ·rename_i c
  obtain⟨rfl,rfl⟩:=cD e
  refine⟨r,l,S,s,o,ok,n,λg w H1 t b i=>⟨i.length▸c,λp a=> ?_⟩⟩
  exact q g (.ref p) _ (t.trans<|cH.laid a) (b.lay a)<|.tup cn (i.ext<|cH.laid a)
 ·cases e
def bB(f:ic):ic:=λc S=>(f c S).bind λ(a,b)=>if a.length<=sizeLine then some (a,b) else none
def eD(x:cH ρ H a c)(st:gC M a S c)(b:c p=none):p∉a:=λm=>by
 obtain⟨k,d⟩:=List.getElem?_of_mem m
 have l:k<S.length:=st.len▸(gQs.mp d).1
 have:=st.obj k p _ d (gQe l)
 cases e:S[k] with
 |lst g=>rw[e] at this;obtain⟨f,h,_⟩:=this;rw[b] at h;cases h
 |frz g=>rw[e] at this;obtain⟨f,o,h,_⟩:=this;rw[b] at h;cases h
 |dct g=>rw[e] at this;obtain⟨f,h,_⟩:=this;rw[b] at h;cases h
def IB{k:List Expr}{f:ic}{pos}(h:PA X k (AO (md X) f)):PE X (.List k pos) (tL (md X)<|bB f):=kn (L6 h) λv H Q m=>by
 obtain⟨r,l,S,d,u,ok,e,q⟩:=m
 obtain⟨⟨t,o⟩,n,e⟩:=au e
 dsimp only at e
 split at e
 ·rename_i c
  obtain⟨rfl,rfl⟩:=cD e
  refine⟨r,l,S,t,o,ok,n,λi s H1 g b j=>⟨j.length▸c,λp a=> ?_⟩⟩
  exact q i p s _ (g.trans<|cH.laid a) (b.lay a) (g.grow p a) (eD g b a) cn<|j.ext<|cH.laid a
 ·cases e
end
section
variable{X:Cx}{a b c e:Expr}{pos:Pos}
def Hd:lR X (binaryOp .Add) (λx y H Q=>∃a b ys,x=.ref a/\y=.ref b/\jq X.K H a []/\jq X.K H b ys/\Q (.ref b) H):=by
 intro t s S H x y v u Q I C N h
 obtain⟨a,b,ys,rfl,rfl,ha,m,q⟩:=h
 cases C
 cases N
 obtain⟨J,B,A,_⟩:=I.tuple ha
 obtain⟨i,R,m,_⟩:=I.tuple m
 cases B
 obtain⟨⟨L,M,w,P⟩,o,z,n,r⟩:=id A
 obtain⟨⟨p,k,l,j⟩,d,f,G,g⟩:=id m
 simp only at z r f g
 subst z r f g
 exact concat_meets ⟨_,o,rfl⟩ ⟨_,d,rfl⟩ noFill_tuple_add seq_tuple_add PySem.F.slot_tuple_add PySem.F.entry_tuple_add (PySem.F.args_tuple_add_2 _ _)
   (tuple_addW0 a b _ i.toArray n G M k P j (by simp)) ⟨o,d,.ref b,H,I,rfl,q⟩
abbrev xp:=aE->D->D->Option D
def nY(M:Md)(r:R2)(o:xp):Prop:=∀{f:List Addr} {S:aE} {H:Hp} {x y d:D} {u v:V} {Q:VK},gC M f S H->Rel M f H x u->Rel M f H y v->o S x y=some d->(∀w g,cH f H f g->gC M f S g->Rel M f g d w->Q w g)->r u v H Q
noncomputable def aQ(o:xp)(f g:bH):bH:=λi S=>(f i S).bind λ(x,j)=>(g i j).bind λ(y,h)=>(o h x y).bind λd=>some (d,h)
def tK(u:nY (md X) r o)(h:PE X e (JB r (tD (md X) f)<|tD (md X) g)):PE X e (tD (md X)<|aQ o f g):=kn h λR H Q A=>by
 obtain⟨J,n,S,d,N,ok,e,q⟩:=A
 obtain⟨⟨x,p⟩,I,e⟩:=au e
 obtain⟨⟨y,G⟩,F,e⟩:=au e
 obtain⟨P,B,e⟩:=au e
 obtain⟨rfl,rfl⟩:=cD e
 refine⟨J,n,S,x,p,ok,I,λk v H1 s l C=>⟨k,n,p,y,G,ok.to s l,F,λm w H2 t j L=> ?_⟩⟩
 exact u j (C.ext t) L B λz H3 K i M=>q m z H3 ((s.trans t).trans K) i M
def cz:xp:=λ_ x y=>match x,y with
 |.int i,.int j=>some (.int (i+j))
 |.str i,.str j=>if i.length+j.length<=sizeLine then some (.str (i++j)) else none
 |.tup i,.tup j=>if i.length+j.length<=sizeLine then some (.tup (i++j)) else none
 |_,_=>none
abbrev Oh(K:PySem.W.Frag):R2:=λx y H Q=>(∃i j,x=.int i/\y=.int j/\Q (.int (i+j)) H)\/(∃i j,x=.str i/\y=.str j/\i.length+j.length<=sizeLine/\Q (.str (i++j)) H)∨
 (∃a b d,x=.ref a/\y=.ref b/\jq K H a []/\jq K H b d/\Q (.ref b) H)\/K2 K x y H Q
def JK:lR X (binaryOp .Add) (Oh X.K):=Ml.or (Dx.or<|Hd.or J3)
def L1:nY M (Oh M.K) cz:=by
 intro w S H x y d u v Q f o n e q
 cases o with
 |int i=>cases n <;>simp only[cz,reduceCtorEq] at e;cases e;exact .inl ⟨_,_,rfl,rfl,q _ _ cH.refl f<|.int _⟩
 | str i=>
   cases n <;>simp only[cz,reduceCtorEq] at e
   split at e <;>cases e
   exact .inr (.inl ⟨_,_,rfl,rfl,by assumption,q _ _ cH.refl f<|.str _⟩)
 | tup l h=>
   cases n with
   | tup m j=>
     simp only[cz] at e
     split at e <;>cases e
     rename_i t
     have r:=h.length
     have s:=j.length
     cases h with
     |nil=>exact .inr (.inr (.inl ⟨_,_,_,rfl,rfl,jq.of l,jq.of m,q _ _ cH.refl f<|.tup m j⟩))
     | cons h g=>
       refine .inr (.inr (.inr ⟨_,_,_,_,rfl,rfl,jq.of l,jq.of m,by simp,by rw[←r,←s];exact t,λz=> ?_,λz p k=> ?_⟩))
       · subst z
         cases j
         rw[List.append_nil] at q
         exact q _ _ cH.refl f<|.tup l (.cons h g)
       · exact q _ _ (cH.laid k) (f.lay k)<|.tup cn ((bc.append (.cons h g) j).ext (cH.laid k))
   |_=>simp only[cz,reduceCtorEq] at e
 |_=>simp only[cz,reduceCtorEq] at e
def QH(d:PE X a (tD (md X) f))(h:PE X b (tD (md X) g)):PE X (.BinOp a .Add b pos) (tD (md X)<|aQ cz f g):=tK L1 (tO JK d h)
def intD(C:Int->Int->Prop)[∀i j,Decidable (C i j)](k:Int->Int->D):xp:=λ_ x y=>match x,y with
 |.int i,.int j=>if C i j then some (k i j) else none
 |_,_=>none
def yV{C:Int->Int->Prop}[∀i j,Decidable (C i j)]{k:Int->Int->D}{g:Int->Int->V}(h:∀i j ρ H,Rel M ρ H (k i j)<|g i j):nY M (rI C g) (intD C k):=by
 intro ρ S H x y d u v Q l f m e q
 cases f <;>cases m <;>simp only[intD,reduceCtorEq] at e
 split at e <;>cases e
 exact⟨_,_,rfl,rfl,by assumption,q _ _ cH.refl l<|h _ _ _ _⟩
def qh{k:Int->Int->D}{g:Int->Int->V}(h:∀i j ρ H,Rel M ρ H (k i j)<|g i j):nY M (Gn g) (intD (λ_ _=>True) k):=by
 intro ρ S H x y d u v Q l f m e q
 cases f <;>cases m <;>simp only[intD,reduceCtorEq] at e
 rw[Qhq trivial] at e
 cases e
 exact⟨_,_,rfl,rfl,q _ _ cH.refl l<|h _ _ _ _⟩
instance{i j:Int}:Decidable (G9 i j):=by unfold G9;infer_instance
instance{i j:Int}:Decidable (GI i j):=by unfold GI;infer_instance
open Classical in
noncomputable instance{i j:Int}:Decidable (IntMulOk i j):=Classical.propDecidable _
abbrev jE:xp:=intD (λ_ _=>True) λi j=>.int (i-j)
noncomputable abbrev n0:xp:=intD IntMulOk λi j=>.int (i*j)
abbrev uh:xp:=intD (λ_ j=>0<j) λi j=>.int (i%j)
abbrev AY:xp:=intD G9 λi j=>.int (i/j)
abbrev zt:xp:=intD GI λi j=>.int (i^j.toNat)
def QS(d:PE X a (tD (md X) f))(h:PE X b (tD (md X) g)):PE X (.BinOp a .Sub b pos) (tD (md X)<|aQ jE f g):=tK (qh λi j _ _=>.int _) (tO Lm d h)
def Qp(d:PE X a (tD (md X) f))(h:PE X b (tD (md X) g)):PE X (.BinOp a .Mult b pos) (tD (md X)<|aQ n0 f g):=tK (yV λi j _ _=>.int _) (tO JY d h)
def Qq(d:PE X a (tD (md X) f))(h:PE X b (tD (md X) g)):PE X (.BinOp a .Mod b pos) (tD (md X)<|aQ uh f g):=tK (yV λi j _ _=>.int _) (tO Mp d h)
def P4(d:PE X a (tD (md X) f))(h:PE X b (tD (md X) g)):PE X (.BinOp a .FloorDiv b pos) (tD (md X)<|aQ AY f g):=tK (yV λi j _ _=>.int _) (tO J9 d h)
def Qo(d:PE X a (tD (md X) f))(h:PE X b (tD (md X) g)):PE X (.BinOp a .Pow b pos) (tD (md X)<|aQ zt f g):=tK (yV λi j _ _=>.int _) (tO LL d h)
def h_(f:bH):bH:=λh S=>(f h S).bind λ(d,g)=>match d with
 |.int i=>some (.int (-i),g)
 |_=>none
def QQ(h:PE X a (tD (md X) f)):PE X (.UnaryOp .USub a pos) (tD (md X)<|h_ f):=kn (Ny LC h) λs H Q j=>by
 obtain⟨n,i,S,d,r,ok,e,q⟩:=j
 obtain⟨⟨x,m⟩,l,e⟩:=au e
 dsimp only at e
 split at e
 ·obtain⟨rfl,rfl⟩:=cD e
  refine⟨n,i,S,_,m,ok,l,λp v H1 o g k=> ?_⟩
  cases k
  exact⟨_,rfl,q _ _ _ o g<|.int _⟩
 ·cases e
def xw:D->Option V
 |.non=>some .non
 |.bl b=>some (.bl b)
 |.int i=>some (.int i)
 |.str x=>some (.str x)
 |_=>none
def mJ(r:Rel M ρ H d u)(e:xw d=some v):u=v:=by
 cases r <;>simp[xw] at e <;>exact e
def du(d:Bool):xp:=λ_ x y=>match xw x,xw y with
 |some u,some v=>if Du u v=true then some (.bl (if d then !decide (u=v) else decide (u=v))) else none
 |_,_=>none
def BZ(e:du f S x y=some d):∃u v,xw x=some u/\xw y=some v/\Du u v=true/\d=.bl (if f then !decide (u=v) else decide (u=v)):=by
 unfold du at e
 split at e
 ·split at e <;>cases e
  exact⟨_,_,by assumption,by assumption,by assumption,rfl⟩
 ·cases e
def MU:nY M Qt (du false):=by
 intro l S H x y d u v Q h f k e q
 obtain⟨n,m,g,i,j,rfl⟩:=BZ e
 cases mJ f g
 cases mJ k i
 exact⟨j,q _ _ cH.refl h<|.bl _⟩
def QA:nY M Qm (du true):=by
 intro l S H x y d u v Q h f k e q
 obtain⟨n,m,g,i,j,rfl⟩:=BZ e
 cases mJ f g
 cases mJ k i
 exact⟨j,q _ _ cH.refl h<|.bl _⟩
abbrev CC:xp:=intD (λ_ _=>True) λi j=>.bl (decide (i<j))
abbrev OJ:xp:=intD (λ_ _=>True) λi j=>.bl (decide (i<=j))
abbrev Jc:xp:=intD (λ_ _=>True) λi j=>.bl (decide (j<i))
abbrev MX:xp:=intD (λ_ _=>True) λi j=>.bl (decide (j<=i))
def QJ:nY M (Gn λi j=>.bl (decide (i<j))) CC:=qh λi j _ _=>.bl _
def P_:nY M (Gn λi j=>.bl (decide (i<=j))) OJ:=qh λi j _ _=>.bl _
def Qs:nY M (Gn λi j=>.bl (decide (j<i))) Jc:=qh λi j _ _=>.bl _
def QD:nY M (Gn λi j=>.bl (decide (j<=i))) MX:=qh λi j _ _=>.bl _
def isNone:D->Bool
 |.non=>true
 |_=>false
def Be(d:Bool):xp:=λ_ x y=>match y with
 |.non=>some (.bl (if d then !isNone x else isNone x))
 |_=>none
def xK(r:Rel M ρ H d u):decide (u=V.non)=isNone d:=by
 cases r <;>simp[isNone]
def Po:nY M (λx y H Q=>y=.non/\Q (.bl (decide (x=.non))) H) (Be false):=by
 intro i S H x y d u v Q g h f e q
 cases f <;>simp only[Be,reduceCtorEq] at e
 cases e
 rw[xK h]
 exact⟨rfl,q _ _ cH.refl g<|.bl _⟩
def OG:nY M (λx y H Q=>y=.non/\Q (.bl (!decide (x=.non))) H) (Be true):=by
 intro i S H x y d u v Q g h f e q
 cases f <;>simp only[Be,reduceCtorEq] at e
 cases e
 rw[xK h]
 exact⟨rfl,q _ _ cH.refl g<|.bl _⟩
def QU(i:lR X (compareOp d) r)(j:nY (md X) r o)(k:PE X a (tD (md X) f))(l:PE X b (tD (md X) g))(h:behindInMarks d b=false):PE X (.Compare a [d] [b] pos) (tD (md X)<|aQ o f g):=tK j (EX i k l h)
noncomputable def aG(f:bH):jL:=λh S=>(f h S).bind λ(d,g)=>match d with
 |.bl k=>some (k,g)
 |_=>none
def vk(e:aG f h S=some (k,g)):f h S=some (.bl k,g):=by
 obtain⟨⟨d,j⟩,i,e⟩:=au e
 dsimp only at e
 split at e
 ·cases e;exact i
 ·cases e
def N2(u:nY (md X) r o)(h:PT X e (GF<|JB r (tD (md X) f)<|tD (md X) g)):PT X e (tB (md X)<|aG<|aQ o f g):=OD h λR H Q z=>by
 obtain⟨I,n,S,d,M,ok,e,q⟩:=z
 have e:=vk e
 obtain⟨⟨x,p⟩,G,e⟩:=au e
 obtain⟨⟨y,F⟩,C,e⟩:=au e
 obtain⟨P,A,e⟩:=au e
 obtain⟨rfl,rfl⟩:=cD e
 refine⟨I,n,S,x,p,ok,G,λk v H1 s l B=>⟨k,n,p,y,F,ok.to s l,C,λm w H2 t j K=> ?_⟩⟩
 exact u j (B.ext t) K A λN H3 J i L=>by cases L;exact⟨_,rfl,q m H3 ((s.trans t).trans J) i⟩
def NP(i:lR X (compareOp d) r)(j:nY (md X) r o)(k:PE X a (tD (md X) f))(l:PE X b (tD (md X) g))(h:behindInMarks d b=false):PT X (.Compare a [d] [b] pos) (tB (md X)<|aG<|aQ o f g):=N2 j (uK i k l h)
def DE(S:aE):D->Option Bool
 |.non=>some false
 |.bl b=>some b
 |.int i=>some (i !=0)
 |.str y=>if y.length<=sizeLine then some ((y.length:Int) !=0) else none
 |.tup d=>some (!d.isEmpty)
 | .ref k=>match S[k]? with
   |some (.lst d)=>some (!d.isEmpty)
   |some (.dct d)=>some (!d.isEmpty)
   |_=>none
 |.fn _=>none
def bc.isEmpty(h:bc M ρ H ds vs):ds.isEmpty=vs.isEmpty:=by cases h <;>rfl
theorem cI.isEmpty(h:cI M ρ H ds vs):ds.isEmpty=vs.isEmpty:=by
 cases ds with
 |nil=>cases h;rfl
 |cons p r=>obtain⟨v,t,e,_⟩:=h;subst e;rfl
def Km(st:gC M ρ S H)(r:Rel M ρ H d u)(e:DE S d=some k):LJ M.K u H k:=by
 cases r with
 |non=>cases e;rfl
 |bl=>cases e;rfl
 |int=>cases e;rfl
 |str=>simp only[DE] at e;split at e <;>cases e;exact⟨by assumption,rfl⟩
 |tup h j=>cases e;exact .inr (.inl ⟨_,jq.of h,by rw[j.isEmpty]⟩)
 |fn=>cases e
 | ref h=>
   simp only[DE] at e
   split at e
   · cases e
     obtain⟨f,g,i⟩:=st.obj _ _ _ h (by assumption)
     exact .inl ⟨f,je.of g,by rw[i.isEmpty]⟩
   · cases e
     obtain⟨f,g,i⟩:=st.obj _ _ _ h (by assumption)
     exact .inr (.inr ⟨f,g,by rw[i.isEmpty]⟩)
   · cases e
def ke(f:bH):jL:=λh S=>(f h S).bind λ(d,g)=>(DE g d).bind λk=>some (k,g)
def QL(h:PE X a (tD (md X) f))(he:∀d,isTrue a X.env d=(do let v←d;standAt a.pos;holding [v] (truthy v)):=by intro _;rfl):PT X a (tB (md X)<|ke f):=OD (GD h he) λw H Q j=>by
 obtain⟨r,i,S,k,u,ok,e,q⟩:=j
 obtain⟨⟨x,p⟩,n,e⟩:=au e
 obtain⟨o,m,e⟩:=au e
 obtain⟨rfl,rfl⟩:=cD e
 exact⟨r,i,S,x,p,ok,n,λs v H1 t g l=>⟨o,Km g l m,q _ _ t g⟩⟩
def xg(f:jL):jL:=λg S=>(f g S).bind λ(k,d)=>some (!k,d)
def Qi(g:PT X a (tB (md X) f)):PT X (.UnaryOp .Not a pos) (tB (md X)<|xg f):=OD (Li g) λs H Q i=>by
 obtain⟨m,h,S,k,r,ok,e,q⟩:=i
 obtain⟨⟨n,l⟩,j,e⟩:=au e
 obtain⟨rfl,rfl⟩:=cD e
 exact⟨m,h,S,n,l,ok,j,λp H1 o d=>q _ _ o d⟩
def ip(f g:jL):jL:=λh S=>(f h S).bind λ(k,d)=>if k=true then g h d else some (false,d)
def Lz(f g:jL):jL:=λh S=>(f h S).bind λ(k,d)=>if k=true then some (true,d) else g h d
def Pa(d:PT X a (tB (md X) f)):PW X (.BoolOp .And [a] pos) (tB (md X) f):=Kw d
def QM(d:PT X a (tB (md X) f)):PW X (.BoolOp .Or [a] pos) (tB (md X) f):=Mq d
def w_and(p:PT X a (tB (md X) f))(w:PW X (.BoolOp .And (b::d) pos) (tB (md X) g)):PW X (.BoolOp .And (a::b::d) pos) (tB (md X)<|ip f g):=Qd (LR p w) λy H Q r=>by
 obtain⟨t,m,S,k,o,ok,e,q⟩:=r
 obtain⟨⟨u,n⟩,s,e⟩:=au e
 refine⟨t,m,S,u,n,ok,s,λj H1 l h=> ?_⟩
 dsimp only at e
 split at e
 ·rename_i c
  rw[Qhq c]
  exact⟨j,m,n,k,o,ok.to l h,e,λv H2 x i=>q _ _ (l.trans x) i⟩
 ·rename_i c
  rw[Quq c]
  obtain⟨rfl,rfl⟩:=cD e
  exact q _ _ l h
def w_or(p:PT X a (tB (md X) f))(w:PW X (.BoolOp .Or (b::d) pos) (tB (md X) g)):PW X (.BoolOp .Or (a::b::d) pos) (tB (md X)<|Lz f g):=Qd (Nh p w) λy H Q r=>by
 obtain⟨t,m,S,k,o,ok,e,q⟩:=r
 obtain⟨⟨u,n⟩,s,e⟩:=au e
 refine⟨t,m,S,u,n,ok,s,λj H1 l h=> ?_⟩
 dsimp only at e
 split at e
 ·rename_i c
  rw[Qhq c]
  obtain⟨rfl,rfl⟩:=cD e
  exact q _ _ l h
 ·rename_i c
  rw[Quq c]
  exact⟨j,m,n,k,o,ok.to l h,e,λv H2 x i=>q _ _ (l.trans x) i⟩
def rO(f g:bH):bH:=λi S=>(f i S).bind λ(d,h)=>match d with
 |.bl true=>g i h
 |.bl false=>some (.bl false,h)
 |_=>none
def Kk(f:bH):bH:=λh S=>(f h S).bind λ(d,g)=>match d with
 |.bl k=>some (.bl (!k),g)
 |_=>none
def Qf{op}{f:bH}(h:PE X a (tD (md X) f)):PE X (.BoolOp op [a] pos) (tD (md X) f):=LQ h
def QB(r:PE X a (tD (md X) f))(A:PE X (.BoolOp .And (b::h) pos) (tD (md X) g)):PE X (.BoolOp .And (a::b::h) pos) (tD (md X)<|rO f g):=kn (La r A) λC H Q s=>by
 obtain⟨u,m,S,d,p,ok,e,q⟩:=s
 obtain⟨⟨x,o⟩,t,e⟩:=au e
 refine⟨u,m,S,x,o,ok,t,λk v H1 l i n=> ?_⟩
 dsimp only at e
 split at e
 ·cases n
  refine⟨_,rfl,?_⟩
  rw[Qhq rfl]
  exact⟨k,m,o,d,p,ok.to l i,e,λz w H2 B j y=>q _ _ _ (l.trans B) j y⟩
 ·cases n
  refine⟨_,rfl,?_⟩
  rw[Quq Qtq]
  obtain⟨rfl,rfl⟩:=cD e
  exact q _ _ _ l i<|.bl _
 ·cases e
def Qv(h:PE X a (tD (md X) f)):PE X (.UnaryOp .Not a pos) (tD (md X)<|Kk f):=kn (Mt h) λs H Q j=>by
 obtain⟨n,i,S,d,r,ok,e,q⟩:=j
 obtain⟨⟨x,m⟩,l,e⟩:=au e
 refine⟨n,i,S,x,m,ok,l,λp v H1 o g k=> ?_⟩
 dsimp only at e
 split at e
 ·cases k
  obtain⟨rfl,rfl⟩:=cD e
  exact⟨_,rfl,q _ _ _ o g<|.bl _⟩
 ·cases e
def w_(c:jL)(f g:bH):bH:=λd S=>(c d S).bind λ(k,h)=>if k=true then f d h else g d h
def QP(z:PT X c (tB (md X) h))(t:PE X a (tD (md X) f))(A:PE X b (tD (md X) g)):PE X (.IfExp c a b pos) (tD (md X)<|w_ h f g):=kn (Ht z t A) λB H Q u=>by
 obtain⟨x,m,S,d,s,ok,e,q⟩:=u
 obtain⟨⟨y,n⟩,v,e⟩:=au e
 refine⟨x,m,S,y,n,ok,v,λj H1 l k=> ?_⟩
 dsimp only at e
 split at e
 ·rename_i c
  rw[Qhq c]
  exact⟨j,m,n,d,s,ok.to l k,e,λp w H2 r i o=>q _ _ _ (l.trans r) i o⟩
 ·rename_i c
  rw[Quq c]
  exact⟨j,m,n,d,s,ok.to l k,e,λp w H2 r i o=>q _ _ _ (l.trans r) i o⟩
def fK:xp:=λS x y=>match x,y with
 |.tup xs,.int i=>kj xs i
 |.str z,.int i=>if z.length<=sizeLine then(kj z.cps.toList i).map λc=>.str ⟨#[c]⟩ else none
 | .ref k,.int i=>match S[k]? with
   |some (.lst xs)=>kj xs i
   |some (.frz xs)=>kj xs i
   |_=>none
 |_,_=>none
def JA{ys:List d}(h:kj xs i=some x)(l:xs.length=ys.length):∃j:Nat,xs[j]?=some x/\∀y,ys[j]?=some y->kj ys i=some y:=by
 unfold kj at h
 obtain⟨j,e,h⟩:=au h
 exact⟨j,h,λy f=>by unfold kj;rw[←l,e];exact f⟩
def bc.atI(h:bc M ρ H ds vs)(e:L2.kj ds i=some d):∃v,L2.kj vs i=some v/\Rel M ρ H d v:=by
 obtain⟨j,f,g⟩:=JA e h.length
 obtain⟨v,k,l⟩:=h.get f
 exact⟨v,g v k,l⟩
def N4:nY M (Qh M.K) fK:=by
 intro r S H x y d u v Q i m p e q
 cases p <;>cases m <;>simp only[fK,reduceCtorEq] at e
 ·split at e
  ·obtain⟨c,f,g⟩:=oQm.mp e
   subst g
   exact .inr (.inr ⟨_,_,c,rfl,rfl,by assumption,f,q _ _ cH.refl i<|.str _⟩)
  ·cases e
 ·rename_i h l
  obtain⟨v,f,g⟩:=l.atI e
  exact .inr (.inl ⟨_,_,_,v,rfl,rfl,jq.of h,f,q _ _ cH.refl i g⟩)
 ·rename_i h
  split at e
  ·obtain⟨n,j,k⟩:=i.obj _ _ _ h (by assumption)
   obtain⟨v,f,g⟩:=k.atI e
   exact .inl ⟨_,_,_,v,rfl,rfl,je.of j,f,q _ _ cH.refl i g⟩
  ·obtain⟨n,o,j,k⟩:=i.obj _ _ _ h (by assumption)
   obtain⟨v,f,g⟩:=k.atI e
   exact .inl ⟨_,_,_,v,rfl,rfl,.inl (.inr ⟨o,j⟩),f,q _ _ cH.refl i g⟩
  ·cases e
def qe(d:PE X a (tD (md X) f))(h:PE X b (tD (md X) g))(hs:D8 b:=by intro _ _;rfl):PE X (.Subscript a b pos) (tD (md X)<|aQ fK f g):=tK N4 (Of Lf d h hs)
end
inductive Tag where
 |tu|fr|st (k:Nat)|fz (k:Nat)
def DS(M:Md)(ρ:List Addr)(H:Hp)(a:Addr)(vs:List V):Tag->Prop
 |.tu=>jq M.K H a vs
 |.fr=>H a=some (.lst vs)/\a∉ρ
 |.st k=>ρ[k]?=some a/\H a=some (.lst vs)
 |.fz k=>ρ[k]?=some a/\∃o,H a=some (.frz o (.lst vs))
abbrev fu:=cB->aE->Option ((List D×Tag)×aE)
def tQ(M:Md)(f:fu):TE:=λj H Q=>∃i g S h t d,Ok M i g S j H/\f g S=some ((h,t),d)∧
 ∀b a e c,cH i H b c->gC M b d c->DS M b c a e t->bc M b c h e->Q (.ref a) c
def DS.sq(h:DS M ρ H a vs t):je M.K H a vs\/jq M.K H a vs:=by
 cases t with
 |tu=>exact .inr h
 |fr=>exact .inl (je.of h.1)
 |st k=>exact .inl (je.of h.2)
 |fz k=>obtain⟨_,o,h⟩:=h;exact .inl (.inl (.inr ⟨o,h⟩))
def Tag.isL:Tag->Bool
 |.tu=>false
 |_=>true
def Tag.isM:Tag->Bool
 |.fr=>true
 |.st _=>true
 |_=>false
def DS.sqL(h:DS M ρ H a vs t)(c:t.isL=true):je M.K H a vs:=by
 cases t with
 |tu=>cases c
 |fr=>exact je.of h.1
 |st k=>exact je.of h.2
 |fz k=>obtain⟨_,o,h⟩:=h;exact .inl (.inr ⟨o,h⟩)
def DS.sqM(h:DS M ρ H a vs t)(c:t.isM=true):H a=some (.lst vs):=by
 cases t with
 |tu=>cases c
 |fr=>exact h.1
 |st k=>exact h.2
 |fz k=>cases c
def DS.sqT(h:DS M ρ H a vs t)(c:t.isL=false):jq M.K H a vs:=by
 cases t with
 |tu=>exact h
 |fr=>cases c
 |st k=>cases c
 |fz k=>cases c
def Tag.stays(S:aE)(ds:List D):Tag->Prop
 |.st k=>S[k]?=some (.lst ds)
 |.fz k=>S[k]?=some (.frz ds)
 |_=>True
def jq.ext{K:PySem.W.Frag}{ρ b:List Addr}{H c:Hp}{a:Addr}{vs:List V}(e:cH ρ H b c)(h:jq K H a vs):jq K c a vs:=by
 rcases h with(h|⟨o,h⟩)|h
 ·exact .inl (.inl (e.keep _ _ h<|.inr trivial))
 ·exact .inl (.inr ⟨o,e.keep _ _ h<|.inr trivial⟩)
 ·exact .inr h
def DS.to(h:DS M ρ H a vs t)(r:bc M ρ H ds vs)(e:cH ρ H d i)(st:gC M d S i)(c:t.stays S ds):∃b,DS M d i a b t/\bc M d i ds b:=by
 cases t with
 |tu=>exact⟨vs,jq.ext e h,r.ext e⟩
 |fr=>exact⟨vs,⟨e.keep _ _ h.1<|.inl h.2,λm=>(e.new a m).elim h.2 λz=>by have f:=h.1;rw[z] at f;cases f⟩,r.ext e⟩
 | st k=>
   have g:=di e.pre h.1
   obtain⟨b,f,j⟩:=st.obj k a _ g c
   exact⟨b,⟨g,f⟩,j⟩
 | fz k=>
   have g:=di e.pre h.1
   obtain⟨b,o,f,j⟩:=st.obj k a _ g c
   exact⟨b,⟨g,o,f⟩,j⟩
section
variable{X:Cx}{a b c e:Expr}{pos:Pos}
def ib(f:ic):fu:=λg S=>(f g S).bind λ(h,d)=>some ((h,.fr),d)
def Qw(h:PE X e (tL (md X) f)):PE X e (tQ (md X)<|ib f):=kn h λA H Q k=>by
 obtain⟨r,j,S,z,t,u,ok,e,q⟩:=k
 obtain⟨⟨d,o⟩,m,e⟩:=au e
 obtain⟨l,rfl⟩:=cD e
 obtain⟨rfl,rfl⟩:=Prod.mk.inj l
 exact⟨r,j,S,d,o,ok,m,λi a y v x n w p g s=>q _ _ _ _ x n ⟨g,p⟩ s⟩
def wI(S:aE):D->Option (List D×Tag)
 |.tup d=>some (d,.tu)
 | .ref k=>match S[k]? with
   |some (.lst d)=>some (d,.st k)
   |some (.frz d)=>some (d,.fz k)
   |_=>none
 |_=>none
def aR(f:bH):fu:=λh S=>(f h S).bind λ(d,g)=>(wI g d).bind λp=>some (p,g)
def J6(st:gC M ρ S H)(r:Rel M ρ H d v)(e:wI S d=some (ds,t)):∃a vs,v=.ref a/\DS M ρ H a vs t/\bc M ρ H ds vs:=by
 cases r with
 |tup h i=>simp only[wI] at e;cases e;exact⟨_,_,rfl,jq.of h,i⟩
 | ref h=>
   simp only[wI] at e
   split at e
   · rename_i q
     cases e
     obtain⟨vs,f,g⟩:=st.obj _ _ _ h q
     exact⟨_,vs,rfl,⟨h,f⟩,g⟩
   · rename_i q
     cases e
     obtain⟨vs,o,f,g⟩:=st.obj _ _ _ h q
     exact⟨_,vs,rfl,⟨h,o,f⟩,g⟩
   · cases e
 |_=>simp only[wI,reduceCtorEq] at e
def N7(h:PE X e (tD (md X) f)):PE X e (tQ (md X)<|aR f):=kn h λB H Q k=>by
 obtain⟨s,j,S,A,t,u,ok,e,q⟩:=k
 obtain⟨⟨d,p⟩,n,e⟩:=au e
 obtain⟨⟨o,w⟩,m,e⟩:=au e
 obtain⟨l,rfl⟩:=cD e
 obtain⟨rfl,rfl⟩:=Prod.mk.inj l
 refine⟨s,j,S,d,p,ok,n,λi v y x g r=> ?_⟩
 obtain⟨a,z,rfl,h1,h2⟩:=J6 g r m
 exact q _ _ _ _ x g h1 h2
def KF(v:Gl X "len")(k:X.mg "len"=none)(l:PE X a (tQ (md X) f))(hs:starEach [a] X.env= [(false,eval a X.env)]:=by rfl):
  PE X (.Call (.Name "len" p) [a] [] pos) (tD (md X) λg S=>(f g S).bind λ(p,i)=>some (.int p.1.length,i)):=
 kn (kb Ah v k PySem.boot_len (eO l ij hs) (he:=hs)) λA H Q n=>by
  obtain⟨u,g,S,d,y,ok,e,q⟩:=n
  obtain⟨⟨⟨w,t⟩,i⟩,o,e⟩:=au e
  obtain⟨rfl,rfl⟩:=cD e
  refine⟨u,g,S,w,t,i,ok,o,λm a j z x s h r=>⟨a,j,rfl,h.sq,?_⟩⟩
  have:=q _ (.int j.length) _ x s (by rw[←r.length];exact .int _)
  exact this
def gZ(f:fu):bH:=λg S=>(f g S).bind λ(p,d)=>some (.int p.1.length,d)
def tupQ(f:fu):bH:=λg S=>(f g S).bind λ(p,d)=>some (.tup p.1,d)
def JQ(z:Gl X "tuple")(m:X.mg "tuple"=none)(n:PE X a (tQ (md X) f))(hs:starEach [a] X.env= [(false,eval a X.env)]:=by rfl)(ht:∀g S ds t j,f g S=some ((ds,t),j)->t.isL=true):
  PE X (.Call (.Name "tuple" p) [a] [] pos) (tD (md X)<|tupQ f):=
 kn (F1 xc z m (by rfl) (eO n ij hs) (he:=hs)) λB H Q s=>by
  obtain⟨w,g,S,d,j,ok,e,q⟩:=s
  obtain⟨⟨⟨ds,t⟩,v⟩,k,e⟩:=au e
  obtain⟨rfl,rfl⟩:=cD e
  refine⟨w,g,S,ds,t,v,ok,k,λo a y A x u h r=>⟨a,y,rfl,.inl ⟨h.sqL<|ht _ _ _ _ _ k,λl i=> ?_⟩⟩⟩
  exact q _ _ _ (x.trans<|cH.laid i) (u.lay i)<|.tup cn (r.ext<|cH.laid i)
def J0:∀g S ds t d,ib f g S=some ((ds,t),d)->t.isL=true:=λg S ds t d e=>by
 obtain⟨⟨h,j⟩,i,e⟩:=au e
 cases e
 rfl
def cN(f:fu):fu:=λg S=>(f g S).bind λ(p,d)=>if p.2.isL=true then some (p,d) else none
def KW:∀g S ds t d,cN f g S=some ((ds,t),d)->t.isL=true:=λg S ds t d e=>by
 obtain⟨⟨⟨h,k⟩,j⟩,i,e⟩:=au e
 dsimp only at e
 split at e <;>cases e
 assumption
def QY(h:PE X e (tQ (md X) f)):PE X e (tQ (md X)<|cN f):=kn h λr H Q l=>by
 obtain⟨m,i,S,p,t,o,ok,e,q⟩:=l
 obtain⟨⟨⟨d,k⟩,j⟩,g,e⟩:=au e
 dsimp only at e
 split at e
 ·obtain⟨n,rfl⟩:=cD e
  obtain⟨rfl,rfl⟩:=Prod.mk.inj n
  exact⟨m,i,S,d,k,j,ok,g,q⟩
 ·cases e
def HA:List D->Option (List Bool)
 | []=>some []
 |.bl b::r=>(HA r).bind λd=>some (b::d)
 |_::_=>none
theorem DC:∀{ds:List D} {vs:List V} {bs:List Bool},bc M ρ H ds vs->HA ds=some bs->vs=bs.map V.bl
 | [],_,_,h,e=>by cases h;cases e;rfl
 | d::ds,_,_,h,e=>by
   cases d with
   | bl b=>
     simp only[HA] at e
     obtain⟨f,i,e⟩:=au e
     cases e
     cases h with
     | cons h g=>
       cases h
       rw[DC g i]
       rfl
   |_=>cases e
def J4(f:fu):bH:=λg S=>(f g S).bind λ(p,d)=>if p.2.isL=true then(HA p.1).bind λh=>some (.bl (h.all id),d) else none
def KA(f:fu):bH:=λg S=>(f g S).bind λ(p,d)=>if p.2.isL=true then(HA p.1).bind λh=>some (.bl (h.any id),d) else none
def Qy(z:X.calm=true)(w:Gl X "all")(g:X.mg "all"=none)(i:PE X a (tQ (md X) f))(hs:starEach [a] X.env= [(false,eval a X.env)]:=by rfl):
  PE X (.Call (.Name "all" p) [a] [] pos) (tD (md X)<|J4 f):=
 kn (kb (Gd z) w g (by rfl) (eO i ij hs) (he:=hs)) λF H Q l=>by
  obtain⟨u,k,S,d,A,ok,e,q⟩:=l
  obtain⟨⟨⟨y,t⟩,s⟩,n,e⟩:=au e
  dsimp only at e
  split at e
  ·rename_i c
   obtain⟨v,m,e⟩:=au e
   obtain⟨rfl,rfl⟩:=cD e
   refine⟨u,k,S,y,t,s,ok,n,λj a C B x o h r=>⟨a,v,rfl,?_,q _ _ _ x o<|.bl _⟩⟩
   rw[←DC r m]
   exact h.sqL c
  ·cases e
def Qz(z:X.calm=true)(w:Gl X "any")(g:X.mg "any"=none)(i:PE X a (tQ (md X) f))(hs:starEach [a] X.env= [(false,eval a X.env)]:=by rfl):
  PE X (.Call (.Name "any" p) [a] [] pos) (tD (md X)<|KA f):=
 kn (kb (Gu z) w g (by rfl) (eO i ij hs) (he:=hs)) λF H Q l=>by
  obtain⟨u,k,S,d,A,ok,e,q⟩:=l
  obtain⟨⟨⟨y,t⟩,s⟩,n,e⟩:=au e
  dsimp only at e
  split at e
  ·rename_i c
   obtain⟨v,m,e⟩:=au e
   obtain⟨rfl,rfl⟩:=cD e
   refine⟨u,k,S,y,t,s,ok,n,λj a C B x o h r=>⟨a,v,rfl,?_,q _ _ _ x o<|.bl _⟩⟩
   rw[←DC r m]
   exact h.sqL c
  ·cases e
def Ju(S:aE)(T:String):D->Option Bool
 |.non=>some (T=="NoneType")
 |.bl _=>some (T=="bool" ||T=="int")
 |.int _=>some (T=="int")
 |.str _=>some (T=="str")
 |.tup _=>some (T=="tuple")
 | .ref k=>match S[k]? with
   |some (.lst _)=>some (T=="list")
   |some (.frz _)=>some (T=="list")
   |some (.dct _)=>some (T=="dict")
   |_=>none
 |.fn _=>none
def Ox(K:PySem.W.Frag)(T:String):Prop:=(PySem.W.kitOne K (.type "NoneType") (.type T)=some (T=="NoneType"))/\(PySem.W.kitOne K (.type "bool") (.type T)=some (T=="bool" ||T=="int"))/\(PySem.W.kitOne K (.type "int") (.type T)=some (T=="int"))/\(PySem.W.kitOne K (.type "str") (.type T)=some (T=="str"))∧
 (PySem.W.kitOne K (.type "tuple") (.type T)=some (T=="tuple"))/\(PySem.W.kitOne K (.type "list") (.type T)=some (T=="list"))/\(PySem.W.kitOne K (.type "dict") (.type T)=some (T=="dict"))
def pN(T:String)(f:bH):bH:=λh S=>(f h S).bind λ(d,g)=>(Ju g T d).bind λk=>some (.bl k,g)
def QF{T:String}(F:Ox X.K T)(R:Gl X "isinstance")(w:X.mg "isinstance"=none)(y:PE X a (tD (md X) f))(ht:PE X l (tC<|.ty T))(hs:starEach [a,l] X.env= [(false,eval a X.env),(false,eval l X.env)]:=by rfl)(j:starEach [l] X.env= [(false,eval l X.env)]:=by rfl):
  PE X (.Call (.Name "isinstance" p) [a,l] [] pos) (tD (md X)<|pN T f):=
 kn (kb Ie R w boot_isinstance (eO y (eO ht ij j) (by rw[hs,j])) (he:=by rw[hs,j]) (hpl:=by rw[j];rfl)) λσ H Q B=>by
  obtain⟨M,A,S,d,Y,ok,e,q⟩:=B
  obtain⟨⟨U,J⟩,G,e⟩:=au e
  obtain⟨k,i,e⟩:=au e
  obtain⟨rfl,rfl⟩:=cD e
  obtain⟨N,L,P,C,I,u,W⟩:=F
  refine⟨M,A,S,U,J,ok,G,λz v Z x s r=> ?_⟩
  have g:=q _ _ _ x s (.bl _)
  cases r with
  |non=>cases i;exact⟨_,_,_,_,rfl,.non,N,g⟩
  |bl=>cases i;exact⟨_,_,_,_,rfl,.bl _,L,g⟩
  |int=>cases i;exact⟨_,_,_,_,rfl,.int _,P,g⟩
  |str=>cases i;exact⟨_,_,_,_,rfl,.str _,C,g⟩
  |tup h hs=>cases i;exact⟨_,_,_,_,rfl,.tup h,I,g⟩
  |fn=>cases i
  | ref h=>
    simp only[Ju] at i
    split at i
    · rename_i n;cases i;obtain⟨t,m,_⟩:=s.obj _ _ _ h n;exact⟨_,_,_,_,rfl,.lst m,u,g⟩
    · rename_i n;cases i;obtain⟨t,o,m,_⟩:=s.obj _ _ _ h n;exact⟨_,_,_,_,rfl,.frz m,u,g⟩
    · rename_i n;cases i;obtain⟨t,m,_⟩:=s.obj _ _ _ h n;exact⟨_,_,_,_,rfl,.dK m,W,g⟩
    · cases i
abbrev KN:=List D->Option D
def IZ(M:Md)(r:List V->Hp->VK->Prop)(o:KN):Prop:=∀{f:List Addr} {S:aE} {H:Hp} {h:List D} {d:D} {g:List V} {Q:VK},gC M f S H->bc M f H h g->o h=some d->(∀w,Rel M f H d w->Q w H)->r g H Q
def uD(o:KN)(f:ic):bH:=λg S=>(f g S).bind λ(i,h)=>(o i).bind λd=>some (d,h)
def PK(j:IZ (md X) r o)(h:PE X e (OC r<|AO (md X) f)):PE X e (tD (md X)<|uD o f):=kn h λz H Q l=>by
 obtain⟨u,k,S,d,y,ok,e,q⟩:=l
 obtain⟨⟨p,t⟩,s,e⟩:=au e
 obtain⟨B,m,e⟩:=au e
 obtain⟨rfl,rfl⟩:=cD e
 exact⟨u,k,S,p,t,ok,s,λi A H1 v g n=>j g n m λw x=>q i w H1 v g x⟩
def J5:KN
 | [.int i]=>some (.int (if i<0 then -i else i))
 |_=>none
def maxD:KN
 | [.int i,.int j]=>some (.int (if j>i then j else i))
 |_=>none
def minD:KN
 | [.int i,.int j]=>some (.int (if j<i then j else i))
 |_=>none
def intOfD:KN
 | [.int i]=>some (.int i)
 | [.bl k]=>some (.int (if k then 1 else 0))
 |_=>none
def Pu:IZ M (λxs H Q=>∃i,xs= [.int i]/\Q (.int (if i<0 then -i else i)) H) J5:=by
 intro j S H xs d g Q h r e q
 unfold J5 at e
 split at e <;>cases e
 cases r with|cons r f=>cases f;cases r;exact⟨_,rfl,q _<|.int _⟩
def Pg:IZ M (λxs H Q=>∃i j,xs= [.int i,.int j]/\Q (.int (if j>i then j else i)) H) maxD:=by
 intro l S H xs d h Q k r e q
 unfold maxD at e
 split at e <;>cases e
 cases r with|cons r f=>cases f with|cons g f=>cases f;cases r;cases g;exact⟨_,_,rfl,q _<|.int _⟩
def P8:IZ M (λxs H Q=>∃i j,xs= [.int i,.int j]/\Q (.int (if j<i then j else i)) H) minD:=by
 intro l S H xs d h Q k r e q
 unfold minD at e
 split at e <;>cases e
 cases r with|cons r f=>cases f with|cons g f=>cases f;cases r;cases g;exact⟨_,_,rfl,q _<|.int _⟩
def N3:IZ M (λxs H Q=>(∃i,xs= [.int i]/\Q (.int i) H)\/∃k,xs= [.bl k]/\Q (.int (if k then 1 else 0)) H) intOfD:=by
 intro j S H xs d g Q h r e q
 unfold intOfD at e
 split at e <;>cases e
 ·cases r with|cons r f=>cases f;cases r;exact .inl ⟨_,rfl,q _<|.int _⟩
 ·cases r with|cons r f=>cases f;cases r;exact .inr ⟨_,rfl,q _<|.int _⟩
def qT:List D->Option (List V)
 | []=>some []
 |d::r=>(xw d).bind λv=>(qT r).bind λf=>some (v::f)
def qK(e:xw d=some v):ix v=true:=by
 cases d <;>simp[xw] at e <;>subst e <;>rfl
theorem qv:∀{ds:List D} {d vs:List V},bc M ρ H ds d->qT ds=some vs->d=vs/\vs.all ix=true
 |_,_,_,.nil,e=>by cases e;exact⟨rfl,rfl⟩
 | _,_,_,.cons h hs,e=>by
   obtain⟨v,f,e⟩:=au e
   obtain⟨vs,j,e⟩:=au e
   cases e
   obtain⟨g,i⟩:=qv hs j
   rw[mJ h f,g]
   exact⟨rfl,by rw[List.all_cons,qK f,i];rfl⟩
def BM(d:Bool)(f:bH)(g:fu):bH:=λi S=>(f i S).bind λ(x,k)=>(g i k).bind λ(p,j)=>(xw x).bind λv=>(qT p.1).bind λh=>some (.bl (if d then !G0 v h else G0 v h),j)
def Nz(h:PE X e (JB (OE X.K i) (tD (md X) f)<|tQ (md X) g)):PE X e (tD (md X)<|BM i f g):=kn h λU H Q r=>by
 obtain⟨F,m,S,d,P,ok,e,q⟩:=r
 obtain⟨⟨x,o⟩,z,e⟩:=au e
 obtain⟨⟨⟨L,t⟩,y⟩,w,e⟩:=au e
 obtain⟨v,n,e⟩:=au e
 obtain⟨R,G,e⟩:=au e
 obtain⟨rfl,rfl⟩:=cD e
 refine⟨F,m,S,x,o,ok,z,λk u H1 p l s=>⟨k,m,o,L,t,y,ok.to p l,w,λM a I H2 N j A J=> ?_⟩⟩
 cases mJ s n
 obtain⟨B,C⟩:=qv J G
 subst B
 exact⟨a,I,rfl,A.sq,qK n,C,q _ _ _ (p.trans N) j<|.bl _⟩
def DU{t:TE}(l:∀d H Q,tD (md X) f d H Q->t d H Q)(h:PT X e (GF t)):PT X e (tB (md X)<|aG f):=OD h λd H Q ⟨m,j,S,k,g,ok,e,q⟩=>
 l _ _ _ ⟨m,j,S,.bl k,g,ok,vk e,λi v o x n r=>by cases r;exact⟨k,rfl,q _ _ x n⟩⟩
def K3:∀l H Q,tD (md X) (BM h f g) l H Q->JB (OE X.K h) (tD (md X) f) (tQ (md X) g) l H Q:=λl H Q r=>by
 obtain⟨F,m,S,d,P,ok,e,q⟩:=r
 obtain⟨⟨x,o⟩,z,e⟩:=au e
 obtain⟨⟨⟨L,t⟩,y⟩,w,e⟩:=au e
 obtain⟨v,n,e⟩:=au e
 obtain⟨R,G,e⟩:=au e
 obtain⟨rfl,rfl⟩:=cD e
 refine⟨F,m,S,x,o,ok,z,λj u H1 p k s=>⟨j,m,o,L,t,y,ok.to p k,w,λM a I H2 N i A J=> ?_⟩⟩
 cases mJ s n
 obtain⟨B,C⟩:=qv J G
 subst B
 exact⟨a,I,rfl,A.sq,qK n,C,q _ _ _ (p.trans N) i<|.bl _⟩
def Q7(h:PE X a (tD (md X) f))(i:PE X b (tQ (md X) g))(d:behindInMarks .In b=false:=by rfl):PE X (.Compare a [.In] [b] pos) (tD (md X)<|BM false f g):=Nz (EX yp h i d)
def Q8(h:PE X a (tD (md X) f))(i:PE X b (tQ (md X) g))(d:behindInMarks .In b=false:=by rfl):PT X (.Compare a [.In] [b] pos) (tB (md X)<|aG<|BM false f g):=DU K3 (uK yp h i d)
def OW(h:PE X a (tD (md X) f))(i:PE X b (tQ (md X) g))(d:behindInMarks .NotIn b=false:=by rfl):PT X (.Compare a [.NotIn] [b] pos) (tB (md X)<|aG<|BM true f g):=DU K3 (uK zm h i d)
end
inductive Out where
 |nx (Γ:cB) (S:aE)|bk (Γ:cB) (S:aE)|ct (Γ:cB) (S:aE)|rt (d:D) (S:aE)|rl (ds:List D) (S:aE)
abbrev cE:=cB->aE->Option Out
def zH(M:Md)(ρ:List Addr)(H:Hp)(D:Ends):Out->Prop
 |.nx f g=>∀b e c,cH ρ H b c->Ok M b f g e c->D.nx e c
 |.bk f g=>∀b e c,cH ρ H b c->Ok M b f g e c->D.bk e c
 |.ct f g=>∀b e c,cH ρ H b c->Ok M b f g e c->D.ct e c
 |.rt d g=>∀b v c,cH ρ H b c->gC M b g c->Rel M b c d v->D.rt v c
 |.rl i g=>∀b a h c,cH ρ H b c->gC M b g c->H a=none->a∉b->c a=some (.lst h)->bc M b c i h->D.rt (.ref a) c
def zH.to{H H1:Hp}{D:Ends}(h:zH M ρ H D o)(e:cH ρ H d H1):zH M d H1 D o:=by
 cases o with
 |nx=>exact λb c f x ok=>h _ _ _ (e.trans x) ok
 |bk=>exact λb c f x ok=>h _ _ _ (e.trans x) ok
 |ct=>exact λb c f x ok=>h _ _ _ (e.trans x) ok
 |rt=>exact λb v f x g r=>h _ _ _ (e.trans x) g r
 |rl=>exact λb a l f x g j k i r=>h _ _ _ _ (e.trans x) g (e.grow _ j) k i r
def tS(M:Md)(g:cE):TS:=λD c H=>∃b a S o,Ok M b a S c H/\g a S=some o/\zH M b H D o
section
variable{X:Cx}{a b c e:Expr}{pos:Pos}{st:Stmt}{rest body other:List Stmt}
def fG:cE:=λd S=>some (.nx d S)
def On:uC X [] (tS (md X) fG):=M_ Kb λD g H ⟨f,d,S,o,ok,e,q⟩=>by cases e;exact q _ _ _ cH.refl ok
noncomputable def aD(f g:cE):cE:=λh S=>(f h S).bind λo=>match o with
 |.nx d i=>g d i
 |o=>some o
def lu(m:PS X st (tS (md X) f))(p:uC X rest (tS (md X) g)):uC X (st::rest) (tS (md X)<|aD f g):=M_ (HN m p) λD v H l=>by
 obtain⟨s,k,S,o,ok,e,q⟩:=l
 obtain⟨j,n,e⟩:=au e
 refine⟨s,k,S,j,ok,n,?_⟩
 cases j with
 |nx d r=>exact λi t H1 u h=>⟨i,d,r,o,h,e,q.to u⟩
 |bk=>cases e;exact q
 |ct=>cases e;exact q
 |rt=>cases e;exact q
 |rl=>cases e;exact q
def xD(d:PS X st (tS (md X) f)):uC X [st] (tS (md X) f):=Kp d
def never:cE:=λ_ _=>none
def OI:PS X st (tS (md X) never):=EH HV λD g H ⟨f,d,S,o,ok,e,q⟩=>by cases e
def hZ(f:bH):cE:=λd S=>(f d S).bind λ(_,g)=>some (.nx d g)
def Hj(h:PE X e (tD (md X) f))(hs:swapsWith e none pos.line X.env=pure false:=by rfl):PS X (.Expr e pos) (tS (md X)<|hZ f):=EH (JI h hs) λD p H j=>by
 obtain⟨m,i,S,o,ok,e,q⟩:=j
 obtain⟨⟨d,l⟩,k,e⟩:=au e
 cases e
 exact⟨m,i,S,d,l,ok,k,λg v n x st r=>q _ _ _ x<|ok.to x st⟩
noncomputable def cx(f:bH):cE:=λh S=>(f h S).bind λ(d,g)=>some (.rt d g)
def EM(h:PE X e (tD (md X) f)):PS X (.Return (some e) pos) (tS (md X)<|cx f):=EH (GR h) λD m H k=>by
 obtain⟨l,i,S,o,ok,e,q⟩:=k
 obtain⟨⟨d,j⟩,g,e⟩:=au e
 cases e
 exact⟨l,i,S,d,j,ok,g,q⟩
noncomputable def GA(f:ic):cE:=λg S=>(f g S).bind λ(h,d)=>some (.rl h d)
def PN(h:PE X e (tL (md X) f)):PS X (.Return (some e) pos) (tS (md X)<|GA f):=EH (GR h) λD m H k=>by
 obtain⟨l,i,S,o,ok,e,q⟩:=k
 obtain⟨⟨d,j⟩,g,e⟩:=au e
 cases e
 exact⟨l,i,S,d,j,ok,g,q⟩
def c9(c:jL)(f g:cE):cE:=λd S=>(c d S).bind λ(k,h)=>if k=true then f d h else g d h
def PU(t:PT X c (tB (md X) h))(n:uC X body (tS (md X) f))(u:uC X other (tS (md X) g)):PS X (.If c body other pos) (tS (md X)<|c9 h f g):=EH (M8 t n u) λD v H p=>by
 obtain⟨s,l,S,o,ok,e,q⟩:=p
 obtain⟨⟨k,m⟩,r,e⟩:=au e
 refine⟨s,l,S,k,m,ok,r,λi H1 j d=> ?_⟩
 dsimp only at e
 split at e
 ·rename_i c
  rw[Qhq c]
  exact⟨i,l,m,o,ok.to j d,e,q.to j⟩
 ·rename_i c
  rw[Quq c]
  exact⟨i,l,m,o,ok.to j d,e,q.to j⟩
abbrev nR:=D->cB->aE->Option (cB×aE)
abbrev ph:=List D->cB->aE->Option (cB×aE)
def tG(M:Md)(g:nR):TG:=λv n H Q=>∃j m S d i l,Ok M j m S n H/\Rel M j H d v/\g d m S=some (i,l)/\∀f h k,cH j H f k->Ok M f i l h k->Q h k
def NW(M:Md)(g:ph):HB:=λn o H Q=>∃i l S m h k,Ok M i l S o H/\bc M i H m n/\g m l S=some (h,k)/\∀d f j,cH i H d j->Ok M d h k f j->Q f j
def OM{t t':TG}(h:PG X e t)(w:∀v f H Q,t' v f H Q->t v f H Q):PG X e t':=λd s f H v u Q I r q=>h d s f H v u Q I r (w _ _ _ _ q)
def NS{t t':HB}(h:GC X g t)(w:∀v f H Q,t' v f H Q->t v f H Q):GC X g t':=λd s f H v u Q I r q=>h d s f H v u Q I r (w _ _ _ _ q)
def bJ(i:Nat):nR:=λd f S=>some (f.set i<|some d,S)
def Ha(h:PG X e (qm i)):PG X e (tG (md X)<|bJ i):=OM h λv m H Q f=>by
 obtain⟨l,k,S,d,g,j,ok,r,e,q⟩:=f
 cases e
 exact q _ _ _ cH.refl ⟨ok.en.set r,ok.st⟩
def dA:ph:=λf d S=>match f with
 | []=>some (d,S)
 |_=>none
def aJ(f:nR)(g:ph):ph:=λk j S=>match k with
 |d::r=>(f d j S).bind λ(h,i)=>g r h i
 | []=>none
def PX:GC X [] (NW (md X) dA):=NS JF λg l H Q d=>by
 obtain⟨j,i,S,k,f,h,ok,r,e,q⟩:=d
 cases r with
 |nil=>cases e;exact⟨rfl,q _ _ _ cH.refl ok⟩
 |cons=>cases e
def OB(t:PG X e (tG (md X) f))(v:GC X h (NW (md X) g))(hs:(assignEach (e::h) X.env).map (·.2)=assign e X.env::(assignEach h X.env).map (·.2):=by rfl):GC X (e::h) (NW (md X)<|aJ f g):=
 NS (Hy t v hs) λC G H Q s=>by
  obtain⟨x,p,S,F,i,o,ok,r,e,q⟩:=s
  cases r with
  |nil=>cases e
  | cons r B=>
    obtain⟨⟨d,m⟩,u,e⟩:=au e
    refine⟨_,_,rfl,x,p,S,_,d,m,ok,r,u,λl A H1 n k=>⟨l,d,m,_,i,o,k,B.ext n,e,λz w H2 y j=>q _ _ _ (n.trans y) j⟩⟩
def lM(g:ph):nR:=λd f S=>match d with
 |.tup h=>g h f S
 |_=>none
def nG(n:Nat)(g:ph):ph:=λd f S=>if d.length=n then g d f S else none
def Qe(t:X.calm=true)(h:GC X f (NW (md X) g))(p:(assignEach f X.env).length=n:=by rfl)(i:(assignEach f X.env).findIdx? (·.1)=none:=by rfl):
  PG X (.Tuple f k pos) (tG (md X)<|lM<|nG n g):=OM (LU t h p i) λv u H Q ⟨s,o,S,d,j,m,ok,r,e,q⟩=>by
 cases r with
 | tup h l=>
   simp only[lM,nG] at e
   split at e
   · rename_i c
     exact⟨_,_,rfl,jq.of h,by rw[←l.length];exact c,s,o,S,_,j,m,ok,l,e,q⟩
   · cases e
 |_=>cases e
def ko(f:bH)(g:nR):cE:=λi S=>(f i S).bind λ(d,k)=>(g d i k).bind λ(h,j)=>some (.nx h j)
def Nf:∀D j H,tS (md X) (ko f g) D j H->FR (tD (md X) f) (tG (md X) g) D j H:=λD j H r=>by
 obtain⟨y,m,S,o,ok,e,q⟩:=r
 obtain⟨⟨d,n⟩,w,e⟩:=au e
 obtain⟨⟨h,u⟩,t,e⟩:=au e
 cases e
 exact⟨y,m,S,d,n,ok,w,λl v H1 p k s=>⟨l,m,n,d,h,u,ok.to p k,s,t,λz x H2 A i=>q _ _ _ (p.trans A) i⟩⟩
def QO(he:PE X e (tD (md X) f))(h:PG X tg (tG (md X) g))(hs:swapsWithSole [tg] e pos.line X.env=pure false:=by rfl)(i:swappedStores [tg] e X.env=pure none:=by rfl)
  (d:(assignEach [tg] X.env).map (·.2)= [assign tg X.env]:=by rfl):PS X (.Assign [tg] e pos) (tS (md X)<|ko f g):=EH (LY he h hs i d) Nf
noncomputable def aS(i:Nat)(f:bH):cE:=λg S=>(f g S).bind λ(d,h)=>some (.nx (g.set i<|some d) h)
def NG(h:PS X st (FR (tD (md X) f)<|qm i)):PS X st (tS (md X)<|aS i f):=EH h λD t H l=>by
 obtain⟨r,k,S,o,ok,e,q⟩:=l
 obtain⟨⟨d,p⟩,n,e⟩:=au e
 cases e
 exact⟨r,k,S,d,p,ok,n,λs v H1 j g m=>q _ _ _ j ⟨(ok.en.ext j).set m,g⟩⟩
abbrev yh:=cB->aE->Option ((List D×(aE->Prop))×aE)
def Walks(M:Md)(J:It)(ρ:List Addr)(H:Hp)(ds:List D)(W:aE->Prop):Prop:=∀(i:Nat) (f:List Addr) (j:aE) (h:Hp),cH ρ H f h->gC M f j h->W j→
 (∀d,ds[i]?=some d->J.go i h/\∀x g,J.yld i h x g->cH f h f g/\gC M f j g/\Rel M f g d x)/\(i=ds.length->J.stop i h)
def tI(M:Md)(f:yh):TI:=λl H R=>∃k i S j W h,Ok M k i S l H/\f i S=some ((j,W),h)/\∀d J g,cH k H d g->gC M d h g->Walks M J d g j W->R J g
def Pw{t t':TI}(h:PI X tg e t)(w:∀f H R,t' f H R->t f H R):PI X tg e t':=λd s f H R I q=>h d s f H R I (w _ _ _ q)
def Ms(y:PE X l r):PI X tg l (λm H R=>r m H λx H1=>∃a,x=.ref a/\((∃xs,je X.K H1 a xs)/\R (QR X.K a) H1\/(∃xs,jq X.K H1 a xs)/\R (Qj X.K a) H1)):=by
 intro i s m H R I h
 refine c_ (y i s m H _ I h) λv d z=> ?_
 obtain⟨x,H1,f,u,k⟩:=z
 obtain⟨a,e,k⟩:=k
 subst e
 cases u
 rcases k with⟨⟨xs,j⟩,q⟩|⟨⟨xs,j⟩,q⟩
 ·obtain⟨g,t,p,w⟩:=f.list j
  refine wpAny_pyIter_list p.isList ?_
  refine⟨d.heap.objs.size,[d.heap.objs.size],_,_,H1,rfl,f.kept (t':=d.toks) λb o e=>Qcq _ e,Gv a _,⟨_,Qrq _ rfl,rfl,rfl⟩,λb n=> ?_,q⟩
  have e:b=d.heap.objs.size:=by simpa using n
  subst e
  exact f.fpOk (Qmq _)<|f.hok.fresh<|Qmq _
 ·obtain⟨g,t,p,w⟩:=f.tuple j
  refine wpAny_pyIter_tuple (show d.heap.IsTuple a g.toArray from p) ?_
  refine⟨d.heap.objs.size,[d.heap.objs.size],_,_,H1,rfl,f.kept (t':=d.toks) λb o e=>Qcq _ e,DI a _,⟨_,Qrq _ rfl,rfl,rfl⟩,λb n=> ?_,q⟩
  have e:b=d.heap.objs.size:=by simpa using n
  subst e
  exact f.fpOk (Qmq _)<|f.hok.fresh<|Qmq _
def fM(f:fu):yh:=λh S=>(f h S).bind λ(p,g)=>some ((p.1,λd=>p.2.stays d p.1),g)
def KH(M:PE X l (tQ (md X) f)):PI X tg l (tI (md X)<|fM f):=Pw (Ms M) λZ H R I=>by
 obtain⟨P,G,S,Y,W,Q,ok,e,q⟩:=I
 obtain⟨⟨⟨s,t⟩,N⟩,L,e⟩:=au e
 obtain⟨J,rfl⟩:=cD e
 obtain⟨rfl,rfl⟩:=Prod.mk.inj J
 refine⟨P,G,S,s,t,N,ok,L,λF a C U x st h r=>⟨a,rfl,?_⟩⟩
 cases c:t.isL with
 | true=>
   refine .inl ⟨⟨C,h.sqL c⟩,q _ _ _ x st λi B K H2 A j w=> ?_⟩
   obtain⟨g,y,n⟩:=h.to r A j w
   have k:=y.sqL c
   refine⟨λd z=> ?_,λu=>⟨g,k,by rw[u,n.length];exact Qmq _⟩⟩
   obtain⟨v,o,p⟩:=n.get z
   refine⟨⟨g,v,k,o⟩,λx H3 m=> ?_⟩
   obtain⟨rfl,m⟩:=m
   have:=m g k
   rw[o] at this
   cases this
   exact⟨cH.refl,j,p⟩
 | false=>
   refine .inr ⟨⟨C,h.sqT c⟩,q _ _ _ x st λi B K H2 A j w=> ?_⟩
   obtain⟨g,y,n⟩:=h.to r A j w
   have k:=y.sqT c
   refine⟨λd z=> ?_,λu=>⟨g,k,by rw[u,n.length];exact Qmq _⟩⟩
   obtain⟨v,o,p⟩:=n.get z
   refine⟨⟨g,v,k,o⟩,λx H3 m=> ?_⟩
   obtain⟨rfl,m⟩:=m
   have:=m g k
   rw[o] at this
   cases this
   exact⟨cH.refl,j,p⟩
def ki(lo hi:Int):List D:=(List.range (hi-lo).toNat).map λ(i:Nat)=>D.int (lo+(i:Int))
def vP(f:bH):yh:=λh S=>(f h S).bind λ(d,g)=>match d with
 |.int j=>if -(2^62)<=j/\j<2^62 then some ((ki 0 j,λ_=>True),g) else none
 |_=>none
def Gf{M:Md}{ρ:List Addr}{H:Hp}{lo hi:Int}:Walks M (Oy lo (hi-lo).toNat) ρ H (ki lo hi) (λ_=>True):=λi m o H2 p g w=>by
 unfold ki
 refine⟨λd j=> ?_,λhi=>by rw[lQm,QVq] at hi;exact Nat.le_of_eq hi.symm⟩
 rw[gQm] at j
 obtain⟨k,l,rfl⟩:=oQm.mp j
 have f:=(gQs.mp l)
 obtain⟨f,h⟩:=f
 rw[List.getElem_range] at h
 subst h
 rw[QVq] at f
 refine⟨f,λx H3 n=> ?_⟩
 obtain⟨rfl,rfl⟩:=n
 exact⟨cH.refl,g,.int _⟩
def P0(v:Gl X "range")(i:X.mg "range"=none)(k:PE X a (tD (md X) f))(hs:starEach [a] X.env= [(false,eval a X.env)]:=by rfl):PI X tg (.Call (.Name "range" p) [a] [] pos) (tI (md X)<|vP f):=
 Pw (Gm v i (cT k i_ hs) hs) λA H R m=>by
  obtain⟨ρ,l,S,z,W,w,ok,e,q⟩:=m
  obtain⟨⟨d,t⟩,o,e⟩:=au e
  dsimp only at e
  split at e
  ·rename_i j
   split at e
   ·rename_i h
    obtain⟨n,rfl⟩:=cD e
    obtain⟨rfl,rfl⟩:=Prod.mk.inj n
    refine⟨ρ,l,S,[.int j],t,ok,by unfold aq av;rw[o];rfl,λg y s x st r=> ?_⟩
    cases r with
    | cons r u=>
      cases u
      cases r
      refine⟨j,rfl,h.1,h.2,q _ _ _ x st ?_⟩
      have:=Gf (M:=md X) (ρ:=g) (H:=s) (lo:=0) (hi:=j)
      rw[Int.sub_zero] at this
      exact this
   ·cases e
  ·cases e
open Classical in
def forL(g:nR)(b:cE)(W:aE->Prop):List D->cB->aE->Option Out
 | [],Γ,S=>if W S then some (.nx Γ S) else none
 |d ::ds,Γ,S=>if W S then(g d Γ S).bind λ(i,j)=>(b i j).bind λo=>match o with
    |.nx f h=>forL g b W ds f h
    |.ct f h=>forL g b W ds f h
    |.bk f h=>some (.nx f h)
    |.rt x h=>some (.rt x h)
    |.rl x h=>some (.rl x h)
  else none
def jh(i:yh)(g:nR)(b:cE):cE:=λd S=>(i d S).bind λ(p,f)=>forL g b p.2 p.1 d f
def M4(hp:PassesOwn (model X.prog X.w) X.A X.env X.xe)(hc:X.calm=true)(hi:PI X tg k (tI (md X) i))(hg:PG X tg (tG (md X) g))(hb:uC X body (tS (md X) f))
  (hs:∀x,foldedSetIterable k X.env x=pure x:=by intro _;rfl):PS X (.For tg k body [] pos) (tS (md X)<|jh i g f):=EH (LM hp hc hi hg hb hs) λD σ H ⟨ρ,Γ,S,o,ok,e,q⟩=>by
 obtain⟨⟨⟨h,W⟩,S1⟩,e1,e⟩:=au e
 refine⟨ρ,Γ,S,h,W,S1,ok,e1,λv J H1 x1 N wk=> ?_⟩
 have M:=q.to x1
 have Y:=ok.to x1 N
 refine⟨λi m s y=>m=h.length-i/\i<=h.length/\∃d p B,cH v H1 d y/\Ok (md X) d p B s y/\forL g f W (h.drop i) p B=some o,⟨h.length,by simp,Nat.zero_le _,v,Γ,S1,cH.refl,Y,e⟩,?_⟩
 rintro i m a1 H2 ⟨rfl,hi,d,p,B,x2,ok2,e2⟩
 by_cases u:i<h.length
 ·have hd:h[i]?=some h[i]:=gQe u
  rw[QWq u] at e2
  unfold forL at e2
  split at e2
  ·rename_i w
   obtain⟨w1,w2⟩:=wk i d B H2 x2 ok2.st w
   obtain⟨go,U⟩:=w1 _ hd
   refine .inr ⟨go,λs y=>∃l t L,cH v H1 l y/\Ok (md X) l t L s y/\forL g f W (h.drop (i+1)) t L=some o,λs y ⟨l,t,L,h1,h2,h3⟩=>⟨h.length-(i+1),by omega,rfl,u,l,t,L,h1,h2,h3⟩,λx H3 hy=> ?_⟩
   obtain⟨x3,R,r3⟩:=U x H3 hy
   obtain⟨⟨G,S4⟩,e4,e5⟩:=au e2
   refine⟨d,p,B,_,G,S4,ok2.to x3 R,r3,e4,λQ a0 H4 x4 P=> ?_⟩
   obtain⟨Z,e6,K⟩:=au e5
   have C:=(x2.trans x3).trans x4
   refine⟨Q,G,S4,Z,P,e6,?_⟩
   cases Z with
   |nx r z=>exact λn I H6 F j=>⟨n,r,z,C.trans F,j,K⟩
   |ct r z=>exact λn I H6 F j=>⟨n,r,z,C.trans F,j,K⟩
   |bk r z=>cases K;exact λn I H6 F j=>M _ _ _ (C.trans F) j
   |rt d6 z=>cases K;exact M.to C
   |rl d6 z=>cases K;exact M.to C
  ·cases e2
 ·have e3:i=h.length:=by omega
  subst e3
  rw[List.drop_length] at e2
  unfold forL at e2
  split at e2
  ·rename_i w
   cases e2
   obtain⟨w1,w2⟩:=wk h.length d B H2 x2 ok2.st w
   exact .inl ⟨w2 rfl,M _ _ _ x2 ok2⟩
  ·cases e2
end
section
variable{M:Md}{ρ:List Addr}{H:Hp}{b:Addr}{us ws:List V}
mutual
theorem Rel.off(a:H b=some (.lst us)):∀{d:D} {v:V},Rel M ρ H d v->Rel M ρ (upd H b<|.lst ws) d v
 |_,_,.non=>.non
 |_,_,.bl x=>.bl x
 |_,_,.int i=>.int i
 |_,_,.str x=>.str x
 |_,_,.tup h hs=>.tup (by rw[bx (Io h a (by intro z;cases z))];exact h) (bc.off a hs)
 |_,_,.ref h=>.ref h
 |_,_,.fn h=>.fn h
theorem bc.off(a:H b=some (.lst us)):∀{ds:List D} {vs:List V},bc M ρ H ds vs->bc M ρ (upd H b<|.lst ws) ds vs
 |_,_,.nil=>.nil
 |_,_,.cons h hs=>.cons (Rel.off a h) (bc.off a hs)
end
theorem gC.off(st:gC M ρ S H)(g:H b=some (.lst us))(n:b∉ρ):gC M ρ S (upd H b (.lst ws)):=⟨st.len,st.nd,λk a o h l=>by
 have q:=st.obj k a o h l
 have e:a≠b:=λz=>n (z▸mQg h)
 cases o with
 |lst m=>obtain⟨f,c,d⟩:=q;exact⟨f,by rw[bx e];exact c,d.off g⟩
 |frz m=>obtain⟨f,o,c,d⟩:=q;exact⟨f,o,by rw[bx e];exact c,d.off g⟩
 |dct i=>obtain⟨j,c,d⟩:=q;exact⟨j,by rw[bx e];exact c,d.imp λ_ _ r=>r.off g⟩⟩
def En.off(h:En M ρ H a c)(g:H b=some (.lst us)):En M ρ (upd H b<|.lst ws) a c:=⟨h.len,λi d q=>by obtain⟨v,e,f⟩:=h.get i d q;exact⟨v,e,f.off g⟩⟩
def cH.off(e:cH d f ρ H)(g:f b=none)(u:HO):cH d f ρ (upd H b u):=⟨e.pre,e.new,λa o h c=>by rw[bx (fS h g)];exact e.keep a o h c,λa h=>by
 by_cases z:a=b
 ·subst z;exact g
 ·rw[bx z] at h;exact e.grow a h⟩
end
def pQ(js:List (Option Nat))(a:cB):cB:=js.map λo=>o.bind λj=>a.getD j none
def En.sig(js:List (Option Nat))(h:En M ρ H a c):En M ρ H (pQ js a) (lD js c) where
 len:=by unfold pQ lD;rw[lQm,lQm]
 get:=λi d q=>by
  unfold pQ at q
  unfold lD
  rw[gQm] at q⊢
  cases e:js[i]? with
  |none=>rw[e] at q;cases q
  | some o=>
    rw[e] at q
    cases o with
    |none=>cases q
    | some j=>
      have b:a.getD j none=some d:=QdQ q
      have k:a[j]?=some (some d):=by
        rw[Qlq] at b
        cases z:a[j]? with
        |none=>rw[z] at b;cases b
        |some y=>rw[z] at b;exact congrArg some b
      obtain⟨v,f,g⟩:=h.get j d k
      refine⟨v,?_,g⟩
      show some (c.getD j none)=some (some v)
      rw[Qlq,f]
      rfl
open Classical in
def oG(g:nR)(t:jL)(f:bH)(W:aE->Prop):List D->cB->aE->List D->Option (List D×aE)
 | [],Γ,S,acc=>if W S then some (acc,S) else none
 |d ::ds,Γ,S,acc=>if W S then(g d Γ S).bind λ(a,c)=>(t a c).bind λ(k,b)=>
    if k=true then(f a b).bind λ(y,e)=>if acc.length<sizeLine then oG g t f W ds a e (acc++ [y]) else none
    else oG g t f W ds a b acc
  else none
def bD(js:List (Option Nat))(i:yh)(g:nR)(t:jL)(f:bH):ic:=λa S=>(i a S).bind λ(p,b)=>oG g t f p.2 p.1 (pQ js a) b []
section
variable{M:Md}
def IV:∀X H Q,tL M (bD js i g t f) X H Q->GY js (tI M i) (tG M g) (tB M t) (tD M f) X H Q:=λX H Q qq=>by
 obtain⟨ρ,Γ,S,rs,S',ok,e,q⟩:=qq
 obtain⟨⟨⟨j,W⟩,S1⟩,e1,e⟩:=au e
 refine⟨ρ,Γ,S,j,W,S1,ok,e1,λn J H1 Z N wk D L=> ?_⟩
 have n1:D∉n:=eD Z N L
 have a5:Ok M n (pQ js Γ) S1 (lD js X) (upd H1 D<|.lst []):=⟨((ok.en.ext Z).ext (cH.laid L)).sig js,N.lay L⟩
 refine⟨λi m u d=>m=j.length-i/\i<=j.length/\∃c r K b h,cH n H1 c d/\Ok M c r K u d/\D∉c/\d D=some (.lst h)/\bc M c d b h/\oG g t f W (j.drop i) r K b=some (rs,S'),
  ⟨j.length,by simp,Nat.zero_le _,n,_,S1,[],[],cH.laid L,a5,n1,cn,.nil,e⟩,?_⟩
 rintro i m b0 H2 ⟨rfl,hi,c,r,K,b,h,x2,ok2,n2,hD2,racc,e2⟩
 by_cases G:i<j.length
 ·have hd:j[i]?=some j[i]:=gQe G
  rw[QWq G] at e2
  unfold oG at e2
  split at e2
  ·rename_i w
   obtain⟨w1,w2⟩:=wk i c K H2 x2 ok2.st w
   obtain⟨go,a4⟩:=w1 _ hd
   refine .inr ⟨go,λu d=>∃a A o b h,cH n H1 a d/\Ok M a A o u d/\D∉a/\d D=some (.lst h)/\bc M a d b h/\oG g t f W (j.drop (i+1)) A o b=some (rs,S'),
    λu d ⟨a,A,o,b,h,h1,h2,h3,h4,h5,h6⟩=>⟨j.length-(i+1),by omega,rfl,G,a,A,o,b,h,h1,h2,h3,h4,h5,h6⟩,λx H3 hy=> ?_⟩
   obtain⟨x3,a3,r3⟩:=a4 x H3 hy
   obtain⟨⟨l,S4⟩,e4,e5⟩:=au e2
   refine⟨c,r,K,_,l,S4,ok2.to x3 a3,r3,e4,λa2 a8 H4 x4 p=> ?_⟩
   obtain⟨⟨k,S5⟩,e6,Y⟩:=au e5
   refine⟨a2,l,S4,k,S5,p,e6,λR H5 U P=> ?_⟩
   have s:=(x3.trans x4).trans U
   have C:∀{a d},cH c H2 a d->d D=some (.lst h)/\D∉a:=λ{a d} x=>⟨x.keep _ _ hD2<|.inl n2,λm=>(x.new _ m).elim n2 λz=>by rw[z] at hD2;cases hD2⟩
   dsimp only at Y⊢
   split at Y
   ·rename_i ck
    rw[Qhq ck]
    obtain⟨⟨y,S6⟩,e8,e9⟩:=au Y
    refine⟨R,l,S5,y,S6,p.to U P,e8,λa0 v H6 x6 a6 r6=> ?_⟩
    have F:=s.trans x6
    obtain⟨B,n6⟩:=C F
    have I:=racc.ext F
    dsimp only at e9
    split at e9
    ·rename_i cl
     refine⟨h,B,by rw[←racc.length];exact cl,a0,l,S6,b++ [y],h++ [v],(x2.trans F).off L _,⟨((p.en.ext U).ext x6).off B,a6.off B n6⟩,n6,cn,(I.append<|.cons r6 .nil).off B,e9⟩
    ·cases e9
   ·rename_i ck
    rw[Quq ck]
    obtain⟨a1,n5⟩:=C s
    exact⟨R,l,S5,b,h,x2.trans s,p.to U P,n5,a1,racc.ext s,Y⟩
  ·cases e2
 ·have e3:i=j.length:=by omega
  subst e3
  rw[List.drop_length] at e2
  unfold oG at e2
  split at e2
  ·rename_i w
   obtain⟨rfl,rfl⟩:=cD e2
   obtain⟨w1,w2⟩:=wk j.length c K H2 x2 ok2.st w
   exact .inl ⟨w2 rfl,q c D h H2 (Z.trans x2) ok2.st (Z.grow _ L) n2 hD2 racc⟩
  ·cases e2
end
section
variable{X:Cx}{a b c e:Expr}{pos:Pos}{st:Stmt}{rest body other:List Stmt}
def bL:jL:=λ_ S=>some (true,S)
def N8{t t':TT}(h:oT X d t)(w:∀g H Q,t' g H Q->t g H Q):oT X d t':=λf s g H Q I q=>h f s g H Q I (w _ _ _ q)
def Os:oT X [] (tB (md X) bL):=N8 Mf λh H Q ⟨g,f,S,k,d,ok,e,q⟩=>by cases e;exact q _ _ cH.refl ok.st
def Qu(d:PT X c (tB (md X) f)):oT X [c] (tB (md X) f):=Lk d
def GZ
  (S:aL X N js d l) (n:X.calm=true) (hi:PI X tg h (tI (md X) i))
  (m:∀C s H fp,PG (aP X N d l C s H fp) tg<|tG (md X) g) (ht:∀C s H fp,oT (aP X N d l C s H fp) k<|tB (md X) t) (he:∀C s H fp,PE (aP X N d l C s H fp) j<|tD (md X) f)
  (hs:∀x,foldedSetIterable h X.env x=pure x:=by intro _;rfl):PE X (.ListComp j [⟨tg,h,k,0⟩] d pos) (tL (md X)<|bD js i g t f):=kn (Kq S n hi m ht he hs) IV
def Lh{l:Pos}
  (S:aL X N js h v) (hc:X.calm=true) (hi:PI X tg j (tI (md X) i))
  (hg:∀C s H fp,PG (aP X N h v C s H fp) tg<|tG (md X) g) (ht:∀C s H fp,oT (aP X N h v C s H fp) r<|tB (md X) t) (he:∀C s H fp,PE (aP X N h v C s H fp) p<|tD (md X) f) (A:PG X k (qm n))
  (hs:∀x,foldedSetIterable j X.env x=pure x:=by intro _;rfl) (w:swapsWithSole [k] (.ListComp p [⟨tg,j,r,0⟩] h pos) l.line X.env=pure true:=by rfl)
  (Q:(assignEach [k] X.env).map (·.2)= [assign k X.env]:=by rfl):PS X (.Assign [k] (.ListComp p [⟨tg,j,r,0⟩] h pos) l) (tS (md X)<|aS n<|bP<|bD js i g t f):=
 EH (Ku S hc hi hg ht he A hs w Q) λD Y H L=>by
  obtain⟨G,K,S,o,ok,e,q⟩:=L
  obtain⟨⟨d,S1⟩,U,e⟩:=au e
  cases e
  obtain⟨⟨I,R⟩,P,M⟩:=au U
  obtain⟨rfl,rfl⟩:=cD M
  refine IV Y H _ ⟨G,K,S,I,R,ok,P,λm a vs F x st W Z J rs=> ?_⟩
  have y:=rs.pre (List.prefix_append m [a])
  have z:=st.box (o:=.lst I) Z ⟨vs,J,y⟩
  have B:cH G H (m++ [a]) F:=⟨x.pre.trans (List.prefix_append _ _),λb u=>by
   rcases mQa.mp u with u|u
   ·exact x.new b u
   ·rw[Qfq] at u;subst u;exact .inr W,x.keep,x.grow⟩
  refine q (m++ [a]) _ F B ⟨((ok.en.ext B).set (.ref ?_)),z⟩
  rw[←st.len,QQq (Qmq _)]
  simp
def Ja(c:jL)(b:cE):Nat->cB->aE->Option Out
 |0,_,_=>none
 |n +1,Γ,S=>(c Γ S).bind λ(k,g)=>if k=true then(b Γ g).bind λo=>match o with
    |.nx d f=>Ja c b n d f
    |.ct d f=>Ja c b n d f
    |.bk d f=>some (.nx d f)
    |.rt x f=>some (.rt x f)
    |.rl x f=>some (.rl x f)
  else some (.nx Γ g)
def Ke(n:Nat)(U:PassesOwn (model X.prog X.w) X.A X.env X.xe)(hc:PT X c (tB (md X) h))(hb:uC X body (tS (md X) f)):PS X (.While c body [] pos) (tS (md X)<|Ja h f n):=EH (GM U hc hb) λD σ H R=>by
 obtain⟨G,Q,S,o,ok,e,q⟩:=R
 refine⟨λm r u=>∃d g t,cH G H d u/\Ok (md X) d g t r u/\Ja h f m g t=some o,⟨n,G,Q,S,cH.refl,ok,e⟩,?_⟩
 rintro m a0 H1 ⟨J,x,S1,x1,B,i⟩
 cases m with
 |zero=>cases i
 | succ m=>
   unfold Ja at i
   obtain⟨⟨k,L⟩,Y,i⟩:=au i
   refine⟨J,x,S1,k,L,B,Y,λK H2 P I=> ?_⟩
   dsimp only at i⊢
   have y:=B.to P I
   have j:=x1.trans P
   split at i
   · rename_i F
     rw[Qhq F]
     obtain⟨N,W,i⟩:=au i
     refine⟨λr u=>∃d g t,cH G H d u/\Ok (md X) d g t r u/\Ja h f m g t=some o,λr u ⟨d,g,t,Z,h2,h3⟩=>⟨m,Nat.lt_succ_self _,d,g,t,Z,h2,h3⟩,K,x,L,N,y,W,?_⟩
     cases N with
     |nx s v=>exact λp z M C l=>⟨p,s,v,j.trans C,l,i⟩
     |ct s v=>exact λp z M C l=>⟨p,s,v,j.trans C,l,i⟩
     |bk s v=>cases i;exact λp z M C l=>q _ _ _ (j.trans C) l
     |rt d6 v=>cases i;exact q.to j
     |rl d6 v=>cases i;exact q.to j
   · rename_i F
     rw[Quq F]
     cases i
     exact q _ _ _ j y
end
inductive Res where
 |d (x:D)|l (ds:List D)
abbrev cU:=List D->aE->Option (Res×aE)
def Lw(M:Md)(ρ:List Addr)(H b:Hp)(v:V):Res->Prop
 |.d x=>Rel M ρ b x v
 |.l e=>∃a c,v=.ref a/\H a=none/\a∉ρ/\b a=some (.lst c)/\bc M ρ b e c
def dM(M:Md)(n:Nat)(F:cU):Sp:=λf H Q _=>∃d S c r e,c.length=n/\bc M d H c f/\gC M d S H/\F c S=some (r,e)/\∀a v b,cH d H a b->gC M a e b->Lw M a H b v r->Q v b
mutual
def cq(m:Nat):D->Bool
 |.ref k=>decide (k<m)
 |.tup a=>cg m a
 |_=>true
def cg(m:Nat):List D->Bool
 | []=>true
 |d::ds=>cq m d&&cg m ds
end
def Jw(m:Nat):O->Bool
 |.lst b=>cg m b
 |.frz b=>cg m b
 |.dct a=>cg m (a.map (·.2))
section
variable{M:Md}{ρ ρ':List Addr}{H:Hp}
mutual
theorem Rel.cut(e:ρ <+: ρ'):∀{d:D} {v:V},Rel M ρ' H d v->cq ρ.length d=true->Rel M ρ H d v
 |_,_,.non,_=>.non
 |_,_,.bl x,_=>.bl x
 |_,_,.int i,_=>.int i
 |_,_,.str x,_=>.str x
 |_,_,.tup h hs,b=>.tup h (bc.cut e hs (by simpa [cq] using b))
 | _,_,.ref (k:=k) (a:=a) h,b=>.ref (by
   obtain⟨t,rfl⟩:=e
   have c:k<ρ.length:=by simpa [cq] using b
   rwa [QHq c] at h)
 |_,_,.fn h,_=>.fn h
theorem bc.cut(e:ρ <+: ρ'):∀{ds:List D} {vs:List V},bc M ρ' H ds vs->cg ρ.length ds=true->bc M ρ H ds vs
 |_,_,.nil,_=>.nil
 | _,_,.cons h hs,b=>by
   have a:=b
   simp only[cg,QDq,QCq] at a
   exact .cons (Rel.cut e h a.1) (bc.cut e hs a.2)
end
theorem cI.cut(e:ρ <+: ρ'):∀{l:List (Key×D)} {kv:List (Key×V)},cI M ρ' H l kv->cg ρ.length (l.map (·.2))=true->cI M ρ H l kv
 | [],_,h,_=>h
 | (_,_)::_,_,⟨v,t,q,h,hs⟩,b=>by
   have a:=b
   simp only[cg,QDq,QCq] at a
   exact⟨v,t,q,h.cut e a.1,cI.cut e hs a.2⟩
theorem qI.cut(e:ρ <+: ρ')(h:qI M ρ' H a o)(b:Jw ρ.length o=true):qI M ρ H a o:=by
 cases o with
 |lst g=>obtain⟨f,c,d⟩:=h;exact⟨f,c,d.cut e b⟩
 |frz g=>obtain⟨f,o,c,d⟩:=h;exact⟨f,o,c,d.cut e b⟩
 |dct i=>obtain⟨j,c,d⟩:=h;exact⟨j,c,d.cut e b⟩
mutual
theorem Rel.low:∀{d:D} {v:V},Rel M ρ H d v->cq ρ.length d=true
 |_,_,.non=>rfl
 |_,_,.bl x=>rfl
 |_,_,.int i=>rfl
 |_,_,.str x=>rfl
 |_,_,.tup h hs=>by simp only[cq];exact bc.low hs
 |_,_,.ref h=>by simp only[cq];exact Qeq (gQs.mp h).1
 |_,_,.fn h=>rfl
theorem bc.low:∀{ds:List D} {vs:List V},bc M ρ H ds vs->cg ρ.length ds=true
 |_,_,.nil=>rfl
 |_,_,.cons h hs=>by simp only[cg];rw[Rel.low h,bc.low hs];rfl
end
theorem cI.low:∀{l:List (Key×D)} {kv:List (Key×V)},cI M ρ H l kv->cg ρ.length (l.map (·.2))=true
 | [],_,_=>rfl
 |(_,_)::_,_,⟨v,t,q,h,hs⟩=>by simp only[QDq,cg];rw[h.low,cI.low hs];rfl
theorem qI.low(h:qI M ρ H a o):Jw ρ.length o=true:=by
 cases o with
 |lst e=>obtain⟨d,c,b⟩:=h;exact b.low
 |frz e=>obtain⟨d,o,c,b⟩:=h;exact b.low
 |dct f=>obtain⟨g,c,b⟩:=h;exact b.low
end
def qj(S a:aE):Prop:=S.length<=a.length/\∀k o,k<S.length->a[k]?=some o->S[k]?=some o\/Jw S.length o=true
open Classical in
def settle(S:aE)(d:D)(a:aE):Option (Res×aE):=if qj S a then match d with
  | .ref k=>if k<S.length then some (.d (.ref k),a.take S.length) else match a[k]? with
    |some (.lst ds)=>if cg S.length ds=true then some (.l ds,a.take S.length) else none
    |_=>none
  |d=>if cq S.length d=true then some (.d d,a.take S.length) else none
 else none
open Classical in
def eJ(S:aE)(ds:List D)(a:aE):Option (Res×aE):=if qj S a/\cg S.length ds=true then some (.l ds,a.take S.length) else none
noncomputable def fm(n:Nat)(b:cE):cU:=λc S=>(b (c.map some++List.replicate (n-c.length) none) S).bind λo=>match o with
 |.nx _ a=>settle S .non a
 |.rt d a=>settle S d a
 |.rl l a=>eJ S l a
 |_=>none
noncomputable def Cw(n:Nat)(b:cE):cU:=λc S=>(b (c.map some++List.replicate (n-c.length) none) S).bind λo=>match o with
 |.nx _ a=>some (.d .non,a)
 |.rt d a=>some (.d d,a)
 |.rl l a=>some (.l l,a)
 |_=>none
def gC.clean(st:gC M ρ S H)(x:cH ρ H b e)(j:gC M b f e)(c:qj S f):gC M ρ (f.take S.length) e/\cH ρ H ρ e:=by
 refine⟨⟨?_,st.nd,λk a o g i=> ?_⟩,List.prefix_refl _,λ_ h=>.inl h,x.keep,x.grow⟩
 ·rw[Qxq,st.len]
  have:=c.1
  omega
 ·have l:k<ρ.length:=(gQs.mp g).1
  have d:k<S.length:=st.len▸l
  rw[List.getElem?_take_of_lt d] at i
  refine(j.obj k a o (di x.pre g) i).cut x.pre ?_
  rcases c.2 k o d i with z|z
  ·exact(st.obj k a o g z).low
  ·rw[st.len];exact z
def xM(st:gC M ρ S H)(x:cH ρ H b g)(f:gC M b s g)(o:Rel M b g d v)(e:settle S d s=some (r,h)):
  cH ρ H ρ g/\gC M ρ h g/\Lw M ρ H g v r:=by
 unfold settle at e
 split at e
 ·rename_i c
  obtain⟨n,p⟩:=st.clean x f c
  cases d with
  | ref k=>
    dsimp only at e
    split at e
    · rename_i l
      obtain⟨rfl,rfl⟩:=cD e
      exact⟨p,n,o.cut x.pre (by simp only[cq];rw[st.len];exact Qeq l)⟩
    · rename_i l
      split at e
      · rename_i B w
        split at e
        · rename_i q
          obtain⟨rfl,rfl⟩:=cD e
          cases o with
          | ref i=>
            rename_i a
            obtain⟨A,y,z⟩:=f.obj k a _ i w
            have t:a∉ρ:=λm=>by
              obtain⟨j,u⟩:=List.getElem?_of_mem m
              have:=nj f.nd (di x.pre u) i
              subst this
              exact l (st.len▸(gQs.mp u).1)
            refine⟨p,n,a,A,rfl,(x.new a<|mQg i).resolve_left t,t,y,z.cut x.pre (by rw[st.len];exact q)⟩
        · cases e
      · cases e
  | _=>
    dsimp only at e
    split at e
    · rename_i q
      obtain⟨rfl,rfl⟩:=cD e
      exact⟨p,n,o.cut x.pre (by rw[st.len];exact q)⟩
    · cases e
 ·cases e
def CT(st:gC M ρ S H)(x:cH ρ H b d)(g:gC M b h d)(k:H a=none)(l:a∉b)(i:d a=some (.lst vs))(n:bc M b d ds vs)(e:eJ S ds h=some (r,f)):
  cH ρ H ρ d/\gC M ρ f d/\Lw M ρ H d (.ref a) r:=by
 unfold eJ at e
 split at e
 ·rename_i c
  obtain⟨j,o⟩:=st.clean x g c.1
  obtain⟨rfl,rfl⟩:=cD e
  exact⟨o,j,a,vs,rfl,k,λm=>l<|x.pre.subset m,i,n.cut x.pre (by rw[st.len];exact c.2)⟩
 ·cases e
def AJ{N:List Str}(r:bc M ρ H ds vs):En M ρ H (ds.map some++List.replicate (N.length-ds.length) none) (L2.start N vs) where
 len:=by unfold L2.start;simp[r.length]
 get:=λi d q=>by
  unfold L2.start
  by_cases c:i<ds.length
  ·rw[QHq (by rw[lQm];exact c),gQm] at q
   obtain⟨g,a,f⟩:=oQm.mp q
   cases f
   obtain⟨v,b,e⟩:=r.get a
   exact⟨v,by rw[QHq (by rw[lQm,←r.length];exact c),gQm,b];rfl,e⟩
  ·rw[QQq (by rw[lQm];omega)] at q
   have:=mQg q
   rw[List.mem_replicate] at this
   cases this.2
section
variable{P:Program}{w:World}{K:PySem.W.Frag}{mg:Str->Option Value}{base:Heap}
def bj{x c:Str}{st:Stmt}{f:Addr}{I:FuncData}{N ps:List Str}{k:Nat}{b:cE}(F:dQ K x c st f I)(S:aF N ps (aB st))
  (h:∀(g:Value) (A:Around) (outer:List Env) (s:Shared) (H:Hp) (E:XK),fZ k (A.deeper (envOfC c (aB st) s.heap.objs.size f g))→
   uC (B_ dm P w K mg base N c (aB st) f g A outer s H E).nox (fL st) (tS ⟨K,mg⟩ b)):bh P w K mg base dm (k+1) f I ps (dM ⟨K,mg⟩ ps.length (fm N.length b)):=by
 refine F.ok S (λL H Q E ⟨J,S,ds,r,M,B,z,_⟩=>by rw[←z.length];exact B) λg A outer s H L Q E hr ⟨J,S,ds,r,M,B,z,t,h4,q⟩=>⟨_,h g A outer s H E hr,?_⟩
 obtain⟨o,W,e⟩:=au h4
 refine⟨J,_,S,o,⟨AJ z,t⟩,W,?_⟩
 cases o with
 |nx X G=>exact λj U C l u=>by obtain⟨p,m,n⟩:=xM t l u.st .non e;exact q _ _ _ p m n
 |rt d G=>exact λj v C l i y=>by obtain⟨p,m,n⟩:=xM t l i y e;exact q _ _ _ p m n
 |rl d G=>exact λj a L C l i Y Z R y=>by obtain⟨p,m,n⟩:=CT t l i Y Z R y e;exact q _ _ _ p m n
 |bk=>cases e
 |ct=>cases e
def iV{x c:Str}{st:Stmt}{f:Addr}{B:FuncData}{N ps:List Str}{k:Nat}{b:cE}(F:dQ K x c st f B)(S:aF N ps (aB st))
  (h:∀(g:Value) (A:Around) (outer:List Env) (s:Shared) (H:Hp) (E:XK),fZ k (A.deeper (envOfC c (aB st) s.heap.objs.size f g))→
   uC (B_ dm P w K mg base N c (aB st) f g A outer s H E).nox (fL st) (tS ⟨K,mg⟩ b)):bh P w K mg base dm (k+1) f B ps (dM ⟨K,mg⟩ ps.length (Cw N.length b)):=by
 refine F.ok S (λt H Q E ⟨C,S,Z,r,G,u,p,_⟩=>by rw[←p.length];exact u) λg A outer s H t Q E Y ⟨C,S,Z,r,G,u,p,U,X,q⟩=>⟨_,h g A outer s H E Y,?_⟩
 obtain⟨o,L,e⟩:=au X
 refine⟨C,_,S,o,⟨AJ p,U⟩,L,?_⟩
 cases o with
 |nx M z=>cases e;exact λj J y l m=>q _ _ _ l m.st .non
 |rt d z=>cases e;exact λj v y l i n=>q _ _ _ l i n
 |rl d z=>cases e;exact λj a t y l i R W I n=>q _ _ _ l i ⟨a,t,rfl,R,W,I,n⟩
 |bk=>cases e
 |ct=>cases e
end
section
variable{X:Cx}{x:Str}{k n:Nat}{f:Addr}{fd:FuncData}{ps:List Str}{F:cU}{e:Expr}{es:List Expr}{g:ic}{p pos:Pos}
noncomputable def ax(F:cU)(g:ic):bH:=λc S=>(g c S).bind λ(h,b)=>(F h b).bind λ(r,a)=>match r with
 |.d x=>some (x,a)
 |.l _=>none
def dX(F:cU)(g:ic):ic:=λh S=>(g h S).bind λ(a,c)=>(F a c).bind λ(r,b)=>match r with
 |.d _=>none
 |.l a=>some (a,b)
def nA(n:Nat)(g:ic):Prop:=∀c S a b,g c S=some (a,b)->a.length=n
def Dc:nA 0 av:=λ_ _ _ _ e=>by cases e;rfl
def nU{n:Nat}{f:bH}{g:ic}(h:nA n g):nA (n+1) (aq f g):=λm S o c e=>by
 obtain⟨⟨d,l⟩,j,e⟩:=au e
 obtain⟨⟨a,i⟩,b,e⟩:=au e
 cases e
 rw[Qnq,h _ _ _ _ b]
def EA(w:nA n g):∀a H Q,tD M (ax F g) a H Q->IG (dM M n F) [] E0 (AO M g) a H Q:=λa H Q s=>by
 obtain⟨z,o,S,d,I,ok,e,q⟩:=s
 obtain⟨⟨h,m⟩,j,e⟩:=au e
 obtain⟨⟨r,y⟩,u,e⟩:=au e
 refine⟨z,o,S,h,m,ok,j,λi J H1 C c t=>⟨i,m,h,r,y,w _ _ _ _ j,by rw[List.append_nil];exact t,c,u,λB v H2 G b A=> ?_⟩⟩
 cases r with
 |d x=>obtain⟨rfl,rfl⟩:=cD e;exact q _ _ _ (C.trans G) b A
 |l h=>cases e
def Ka(z:nA n g):∀b H Q,tL M (dX F g) b H Q->IG (dM M n F) [] E0 (AO M g) b H Q:=λb H Q u=>by
 obtain⟨B,t,S,d,K,ok,e,q⟩:=u
 obtain⟨⟨i,o⟩,m,e⟩:=au e
 obtain⟨⟨r,A⟩,y,e⟩:=au e
 refine⟨B,t,S,i,o,ok,m,λj C H1 s h w=>⟨j,o,i,r,A,z _ _ _ _ m,by rw[List.append_nil];exact w,h,y,λI v H2 J c G=> ?_⟩⟩
 cases r with
 |d x=>cases e
 | l i=>
   obtain⟨rfl,rfl⟩:=cD e
   obtain⟨a,C,rfl,fr,na,ha,rr⟩:=G
   exact q _ _ _ _ (s.trans J) c (s.grow _ fr) na ha rr
def Mv(G:bh X.prog X.w X.K X.mg X.base dm k f fd ps (dM (md X) n F))(i:fZ k X.A)(h:Gl X x)(b:X.mg x=some (.ref f))(c:PySem.W.keepIn X.K (.ref f)=true)(l:Binds X.K fd ps [])(d:PA X (e::es) (AO (md X) g))(j:nA n g)
  (a:(x==("__debug__":Str))=false:=by decide) (he:starEach (e::es) X.env=(false,eval e X.env)::starEach es X.env:=by rfl) (hpl:(backTo pos<|starEach es X.env).any (·.1)=false:=by rfl):
  PE X (.Call (.Name x p) (e::es) [] pos) (tD (md X)<|ax F g):=kn (EZ G i h b c l .nil mZ d a he hpl) (EA j)
def L8(G:bh X.prog X.w X.K X.mg X.base dm k f fd ps (dM (md X) n F))(i:fZ k X.A)(h:Gl X x)(b:X.mg x=some (.ref f))(c:PySem.W.keepIn X.K (.ref f)=true)(l:Binds X.K fd ps [])(d:PA X (e::es) (AO (md X) g))(j:nA n g)
  (a:(x==("__debug__":Str))=false:=by decide) (he:starEach (e::es) X.env=(false,eval e X.env)::starEach es X.env:=by rfl) (hpl:(backTo pos<|starEach es X.env).any (·.1)=false:=by rfl):
  PE X (.Call (.Name x p) (e::es) [] pos) (tL (md X)<|dX F g):=kn (EZ G i h b c l .nil mZ d a he hpl) (Ka j)
end
def lH{α:Type}(xs:List α)(lo hi:Option Int):List α:=(xs.drop (HT.fT xs.length 0 lo)).take (HT.fT xs.length xs.length hi-HT.fT xs.length 0 lo)
def bc.cut3{M:Md}{ρ:List Addr}{H:Hp}{ds:List D}{vs:List V}{lo hi:Option Int}(h:bc M ρ H ds vs):bc M ρ H (lH ds lo hi) (C2 vs lo hi):=by
 unfold lH C2
 rw[h.length]
 exact(h.drop _).take _
def Jd{α:Type}{xs:List α}{lo hi:Option Int}(a:HT.fT xs.length 0 lo=0)(b:HT.fT xs.length xs.length hi=xs.length):lH xs lo hi=xs:=by
 unfold lH
 rw[a,b]
 simp
abbrev MK:=cB->aE->Option (Option Int×aE)
def OP(M:Md)(f:MK):TO:=λg H Q=>∃e d S o c,Ok M e d S g H/\f d S=some (o,c)/\∀a b,cH e H a b->gC M a c b->Q o b
section
variable{X:Cx}{a b c e:Expr}{pos:Pos}{st:Stmt}
def uP:MK:=λ_ S=>some (none,S)
def uo(f:bH):MK:=λh S=>(f h S).bind λ(d,g)=>match d with
 |.int i=>some (some i,g)
 |_=>none
def QI{o:Option Expr}{t t':TO}(h:PO X o t)(w:∀f H Q,t' f H Q->t f H Q):PO X o t':=λd s f H Q I q=>h d s f H Q I (w _ _ _ q)
def Pb:PO X none (OP (md X) uP):=QI Jo λh H Q ⟨g,f,S,o,d,ok,e,q⟩=>by cases e;exact q _ _ cH.refl ok.st
def PY{f:bH}(h:PE X e (tD (md X) f)):PO X (some e) (OP (md X) (uo f)):=QI (JL h) λs H Q j=>by
 obtain⟨m,i,S,o,n,ok,e,q⟩:=j
 obtain⟨⟨d,l⟩,k,e⟩:=au e
 dsimp only at e
 split at e
 ·obtain⟨rfl,rfl⟩:=cD e
  refine⟨m,i,S,_,l,ok,k,λg v p x st r=> ?_⟩
  cases r
  exact⟨_,rfl,q _ _ x st⟩
 ·cases e
def uw(f:bH)(lo hi:MK):bH:=λg S=>(f g S).bind λ(d,j)=>(lo g j).bind λ(l,i)=>(hi g i).bind λ(h,m)=>match d with
 |.tup k=>some (.tup (lH k l h),m)
 |_=>none
def OQ{lo hi:Option Expr}{Y:Pos}{f:bH}{l h:MK}(he:PE X e (tD (md X) f))(N:PO X lo (OP (md X) l))(L:PO X hi (OP (md X) h)):PE X (.Subscript e (.Slice lo hi none Y) pos) (tD (md X) (uw f l h)):=
 kn (GU Jh he N L) λσ H Q G=>by
  obtain⟨P,m,S,d,Z,ok,e,q⟩:=G
  obtain⟨⟨x,B⟩,M,e⟩:=au e
  obtain⟨⟨z,y⟩,K,e⟩:=au e
  obtain⟨⟨A,R⟩,I,e⟩:=au e
  cases x with
  | tup F=>
    dsimp only at e
    obtain⟨rfl,rfl⟩:=cD e
    refine⟨P,m,S,_,B,ok,M,λr v H1 t j J=>⟨r,m,B,z,y,ok.to t j,K,λs H2 u o=>⟨s,m,y,A,R,(ok.to t j).to u o,I,λW H3 C i=> ?_⟩⟩⟩
    have g:=(t.trans u).trans C
    have U:=J.ext (u.trans C)
    cases U with
    | tup w k=>
      refine⟨_,_,rfl,jq.of w,λc=> ?_,λc p n=> ?_⟩
      · have:lH F z A=F:=Jd (by rw[k.length];exact c.1) (by rw[k.length];exact c.2)
        rw[this] at q
        exact q _ _ _ g i (.tup w k)
      · exact q _ _ _ (g.trans (cH.laid n)) (i.lay n) (.tup cn (k.cut3.ext (cH.laid n)))
  |_=>cases e
open Classical in
def yK(f g:fu):ic:=λh S=>(f h S).bind λ(p,i)=>(g h i).bind λ(r,d)=>if p.2.isM=true/\r.2.isM=true/\p.2.stays d p.1/\p.1.length+r.1.length<=sizeLine then some (p.1++r.1,d) else none
def QE{f g:fu}(w:PE X a (tQ (md X) f))(P:PE X b (tQ (md X) g)):PE X (.BinOp a .Add b pos) (tL (md X) (yK f g)):=kn (tO Lb w P) λW H Q x=>by
 obtain⟨J,n,S,d,R,ok,e,q⟩:=x
 obtain⟨⟨⟨L,t⟩,o⟩,F,e⟩:=au e
 obtain⟨⟨⟨A,K⟩,B⟩,z,e⟩:=au e
 dsimp only at e
 split at e
 ·rename_i c
  obtain⟨rfl,rfl⟩:=cD e
  refine⟨J,n,S,L,t,o,ok,F,λk a U H1 s l C y=>⟨k,n,o,A,K,B,ok.to s l,z,λM b N H2 v i G r=> ?_⟩⟩
  obtain⟨m,I,u⟩:=C.to y v i c.2.2.1
  have h:=s.trans v
  refine⟨_,_,m,N,rfl,rfl,I.sqM c.1,G.sqM c.2.1,by rw[←u.length,←r.length];exact c.2.2.2,λp j=> ?_⟩
  exact q _ _ _ _ (h.trans (cH.laid j)) (i.lay j) (h.grow _ j) (eD h i j) cn ((u.append r).ext (cH.laid j))
 ·cases e
open Classical in
def JP(f:fu)(g:bH):ic:=λh S=>(f h S).bind λ(p,i)=>(g h i).bind λ(r,d)=>match r with
 |.int k=>if p.2.isM=true/\p.2.stays d p.1/\ -(2^63)<=k/\k<2^63/\p.1.length*k.toNat<=sizeLine then some ((List.replicate k.toNat p.1).flatten,d) else none
 |_=>none
def QV{f:fu}{g:bH}(y:PE X a (tQ (md X) f))(N:PE X b (tD (md X) g)):PE X (.BinOp a .Mult b pos) (tL (md X) (JP f g)):=kn (tO Mg y N) λU H Q z=>by
 obtain⟨J,o,S,d,P,ok,e,q⟩:=z
 obtain⟨⟨⟨L,t⟩,s⟩,G,e⟩:=au e
 obtain⟨⟨r,C⟩,B,e⟩:=au e
 cases r with
 | int k=>
   dsimp only at e
   split at e
   · rename_i c
     obtain⟨rfl,rfl⟩:=cD e
     refine⟨J,o,S,L,t,s,ok,G,λl a R H1 u m F A=>⟨l,o,s,_,C,ok.to u m,B,λM w H2 x i K=> ?_⟩⟩
     obtain⟨n,I,v⟩:=F.to A x i c.2.1
     have h:=u.trans x
     cases K
     refine⟨_,k,n,rfl,rfl,I.sqM c.1,c.2.2.1,c.2.2.2.1,by rw[←v.length];exact c.2.2.2.2,λp j=> ?_⟩
     exact q _ _ _ _ (h.trans (cH.laid j)) (i.lay j) (h.grow _ j) (eD h i j) cn ((v.rep _).ext (cH.laid j))
   · cases e
 |_=>cases e
open Classical in
def cX(f:fu):bH:=λg S=>(f g S).bind λ(p,d)=>if p.2.isL=true/\p.2.stays d p.1 then some (.bl (!p.1.isEmpty),d) else none
def Kh{f:fu}:∀i H Q,tD (md X) (cX f) i H Q->JB (Hk X.K) (tQ (md X) f) (tL (md X) (bB av)) i H Q:=λi H Q p=>by
 obtain⟨w,m,S,d,C,ok,e,q⟩:=p
 obtain⟨⟨⟨y,t⟩,h⟩,u,e⟩:=au e
 dsimp only at e
 split at e
 ·rename_i c
  obtain⟨rfl,rfl⟩:=cD e
  refine⟨w,m,S,y,t,h,ok,u,λl a F H1 n j s r=>⟨l,m,h,[],h,ok.to n j,rfl,λz b J H2 o g G I B x=> ?_⟩⟩
  obtain⟨k,v,A⟩:=s.to r o g c.2
  cases x
  refine⟨a,b,k,rfl,rfl,v.sqL c.1,je.of B,?_⟩
  rw[←A.isEmpty]
  exact q _ _ _ (n.trans o) g (.bl _)
 ·cases e
def Oj:PE X (.List [] pos) (tL (md X) (bB av)):=IB i_
def Kj{f:fu}{p:Pos}(d:X.A.units<cLine)(g:PE X a (tQ (md X) f)):PT X (.Compare a [.NotEq] [.List [] p] pos) (tB (md X) (aG (cX f))):=DU Kh (uK (Hw d) g Oj (IH _))
def gC.putL{M:Md}{ρ:List Addr}{S:aE}{H:Hp}{k:Nat}{a:Addr}{ds h:List D}{ws:List V}(st:gC M ρ S H)(f:ρ[k]?=some a)(i:S[k]?=some (.lst ds))(r:bc M ρ H h ws):gC M ρ (S.set k (.lst h)) (upd H a (.lst ws))/\cH ρ H ρ (upd H a (.lst ws)):=by
 obtain⟨j,d,l⟩:=st.obj k a _ f i
 exact st.put f i ⟨ws,cn,r.off d⟩ λx g=>by rw[d] at g;cases g;exact id
def jg(m:List D->List D->Option (List D×D))(f:bH)(g:ic):bH:=λj S=>(f j S).bind λ(x,i)=>match x with
 | .ref k=>(g j i).bind λ(l,h)=>match i[k]?,h[k]? with
   |some (.lst _),some (.lst ds)=>(m ds l).bind λ(n,d)=>some (d,h.set k (.lst n))
   |_,_=>none
 |_=>none
def DT(M:Md)(r:V->List V->Hp->VK->Prop)(m:List D->List D->Option (List D×D)):Prop:=∀{f:List Addr} {H:Hp} {a:Addr} {i j l:List D} {d:D} {h g:List V} {Q:VK},H a=some (.lst h)->bc M f H i h->bc M f H j g->m i j=some (l,d)→
 (∀k w,bc M f H l k->Rel M f H d w->Q w (upd H a (.lst k)))->r (.ref a) g H Q
def Lj{m:List D->List D->Option (List D×D)}{r:V->List V->Hp->VK->Prop}{f:bH}{g:ic}(F:DT (md X) r m):∀t H Q,tD (md X) (jg m f g) t H Q->ON X.K "list" r (tD (md X) f) (AO (md X) g) t H Q:=λt H Q I=>by
 obtain⟨W,y,S,d,S',ok,e,q⟩:=I
 obtain⟨⟨x,z⟩,R,e⟩:=au e
 cases x with
 | ref k=>
   dsimp only at e
   obtain⟨⟨Y,N⟩,M,e⟩:=au e
   dsimp only at e
   split at e
   · rename_i a1 ds p h
     obtain⟨⟨es,d'⟩,J,e⟩:=au e
     obtain⟨rfl,rfl⟩:=cD e
     refine⟨W,y,S,_,z,ok,R,λs v H1 C l L=> ?_⟩
     cases L with
     | ref u=>
       rename_i a
       obtain⟨n,G,_⟩:=l.obj k a _ u p
       refine⟨.inl ⟨rfl,n,je.of G⟩,s,y,z,Y,N,ok.to C l,M,λa0 us H2 B j Z=> ?_⟩
       have i:=di B.pre u
       obtain⟨vs,P,U⟩:=j.obj k a _ i h
       refine F P U Z J λws w rw rd=> ?_
       obtain⟨o,A⟩:=j.putL i h rw
       exact q _ _ _ ((C.trans B).trans A) o (rd.ext A)
   · cases e
 |_=>cases e
def fw:List D->List D->Option (List D×D):=λd f=>match f with
 | [y]=>if d.length<sizeLine then some (d++ [y],.non) else none
 |_=>none
def L0{M:Md}:DT M ER fw:=by
 intro n H a m o p d h l Q i g f e q
 unfold fw at e
 split at e
 ·split at e
  ·rename_i j
   obtain⟨rfl,rfl⟩:=cD e
   cases f with
   | cons f k=>
     cases k
     exact⟨a,h,_,rfl,rfl,i,by rw[←g.length];exact j,q _ _ (g.append (.cons f .nil)) .non⟩
  ·cases e
 ·cases e
def Ip{f:bH}{g:bH}{o:Expr}{h d:Pos}(l:PE X o (tD (md X) f))(m:PE X e (tD (md X) g))(j:attributeBase o "append" X.env (eval o X.env)=eval o X.env:=by rfl) (k:((backTo d (starEach [e] X.env)).all (λx=> !x.1)&&(backToKw d (keywordEach [] X.env)).all (λx=>x.1.isSome)
   &&decide ([e].length+([]:List Keyword).length+(if ([]:List Keyword).isEmpty then 0 else 1)<30))=true:=by rfl)
  (i:(h.endLine==d.line)=true:=by rfl) (hs:starEach [e] X.env= [(false,eval e X.env)]:=by rfl):PE X (.Call (.Attribute o "append" h) [e] [] d) (tD (md X) (jg fw f (aq g av))):=
 kn (vA PySem.F.plainAttrs_list PySem.F.slot_list_append PySem.F.type_list_append rK l (cT m i_ hs) j k i hs) (Lj L0)
end
section
variable{X:Cx}{a b c e:Expr}{pos:Pos}{st:Stmt}
def KQ{m:List D->List D->Option (List D×D)}{r:V->List V->Hp->VK->Prop}{f:bH}(p:DT (md X) r m):∀j H Q,tD (md X) (jg m f av) j H Q->Nv X.K "list" r (tD (md X) f) j H Q:=λj H Q t=>by
 obtain⟨G,s,S,d,N,ok,e,q⟩:=t
 obtain⟨⟨x,C⟩,A,e⟩:=au e
 cases x with
 | ref k=>
   dsimp only at e
   obtain⟨⟨U,R⟩,z,e⟩:=au e
   cases z
   dsimp only at e
   split at e
   · rename_i M W F g
     obtain⟨⟨P,Y⟩,u,e⟩:=au e
     obtain⟨rfl,rfl⟩:=cD e
     refine⟨G,s,S,_,C,ok,A,λJ v H1 L h y=> ?_⟩
     cases y with
     | ref l=>
       rename_i a
       obtain⟨I,n,B⟩:=h.obj k a _ l g
       refine⟨.inl ⟨rfl,I,je.of n⟩,p n B .nil u λZ w rw rd=> ?_⟩
       obtain⟨i,o⟩:=h.putL l g rw
       exact q _ _ _ (L.trans o) i (rd.ext o)
   · cases e
 |_=>cases e
def Gc:List D->List D->Option (List D×D):=λd f=>match f with
 | []=>(d[d.length-1]?).bind λy=>some (d.dropLast,y)
 |_=>none
def Mx{M:Md}:DT M MV Gc:=by
 intro n H a r o m d l p Q h f k e q
 unfold Gc at e
 split at e
 ·obtain⟨y,i,e⟩:=au e
  obtain⟨rfl,rfl⟩:=cD e
  cases k
  obtain⟨v,g,j⟩:=f.get i
  rw[f.length] at g
  exact⟨a,l,v,rfl,rfl,h,g,q _ _ f.dropLast j⟩
 ·cases e
def OZ{f:bH}{o:Expr}{g d:Pos}(j:PE X o (tD (md X) f))(i:attributeBase o "pop" X.env (eval o X.env)=eval o X.env:=by rfl)(h:(g.endLine==d.line)=true:=by rfl):PE X (.Call (.Attribute o "pop" g) [] [] d) (tD (md X) (jg Gc f av)):=
 kn (Ib PySem.F.plainAttrs_list PySem.F.slot_list_pop PySem.F.type_list_pop Mz j i h) (KQ Mx)
def gS:List D->List D->Option (List D×D):=λd f=>match f with
 | [.int i]=>if -(2^63)<=i/\i<2^63 then(seqIndex? i d.length).bind λk=>(d[k]?).bind λy=>some (d.eraseIdx k,y) else none
 |_=>none
def HY{M:Md}:DT M HC gS:=by
 intro t H a x u s d r w Q n f g e q
 unfold gS at e
 split at e
 ·split at e
  ·rename_i i j
   obtain⟨k,h,e⟩:=au e
   obtain⟨y,m,e⟩:=au e
   obtain⟨rfl,rfl⟩:=cD e
   cases g with
   | cons g p=>
     cases p
     cases g
     obtain⟨v,l,o⟩:=f.get m
     rw[f.length] at h
     exact⟨a,r,i,k,v,rfl,rfl,n,j.1,j.2,h,l,q _ _ (f.eraseIdx k) o⟩
  ·cases e
 ·cases e
def J8{f:bH}{g:bH}{o:Expr}{h d:Pos}(l:PE X o (tD (md X) f))(m:PE X e (tD (md X) g))(j:attributeBase o "pop" X.env (eval o X.env)=eval o X.env:=by rfl) (k:((backTo d (starEach [e] X.env)).all (λx=> !x.1)&&(backToKw d (keywordEach [] X.env)).all (λx=>x.1.isSome)
   &&decide ([e].length+([]:List Keyword).length+(if ([]:List Keyword).isEmpty then 0 else 1)<30))=true:=by rfl)
  (i:(h.endLine==d.line)=true:=by rfl) (hs:starEach [e] X.env= [(false,eval e X.env)]:=by rfl):PE X (.Call (.Attribute o "pop" h) [e] [] d) (tD (md X) (jg gS f (aq g av))):=
 kn (vA PySem.F.plainAttrs_list PySem.F.slot_list_pop PySem.F.type_list_pop G1 l (cT m i_ hs) j k i hs) (Lj HY)
def y2(f:bH)(g:fu):bH:=λi S=>(f i S).bind λ(x,h)=>match x with
 | .ref k=>(g i h).bind λ(p,d)=>match h[k]?,d[k]? with
   |some (.lst _),some (.lst ds)=>if p.2.isM=true/\ds.length+p.1.length<=sizeLine then some (.non,d.set k (.lst (ds++p.1))) else none
   |_,_=>none
 |_=>none
def Ob{f:bH}{g:fu}:∀r H Q,tD (md X) (y2 f g) r H Q->ON X.K "list" Ew (tD (md X) f) (HM (tQ (md X) g) LW) r H Q:=λr H Q F=>by
 obtain⟨P,u,S,d,S',ok,e,q⟩:=F
 obtain⟨⟨x,w⟩,L,e⟩:=au e
 cases x with
 | ref k=>
   dsimp only at e
   obtain⟨⟨⟨R,t⟩,J⟩,I,e⟩:=au e
   dsimp only at e
   split at e
   · rename_i a0 ds o h
     split at e
     · rename_i c
       obtain⟨rfl,rfl⟩:=cD e
       refine⟨P,u,S,_,w,ok,L,λp v H1 B l G=> ?_⟩
       cases G with
       | ref s=>
         rename_i a
         obtain⟨m,C,_⟩:=l.obj k a _ s o
         refine⟨.inl ⟨rfl,m,je.of C⟩,p,u,w,R,t,J,ok.to B l,I,λZ b W H2 z j M A=> ?_⟩
         have i:=di z.pre s
         obtain⟨Y,N,y⟩:=j.obj k a _ i h
         refine⟨a,b,Y,W,rfl,rfl,N,M.sqM c.1,by rw[←y.length,←A.length];exact c.2,?_⟩
         obtain⟨n,U⟩:=j.putL i h (y.append A)
         exact q _ _ _ ((B.trans z).trans U) n .non
     · cases e
   · cases e
 |_=>cases e
def HS{f:bH}{g:fu}{o:Expr}{h d:Pos}(l:PE X o (tD (md X) f))(m:PE X e (tQ (md X) g))(j:attributeBase o "extend" X.env (eval o X.env)=eval o X.env:=by rfl) (k:((backTo d (starEach [e] X.env)).all (λx=> !x.1)&&(backToKw d (keywordEach [] X.env)).all (λx=>x.1.isSome)
   &&decide ([e].length+([]:List Keyword).length+(if ([]:List Keyword).isEmpty then 0 else 1)<30))=true:=by rfl)
  (i:(h.endLine==d.line)=true:=by rfl) (hs:starEach [e] X.env= [(false,eval e X.env)]:=by rfl):PE X (.Call (.Attribute o "extend" h) [e] [] d) (tD (md X) (y2 f g)):=
 kn (vA PySem.F.plainAttrs_list PySem.F.slot_list_extend PySem.F.type_list_extend Gi l (eO m ij hs) j k i hs) Ob
def wO(f g:bH):nR:=λd h S=>(f h S).bind λ(x,m)=>(g h m).bind λ(y,l)=>match x,y with
 | .ref k,.int i=>match l[k]? with
   |some (.lst ds)=>(C7 ds.length i).bind λj=>some (h,l.set k (.lst (ds.set j d)))
   |_=>none
 |_,_=>none
def PP{f g:bH}:∀v s H Q,tG (md X) (wO f g) v s H Q->NB (tD (md X) f) (tD (md X) g) KR v s H Q:=λv s H Q G=>by
 obtain⟨P,w,S,d,K,Y,ok,r,e,q⟩:=G
 obtain⟨⟨x,z⟩,M,e⟩:=au e
 obtain⟨⟨y,L⟩,J,e⟩:=au e
 cases x with
 | ref k=>
   cases y with
   | int i=>
     dsimp only at e
     split at e
     · rename_i ds t
       obtain⟨j,I,e⟩:=au e
       obtain⟨rfl,rfl⟩:=cD e
       refine⟨P,w,S,_,z,ok,M,λo v1 H1 C p m=>⟨o,w,z,_,L,ok.to C p,J,λW Z H2 F l U=> ?_⟩⟩
       cases U
       have m:=m.ext F
       cases m with
       | ref u=>
         obtain⟨R,N,A⟩:=l.obj k _ _ u t
         have h:=C.trans F
         obtain⟨n,B⟩:=l.putL u t (bc.set (r.ext h) j A)
         exact⟨_,R,i,j,rfl,rfl,N,by rw[←A.length];exact I,q _ _ _ (h.trans B) ((ok.to h l).to B n)⟩
     · cases e
   |_=>cases e
 |_=>cases e
def Qr{o i:Expr}{f g:bH}(d:PE X o (tD (md X) f))(hi:PE X i (tD (md X) g))
  (h:∀v,assign (.Subscript o i pos) X.env v=(do
   let ov←holding [v] (eval o X.env)
   let iv←holding [v,ov] (eval i X.env)
   standAt pos
   holding [v,ov,iv] (setItem ov iv v)
   release [v,ov,iv] []):=by intro _;rfl):PG X (.Subscript o i pos) (tG (md X) (wO f g)):=OM (Le d hi set_list h) PP
def OS(f g h:bH):cE:=λd S=>(f d S).bind λ(x,p)=>(g d p).bind λ(y,l)=>match x,y with
 | .ref k,.int i=>match l[k]? with
   | some (.lst ds)=>if 0<=i then(ds[i.toNat]?).bind λz=>(h d l).bind λ(w,o)=>match z,w,o[k]? with
     |.int m,.int n,some (.lst es)=>(C7 es.length i).bind λj=>some (.nx d (o.set k (.lst (es.set j (.int (m+n))))))
     |_,_,_=>none
     else none
   |_=>none
 |_,_=>none
def Pp{o i e:Expr}{f g h:bH}{s:Pos}(ho:PE X o (tD (md X) f))(hi:PE X i (tD (md X) g))(he:PE X e (tD (md X) h))
  (A:∀B C new,augStore i B C new=(do holding [new,B,C] (setItem B C new);release [new,B,C] [];pure .next):=by intros;rfl):PS X (.AugAssign (.Subscript o i s) .Add e pos) (tS (md X) (OS f g h)):=
 EH (JW ho hi Iz he Lr set_list A) λD σ H qq=>by
  obtain⟨ρ,F,S,o,ok,e,q⟩:=qq
  obtain⟨⟨x,P⟩,e1,e⟩:=au e
  obtain⟨⟨y,N⟩,e2,e⟩:=au e
  cases x with
  | ref k=>
    cases y with
    | int i=>
      dsimp only at e
      split at e
      · rename_i ds hs
        split at e
        · rename_i hi
          obtain⟨z,e3,e⟩:=au e
          obtain⟨⟨w,Q⟩,e4,e⟩:=au e
          cases z with
          | int m=>
            cases w with
            | int n=>
              cases d:Q[k]? with
              |none=>rw[d] at e;cases e
              | some o3=>
                rw[d] at e
                cases o3 with
                | lst es=>
                  dsimp only at e
                  obtain⟨j,e5,e⟩:=au e
                  cases e
                  refine⟨ρ,F,S,_,P,ok,e1,λK v1 H1 W L G=>⟨K,F,P,_,N,ok.to W L,e2,λM v2 H2 Z u r2=> ?_⟩⟩
                  cases r2
                  have G:=G.ext Z
                  cases G with
                  | ref A=>
                    have t:=W.trans Z
                    obtain⟨vs,h3,h4⟩:=u.obj k _ _ A hs
                    obtain⟨v,h5,h6⟩:=h4.get e3
                    cases h6
                    refine⟨_,vs,i.toNat,_,rfl,by rw[Int.toNat_of_nonneg hi],je.of h3,h5,M,F,N,_,Q,ok.to t u,e4,λa0 v3 H3 U l r3=> ?_⟩
                    cases r3
                    have r:=di U.pre A
                    obtain⟨J,g3,R⟩:=l.obj k _ _ r d
                    have p:=t.trans U
                    obtain⟨I,Y⟩:=l.putL r d (bc.set (.int (m+n)) j R)
                    exact⟨m,n,rfl,rfl,_,J,i,j,rfl,rfl,g3,by rw[←R.length];exact e5,q _ _ _ (p.trans Y) ((ok.to p l).to Y I)⟩
                |_=>cases e
            |_=>cases e
          |_=>cases e
        · cases e
      · cases e
    |_=>cases e
  |_=>cases e
def Jm(i j:Nat)(f:ic):cE:=λd S=>(f d S).bind λ(h,g)=>match h with
 | [v,w]=>some (.nx ((d.set i (some v)).set j (some w)) g)
 |_=>none
def Nk{i j:Nat}{f:ic}(h:PS X st (NA i j (AO (md X) f))):PS X st (tS (md X) (Jm i j f)):=EH h λD w H l=>by
 obtain⟨s,k,S,o,ok,e,q⟩:=l
 obtain⟨⟨v,p⟩,n,e⟩:=au e
 dsimp only at e
 split at e
 ·cases e
  refine⟨s,k,S,_,p,ok,n,λg u t x st r=> ?_⟩
  cases r with
  | cons r d=>
    cases d with
    | cons m d=>
      cases d
      exact⟨_,_,rfl,q _ _ _ x ⟨((ok.en.ext x).set r).set m,st⟩⟩
 ·cases e
end
def eR(cells:List (Str×Addr)):List (Str×NameKind)->List (Str×Addr)->List (Str×Addr)
 | [],acc=>acc
 |(n,k)::r,acc=>if (k==.free)=true then eR cells r ((n,(cells.lookup n).getD 0)::acc) else eR cells r acc
theorem rT{env:Env}:∀(names:List (Str×NameKind)) (b:List (Str×Addr)),(∀y∈names,y.2=.free->(env.cells.lookup y.1).isSome=true)→
  (forIn names b λ(x:Str×NameKind) (f:List (Str×Addr))=>(do
   if (x.2==NameKind.free)=true then do
    let c←cellOf env x.1
    pure (ForInStep.yield ((x.1,c)::f))
   else pure (ForInStep.yield f):Sem (ForInStep (List (Str×Addr)))))=(pure (eR env.cells names b):Sem _)
 | [],b,_=>rfl
 | (n,k)::r,b,h=>by
   rw[List.forIn_cons]
   unfold eR
   by_cases c:(k==NameKind.free)=true
   · obtain⟨a,e⟩:=Option.isSome_iff_exists.mp (h (n,k) QBq (by simpa using c))
     simp only[c,if_true]
     have g:cellOf env n=pure a:=by
       unfold cellOf
       rw[e]
     rw[g,pure_bind,pure_bind,e]
     exact rT r _ λy d=>h y (Qpq _ d)
   · simp only[c,Bool.false_eq_true,if_false]
     rw[pure_bind]
     exact rT r _ λy d=>h y (Qpq _ d)
def HF{a:Scope}{env:Env}(h:∀y∈a.names,y.2=.free->(env.cells.lookup y.1).isSome=true):closureFor a env=pure (eR env.cells a.names []):=by
 unfold closureFor
 have:=rT a.names [] h
 rw[bind_pure]
 exact this
theorem wg{cells:List (Str×Addr)}:∀(names:List (Str×NameKind)) (a:List (Str×Addr)) (p:Str×Addr),p∈eR cells names a->p∈a\/∃n,(n,NameKind.free)∈names/\p=(n,(cells.lookup n).getD 0)
 | [],a,p,h=>.inl h
 | (n,k)::r,a,p,h=>by
   unfold eR at h
   split at h
   · rename_i c
     rcases wg r _ p h with h|⟨m,b,d⟩
     · rcases Qsq.mp h with h|h
       · exact .inr ⟨n,by rw[show k=NameKind.free by simpa using c];exact QBq,h⟩
       · exact .inl h
     · exact .inr ⟨m,Qpq _ b,d⟩
   · rcases wg r _ p h with h|⟨m,b,d⟩
     · exact .inl h
     · exact .inr ⟨m,Qpq _ b,d⟩
theorem wH{cells:List (Str×Addr)}{x:Str}:∀(names:List (Str×NameKind)) (a:List (Str×Addr)),((x,NameKind.free)∈names\/∃c,(x,c)∈a)->∃c,(x,c)∈eR cells names a
 | [],a,h=>by
   rcases h with h|h
   · cases h
   · exact h
 | (n,k)::r,a,h=>by
   unfold eR
   split
   · rename_i c
     refine wH r _ ?_
     rcases h with h|⟨c,h⟩
     · rcases Qsq.mp h with h|h
       · cases h;exact .inr ⟨_,QBq⟩
       · exact .inl h
     · exact .inr ⟨c,Qpq _ h⟩
   · rename_i c
     refine wH r _ ?_
     rcases h with h|h
     · rcases Qsq.mp h with h|h
       · cases h;exact absurd rfl c
       · exact .inl h
     · exact .inr h
theorem oh{x:Str}{c:Addr}:∀{l:List (Str×Addr)},(x,c)∈l->∃b,l.lookup x=some b
 | [],h=>by cases h
 | (n,d)::r,h=>by
   unfold List.lookup
   by_cases e:(x==n)=true
   · rw[e];exact⟨d,rfl⟩
   · have a:(x==n)=false:=by simpa using e
     rw[a]
     rcases Qsq.mp h with h|h
     · cases h;simp at e
     · exact oh h
def vh(b:List Str)(a:Str->Option NameKind)(names:List (Str×NameKind)):List (Option Nat)->List Str->Bool
 |some j::js,x::N=>(b[j]? ==some x)&&(a x==some .cell||a x==some .free)&&(names.lookup x==some .free)&&vh b a names js N
 |none::js,_::N=>vh b a names js N
 |_,_=>true
theorem uX{b:List Str}{a:Str->Option NameKind}{names:List (Str×NameKind)}:∀{js:List (Option Nat)} {N:List Str} {k j:Nat} {x:Str},vh b a names js N=true->js[k]?=some (some j)->N[k]?=some x->b[j]?=some x/\(a x=some .cell\/a x=some .free)/\names.lookup x=some .free
 | some i::js,y::N,0,j,x,h,h1,h2=>by
   cases h1
   cases h2
   simp only[vh,QCq,Bool.or_eq_true,beq_iff_eq] at h
   exact⟨h.1.1.1,h.1.1.2,h.1.2⟩
 | some i::js,y::N,k+1,j,x,h,h1,h2=>by
   simp only[vh,QCq] at h
   exact uX h.2 (by simpa using h1) (by simpa using h2)
 |none::js,y::N,0,j,x,h,h1,h2=>by cases h1
 |none::js,y::N,k+1,j,x,h,h1,h2=>uX (k:=k) (by simpa [vh] using h) (by simpa using h1) (by simpa using h2)
 | [],N,k,j,x,h,h1,h2=>by simp at h1
 |some i::js,[],k,j,x,h,h1,h2=>by simp at h2
 |none::js,[],k,j,x,h,h1,h2=>by simp at h2
theorem p8{env:Env}{x:Str}:∀{names:List (Str×NameKind)},names.lookup x=some .free->(names.map λ(n,k)=>if (k==NameKind.free&&env.scope.kind==.function&&env.kindOf n==some .cell) then(n,NameKind.cell) else(n,k)).lookup x=some .cell∨
  (names.map λ(n,k)=>if (k==NameKind.free&&env.scope.kind==.function&&env.kindOf n==some .cell) then(n,NameKind.cell) else(n,k)).lookup x=some .free
 | [],h=>by cases h
 | (n,k)::r,h=>by
   unfold List.lookup at h
   rw[QDq]
   by_cases e:(x==n)=true
   · rw[e] at h
     cases h
     dsimp only
     split
     · left;unfold List.lookup;rw[e]
     · right;unfold List.lookup;rw[e]
   · have a:(x==n)=false:=by simpa using e
     rw[a] at h
     have b:=p8 (env:=env) h
     dsimp only
     split <;>(unfold List.lookup;rw[a];exact b)
def aL.gen{X:Cx}{N:List Str}{js:List (Option Nat)}{d:Scope}(k:d.kind=.function)(p:d.names.all (λy=>y.2 !=.cell)=true)(u:d.names.all (λy=>y.2 !=.local||d.names.lookup y.1==some .local)=true)
  (q:d.names.all (λy=>y.2 !=.free||(X.env.cells.lookup y.1).isSome)=true) (v:vh X.N X.env.kindOf d.names js N=true) (s:js.length=N.length):aL X N js d (eR X.env.cells d.names []) where
 kind:=k
 nocell:=λy f=>by
  have:=QUq.mp p y f
  simpa using this
 names:=λy f e=>by
  have:=QUq.mp u y f
  rw[e] at this
  simpa using this
 clos:=HF λy f e=>by
  have:=QUq.mp q y f
  rw[e] at this
  simpa using this
 sub:=λx c h=>by
  rcases wg _ _ _ (PySem.mem_of_lookup h) with h|⟨n,m,e⟩
  ·cases h
  ·cases e
   have:=QUq.mp q _ m
   have r:(X.env.cells.lookup x).isSome=true:=by simpa using this
   obtain⟨c,g⟩:=Option.isSome_iff_exists.mp r
   rw[g]
   rfl
 has:=λx h=>by
  have l:(x,NameKind.free)∈d.names:=by
   have:∃k,(relabel d X.env).names.lookup x=some k/\(k=.cell\/k=.free):=by
    rcases h with h|h
    ·exact⟨_,h,.inl rfl⟩
    ·exact⟨_,h,.inr rfl⟩
   obtain⟨B,t,g⟩:=this
   have o:=PySem.mem_of_lookup t
   unfold relabel at o
   obtain⟨⟨n,A⟩,f,i⟩:=Qkq.mp o
   dsimp only at i
   split at i
   ·rename_i c
    cases i
    simp only[QCq] at c
    have:A=NameKind.free:=by simpa using c.1.1
    rw[←this]
    exact f
   ·cases i
    rcases g with z|z
    ·have:=QUq.mp p _ f
     rw[z] at this
     simp at this
    ·rw[←z];exact f
  obtain⟨c,g⟩:=wH (cells:=X.env.cells) d.names [] (.inl l)
  exact oh g
 cap:=λk j x w m=>by
  obtain⟨a,b,c⟩:=uX v w m
  refine⟨a,b,?_⟩
  unfold relabel
  exact p8 c
 len:=s
structure eA(P:Program)(w:World)(K:PySem.W.Frag)(mg:Str->Option Value)(base:Heap)(k:Nat)(x:Str)(ps:List Str)(F:cU):Prop where
 ex:∃f fd,bh P w K mg base dm k f fd ps (dM ⟨K,mg⟩ ps.length F)/\Binds K fd ps []/\PySem.W.keepIn K (.ref f)=true/\mg x=some (.ref f)
section
variable{X:Cx}{x:Str}{k n:Nat}{ps:List Str}{F:cU}{e:Expr}{es:List Expr}{g:ic}{p pos:Pos}
def Nl(C:eA X.prog X.w X.K X.mg X.base k x ps F)(i:fZ k X.A)(d:Gl X x)(c:PA X (e::es) (AO (md X) g))(j:nA ps.length g)
  (a:(x==("__debug__":Str))=false:=by decide) (he:starEach (e::es) X.env=(false,eval e X.env)::starEach es X.env:=by rfl) (hpl:(backTo pos (starEach es X.env)).any (·.1)=false:=by rfl):
  PE X (.Call (.Name x p) (e::es) [] pos) (tD (md X) (ax F g)):=by
 obtain⟨f,l,G,b,h,m⟩:=C.ex
 exact Mv G i d m h b c j a he hpl
def NT(C:eA X.prog X.w X.K X.mg X.base k x ps F)(i:fZ k X.A)(d:Gl X x)(c:PA X (e::es) (AO (md X) g))(j:nA ps.length g)
  (a:(x==("__debug__":Str))=false:=by decide) (he:starEach (e::es) X.env=(false,eval e X.env)::starEach es X.env:=by rfl) (hpl:(backTo pos (starEach es X.env)).any (·.1)=false:=by rfl):
  PE X (.Call (.Name x p) (e::es) [] pos) (tL (md X) (dX F g)):=by
 obtain⟨f,l,G,b,h,m⟩:=C.ex
 exact L8 G i d m h b c j a he hpl
end
def eA.mono{P:Program}{w:World}{K:PySem.W.Frag}{mg:Str->Option Value}{base:Heap}{j k:Nat}{x:Str}{ps:List Str}{F:cU}(C:eA P w K mg base j x ps F)(h:j<=k):eA P w K mg base k x ps F:=by
 obtain⟨f,a,G,b,c,m⟩:=C.ex
 exact⟨f,a,G.mono h,b,c,m⟩
structure Bl(mg:Str->Option Value):Prop where
 len:mg "len"=none
 tuple:mg "tuple"=none
 list:mg "list"=none
 dict:mg "dict"=none
 set:mg "set"=none
 int:mg "int"=none
 str:mg "str"=none
 bool:mg "bool"=none
 all:mg "all"=none
 any:mg "any"=none
 range:mg "range"=none
 zip:mg "zip"=none
 sorted:mg "sorted"=none
 isi:mg "isinstance"=none
 min:mg "min"=none
 max:mg "max"=none
 abs:mg "abs"=none
 enum:mg "enumerate"=none
open AutoSeq1 in
def pG(l:Addr)(items:Array Value)(n:Nat)(b:Addr)(a:Array Value)(m:Nat)(o:Option Addr)(p:Array (Option Value))(k:¬(!items.isEmpty&&Builtin.List.listTooLong (items.size+a.size))=true)(e:items.size<=sizeLine)(c:items.size+a.size<=sizeLine+1):
  Meets (Builtin.«list.extend» ⟨[.ref l,.ref b],[]⟩) (λ_ R s=>s.heap.get? l=some {cls:=.type "list",dict:=none,data:=.seq items n,slots:= #[]}/\s.heap.get? b=some {cls:=.type "tuple",dict:=o,data:=.seq a m,slots:=p}/\R (.ok (.ret Value.none)) {s with heap:=s.heap.update l (Obj.mapSeq λx=>x++a),toks:=s.toks}):=
 .of_wp λj w A R s h=>by
  obtain⟨r,g,d,y,v⟩:=s;obtain⟨i,q,h⟩:=h;have C:=idx_int;have z:=AutoSeq1.sub_tuple_tuple;have B:=AutoSeq1.sub_list_list;have t:=AutoSeq1.sub_tuple_list;have u:=AutoSeq1.sub_list_tuple;
  have f:(items++a).size<=sizeLine+1:=by rw[Array.size_append];exact c
  wp_walk using (wpAny_updateSeq i rfl (hz:=e) (_hz':=f)),AutoSeq1.wpAny_loadPart' i,AutoSeq1.wpAny_loadPart' q;exact⟨_,rfl,h⟩
section
variable{X:Cx}{a b c e:Expr}{pos:Pos}{st:Stmt}
def JV:MF X "list.extend" (λx vs H Q=>∃l b xs i,x=.ref l/\vs= [.ref b]/\H l=some (.lst xs)/\jq X.K H b i/\xs.length+i.length<=sizeLine/\Q .non (upd H l (.lst (xs++i)))):=by
 intro m s R H x vs v P Q I y t h
 obtain⟨l,b,xs,i,rfl,rfl,hH,hB,hz,q⟩:=h
 cases y
 obtain⟨u,rfl,ru⟩:=t.one
 cases ru
 obtain⟨z,f,n,r,N,e⟩:=I.lstM hH
 obtain⟨d,o,⟨⟨G,J,A,L⟩,w,p,C,k⟩,M⟩:=I.tuple hB
 have B:=o.length
 simp only at p k
 subst p k
 have j:f.toArray.size+d.toArray.size<=sizeLine:=by rw[Qjq,Qjq];omega
 have g:¬(!f.toArray.isEmpty&&Builtin.List.listTooLong (f.toArray.size+d.toArray.size))=true:=by
  rw[ve j,Bool.and_false]
  exact Qtq
 refine call_meets F.slot_list_extend ⟨_,e,rfl⟩ F.entry_list_extend (F.args_list_extend_2 _ _)
  (pG l f.toArray n b d.toArray C J L g (by rw[Qjq];omega) (by omega)) ⟨e,w,?_⟩
 refine⟨.non,_,I.lset (its':=f++d) hH e (by simp) (r.append o) ?_,rfl,q⟩
 rw[lQa]
 omega
def xY(f:bH)(g:fu):bH:=λi S=>(f i S).bind λ(x,h)=>match x with
 | .ref k=>(g i h).bind λ(p,d)=>match h[k]?,d[k]? with
   |some (.lst _),some (.lst ds)=>if p.2.isL=false/\ds.length+p.1.length<=sizeLine then some (.non,d.set k (.lst (ds++p.1))) else none
   |_,_=>none
 |_=>none
def LA{f:bH}{g:fu}:∀r H Q,tD (md X) (xY f g) r H Q->ON X.K "list" (λx vs H Q=>∃l b xs p,x=.ref l/\vs= [.ref b]/\H l=some (.lst xs)/\jq X.K H b p/\xs.length+p.length<=sizeLine/\Q .non (upd H l (.lst (xs++p)))) (tD (md X) f) (HM (tQ (md X) g) LW) r H Q:=λr H Q I=>by
 obtain⟨U,y,S,d,S',ok,e,q⟩:=I
 obtain⟨⟨x,z⟩,N,e⟩:=au e
 cases x with
 | ref k=>
   dsimp only at e
   obtain⟨⟨⟨W,t⟩,M⟩,L,e⟩:=au e
   dsimp only at e
   split at e
   · rename_i a1 ds s h
     split at e
     · rename_i c
       obtain⟨rfl,rfl⟩:=cD e
       refine⟨U,y,S,_,z,ok,N,λu v H1 F m J=> ?_⟩
       cases J with
       | ref w=>
         rename_i a
         obtain⟨n,G,_⟩:=m.obj k a _ w s
         refine⟨.inl ⟨rfl,n,je.of G⟩,u,y,z,W,t,M,ok.to F m,L,λa0 b Z H2 B j P C=> ?_⟩
         have i:=di B.pre w
         obtain⟨vs,R,A⟩:=j.obj k a _ i h
         refine⟨a,b,vs,Z,rfl,rfl,R,P.sqT c.1,by rw[←A.length,←C.length];exact c.2,?_⟩
         obtain⟨o,Y⟩:=j.putL i h (A.append C)
         exact q _ _ _ ((F.trans B).trans Y) o .non
     · cases e
   · cases e
 |_=>cases e
def ML{f:bH}{g:fu}{o:Expr}{h d:Pos}(l:PE X o (tD (md X) f))(m:PE X e (tQ (md X) g))(j:attributeBase o "extend" X.env (eval o X.env)=eval o X.env:=by rfl) (k:((backTo d (starEach [e] X.env)).all (λx=> !x.1)&&(backToKw d (keywordEach [] X.env)).all (λx=>x.1.isSome)
   &&decide ([e].length+([]:List Keyword).length+(if ([]:List Keyword).isEmpty then 0 else 1)<30))=true:=by rfl)
  (i:(h.endLine==d.line)=true:=by rfl) (hs:starEach [e] X.env= [(false,eval e X.env)]:=by rfl):PE X (.Call (.Attribute o "extend" h) [e] [] d) (tD (md X) (xY f g)):=
 kn (vA PySem.F.plainAttrs_list PySem.F.slot_list_extend PySem.F.type_list_extend JV l (eO m ij hs) j k i hs) LA
def qD(x:V):List V->Option Nat
 | []=>none
 |y::r=>if uU y x=true then some 0 else(qD x r).map (·+1)
theorem Fc{x:V}:∀{xs:List V} {j:Nat},qD x xs=some j->(∃y,xs[j]?=some y/\uU y x=true)/\∀m y,m<j->xs[m]?=some y->uU y x=false
 | [],_,h=>by cases h
 | y::r,j,h=>by
   unfold qD at h
   split at h
   · rename_i c
     cases h
     exact⟨⟨y,rfl,c⟩,λm _ d=>absurd d (Nat.not_lt_zero _)⟩
   · rename_i c
     obtain⟨i,l,rfl⟩:=oQm.mp h
     obtain⟨⟨z,g,n⟩,k⟩:=Fc l
     refine⟨⟨z,by simpa using g,n⟩,λm w d f=> ?_⟩
     cases m with
     |zero=>cases f;simpa using c
     |succ m=>exact k m w (by omega) (by simpa using f)
def Ik:OV X "list.index" (λx vs H Q=>∃a xs y j,x=.ref a/\vs= [y]/\je X.K H a xs/\ix y=true/\xs.all ix=true/\qD y xs=some j/\Q (.int (j:Nat)) H):=by
 intro C s σ H x vs v us Q I R N h
 obtain⟨a,xs,y,j,rfl,rfl,hq,fy,fs,hj,q⟩:=h
 cases R
 obtain⟨u,rfl,ru⟩:=N.one
 obtain⟨d,r,pl,hz⟩:=I.list hq
 obtain⟨⟨Z,dd,S,sl⟩,n,e,G,g,B⟩:=pl
 simp only at G g B
 subst G g B
 obtain⟨⟨z,k,U⟩,Y⟩:=Fc hj
 have hl:=r.length
 have M:j<xs.length:=(gQs.mp k).1
 obtain⟨w,o,p⟩:=r.get k
 have t:d.toArray[j]'(by rw[Qjq];omega)=w:=by
  have:=(gQs.mp o).2
  simpa using this
 have J:=nq
 refine call_meets PySem.F.slot_list_index ⟨_,e,rfl⟩ PySem.F.entry_list_index (PySem.F.args_list_index_2 _ _)
  (SeqAt.list_indexAt a d.toArray n none sl u (CA y) j (by rw[Qjq];omega) (by omega) (by rw[t,zS p (QUq.mp fs z (mQg k))];exact U) λm L l=> ?_)
  ⟨e,λw o=>jV ru fy r fs w (by simpa using o),⟨.int j,H,I.tok _,⟨_,rfl⟩,q⟩⟩
 have f:m<xs.length:=by rw[Qjq] at L;omega
 obtain⟨W,A,i⟩:=r.get (gQe f)
 have P:d.toArray[m]=W:=by
  have:=(gQs.mp A).2
  simpa using this
 rw[P,zS i (QUq.mp fs _ (List.getElem_mem f))]
 exact Y m _ l (gQe f)
end
end DL
namespace Zq
open PySem
def It(t:Bool)(h:Heap)(i a:Addr)(k:Nat):Prop:=if t=true then h.IsTupleIter i a k else h.IsListIter i a k
def Sq(t:Bool)(h:Heap)(a:Addr)(xs:Array Value):Prop:=if t=true then h.IsTuple a xs else h.IsList a xs
section
variable{t t2:Bool}{h h':Heap}{i j a b z O T:Addr}{k:Nat}{xs ys:Array Value}
theorem It.at(g:It t h i a k)(f:∀o,h.get? i=some o->h'.get? i=some o):It t h' i a k:=by
 cases t with
 |true=>exact(show h.IsTupleIter i a k from g).at f
 |false=>exact(show h.IsListIter i a k from g).at f
def It.ext(g:It t h i a k)(f:Heap.ExtBut c h h')(n:i≠c):It t h' i a k:=g.at λo e=>f i o n e
def Sq.at(g:Sq t h a xs)(f:∀o,h.get? a=some o->h'.get? a=some o):Sq t h' a xs:=by
 cases t with
 |true=>obtain⟨o,e,r⟩:=(show h.IsTuple a xs from g);exact(show h'.IsTuple a xs from⟨o,f o e,r⟩)
 |false=>obtain⟨o,e,r⟩:=(show h.IsList a xs from g);exact(show h'.IsList a xs from⟨o,f o e,r⟩)
def Sq.ext(g:Sq t h a xs)(f:Heap.ExtBut c h h')(n:a≠c):Sq t h' a xs:=g.at λo e=>f a o n e
def It.obj(g:It t h i a k):∃o,h.get? i=some o/\∀v,o.data≠.cell v:=by
 cases t with
 |true=>obtain⟨o,e,_,d⟩:=(show h.IsTupleIter i a k from g);exact⟨o,e,λv n=>by rw[d] at n;cases n⟩
 |false=>obtain⟨o,e,_,d⟩:=(show h.IsListIter i a k from g);exact⟨o,e,λv n=>by rw[d] at n;cases n⟩
end
section
variable{prog:Program}{w:World}{A:Around}{E:Value->Shared->Prop}{s:Shared}{t t2:Bool}{z T O i j a b:Addr}{k:Nat}{xs ys:Array Value}{x y u v:Value}
def draw{Q:Value->Shared->Prop}(e:It t s.heap i a k)(d:Sq t s.heap a xs)(c:xs[k]?=some v)
  (q:∀h',It t h' i a (k+1)->Heap.SameBut i s.heap h'->Q v {s with heap:=h'}):wpAny (model prog w) A (Builtin.SmallTypes.nextOf<|.ref i) Q E s:=by
 cases t with
 |true=>exact Zp.N9 e d c q
 |false=>exact wpAny_nextOf_list_item e d c q
def KO(d:A.handled=none)(g:It t s.heap i a k)(f:Sq t s.heap a xs)(c:xs[k]?=none)
  (q:∀h' e,Heap.ExtBut i s.heap h'->(∃o,h'.get? e=some o/\o.cls=.type "StopIteration")->E (.ref e) {s with heap:=h'}):wpAny (model prog w) A (Builtin.SmallTypes.nextOf<|.ref i) Q E s:=by
 cases t with
 |true=>exact Zp.NY d g f c q
 |false=>exact wpAny_nextOf_list_end d g f c q
abbrev wN(h:Heap)(z T O:Addr)(c d:Value):Prop:=
 h.get? z=some {cls:=.type "zip",dict:=none,data:=.fields #[c,d,.bool false,.ref T,.ref O],slots:= #[]}
def item(D:ZipApart z T O i j a b){Q:Value->Shared->Prop}(m:wN s.heap z T O .none (.bool false))(gT:IsPair s.heap T (.ref i) (.ref j))(gO:IsPair s.heap O u v)(gi:It t s.heap i a k)(gj:It t2 s.heap j b k)
  (ga:Sq t s.heap a xs) (gb:Sq t2 s.heap b ys) (ex:xs[k]?=some x) (ey:ys[k]?=some y)
  (q:∀h',wN h' z T O (rawInt s.heap.objs.size) (.bool false)->IsPair h' O x y->It t h' i a (k+1)->It t2 h' j b (k+1)->IsPair h' s.heap.objs.size x y->Zp.Rest z O i j s.heap h'->Q (.ref s.heap.objs.size) {s with heap:=h'}):
  wpAny (model prog w) A (Builtin.«zip.__next__» ⟨[.ref z],[]⟩) (λI s'=>∃r,I=.done (.ret r)/\Q r s') E s:=by
 refine(?_:wpAny _ _ (field (.ref z) 2 >>= _) _ _ _)
 refine Qaq<|QMq m rfl (x:=.bool false) rfl ?_
 refine(?_:wpAny _ _ (field (.ref z) 3 >>= _) _ _ _)
 refine Qaq<|QMq m rfl (x:=.ref T) rfl<|Qaq<|wpAny_seqItems gT rfl ?_
 refine(?_:wpAny _ _ (Builtin.SmallTypes.ownedTupleIsFree (.ref z) >>= _) _ _ _)
 refine Qaq ?_
 unfold Builtin.SmallTypes.ownedTupleIsFree
 refine Qaq<|QMq m rfl (x:=.none) rfl<|Qgq ?_
 simp only[if_true]
 refine Qaq<|wpAny_rule<|Qaq<|QMq m rfl (x:=.ref O) rfl<|Qaq (wpAny_setField_rec m (by simp) λh1 N g=> ?_)
 replace N:wN h1 z T O .ellipsis (.bool false):=N
 refine Qaq ?_
 simp only[List.zipIdx_cons,List.zipIdx_nil,List.forIn_nil,List.forIn_cons]
 refine Qaq<|Qaq<|wpAny_onRaise ?_
 refine(?_:wpAny _ _ (Builtin.SmallTypes.nextOf (.ref i) >>= _) _ _ _)
 refine Qaq (draw (gi.ext g.extBut D.i1z) (ga.ext g.extBut D.l1z) ex λh2 i2 l=>Qgq ?_)
 have Y:IsPair h2 O u v:=l.extBut _ _ D.TOi1 (g.extBut _ _ D.TOz gO)
 refine Qaq<|wpAny_seqItems Y rfl<|Qaq (wpAny_updateSeq_pair Y λh3 J h=>Qaq<|wpAny_letGo<|Qgq ?_)
 replace J:IsPair h3 O x v:=J
 refine Qaq<|Qaq<|wpAny_onRaise ?_
 refine(?_:wpAny _ _ (Builtin.SmallTypes.nextOf (.ref j) >>= _) _ _ _)
 refine Qaq (draw (((gj.ext g.extBut D.i2z).ext l.extBut D.i12.symm).ext h.extBut D.TOi2.symm) (((gb.ext g.extBut D.l2z).ext l.extBut D.l2i1).ext h.extBut D.l2TO) ey λh4 j4 n=>Qgq ?_)
 have W:IsPair h4 O x v:=n.extBut _ _ D.TOi2 J
 refine Qaq<|wpAny_seqItems W rfl<|Qaq (wpAny_updateSeq_pair W λd B p=>Qaq<|wpAny_letGo<|Qgq<|Qgq ?_)
 replace B:IsPair d O x y:=B
 refine Qaq<|wpAny_seqItems B rfl<|Qaq<|wpAny_newTuple ?_
 have P:d.objs.size=s.heap.objs.size:=by rw[p.1,n.1,h.1,l.1,g.1]
 have R:wN d z T O .ellipsis (.bool false):=p.extBut _ _ D.TOz.symm (n.extBut _ _ D.i2z.symm<|h.extBut _ _ D.TOz.symm<|l.extBut _ _ D.i1z.symm N)
 have r5:Zp.Rest z O i j s.heap d:=λc o f F K L e=>p.extBut _ _ F (n.extBut _ _ L<|h.extBut _ _ F<|l.extBut _ _ K<|g.extBut _ _ f e)
 have i5:It t d i a (k+1):=((i2.ext h.extBut D.TOi1.symm).ext n.extBut D.i12).ext p.extBut D.TOi1.symm
 have j5:It t2 d j b (k+1):=j4.ext p.extBut D.TOi2.symm
 have U:z<d.objs.size:=Qiq R
 refine(?_:wpAny _ _ (Builtin.SmallTypes.ownedTupleHandOut (.ref z) (.ref d.objs.size) >>= _) _ _ _)
 refine Qaq ?_
 unfold Builtin.SmallTypes.ownedTupleHandOut
 have z6:wN (d.push {cls:=.type "tuple",data:=.seq #[x,y]}) z T O .ellipsis (.bool false):=Qcq _ R
 refine Qaq (wpAny_setField_rec z6 (by simp) λh7 M S=> ?_)
 replace M:wN h7 z T O (rawInt d.objs.size) (.bool false):=M
 refine wpAny_setField_rec M (by simp) λC G Z=> ?_
 replace G:wN C z T O (rawInt d.objs.size) (.bool false):=G
 have H:∀c o,c≠z->d.get? c=some o->C.get? c=some o:=λc o f e=>Z.extBut _ _ f (S.extBut _ _ f<|Qcq _ e)
 have X:IsPair C d.objs.size x y:=Z.extBut _ _ (Nat.ne_of_gt U) (S.extBut _ _ (Nat.ne_of_gt U)<|Qrq _ rfl)
 rw[P] at G X
 refine Qgq ⟨_,rfl,?_⟩
 refine(?_:Q (.ref d.objs.size) _)
 rw[P]
 exact q C G (H _ _ D.TOz B) (i5.at λo e=>H _ o D.i1z e) (j5.at λo e=>H _ o D.i2z e) X λc o f F K L e=>H c o f (r5 c o f F K L e)
def alive{Q:Option Obj->Shared->Prop}(h:Q (s.heap.get? α) s):wpAny (model prog w) A (loadIfAlive α) Q E s:=λ_ _ _=>h
def again(D:ZipApart z T O i j a b){p:Addr}{op:Obj}{n:Value}{Q:Value->Shared->Prop}(l:wN s.heap z T O (rawInt p) n)(P:s.heap.get? p=some op)(R:IsPair s.heap T (.ref i) (.ref j))(L:It t s.heap i a k)(X:It t2 s.heap j b k)
  (ga:Sq t s.heap a xs) (gb:Sq t2 s.heap b ys) (ex:xs[k]?=some x) (S:ys[k]?=some y)
  (q:∀h',wN h' z T O (rawInt p) (.bool true)->It t h' i a (k+1)->It t2 h' j b (k+1)->IsPair h' s.heap.objs.size x y->Zp.Rest z O i j s.heap h'->Q (.ref s.heap.objs.size) {s with heap:=h'}):
  wpAny (model prog w) A (Builtin.«zip.__next__» ⟨[.ref z],[]⟩) (λG B=>∃r,G=.done (.ret r)/\Q r B) E s:=by
 refine(?_:wpAny _ _ (field (.ref z) 2 >>= _) _ _ _)
 refine Qaq<|QMq l rfl (x:=.bool false) rfl ?_
 refine(?_:wpAny _ _ (field (.ref z) 3 >>= _) _ _ _)
 refine Qaq<|QMq l rfl (x:=.ref T) rfl<|Qaq<|wpAny_seqItems R rfl ?_
 refine(?_:wpAny _ _ (Builtin.SmallTypes.ownedTupleIsFree (.ref z) >>= _) _ _ _)
 refine Qaq ?_
 unfold Builtin.SmallTypes.ownedTupleIsFree
 refine Qaq<|QMq l rfl (x:=rawInt p) rfl ?_
 refine(?_:wpAny _ _ (loadIfAlive ((p:Int).toNat) >>= _) _ _ _)
 refine Qaq ?_
 rw[Int.toNat_natCast]
 refine alive ?_
 rw[P]
 refine(?_:wpAny _ _ (field (.ref z) 1 >>= _) _ _ _)
 refine Qaq<|QMq l rfl (x:=n) rfl ?_
 have J:wpAny (model prog w) A (if (n !=Value.bool true)=true then(do let _←setField (.ref z) 1 (.bool true);pure false) else pure false)
   (λr B=>r=false/\∃g,B={s with heap:=g}/\wN g z T O (rawInt p) (.bool true)/\Heap.SameBut z s.heap g) E s:=by
  by_cases c:(n !=Value.bool true)=true
  ·rw[Qhq c]
   exact Qaq (wpAny_setField_rec l (by simp) λg H d=>Qgq ⟨rfl,g,rfl,H,d⟩)
  ·rw[Quq c]
   have e:n=Value.bool true:=by simpa using c
   subst e
   exact Qgq ⟨rfl,s.heap,rfl,l,Heap.SameBut.refl _ _⟩
 refine QRq J (λr B I=> ?_) λ_ _ h=>h
 obtain⟨rfl,g,rfl,H,d⟩:=I
 simp only[Bool.false_eq_true,if_false]
 refine Qaq ?_
 simp only[List.forIn_toArray,List.forIn_cons,List.forIn_nil]
 refine Qaq<|Qaq<|QLq ?_
 refine(?_:wpAny _ _ (Builtin.SmallTypes.nextOf (.ref i) >>= _) _ _ _)
 refine Qaq (draw (L.ext d.extBut D.i1z) (ga.ext d.extBut D.l1z) ex λh2 Y m=>Qgq<|Qgq ?_)
 refine Qaq<|Qaq<|QLq ?_
 refine(?_:wpAny _ _ (Builtin.SmallTypes.nextOf (.ref j) >>= _) _ _ _)
 refine Qaq (draw ((X.ext d.extBut D.i2z).ext m.extBut D.i12.symm) ((gb.ext d.extBut D.l2z).ext m.extBut D.l2i1) S λf N C=>Qgq<|Qgq<|Qgq ?_)
 refine Qaq<|wpAny_newTuple ?_ (by show 2<=_;decide)
 have M:f.objs.size=s.heap.objs.size:=by rw[C.1,m.1,d.1]
 have F:∀c o,f.get? c=some o->(f.push {cls:=.type "tuple",data:=.seq #[x,y]}).get? c=some o:=λc o e=>Qcq _ e
 have K:IsPair (f.push {cls:=.type "tuple",data:=.seq #[x,y]}) f.objs.size x y:=Qrq _ rfl
 have U:wN (f.push {cls:=.type "tuple",data:=.seq #[x,y]}) z T O (rawInt p) (.bool true):=F _ _ (C.extBut _ _ D.i2z.symm<|m.extBut _ _ D.i1z.symm H)
 refine Qgq ⟨_,rfl,?_⟩
 refine(?_:Q (.ref f.objs.size) _)
 rw[M] at K⊢
 exact q _ U ((Y.ext C.extBut D.i12).at λo e=>F _ o e) (N.at λo e=>F _ o e) K λc o W c2 Z c4 e=>F c o (C.extBut _ _ c4<|m.extBut _ _ Z<|d.extBut _ _ W e)
def stop(D:ZipApart z T O i j a b)(C:A.handled=none)(d:wN s.heap z T O .none (.bool false))(H:IsPair s.heap T (.ref i) (.ref j))(P:It t s.heap i a k)(N:Sq t s.heap a xs)(ex:xs[k]?=none)
  (q:∀h' e,Zp.Rest z O i j s.heap h'->(∃o,h'.get? e=some o/\o.cls=.type "StopIteration")->E (.ref e) {s with heap:=h'}):
  wpAny (model prog w) A (Builtin.«zip.__next__» ⟨[.ref z],[]⟩) Q E s:=by
 refine(?_:wpAny _ _ (field (.ref z) 2 >>= _) _ _ _)
 refine Qaq<|QMq d rfl (x:=.bool false) rfl ?_
 refine(?_:wpAny _ _ (field (.ref z) 3 >>= _) _ _ _)
 refine Qaq<|QMq d rfl (x:=.ref T) rfl<|Qaq<|wpAny_seqItems H rfl ?_
 refine(?_:wpAny _ _ (Builtin.SmallTypes.ownedTupleIsFree (.ref z) >>= _) _ _ _)
 refine Qaq ?_
 unfold Builtin.SmallTypes.ownedTupleIsFree
 refine Qaq<|QMq d rfl (x:=.none) rfl<|Qgq ?_
 simp only[if_true]
 refine Qaq<|wpAny_rule<|Qaq<|QMq d rfl (x:=.ref O) rfl<|Qaq (wpAny_setField_rec d (by simp) λF g h=> ?_)
 replace g:wN F z T O .ellipsis (.bool false):=g
 refine Qaq ?_
 simp only[List.zipIdx_cons,List.zipIdx_nil,List.forIn_nil,List.forIn_cons]
 refine Qaq<|Qaq<|wpAny_onRaise ?_
 refine(?_:wpAny _ _ (Builtin.SmallTypes.nextOf (.ref i) >>= _) _ _ _)
 refine Qaq (KO C (P.ext h.extBut D.i1z) (N.ext h.extBut D.l1z) ex λI e r M=> ?_)
 obtain⟨J,f,l⟩:=M
 have p:wN I z T O .ellipsis (.bool false):=r _ _ D.i1z.symm g
 have G:e≠z:=λn=>by rw[n,p] at f;cases f;simp at l
 exact wpAny_setField_rec p (by simp) λK _ m=>q K e (λc o B _ L _ n=>m.extBut _ _ B<|r _ _ L<|h.extBut _ _ B n) ⟨J,m.extBut _ _ G f,l⟩
def NV(D:ZipApart z T O i j a b){p:Addr}{P:Obj}{l:Value}{Q:Fin->Shared->Prop}(G:A.handled=none)(f:wN s.heap z T O (rawInt p) l)(J:s.heap.get? p=some P)(K:IsPair s.heap T (.ref i) (.ref j))(S:It t s.heap i a k)(R:Sq t s.heap a xs)(ex:xs[k]?=none)
  (q:∀h' e,Zp.Rest z O i j s.heap h'->(∃o,h'.get? e=some o/\o.cls=.type "StopIteration")->E (.ref e) {s with heap:=h'}):
  wpAny (model prog w) A (Builtin.«zip.__next__» ⟨[.ref z],[]⟩) Q E s:=by
 refine(?_:wpAny _ _ (field (.ref z) 2 >>= _) _ _ _)
 refine Qaq<|QMq f rfl (x:=.bool false) rfl ?_
 refine(?_:wpAny _ _ (field (.ref z) 3 >>= _) _ _ _)
 refine Qaq<|QMq f rfl (x:=.ref T) rfl<|Qaq<|wpAny_seqItems K rfl ?_
 refine(?_:wpAny _ _ (Builtin.SmallTypes.ownedTupleIsFree (.ref z) >>= _) _ _ _)
 refine Qaq ?_
 unfold Builtin.SmallTypes.ownedTupleIsFree
 refine Qaq<|QMq f rfl (x:=rawInt p) rfl ?_
 refine(?_:wpAny _ _ (loadIfAlive ((p:Int).toNat) >>= _) _ _ _)
 refine Qaq ?_
 rw[Int.toNat_natCast]
 refine alive ?_
 rw[J]
 refine(?_:wpAny _ _ (field (.ref z) 1 >>= _) _ _ _)
 refine Qaq<|QMq f rfl (x:=l) rfl ?_
 have B:wpAny (model prog w) A (if (l !=Value.bool true)=true then(do let _←setField (.ref z) 1 (.bool true);pure false) else pure false)
   (λr C=>r=false/\∃d,C={s with heap:=d}/\wN d z T O (rawInt p) (.bool true)/\Heap.SameBut z s.heap d) E s:=by
  by_cases c:(l !=Value.bool true)=true
  ·rw[Qhq c]
   exact Qaq (wpAny_setField_rec f (by simp) λd F g=>Qgq ⟨rfl,d,rfl,F,g⟩)
  ·rw[Quq c]
   have e:l=Value.bool true:=by simpa using c
   subst e
   exact Qgq ⟨rfl,s.heap,rfl,f,Heap.SameBut.refl _ _⟩
 refine QRq B (λr C m=> ?_) λ_ _ h=>h
 obtain⟨rfl,d,rfl,F,g⟩:=m
 simp only[Bool.false_eq_true,if_false]
 refine Qaq ?_
 simp only[List.forIn_toArray,List.forIn_cons,List.forIn_nil]
 refine Qaq<|Qaq<|QLq ?_
 refine(?_:wpAny _ _ (Builtin.SmallTypes.nextOf (.ref i) >>= _) _ _ _)
 refine Qaq (KO G (S.ext g.extBut D.i1z) (R.ext g.extBut D.l1z) ex λL e I H=> ?_)
 exact q L e (λc o M _ N _ n=>I _ _ N<|g.extBut _ _ M n) H
def Zs(h:Heap)(z T O i j:Addr):Prop:=wN h z T O .none (.bool false)/\(∃u v,IsPair h O u v)\/∃(p:Addr) (c:Obj) (d:Value),wN h z T O (rawInt (p:Nat)) d/\h.get? p=some c/\p≠z/\p≠O/\p≠i/\p≠j
def Zs.but{h h':Heap}(g:Zs h z T O i j)(f:∀c o,c≠S->h.get? c=some o->h'.get? c=some o)(e:z≠S)(B:O≠S)(q:∃o,h'.get? S=some o):Zs h' z T O i j:=by
 rcases g with⟨d,u,v,C⟩|⟨p,F,l,d,r,n⟩
 ·exact .inl ⟨f _ _ e d,u,v,f _ _ B C⟩
 ·by_cases c:p=S
  ·subst c
   obtain⟨o,m⟩:=q
   exact .inr ⟨p,o,l,f _ _ e d,m,n⟩
  ·exact .inr ⟨p,F,l,f _ _ e d,f _ _ c r,n⟩
def Iq(D:ZipApart z T O i j a b){Q:Option Value->Shared->Prop}(d:Zs s.heap z T O i j)(I:IsPair s.heap T (.ref i) (.ref j))(m:It t s.heap i a k)(C:It t2 s.heap j b k)
  (M:Sq t s.heap a xs) (N:Sq t2 s.heap b ys) (ex:xs[k]?=some x) (J:ys[k]?=some y)
  (q:∀h',Zs h' z T O i j->It t h' i a (k+1)->It t2 h' j b (k+1)->IsPair h' s.heap.objs.size x y->Zp.Rest z O i j s.heap h'->Q (some<|.ref s.heap.objs.size) {s with heap:=h'}):
  wpAny (model prog w) A (pyNext<|.ref z) Q E s:=by
 unfold pyNext
 have h:∀{c o},s.heap.get? c=some o->s.heap.objs.size≠c:=λe=>Nat.ne_of_gt (Qiq e)
 obtain⟨X,S,_⟩:=m.obj
 obtain⟨Y,U,_⟩:=C.obj
 rcases d with⟨d,u,v,L⟩|⟨p,W,f1,d,H,K,R,G,P⟩
 ·have f:s.TypeIs (.ref z) "zip":=⟨_,d,rfl⟩
  exact Qaq (wpAny_attempt (QiQ (name:=Str.ofString "__next__") f F.slot_zip_next (wpAny_call_entry F.slot_zip_next f F.entry_zip_next
   (item D d I L m C M N ex J λh' r Z B n l g=>Qgq (q h' (.inr ⟨_,_,_,r,l,h d,h L,h S,h U⟩) B n l g)) (F.args_zip_next_1 _))))
 ·have f:s.TypeIs (.ref z) "zip":=⟨_,d,rfl⟩
  exact Qaq (wpAny_attempt (QiQ (name:=Str.ofString "__next__") f F.slot_zip_next (wpAny_call_entry F.slot_zip_next f F.entry_zip_next
   (again D d H I m C M N ex J λh' r B n l g=>Qgq (q h' (.inr ⟨p,W,_,r,g _ _ K R G P H,K,R,G,P⟩) B n l g)) (F.args_zip_next_1 _))))
def Cg(D:ZipApart z T O i j a b){Q:Option Value->Shared->Prop}(h:A.handled=none)(c:Zs s.heap z T O i j)(l:IsPair s.heap T (.ref i) (.ref j))(n:It t s.heap i a k)(m:Sq t s.heap a xs)(ex:xs[k]?=none)
  (q:∀h',Zp.Rest z O i j s.heap h'->Q none {s with heap:=h'}):wpAny (model prog w) A (pyNext<|.ref z) Q E s:=by
 unfold pyNext
 rcases c with⟨c,u,v,C⟩|⟨p,G,H,c,B,_⟩
 ·have d:s.TypeIs (.ref z) "zip":=⟨_,c,rfl⟩
  exact Qaq (wpAny_attempt (QiQ (name:=Str.ofString "__next__") d F.slot_zip_next (wpAny_call_entry F.slot_zip_next d F.entry_zip_next
   (stop D h c l n m ex λh' e r ⟨o,f,g⟩=>Qaq (wpAny_isInstance (T:="StopIteration") (b:=true) ⟨o,f,g⟩ isSubtype_stop (Qgq (q _ r)))) (F.args_zip_next_1 _))))
 ·have d:s.TypeIs (.ref z) "zip":=⟨_,c,rfl⟩
  exact Qaq (wpAny_attempt (QiQ (name:=Str.ofString "__next__") d F.slot_zip_next (wpAny_call_entry F.slot_zip_next d F.entry_zip_next
   (NV D h c B l n m ex λh' e r ⟨o,f,g⟩=>Qaq (wpAny_isInstance (T:="StopIteration") (b:=true) ⟨o,f,g⟩ isSubtype_stop (Qgq (q _ r)))) (F.args_zip_next_1 _))))
end
def Pi(t:Bool):String:=if t=true then "tuple_iterator" else "list_iterator"
abbrev H1(t:Bool)(h:Heap)(a:Addr):Heap:=h.push {cls:=.type (Pi t),data:=.fields #[.ref a,.int 0 0]}
abbrev H2(t t2:Bool)(h:Heap)(a b:Addr):Heap:=(H1 t h a).push {cls:=.type (Pi t2),data:=.fields #[.ref b,.int 0 0]}
abbrev H3(t t2:Bool)(h:Heap)(a b:Addr):Heap:=(H2 t t2 h a b).push {cls:=.type "tuple",data:=.seq #[.ref h.objs.size,.ref (H1 t h a).objs.size]}
abbrev H4(t t2:Bool)(h:Heap)(a b:Addr):Heap:=(H3 t t2 h a b).push {cls:=.type "tuple",data:=.seq #[.none,.none]}
abbrev H5(t t2:Bool)(h:Heap)(a b:Addr):Heap:=(H4 t t2 h a b).push {cls:=.type "zip",data:=.fields #[.none,.bool false,.bool false,.ref (H2 t t2 h a b).objs.size,.ref (H3 t t2 h a b).objs.size]}
def Sq.push(g:Sq t h a xs)(o:Obj):Sq t (h.push o) a xs:=g.at λ_ e=>Qcq _ e
def FM(t t2:Bool)(a b:Addr)(xs ys:Array Value):Meets (Builtin.«zip.__new__» ⟨[.type "zip",.ref a,.ref b],[]⟩) (λ_ R s=>Sq t s.heap a xs/\Sq t2 s.heap b ys/\R (.ok (.ret (.ref (H4 t t2 s.heap a b).objs.size))) {s with heap:=H5 t t2 s.heap a b}):=
 .of_wp λm w A R s h=>by
  obtain⟨e,g,d,i,f⟩:=s
  obtain⟨l,n,h⟩:=h
  have o:=sub_zip
  have c:=n.push {cls:=.type (Pi t),data:=.fields #[.ref a,.int 0 0]}
  cases t <;>cases t2
  ·have j:Heap.IsList (Shared.heap ⟨e,g,d,i,f⟩) a xs:=l
   have k:Heap.IsList (Shared.heap ⟨e.push {cls:=.type "list_iterator",data:=.fields #[.ref a,.int 0 0]},g,d,i,f⟩) b ys:=c
   wp_walk using wpAny_pyIter_list j,wpAny_pyIter_list k
   exact⟨_,rfl,h⟩
  ·have j:Heap.IsList (Shared.heap ⟨e,g,d,i,f⟩) a xs:=l
   have k:Heap.IsTuple (Shared.heap ⟨e.push {cls:=.type "list_iterator",data:=.fields #[.ref a,.int 0 0]},g,d,i,f⟩) b ys:=c
   wp_walk using wpAny_pyIter_list j,wpAny_pyIter_tuple k
   exact⟨_,rfl,h⟩
  ·have j:Heap.IsTuple (Shared.heap ⟨e,g,d,i,f⟩) a xs:=l
   have k:Heap.IsList (Shared.heap ⟨e.push {cls:=.type "tuple_iterator",data:=.fields #[.ref a,.int 0 0]},g,d,i,f⟩) b ys:=c
   wp_walk using wpAny_pyIter_tuple j,wpAny_pyIter_list k
   exact⟨_,rfl,h⟩
  ·have j:Heap.IsTuple (Shared.heap ⟨e,g,d,i,f⟩) a xs:=l
   have k:Heap.IsTuple (Shared.heap ⟨e.push {cls:=.type "tuple_iterator",data:=.fields #[.ref a,.int 0 0]},g,d,i,f⟩) b ys:=c
   wp_walk using wpAny_pyIter_tuple j,wpAny_pyIter_tuple k
   exact⟨_,rfl,h⟩
section
variable{prog:Program}{w:World}{A:Around}{E:Value->Shared->Prop}{s:Shared}
def KY{Q:Value->Shared->Prop}(p:Sq t s.heap a xs)(r:Sq t2 s.heap b ys)
  (q:∀h',wN h' (s.heap.objs.size+4) (s.heap.objs.size+2) (s.heap.objs.size+3) .none (.bool false)->IsPair h' (s.heap.objs.size+2) (.ref s.heap.objs.size) (.ref (s.heap.objs.size+1))->IsPair h' (s.heap.objs.size+3) .none .none→
   It t h' s.heap.objs.size a 0->It t2 h' (s.heap.objs.size+1) b 0->(∀c o,s.heap.get? c=some o->h'.get? c=some o)->Q (.ref (s.heap.objs.size+4)) {s with heap:=h'}):
  wpAny (model prog w) A (call (.type "zip") [.ref a,.ref b]) Q E s:=by
 refine callType_new F.called_zip (by decide) (F.typeCall_zip_2 _ _) (F.newCall_zip_2 _ _) (λf=>F.args_object_init_3 f _ _) F.entry_zip_new (FM t t2 a b xs ys) ⟨p,r,?_⟩
 have g:(H1 t s.heap a).objs.size=s.heap.objs.size+1:=Heap.size_push ..
 have e:(H2 t t2 s.heap a b).objs.size=s.heap.objs.size+2:=by rw[Heap.size_push,g]
 have d:(H3 t t2 s.heap a b).objs.size=s.heap.objs.size+3:=by rw[Heap.size_push,e]
 have k:(H4 t t2 s.heap a b).objs.size=s.heap.objs.size+4:=by rw[Heap.size_push,d]
 have h:(H5 t t2 s.heap a b).get? (H4 t t2 s.heap a b).objs.size=some _:=Qrq _ rfl
 have i:(H5 t t2 s.heap a b).get? (H3 t t2 s.heap a b).objs.size=some _:=Qcq _ (Qrq _ rfl)
 have l:(H5 t t2 s.heap a b).get? (H2 t t2 s.heap a b).objs.size=some _:=Qcq _ (Qcq _<|Qrq _ rfl)
 have j:(H5 t t2 s.heap a b).get? (H1 t s.heap a).objs.size=some _:=Qcq _ (Qcq _<|Qcq _<|Qrq _ rfl)
 have m:(H5 t t2 s.heap a b).get? s.heap.objs.size=some _:=Qcq _ (Qcq _<|Qcq _<|Qcq _<|Qrq _ rfl)
 refine(?_:_/\_)
 rw[e,d,k] at h
 rw[g,e] at l
 rw[d] at i
 rw[g] at j
 rw[k]
 refine⟨⟨_,h,rfl⟩,q _ h l i ?_ ?_ λc o n=>Qcq _<|Qcq _<|Qcq _<|Qcq _<|Qcq _ n⟩
 ·cases t <;>exact⟨_,m,rfl,rfl⟩
 ·cases t2 <;>exact⟨_,j,rfl,rfl⟩
end
def sy:typeLookup (.type "zip") "__getattr__"=pure none:=by rw[typeLookup_type,builtinLookup_eq_fast];kernel_rfl
def kG:entryFor table "zip.__getattribute__"=some Builtin.«object.__getattribute__»:=
 entryFor_alias (id':="object.__getattribute__") (by kernel_rfl) (by decide +kernel) (by decide +kernel) (by kernel_rfl)
def uB:typeLookup (Value.type "zip") (Str.ofString "keys")=pure none:=by
 rw[typeLookup_type,builtinLookup_eq_fast]
 rfl
def vi(a:Addr)(fs:Array Value)(name:Str)(u:Tok)(e:typeLookup (.type "zip") name=pure none)(b:(["__module__","__name__","__qualname__","__doc__","__annotations__"]:List Str).contains name=false)(hsz:name.length+100<=sizeLine:=by size_fits):
  Meets (Builtin.«object.__getattribute__» ⟨[.ref a,.str name u],[]⟩) (λA R s=>s.heap.get? a=some {cls:=.type "zip",dict:=none,data:=.fields fs,slots:= #[]}/\raisesAttr (.ref a) name A R s):=
 Meets.of_wp λf w A R s c=>by
  obtain⟨h,g,d,k,j⟩:=s
  obtain⟨i,c⟩:=c
  have l:(⟨h,g,d,k,j⟩:Shared).TypeIs (.ref a) "zip":=⟨_,i,rfl⟩
  unfold Builtin.«object.__getattribute__»
  repeat (any_goals (first|assumption|wp_step))
  simp only[b,Bool.false_eq_true,if_false]
  repeat (any_goals (first|assumption|wp_step))
  exact wpAny_raiseAttrError c.1 c.2 (attrMsg_fits (by decide +kernel) hsz)
def Fp{prog:Program}{w:World}{A:Around}{E:Value->Shared->Prop}{s:Shared}{a:Addr}{fs:Array Value}{Q:Option Value->Shared->Prop}
  (j:s.heap.get? a=some {cls:=.type "zip",dict:=none,data:=.fields fs,slots:= #[]}) (n:A.handled=none)
  (h:∀(h':Heap) (i:Nat),(∀b o,s.heap.get? b=some o->h'.get? b=some o)->Q none {s with heap:=h',toks:=i}):
  wpAny (model prog w) A (getAttr? (.ref a) (Str.ofString "keys")) Q E s:=by
 obtain⟨q,g,d,i,l⟩:=s
 have u:∀x,Shared.TypeIs ⟨q,g,d,x,l⟩ (.ref a) "zip":=λx=>⟨_,j,rfl⟩
 have m:=sub_AttributeError
 have v:=F.slot_zip_getattribute.lookup
 have r:=F.slot_zip_getattribute.bind (Value.ref a)
 have t:=sy
 unfold getAttr? mkText getAttrBy? getAttrBy
 refine Qaq (Qaq (wpAny_fresh' (Qgq (Qaq (wpAny_attempt (QLq ?_))))))
 unfold typeOf
 refine Qaq (Qaq (wpAny_loadPart' j (Qgq (Qaq (wpAny_of_eq v (QgQ rfl ?_))))))
 unfold getAttrByItsOwn hookBefore
 refine Qaq (QgQ rfl (Qgq (Qaq (wpAny_attempt (QLq ?_)))))
 unfold callGetattribute
 refine QgQ rfl ?_
 unfold boundAndCalled
 refine Qaq (wpAny_of_eq r ?_)
 refine call_meets F.slot_zip_getattribute (u (i+1)) kG (F.args_zip_getattribute_2 (Value.ref a) _) (vi a fs (Str.ofString "keys") i uB (by decide +kernel) (by decide +kernel)) ⟨j,n,λh' f e c=> ?_⟩
 obtain⟨y,z,p⟩:=c.there
 have k:Shared.TypeIs ⟨h',g,d,f,l⟩ (.ref e) "AttributeError":=⟨_,p,rfl⟩
 show wpAny _ _ (getattributeRaised _ _ _ _ _ _ _) _ _ _
 unfold getattributeRaised
 refine Qaq (wpAny_isInstance k m (wpAny_ite_true rfl ?_))
 unfold hookBehind hookOrError
 refine Qaq (QgQ rfl (wpAny_of_eq t ?_))
 show wpAny _ _ (attributeErrorLeaves _ _ _ _ _) _ _ _
 unfold attributeErrorLeaves
 refine wpAny_ite_true rfl (wpAny_throw ?_)
 exact Qaq (wpAny_isInstance k m (wpAny_ite_true rfl (Qgq (h h' f c.keeps))))
def wU{prog:Program}{w:World}{A:Around}{E:Value->Shared->Prop}{s:Shared}{z:Addr}{fs:Array Value}{Q:Value->Shared->Prop}
  (k:s.heap.get? z=some {cls:=.type "zip",dict:=none,data:=.fields fs,slots:= #[]}) (g:A.handled=none)
  (h:∀(h':Heap) (d:Nat),(∀b o,(s.heap.push {cls:=.type "dict",data:=.dict #[]}).get? b=some o->h'.get? b=some o)→
   wpAny (model prog w) A.in1.in1 (pyIter (.ref z)) (λit f=>codeAny (model prog w) A.in1 (.builtin "dict.update.loop" {pos:= [.ref s.heap.objs.size,it,rawInt 0,.none]}) (wants (λr c=>r=.none/\Q (.ref s.heap.objs.size) c) E) f) E {s with heap:=h',toks:=d}):
  wpAny (model prog w) A (call (.type "dict") [.ref z]) Q E s:=by
 refine Dk.AQ ?_
 have i:=Qrq s.heap (o:={cls:=.type "dict",data:=.dict #[]}) rfl
 have m:Shared.TypeIs {s with heap:=s.heap.push {cls:=.type "dict",data:=.dict #[]}} (.ref s.heap.objs.size) "dict":=⟨_,i,rfl⟩
 have a:=Qcq {cls:=.type "dict",data:=.dict #[]} k
 have j:Shared.TypeIs {s with heap:=s.heap.push {cls:=.type "dict",data:=.dict #[]}} (.ref z) "zip":=⟨_,a,rfl⟩
 unfold Builtin.«dict.__init__» Builtin.Dict.selfAndRest
 refine Qaq (Qaq (wpAny_notOrdered_dict m ?_))
 refine Qaq (Qgq (Qgq ?_))
 show wpAny _ _ (Builtin.Dict.updateFrom _ _ _ _ _) _ _ _
 unfold Builtin.Dict.updateFrom
 refine Qaq (wpAny_typeOf j (wpAny_ite_true (by decide +kernel) (Qaq (Fp a (by simpa using g) λh' d l=> ?_))))
 refine wpAny_ite_true rfl ?_
 refine Qaq (wpAny_rule (Qaq (QRq (h h' d l) (λit f q=> ?_) λe f q=>q)))
 exact Qgq ⟨plainId_quiet (by decide +kernel) _,q⟩
end Zq
namespace Zq
open PySem Dk
section
variable{prog:Program}{w:World}{K:Type}[DecidableEq K]{knd:KeyKind prog w K}{z T O i j a b S:Addr}{t t2:Bool}{xs ys:Array Value}
def CQ{A:Around}{R:Result->Shared->Prop}(hA:A.in1.handled=none)(D:ZipApart z T O i j a b)(nS:S≠z/\S≠T/\S≠O/\S≠i/\S≠j/\S≠a/\S≠b)(a4:a≠T/\b≠T)(f:Nat->K)(x:∀(n:Nat) v,xs[n]?=some v->knd.is (f n) v=true)(a3:xs.size<=ys.size)(hn:xs.size<=sizeLine):
  ∀ (m n:Nat) (c:Int) (s:Shared),xs.size-n=m->n<=xs.size->Zs s.heap z T O i j->IsPair s.heap T (.ref i) (.ref j)->It t s.heap i a n->It t2 s.heap j b n->Sq t s.heap a xs->Sq t2 s.heap b ys->Heap.DictOf knd s.heap S (Lp f (λn=>ys.getD n .none) n)→
    (∀h' U,Heap.DictOf knd h' S (Lp f (λn=>ys.getD n .none) xs.size)->(∀c o,c≠z->c≠O->c≠i->c≠j->c≠S->s.heap.get? c=some o->h'.get? c=some o)->R (.ok (.ret .none)) {s with heap:=h',toks:=U})→
    codeAny (model prog w) A (.builtin "dict.update.loop" {pos:= [.ref S,.ref z,rawInt c,.none]}) R s:=by
 obtain⟨Y,n2,n3,n4,G,n6,n7⟩:=nS
 intro m
 induction m with
 | zero=>
   intro n c s hm a1 N y gi gj F P hd h
   have e:n=xs.size:=by omega
   subst e
   refine codeAny_builtin lN ?_
   rw[Around.under_plainId iq]
   show wpAny _ _ (do let __x←pyNext (.ref z);_) _ _ _
   refine Qaq (Cg D hA N y gi F (by simp) λh' r=> ?_)
   refine Qaq (Qgq (Qgq (h h' s.toks ?_ λc o k g l p _ e=>r c o k g l p e)))
   obtain⟨o,J,ep,M,X⟩:=hd
   exact⟨o,J,ep,r _ _ Y n3 n4 G M,X⟩
 | succ m ih=>
   intro n c s hm a1 N y gi gj F P hd h
   have q:n<xs.size:=by omega
   have ex:xs[n]?=some xs[n]:=by simp[q]
   have ey:ys[n]?=some ys[n]:=by simp[show n<ys.size by omega]
   refine codeAny_builtin lN ?_
   rw[Around.under_plainId iq]
   show wpAny _ _ (do let __x←pyNext (.ref z);_) _ _ _
   refine Qaq (Iq D N y gi gj F P ex ey λhp Q H L gp r=> ?_)
   have a0:Heap.DictOf knd hp S (Lp f (λn=>ys.getD n .none) n):=by
     obtain⟨o,J,ep,M,X⟩:=hd
     exact⟨o,J,ep,r _ _ Y n3 n4 G M,X⟩
   refine Qaq (QLq (Qaq (wpAny_tryCatch ?_)))
   unfold Builtin.Dict.pairItems
   refine Qaq (wpAny_typeOf (T:="tuple") ⟨_,gp,rfl⟩ (wpAny_ite_true rfl (Qaq ?_)))
   unfold seqItems?
   refine Qaq (wpAny_load' gp (Qgq (Qgq (QLq (wpAny_dictSet_pairs (x n _ ex) a0 (λh' u hs=> ?_) (QAq (EI f _ n) (by omega)))))))
   have ev:ys.getD n .none=ys[n]:=by simp[Array.getD,show n<ys.size by omega]
   have C:∀c o,c≠S->hp.get? c=some o->h'.get? c=some o:=λc o hc e=>by rw[hs.2 c hc];exact e
   have d:∀c o,c≠z->c≠O->c≠i->c≠j->c≠S->s.heap.get? c=some o->h'.get? c=some o:=λc o k g l p B e=>C c o B (r c o k g l p e)
   have W:∃o,h'.get? S=some o:=by obtain⟨o,_,_,e,_⟩:=u;exact⟨o,e⟩
   have I:Heap.DictOf knd h' S (Lp f (λn=>ys.getD n .none) (n+1)):=by
     show Heap.DictOf knd h' S (stored _ (f n) (ys.getD n .none))
     rw[ev]
     exact u
   refine Qgq ⟨plainId_quiet iq _,ih (n+1) (c+1) _ (by omega) q (Q.but C Y.symm n3.symm W) ?_ (H.at λo e=>C _ o n4.symm e) (L.at λo e=>C _ o G.symm e) ?_ ?_ I λa2 U Z k4=>h a2 U Z λc o k g l p B e=>k4 c o k g l p B (d c o k g l p B e)⟩
   · exact d _ _ D.TIz D.TITO D.TIi1 D.TIi2 n2.symm y
   · exact F.at λo e=>d _ o D.l1z D.l1TO D.l1i1 D.l1i2 n6.symm e
   · exact P.at λo e=>d _ o D.l2z D.l2TO D.l2i1 D.l2i2 n7.symm e
end
end Zq
namespace L2
open PySem PySem.Spec PyProof.Rows Zq
section
variable{X:Cx}
def FK(K:PySem.W.Frag)(t:Bool)(H:Hp)(a:Addr)(xs:List V):Prop:=if t=true then jq K H a xs else je K H a xs
def Inv.sq{c:List (Addr×Obj)}{d:St}{H:Hp}{s:Shared}{t:Bool}{a:Addr}{xs:List V}(I:Inv X c d H s)(h:FK X.K t H a xs):∃b:List Value,bI xs b/\Sq t s.heap a b.toArray/\xs.length<=sizeLine:=by
 cases t with
 | true=>
   obtain⟨b,r,p,z⟩:=I.tuple h
   exact⟨b,r,(show s.heap.IsTuple a b.toArray from p),z⟩
 | false=>
   obtain⟨b,r,p,z⟩:=I.list h
   exact⟨b,r,(show s.heap.IsList a b.toArray from p.isList),z⟩
def Sq.lt{t:Bool}{h:Heap}{a:Addr}{xs:Array Value}(g:Sq t h a xs):a<h.objs.size:=by
 cases t with
 |true=>obtain⟨o,e,_⟩:=(show h.IsTuple a xs from g);exact Qiq e
 |false=>obtain⟨o,e,_⟩:=(show h.IsList a xs from g);exact Qiq e
def L_(K:PySem.W.Frag):List V->Hp->VK->Prop:=λf H Q=>∃(t e:Bool) (a b:Addr) (c:List Key) (d:List V),f= [.ref a,.ref b]/\FK K t H a (c.map kV)/\FK K e H b d/\c.length=d.length/\∀p,H p=none->Q (.ref p) (upd H p (.dK (lG [] (c.zip d))))
def Dd{x y:Expr}{ta:TA}{p1 Y c1 P:Pos}(C:X.calm=true)(Z:Gl X "dict")(a3:X.mg "dict"=none)(hg:Gl X "zip")(hm:X.mg "zip"=none)(ha:PA X [x,y] ta)(hs:starEach [x,y] X.env= [(false,eval x X.env),(false,eval y X.env)]:=by rfl)(N:starEach [y] X.env= [(false,eval y X.env)]:=by rfl)
  (he:starEach [Expr.Call (.Name "zip" Y) [x,y] [] P] X.env= [(false,eval (Expr.Call (.Name "zip" Y) [x,y] [] P) X.env)]:=by rfl):
  PE X (.Call (.Name "dict" p1) [.Call (.Name "zip" Y) [x,y] [] P] [] c1) (OC (L_ X.K) ta):=by
 intro B s σ H Q I h
 refine wpAny_Call_Name_kw (oZ I Z a3 (by rfl) ?_)
 refine PyProof.Rows.callWith_type1 ?_ he rfl
 rw[he]
 show wpAny _ _ (spliced ((false,eval (Expr.Call (.Name "zip" Y) [x,y] [] P) X.env)::backTo c1 (starEach [] X.env))) _ _ s
 refine Calls.spliced_cons ?_
 refine wpAny_Call_Name_kw (oZ I hg hm (by rfl) ?_)
 refine PyProof.Rows.callWith_type1 (c_ (ha P B s σ H _ I h) λus j ⟨vs,H1,F,r1,q1⟩=> ?_) (by rw[hs,N]) (by rw[N];rfl)
 obtain⟨t,t2,a,b,d,ys,e,qa,qb,hl,q⟩:=q1
 subst e
 cases r1 with
 | cons r rr=>
   cases rr with
   | cons r' rr=>
     cases rr
     cases r
     cases r'
     obtain⟨z,ra,pa,za⟩:=F.sq qa
     obtain⟨p,rb,pb,zb⟩:=F.sq qb
     have lx:=Sq.lt pa
     have ly:=Sq.lt pb
     have la:=ra.length
     have lb:=rb.length
     rw[lQm] at la
     refine Zq.KY pa pb λg S gT gO gi gj R=>Calls.spliced_nil ?_
     have I2:Inv X B σ H1 {j with heap:=g}:=F.kept (t':=j.toks) R
     refine Zq.wU S (F.ok.hd C) λU tk k2=> ?_
     have m:∀c o,g.get? c=some o->U.get? c=some o:=λc o e=>k2 c o (Qcq _ e)
     have a4:U.get? g.objs.size=some {cls:=.type "dict",data:=.dict #[]}:=k2 _ _ (Qrq g rfl)
     refine wpAny_pyIter_zip (m _ _ S) ?_
     have DD:=PyProof.Rows.zipApart_new lx ly
     have f:j.heap.objs.size+4<g.objs.size:=Qiq S
     have J:∀(n:Nat) k,d[n]?=some k->d.getD n (.inl 0)=k:=λn k e=>by rw[Qlq,e];rfl
     have G:∀c,c<j.heap.objs.size->c≠j.heap.objs.size+4/\c≠j.heap.objs.size+3/\c≠j.heap.objs.size/\c≠j.heap.objs.size+1/\c≠g.objs.size:=λc C=>
       ⟨Qwq (Qqq C (Nat.le_add_right _ _)),Qwq (Qqq C (Nat.le_add_right _ _)),Qwq C,Qwq (Qqq C (Nat.le_add_right _ _)),Qwq (Nat.lt_trans (Qqq C (Nat.le_add_right _ 4)) f)⟩
     refine Zq.CQ (knd:=cc X.prog X.w) (t:=t) (t2:=t2) (xs:=z.toArray) (ys:=p.toArray) (show X.A.in1.in1.handled=none from F.ok.hd C) DD ?_ ?_ (λn=>d.getD n (.inl 0)) ?_ (by simp;omega) (by simp;omega) z.toArray.size 0 0 _ rfl (Nat.zero_le _)
       (.inl ⟨m _ _ S,_,_,m _ _ gO⟩) (m _ _ gT) (gi.at λo e=>m _ o e) (gj.at λo e=>m _ o e) (pa.at λo e=>m _ o (R _ o e)) (pb.at λo e=>m _ o (R _ o e)) ?_ ?_
     · refine⟨Nat.ne_of_gt f,Nat.ne_of_gt (Nat.lt_trans ?_ f),Nat.ne_of_gt (Nat.lt_trans ?_ f),Nat.ne_of_gt (Nat.lt_trans ?_ f),Nat.ne_of_gt (Nat.lt_trans ?_ f),(G _ lx).2.2.2.2.symm,(G _ ly).2.2.2.2.symm⟩ <;>(show _<j.heap.objs.size+4) <;>omega
     · exact⟨Qwq (Qqq lx (Nat.le_add_right _ _)),Qwq (Qqq ly (Nat.le_add_right _ _))⟩
     · intro n v hv
       have M:z[n]?=some v:=by simpa using hv
       have hn:n<d.length:=by
         have:=(gQs.mp M).1
         omega
       have L:=gQe hn
       obtain⟨u,W,ru⟩:=ra.get (i:=n) (x:=kV d[n]) (by rw[gQm,L];rfl)
       rw[M] at W
       cases W
       show(cc X.prog X.w).is (d.getD n (.inl 0)) v=true
       rw[J n _ L]
       exact key_is ru _ _
     · obtain⟨o,es,ep,e1,e2⟩:=Heap.DictOf.new (knd:=cc X.prog X.w) g
       exact⟨o,es,ep,k2 _ _ e1,e2⟩
     · intro h3 a0 dd k3
       have a2:g.objs.size≠sysModules:=by
         have:=I2.big
         exact Nat.ne_of_gt this
       have le:j.heap.objs.size<=g.objs.size:=nQl (Nat.lt_of_le_of_lt (Nat.le_add_right _ 4) f)
       refine⟨rfl,.ref g.objs.size,_,F.laid (a:=g.objs.size) (o:=.dK (lG [] (d.zip ys))) (t':=a0) (h':=h3) (λc o e=> ?_) le (vC ?_ (beq_eq_false_iff_ne.mpr a2) ?_ dd),rfl,q _ (F.hok.fresh le)⟩
       · obtain⟨o1,o2,o3,o4,o5⟩:=G c (Qiq e)
         exact k3 c o o1 o2 o3 o4 o5 (m c o (R c o e))
       · have:=jF (d.zip ys) []
         rw[QGq,List.length_zip] at this
         omega
       · have a1:∀n,n<=d.length->KV (lG [] ((d.zip ys).take n)) (Dk.Lp (λn=>d.getD n (.inl 0)) (λn=>p.toArray.getD n .none) n):=by
           intro n
           induction n with
           |zero=>intro _;exact .nil
           | succ n ih=>
             intro hn
             have L:=gQe (l:=d) (i:=n) (by omega)
             have hy:=gQe (l:=ys) (i:=n) (by omega)
             obtain⟨u,W,ru⟩:=rb.get hy
             have ez:(d.zip ys)[n]?=some (d[n],ys[n]):=by rw[List.getElem?_zip_eq_some];exact⟨L,hy⟩
             have e3:(d.zip ys).take (n+1)=(d.zip ys).take n++ [(d[n],ys[n])]:=by rw[QYq,ez];rfl
             have eu:p.toArray.getD n .none=u:=by
               have:=(gQs.mp W)
               obtain⟨g,U⟩:=this
               simp[Array.getD,g,U]
             rw[e3]
             show KV (List.foldl _ [] ((d.zip ys).take n++ [(d[n],ys[n])])) (stored _ (d.getD n (.inl 0)) (p.toArray.getD n .none))
             rw[List.foldl_append,J n _ L,eu]
             exact(ih (by omega)).put d[n] ru
         have:=a1 d.length (Qmq _)
         have e4:(d.zip ys).take d.length=d.zip ys:=by
           have:(d.zip ys).length=d.length:=by rw[List.length_zip];omega
           rw[←this,QEq]
         rw[e4] at this
         have e5:z.toArray.size=d.length:=by simp;omega
         rw[e5]
         exact this
end
end L2
namespace Zq
open PySem
section
variable{prog:Program}{w:World}{A:Around}{E:Value->Shared->Prop}{s:Shared}{t t2:Bool}{z T O i j a b:Addr}{k:Nat}{xs ys:Array Value}{x y u v:Value}
def Gr(D:ZipApart z T O i j a b){Q:Option Value->Shared->Prop}(c:wN s.heap z T O .none (.bool false))(h:IsPair s.heap T (.ref i) (.ref j))(r:IsPair s.heap O u v)(e:It t s.heap i a k)(p:It t2 s.heap j b k)
  (C:Sq t s.heap a xs) (G:Sq t2 s.heap b ys) (ex:xs[k]?=some x) (m:ys[k]?=some y)
  (q:∀h',wN h' z T O (rawInt s.heap.objs.size) (.bool false)->IsPair h' O x y->It t h' i a (k+1)->It t2 h' j b (k+1)->IsPair h' s.heap.objs.size x y->Zp.Rest z O i j s.heap h'->Q (some (.ref s.heap.objs.size)) {s with heap:=h'}):
  wpAny (model prog w) A (pyNext (.ref z)) Q E s:=by
 have d:s.TypeIs (.ref z) "zip":=⟨_,c,rfl⟩
 unfold pyNext
 exact Qaq (wpAny_attempt (QiQ (name:=Str.ofString "__next__") d F.slot_zip_next (wpAny_call_entry F.slot_zip_next d F.entry_zip_next
  (item D c h r e p C G ex m λh' n g o l B f=>Qgq (q h' n g o l B f)) (F.args_zip_next_1 _))))
end
end Zq
namespace L2
open PySem PySem.Spec PyProof.Rows Zq
def Inv.sq_inj{X:Cx}{b:List (Addr×Obj)}{c:St}{H:Hp}{s:Shared}{t:Bool}{a:Addr}{xs ys:List V}(I:Inv X b c H s)(h:FK X.K t H a xs)(h':FK X.K t H a ys):xs=ys:=by
 cases t with
 |true=>exact I.tuple_inj h h'
 |false=>exact I.list_inj h h'
def QG(K:PySem.W.Frag)(t t2:Bool)(a b:Addr):It:=
  ⟨λi H=>∃c d x y,FK K t H a c/\FK K t2 H b d/\c[i]?=some x/\d[i]?=some y,
   λi H v e=>∃p,v=.ref p/\H p=none/\∀c d x y,FK K t H a c->FK K t2 H b d->c[i]?=some x->d[i]?=some y->e=upd H p (.tup [x,y]),
   λi H=>∃c,FK K t H a c/\c.length<=i⟩
def FS{P:Program}{w:World}{K:PySem.W.Frag}{A:List Expr}{x1:Nat}{tp:Pos}{t t2:Bool}{z T O i j a b:Addr}(D:ZipApart z T O i j a b):
  Turn P w K (.Tuple A x1 tp) (QG K t t2 a b) [z,T,O,i,j] z (λn h=>wN h z T O .none (.bool false)/\IsPair h T (.ref i) (.ref j)/\(∃u v,IsPair h O u v)/\Zq.It t h i a n/\Zq.It t2 h j b n) where
 mem:=by simp
 obj:=λn h ⟨f,g,⟨u,v,l⟩,p,q⟩ c d=>by
  simp at d
  rcases d with rfl|rfl|rfl|rfl|rfl
  ·exact⟨_,f,λv n=>by cases n⟩
  ·exact⟨_,g,λv n=>by cases n⟩
  ·exact⟨_,l,λv n=>by cases n⟩
  ·exact p.obj
  ·exact q.obj
 keep:=λn h h' ⟨f,g,⟨u,v,l⟩,p,q⟩ k=>⟨k z (by simp) _ f,k T (by simp) _ g,⟨u,v,k O (by simp) _ l⟩,p.at λo e=>k i (by simp) o e,q.at λo e=>k j (by simp) o e⟩
 item:=by
  rintro X R L N d n m s σ H E I F ⟨f,g,⟨u,v,l⟩,p,q⟩ Q
  subst R L N
  obtain⟨xs,ys,x,y,J,qb,S,hy⟩:=Q
  obtain⟨Z,Y,pa,_⟩:=I.sq J
  obtain⟨a0,rb,pb,_⟩:=I.sq qb
  obtain⟨ux,ex,rx⟩:=Y.get S
  obtain⟨uy,ey,ry⟩:=rb.get hy
  have B:∀{c o},s.heap.get? c=some o->c≠s.heap.objs.size:=λe=>Qwq (Qiq e)
  have C:∀c∈[z,T,O,i,j],c≠s.heap.objs.size:=λc d=>by
   obtain⟨oi,e1,_⟩:=p.obj
   obtain⟨oj,e2,_⟩:=q.obj
   simp at d
   rcases d with rfl|rfl|rfl|rfl|rfl
   ·exact B f
   ·exact B g
   ·exact B l
   ·exact B e1
   ·exact B e2
  refine Zq.Gr D f g l p q pa pb (x:=ux) (y:=uy) (by simpa using ex) (by simpa using ey) λh1 z1 O1 i1 j1 n1 G=>⟨_,rfl,?_⟩
  have T1:=G _ _ D.TIz D.TITO D.TIi1 D.TIi2 g
  refine wpAny_letOwnedTupleGo_zip z1 λh2 z2 r=> ?_
  have I2:Inv X m σ (upd H s.heap.objs.size (.tup [x,y])) {s with heap:=h2}:=I.turnedNew (t':=s.toks) (fp:= [z,T,O,i,j]) F (λc o d e=> ?_) (Qmq _) ?_
  ·refine⟨.ref s.heap.objs.size,_,I2,rfl,⟨s.heap.objs.size,rfl,I.hok.fresh (Qmq _),λa2 a1 x' y' q1 q2 M U=> ?_⟩,⟨z2,r.extBut _ _ D.TIz T1,⟨_,_,r.extBut _ _ D.TOz O1⟩,i1.ext r.extBut D.i1z,j1.ext r.extBut D.i2z⟩,λc d=> ?_⟩
   ·rw[I.sq_inj q1 J] at M
    rw[I.sq_inj q2 qb] at U
    rw[S] at M
    rw[hy] at U
    cases M
    cases U
    rfl
   ·rw[bx (C c d)]
    exact(F c d).1
  ·simp at d
   exact r.extBut _ _ d.1 (G c o d.1 d.2.2.1 d.2.2.2.1 d.2.2.2.2 e)
  ·exact⟨by show 2<=_;decide,[ux,uy],.cons rx (.cons ry .nil),_,r.extBut _ _ (λe=>C z (by simp) e.symm) n1,rfl,rfl,0,rfl⟩
 done:=by
  rintro X R L N d n m s σ H E I F ⟨f,g,⟨u,v,l⟩,p,q⟩ Q
  subst R L N
  obtain⟨xs,J,S⟩:=Q
  obtain⟨Z,Y,pa,_⟩:=I.sq J
  have hl:=Y.length
  refine Zq.Cg D (I.ok.hd d) (.inl ⟨f,u,v,l⟩) g p pa (by simp;omega) λh1 G=>⟨rfl,I.turnedL (t':=s.toks) (fp:= [z,T,O,i,j]) F λc o d e=> ?_⟩
  simp at d
  exact G c o d.1 d.2.2.1 d.2.2.2.1 d.2.2.2.2 e
 self:=λ_ _ _ _ _ ⟨f,_⟩ h=>wpAny_pyIter_zip f h
section
variable{X:Cx}
def Ra(K:PySem.W.Frag)(g:TA):TI:=λf H R=>g f H λd H1=>∃(t c:Bool) (a b:Addr) (h e:List V),d= [.ref a,.ref b]/\FK K t H1 a h/\FK K c H1 b e/\R (QG K t c a b) H1
def J7{f:List Expr}{x1:Nat}{M:Pos}{a b:Expr}{l:TA}{p pos:Pos}(Y:Gl X "zip")(z:X.mg "zip"=none)(A:PA X [a,b] l)(hs:starEach [a,b] X.env= [(false,eval a X.env),(false,eval b X.env)]:=by rfl)(d:starEach [b] X.env= [(false,eval b X.env)]:=by rfl):
  PI X (.Tuple f x1 M) (.Call (.Name "zip" p) [a,b] [] pos) (Ra X.K l):=by
 intro i s σ H R I h
 refine Call_ (oZ I Y z (by rfl) (PyProof.Rows.callWith_type1 (c_ (A pos i s σ H _ I h) λus n ⟨vs,H1,g,F,S⟩=> ?_) (by rw[hs,d]) (by rw[d];rfl)))
 obtain⟨t,t2,x,y,xs,ys,e,P,G,q⟩:=S
 subst e
 cases F with
 | cons r j=>
   cases j with
   | cons J j=>
     cases j
     cases r
     cases J
     obtain⟨Q,ra,o,_⟩:=g.sq P
     obtain⟨B,rb,m,_⟩:=g.sq G
     have Z:=Sq.lt o
     have L:=Sq.lt m
     refine Zq.KY o m λh' v N W C U k=> ?_
     refine wpAny_pyIter_zip v ⟨_,_,_,_,H1,rfl,g.kept (t':=n.toks) k,FS (PyProof.Rows.zipApart_new Z L),⟨v,N,⟨_,_,W⟩,C,U⟩,λc u=> ?_,q⟩
     have w:n.heap.objs.size<=c:=by
       simp only[Qsq,QXq,or_false] at u
       rcases u with e|e|e|e|e <;>(rw[e];first|exact Qmq _|exact Nat.le_add_right _ _)
     exact g.fpOk w (g.hok.fresh w)
end
end L2
namespace DL
open PySem PySem.Spec PyProof.Rows L2
def DS.sqB{M:Md}{ρ:List Addr}{H:Hp}{a:Addr}{vs:List V}{t:Tag}(h:DS M ρ H a vs t):L2.FK M.K (!t.isL) H a vs:=by
 cases c:t.isL with
 |true=>exact h.sqL c
 |false=>exact h.sqT c
def BI(xs ys:List D):List D:=List.zipWith (λx y=>D.tup [x,y]) xs ys
open Classical in
def GK(f g:fu):yh:=λb S=>(f b S).bind λ(p,c)=>(g b c).bind λ(r,a)=>if p.2.stays a p.1/\p.1.length<=r.1.length then some ((BI p.1 r.1,λS=>p.2.stays S p.1/\r.2.stays S r.1),a) else none
section
variable{X:Cx}{a b c e:Expr}{pos:Pos}{st:Stmt}
def Qg{m:List Expr}{s:Nat}{tp p:Pos}{f g:fu}(hg:Gl X "zip")(hm:X.mg "zip"=none)(ha:PE X a (tQ (md X) f))(hb:PE X b (tQ (md X) g))(hs:starEach [a,b] X.env= [(false,eval a X.env),(false,eval b X.env)]:=by rfl)(j:starEach [b] X.env= [(false,eval b X.env)]:=by rfl):
  PI X (.Tuple m s tp) (.Call (.Name "zip" p) [a,b] [] pos) (tI (md X) (GK f g)):=Pw (J7 hg hm (eO ha (eO hb ij j) (by rw[hs,j])) hs j) λσ H R ⟨ρ,U,S,ds,W,S',ok,e,q⟩=>by
 obtain⟨⟨⟨n,t1⟩,P⟩,e1,e⟩:=au e
 obtain⟨⟨⟨o,t2⟩,S2⟩,e2,e⟩:=au e
 dsimp only at e
 split at e
 ·rename_i c
  obtain⟨e3,rfl⟩:=cD e
  obtain⟨rfl,rfl⟩:=Prod.mk.inj e3
  refine⟨ρ,U,S,n,t1,P,ok,e1,λG a1 a0 H1 s A h1 r1=>⟨G,U,P,o,t2,S2,ok.to s A,e2,λa3 b1 ws H2 J l K r2=> ?_⟩⟩
  obtain⟨B,M,r3⟩:=h1.to r1 J l c.1
  refine⟨_,_,a1,b1,B,ws,rfl,M.sqB,K.sqB,q _ _ _ (s.trans J) l λi a2 S3 H3 Q k w=> ?_⟩
  obtain⟨t,C,Y⟩:=M.to r3 Q k w.1
  obtain⟨N,I,g4⟩:=K.to r2 Q k w.2
  refine⟨λd h=> ?_,λhi=>⟨t,C.sqB,?_⟩⟩
  ·unfold BI at h
   rw[List.getElem?_zipWith] at h
   cases r:n[i]? with
   |none=>rw[r] at h;cases h
   | some x=>
     cases F:o[i]? with
     |none=>rw[r,F] at h;cases h
     | some y=>
       rw[r,F] at h
       cases h
       obtain⟨u,L,ru⟩:=Y.get r
       obtain⟨z,Z,rz⟩:=g4.get F
       refine⟨⟨t,N,u,z,C.sqB,I.sqB,L,Z⟩,λv H4 hv=> ?_⟩
       obtain⟨p,rfl,hp,hq⟩:=hv
       have:=hq t N u z C.sqB I.sqB L Z
       subst this
       exact⟨cH.laid hp,k.lay hp,.tup cn ((bc.cons ru (.cons rz .nil)).ext (cH.laid hp))⟩
  ·rw[hi]
   unfold BI
   rw[List.length_zipWith,Y.length.symm]
   have:=c.2
   omega
 ·cases e
end
def xn:D->Option Key
 |.int i=>some (.inl i)
 |.str x=>some (.inr x)
 |_=>none
def uH{M:Md}{ρ:List Addr}{H:Hp}{d:D}{v:V}{k:Key}(r:Rel M ρ H d v)(e:xn d=some k):v=kV k:=by
 cases r <;>simp[xn] at e <;>subst e <;>rfl
def BB:List D->Option (List Key)
 | []=>some []
 |d::r=>(xn d).bind λk=>(BB r).bind λa=>some (k::a)
theorem BO{M:Md}{ρ:List Addr}{H:Hp}:∀{ds:List D} {vs:List V} {a:List Key},bc M ρ H ds vs->BB ds=some a->vs=a.map kV
 |_,_,_,.nil,e=>by cases e;rfl
 | _,_,_,.cons h hs,e=>by
   obtain⟨k,b,e⟩:=au e
   obtain⟨a,c,e⟩:=au e
   cases e
   rw[uH h b,BO hs c]
   rfl
def iB(a:List (Key×D))(k:Key):Option D:=(a.find? λb=>decide (b.1=k)).map (·.2)
def putD(a:List (Key×D))(k:Key)(v:D):List (Key×D):=
 if (a.any λb=>decide (b.1=k))=true then a.map (λb=>if b.1=k then(b.1,v) else b) else a++ [(k,v)]
def bu(a more:List (Key×D)):List (Key×D):=more.foldl (λb c=>putD b c.1 c.2) a
section
variable{M:Md}{ρ:List Addr}{H:Hp}
theorem cI.append:∀{l m:List (Key×D)} {kv kw:List (Key×V)},cI M ρ H l kv->cI M ρ H m kw->cI M ρ H (l++m) (kv++kw)
 | [],_,_,_,h,h'=>by cases h;exact h'
 |(_,_)::_,_,_,_,⟨v,t,e,h,hs⟩,h'=>by subst e;exact⟨v,_,rfl,h,cI.append hs h'⟩
theorem cI.any:∀{l:List (Key×D)} {kv:List (Key×V)} (k:Key),cI M ρ H l kv->(l.any λp=>decide (p.1=k))=kv.any λp=>decide (p.1=k)
 | [],_,_,h=>by cases h;rfl
 |(_,_)::_,_,k,⟨v,t,e,h,hs⟩=>by subst e;simp only[List.any_cons,cI.any k hs]
theorem cI.mapP{d:D}{v:V}{k:Key}(r:Rel M ρ H d v):∀{l:List (Key×D)} {kv:List (Key×V)},cI M ρ H l kv->cI M ρ H (l.map λp=>if p.1=k then(p.1,d) else p) (kv.map λp=>if p.1=k then(p.1,v) else p)
 | [],_,h=>by cases h;rfl
 | (k',_)::_,_,⟨u,t,e,h,hs⟩=>by
   subst e
   simp only[QDq]
   by_cases c:k'=k
   · simp only[c,if_true];exact⟨v,_,rfl,r,cI.mapP r hs⟩
   · simp only[c,if_false];exact⟨u,_,rfl,h,cI.mapP r hs⟩
def cI.put{l:List (Key×D)}{kv:List (Key×V)}{k:Key}{d:D}{v:V}(h:cI M ρ H l kv)(r:Rel M ρ H d v):cI M ρ H (putD l k d) (putK kv k v):=by
 unfold putD putK
 rw[h.any k]
 split
 ·exact h.mapP r
 ·exact h.append ⟨v,[],rfl,r,rfl⟩
theorem cI.merge:∀{m:List (Key×D)} {kw:List (Key×V)} {l:List (Key×D)} {kv:List (Key×V)},cI M ρ H m kw->cI M ρ H l kv->cI M ρ H (bu l m) (lG kv kw)
 | [],_,_,_,h,h'=>by cases h;exact h'
 | (k,d)::m,_,_,_,⟨v,t,e,h,hs⟩,h'=>by
   subst e
   unfold bu lG
   rw[List.foldl_cons,List.foldl_cons]
   exact cI.merge (m:=m) (kw:=t) hs (h'.put h)
theorem cI.zip:∀{a:List Key} {ds:List D} {vs:List V},bc M ρ H ds vs->cI M ρ H (a.zip ds) (a.zip vs)
 | [],_,_,_=>rfl
 |_::_,_,_,.nil=>rfl
 |k::a,_,_,.cons h hs=>⟨_,_,rfl,h,cI.zip hs⟩
theorem cI.val:∀{l:List (Key×D)} {kv:List (Key×V)} {k:Key} {d:D},cI M ρ H l kv->iB l k=some d->∃v,rA kv k=some v/\Rel M ρ H d v
 | [],_,_,_,_,e=>by cases e
 | (k',d')::_,_,k,d,⟨v,t,e,h,hs⟩,e'=>by
   subst e
   unfold iB at e'
   unfold rA
   rw[List.find?_cons] at e'⊢
   by_cases c:k'=k
   · simp only[c,decide_true] at e'⊢
     cases e'
     exact⟨v,rfl,h⟩
   · simp only[c,decide_false] at e'⊢
     exact cI.val hs e'
def cI.ext'{a:List Addr}{b:Hp}{l:List (Key×D)}{kv:List (Key×V)}(h:cI M ρ H l kv)(e:cH ρ H a b):cI M a b l kv:=h.imp λ_ _ r=>r.ext e
def cI.pre'{a:List Addr}{l:List (Key×D)}{kv:List (Key×V)}(h:cI M ρ H l kv)(e:ρ <+: a):cI M a H l kv:=h.imp λ_ _ r=>r.pre e
end
section
variable{X:Cx}{a b c e:Expr}{pos:Pos}{st:Stmt}
def Ot{M:Md}{ρ d:List Addr}{H h:Hp}{k:aE}{l:List (Key×D)}{kv:List (Key×V)}{p:Addr}{Q:VK}(x:cH ρ H d h)(st:gC M d k h)(j:h p=none)(r:cI M d h l kv)
  (q:∀f v g,cH ρ H f g->gC M f (k++ [.dct l]) g->Rel M f g (.ref k.length) v->Q v g):Q (.ref p) (upd h p (.dK kv)):=by
 have s:p∉d:=eD x st j
 have n:cH d h d (upd h p (.dK kv)):=cH.laid j
 have m:=(st.lay (u:=.dK kv) j).box (o:=.dct l) s ⟨kv,cn,(r.ext' n).pre' (List.prefix_append _ _)⟩
 refine q (d++ [p]) (.ref p) _ ⟨x.pre.trans (List.prefix_append _ _),λc i=> ?_,(x.trans n).keep,(x.trans n).grow⟩ m (.ref ?_)
 ·rcases mQa.mp i with i|i
  ·exact x.new c i
  ·rw[Qfq] at i;subst i;exact .inr (x.grow _ j)
 ·rw[←st.len,QQq (Qmq _)]
  simp
open Classical in
def Jk(f g:fu):bH:=λh S=>(f h S).bind λ(p,i)=>(g h i).bind λ(r,d)=>if p.2.stays d p.1/\p.1.length=r.1.length then(BB p.1).bind λj=>some (.ref d.length,d++ [.dct (bu [] (j.zip r.1))]) else none
def MI{Z k c1 n:Pos}{f g:fu}(hc:X.calm=true)(j:Gl X "dict")(m:X.mg "dict"=none)(hg:Gl X "zip")(B:X.mg "zip"=none)(C:PE X a (tQ (md X) f))(hb:PE X b (tQ (md X) g))(hs:starEach [a,b] X.env= [(false,eval a X.env),(false,eval b X.env)]:=by rfl)(h:starEach [b] X.env= [(false,eval b X.env)]:=by rfl)
  (he:starEach [Expr.Call (.Name "zip" k) [a,b] [] n] X.env= [(false,eval (Expr.Call (.Name "zip" k) [a,b] [] n) X.env)]:=by rfl):
  PE X (.Call (.Name "dict" Z) [.Call (.Name "zip" k) [a,b] [] n] [] c1) (tD (md X) (Jk f g)):=kn (Dd hc j m hg B (eO C (eO hb ij h) (by rw[hs,h])) hs h he) λσ H Q ⟨ρ,u,S,d,S',ok,e,q⟩=>by
 obtain⟨⟨⟨r,R⟩,w⟩,P,e⟩:=au e
 obtain⟨⟨⟨t,t2⟩,M⟩,J,e⟩:=au e
 dsimp only at e
 split at e
 ·rename_i c
  obtain⟨L,I,e⟩:=au e
  obtain⟨rfl,rfl⟩:=cD e
  refine⟨ρ,u,S,r,R,w,ok,P,λo a1 F H1 y s N K=>⟨o,u,w,t,t2,M,ok.to y s,J,λa0 b1 ws H2 A i W x=> ?_⟩⟩
  obtain⟨a2,Y,z⟩:=N.to K A i c.1
  have U:=BO z I
  subst U
  have v:=z.length
  rw[lQm] at v
  refine⟨_,_,a1,b1,L,ws,rfl,Y.sqB,W.sqB,by rw[←v,←x.length];exact c.2,λp G=> ?_⟩
  exact Ot (y.trans A) i G (cI.merge (l:= []) (cI.zip x) rfl) q
 ·cases e
def OT:bH:=λ_ S=>some (.ref S.length,S++ [.dct []])
def P6:PE X (.Dict [] [] pos) (tD (md X) OT):=kn GV λk H Q f=>by
 obtain⟨j,i,S,d,h,ok,e,q⟩:=f
 obtain⟨rfl,rfl⟩:=cD e
 exact λp g=>Ot cH.refl ok.st g (l:= []) (kv:= []) rfl q
def Mb(f g:bH):bH:=λi S=>(f i S).bind λ(x,j)=>(g i j).bind λ(y,h)=>match x with
 | .ref k=>match h[k]? with
   |some (.dct l)=>(xn y).bind λm=>(iB l m).bind λd=>some (d,h)
   |_=>none
 |_=>none
def OY{f g:bH}(G:X.A.units+1<cLine)(i:PE X a (tD (md X) f))(P:PE X b (tD (md X) g))(hs:JX b):PE X (.Subscript a b pos) (tD (md X) (Mb f g)):=kn (JR G i P hs) λσ H Q t=>by
 obtain⟨K,o,S,d,R,ok,e,q⟩:=t
 obtain⟨⟨x,p⟩,C,e⟩:=au e
 obtain⟨⟨y,z⟩,w,e⟩:=au e
 cases x with
 | ref k=>
   dsimp only at e
   split at e
   · rename_i l hs
     obtain⟨U,u,e⟩:=au e
     obtain⟨d',L,e⟩:=au e
     obtain⟨rfl,rfl⟩:=cD e
     refine⟨K,o,S,_,p,ok,C,λm Z H1 r n j=>⟨m,o,p,y,z,ok.to r n,w,λN Y H2 s h M=> ?_⟩⟩
     cases uH M u
     have j:=j.ext s
     cases j with
     | ref i=>
       obtain⟨W,B,F⟩:=h.obj k _ _ i hs
       obtain⟨v,I,J⟩:=F.val L
       exact⟨_,v,rfl,by rw[←I];exact Ge.k B,q _ _ _ (r.trans s) h J⟩
   · cases e
 |_=>cases e
def NQ(f g h:bH):cE:=λi S=>(h i S).bind λ(d,n)=>(f i n).bind λ(x,m)=>(g i m).bind λ(y,j)=>match x with
 | .ref k=>match j[k]? with
   |some (.dct l)=>(xn y).bind λo=>if l.length<sizeLine then some (.nx i (j.set k (.dct (putD l o d)))) else none
   |_=>none
 |_=>none
mutual
theorem Rel.offK{M:Md}{ρ:List Addr}{H:Hp}{b:Addr}{g:List (Key×V)}{o:HO}(f:H b=some (.dK g)):∀{d:D} {v:V},Rel M ρ H d v->Rel M ρ (upd H b o) d v
 |_,_,.non=>.non
 |_,_,.bl x=>.bl x
 |_,_,.int i=>.int i
 |_,_,.str x=>.str x
 |_,_,.tup h hs=>.tup (by rw[bx (Io h f (by intro z;cases z))];exact h) (bc.offK f hs)
 |_,_,.ref h=>.ref h
 |_,_,.fn h=>.fn h
theorem bc.offK{M:Md}{ρ:List Addr}{H:Hp}{b:Addr}{f:List (Key×V)}{o:HO}(d:H b=some (.dK f)):∀{ds:List D} {vs:List V},bc M ρ H ds vs->bc M ρ (upd H b o) ds vs
 |_,_,.nil=>.nil
 |_,_,.cons h hs=>.cons (Rel.offK d h) (bc.offK d hs)
end
def gC.putKd{M:Md}{ρ:List Addr}{S:aE}{H:Hp}{k:Nat}{a:Addr}{l l':List (Key×D)}{kw:List (Key×V)}(st:gC M ρ S H)(h:ρ[k]?=some a)(d:S[k]?=some (.dct l))(r:cI M ρ H l' kw):gC M ρ (S.set k (.dct l')) (upd H a (.dK kw))/\cH ρ H ρ (upd H a (.dK kw)):=by
 obtain⟨j,g,i⟩:=st.obj k a _ h d
 exact st.put h d ⟨kw,cn,r.imp λ_ _ q=>q.offK g⟩ λx f=>by rw[g] at f;cases f;exact id
def PZ{f g h:bH}{i:Pos}{v:Expr}(Y:X.A.units+1<cLine)(p:PE X a (tD (md X) f))(hb:PE X b (tD (md X) g))(Z:PE X v (tD (md X) h))(hs:swapsWith v (some (.Subscript a b i)) pos.line X.env=pure false:=by rfl):PS X (.Assign [.Subscript a b i] v pos) (tS (md X) (NQ f g h)):=
 EH (Jy Y p hb Z hs) λD σ H M=>by
  obtain⟨ρ,r,S,o,ok,e,q⟩:=M
  obtain⟨⟨d,K⟩,R,e⟩:=au e
  obtain⟨⟨x,I⟩,P,e⟩:=au e
  obtain⟨⟨y,S3⟩,N,e⟩:=au e
  cases x with
  | ref k=>
    dsimp only at e
    split at e
    · rename_i l hs
      obtain⟨U,e4,e⟩:=au e
      split at e
      · rename_i W
        cases e
        refine⟨ρ,r,S,d,K,ok,R,λz v1 H1 F n s=>⟨z,r,K,_,I,ok.to F n,P,λC v2 H2 G u B=>⟨C,r,I,y,S3,(ok.to F n).to G u,N,λa0 v3 H3 w j r3=> ?_⟩⟩⟩
        cases uH r3 e4
        have B:=B.ext w
        have s:=s.ext (G.trans w)
        have m:=(F.trans G).trans w
        cases B with
        | ref p=>
          obtain⟨kv,Q,J⟩:=j.obj k _ _ p hs
          obtain⟨t,L⟩:=j.putKd p hs (J.put (k:=U) s)
          exact⟨_,_,rfl,IL.k Q (by rw[←J.length];exact W),q _ _ _ (m.trans L) ((ok.to m j).to L t)⟩
      · cases e
    · cases e
  |_=>cases e
open Classical in
def HP(f:fu)(g:bH):bH:=λh S=>(f h S).bind λ(p,k)=>if p.2.isL=true then(g h k).bind λ(y,d)=>if p.2.stays d p.1 then(xw y).bind λv=>(qT p.1).bind λi=>(qD v i).bind λj=>some (.int (j:Nat),d) else none else none
def OU{f:fu}{g:bH}{o:Expr}{i h:Pos}(J:PE X o (tQ (md X) f))(K:PE X e (tD (md X) g))(l:attributeBase o "index" X.env (eval o X.env)=eval o X.env:=by rfl) (m:((backTo h (starEach [e] X.env)).all (λx=> !x.1)&&(backToKw h (keywordEach [] X.env)).all (λx=>x.1.isSome)
   &&decide ([e].length+([]:List Keyword).length+(if ([]:List Keyword).isEmpty then 0 else 1)<30))=true:=by rfl)
  (k:(i.endLine==h.line)=true:=by rfl) (hs:starEach [e] X.env= [(false,eval e X.env)]:=by rfl):PE X (.Call (.Attribute o "index" i) [e] [] h) (tD (md X) (HP f g)):=
 kn (vA PySem.F.plainAttrs_list PySem.F.slot_list_index PySem.F.type_list_index Ik J (cT K i_ hs) l m k hs) λσ H Q L=>by
  obtain⟨Y,w,S,d,S',ok,e,q⟩:=L
  obtain⟨⟨⟨ds,t⟩,C⟩,R,e⟩:=au e
  dsimp only at e
  split at e
  ·rename_i A
   obtain⟨⟨y,P⟩,N,e⟩:=au e
   dsimp only at e
   split at e
   ·rename_i cS
    obtain⟨v,z,e⟩:=au e
    obtain⟨vs,Z,e⟩:=au e
    obtain⟨j,W,e⟩:=au e
    obtain⟨rfl,rfl⟩:=cD e
    refine⟨Y,w,S,ds,t,C,ok,R,λp a us H1 G u B M=>⟨.inl ⟨rfl,us,B.sqL A⟩,p,w,C,[y],P,ok.to G u,by simp only[aq,av,N,Qbq],λa0 ws H2 I n s=> ?_⟩⟩
    obtain⟨r,U,r3⟩:=B.to M I n cS
    cases s with
    | cons s rr=>
      cases rr
      cases mJ s z
      obtain⟨rfl,f1⟩:=qv r3 Z
      exact⟨a,r,_,j,rfl,rfl,U.sqL A,qK z,f1,W,q _ _ _ (G.trans I) n (.int _)⟩
   ·cases e
  ·cases e
end
section
variable{X:Cx}{a b c e:Expr}{pos:Pos}{st:Stmt}
def O0:V->List V->Hp->VK->Prop:=λx g H Q=>∃a b f d,x=.ref a/\g= [.ref b]/\a≠b/\H a=some (.dK f)/\H b=some (.dK d)/\f.length+d.length<=sizeLine/\Q .non (upd H a (.dK (lG f d)))
def FN:OV X "dict.update" O0:=by
 intro n s K H x M v L Q I y r h
 obtain⟨a,b,k,f,rfl,rfl,ab,ha,hb,hz,q⟩:=h
 cases y
 obtain⟨u,rfl,ru⟩:=r.one
 cases ru
 obtain⟨z,B,t,g,m⟩:=Er I.hok ha
 obtain⟨G,l,C,d,j⟩:=Er I.hok hb
 refine call_meetsIn PySem.F.slot_dict_update m.typeIs PySem.F.entry_dict_update (PySem.F.args_dict_update_2 _ _) (meets_dict_update (cc X.prog X.w) a b ab l) ⟨t,C,m,j,by rw[←g.length,←d.length];exact hz,λA i _ o=> ?_⟩
 have p:∃q,A.get? a=some q:=let ⟨q,_,_,hq,_⟩:=i;⟨q,hq⟩
 have J:=jF f k
 exact⟨.non,_,uO I (by rw[ha];exact True.intro) o p (vC (by omega) B (KV.merge d g) i),rfl,q⟩
def Ko(f g:bH):bH:=λi S=>(f i S).bind λ(x,h)=>(g i h).bind λ(y,d)=>match x,y with
 | .ref k,.ref j=>if k≠j then match h[k]?,d[k]?,d[j]? with
   |some (.dct _),some (.dct l),some (.dct m)=>if l.length+m.length<=sizeLine then some (.non,d.set k (.dct (bu l m))) else none
   |_,_,_=>none
   else none
 |_,_=>none
def ND{f g:bH}{o:Expr}{n h:Pos}(Z:PE X o (tD (md X) f))(w:PE X e (tD (md X) g))(s:attributeBase o "update" X.env (eval o X.env)=eval o X.env:=by rfl) (t:((backTo h (starEach [e] X.env)).all (λx=> !x.1)&&(backToKw h (keywordEach [] X.env)).all (λx=>x.1.isSome)
   &&decide ([e].length+([]:List Keyword).length+(if ([]:List Keyword).isEmpty then 0 else 1)<30))=true:=by rfl)
  (p:(n.endLine==h.line)=true:=by rfl) (hs:starEach [e] X.env= [(false,eval e X.env)]:=by rfl):PE X (.Call (.Attribute o "update" n) [e] [] h) (tD (md X) (Ko f g)):=
 kn (vA PySem.F.plainAttrs_dict PySem.F.slot_dict_update PySem.F.type_dict_update FN Z (cT w i_ hs) s t p hs) λσ H Q qq=>by
  obtain⟨ρ,N,S,d,S',ok,e,q⟩:=qq
  obtain⟨⟨x,K⟩,e1,e⟩:=au e
  obtain⟨⟨y,C⟩,e2,e⟩:=au e
  cases x with
  | ref k=>
    cases y with
    | ref j=>
      dsimp only at e
      split at e
      · rename_i ne
        cases G:K[k]? with
        |none=>rw[G] at e;cases e
        | some o1=>
          rw[G] at e
          cases o1 with
          | dct l0=>
            cases A:C[k]? with
            |none=>rw[A] at e;cases e
            | some o2=>
              rw[A] at e
              cases o2 with
              | dct l=>
                cases J:C[j]? with
                |none=>rw[J] at e;cases e
                | some o3=>
                  rw[J] at e
                  cases o3 with
                  | dct m=>
                    dsimp only at e
                    split at e
                    · rename_i hl
                      obtain⟨rfl,rfl⟩:=cD e
                      refine⟨ρ,N,S,_,K,ok,e1,λL v H1 U u r1=> ?_⟩
                      cases r1 with
                      | ref w=>
                        rename_i a
                        obtain⟨I,g0,_⟩:=u.obj k a _ w G
                        refine⟨.inr (.inr (.inl ⟨rfl,.inl ⟨I,g0⟩⟩)),L,N,K,[.ref j],C,ok.to U u,by simp only[aq,av,e2,Qbq],λa0 ws H2 Y i M=> ?_⟩
                        cases M with
                        | cons M rr=>
                          cases rr
                          cases M with
                          | ref W=>
                            rename_i b
                            have r:=di Y.pre w
                            obtain⟨kv,g1,P⟩:=i.obj k a _ r A
                            obtain⟨kw,g3,R⟩:=i.obj j b _ W J
                            have ab:a≠b:=λz=>by subst z;exact ne (nj i.nd r W)
                            obtain⟨B,x3⟩:=i.putKd r A (cI.merge R P)
                            exact⟨a,b,kv,kw,rfl,rfl,ab,g1,g3,by rw[←P.length,←R.length];exact hl,q _ _ _ ((U.trans Y).trans x3) B .non⟩
                    · cases e
                  |_=>cases e
              |_=>cases e
          |_=>cases e
      · cases e
    |_=>cases e
  |_=>cases e
end
end DL
namespace L2
open PySem PySem.Spec PyProof.Rows
section
variable{prog:Program}{w:World}{A:Around}{s:Shared}
def wY{D:Addr}{R:Result->Shared->Prop}(I:Nat->Shared->Prop)
  (B:∀n s,I n s->wpAny (model prog w) A (pyNext it) (λr e=>match r with
   |none=>R (.ok .next) e
   |some v=>wpAny (model prog w) A (letOwnedTupleGo a it v) (λ_ d=>wpAny (model prog w) A (assign a env v) (λ_ k=>
     wpAny (model prog w) A (forIn p true λc r=>if r=true then do let ok←isTrue c env (eval c env);pure (ForInStep.yield ok) else pure (ForInStep.yield r)) (λok s₃=>
      if ok=true then wpAny (model prog w) A (eval G env) (λx o=>wpAny (model prog w) A (eval F env) (λy g=>
       wpAny (model prog w) A (dictSet D x y) (λ_ i=>∃m,m<n/\I m i) (λ_ _=>False) g) (λ_ _=>False) o) (λ_ _=>False) s₃
      else∃m,m<n/\I m s₃) (λ_ _=>False) k) (λ_ _=>False) d) (λ_ _=>False) e) (λ_ _=>False) s)
  (n:Nat) (h:I n s):codeAny (model prog w) A (.compLoop (.DictComp G F [⟨a,l,p,0⟩] f pos) 0 it (.ref D) env) R s:=by
 refine codeAny_loop rfl I (λn s H=> ?_) n h
 show wpAny _ A ((compTurn (.DictComp G F [⟨a,l,p,0⟩] f pos) 0 it (.ref D) env).onRaise (λx=>do noteFrame x env;theTreesLotGoes x)) _ _ s
 refine wpAny_noted ?_
 rw[compTurn_dict]
 refine Qaq<|wpAny_standAt<|Qaq (QRq (B n s H) (λr e j=> ?_) λ_ _ b=>b.elim)
 cases r with
 |none=>exact Qgq j
 | some v=>
   refine Qaq (QRq j (λ_ d q=> ?_) λ_ _ b=>b.elim)
   refine Qaq (QRq q (λ_ k C=>Qaq (QRq C (λok s₃ h₃=> ?_) λ_ _ b=>b.elim)) λ_ _ b=>b.elim)
   cases ok with
   |false=>exact Qgq ⟨rfl,h₃⟩
   | true=>
     exact Qaq<|Qaq (QRq h₃ (λx o t=>Qaq<|QLq (QRq t (λy g u=>Qaq<|wpAny_standAt<|QLq (QRq u (λ_ i z=>Qgq ⟨rfl,z⟩) λ_ _ b=>b.elim)) λ_ _ b=>b.elim)) λ_ _ b=>b.elim)
end
def MB(J:It)(g:TG)(p:TT)(q o:TE)(Q:VK)(D:Addr)(r:St)(H:Hp):Prop:=
 ∃ W:Nat->Nat->St->Hp->Prop,(∃m,W 0 m r H)/\∀i m d f,W i m d f→
   (J.stop i f/\Q (.ref D) f)\/(J.go i f/\∃h:St->Hp->Prop,(∀b e,h b e->∃j,j<m/\W (i+1) j b e)∧
     ∀ x H2,J.yld i f x H2->g x d H2 λa H3=>p a H3 λok H4=>
       if ok=true then q a H4 λk H5=>o a H5 λy n=>∃c l,k=kV l/\n D=some (.dK c)/\c.length<sizeLine/\h a (upd n D (.dK (putK c l y))) else h a H4)
def GH(js:List (Option Nat))(b:TI)(g:TG)(c:TT)(d e:TE):TE:=λa H Q=>b a H λJ H1=>∀D,H1 D=none->MB J g c d e Q D (lD js a) (upd H1 D<|.dK [])
def G2{X:Cx}{N:List Str}{js:List (Option Nat)}{a:Scope}{cl:List (Str×Addr)}{tg R kx vx M:Expr}{a6:List Expr}{pos b1:Pos}{wi:TI}{g gt:TG}{tt:TT}{tk tv:TE}
  (S:aL X N js a cl) (hc:X.calm=true) (hi:PI X tg R wi)
  (hg:∀C s H fp,PG (aP X N a cl C s H fp) tg g) (ht:∀C s H fp,oT (aP X N a cl C s H fp) a6 tt) (hk:∀C s H fp,PE (aP X N a cl C s H fp) kx tk) (hv:∀C s H fp,PE (aP X N a cl C s H fp) vx tv) (d5:PG X M gt)
  (hs:∀x,foldedSetIterable R X.env x=pure x:=by intro _;rfl) (d8:swapsWithSole [M] (.DictComp kx vx [⟨tg,R,a6,0⟩] a pos) b1.line X.env=pure true:=by rfl)
  (h1:(assignEach [M] X.env).map (·.2)= [assign M X.env]:=by rfl):PS X (.Assign [M] (.DictComp kx vx [⟨tg,R,a6,0⟩] a pos) b1) (FR (GH js wi g tt tk tv) gt):=by
 intro Z s σ H Dn I h
 rw[exec_Assign_arm]
 refine Qaq<|wpAny_standAt<|Qaq<|wpAny_of_eq d8<|wpAny_ite_true rfl<|Qaq ?_
 rw[h1]
 show wpAny _ _ (do let _←comprehension _ _ _ _ _ _ _ (some λv=>assignAll v [assign M X.env]);pure ()) _ _ _
 refine Qaq ?_
 refine wpAny_comprehension_free (use:=some λv=>assignAll v [assign M X.env]) rfl hs S.clos S.kind S.names (c_ (hi Z s σ H _ I h) λv s1 h1=>c_ h1 λe6 t h2=> ?_)
 obtain⟨it,fp,tn,J,H2,e,F,T,b5,f2,hD⟩:=h2
 subst e
 refine QhQ<|wpAny_newFunctionEnv S.nocell (by intro y hy;simp at hy) (λQ K B=> ?_) S.kind
 dsimp only at K B⊢
 generalize a5:t.heap.push {cls:=.type "dict",data:=.dict #[]}=P2 at K B⊢
 have hC:P2.objs.size=t.heap.objs.size+1:=by rw[←a5,Heap.size_push]
 have b6:t.heap.objs.size≠P2.objs.size:=by rw[hC];exact Qwq (Nat.lt_succ_self _)
 have a4:t.heap.objs.size<=P2.objs.size:=by rw[hC];exact Nat.le_succ _
 have L:∀b,b<t.heap.objs.size->b≠P2.objs.size:=λb f=>by rw[hC];exact Qwq (Nat.lt_succ_of_lt f)
 have a0:∀b o,t.heap.get? b=some o->Q.get? b=some o:=λb o e=>B.extBut b o (L b<|Qiq e) (Qcq _ (a5▸Qcq _ e))
 have e4:Q.get? t.heap.objs.size=some {cls:=.type "dict",data:=.dict #[]}:=B.extBut _ _ b6 (Qcq _ (a5▸Qrq _ rfl))
 have nD:H2 t.heap.objs.size=none:=F.fresh
 have nC:H2 P2.objs.size=none:=F.hok.fresh a4
 have b4:∀b∈fp,b<t.heap.objs.size:=λb f=>by
  obtain⟨o,e,_⟩:=T.obj _ _ b5 b f
  exact Qiq e
 obtain⟨W,⟨m0,w0⟩,c7⟩:=hD t.heap.objs.size nD
 have c4:(aP X N a cl P2.objs.size t H2 fp).Ok:=by
  refine⟨F.ok.mod,S.kind,F.ok.glob,F.ok.blt,a4,λx y c h1 h2=>F.ok.inj x y c (S.sub x c h1) (S.sub y c h2),S.has,(λx c h=>by cases h),F.ok.hd,F.ok.frames,.inl rfl,
   λb f=>⟨L b (b4 b f),λx c h=>(f2 b f).2.2.2.2.1 x c (S.sub x c h)⟩,F.bs,QAq F.ok.bsz F.sz,λb o e f=> ?_,λb f z=> ?_,F.stack,F.stkFree⟩
  ·rcases(f2 b f).2.2.2.1 with z|z
   ·exact F.ok.noex b o e z
   ·exact absurd (Qqq (Qqq (Qiq e) F.ok.bsz) z)<|Nat.lt_irrefl _
  ·rcases Qsq.mp (F.stkSub b z) with q|q
   ·exact(f2 b f).2.1 q
   ·exact(f2 b f).2.2.1 q
 have b8:dq X.prog X.w (upd H2 t.heap.objs.size<|.dK []) Q t.heap.objs.size (.dK []):=by
  obtain⟨o,es,ep,e1,e2⟩:=Heap.DictOf.new (knd:=cc X.prog X.w) t.heap
  exact vC (Nat.zero_le _) (beq_eq_false_iff_ne.mpr<|Ne.symm<|Qwq F.big) .nil ⟨o,es,ep,B.extBut _ _ b6<|Qcq _ (a5▸e1),e2⟩
 have I4:Inv (aP X N a cl P2.objs.size t H2 fp) [] (lD js σ) (upd H2 t.heap.objs.size<|.dK []) {t with heap:=Q,toks:=t.toks+([]:List (Str×Value)).length}:=by
  refine⟨c4,rfl,F.bare,Un.laid a0 (Qmq _) nD,⟨_,K,λi x v h1 h2 h3=> ?_⟩,λx c h=> ?_,by show upd H2 _ _ P2.objs.size=none;rw[bx b6.symm];exact nC,λx c h=> ?_,λp hp=>absurd (show p∈([]:List (Addr×Obj)) from hp) (by simp),F.hok.laid a0 (Qmq _) b8,by show(lD js σ).length=N.length;unfold lD;rw[lQm];exact S.len⟩
  ·unfold lD at h2
   rw[gQm] at h2
   cases e:js[i]? with
   |none=>rw[e] at h2;cases h2
   | some o=>
     rw[e] at h2
     cases o with
     |none=>cases h2
     | some j=>
       have a1:σ.getD j none=some v:=QdQ h2
       have hj:σ[j]?=some (some v):=by
         rw[Qlq] at a1
         cases q:σ[j]? with
         |none=>rw[q] at a1;cases a1
         |some y=>rw[q] at a1;exact congrArg some a1
       obtain⟨c1,c2,c3⟩:=S.cap i j x e h1
       obtain⟨m,hn,hl⟩:=F.loc
       have d7:KZ X.env.scope x:=by
         rcases c2 with z|z
         · exact .inr (.inl z)
         · exact .inr (.inr z)
       obtain⟨u,r,l⟩:=hl j x v c1 hj d7
       refine⟨u,r,.inr ⟨c3,?_⟩⟩
       obtain⟨c,b7⟩:=S.has x c3
       refine⟨c,b7,?_⟩
       rcases l with⟨z,_⟩|⟨_,c',e',z⟩
       · rcases c2 with y|y <;>rw[y] at z <;>cases z
       · rw[S.sub x c b7] at e'
         cases e'
         obtain⟨o,ho,hd⟩:=z
         exact⟨o,a0 _ _ ho,hd⟩
  ·obtain⟨v,o,ho,hd⟩:=F.cell x c (S.sub x c h)
   exact⟨v,o,a0 _ _ ho,hd⟩
  ·obtain⟨v,o,ho,hd⟩:=F.cell x c (S.sub x c h)
   rw[bx (Qwq<|Qiq ho)]
   exact F.freeC x c<|S.sub x c h
 have a2:∀{Y:List (Addr×Obj)} {H':Hp},Y= []->(∀b∈fp,H' b=none)->∀b∈fp,sP (aP X N a cl P2.objs.size t H2 fp) Y H' b:=λ{Y H'} ep hn b f=>by
  subst ep
  refine⟨hn b f,L b<|b4 b f,λz=>c4.exfs b f z,.inl f,λx c h=>(f2 b f).2.2.2.2.1 x c (S.sub x c h),λp hp=>absurd (show p∈([]:List (Addr×Obj)) from hp) (by simp)⟩
 have b2:codeAny (model X.prog X.w) X.A (.compLoop (.DictComp kx vx [⟨tg,R,a6,0⟩] a pos) 0 (.ref it) (.ref t.heap.objs.size) (compEnvC a cl P2.objs.size X.env))
   (compPost (model X.prog X.w) X.A X.xe (some λv=>assignAll v [assign M X.env]) (λ_ s9=>wpAny (model X.prog X.w) X.A (pure ()) (λ_ d4=>wpAny (model X.prog X.w) X.A (pure Flow.next) (SP X Z Dn) X.xe d4) X.xe s9) (.ref t.heap.objs.size) P2.objs.size) {t with heap:=Q,toks:=t.toks+([]:List (Str×Value)).length}:=by
  refine wY (λn s'=>∃i a3 H',Inv (aP X N a cl P2.objs.size t H2 fp) [] a3 H' s'/\tn i s'.heap/\(∀b∈fp,H' b=none)/\W i n a3 H') ?_ m0
   ⟨0,_,_,I4,T.keep _ _ _ b5 λb _ o e=>a0 b o e,λb f=>by rw[bx (Qwq<|b4 b f)];exact(f2 b f).1,w0⟩
  rintro n s3 ⟨i,a8,H3,I3,c5,c0,w3⟩
  rcases c7 i n a8 H3 w3 with⟨stop,q⟩|⟨go,Nx,hN,b9⟩
  ·refine c_ (T.done (aP X N a cl P2.objs.size t H2 fp) rfl rfl rfl hc i [] s3 a8 H3 _ I3 (a2 rfl c0) c5 stop) λr s4 U=> ?_
   obtain⟨hr,I5⟩:=U
   subst hr
   obtain⟨m,hn,_⟩:=id I5.loc
   have e3:∀h',Heap.SameBut P2.objs.size s4.heap h'->Inv X Z σ H3 {s4 with heap:=h'}:=by
    intro h' P
    have u:=I5.base
    have ne:∀b o,t.heap.get? b=some o->b≠P2.objs.size:=λb o e=>L b (Qiq e)
    refine F.call' (ch:=fp) I5.os ⟨λb o e n f hx=>(P.2 b<|ne b o e).trans (u.keep b o e n f hx),λb o e n f hx=> ?_,u.free,λb o e hx=> ?_,u.tups,u.frzs,u.tbls⟩ (λb ob e=> ?_) I5.bare λb f=>⟨(f2 b f).2.2.2.1,(f2 b f).2.1,(f2 b f).2.2.2.2.1,(f2 b f).2.2.2.2.2⟩
    ·obtain⟨sl,e1⟩:=u.slot b o e n f hx
     exact⟨sl,(P.2 b<|ne b o e).trans e1⟩
    ·obtain⟨o',e1⟩:=u.there b o e hx
     exact⟨o',(P.2 b<|ne b o e).trans e1⟩
    ·refine(I5.hok b ob e).stay (λc w' hc q=>(P.2 c ?_).trans q) (λ_ q=>q) λ_ _ q=>q
     have fC:H3 P2.objs.size=none:=I5.free
     rintro rfl
     rcases hc with z|z
     ·rw[←z,fC] at e;cases e
     ·rw[fC] at z;cases z
   have IX:=e3 s4.heap ⟨rfl,λ_ _=>rfl⟩
   have b0:sP X Z H3 P2.objs.size:=F.fpOk a4 I5.free
   obtain⟨oC,es,ep,d1,wQ,d3⟩:=hn
   have IP:=IX.pinned (fp:= [P2.objs.size]) (λb f=>by rw[Qfq] at f;rw[f];exact b0) (λb f=>by rw[Qfq] at f;rw[f];exact⟨oC,d1,λv=>by rw[wQ];simp⟩)
   show wpAny _ _ (assignAll (.ref t.heap.objs.size) [assign M X.env]) _ _ _
   rw[assignAll.eq_2]
   refine c_ (d5 _ s4 σ H3 (.ref t.heap.objs.size) (.ref t.heap.objs.size) _ IP rfl q) λ_ s6 U=> ?_
   obtain⟨G,H6,I6,q6⟩:=U
   have pC:=I6.pin (P2.objs.size,oC) (Qoq _<|Qoq _<|dN (Qfq.mpr rfl) d1)
   refine⟨m,⟨oC,es,ep,pC.1,wQ,d3⟩,λh' P=>Qgq<|Qgq ⟨G,H6,?_,q6⟩⟩
   exact I6.unpinned.turned (it:=P2.objs.size) (t':=s6.toks) (λb o' f e=>(P.2 b f).trans e) pC.2.1 pC.2.2.1 b0.2.2.2.1 b0.2.2.2.2.1 b0.2.2.2.2.2
  ·refine c_ (T.item (aP X N a cl P2.objs.size t H2 fp) rfl rfl rfl hc i [] s3 a8 H3 _ I3 (a2 rfl c0) c5 go) λr s4 U=> ?_
   obtain⟨u,hr,h4⟩:=U
   subst hr
   refine c_ h4 λ_ s5 U=> ?_
   obtain⟨x,H5,I5,r5,y5,b3,e0⟩:=U
   have d6:=I5.pinned (a2 rfl e0) (T.obj _ _ b3)
   refine c_ (hg P2.objs.size t H2 fp _ s5 a8 H5 x u _ d6 r5<|b9 x H5 y5) λ_ s6 U=> ?_
   obtain⟨G,H6,I6,q6⟩:=U
   refine c_ (ht P2.objs.size t H2 fp _ s6 G H6 _ I6 q6) λok s7 U=> ?_
   obtain⟨H7,I7,q7⟩:=U
   have again:∀{s8:Shared} {H8:Hp},Inv (aP X N a cl P2.objs.size t H2 fp) ([]++oV fp s5.heap) G H8 s8->Nx G H8->∃m,m<n/\∃i a3 H',Inv (aP X N a cl P2.objs.size t H2 fp) [] a3 H' s8/\tn i s8.heap/\(∀b∈fp,H' b=none)/\W i m a3 H':=λ{s8 H8} I8 n8=>by
    obtain⟨m',hm,w8⟩:=hN G H8 n8
    refine⟨m',hm,i+1,G,H8,I8.unpinned,T.keep _ _ _ b3 λb f o e=>(I8.pin (b,o)<|Qoq _<|Qoq _<|dN f e).1,λb f=> ?_,w8⟩
    obtain⟨o,e,d⟩:=T.obj _ _ b3 b f
    exact(I8.pin (b,o)<|Qoq _<|Qoq _<|dN f e).2.1
   cases ok with
   |false=>exact again I7 q7
   | true=>
     refine c_ (hk P2.objs.size t H2 fp _ s7 G H7 _ I7 q7) λkv s8 U=> ?_
     obtain⟨k,H8,I8,rk,q8⟩:=U
     refine c_ (hv P2.objs.size t H2 fp _ s8 G H8 _ I8 q8) λyv s9 U=> ?_
     obtain⟨y,H9,I9,ry,d9,ky,ek,hx,hl,n9⟩:=U
     subst ek
     obtain⟨z,hd,vs,c6,dd⟩:=Er I9.hok hx
     refine wpAny_dictSet_pairs (BF rk) dd (λh' d2 P=> ?_) (by rw[←c6.length];exact z)
     have he:∃q,h'.get? t.heap.objs.size=some q:=let ⟨q,_,_,hq,_⟩:=d2;⟨q,hq⟩
     have e5:=ji d9 ky y
     exact again (uO I9 (by rw[hx];exact True.intro) P he<|vC (by omega) hd (c6.put ky ry) d2) n9
 exact codeAny_compStart_dict b2<|T.self _ 0 _ _ _ (T.keep _ _ _ b5 λb _ o e=>a0 b o e) b2
end L2
namespace DL
open PySem PySem.Spec PyProof.Rows L2
section
variable{M:Md}{ρ:List Addr}{H:Hp}{b:Addr}{us:List (Key×V)}{o:HO}
theorem gC.offK{S:aE}(st:gC M ρ S H)(g:H b=some (.dK us))(n:b∉ρ):gC M ρ S (upd H b o):=⟨st.len,st.nd,λk a p h l=>by
 have q:=st.obj k a p h l
 have e:a≠b:=λz=>n (z▸mQg h)
 cases p with
 |lst m=>obtain⟨f,c,d⟩:=q;exact⟨f,by rw[bx e];exact c,d.offK g⟩
 |frz m=>obtain⟨f,o,c,d⟩:=q;exact⟨f,o,by rw[bx e];exact c,d.offK g⟩
 |dct i=>obtain⟨j,c,d⟩:=q;exact⟨j,by rw[bx e];exact c,d.imp λ_ _ r=>r.offK g⟩⟩
def En.offK{a:cB}{c:L2.St}(h:En M ρ H a c)(g:H b=some (.dK us)):En M ρ (upd H b o) a c:=⟨h.len,λi d q=>by obtain⟨v,e,f⟩:=h.get i d q;exact⟨v,e,f.offK g⟩⟩
end
open Classical in
def jG(g:nR)(t:jL)(b c:bH)(W:aE->Prop):List D->cB->aE->List (Key×D)->Option (List (Key×D)×aE)
 | [],Γ,S,acc=>if W S then some (acc,S) else none
 |d ::ds,Γ,S,acc=>if W S then(g d Γ S).bind λ(a,f)=>(t a f).bind λ(k,e)=>
    if k=true then(b a e).bind λ(x,j)=>(c a j).bind λ(y,h)=>(xn x).bind λi=>if acc.length<sizeLine then jG g t b c W ds a h (putD acc i y) else none
    else jG g t b c W ds a e acc
  else none
def q0(js:List (Option Nat))(i:yh)(g:nR)(t:jL)(b d:bH):cB->aE->Option (List (Key×D)×aE):=λa S=>(i a S).bind λ(p,c)=>jG g t b d p.2 p.1 (pQ js a) c []
def Jq{M:Md}{js:List (Option Nat)}{i:yh}{g:nR}{t:jL}{fk fv:bH}{σ:L2.St}{H:Hp}{Q:VK}{ρ:List Addr}{Γ:cB}{S S':aE}{l:List (Key×D)}(ok:Ok M ρ Γ S σ H)(e:q0 js i g t fk fv Γ S=some (l,S'))
  (q:∀b a kv f,cH ρ H b f->gC M b S' f->H a=none->a∉b->f a=some (.dK kv)->cI M b f l kv->Q (.ref a) f):GH js (tI M i) (tG M g) (tB M t) (tD M fk) (tD M fv) σ H Q:=by
 obtain⟨⟨⟨n,W⟩,S1⟩,e1,e⟩:=au e
 refine⟨ρ,Γ,S,n,W,S1,ok,e1,λp J H1 x1 Y wk D U=> ?_⟩
 have n1:D∉p:=eD x1 Y U
 have b2:Ok M p (pQ js Γ) S1 (lD js σ) (upd H1 D (.dK [])):=⟨((ok.en.ext x1).ext (cH.laid U)).sig js,Y.lay U⟩
 refine⟨λi m C f=>m=n.length-i/\i<=n.length/\∃d u R c j,cH p H1 d f/\Ok M d u R C f/\D∉d/\f D=some (.dK j)/\cI M d f c j/\jG g t fk fv W (n.drop i) u R c=some (l,S'),
  ⟨n.length,by simp,Nat.zero_le _,p,_,S1,[],[],cH.laid U,b2,n1,cn,rfl,e⟩,?_⟩
 rintro i m b5 H2 ⟨rfl,hi,d,u,R,c,j,x2,ok2,n2,hD2,racc,e2⟩
 by_cases L:i<n.length
 ·have hd:n[i]?=some n[i]:=gQe L
  rw[QWq L] at e2
  unfold jG at e2
  split at e2
  ·rename_i w
   obtain⟨w1,w2⟩:=wk i d R H2 x2 ok2.st w
   obtain⟨go,a8⟩:=w1 _ hd
   refine .inr ⟨go,λC f=>∃b F s c j,cH p H1 b f/\Ok M b F s C f/\D∉b/\f D=some (.dK j)/\cI M b f c j/\jG g t fk fv W (n.drop (i+1)) F s c=some (l,S'),
    λC f ⟨b,F,s,c,j,h1,h2,h3,h4,h5,h6⟩=>⟨n.length-(i+1),by omega,rfl,L,b,F,s,c,j,h1,h2,h3,h4,h5,h6⟩,λx H3 hy=> ?_⟩
   obtain⟨x3,a6,r3⟩:=a8 x H3 hy
   obtain⟨⟨h,S4⟩,e4,e5⟩:=au e2
   refine⟨d,u,R,_,h,S4,ok2.to x3 a6,r3,e4,λa5 b4 H4 x4 o=> ?_⟩
   obtain⟨⟨k,S5⟩,e6,e7⟩:=au e5
   refine⟨a5,h,S4,k,S5,o,e6,λZ H5 X I=> ?_⟩
   have B:=(x3.trans x4).trans X
   have G:∀{b f},cH d H2 b f->f D=some (.dK j)/\D∉b:=λ{b f} x=>⟨x.keep _ _ hD2 (.inl n2),λm=>(x.new _ m).elim n2 λz=>by rw[z] at hD2;cases hD2⟩
   dsimp only at e7⊢
   split at e7
   ·rename_i ck
    rw[Qhq ck]
    obtain⟨⟨kx,S6⟩,e8,e9⟩:=au e7
    obtain⟨⟨y,S7⟩,a4,b0⟩:=au e9
    obtain⟨kk,a1,K⟩:=au b0
    refine⟨Z,h,S5,kx,S6,o.to X I,e8,λa2 kv H6 x6 b3 r6=>⟨a2,h,S6,y,S7,(o.to X I).to x6 b3,a4,λa0 v H7 x7 b1 r7=> ?_⟩⟩
    have P:=(B.trans x6).trans x7
    obtain⟨A,n7⟩:=G P
    have N:=racc.ext' P
    split at K
    ·rename_i cl
     refine⟨j,kk,uH r6 a1,A,by rw[←racc.length];exact cl,a0,h,S7,putD c kk y,_,(x2.trans P).off U _,⟨(((o.en.ext X).ext x6).ext x7).offK A,b1.offK A n7⟩,n7,cn,(N.put r7).imp λ_ _ r=>r.offK A,K⟩
    ·cases K
   ·rename_i ck
    rw[Quq ck]
    obtain⟨a3,n5⟩:=G B
    exact⟨Z,h,S5,c,j,x2.trans B,o.to X I,n5,a3,racc.ext' B,e7⟩
  ·cases e2
 ·have e3:i=n.length:=by omega
  subst e3
  rw[List.drop_length] at e2
  unfold jG at e2
  split at e2
  ·rename_i w
   obtain⟨rfl,rfl⟩:=cD e2
   obtain⟨w1,w2⟩:=wk n.length d R H2 x2 ok2.st w
   exact .inl ⟨w2 rfl,q d D j H2 (x1.trans x2) ok2.st (x1.grow _ U) n2 hD2 racc⟩
  ·cases e2
def Oa(n:Nat)(f:cB->aE->Option (List (Key×D)×aE)):cE:=λb S=>(f b S).bind λ(l,a)=>some (.nx (b.set n (some (.ref a.length))) (a++ [.dct l]))
section
variable{X:Cx}{pos:Pos}
def Jl{N:List Str}{js:List (Option Nat)}{c:Scope}{p:List (Str×Addr)}{tg d v r f:Expr}{k:List Expr}{i:yh}{g:nR}{t:jL}{G B:bH}{n:Nat}{h:Pos}
  (S:aL X N js c p) (hc:X.calm=true) (hi:PI X tg d (tI (md X) i))
  (Y:∀C s H fp,PG (aP X N c p C s H fp) tg (tG (md X) g)) (ht:∀C s H fp,oT (aP X N c p C s H fp) k (tB (md X) t)) (L:∀C s H fp,PE (aP X N c p C s H fp) v (tD (md X) G)) (R:∀C s H fp,PE (aP X N c p C s H fp) r (tD (md X) B)) (y:PG X f (qm n))
  (hs:∀x,foldedSetIterable d X.env x=pure x:=by intro _;rfl) (u:swapsWithSole [f] (.DictComp v r [⟨tg,d,k,0⟩] c pos) h.line X.env=pure true:=by rfl)
  (K:(assignEach [f] X.env).map (·.2)= [assign f X.env]:=by rfl):PS X (.Assign [f] (.DictComp v r [⟨tg,d,k,0⟩] c pos) h) (tS (md X) (Oa n (q0 js i g t G B))):=
 EH (G2 S hc hi Y ht L R y hs u K) λD σ H J=>by
  obtain⟨W,Γ,S,o,ok,e,q⟩:=J
  obtain⟨⟨l,S1⟩,M,e⟩:=au e
  cases e
  refine Jq ok M λj a P F x A Q U I Z=> ?_
  have w:=A.box (o:=.dct l) U ⟨P,I,Z.pre' (List.prefix_append j [a])⟩
  have z:cH W H (j++ [a]) F:=⟨x.pre.trans (List.prefix_append _ _),λb m=>by
   rcases mQa.mp m with m|m
   ·exact x.new b m
   ·rw[Qfq] at m;subst m;exact .inr Q,x.keep,x.grow⟩
  refine q (j++ [a]) _ F z ⟨((ok.en.ext z).set (.ref ?_)),w⟩
  rw[←A.len,QQq (Qmq _)]
  simp
end
end DL
namespace Zp
open PySem PySem.W PyProof.Rows
def jT(a:Nat->Nat->Bool):KasT (Array Nat)->Array Nat
 |.ret p=>p
 |.ask i j k=>jT a (k (a i j))
theorem i4(a:Nat->Nat->Bool):∀t:KasT (Array Nat),jT a t∈rP t
 |.ret p=>by simp[jT,rP]
 | .ask i j k=>by
   unfold jT rP
   cases a i j with
   |true=>exact List.mem_append_left _ (i4 a (k true))
   |false=>exact Qoq _ (i4 a (k false))
theorem yN{a:Nat->Nat->(Bool->Shared->Prop)->Shared->Prop}{Q:Array Nat->Shared->Prop}{s:Shared}{n:Nat}{c:Nat->Nat->Bool}(b:∀i j C,i<n->j<n->i≠j->C (c i j) s->a i j C s):
  ∀t:KasT (Array Nat),uW n t=true->Q (jT c t) s->t.kasWp a Q s
 |.ret p,_,h=>h
 | .ask i j k,ha,h=>by
   simp only[uW,QCq,decide_eq_true_eq] at ha
   obtain⟨⟨⟨⟨d,f⟩,g⟩,l⟩,m⟩:=ha
   refine b i j _ d f g ?_
   cases e:c i j with
   |true=>exact yN b (k true) l (by unfold jT at h;rw[e] at h;exact h)
   |false=>exact yN b (k false) m (by unfold jT at h;rw[e] at h;exact h)
def MH(fs:List Str)(i j:Nat):Bool:=decide ((fs.getD i "").cps.toList<(fs.getD j "").cps.toList)
def sortBy{α:Type}(fs:List Str)(d:α)(xs:List α):List α:=if xs.length<2 then xs else(jT (MH fs) (kas_sort xs.length)).toList.map λi=>xs.getD i d
def fg{α:Type}{d:α}(fs:List Str)(xs:List α)(h:xs.length<=3):(sortBy fs d xs).Perm xs:=by
 unfold sortBy
 split
 ·exact List.Perm.refl _
 ·rename_i b
  obtain⟨_,a⟩:=uN xs.length h (by omega)
  have c:(jT (MH fs) (kas_sort xs.length)).toList.Perm (List.range xs.length):=List.isPerm_iff.mp (QUq.mp a _ (i4 _ _))
  have e:(List.range xs.length).map (λi=>xs.getD i d)=xs:=by
   apply List.ext_getElem
   ·simp
   ·intro i f b
    simp[Qlq,b]
  have:=c.map λi=>xs.getD i d
  rw[e] at this
  exact this
section
variable{prog:Program}{w:World}{A:Around}{E:Value->Shared->Prop}{s:Shared}
def CN{a:Addr}{vs:List Value}{fs:List Str}{n:Nat}{P:PySem.Fin->Shared->Prop}(K:s.heap.get? a=some (seqObj "list" vs.toArray n))(h3:vs.length<=3)(ht:fh s.heap vs fs)(hd:fs.Nodup)
  (q:∀H:Array Value,H.toList=sortBy fs Value.none vs->P (.done (.ret .none)) {s with heap:=sortedHeap s.heap a vs H}):wpAny (model prog w) A (Builtin.«list.sort» ⟨[.ref a],[]⟩) P E s:=by
 rw[list_sort_plain]
 have ha:a<s.heap.objs.size:=Qiq K
 refine Qaq (listItems_at K rfl (Qaq (listUpdate_at K rfl ?_ (by rw[Qjq,sizeLine_eq];omega) (Nat.zero_le _))))
 obtain⟨N,I⟩:∃N,(s.heap.update a (Obj.mapSeq λ_=> #[])).get? a=some (seqObj "list" #[] N):=⟨_,get?_update_seq K (λ_=> #[])⟩
 refine Qaq (seqEpoch_at I rfl (Qaq (wpAny_newTuple ?_ (by show vs.length<=_;rw[sizeLine_eq];omega))))
 refine Qaq (wpAny_newList (QLq ?_) (Nat.zero_le _))
 have g:(((s.heap.update a (Obj.mapSeq λ_=> #[])).push (seqObj "tuple" vs.toArray 0)).push (seqObj "list" #[] 0)).get? a=some (seqObj "list" #[] N):=Qcq _ (Qcq _ I)
 have u:fh (((s.heap.update a (Obj.mapSeq λ_=> #[])).push (seqObj "tuple" vs.toArray 0)).push (seqObj "list" #[] 0)) vs fs:=ht.keep λb o e c=>by
  have nb:b≠a:=λz=>by rw[z,K] at e;cases e;simp[seqObj] at c
  exact Qcq _ (Qcq _ (by rw[Heap.get?_update_ne _ _ _ _ nb];exact e))
 refine(?_:wpAny (model prog w) A _ P E {s with heap:=((s.heap.update a (Obj.mapSeq λ_=> #[])).push (seqObj "tuple" vs.toArray 0)).push (seqObj "list" #[] 0)})
 dsimp only
 by_cases F:vs.toArray.size<2
 ·rw[Qhq F,Qhq F]
  refine Qaq (Qgq ?_)
  rw[StateT.run_pure]
  refine Qaq (Qgq ?_)
  dsimp only
  have e2:((vs.toArray.zip vs.toArray).map (·.2))=vs.toArray:=by
   apply Array.toList_inj.mp
   simp
   exact List.map_snd_zip (Qmq _)
  refine Qaq (seqEpoch_at g rfl (Qaq (listUpdate_at g rfl ?_ (hsz2:=by
   refine QAq (Nat.le_of_eq (congrArg Array.size e2)) ?_
   rw[Qjq,sizeLine_eq]
   omega))))
  simp only[bne_self_eq_false,Bool.false_eq_true,if_false]
  refine Qgq ?_
  have:=q vs.toArray (by unfold sortBy;rw[Qhq (by simpa using F)])
  rw[←e2] at this
  exact this
 ·rw[Quq F,Quq F]
  have hn:2<=vs.length:=by simpa using F
  obtain⟨gs,kt,lg,mg⟩:=u.firsts
  have lf:=ht.len
  refine Qaq (kat_kind (T:=.type "str") kt (by omega) (λv hv=> ?_) rfl ?_)
  ·obtain⟨x,t,rfl⟩:=mg v hv
   exact .now
  obtain⟨ok,perm⟩:=uN vs.length h3 hn
  have Y:SortSt.mk' (tuples' true) (vs.toArray.zip vs.toArray) #[] 7 none=kas_st (tuples' true) (pairsOf vs) (List.toArray (List.range vs.length)):=by
   have e:=kas_range (pairsOf vs)
   rw[pairsOf_size] at e
   refine(?_:SortSt.mk' (tuples' true) (pairsOf vs) #[] 7 none=SortSt.mk' (tuples' true) ((List.toArray (List.range vs.length)).map (kas_item (pairsOf vs))) #[] 7 none)
   rw[e]
  refine(?_:wpAny (model prog w) A (StateT.run sortRuns' (SortSt.mk' (tuples' true) (vs.toArray.zip vs.toArray) #[] 7 none) >>= _) P E _)
  rw[Y]
  have U:=kas_runs (prog:=prog) (w:=w) (A:=A) (E:=E) (κ:=tuples' true) (it:=pairsOf vs) (n:=vs.length)
   (s:={s with heap:=((s.heap.update a (Obj.mapSeq λ_=> #[])).push (seqObj "tuple" vs.toArray 0)).push (seqObj "list" #[] 0)})
   (G:=λp J=>p=jT (MH fs) (kas_sort vs.length)/\J={s with heap:=((s.heap.update a (Obj.mapSeq λ_=> #[])).push (seqObj "tuple" vs.toArray 0)).push (seqObj "list" #[] 0)})
   (Q:=λ_ f J=>J={s with heap:=((s.heap.update a (Obj.mapSeq λ_=> #[])).push (seqObj "tuple" vs.toArray 0)).push (seqObj "list" #[] 0)}/\failedOf f=none/\∃p,p=jT (MH fs) (kas_sort vs.length)/\arrOf f=p.map (kas_item (pairsOf vs)))
   hn (by omega) (λp' f J a1 a2 a3 a4=>⟨a4.2,a3,p',a4.1,a2⟩) (yN (n:=vs.length) (λi j C hi hj R hC=> ?_) _ ok ⟨rfl,rfl⟩)
  ·refine Qaq (QRq U ?_ λ_ _ e=>e)
   rintro⟨⟨⟩,f⟩ J ⟨rfl,hf,p,hp,har⟩
   dsimp only
   have l:((arrOf f).map (·.2)).toList=sortBy fs Value.none vs:=by
    unfold sortBy
    rw[Quq (by omega),har,Array.map_map,Array.toList_map,hp]
    refine List.map_congr_left λk _=> ?_
    show(kas_item (pairsOf vs) k).2=_
    rw[kas_item_eq]
   have h:=fg (d:=Value.none) fs vs h3
   have L:((arrOf f).map (·.2)).size=vs.length:=by
    have:=congrArg List.length l
    rw[h.length_eq] at this
    simpa using this
   refine Qaq (seqEpoch_at g rfl (Qaq (listUpdate_at g rfl ?_ (hsz2:=by
    refine QAq (Nat.le_of_eq L) ?_
    rw[sizeLine_eq]
    omega))))
   rw[hf]
   simp only[bne_self_eq_false,Bool.false_eq_true,if_false]
   exact Qgq (q _ l)
  ·unfold kas_cmp
   rw[kas_item_eq,kas_item_eq]
   obtain⟨x,ox,Z,nx,tx,ex,gx,dx,fx⟩:=u.get (i:=i) (by omega)
   obtain⟨y,oy,ys,ny,ty,ey,gy,dy,fy⟩:=u.get (i:=j) (by omega)
   dsimp only
   rw[ex,ey]
   have M:¬fs.getD i ""=fs.getD j "":=λz=>by
    have B:i<fs.length:=by omega
    have m:j<fs.length:=by omega
    rw[Qlq,Qlq,gQe B,gQe m] at z
    have z':fs[i]=fs[j]:=z
    rcases Nat.lt_or_gt_of_ne R with X|X
    ·exact List.pairwise_iff_getElem.mp hd i j B m X z'
    ·exact List.pairwise_iff_getElem.mp hd j i m B X z'.symm
   refine kat_lt gx dx gy dy ?_
   obtain⟨xr,W⟩:∃r,Z.toList=.str (fs.getD i "") tx::r:=by
    cases e:Z.toList with
    |nil=>have:=congrArg (·[0]?) e;simp[fx] at this
    |cons v r=>have:=congrArg (·[0]?) e;simp[fx] at this;exact⟨r,by rw[Qlq,this]⟩
   obtain⟨yr,S⟩:∃r,ys.toList=.str (fs.getD j "") ty::r:=by
    cases e:ys.toList with
    |nil=>have:=congrArg (·[0]?) e;simp[fy] at this
    |cons v r=>have:=congrArg (·[0]?) e;simp[fy] at this;exact⟨r,by rw[Qlq,this]⟩
   rw[W,S,List.zip_cons_cons]
   refine kat_cons (wpAny_eqBool_str ?_)
   rw[Qdq M]
   exact kat_no (oneLt_str hC)
def Aa{l:Addr}{vs:List Value}{fs:List Str}{Q:Value->Shared->Prop}(h:s.heap.IsList l vs.toArray)(i:vs.length<=3)(ht:fh s.heap vs fs)(hd:fs.Nodup)
  (q:∀a:Array Value,a.toList=sortBy fs Value.none vs->Q (.ref (s.heap.objs.size+1)) {s with heap:=sortedAll s.heap vs a}):wpAny (model prog w) A (call (.builtin "sorted") [.ref l]) Q E s:=by
 refine Calls.call_function_entry kind_sorted plain_sorted entry_sorted (args_sorted1 _) ?_
 unfold Builtin.«sorted»
 refine Qaq (m:=checkCount "sorted" 1 1 _) (Qgq (Qaq (collect_list h (Qaq (wpAny_newList ?_ (by rw[sizeLine_eq];omega))) (by rw[sizeLine_eq];omega))))
 have d:((s.heap.push (seqObj "list" #[] 0)).update s.heap.objs.size (Obj.mapSeq (·++vs.toArray))).objs.size=s.heap.objs.size+1:=by rw[Heap.size_update,size_push']
 have f:(((s.heap.push (seqObj "list" #[] 0)).update s.heap.objs.size (Obj.mapSeq (·++vs.toArray))).push (seqObj "list" vs.toArray 0)).get? (s.heap.objs.size+1)=some (seqObj "list" vs.toArray 0):=by
  rw[←d]
  exact Qrq _ rfl
 have c:fh (((s.heap.push (seqObj "list" #[] 0)).update s.heap.objs.size (Obj.mapSeq (·++vs.toArray))).push (seqObj "list" vs.toArray 0)) vs fs:=ht.keep λb o e _=>by
  have j:b<s.heap.objs.size:=Qiq e
  refine Qcq _ ?_
  rw[Heap.get?_update_ne _ _ _ _ (Qwq j)]
  exact Qcq _ e
 refine(?_:wpAny _ _ _ _ _ {s with heap:=((s.heap.push (seqObj "list" #[] 0)).update s.heap.objs.size (Obj.mapSeq (·++vs.toArray))).push (seqObj "list" vs.toArray 0)})
 rw[d]
 refine Qaq (QLq (wpAny_call_entry slot_list_sort ⟨_,f,rfl⟩ entry_list_sort (CN f i c hd λa g=>⟨_,rfl,?_⟩) (args_list_sort _)))
 exact Qgq ⟨_,rfl,q a g⟩
end
end Zp
namespace L2
open PySem PySem.Spec PyProof.Rows
section
variable{X:Cx}
def Kf(K:PySem.W.Frag):List V->Hp->VK->Prop:=λd H Q=>∃(a:Addr) (b:List Addr) (c:List Str),d= [.ref a]/\je K H a (b.map V.ref)/\b.length<=3/\xU H b c/\c.Nodup/\∀(l:Addr),H l=none->Q (.ref l) (upd H l (.lst ((Zp.sortBy c 0 b).map V.ref)))
def xu:kh X (.builtin "sorted") (Kf X.K):=by
 intro l s G H A F Q I r h
 obtain⟨a,c,j,rfl,ha,h3,hF,hd,q⟩:=h
 obtain⟨u,rfl,rx⟩:=vals1 r
 cases (show u=Value.ref a from rx)
 obtain⟨x,n,y,B⟩:=I.list ha
 cases yd n
 have k:s.heap.objs.size<=s.heap.objs.size+1:=Nat.le_succ _
 refine Zp.Aa y.isList (by simpa using h3) (Cv I hF) hd λd p=> ?_
 have t:d.toList=(Zp.sortBy j 0 c).map Value.ref:=by
  rw[p]
  unfold Zp.sortBy
  rw[lQm]
  split
  ·rfl
  ·rename_i C
   rw[QPq]
   obtain⟨_,g⟩:=Zp.uN c.length h3 (by omega)
   have f:(Zp.jT (Zp.MH j) (PySem.W.kas_sort c.length)).toList.Perm (List.range c.length):=List.isPerm_iff.mp (QUq.mp g _ (Zp.i4 _ _))
   refine List.map_congr_left λi v=> ?_
   have w:i<c.length:=List.mem_range.mp (f.mem_iff.mp v)
   show(c.map Value.ref).getD i Value.none=Value.ref (c.getD i 0)
   rw[Qlq,Qlq,gQm,gQe w]
   rfl
 obtain⟨e,m⟩:=sortedAll_at s.heap (c.map Value.ref) d
 refine⟨.ref (s.heap.objs.size+1),_,I.laid (a:=s.heap.objs.size+1) (o:=.lst ((Zp.sortBy j 0 c).map V.ref)) (h':=sortedAll s.heap (c.map Value.ref) d) (t':=s.toks) (λb o z=>sortedAll_old z) k ⟨?_,d.toList,e,?_,?_⟩,rfl,q _ (I.hok.fresh k)⟩
 ·rw[lQm,(Zp.fg j c h3).length_eq]
  exact QAq h3 (by decide)
 ·have:=vm (Zp.sortBy j 0 c)
  rw[←t] at this
  exact this
 ·simpa using m
end
end L2
namespace DL
open PySem PySem.Spec PyProof.Rows L2
def yj(a b:Str):Prop:=¬(b.cps.toList<a.cps.toList)
instance(a b:Str):Decidable (yj a b):=by unfold yj;infer_instance
def Fl(a b:Str):yj a b\/yj b a:=by
 by_cases h:b.cps.toList<a.cps.toList
 ·exact .inr λc=>List.lt_asymm h c
 ·exact .inl h
def yi{a b c:Str}(d:yj a b)(e:yj b c):yj a c:=by
 unfold yj at *
 rw[List.not_lt] at *
 exact List.le_trans d e
def GE{a b:Str}(c:yj a b)(d:yj b a):a=b:=by
 unfold yj at *
 rw[List.not_lt] at *
 have:=List.le_antisymm c d
 cases a
 cases b
 simp only[Str.mk.injEq]
 exact Array.toList_inj.mp this
def CP(x:Str):List Str->List Str
 | []=> [x]
 |y::r=>if yj x y then x::y::r else y::CP x r
def rX:List Str->List Str
 | []=> []
 |x::r=>CP x (rX r)
theorem rL(x:Str):∀l:List Str,(CP x l).Perm (x::l)
 | []=>List.Perm.refl _
 | y::r=>by
   unfold CP
   split
   · exact List.Perm.refl _
   · exact((rL x r).cons y).trans (List.Perm.swap _ _ _)
theorem jv:∀l:List Str,(rX l).Perm l
 | []=>List.Perm.refl _
 |x::r=>(rL x _).trans ((jv r).cons x)
theorem sT{x:Str}:∀{l:List Str},l.Pairwise yj->(CP x l).Pairwise yj
 | [],_=>by simp[CP]
 | y::r,h=>by
   rw[List.pairwise_cons] at h
   unfold CP
   split
   · rename_i c
     refine List.pairwise_cons.mpr ⟨λz a=> ?_,List.pairwise_cons.mpr h⟩
     rcases Qsq.mp a with rfl|a
     · exact c
     · exact yi c (h.1 z a)
   · rename_i c
     refine List.pairwise_cons.mpr ⟨λz a=> ?_,sT h.2⟩
     rcases Qsq.mp ((rL x r).mem_iff.mp a) with rfl|a
     · exact(Fl _ _).resolve_left c
     · exact h.1 z a
theorem ou:∀l:List Str,(rX l).Pairwise yj
 | []=>List.Pairwise.nil
 |x::r=>sT (ou r)
def zT:∀{l:List Str},sortedS l=true->l.Pairwise yj
 | [],_=>List.Pairwise.nil
 | x::r,h=>by
   have d:∀(r:List Str) (x:Str),risingS x r=true->(x::r).Pairwise yj:=by
     intro r
     induction r with
     |nil=>intro x _;simp
     | cons y r e=>
       intro x h
       unfold risingS at h
       simp only[QCq] at h
       have c:=e y h.2
       have b:yj x y:=by
         have:=h.1
         unfold yj
         rw[ltCps_eq] at this
         simpa using this
       refine List.pairwise_cons.mpr ⟨λz a=> ?_,c⟩
       rcases Qsq.mp a with rfl|a
       · exact b
       · exact yi b ((List.pairwise_cons.mp c).1 z a)
   exact d r x h
def FY{c ss:List Str}(h:sortedS c=true)(p:c.Perm ss):c=rX ss:=
 List.Perm.eq_of_pairwise (le:=yj) (λa b _ _ d e=>GE d e) (zT h) (ou ss) (p.trans (jv ss).symm)
end DL
namespace L2
open PySem PySem.Spec PyProof.Rows
end L2
namespace DL
open PySem PySem.Spec L2
section
variable{X:Cx}{a b e:Expr}{pos:Pos}
def yn:List D->Option (List Str)
 | []=>some []
 |.str x::r=>(yn r).bind λc=>some (x::c)
 |_::_=>none
theorem A9{M:Md}{ρ:List Addr}{H:Hp}:∀{ds:List D} {vs:List V} {xs:List Str},bc M ρ H ds vs->yn ds=some xs->vs=xs.map V.str
 | [],_,_,h,e=>by cases h;cases e;rfl
 | d::ds,_,_,h,e=>by
   cases d with
   | str b=>
     simp only[yn] at e
     obtain⟨c,g,e⟩:=au e
     cases e
     cases h with
     | cons h f=>
       cases h
       rw[A9 f g]
       rfl
   |_=>cases e
theorem xW{M:Md}{ρ:List Addr}{H:Hp}:∀ss:List Str,bc M ρ H (ss.map D.str) (ss.map V.str)
 | []=>.nil
 |s::ss=>.cons (.str s) (xW ss)
def E5(f:fu):ic:=λg S=>(f g S).bind λ(p,d)=>if p.2.isL=true then(yn p.1).bind λc=>if c.length<64 then some ((rX c).map D.str,d) else none else none
def N_{f:fu}{p:Pos}(F:Gl X "sorted")(j:X.mg "sorted"=none)(k:PE X a (tQ (md X) f))(hs:starEach [a] X.env= [(false,eval a X.env)]:=by rfl):
  PE X (.Call (.Name "sorted" p) [a] [] pos) (tL (md X) (E5 f)):=
 kn (kb yG F j PyProof.Rows.boot_sorted (eO k ij hs) (he:=hs)) λL H Q o=>by
  obtain⟨C,n,S,d,I,ok,e,q⟩:=o
  obtain⟨⟨⟨G,t⟩,A⟩,v,e⟩:=au e
  dsimp only at e
  split at e
  ·rename_i c
   obtain⟨y,s,e⟩:=au e
   split at e
   ·rename_i B
    obtain⟨rfl,rfl⟩:=cD e
    refine⟨C,n,S,G,t,A,ok,v,λm a K J x i h r=>⟨a,y,rfl,?_,B,λl w g u z=> ?_⟩⟩
    ·rw[←A9 r s];exact h.sqL c
    ·cases FY u z
     exact q _ _ _ _ (x.trans (cH.laid g)) (i.lay g) (x.grow _ g) (eD x i g) cn (xW _)
   ·cases e
  ·cases e
def tX:List D->Option (List Str)
 | []=>some []
 |.tup (.str x::_)::r=>(tX r).bind λc=>some (x::c)
 |_::_=>none
theorem Ay{M:Md}{ρ:List Addr}{H:Hp}:∀{ds:List D} {vs:List V} {xs:List Str},bc M ρ H ds vs->tX ds=some xs->∃rs:List Addr,vs=rs.map V.ref/\xU H rs xs
 | [],_,_,h,e=>by cases h;cases e;exact⟨[],rfl,.nil⟩
 | .tup (.str x::us)::r,_,_,h,e=>by
   simp only[tX] at e
   obtain⟨f,i,e⟩:=au e
   cases e
   cases h with
   | cons h g=>
     cases h with
     | tup h c=>
       obtain⟨rs,rfl,F⟩:=Ay g i
       cases c with
       | cons d c=>
         cases d
         exact⟨_::rs,rfl,.cons h F⟩
 |.tup (.non::_)::_,_,_,_,e=>by cases e
 |.tup (.bl _::_)::_,_,_,_,e=>by cases e
 |.tup (.int _::_)::_,_,_,_,e=>by cases e
 |.tup (.tup _::_)::_,_,_,_,e=>by cases e
 |.tup (.ref _::_)::_,_,_,_,e=>by cases e
 |.tup (.fn _::_)::_,_,_,_,e=>by cases e
 |.tup []::_,_,_,_,e=>by cases e
 |.non::_,_,_,_,e=>by cases e
 |.bl _::_,_,_,_,e=>by cases e
 |.int _::_,_,_,_,e=>by cases e
 |.str _::_,_,_,_,e=>by cases e
 |.ref _::_,_,_,_,e=>by cases e
 |.fn _::_,_,_,_,e=>by cases e
def vB(ss:List Str)(ds:List D):List D:=Zp.sortBy ss .non ds
def wz{α l:Type}{R:α->l->Prop}{ss:List Str}{xs:List α}{ys:List l}{d:α}{d':l}(o:xs.length=ys.length)(q:xs.length<=3)(h:∀(i:Nat) (x:α),xs[i]?=some x->∃y,ys[i]?=some y/\R x y):
  ∀(i:Nat) (x:α),(Zp.sortBy ss d xs)[i]?=some x->∃y,(Zp.sortBy ss d' ys)[i]?=some y/\R x y:=by
 intro i x e
 unfold Zp.sortBy at *
 rw[←o]
 split at e
 ·rename_i c;rw[Qhq c];exact h i x e
 ·rename_i s
  obtain⟨_,g⟩:=Zp.uN xs.length q (by omega)
  have f:(Zp.jT (Zp.MH ss) (PySem.W.kas_sort xs.length)).toList.Perm (List.range xs.length):=List.isPerm_iff.mp (QUq.mp g _ (Zp.i4 _ _))
  rw[gQm] at e
  obtain⟨k,m,e⟩:=oQm.mp e
  have j:k<xs.length:=List.mem_range.mp (f.mem_iff.mp (mQg m))
  have n:xs[k]?=some x:=by
   rw[Qlq,gQe j] at e
   rw[gQe j]
   exact congrArg some e
  obtain⟨y,p,r⟩:=h k x n
  refine⟨y,?_,r⟩
  rw[Quq (by omega),gQm,m]
  simp[Qlq,p]
theorem bc.of_get{M:Md}{ρ:List Addr}{H:Hp}:∀{ds:List D} {vs:List V},ds.length=vs.length->(∀(i:Nat) (d:D),ds[i]?=some d->∃v,vs[i]?=some v/\Rel M ρ H d v)->bc M ρ H ds vs
 | [],[],_,_=>.nil
 | [],_::_,h,_=>by cases h
 |_::_,[],h,_=>by cases h
 | d::ds,v::vs,h,g=>by
   obtain⟨f,e,r⟩:=g 0 d rfl
   cases e
   exact .cons r (bc.of_get (Nat.succ.inj h) λi d c=>by
     obtain⟨v,e,r⟩:=g (i+1) d (by simpa using c)
     exact⟨v,by simpa using e,r⟩)
def yx(f:fu):ic:=λg S=>(f g S).bind λ(p,d)=>if p.2.isL=true then(tX p.1).bind λc=>if p.1.length<=3/\c.Nodup then some (vB c p.1,d) else none else none
def FX{f:fu}{p:Pos}(W:Gl X "sorted")(B:X.mg "sorted"=none)(C:PE X a (tQ (md X) f))(hs:starEach [a] X.env= [(false,eval a X.env)]:=by rfl):
  PE X (.Call (.Name "sorted" p) [a] [] pos) (tL (md X) (yx f)):=
 kn (kb xu W B PyProof.Rows.boot_sorted (eO C ij hs) (he:=hs)) λσ H Q I=>by
  obtain⟨U,G,S,d,Y,ok,e,q⟩:=I
  obtain⟨⟨⟨s,t⟩,P⟩,M,e⟩:=au e
  dsimp only at e
  split at e
  ·rename_i c
   obtain⟨k,K,e⟩:=au e
   split at e
   ·rename_i n
    obtain⟨rfl,rfl⟩:=cD e
    refine⟨U,G,S,s,t,P,ok,M,λj a Z N x w h r=> ?_⟩
    obtain⟨u,rfl,F⟩:=Ay r K
    have z:s.length=u.length:=by have:=r.length;simpa using this
    refine⟨a,u,k,rfl,h.sqL c,by omega,F,n.2,λl g=> ?_⟩
    refine q _ _ _ _ (x.trans (cH.laid g)) (w.lay g) (x.grow _ g) (eD x w g) cn (bc.ext (cH.laid g) ?_)
    refine bc.of_get ?_ λi d o=> ?_
    ·rw[lQm]
     unfold vB
     rw[(Zp.fg k s n.1).length_eq,(Zp.fg k u (by omega)).length_eq,z]
    ·obtain⟨y,m,L⟩:=wz (R:=λ(d:D) (a:Addr)=>Rel (md X) j N d (.ref a)) (d':=0) z n.1 (λi d o=>by
      obtain⟨v,A,J⟩:=r.get o
      rw[gQm] at A
      obtain⟨y,m,rfl⟩:=oQm.mp A
      exact⟨y,m,J⟩) i d o
     exact⟨.ref y,by rw[gQm,m];rfl,L⟩
   ·cases e
  ·cases e
end
def uR{P:Program}{w:World}{K:PySem.W.Frag}{mg:Str->Option Value}{base:Heap}{f:Addr}{c:FuncData}{ps:List Str}{k n:Nat}:bh P w K mg base dm k f c ps (dM ⟨K,mg⟩ n λ_ _=>none):=
 {len:=λd H Q E h=>by
   obtain⟨_,_,_,_,_,_,_,_,e,_⟩:=h
   cases e
  run:=λA a s H b g d Q E _ _ _ _ h=>by
   obtain⟨_,_,_,_,_,_,_,_,e,_⟩:=h
   cases e}
end DL
namespace Zq
open PySem PyProof.Rows
end Zq
namespace L2
open PySem PyProof.Rows Zq
end L2
namespace DL
open PySem PySem.Spec L2
structure E1(P:Program)(w:World)(K:PySem.W.Frag)(mg:Str->Option Value)(x:Str)(tbl:List (Str×Str)):Prop where
 at_:∃a,mg x=some (.ref a)/\∀h:Heap,K.In h->∃vs,h.DictOf (cc P w) a vs/\∀k nm,tbl.lookup k=some nm->∃f,valueAt vs (Sum.inr k:Key)=some (.ref f)/\mg nm=some (.ref f)
section
variable{X:Cx}{a b c e:Expr}{pos:Pos}
def OF(d:List (Str×Str))(g:bH):bH:=λh S=>(g h S).bind λ(y,f)=>match y with
 |.str x=>(d.lookup x).bind λi=>some (.fn i,f)
 |_=>none
def Jv{x:Str}{i:List (Str×Str)}{g:bH}{p:Pos}(hD:E1 X.prog X.w X.K X.mg x i)(hg:Gl X x)(hb:PE X b (tD (md X) g))(hs:JX b)(hd:(x==("__debug__":Str))=false:=by decide):
  PE X (.Subscript (.Name x p) b pos) (tD (md X) (OF i g)):=by
 rintro j s σ H Q I ⟨A,G,S,d,S',ok,e,q⟩
 obtain⟨a,C,hK⟩:=hD.at_
 obtain⟨⟨y,u⟩,R,e⟩:=au e
 cases y with
 | str z=>
   obtain⟨L,M,e⟩:=au e
   obtain⟨rfl,rfl⟩:=cD e
   refine D4 PySem.F.slot_dict_getitem.lookup hs (yF I hg C ?_ hd)
   refine c_ (hb j s σ H (λv l=>∃h,cH A H h l/\gC (md X) h u l/\Rel (md X) h l (.str z) v) I ⟨A,G,S,_,u,ok,R,λh v l x U r=>⟨h,x,U,r⟩⟩) λiv N qr=> ?_
   obtain⟨v,H2,t,J,h,x2,n,r2⟩:=qr
   obtain⟨vs,B,Y⟩:=hK _ t.kIn
   obtain⟨f,Z,m⟩:=Y z L M
   cases r2
   have ty:N.TypeIs (.ref a) "dict":=by
     obtain⟨o,es,ep,P,W,h3,_⟩:=B
     exact⟨o,P,W.1⟩
   refine⟨ty,wpAny_getItem_of (BF (k:=Sum.inr z) J) B.mapOf Z ?_⟩
   exact⟨.ref f,H2,t.tok _,rfl,q _ _ _ x2 n (.fn m)⟩
 |_=>cases e
def vn(i:Nat)(T:List (Str×cU))(g:ic):bH:=λd S=>match d[i]? with
 |some (some (.fn x))=>(T.lookup x).bind λF=>ax F g d S
 |_=>none
def Kt{i k:Nat}{y:Str}{ps:List Str}{T:List (Str×cU)}{j:List Expr}{g:ic}{p:Pos}(hT:∀x F,T.lookup x=some F->eA X.prog X.w X.K X.mg X.base k x ps F)(hr:fZ k X.A)(hN:X.N[i]?=some y)(hv:KZ X.env.scope y)
  (R:PA X (e::j) (AO (md X) g)) (hn:nA ps.length g) (t:(y==("__debug__":Str))=false:=by decide) (n:(y==("__classdict__":Str))=false:=by decide) (he:starEach (e::j) X.env=(false,eval e X.env)::starEach j X.env:=by rfl) (hpl:(backTo pos (starEach j X.env)).any (·.1)=false:=by rfl):
  PE X (.Call (.Name y p) (e::j) [] pos) (tD (md X) (vn i T g)):=by
 rintro h s B H Q I ⟨ρ,U,S,d,M,ok,e,q⟩
 unfold vn at e
 split at e
 ·rename_i x hx
  obtain⟨F,o,e⟩:=au e
  obtain⟨f,fd,G,bb,kp,m⟩:=(hT x F o).ex
  obtain⟨v,z,Y⟩:=ok.en.get i _ hx
  cases Y with
  | fn P=>
    have J:(md X).mg x=some (.ref f):=m
    rw[P] at J
    cases J
    refine wpAny_Call_Name_kw (c_ (HX hN hv t n h s B H (λL l=>L=.ref f/\l=H) I ⟨_,z,rfl,rfl⟩) λu s1 qr=> ?_)
    obtain⟨L,l,I1,Z,o,e2⟩:=qr
    subst o e2
    cases (show u=Value.ref f from Z)
    refine PySem.W.callWith_K (h₀:=X.base) I.ok.mod.kin kp (c_ (R pos h s1 B l _ I1 (EA hn B l Q ⟨ρ,U,S,d,M,ok,e,q⟩)) λus s2 ⟨vs,H1,C,r,q2⟩=>⟨C.kIn,?_⟩) he hpl
    exact G4 G hr bb .nil mZ C r q2
 ·cases e
end
def D0(w:World)(x:Str):PyData.keyHash w.params x=hashStr w x:=by
 unfold PyData.keyHash hashStr
 first|rfl|simp
inductive Al(w:World)(mg:Str->Option Value):List DictEntry->List (Str×Str)->Prop
 |nil:Al w mg [] []
 |cons {x nm:Str} {t:Tok} {f:Addr} {es:List DictEntry} {tbl:List (Str×Str)}:mg nm=some (.ref f)->Al w mg es tbl->Al w mg (⟨PyData.keyHash w.params x,.str x t,.ref f⟩::es) ((x,nm)::tbl)
def Al.keys{P:Program}{w:World}{mg:Str->Option Value}{b:List DictEntry}{a:List (Str×Str)}(c:Al w mg b a):∀e∈b,∃k,(cc P w).is k e.key=true/\e.hash=(cc P w).hash k:=by
 induction c with
 |nil=>intro e h;cases h
 | @cons x nm t f b a hm c ih=>
   intro e h
   rcases Qsq.mp h with rfl|h
   · exact⟨Sum.inr x,sO x t,D0 w x⟩
   · exact ih e h
def Al.pairs{P:Program}{w:World}{mg:Str->Option Value}{b:List DictEntry}{a:List (Str×Str)}(e:Al w mg b a):∃vs:List (Key×Value),Pairs (cc P w) b vs/\vs.map (·.1)=a.map (λp=>Sum.inr p.1)∧
  ∀k nm,a.lookup k=some nm->∃f,valueAt vs (Sum.inr k:Key)=some (.ref f)/\mg nm=some (.ref f):=by
 induction e with
 |nil=>exact⟨[],.nil,rfl,λk nm h=>by cases h⟩
 | @cons x nm t f b a hm e ih=>
   obtain⟨vs,i,l,m⟩:=ih
   refine⟨(Sum.inr x,.ref f)::vs,.cons (sO x t) rfl i,by simp[l],λk n h=> ?_⟩
   by_cases c:k=x
   · subst c
     rw[List.lookup_cons_self] at h
     cases h
     refine⟨f,?_,hm⟩
     unfold valueAt
     rw[List.find?_cons_of_pos (by simp)]
     rfl
   · have o:(k==x)=false:=by simpa using c
     rw[List.lookup_cons,o] at h
     obtain⟨g,d,j⟩:=m k n h
     refine⟨g,?_,j⟩
     unfold valueAt at d⊢
     rw[List.find?_cons_of_neg]
     · exact d
     · intro z
       have:(Sum.inr x:Key)=Sum.inr k:=by simpa using z
       exact c (Sum.inr.inj this).symm
def HI{P:Program}{w:World}{K:PySem.W.Frag}{mg:Str->Option Value}{x:Str}{c:List (Str×Str)}{a:Addr}{d:List DictEntry}{q:Nat}(g:mg x=some (.ref a))(l:K.lookup a=some ⟨.type "dict",none,.dict d.toArray q,#[]⟩)(f:Al w mg d c)(nd:(c.map (·.1)).Nodup):E1 P w K mg x c:=by
 obtain⟨r,j,m,o⟩:=f.pairs (P:=P)
 refine⟨a,g,λh k=>⟨r,⟨_,_,_,k _ _ l,⟨rfl,rfl,rfl⟩,rfl,λe i=>f.keys e (by simpa using i),by simpa using j,?_⟩,o⟩⟩
 rw[m]
 have:c.map (λp=>(Sum.inr p.1:Key))=(c.map (·.1)).map Sum.inr:=by rw[QPq];rfl
 rw[this]
 exact List.Pairwise.map _ (λa b n e=>n (Sum.inr.inj e)) nd
theorem IC{P:Program}{w:World}{K:PySem.W.Frag}{mg:Str->Option Value}{base:Heap}{k:Nat}{ps:List Str}:∀{T:List (Str×cU)},(∀p∈T,eA P w K mg base k p.1 ps p.2)->∀x F,T.lookup x=some F->eA P w K mg base k x ps F
 | [],_,x,F,h=>by cases h
 | p::T,g,x,F,h=>by
   by_cases c:x=p.1
   · subst c
     rw[List.lookup_cons_self] at h
     cases h
     exact g p (QBq ..)
   · have b:(x==p.1)=false:=by simpa using c
     rw[List.lookup_cons,b] at h
     exact IC (λq a=>g q (Qpq _ a)) x F h
def BD:Sp:=λc H Q _=>∃(a:Addr) (b:List Int) (o:Obj),c= [.ref a]/\H a=some (.frz o (.lst (b.map V.int)))/\b.length<=63/\∀d,Q (.bl true) d
theorem xZ{M:Md}{ρ:List Addr}{H:Hp}:∀ns:List Int,bc M ρ H (ns.map D.int) (ns.map V.int)
 | []=>.nil
 |s::ss=>.cons (.int s) (xZ ss)
def JS{P:Program}{w:World}{K:PySem.W.Frag}{mg:Str->Option Value}{base:Heap}{k:Nat}{f:Addr}{i:FuncData}{ps:List Str}{F:cU}(G:bh P w K mg base dm k f i ps (dM ⟨K,mg⟩ 1 F))
  (h:∀ns:List Int,ns.length<=63->∃c,F [.ref 0] [.frz (ns.map D.int)]=some (.d (.bl true),c)):bh P w K mg base dm k f i ps BD:=
 G.imp λu H Q E m=>by
  obtain⟨a,ns,o,e,j,s,q⟩:=m
  subst e
  obtain⟨c,e⟩:=h ns s
  refine⟨[a],[.frz (ns.map D.int)],[.ref 0],_,c,rfl,.cons (.ref rfl) .nil,⟨rfl,by simp,λk b y g p=> ?_⟩,e,λl v n x t r=> ?_⟩
  ·cases k with
   |zero=>cases g;cases p;exact⟨_,o,j,xZ ns⟩
   |succ k=>simp at g
  ·cases r
   exact q n
def C8(K:PySem.W.Frag):Bool:=K.all λp=>match p.2.data with|.seq _ _=>(match p.2.cls with|.type s=>s !="list" |_=>true)|_=>true
def FQ{K:PySem.W.Frag}(h:C8 K=true){a:Addr}{o:Obj}(e:K.lookup a=some o){d:Array Value}{n:Nat}(hd:o.data=.seq d n):o.cls≠.type "list":=by
 intro j
 have f:∀(K:List (Addr×Obj)),K.all (λp=>match p.2.data with|.seq _ _=>(match p.2.cls with|.type s=>s !="list" |_=>true)|_=>true)=true->K.lookup a=some o->False:=by
  intro K
  induction K with
  |nil=>intro _ e;cases e
  | cons p K i=>
    intro h e
    rw[List.all_cons,QCq] at h
    obtain⟨b,q⟩:=p
    rw[List.lookup_cons] at e
    by_cases c:a=b
    · subst c
      simp only[BEq.rfl] at e
      cases e
      have g:=h.1
      simp only[hd,j] at g
      simp at g
    · have k:(a==b)=false:=by simpa using c
      rw[k] at e
      exact i h.2 e
 exact f K h e
def Oc{K:PySem.W.Frag}{H:Hp}{a:Addr}{ns:List Int}(d:C8 K=true)(b:ns.length<=63)(c:Ks H)(e:je K H a (ns.map V.int)):BD [.ref a] H (λv _=>v=.bl true) λ_ _ _=>False:=by
 rcases e with(h|⟨o,h⟩)|⟨o,its,n,h,hc,_,hd,_⟩
 ·rcases c a with z|⟨o,f,z⟩
  ·rw[h] at z;cases z
  ·rw[h] at z;cases z
 ·exact⟨a,ns,o,rfl,h,b,λ_=>rfl⟩
 ·exact absurd hc (FQ d h hd)
def M7{l:PySem.W.OpenLaw}{q:Program}{b:List Str}{m:(Str->Option Value)->Heap->Prop}{i:World->Heap->Prop}{d:DefRec}{K:Params->PySem.W.Frag}{k:Nat}(o:l.most=some 63)(c:d.params.defaults= [])(t:fZ k PySem.callerA)
  (j:∀(w:World) (h:Heap),i w h->(K w.params).In h) (y:∀w:World,C8 (K w.params)=true)
  (F:∀(w:World) (mg:Str->Option Value) (e:Addr) (h:Heap),(K w.params).In h->h.Ns mainGlobals mg->mg d.name=some (.ref e)→
   ∃g:FuncData,(∀(s:Shared) (u:Value),BindsTo s g ⟨[u],[]⟩ [("_law_script",u)])/\∀base:Heap,(K w.params).In base->base.Ns mainGlobals mg->bh l.prog w (K w.params) mg base dm k e g ["_law_script"] BD):
  PySem.W.WalkO q b m i l.row.toRowW d [] (λf vs=>PySem.call f vs):=
 L2.Jf (n:=63) (k:=k) (x:="_law_script") (CX:=λ_=>dm) (sp:=λ_=>BD) o (by decide) c t j F (λw H a A r v p=>Oc (y w) r v p) λ_ _ _ _ _ z=>z
end DL
namespace DL
open PySem PySem.Spec L2 PyProof.Rows
section
variable{X:Cx}{x:Str}{e:Expr}{f:bH}{pos pos':Pos}
def Gg(i:Nat)(c:X.N.Nodup)(he:PE X e (tD (md X) f))(hi:X.N[i]?=some x:=by rfl)(a:Loc X.env.scope x:=by first|exact Or.inl rfl|exact Or.inr rfl)(hs:swapsWith e (some (.Name x pos')) pos.line X.env=pure false:=by rfl)
  (b:X.fn x=true\/X.env.scope.names.lookup x=some .local:=by first|exact .inl rfl|exact .inr rfl|assumption):PS X (.Assign [.Name x pos'] e pos) (tS (md X) (aS i f)):=NG (Mi c hi a he hs b)
def Q3(i:Nat)(c:X.N.Nodup)(hi:X.N[i]?=some x:=by rfl)(a:Loc X.env.scope x:=by first|exact Or.inl rfl|exact Or.inr rfl)(b:X.fn x=true\/X.env.scope.names.lookup x=some .local:=by first|exact .inl rfl|exact .inr rfl|assumption):PG X (.Name x pos) (qm i):=y9 c hi a b
def PL(i:Nat)(c:X.N.Nodup)(hi:X.N[i]?=some x:=by rfl)(a:Loc X.env.scope x:=by first|exact Or.inl rfl|exact Or.inr rfl)(b:X.fn x=true\/X.env.scope.names.lookup x=some .local:=by first|exact .inl rfl|exact .inr rfl|assumption):PG X (.Name x pos) (tG (md X) (bJ i)):=Ha (y9 c hi a b)
def Pf{N:List Str}{a:Scope}{b:List (Str×Addr)}{C:Addr}{s:Shared}{H:Hp}{fp:List Addr}(i:Nat)(g:N.Nodup:=by decide +kernel)(hi:(aP X N a b C s H fp).N[i]?=some x:=by rfl)(c:Loc (aP X N a b C s H fp).env.scope x:=by first|exact Or.inl rfl|exact Or.inr rfl)
  (d:(aP X N a b C s H fp).fn x=true\/(aP X N a b C s H fp).env.scope.names.lookup x=some .local:=by first|exact .inl rfl|exact .inr rfl|assumption):PG (aP X N a b C s H fp) (.Name x pos) (tG (md (aP X N a b C s H fp)) (bJ i)):=Ha (y9 g hi c d)
def v_(i:Nat)(c:X.N[i]?=some x:=by rfl)(b:KZ X.env.scope x:=by first|exact Or.inl rfl|exact Or.inr (Or.inl rfl)|exact Or.inr (Or.inr rfl))(hd:(x==("__debug__":Str))=false:=by decide)(a:(x==("__classdict__":Str))=false:=by decide):PE X (.Name x pos) (tD (md X) (ar i)):=Nj (pv i c b hd a)
end
section
variable{X:Cx}{x:Str}{k k':Nat}{ps:List Str}{F:cU}{e:Expr}{es:List Expr}{g:ic}{p pos:Pos}
def Mo(C:eA X.prog X.w X.K X.mg X.base k x ps F)(f:fZ k' X.A)(b:PA X (e::es) (AO (md X) g))(c:k<=k':=by first|decide|omega)(d:Gl X x:=by rfl)
  (h:nA ps.length g:=by repeat (first|exact Dc|refine nU ?_))
  (a:(x==("__debug__":Str))=false:=by decide) (he:starEach (e::es) X.env=(false,eval e X.env)::starEach es X.env:=by rfl) (hpl:(backTo pos (starEach es X.env)).any (·.1)=false:=by rfl):
  PE X (.Call (.Name x p) (e::es) [] pos) (tD (md X) (ax F g)):=Nl C (f.mono c) d b h a he hpl
def Nd(C:eA X.prog X.w X.K X.mg X.base k x ps F)(f:fZ k' X.A)(b:PA X (e::es) (AO (md X) g))(c:k<=k':=by first|decide|omega)(d:Gl X x:=by rfl)
  (h:nA ps.length g:=by repeat (first|exact Dc|refine nU ?_))
  (a:(x==("__debug__":Str))=false:=by decide) (he:starEach (e::es) X.env=(false,eval e X.env)::starEach es X.env:=by rfl) (hpl:(backTo pos (starEach es X.env)).any (·.1)=false:=by rfl):
  PE X (.Call (.Name x p) (e::es) [] pos) (tL (md X) (dX F g)):=NT C (f.mono c) d b h a he hpl
end
def eQ{N P:List Str}{sc:Scope}(a:sc.kind=.function:=by rfl)(b:sc.isCoroutine=false:=by rfl)(c:sc.isGenerator=false:=by rfl)(d:N.Nodup:=by decide +kernel)(e:N.take P.length=P:=by rfl)
  (f:∀x∈P,sc.names.lookup x=some .local\/sc.names.lookup x=some .cell:=by decide +kernel) (g:∀y∈sc.names,y.2≠.free:=by decide +kernel):aF N P sc:=⟨a,b,c,d,e,f,g⟩
structure aX(K:PySem.W.Frag)(x:Str)(st:Stmt)(f:Addr):Prop where
 ex:∃(oc:Value) (od:Option Addr) (kV dc pm:Value) (an:Option Addr) (cd ct:Value) (sl:Array (Option Value)),PySem.W.nsIn K mainGlobals x=some (some (.ref f))∧
  K.lookup f=some ⟨oc,od,.func (PySem.W.fnOf x x (iG st) (fL st) (aB st) .none kV dc pm an cd ct),sl⟩/\PySem.W.codeIn K cd x=true/\PySem.W.keepIn K (.ref f)=true
def aX.of{K:PySem.W.Frag}{x:Str}{st:Stmt}{f:Addr}{e:Value}{g:Option Addr}{kV d pm:Value}{i:Option Addr}{b ct:Value}{h:Array (Option Value)}(a:PySem.W.nsIn K mainGlobals x=some (some (.ref f)))
  (l:K.lookup f=some ⟨e,g,.func (PySem.W.fnOf x x (iG st) (fL st) (aB st) .none kV d pm i b ct),h⟩) (c:PySem.W.codeIn K b x=true) (k:PySem.W.keepIn K (.ref f)=true):aX K x st f:=⟨e,g,kV,d,pm,i,b,ct,h,a,l,c,k⟩
structure Pt(K:PySem.W.Frag)(mg:Str->Option Value)(x:Str)(st:Stmt)(ps:List Str)(f:Addr):Prop where
 ex:∃fd,dQ K x x st f fd/\Binds K fd ps []/\PySem.W.keepIn K (.ref f)=true
 m:mg x=some (.ref f)
def aX.ok1{K:PySem.W.Frag}{mg:Str->Option Value}{x:Str}{st:Stmt}{ps:List Str}{f:Addr}{h:Heap}(D:aX K x st f)(X:K.In h)(G:h.Ns mainGlobals mg)
  (l:∀(kV d pm:Value) (e:Option Addr) (b ct:Value) (a:List Value),a.length=ps.length->bindArgs (PySem.W.fnOf x x (iG st) (fL st) (aB st) .none kV d pm e b ct) ⟨a,[]⟩=pure (ps.zip a):=by intro _ _ _ _ _ _ a k;rcases a with _|⟨_,_|⟨_,_|⟨_,_|⟨_,_|⟨_,_|⟨_,_⟩⟩⟩⟩⟩⟩ <;>first|rfl|cases k):Pt K mg x st ps f:=by
 obtain⟨m,n,kV,o,pm,e,p,ct,q,j,g,i,c⟩:=D.ex
 exact⟨⟨_,CG g i c,(CG g i c).binds l,c⟩,PySem.W.mg_of X G j⟩
structure Pk(P:Program)(w:World)(base:Heap):Prop where
def Pt.cal{P:Program}{w:World}{base:Heap}{K:PySem.W.Frag}{mg:Str->Option Value}{x:Str}{st:Stmt}{ps:List Str}{f:Addr}{k:Nat}{F:cU}(O:Pt K mg x st ps f)(Z:Pk P w base)
  (h:∀a,dQ K x x st f a->Binds K a ps []->PySem.W.keepIn K (.ref f)=true->mg x=some (.ref f)->bh P w K mg base dm k f a ps (dM ⟨K,mg⟩ ps.length F)):eA P w K mg base k x ps F:=by
 obtain⟨a,d,c,b⟩:=O.ex
 exact⟨f,a,h a d c b O.m,c,b,O.m⟩
end DL
namespace DL
open PySem PySem.Spec L2
def E{α:Type}(f:cB->aE->Option (α×aE))(c:cB)(S:aE)(Q:α->aE->Prop):Prop:=∃a b,f c S=some (a,b)/\Q a b
def T(f:cE)(a:cB)(S:aE)(Q:Out->Prop):Prop:=∃o,f a S=some o/\Q o
def Fn(F:cU)(ds:List D)(S:aE)(Q:Res->aE->Prop):Prop:=∃r a,F ds S=some (r,a)/\Q r a
def Tg(g:nR)(d:D)(c:cB)(S:aE)(Q:cB->aE->Prop):Prop:=∃a b,g d c S=some (a,b)/\Q a b
def N1(g:ph)(d:List D)(c:cB)(S:aE)(Q:cB->aE->Prop):Prop:=∃a b,g d c S=some (a,b)/\Q a b
def Op{α:Type}(o:Option α)(Q:α->Prop):Prop:=∃d,o=some d/\Q d
section
variable{Γ:cB}{S:aE}
def E.mono{α:Type}{f:cB->aE->Option (α×aE)}{Q R:α->aE->Prop}(h:E f Γ S Q)(i:∀a S,Q a S->R a S):E f Γ S R:=by
 obtain⟨a,b,e,q⟩:=h
 exact⟨a,b,e,i _ _ q⟩
def T.mono{f:cE}{Q R:Out->Prop}(h:T f Γ S Q)(i:∀o,Q o->R o):T f Γ S R:=by
 obtain⟨a,e,q⟩:=h
 exact⟨a,e,i _ q⟩
def aw{i:Nat}{d:D}{Q:D->aE->Prop}(h:Γ[i]?=some (some d))(q:Q d S):E (ar i) Γ S Q:=⟨d,S,by unfold ar;rw[h],q⟩
def cC{d:D}{Q:D->aE->Prop}(q:Q d S):E (cF d) Γ S Q:=⟨d,S,rfl,q⟩
def aZ{Q:List D->aE->Prop}(q:Q [] S):E av Γ S Q:=⟨[],S,rfl,q⟩
def az{f:bH}{g:ic}{Q:List D->aE->Prop}(h:E f Γ S λd a=>E g Γ a λds S2=>Q (d::ds) S2):E (aq f g) Γ S Q:=by
 obtain⟨d,a,b,ds,S2,c,q⟩:=h
 exact⟨_,_,by unfold aq;rw[b];simp only[Qbq];rw[c];rfl,q⟩
def aY{o:xp}{f g:bH}{Q:D->aE->Prop}(h:E f Γ S λx a=>E g Γ a λy S2=>Op (o S2 x y) λd=>Q d S2):E (aQ o f g) Γ S Q:=by
 obtain⟨x,a,b,y,S2,e,d,c,q⟩:=h
 exact⟨d,S2,by unfold aQ;rw[b];simp only[Qbq];rw[e];simp only[Qbq];rw[c];rfl,q⟩
def sR{f:ic}{Q:D->aE->Prop}(h:E f Γ S λds a=>ds.length<=sizeLine/\Q (.tup ds) a):E (bg f) Γ S Q:=by
 obtain⟨ds,a,b,l,q⟩:=h
 exact⟨_,_,by unfold bg;rw[b];simp only[Qbq];rw[Qhq l],q⟩
def dE{f:ic}{Q:List D->aE->Prop}(h:E f Γ S λds a=>ds.length<=sizeLine/\Q ds a):E (bB f) Γ S Q:=by
 obtain⟨ds,a,b,l,q⟩:=h
 exact⟨_,_,by unfold bB;rw[b];simp only[Qbq];rw[Qhq l],q⟩
def dY{f:ic}{Q:D->aE->Prop}(h:E f Γ S λds a=>Q (.ref a.length) (a++ [.lst ds])):E (bP f) Γ S Q:=by
 obtain⟨ds,a,b,q⟩:=h
 exact⟨_,_,by unfold bP;rw[b];rfl,q⟩
def BN{o:KN}{f:ic}{Q:D->aE->Prop}(h:E f Γ S λds a=>Op (o ds) λd=>Q d a):E (uD o f) Γ S Q:=by
 obtain⟨ds,a,b,d,c,q⟩:=h
 exact⟨d,a,by unfold uD;rw[b];simp only[Qbq];rw[c];rfl,q⟩
def bV{f:bH}{Q:(List D×Tag)->aE->Prop}(h:E f Γ S λd a=>Op (wI a d) λp=>Q p a):E (aR f) Γ S Q:=by
 obtain⟨e,a,b,d,c,q⟩:=h
 exact⟨d,a,by unfold aR;rw[b];simp only[Qbq];rw[c];rfl,q⟩
def qA{f:ic}{Q:(List D×Tag)->aE->Prop}(h:E f Γ S λds a=>Q (ds,.fr) a):E (ib f) Γ S Q:=by
 obtain⟨ds,a,b,q⟩:=h
 exact⟨_,a,by unfold ib;rw[b];rfl,q⟩
def x9{f:fu}{Q:D->aE->Prop}(h:E f Γ S λp a=>Q (.int p.1.length) a):E (gZ f) Γ S Q:=by
 obtain⟨p,a,b,q⟩:=h
 exact⟨_,a,by unfold gZ;rw[b];rfl,q⟩
def rH{f:fu}{Q:D->aE->Prop}(h:E f Γ S λp a=>Q (.tup p.1) a):E (tupQ f) Γ S Q:=by
 obtain⟨p,a,b,q⟩:=h
 exact⟨_,a,by unfold tupQ;rw[b];rfl,q⟩
def rD{f:fu}{Q:(List D×Tag)->aE->Prop}(h:E f Γ S λp a=>p.2.isL=true/\Q p a):E (cN f) Γ S Q:=by
 obtain⟨p,a,b,l,q⟩:=h
 exact⟨_,a,by unfold cN;rw[b];simp only[Qbq];rw[Qhq l],q⟩
def qy{f:fu}{Q:D->aE->Prop}(h:E f Γ S λp a=>(p.2.isL=true/\p.2.stays a p.1)/\Q (.bl (!p.1.isEmpty)) a):E (cX f) Γ S Q:=by
 obtain⟨p,a,b,l,q⟩:=h
 exact⟨_,a,by unfold cX;rw[b];simp only[Qbq];rw[Qhq l],q⟩
def a7(Q:D->aE->Prop)(r:Res)(S2:aE):Prop:=match r with|.d x=>Q x S2|.l _=>False
def aM(Q:List D->aE->Prop)(r:Res)(S2:aE):Prop:=match r with|.d _=>False|.l x=>Q x S2
def a9(Q:Bool->aE->Prop)(d:D)(a:aE):Prop:=match d with|.bl k=>Q k a|_=>False
def bR(g:cE)(Q:Out->Prop)(o:Out):Prop:=match o with|.nx a b=>T g a b Q|o=>Q o
def bU(I:Nat->cB->aE->Prop)(n:Nat)(Q:Out->Prop)(o:Out):Prop:=match o with|.nx a b=>I (n+1) a b|.ct a b=>I (n+1) a b|.bk a b=>Q (.nx a b)|o=>Q o
def eZ(S:aE)(Q:Res->aE->Prop)(o:Out):Prop:=match o with
 |.nx _ a=>Op (settle S .non a) λp=>Q p.1 p.2|.rt d a=>Op (settle S d a) λp=>Q p.1 p.2|.rl l a=>Op (eJ S l a) λp=>Q p.1 p.2|_=>False
def Q0{Q:D->aE->Prop}{x:D}(h:Q x S):a7 Q (.d x) S:=h
def Pz{Q:List D->aE->Prop}{x:List D}(h:Q x S):aM Q (.l x) S:=h
def wD{Q:Bool->aE->Prop}{k:Bool}(h:Q k S):a9 Q (.bl k) S:=h
def Q2{g:cE}{Q:Out->Prop}(h:let a:=Γ;T g a S Q):bR g Q (.nx Γ S):=h
def cj{F:cU}{g:ic}{Q:D->aE->Prop}(h:E g Γ S λds a=>Fn F ds a (a7 Q)):E (ax F g) Γ S Q:=by
 obtain⟨ds,a,c,r,b,e,q⟩:=h
 cases r with
 |d x=>exact⟨x,b,by unfold ax;rw[c];simp only[Qbq];rw[e];rfl,q⟩
 |l x=>exact q.elim
def D7{F:cU}{g:ic}{Q:List D->aE->Prop}(h:E g Γ S λds a=>Fn F ds a (aM Q)):E (dX F g) Γ S Q:=by
 obtain⟨ds,a,c,r,b,e,q⟩:=h
 cases r with
 |d x=>exact q.elim
 |l x=>exact⟨x,b,by unfold dX;rw[c];simp only[Qbq];rw[e];rfl,q⟩
def cG{f:bH}{Q:Bool->aE->Prop}(h:E f Γ S (a9 Q)):E (aG f) Γ S Q:=by
 obtain⟨d,b,a,q⟩:=h
 cases d with
 |bl k=>exact⟨k,b,by unfold aG;rw[a];rfl,q⟩
 |_=>exact q.elim
def Ci{f:bH}{Q:Bool->aE->Prop}(h:E f Γ S λd a=>Op (DE a d) λk=>Q k a):E (ke f) Γ S Q:=by
 obtain⟨d,a,b,k,c,q⟩:=h
 exact⟨k,a,by unfold ke;rw[b];simp only[Qbq];rw[c];rfl,q⟩
def vo{f:jL}{Q:Bool->aE->Prop}(h:E f Γ S λk a=>Q (!k) a):E (xg f) Γ S Q:=by
 obtain⟨k,a,b,q⟩:=h
 exact⟨_,a,by unfold xg;rw[b];rfl,q⟩
def pE{f g:jL}{Q:Bool->aE->Prop}(h:E f Γ S λk a=>if k=true then E g Γ a Q else Q false a):E (ip f g) Γ S Q:=by
 obtain⟨k,a,b,q⟩:=h
 cases k with
 |true=>obtain⟨j,c,d,q⟩:=(q:E g Γ a Q);exact⟨j,c,by unfold ip;rw[b];exact d,q⟩
 |false=>exact⟨false,a,by unfold ip;rw[b];rfl,q⟩
def Fg{f g:jL}{Q:Bool->aE->Prop}(h:E f Γ S λk a=>if k=true then Q true a else E g Γ a Q):E (Lz f g) Γ S Q:=by
 obtain⟨k,a,b,q⟩:=h
 cases k with
 |true=>exact⟨true,a,by unfold Lz;rw[b];rfl,q⟩
 |false=>obtain⟨j,c,d,q⟩:=(q:E g Γ a Q);exact⟨j,c,by unfold Lz;rw[b];exact d,q⟩
def NO{c:jL}{f g:bH}{Q:D->aE->Prop}(h:E c Γ S λk a=>if k=true then E f Γ a Q else E g Γ a Q):E (w_ c f g) Γ S Q:=by
 obtain⟨k,a,e,q⟩:=h
 cases k with
 |true=>obtain⟨j,b,d,q⟩:=(q:E f Γ a Q);exact⟨j,b,by unfold w_;rw[e];exact d,q⟩
 |false=>obtain⟨j,b,d,q⟩:=(q:E g Γ a Q);exact⟨j,b,by unfold w_;rw[e];exact d,q⟩
def cK{i:Nat}{f:bH}{Q:Out->Prop}(h:E f Γ S λd a=>Q (.nx (Γ.set i (some d)) a)):T (aS i f) Γ S Q:=by
 obtain⟨d,a,b,q⟩:=h
 exact⟨_,by unfold aS;rw[b];rfl,q⟩
def eX{f:bH}{Q:Out->Prop}(h:E f Γ S λd a=>Q (.rt d a)):T (cx f) Γ S Q:=by
 obtain⟨d,a,b,q⟩:=h
 exact⟨_,by unfold cx;rw[b];rfl,q⟩
def Ly{f:ic}{Q:Out->Prop}(h:E f Γ S λd a=>Q (.rl d a)):T (GA f) Γ S Q:=by
 obtain⟨d,a,b,q⟩:=h
 exact⟨_,by unfold GA;rw[b];rfl,q⟩
def eg{f:bH}{Q:Out->Prop}(h:E f Γ S λd a=>Q (.nx Γ a)):T (hZ f) Γ S Q:=by
 obtain⟨d,a,b,q⟩:=h
 exact⟨_,by unfold hZ;rw[b];rfl,q⟩
def bX{Q:Out->Prop}(q:Q (.nx Γ S)):T fG Γ S Q:=⟨_,rfl,q⟩
def uc{f:bH}{g:nR}{Q:Out->Prop}(h:E f Γ S λd b=>Tg g d Γ b λa S2=>Q (.nx a S2)):T (ko f g) Γ S Q:=by
 obtain⟨d,b,c,a,S2,e,q⟩:=h
 exact⟨_,by unfold ko;rw[c];simp only[Qbq];rw[e];rfl,q⟩
def aI{f g:cE}{Q:Out->Prop}(h:T f Γ S (bR g Q)):T (aD f g) Γ S Q:=by
 obtain⟨o,b,q⟩:=h
 cases o with
 |nx a c=>obtain⟨o,d,q⟩:=(q:T g a c Q);exact⟨o,by unfold aD;rw[b];exact d,q⟩
 |_=>exact⟨_,by unfold aD;rw[b];rfl,q⟩
def bO{c:jL}{f g:cE}{Q:Out->Prop}(h:E c Γ S λk a=>if k=true then T f Γ a Q else T g Γ a Q):T (c9 c f g) Γ S Q:=by
 obtain⟨k,a,d,q⟩:=h
 cases k with
 |true=>obtain⟨j,b,q⟩:=(q:T f Γ a Q);exact⟨j,by unfold c9;rw[d];exact b,q⟩
 |false=>obtain⟨j,b,q⟩:=(q:T g Γ a Q);exact⟨j,by unfold c9;rw[d];exact b,q⟩
def aV{i:Nat}{d:D}{Q:cB->aE->Prop}(q:Q (Γ.set i (some d)) S):Tg (bJ i) d Γ S Q:=⟨_,_,rfl,q⟩
def Js{f g:bH}{d:D}{Q:cB->aE->Prop}(h:E f Γ S λx a=>E g Γ a λy S2=>∃k i ds j,x=.ref k/\y=.int i/\S2[k]?=some (.lst ds)/\C7 ds.length i=some j/\Q Γ (S2.set k (.lst (ds.set j d)))):Tg (wO f g) d Γ S Q:=by
 obtain⟨x,a,b,y,S2,c,k,i,ds,j,rfl,rfl,h1,h2,q⟩:=h
 exact⟨_,_,by unfold wO;rw[b];simp only[Qbq];rw[c];simp only[Qbq,h1,h2],q⟩
def QN{f g h:bH}{Q:Out->Prop}(w:E f Γ S λx c=>E g Γ c λy S2=>∃k i ds m,x=.ref k/\y=.int i/\S2[k]?=some (.lst ds)/\0<=i/\ds[i.toNat]?=some (.int m)/\E h Γ S2 λz b=>∃n a j,z=.int n/\b[k]?=some (.lst a)/\C7 a.length i=some j/\Q (.nx Γ (b.set k (.lst (a.set j (.int (m+n))))))):T (OS f g h) Γ S Q:=by
 obtain⟨x,c,e,y,S2,d,k,i,ds,m,rfl,rfl,h1,h2,h3,z,b,e3,n,a,j,rfl,h4,h5,q⟩:=w
 exact⟨_,by unfold OS;rw[e];simp only[Qbq];rw[d];simp only[Qbq,h1,Qhq h2,h3,e3,h4,h5],q⟩
def hV{i:yh}{g:nR}{b:cE}{Q:Out->Prop} (h:E i Γ S λp v=>∃I:Nat->cB->aE->Prop,I 0 Γ v/\(∀n a c,I n a c->p.2 c)∧
   (∀(n:Nat) (d:D) (a:cB) (c:aE),p.1[n]?=some d->I n a c->Tg g d a c λr S2=>bR b (bU I n Q) (.nx r S2))∧
   ∀a c,I p.1.length a c->Q (.nx a c)):T (jh i g b) Γ S Q:=by
 obtain⟨⟨s,W⟩,v,C,I,B,x,f,t⟩:=h
 have z:∀(k n:Nat) (a:cB) (c:aE),n+k=s.length->I n a c->∃o,forL g b W (s.drop n) a c=some o/\Q o:=by
  intro k
  induction k with
  | zero=>
    intro n a c w m
    rw[List.drop_of_length_le (by omega)]
    refine⟨.nx a c,by simp only[forL];rw[Qhq (x _ _ _ m)],t _ _ (by rw[←w];exact m)⟩
  | succ k y=>
    intro n a c w m
    have l:n<s.length:=by omega
    rw[QWq l]
    obtain⟨r,S2,u,o,A,q⟩:=f n s[n] a c (gQe l) m
    simp only[forL]
    rw[Qhq (x _ _ _ m),u]
    simp only[Qbq]
    rw[A]
    simp only[Qbq]
    cases o with
    |nx e j=>exact y (n+1) e j (by omega) q
    |ct e j=>exact y (n+1) e j (by omega) q
    |bk e j=>exact⟨_,rfl,q⟩
    |rt d j=>exact⟨_,rfl,q⟩
    |rl d j=>exact⟨_,rfl,q⟩
 obtain⟨o,u,q⟩:=z s.length 0 Γ v (by omega) B
 exact⟨o,by unfold jh;rw[C];exact u,q⟩
def jB{js:List (Option Nat)}{i:yh}{g:nR}{t:jL}{f:bH}{Q:List D->aE->Prop} (h:E i Γ S λp A=>∃I:Nat->cB->aE->List D->Prop,I 0 (pQ js Γ) A []/\(∀n b e a,I n b e a->p.2 e)∧
   (∀(n:Nat) (d:D) (b:cB) (e:aE) (a:List D),p.1[n]?=some d->I n b e a->Tg g d b e λj S2=>E t j S2 λk w=>if k=true then E f j w λy x=>a.length<sizeLine/\I (n+1) j x (a++ [y]) else I (n+1) j w a)∧
   ∀b e a,I p.1.length b e a->Q a e):E (bD js i g t f) Γ S Q:=by
 obtain⟨⟨u,W⟩,A,K,I,J,C,m,v⟩:=h
 have G:∀(k n:Nat) (b:cB) (e:aE) (a:List D),n+k=u.length->I n b e a->∃r l,oG g t f W (u.drop n) b e a=some (r,l)/\Q r l:=by
  intro k
  induction k with
  | zero=>
    intro n b e a B s
    rw[List.drop_of_length_le (by omega)]
    refine⟨a,e,by simp only[oG];rw[Qhq (C _ _ _ _ s)],v _ _ _ (by rw[←B];exact s)⟩
  | succ k F=>
    intro n b e a B s
    have o:n<u.length:=by omega
    rw[QWq o]
    obtain⟨j,S2,z,c,w,H,q⟩:=m n u[n] b e a (gQe o) s
    simp only[oG]
    rw[Qhq (C _ _ _ _ s),z]
    simp only[Qbq]
    rw[H]
    simp only[Qbq]
    cases c with
    | true=>
      rw[Qhq rfl] at q⊢
      obtain⟨y,x,M,L,q⟩:=q
      rw[M]
      simp only[Qbq]
      rw[Qhq L]
      exact F (n+1) j x _ (by omega) q
    | false=>
      rw[Quq (by decide)] at q⊢
      exact F (n+1) j w _ (by omega) q
 obtain⟨r,l,z,q⟩:=G u.length 0 _ A [] (by omega) J
 exact⟨r,l,by unfold bD;rw[K];exact z,q⟩
def HZ{f:bH}{Q:(List D×(aE->Prop))->aE->Prop}(h:E f Γ S λd a=>∃j,d=.int j/\(-(2^62)<=j/\j<2^62)/\Q (ki 0 j,λ_=>True) a):E (vP f) Γ S Q:=by
 obtain⟨d,a,b,j,rfl,hj,q⟩:=h
 exact⟨_,a,by unfold vP;rw[b];simp only[Qbq];rw[Qhq hj],q⟩
def j_{f:fu}{Q:(List D×(aE->Prop))->aE->Prop}(h:E f Γ S λp a=>Q (p.1,λb=>p.2.stays b p.1) a):E (fM f) Γ S Q:=by
 obtain⟨p,a,c,q⟩:=h
 exact⟨_,a,by unfold fM;rw[c];rfl,q⟩
def fH{m:List D->List D->Option (List D×D)}{f:bH}{g:ic}{Q:D->aE->Prop}(h:E f Γ S λx b=>∃k a,x=.ref k/\b[k]?=some (.lst a)/\E g Γ b λys S2=>∃ds,S2[k]?=some (.lst ds)/\Op (m ds ys) λp=>Q p.2 (S2.set k (.lst p.1))):E (jg m f g) Γ S Q:=by
 obtain⟨x,b,c,k,a,rfl,h1,ys,S2,e2,ds,h2,p,e3,q⟩:=h
 exact⟨_,_,by unfold jg;rw[c];simp only[Qbq,e2,h1,h2,e3],q⟩
end
def bZ{n:Nat}{b:cE}{ds:List D}{S:aE}{Q:Res->aE->Prop}(h:bR b (eZ S Q) (.nx (ds.map some++List.replicate (n-ds.length) none) S)):Fn (fm n b) ds S Q:=by
 obtain⟨o,e,q⟩:=h
 cases o with
 |nx g f=>obtain⟨⟨r,a⟩,c,q⟩:=q;exact⟨r,a,by unfold fm;rw[e];exact c,q⟩
 |rt d f=>obtain⟨⟨r,a⟩,c,q⟩:=q;exact⟨r,a,by unfold fm;rw[e];exact c,q⟩
 |rl d f=>obtain⟨⟨r,a⟩,c,q⟩:=q;exact⟨r,a,by unfold fm;rw[e];exact c,q⟩
 |bk=>exact q.elim
 |ct=>exact q.elim
def iM{S a S2:aE}{d:D}{Q:Res×aE->Prop}(c:qj S a)(ht:a.take S.length=S2)(hd:∀k,d≠.ref k)(b:cq S.length d=true)(q:Q (.d d,S2)):Op (settle S d a) Q:=by
 refine⟨_,?_,q⟩
 unfold settle
 rw[Qhq c,ht]
 cases d with
 |ref k=>exact absurd rfl (hd k)
 |_=>simp only[b,if_true]
def pR{S a S2:aE}{ds:List D}{Q:Res×aE->Prop}(c:qj S a)(ht:a.take S.length=S2)(b:cg S.length ds=true)(q:Q (.l ds,S2)):Op (eJ S ds a) Q:=by
 refine⟨_,?_,q⟩
 unfold eJ
 rw[Qhq ⟨c,b⟩,ht]
def wo{S:aE}:qj S S:=⟨Qmq _,λk o _ h=>.inl h⟩
def yl{S:aE}{k:Nat}{o:O}(h:Jw S.length o=true):qj S (S.set k o):=by
 refine⟨by simp,λj u _ e=> ?_⟩
 rw[List.getElem?_set] at e
 split at e
 ·split at e
  ·cases e;exact .inr h
  ·cases e
 ·exact .inl e
end DL
namespace L2
open PySem PySem.Spec PyProof.Rows
end L2
namespace DL
open PySem PySem.Spec L2
end DL
namespace L2
open PySem PySem.Spec PyProof.Rows
section
variable{X:Cx}
def NM:V->List V->Hp->VK->Prop:=λx b H Q=>∃(l:Addr) (a:List V) (i:Int) (y:V),x=.ref l/\b= [.int i,y]/\H l=some (.lst a)/\0<=i/\i<1000000/\i.toNat<=a.length/\a.length<sizeLine/\Q .non (upd H l (.lst (a.take i.toNat++y::a.drop i.toNat)))
def JE{a:List Value}{i:Int}{u:Value}(c:0<=i)(b:i.toNat<=a.length):(a.toArray.extract 0 (if i<0 then(i+(a.toArray.size:Int)).toNat else min i.toNat a.toArray.size)).push u++a.toArray.extract (if i<0 then(i+(a.toArray.size:Int)).toNat else min i.toNat a.toArray.size)=(a.take i.toNat++u::a.drop i.toNat).toArray:=by
 rw[Quq (by omega),Qjq,Nat.min_eq_left b]
 apply Array.toList_inj.mp
 simp
 exact List.take_of_length_le (by rw[List.length_drop];exact Qmq _)
def Fz:MF X "list.insert" NM:=by
 intro f s A H x w v p Q I j g h
 obtain⟨l,m,i,y,rfl,rfl,hH,h0,h1,hk,hz,q⟩:=h
 cases j
 obtain⟨o,u,rfl,r1,ru⟩:=g.two
 obtain⟨t,rfl⟩:=r1
 obtain⟨z,a,n,r,d,e⟩:=I.lstM hH
 have k:Builtin.List.listFitsIndex i=true:=fitsIndex_both (Int.le_trans (by decide) h0) (Int.lt_trans h1 (by decide))
 have b:a.toArray.size<=sizeLine:=by rw[Qjq,←d];exact nQl hz
 have c:¬(!Builtin.List.listFitsIndex i)=true:=by rw[k];exact Qtq
 refine call_meets F.slot_list_insert ⟨_,e,rfl⟩ F.entry_list_insert (F.args_list_insert_3 _ _ _) (AutoSeq1.list_insert_list_int_val_1 l a.toArray n i t u c b) ⟨e,?_⟩
 refine⟨.non,_,I.lset (its':=a.take i.toNat++u::a.drop i.toNat) hH e (JE h0 (d▸hk)) ((r.take _).append (.cons ru (r.drop _))) ?_,rfl,q⟩
 simp only[lQa,Qxq,Qnq,List.length_drop]
 omega
def Eb:V->List V->Hp->VK->Prop:=λx a H Q=>∃l b,x=.ref l/\a= []/\H l=some (.lst b)/\Q .non (upd H l (.lst []))
def F8:MF X "list.clear" Eb:=by
 intro c s m H x k v j Q I f d h
 obtain⟨l,g,rfl,rfl,hH,q⟩:=h
 cases f
 have b:=d.zero
 subst b
 obtain⟨z,a,n,r,i,e⟩:=I.lstM hH
 refine call_meets F.slot_list_clear ⟨_,e,rfl⟩ F.entry_list_clear (F.args_list_clear_1 _) (AutoSeq1.list_clear_list_0 l a.toArray n (by rw[Qjq];omega)) ⟨e,?_⟩
 exact⟨.non,_,I.lset (its':= []) hH e rfl .nil (Nat.zero_le _),rfl,q⟩
end
end L2
namespace DL
open PySem PySem.Spec PyProof.Rows L2
section
variable{X:Cx}{e e2:Expr}
def Ft:List D->List D->Option (List D×D):=λa b=>match b with
 | [.int i,y]=>if 0<=i/\i<1000000/\i.toNat<=a.length/\a.length<sizeLine then some (a.take i.toNat++y::a.drop i.toNat,.non) else none
 |_=>none
def K7{M:Md}:DT M NM Ft:=by
 intro n H a r o m d l p Q j c f e q
 unfold Ft at e
 split at e
 ·split at e
  ·rename_i i y b
   obtain⟨rfl,rfl⟩:=cD e
   cases f with
   | cons f g=>
     cases g with
     | cons g h=>
       cases h
       cases f
       have k:=c.length
       rw[k] at b
       exact⟨a,l,i,_,rfl,rfl,j,b.1,b.2.1,b.2.2.1,b.2.2.2,q _ _ ((c.take _).append (.cons g (c.drop _))) .non⟩
  ·cases e
 ·cases e
def NC{f g j:bH}{o:Expr}{b a:Pos}(k:PE X o (tD (md X) f))(l:PE X e (tD (md X) g))(n:PE X e2 (tD (md X) j))(d:attributeBase o "insert" X.env (eval o X.env)=eval o X.env:=by rfl) (h:((backTo a (starEach [e,e2] X.env)).all (λx=> !x.1)&&(backToKw a (keywordEach [] X.env)).all (λx=>x.1.isSome)
   &&decide ([e,e2].length+([]:List Keyword).length+(if ([]:List Keyword).isEmpty then 0 else 1)<30))=true:=by rfl)
  (c:(b.endLine==a.line)=true:=by rfl) (hs:starEach [e,e2] X.env=(false,eval e X.env)::starEach [e2] X.env:=by rfl) (i:starEach [e2] X.env= [(false,eval e2 X.env)]:=by rfl) (m:(backTo a (starEach [e2] X.env)).any (·.1)=false:=by rfl):PE X (.Call (.Attribute o "insert" b) [e,e2] [] a) (tD (md X) (jg Ft f (aq g (aq j av)))):=
 kn (vA PySem.F.plainAttrs_list PySem.F.slot_list_insert PySem.F.type_list_insert Fz k (cT l (cT n i_ i) hs) d h c hs m) (Lj K7)
def Kx:List D->List D->Option (List D×D):=λ_ a=>match a with
 | []=>some ([],.non)
 |_=>none
def Lg{M:Md}:DT M Eb Kx:=by
 intro i H a h j k d b g Q c l f e q
 unfold Kx at e
 split at e
 ·obtain⟨rfl,rfl⟩:=cD e
  cases f
  exact⟨a,b,rfl,rfl,c,q _ _ .nil .non⟩
 ·cases e
def Oz{f:bH}{o:Expr}{b a:Pos}(g:PE X o (tD (md X) f))(d:attributeBase o "clear" X.env (eval o X.env)=eval o X.env:=by rfl)(c:(b.endLine==a.line)=true:=by rfl):PE X (.Call (.Attribute o "clear" b) [] [] a) (tD (md X) (jg Kx f av)):=
 kn (Ib PySem.F.plainAttrs_list PySem.F.slot_list_clear PySem.F.type_list_clear F8 g d c) (KQ Lg)
end
end DL
namespace L2
open PySem PySem.Spec PyProof.Rows
section
variable{X:Cx}{pos:Pos}
def OX(K:PySem.W.Frag)(n:Nat)(t:HB):TG:=λv c H Q=>∃a b,v=.ref a/\je K H a b/\b.length=n/\t b c H Q
def Lu{d:List Expr}{k:Nat}{t:HB}{n:Nat}(C:X.calm=true)(h:GC X d t)
  (p:(assignEach d X.env).length=n:=by rfl) (f:(assignEach d X.env).findIdx? (·.1)=none:=by rfl):PG X (.Tuple d k pos) (OX X.K n t):=by
 intro c s l H v u Q I r g
 obtain⟨a,q,x,m,z,g⟩:=g
 subst x
 cases r
 obtain⟨i,j,B,F⟩:=I.list m
 rw[assign_Tuple]
 refine Qaq (wpAny_standAt ?_)
 unfold unpack
 rw[show(assignEach d X.env).length=i.toArray.size by simp[p,←z,j.length],f]
 refine Qaq (QLq (PySem.W.kun_itemsOf (I.ok.hd C) B.isList λy w=> ?_))
 have A:Inv X c l H {s with heap:=y}:=I.kept (t':=s.toks) λb o e=>w b o (Qwq (Qiq e)) e
 exact h c _ l H q _ Q A (by simpa using j) g
end
end L2
namespace DL
open PySem PySem.Spec PyProof.Rows L2
section
variable{X:Cx}{pos:Pos}
def HG(g:ph):nR:=λd a S=>match d with
 | .ref k=>match S[k]? with
   |some (.lst ds)=>g ds a S
   |_=>none
 |_=>none
def Qb{b:List Expr}{k:Nat}{g:ph}{n:Nat}(x:X.calm=true)(h:GC X b (NW (md X) g))(o:(assignEach b X.env).length=n:=by rfl)(f:(assignEach b X.env).findIdx? (·.1)=none:=by rfl):
  PG X (.Tuple b k pos) (tG (md X) (HG (nG n g))):=OM (Lu x h o f) λv y H Q ⟨t,m,S,d,i,l,ok,r,e,q⟩=>by
 cases r with
 | @ref k a hr=>
   simp only[HG,nG] at e
   split at e
   · rename_i w p
     split at e
     · rename_i c
       obtain⟨u,s,j⟩:=ok.st.obj k a _ hr p
       exact⟨a,u,rfl,je.of s,by rw[←j.length];exact c,t,m,S,w,i,l,ok,j,e,q⟩
     · cases e
   · cases e
 |_=>cases e
end
end DL
namespace W28
open PySem PySem.Spec L2 DL
abbrev bS:=aQ fK
abbrev bG(v:Nat)(k:Int):=aQ fK (ar v) (cF (.int k))
abbrev fU(v:Nat)(k:Int):=aq (aQ fK (ar v) (cF (.int k)))
abbrev i6(x:Str):=aq (cF (.str x))
abbrev bp(k:Int):=cF (.int k)
abbrev aC(k:Nat):=aq (ar k)
abbrev eU(k:Int):=aq (cF (.int k))
def se:cE:=
 (aD (aS 2 (bp 0))
 (aD (c9 (aG (aQ CC (ar 1) (gZ (aR (ar 0))))) (aS 2 (uD J5 (aq (bS (ar 0) (ar 1)) av))) fG)
 (aD (aS 3 (aQ n0 (aQ uh (ar 2) (aQ n0 (aQ zt (bp 10) (bp 60)) (aQ zt (bp 10) (bp 60)))) (uD intOfD (aq (aQ MX (ar 2) (aQ zt (bp 10) (bp 18))) av))))
 (GA (bB (aC 3 (aq (aQ uh (aQ cz (aQ cz (ar 2) (aQ n0 (bp 104729) (ar 1))) (bp 7)) (bp 2305843009213693951)) (eU 0 av))))))))
def nK:cU:=fm 4 se
def pY:cE:=
 (aD (c9 (aG (aQ Jc (bG 0 0) (bp 0))) (aD (aS 2 (aQ uh (bG 0 0) (ar 1)))
 (aD (ko (aQ AY (bG 0 0) (ar 1)) (wO (ar 0) (bp 0)))
 (cx (ar 2)))) fG)
 (aD (OS (ar 0) (bp 2) (bp 1))
 (aD (aS 3 (aQ uh (aQ cz (aQ cz (aQ n0 (bG 0 1) (bp 69069)) (aQ n0 (bp 9973) (bG 0 2))) (bp 5)) (bp 2305843009213693921)))
 (aD (ko (aQ uh (aQ n0 (ar 3) (aQ cz (aQ cz (aQ uh (ar 3) (bp 999983)) (aQ n0 (bp 2) (bG 0 2))) (bp 3))) (bp 2305843009213693907)) (wO (ar 0) (bp 1)))
 (cx (aQ uh (aQ AY (bG 0 1) (bp 65537)) (ar 1)))))))
def aH:cU:=fm 4 pY
def mr:cE:=
 (aD (aS 3 (bP (bD [none,some 1] (fM (ib (bB (i6 "a" (i6 "b" (i6 "c" (i6 "d" (i6 "e" (i6 "zz" av))))))))) (bJ 0) bL (aQ cz (ar 1) (ar 0)))))
 (GA (E5 (ib (bD [none,some 0,some 3] (vP (ar 2)) (bJ 0) bL (jg gS (ar 2) (aq (ax aH (aC 1 (aq (gZ (aR (ar 2))) av))) av)))))))
def c8:cU:=fm 4 mr
def oN:cE:=
 (cx (bS (ar 1) (ax aH (aC 0 (aq (gZ (aR (ar 1))) av)))))
def bN:cU:=fm 2 oN
def sM(self:cU):cE:=
 (aD (aS 4 (ax aH (aC 0 (eU 9 av))))
 (aD (c9 (Lz (aG (aQ CC (ar 3) (bp 1))) (aG (aQ CC (ar 4) (bp 3)))) (aD (c9 (ip (aG (cX (aR (ar 1)))) (aG (aQ Jc (ax aH (aC 0 (eU 3 av))) (bp 0)))) (cx (ax bN (aC 0 (aC 1 av)))) fG)
 (cx (ax aH (aC 0 (aq (bS (bP (bB (eU 3 (eU 10 av)))) (uD intOfD (aq (aQ (du false) (ax aH (aC 0 (eU 5 av))) (bp 0)) av))) av))))) fG)
 (aD (c9 (ip (aG (aQ (du false) (ar 4) (bp 3))) (aG (cX (aR (ar 2))))) (cx (bg (i6 "waits" (aq (ax bN (aC 0 (aC 2 av))) av)))) fG)
 (aD (c9 (aG (aQ (du false) (ar 4) (bp 4))) (cx (bg (i6 "not" (aq (ax self (aC 0 (aC 1 (aC 2 (aq (aQ jE (ar 3) (bp 1)) av))))) av)))) fG)
 (aD (aS 5 (bS (bP (bB (i6 "plus" (i6 "minus" (i6 "less" (i6 "same" (i6 "both" av))))))) (ax aH (aC 0 (eU 5 av)))))
 (cx (bg (aC 5 (aq (ax self (aC 0 (aC 1 (aC 2 (aq (aQ jE (ar 3) (bp 1)) av))))) (aq (ax self (aC 0 (aC 1 (aC 2 (aq (aQ jE (ar 3) (bp 1)) av))))) av))))))))))
def bC:Nat->cU
 |0=>λ_ _=>none
 |n+1=>fm 6 (sM (bC n))
def lZ:cE:=
 (aD (aS 4 (bS (bP (bB (eU 0 (i6 "given" (aq (ax (bC 4) (aC 0 (aC 1 (aC 2 (eU 1 av))))) av))))) (ax aH (aC 0 (eU 3 av)))))
 (aD (aS 5 (bg (i6 "wait" (aq (ax bN (aC 0 (aC 2 av))) (aC 4 av)))))
 (aD (aS 6 (ax aH (aC 0 (eU 3 av))))
 (aD (c9 (aG (aQ (du false) (ar 6) (bp 0))) (GA (bB (aC 5 av))) fG)
 (aD (aS 7 (bg (i6 "not" (aq (ax (bC 4) (aC 0 (aC 1 (aC 2 (eU 2 av))))) av))))
 (GA (bB (aq (bg (i6 "unless" (aC 7 (aq (aQ cz (ar 3) (bp 3)) av)))) (aC 5 (aq (bg (i6 "go" (aq (bS (bP (bB (aC 3 (aq (aQ cz (ar 3) (bp 3)) av)))) (aQ jE (ar 6) (bp 1))) av))) av))))))))))
def jt:cU:=fm 8 lZ
def wM:cE:=
 (aD (ko (ax bN (aC 0 (aC 1 av))) (lM (nG 2 (aJ (bJ 4) (aJ (bJ 5) dA)))))
 (aD (aS 6 (ax bN (aC 0 (aq (bP (yK (ib (bB (aq (cF .non) av))) (aR (ar 2)))) av))))
 (cx (bg (i6 "do" (aC 6 (aC 4 (aC 5 (aq (ax (bC 4) (aC 0 (aC 3 (aq (bP (bB av)) (eU 1 av))))) av)))))))))
def mD:cU:=fm 7 wM
def oP:cE:=
 (aD (ko (ar 1) (lM (nG 3 (aJ (bJ 4) (aJ (bJ 5) (aJ (bJ 6) dA))))))
 (aD (aS 7 (bP (yK (aR (ar 5)) (ib (bB (i6 "given" av))))))
 (aD (aS 8 (bP (bB av)))
 (aD (jh (vP (aQ cz (bp 1) (ax aH (aC 0 (aC 3 av))))) (bJ 9) (aD (aS 10 (ax aH (aC 0 (eU 9 av))))
 (c9 (ip (aG (aQ CC (ar 10) (bp 2))) (aG (cX (aR (ar 6))))) (hZ (y2 (ar 8) (ib (dX jt (aC 0 (aC 7 (aC 6 (aq (gZ (aR (ar 8))) av)))))))) (c9 (ip (aG (aQ CC (ar 10) (bp 4))) (aG (cX (aR (ar 6))))) (aD (aS 11 (bS (bP (bB (i6 "call" (i6 "all" av)))) (uD intOfD (aq (rO (aQ (du false) (ar 4) (cF (.str "when free"))) (aQ (du false) (ar 10) (bp 3))) av))))
 (hZ (jg fw (ar 8) (aq (bg (aC 11 (aq (ax bN (aC 0 (aC 6 av))) av))) av)))) (c9 (ip (aG (aQ (du false) (ar 10) (bp 4))) (aG (cX (aR (ar 2))))) (hZ (jg fw (ar 8) (aq (ax mD (aC 0 (aC 2 (aC 5 (aC 7 av))))) av))) (c9 (aG (aQ (du false) (ar 10) (bp 5))) (aD (hZ (jg fw (ar 8) (aq (bg (i6 "unless" (aq (ax (bC 4) (aC 0 (aC 7 (aC 6 (eU 2 av))))) (aq (aQ cz (gZ (aR (ar 8))) (bp 2)) av)))) av)))
 (hZ (jg fw (ar 8) (aq (bg (i6 "tell" (aq (ax aH (aC 0 (eU 10 av))) av))) av)))) (c9 (ip (aG (aQ CC (ar 10) (bp 8))) (aG (cX (aR (ar 5))))) (hZ (jg fw (ar 8) (aq (bg (i6 "put" (aq (ax bN (aC 0 (aC 5 av))) (aq (ax (bC 4) (aC 0 (aC 7 (aC 6 (eU 2 av))))) av)))) av))) (hZ (jg fw (ar 8) (aq (bg (i6 "tell" (aq (ax (bC 4) (aC 0 (aC 7 (aC 6 (eU 1 av))))) av))) av))))))))))
 (cx (tupQ (cN (aR (ar 8)))))))))
def kB:cU:=fm 12 oP
def pW:cE:=
 (aD (aS 5 (ax bN (aC 0 (aC 3 av))))
 (aD (aS 6 (bP (dX c8 (aC 0 (i6 "" (aq (bS (bP (bB (eU 1 (eU 1 (eU 2 (eU 0 av)))))) (ax aH (aC 0 (eU 4 av)))) av))))))
 (aD (aS 7 (bP (dX c8 (aC 0 (i6 "" (aq (ax aH (aC 0 (aq (aQ cz (ar 4) (bp 1)) av))) av))))))
 (aD (aS 8 (bP (bB av)))
 (aD (jh (fM (ib (dX c8 (aC 0 (i6 "" (aq (aQ cz (bp 1) (ax aH (aC 0 (eU 3 av)))) av)))))) (bJ 9) (aD (aS 10 (bP (bD [none,some 1] (fM (aR (ar 8))) (bJ 0) bL (bg (aC 1 (fU 0 0 av))))))
 (aD (aS 11 (bP (yK (aR (ar 2)) (ib (JP (aR (ar 10)) (uD intOfD (aq (aQ (du false) (ax aH (aC 0 (eU 5 av))) (bp 0)) av)))))))
 (hZ (jg fw (ar 8) (aq (bg (aC 9 (aq (ax kB (aC 0 (aq (bg (aC 5 (aC 6 (aC 7 av)))) (aC 11 (eU 4 av))))) av))) av))))))
 (aD (aS 12 (tupQ (ib (bD [none,some 0] (fM (aR (ar 7))) (bJ 0) bL (bg (aC 0 (aq (bS (bP (bB (i6 "row" (i6 "turns" av)))) (ax aH (aC 1 (eU 2 av)))) av)))))))
 (cx (bg (aC 1 (aC 5 (aq (tupQ (ib (bD [none,some 0] (fM (aR (ar 6))) (bJ 0) bL (bg (aC 0 (aq (ax aH (aC 1 (eU 3 av))) av)))))) (aC 12 (aq (tupQ (cN (aR (ar 8)))) av)))))))))))))
def ku:cU:=fm 13 pW
def tT:cE:=
 (aD (aS 4 (bP (dX c8 (aC 0 (i6 "" (aC 1 av))))))
 (aD (aS 5 (bP (bB av)))
 (aD (Ja (aG (cX (aR (ar 4)))) (aD (aS 6 (bP (bB av)))
 (aD (jh (fM (aR (ar 5))) (bJ 7) (hZ (y2 (ar 6) (ib (bD [none,some 7] (fM (aR (bG 7 4))) (bJ 0) bL (bg (fU 1 0 (fU 0 0 av))))))))
 (aD (aS 8 (jg gS (ar 4) (aq (ax aH (aC 0 (aq (gZ (aR (ar 4))) av))) av)))
 (hZ (jg fw (ar 5) (aq (ax ku (aC 0 (aC 8 (aC 6 (aC 2 (aC 3 av)))))) av)))))) 4)
 (cx (tupQ (ib (yx (aR (ar 5)))))))))
def jm:cU:=fm 9 tT
def me:cE:=
 (aD (aS 1 (bP (bB av)))
 (aD (jh (fM (aR (bG 0 0))) (lM (nG 5 (aJ (bJ 2) (aJ (bJ 3) (aJ (bJ 4) (aJ (bJ 5) (aJ (bJ 6) dA))))))) (hZ (jg fw (ar 1) (aq (bP (bB (aq (bP (bD [none,none] (fM (aR (ar 4))) (lM (nG 2 (aJ (bJ 0) (aJ (bJ 1) dA)))) bL (ar 1))) (aq (h_ (bp 1)) (aq (bP (bB av)) (aq (bP (bB av)) (aq (bP (bD [none] (fM (aR (ar 5))) (bJ 0) bL (bP (bB av)))) av))))))) av))))
 (aD (aS 7 (bP (bB av)))
 (aD (jh (fM (aR (bG 0 3))) (lM (nG 2 (aJ (bJ 4) (aJ (bJ 8) dA)))) (hZ (jg fw (ar 7) (aq (bP (bB (aq (bP (bD [none,none] (fM (aR (ar 4))) (lM (nG 2 (aJ (bJ 0) (aJ (bJ 1) dA)))) bL (ar 1))) (aq (bP (bB (aq (bP (bB (aq (h_ (bp 1)) (aq (h_ (bp 1)) (eU 0 (eU 0 (eU 0 av))))))) av))) av)))) av))))
 (GA (bB (aC 1 (aq (bP (bD [none,none] (fM (aR (bG 0 1))) (lM (nG 2 (aJ (bJ 0) (aJ (bJ 1) dA)))) bL (bP (bB (aC 1 (aq (bP (bB av)) av)))))) (aq (bP (bD [none,none] (fM (aR (bG 0 2))) (lM (nG 2 (aJ (bJ 0) (aJ (bJ 1) dA)))) bL (ar 1))) (aC 7 av))))))))))
def jw:cU:=Cw 9 me
def pP:cE:=
 (cx (tupQ (ib (bD [none,none] (fM (aR (ar 0))) (lM (nG 2 (aJ (bJ 0) (aJ (bJ 1) dA)))) bL (ar 1)))))
def gQ:cU:=fm 1 pP
def mG:cE:=
 (aD (ko (ar 0) (lM (nG 5 (aJ (bJ 1) (aJ (bJ 2) (aJ (bJ 3) (aJ (bJ 4) (aJ (bJ 5) dA))))))))
 (cx (bg (aq (ax gQ (aC 3 av)) (aq (cF (.int (-1))) (aq (bg av) (aq (bg av) (aq (tupQ (ib (bD [none] (fM (aR (ar 4))) (bJ 0) bL (bg av)))) av))))))))
def jl:cU:=fm 6 mG
def Dm:cE:=
 (aD (ko (ar 0) (lM (nG 4 (aJ (bJ 1) (aJ (bJ 2) (aJ (bJ 3) (aJ (bJ 4) dA)))))))
 (aD (aS 5 (bg (aq (cF (.int (-1))) (aq (cF (.int (-1))) (eU 0 (eU 0 (eU 0 av)))))))
 (cx (bg (aq (tupQ (ib (bD [none] (fM (aR (ar 1))) (bJ 0) bL (ax jl (aC 0 av))))) (aq (tupQ (ib (bD [none,none] (fM (aR (ar 2))) (lM (nG 2 (aJ (bJ 0) (aJ (bJ 1) dA)))) bL (bg (aC 1 (aq (bg av) av)))))) (aq (ax gQ (aC 3 av)) (aq (tupQ (ib (bD [none,none,some 5] (fM (aR (ar 4))) (lM (nG 2 (aJ (bJ 0) (aJ (bJ 1) dA)))) bL (bg (aq (ax gQ (aC 0 av)) (aq (bg (aC 2 av)) av)))))) av))))))))
def zP:cU:=fm 6 Dm
def i7:cE:=
 (aD (jh (fM (aR (bG 0 0))) (HG (nG 5 (aJ (bJ 2) (aJ (bJ 3) (aJ (bJ 4) (aJ (bJ 5) (aJ (bJ 6) dA))))))) (aD (c9 (aG (BM false (ar 1) (ib (yK (aR (ar 4)) (aR (ar 5)))))) (cx (cF (.bl true))) fG)
 (jh (fM (aR (ar 6))) (bJ 7) (c9 (aG (BM false (ar 1) (ib (bD [none,none] (fM (aR (ar 7))) (lM (nG 2 (aJ (bJ 0) (aJ (bJ 1) dA)))) bL (ar 1))))) (cx (cF (.bl true))) fG))))
 (cx (KA (ib (bD [none,none,some 1] (fM (aR (bG 0 1))) (HG (nG 2 (aJ (bJ 0) (aJ (bJ 1) dA)))) bL (BM false (ar 2) (aR (ar 1))))))))
def gk:cU:=fm 8 i7
def r_:cE:=
 (aD (aS 2 (bP (bB av)))
 (aD (jh (vP (gZ (aR (bG 0 3)))) (bJ 3) (aD (aS 4 (bS (bS (bS (bG 1 3) (ar 3)) (bp 1)) (h_ (bp 1))))
 (aD (aS 5 (rO (aQ CC (bG 4 0) (bp 0)) (aQ (du false) (bG 4 2) (gZ (aR (bS (bS (bG 0 3) (ar 3)) (bp 1)))))))
 (c9 (ip (xg (ke (ar 5))) (xg (ke (ax gk (aC 1 (aC 3 av)))))) (hZ (jg fw (ar 2) (aC 3 av))) fG))))
 (cx (ar 2))))
def nL:cU:=fm 6 r_
def pS:cE:=
 (aD (c9 (ip (aG (BM false (ar 2) (aR (ar 1)))) (aG (aQ (du false) (ax aH (aC 0 (eU 2 av))) (bp 0)))) (cx (ar 2)) fG)
 (cx (ax bN (aC 0 (aC 1 av)))))
def kP:cU:=fm 3 pS
def jK:cE:=
 (aD (c9 (aG (aQ CC (bG 2 0) (bp 0))) (cx (bS (bS (bG 0 3) (ar 1)) (bp 1))) fG)
 (cx (bS (bS (bS (bS (bG 0 0) (bG 2 0)) (bp 4)) (bG 2 1)) (bp 1))))
def fI:cU:=fm 3 jK
def m_:cE:=
 (c9 (aG (aQ CC (bG 0 1) (bp 0))) (ko (ar 1) (wO (ar 0) (bp 1))) (hZ (jg fw (bG 0 2) (aC 1 av))))
def hJ:cU:=Cw 2 m_
def mX:cE:=
 (aD (ko (h_ (bp 1)) (wO (ar 0) (bp 1)))
 (c9 (aG (cX (aR (bG 0 3)))) (ko (jg gS (bG 0 3) (eU 0 av)) (wO (ar 0) (bp 1))) (c9 (aG (cX (aR (bG 0 2)))) (ko (jg gS (bG 0 2) (eU 0 av)) (wO (ar 0) (bp 1))) fG)))
def g_:cU:=Cw 1 mX
def oU:cE:=
 (cx (HP (ib (bD [none] (fM (aR (ar 0))) (bJ 0) bL (bG 0 0))) (ar 1)))
def df:cU:=fm 2 oU
def sk:cE:=
 (aD (aS 5 (bS (bS (bS (bG 1 3) (ar 2)) (bp 1)) (h_ (bp 1))))
 (c9 (aG (aQ MX (bG 5 0) (bp 0))) (ko (ar 4) (wO (bS (bS (bG 1 0) (bG 5 0)) (bp 0)) (ax df (aq (bS (bS (bG 0 0) (bG 5 0)) (bp 2)) (aC 3 av))))) (c9 (aG (BM false (ar 3) (ib (bD [none] (fM (aR (bS (bS (bG 0 3) (ar 2)) (bp 0)))) (bJ 0) bL (bG 0 0))))) (ko (ar 4) (wO (bS (bS (bG 1 3) (ar 2)) (bp 0)) (ax df (aq (bS (bS (bG 0 3) (ar 2)) (bp 0)) (aC 3 av))))) (ko (ar 4) (wO (bG 1 2) (ax df (fU 0 2 (aC 3 av))))))))
def jX:cU:=Cw 6 sk
def qY:cE:=
 (aD (aS 3 (bS (bS (bG 1 3) (ar 2)) (bp 1)))
 (aD (ko (jg Gc (ar 3) av) (HG (nG 5 (aJ (bJ 4) (aJ (bJ 5) (aJ (bJ 6) (aJ (bJ 7) (aJ (bJ 8) dA))))))))
 (aD (hZ (ax g_ (aq (bS (bG 1 0) (ar 4)) av)))
 (aD (aS 9 (bS (ax fI (aC 0 (aC 2 (aq (bS (ar 3) (h_ (bp 1))) av)))) (aQ jE (bS (bS (ar 3) (h_ (bp 1))) (bp 2)) (bp 1))))
 (c9 (aG (aQ (Be true) (bG 9 1) (cF .non))) (hZ (ax jX (aC 0 (aC 1 (aC 2 (fU 9 1 (aC 8 av))))))) fG)))))
def nQ:cU:=Cw 10 qY
def ni(self:cU):cE:=
 (aD (c9 (ke (pN "int" (ar 0))) (cx (ar 0)) fG)
 (aD (c9 (ke (pN "str" (ar 0))) (cx (Mb (ar 1) (ar 0))) fG)
 (aD (c9 (aG (aQ (du false) (bG 0 0) (cF (.str "waits")))) (cx (uD intOfD (aq (aQ Jc (Mb (ar 2) (bG 0 1)) (bp 0)) av))) fG)
 (aD (aS 3 (bP (bD [none,some 1,some 2] (fM (aR (uw (ar 0) (uo (bp 1)) uP))) (bJ 0) bL (ax self (aC 0 (aC 1 (aC 2 av)))))))
 (aD (c9 (aG (aQ (du false) (bG 0 0) (cF (.str "not")))) (cx (uD intOfD (aq (aQ (du false) (bG 3 0) (bp 0)) av))) fG)
 (aD (ko (ar 3) (HG (nG 2 (aJ (bJ 4) (aJ (bJ 5) dA)))))
 (aD (c9 (aG (aQ (du false) (bG 0 0) (cF (.str "plus")))) (cx (uD minD (eU 9 (aq (aQ cz (ar 4) (ar 5)) av)))) fG)
 (aD (c9 (aG (aQ (du false) (bG 0 0) (cF (.str "minus")))) (cx (uD maxD (eU 0 (aq (aQ jE (ar 4) (ar 5)) av)))) fG)
 (aD (c9 (aG (aQ (du false) (bG 0 0) (cF (.str "less")))) (cx (uD intOfD (aq (aQ CC (ar 4) (ar 5)) av))) fG)
 (cx (uD intOfD (aq (w_ (aG (aQ (du false) (bG 0 0) (cF (.str "same")))) (aQ (du false) (ar 4) (ar 5)) (rO (aQ Jc (ar 4) (bp 0)) (aQ Jc (ar 5) (bp 0)))) av))))))))))))
def eE:Nat->cU
 |0=>λ_ _=>none
 |n+1=>fm 6 (ni (eE n))
def kC:cE:=
 (aD (aS 4 (bS (bS (bS (bG 1 3) (ar 2)) (bp 1)) (h_ (bp 1))))
 (aD (c9 (aG (aQ CC (bG 4 0) (bp 0))) (aD (aS 5 (aQ cz (bS (bS (bG 0 3) (ar 2)) (bp 0)) (bG 0 2)))
 (aD (aS 6 (bP (yK (aR (bS (bS (bG 1 3) (ar 2)) (bp 0))) (aR (bG 1 2)))))
 (cx (ax (eE 5) (aC 3 (aq (Jk (ib (bD [none] (fM (aR (ar 5))) (bJ 0) bL (bG 0 0))) (aR (ar 6))) (aq OT av))))))) fG)
 (aD (aS 7 (bS (bG 0 0) (bG 4 0)))
 (aD (aS 8 (Jk (ib (bD [none] (fM (aR (bG 7 2))) (bJ 0) bL (bG 0 0))) (aR (bS (bS (bG 1 0) (bG 4 0)) (bp 0)))))
 (aD (NQ (ar 8) (cF (.str "given")) (bG 4 3))
 (aD (aS 9 (bP (bD [none] (fM (aR (bS (bS (bG 1 0) (bG 4 0)) (bp 4)))) (bJ 0) bL (gZ (aR (ar 0))))))
 (aD (aS 10 (Jk (ib (bD [none] (fM (aR (bG 7 3))) (bJ 0) bL (bG 0 0))) (aR (ar 9))))
 (cx (ax (eE 5) (aC 3 (aC 8 (aC 10 av))))))))))))
def cM:cU:=fm 11 kC
def oW:cE:=
 (aD (aS 4 (bS (bS (bS (bS (bG 1 3) (ar 2)) (bp 1)) (h_ (bp 1))) (bp 0)))
 (aD (aS 5 (bS (bG 1 0) (ar 4)))
 (aD (aS 6 (ax df (aq (bS (bS (bG 0 0) (ar 4)) (bp 3)) (fU 3 1 av))))
 (aD (aS 7 (bS (bG 5 4) (ar 6)))
 (c9 (aG (aQ (du false) (bG 3 0) (cF (.str "wait")))) (aD (aS 8 (aQ n0 (ax cM (aC 0 (aC 1 (aC 2 (fU 3 2 av))))) (uD intOfD (aq (aQ (du false) (bS (bS (bS (bS (bG 0 0) (ar 4)) (bp 3)) (ar 6)) (bp 1)) (cF (.str "turns"))) av))))
 (aD (hZ (jg Ft (ar 7) (aq (gZ (ib (bD [none,some 8] (fM (aR (ar 7))) (bJ 0) (aG (aQ OJ (bG 0 0) (ar 1))) (ar 0)))) (aq (bg (aC 8 (aC 2 av))) av))))
 (hZ (ax g_ (aC 5 av))))) (c9 (aG (aQ (du false) (bG 3 0) (cF (.str "all")))) (hZ (jg Kx (ar 7) av)) (c9 (aG (cX (aR (ar 7)))) (aD (aS 9 (jg gS (ar 7) (eU 0 av)))
 (c9 (aG (aQ (du false) (bS (bS (bG 0 0) (ar 4)) (bp 1)) (cF (.str "at once")))) (aD (ko (bG 9 1) (wO (ar 5) (bp 1)))
 (hZ (jg fw (bG 5 3) (aC 2 av)))) fG)) fG)))))))
def kT:cU:=Cw 10 oW
def vY:cE:=
 (c9 (aG (cX (aR (bG 0 1)))) (hZ (jg gS (bG 0 1) (eU 0 av))) (ko (uD minD (eU 9 (aq (aQ cz (bG 0 0) (bp 1)) av))) (wO (ar 0) (bp 0))))
def oS:cU:=Cw 1 vY
def yk:cE:=
 (c9 (aG (aQ Jc (bG 0 0) (bp 0))) (ko (aQ jE (bG 0 0) (bp 1)) (wO (ar 0) (bp 0))) (hZ (jg fw (bG 0 1) (aC 1 av))))
def rB:cU:=Cw 2 yk
def oH:cE:=
 (aD (c9 (aG (aQ (du true) (bG 3 0) (cF (.str "take")))) (hZ (ax oS (aq (bS (bG 1 1) (ax df (fU 0 1 (fU 3 1 av)))) av))) fG)
 (c9 (aG (aQ (du true) (bG 3 0) (cF (.str "give")))) (hZ (ax rB (aq (bS (bG 1 1) (ax df (fU 0 1 (aq (bS (ar 3) (h_ (bp 1))) av)))) (aC 2 av)))) fG))
def jI:cU:=Cw 4 oH
def sr:cE:=
 (aD (aS 4 (bS (bS (bS (bG 1 3) (ar 2)) (bp 1)) (h_ (bp 1))))
 (aD (c9 (aG (aQ (du false) (bG 3 0) (cF (.str "put")))) (hZ (ax jX (aC 0 (aC 1 (aC 2 (fU 3 1 (aq (ax cM (aC 0 (aC 1 (aC 2 (fU 3 2 av))))) av))))))) (c9 (aG (aQ (du false) (bG 3 0) (cF (.str "unless")))) (c9 (aG (aQ (du false) (ax cM (aC 0 (aC 1 (aC 2 (fU 3 1 av))))) (bp 0))) (ko (bG 3 2) (wO (ar 4) (bp 2))) fG) (c9 (aG (aQ (du false) (bG 3 0) (cF (.str "go")))) (ko (bG 3 1) (wO (ar 4) (bp 2))) (c9 (aG (aQ (du false) (bG 3 0) (cF (.str "do")))) (aD (aS 5 (ax cM (aC 0 (aC 1 (aC 2 (fU 3 4 av))))))
 (aD (aS 6 (ax df (fU 0 0 (fU 3 2 av))))
 (aD (hZ (jg fw (bS (bS (bG 1 3) (ar 2)) (bp 1)) (aq (bP (bB (aC 6 (aq (ax df (aq (bS (bS (bG 0 0) (ar 6)) (bp 4)) (fU 3 3 av))) (eU 0 (aC 5 (eU 0 av))))))) av)))
 (hZ (ax hJ (aq (bS (bG 1 0) (ar 6)) (aC 2 av))))))) (c9 (aG (aQ (du false) (bG 3 0) (cF (.str "tell")))) (ko (ax cM (aC 0 (aC 1 (aC 2 (fU 3 1 av))))) (wO (ar 4) (bp 4))) (c9 (aG (BM false (bG 3 0) (aR (bg (i6 "wait" (i6 "call" (i6 "all" av))))))) (hZ (ax kT (aC 0 (aC 1 (aC 2 (aC 3 av)))))) (c9 (aG (aQ (du false) (bG 3 0) (cF (.str "say")))) (cx (bg (aC 2 (aq (ax cM (aC 0 (aC 1 (aC 2 (fU 3 1 av))))) av)))) (hZ (ax jI (aC 0 (aC 1 (aC 2 (aC 3 av)))))))))))))
 (cx (cF .non))))
def j7:cU:=Cw 7 sr
def pV:cE:=
 (aD (aS 3 (bS (bS (bS (bG 1 3) (ar 2)) (bp 1)) (h_ (bp 1))))
 (aD (aS 4 (ax fI (aC 0 (aC 2 (aC 3 av)))))
 (aD (c9 (ip (aG (aQ MX (bG 3 0) (bp 0))) (aG (aQ (du true) (bS (bS (bG 1 0) (bG 3 0)) (bp 1)) (ar 2)))) (hZ (ax hJ (aq (bS (bG 1 0) (bG 3 0)) (aC 2 av)))) (c9 (aG (aQ (du false) (bG 3 2) (gZ (aR (ar 4))))) (hZ (ax nQ (aC 0 (aC 1 (aC 2 av))))) (aD (ko (aQ cz (bG 3 2) (bp 1)) (wO (ar 3) (bp 2)))
 (cx (ax j7 (aC 0 (aC 1 (aC 2 (aq (bS (ar 4) (aQ jE (bG 3 2) (bp 1))) av)))))))))
 (cx (cF .non)))))
def k8:cU:=Cw 5 pV
def m8:cE:=
 (cx (bS (bS (bS (bG 0 3) (ar 1)) (bp 1)) (h_ (bp 1))))
def da:cU:=fm 2 m8
def tV:cE:=
 (aD (Jm 3 4 (fU 2 0 (fU 2 1 av)))
 (aD (c9 (aG (aQ (du false) (ar 3) (cF (.int (-1))))) (cx (bS (bS (bG 0 3) (ar 1)) (bp 1))) fG)
 (cx (bS (bS (bS (bS (bG 0 0) (ar 3)) (bp 4)) (ar 4)) (bp 1)))))
def fV:cU:=fm 5 tV
def sL:cE:=
 (GA (bD [none] (fM (aR (ar 0))) (bJ 0) bL (bG 0 0)))
def eT:cU:=fm 1 sL
def sH:cE:=
 (cx (HP (ib (dX eT (aC 0 av))) (ar 1)))
def dv:cU:=fm 2 sH
def oO:cE:=
 (cx (aQ cz (aQ cz (uw (ar 0) uP (uo (ar 1))) (bg (aC 2 av))) (uw (ar 0) (uo (aQ cz (ar 1) (bp 1))) uP)))
def dI:cU:=fm 3 oO
def pZ:cE:=
 (cx (aQ cz (uw (ar 0) uP (uo (bp 3))) (bg (aq (ax dI (fU 0 3 (aC 1 (aq (bg (aC 2 (aC 3 av))) av)))) av))))
def fR:cU:=fm 4 pZ
def pF:cE:=
 (cx (aQ cz (bg (aq (ax dI (fU 0 0 (aC 1 (aC 2 av)))) av)) (uw (ar 0) (uo (bp 1)) uP)))
def dg:cU:=fm 3 pF
def kL:cE:=
 (aD (aS 5 (bS (ax da (aC 1 (aC 2 av))) (bp 0)))
 (aD (c9 (aG (aQ (du true) (ar 5) (cF (.int (-1))))) (aD (aS 6 (ax dv (aq (bS (bS (bG 0 0) (ar 5)) (bp 2)) (aC 3 av))))
 (aD (aS 7 (ax dI (aq (bS (bS (bG 1 0) (ar 5)) (bp 0)) (aC 6 (aC 4 av)))))
 (cx (ax dg (aC 1 (aC 5 (aq (aQ cz (bg (aC 7 av)) (uw (bS (bG 1 0) (ar 5)) (uo (bp 1)) uP)) av))))))) fG)
 (aD (c9 (aG (BM false (ar 3) (ib (dX eT (fU 0 2 av))))) (aD (aS 8 (ax dI (fU 1 2 (aq (ax dv (fU 0 2 (aC 3 av))) (aC 4 av)))))
 (cx (bg (fU 1 0 (fU 1 1 (aC 8 (fU 1 3 av))))))) fG)
 (aD (ko (bS (bG 1 3) (ar 2)) (lM (nG 2 (aJ (bJ 7) (aJ (bJ 9) dA)))))
 (aD (aS 6 (ax dv (aq (bS (bS (bG 0 3) (ar 2)) (bp 0)) (aC 3 av))))
 (cx (ax fR (aC 1 (aC 2 (aq (ax dI (aC 7 (aC 6 (aC 4 av)))) (aC 9 av)))))))))))
def fP:cU:=fm 10 kL
def jA:cE:=
 (aD (c9 (aG (aQ (du false) (ar 0) (cF (.str "plus")))) (cx (uD minD (aq (aQ cz (ar 1) (ar 2)) (aq (cF (.int (9))) av)))) fG)
 (aD (c9 (aG (aQ (du false) (ar 0) (cF (.str "minus")))) (cx (uD maxD (aq (aQ jE (ar 1) (ar 2)) (eU 0 av)))) fG)
 (aD (c9 (aG (aQ (du false) (ar 0) (cF (.str "less")))) (cx (w_ (aG (aQ CC (ar 1) (ar 2))) (bp 1) (bp 0))) fG)
 (aD (c9 (aG (aQ (du false) (ar 0) (cF (.str "same")))) (cx (w_ (aG (aQ (du false) (ar 1) (ar 2))) (bp 1) (bp 0))) fG)
 (cx (w_ (ip (aG (aQ (du true) (ar 1) (bp 0))) (aG (aQ (du true) (ar 2) (bp 0)))) (bp 1) (bp 0)))))))
def gX:cU:=fm 3 jA
def rE(self:cU):cE:=
 (aD (c9 (ke (pN "int" (ar 0))) (cx (ar 0)) fG)
 (aD (c9 (ke (pN "str" (ar 0))) (cx (Mb (ar 1) (ar 0))) fG)
 (aD (c9 (aG (aQ (du false) (bG 0 0) (cF (.str "waits")))) (cx (w_ (aG (aQ Jc (Mb (ar 2) (bG 0 1)) (bp 0))) (bp 1) (bp 0))) fG)
 (aD (aS 3 (ax self (fU 0 1 (aC 1 (aC 2 av)))))
 (aD (c9 (aG (aQ (du false) (bG 0 0) (cF (.str "not")))) (cx (w_ (aG (aQ (du false) (ar 3) (bp 0))) (bp 1) (bp 0))) fG)
 (cx (ax gX (fU 0 0 (aC 3 (aq (ax self (fU 0 2 (aC 1 (aC 2 av)))) av))))))))))
def gG:Nat->cU
 |0=>λ_ _=>none
 |n+1=>fm 4 (rE (gG n))
def nP:cE:=
 (aD (aS 4 (ax da (aC 1 (aC 2 av))))
 (aD (aS 5 (bG 4 0))
 (aD (c9 (aG (aQ (du false) (ar 5) (cF (.int (-1))))) (aD (aS 6 (Jk (ib (dX eT (fU 0 2 av))) (aR (bG 1 2))))
 (aD (hZ (Ko (ar 6) (Jk (ib (dX eT (aq (bS (bS (bG 0 3) (ar 2)) (bp 0)) av))) (aR (bS (bS (bG 1 3) (ar 2)) (bp 0))))))
 (cx (ax (gG 6) (aC 3 (aC 6 (aq OT av))))))) fG)
 (aD (aS 6 (Jk (ib (dX eT (aq (bS (bS (bG 0 0) (ar 5)) (bp 2)) av))) (aR (bS (bS (bG 1 0) (ar 5)) (bp 0)))))
 (aD (NQ (ar 6) (cF (.str "given")) (bG 4 3))
 (aD (Oa 7 (q0 [none,none] (GK (ib (dX eT (aq (bS (bS (bG 0 0) (ar 5)) (bp 3)) av))) (aR (bS (bS (bG 1 0) (ar 5)) (bp 4)))) (lM (nG 2 (aJ (bJ 0) (aJ (bJ 1) dA)))) bL (ar 0) (gZ (aR (ar 1)))))
 (cx (ax (gG 6) (aC 3 (aC 6 (aC 7 av)))))))))))
def dU:cU:=fm 8 nP
def zv:cE:=
 (cx (ax fP (aC 0 (aC 1 (aC 2 (fU 3 1 (aq (ax dU (aC 0 (aC 1 (aC 2 (fU 3 2 av))))) av)))))))
def uQ:cU:=fm 4 zv
def gN:cE:=
 (aD (ko (bS (bG 0 3) (ar 1)) (lM (nG 2 (aJ (bJ 3) (aJ (bJ 4) dA)))))
 (cx (ax fR (aC 0 (aC 1 (aC 3 (aq (aQ cz (uw (ar 4) uP (uo (h_ (bp 1)))) (bg (aC 2 av))) av)))))))
def dZ:cU:=fm 5 gN
def zd:cE:=
 (aD (aS 3 (ax da (aC 0 (aC 1 av))))
 (cx (ax dZ (aC 0 (aC 1 (aq (aQ cz (aQ cz (uw (ar 3) uP (uo (bp 2))) (bg (aC 2 av))) (uw (ar 3) (uo (bp 3)) uP)) av))))))
def kS:cU:=fm 4 zd
def oM:cE:=
 (aD (c9 (aG (aQ (du false) (ax dU (aC 0 (aC 1 (aC 2 (fU 3 1 av))))) (bp 0))) (cx (ax kS (aC 1 (aC 2 (fU 3 2 av))))) fG)
 (cx (ar 1)))
def lq:cU:=fm 4 oM
def DY:cE:=
 (cx (ax kS (aC 1 (aC 2 (fU 3 1 av)))))
def yL:cU:=fm 4 DY
def vT:cE:=
 (aD (ko (bS (bG 0 0) (ar 1)) (lM (nG 5 (aJ (bJ 3) (aJ (bJ 4) (aJ (bJ 5) (aJ (bJ 6) (aJ (bJ 7) dA))))))))
 (aD (c9 (aG (aQ (du false) (ar 4) (cF (.int (-1))))) (cx (ax dg (aC 0 (aC 1 (aq (bg (aC 3 (aC 2 (aC 5 (aC 6 (aC 7 av)))))) av))))) fG)
 (cx (ax dg (aC 0 (aC 1 (aq (bg (aC 3 (aC 4 (aq (aQ cz (ar 5) (bg (aC 2 av))) (aC 6 (aC 7 av)))))) av)))))))
def nk:cU:=fm 8 vT
def Dg:cE:=
 (aD (aS 4 (ax dv (fU 0 0 (fU 3 2 av))))
 (aD (aS 5 (ax dv (aq (bS (bS (bG 0 0) (ar 4)) (bp 4)) (fU 3 3 av))))
 (aD (aS 6 (bg (aC 4 (aC 5 (eU 0 (aq (ax dU (aC 0 (aC 1 (aC 2 (fU 3 4 av))))) (eU 0 av)))))))
 (aD (ko (bS (bG 1 3) (ar 2)) (lM (nG 2 (aJ (bJ 7) (aJ (bJ 8) dA)))))
 (cx (ax nk (aq (ax fR (aC 1 (aC 2 (aC 7 (aq (aQ cz (ar 8) (bg (aC 6 av))) av))))) (aC 4 (aC 2 av)))))))))
def zI:cU:=fm 9 Dg
def wc:cE:=
 (aD (aS 4 (bS (ax da (aC 1 (aC 2 av))) (bp 0)))
 (cx (bg (aC 4 (aq (ax dv (aq (bS (bS (bG 0 0) (ar 4)) (bp 3)) (aC 3 av))) av)))))
def j3:cU:=fm 5 wc
def pw:cE:=
 (aD (aS 4 (bS (bG 0 0) (ar 1)))
 (cx (ax dg (aC 0 (aC 1 (aq (aQ cz (uw (ar 4) uP (uo (bp 4))) (bg (aq (ax dI (fU 4 4 (aC 2 (aC 3 av)))) av))) av))))))
def fQ:cU:=fm 5 pw
def Dj:cE:=
 (aD (ko (bS (bG 0 0) (ar 1)) (lM (nG 5 (aJ (bJ 2) (aJ (bJ 3) (aJ (bJ 4) (aJ (bJ 5) (aJ (bJ 6) dA))))))))
 (aD (c9 (ke (ar 5)) (cx (ax dg (aC 0 (aC 1 (aq (bg (aC 2 (fU 5 0 (aC 4 (aq (uw (ar 5) (uo (bp 1)) uP) (aC 6 av)))))) av))))) fG)
 (aD (c9 (ke (ar 4)) (cx (ax dg (aC 0 (aC 1 (aq (bg (aC 2 (fU 4 0 (aq (uw (ar 4) (uo (bp 1)) uP) (aC 5 (aC 6 av)))))) av))))) fG)
 (cx (ax dg (aC 0 (aC 1 (aq (bg (aC 2 (aq (cF (.int (-1))) (aC 4 (aC 5 (aC 6 av)))))) av))))))))
def rN:cU:=fm 7 Dj
def wB:cE:=
 (aD (ko (ax j3 (aC 0 (aC 1 (aC 2 (fU 3 1 av))))) (lM (nG 2 (aJ (bJ 4) (aJ (bJ 5) dA)))))
 (aD (aS 6 (bp 0))
 (aD (c9 (aG (aQ (du false) (bS (bS (bS (bS (bG 0 0) (ar 4)) (bp 3)) (ar 5)) (bp 1)) (cF (.str "turns")))) (aS 6 (ax dU (aC 0 (aC 1 (aC 2 (fU 3 2 av)))))) fG)
 (aD (aS 7 (bS (bS (bS (bG 1 0) (ar 4)) (bp 4)) (ar 5)))
 (aD (aS 8 (gZ (ib (bD [none,none,some 6] (fM (aR (ar 7))) (lM (nG 2 (aJ (bJ 0) (aJ (bJ 1) dA)))) (aG (aQ OJ (ar 0) (ar 2))) (ar 0)))))
 (aD (aS 9 (ax fQ (aC 1 (aC 4 (aC 5 (aq (aQ cz (aQ cz (uw (ar 7) uP (uo (ar 8))) (bg (aq (bg (aC 6 (aC 2 av))) av))) (uw (ar 7) (uo (ar 8)) uP)) av))))))
 (cx (ax rN (aC 9 (aC 4 av))))))))))
def qw:cU:=fm 10 wB
def vH:cE:=
 (aD (ko (ax j3 (aC 0 (aC 1 (aC 2 (fU 3 1 av))))) (lM (nG 2 (aJ (bJ 4) (aJ (bJ 5) dA)))))
 (aD (aS 6 (bS (bS (bS (bG 1 0) (ar 4)) (bp 4)) (ar 5)))
 (aD (c9 (xg (ke (ar 6))) (cx (ar 1)) fG)
 (aD (aS 7 (ax fQ (aC 1 (aC 4 (aC 5 (aq (uw (ar 6) (uo (bp 1)) uP) av))))))
 (aD (c9 (aG (aQ (du false) (bS (bS (bG 0 0) (ar 4)) (bp 1)) (cF (.str "when free")))) (cx (ar 7)) fG)
 (aD (ko (bS (bG 7 0) (ar 4)) (lM (nG 5 (aJ (bJ 8) (aJ (bJ 9) (aJ (bJ 10) (aJ (bJ 11) (aJ (bJ 12) dA))))))))
 (cx (ax dg (aC 7 (aC 4 (aq (bg (aC 8 (aq (bS (bG 6 0) (bp 1)) (aC 10 (aq (aQ cz (ar 11) (bg (aC 2 av))) (aC 12 av)))))) av)))))))))))
def qG:cU:=fm 13 vH
def yB:cE:=
 (aD (ko (ax j3 (aC 0 (aC 1 (aC 2 (fU 3 1 av))))) (lM (nG 2 (aJ (bJ 4) (aJ (bJ 5) dA)))))
 (cx (ax fQ (aC 1 (aC 4 (aC 5 (aq (bg av) av)))))))
def uG:cU:=fm 6 yB
def wJ:cE:=
 (aD (aS 4 (ax dU (aC 0 (aC 1 (aC 2 (fU 3 1 av))))))
 (cx (ax dZ (aC 1 (aC 2 (aq (aQ cz (uw (ax da (aC 1 (aC 2 av))) uP (uo (bp 4))) (bg (aC 4 av))) av))))))
def qO:cU:=fm 5 wJ
def vE:cE:=
 (cx (aQ cz (bg (fU 0 0 (aq (ax dI (fU 0 1 (aC 1 (aC 2 av)))) av))) (uw (ar 0) (uo (bp 2)) uP)))
def gK:cU:=fm 3 vE
def IU:cE:=
 (aD (aS 4 (ax dv (fU 0 1 (aC 3 av))))
 (aD (ko (bS (bG 1 1) (ar 4)) (lM (nG 2 (aJ (bJ 5) (aJ (bJ 6) dA)))))
 (aD (c9 (aG (aQ Jc (ar 5) (bp 0))) (cx (ax gK (aC 1 (aC 4 (aq (bg (aq (aQ jE (ar 5) (bp 1)) (aC 6 av))) av))))) fG)
 (cx (ax gK (aC 1 (aC 4 (aq (bg (aC 5 (aq (aQ cz (ar 6) (bg (aC 2 av))) av))) av))))))))
def Ak:cU:=fm 7 IU
def B1:cE:=
 (cx (ax Ak (aC 0 (aC 1 (aC 2 (fU 3 1 av))))))
def wj:cU:=fm 4 B1
def t5:cE:=
 (aD (aS 3 (ax dv (fU 0 1 (aC 2 av))))
 (aD (ko (bS (bG 1 1) (ar 3)) (lM (nG 2 (aJ (bJ 4) (aJ (bJ 5) dA)))))
 (aD (c9 (ke (ar 5)) (cx (ax gK (aC 1 (aC 3 (aq (bg (aC 4 (aq (uw (ar 5) (uo (bp 1)) uP) av))) av))))) fG)
 (cx (ax gK (aC 1 (aC 3 (aq (bg (aq (uD minD (aq (aQ cz (ar 4) (bp 1)) (aq (cF (.int (9))) av))) (aC 5 av))) av))))))))
def jr:cU:=fm 6 t5
def Bk:cE:=
 (cx (ax jr (aC 0 (aC 1 (fU 3 1 av)))))
def vL:cU:=fm 4 Bk
def Cs:cE:=
 (cx (ax Ak (aC 0 (aq (ax jr (aC 0 (aC 1 (fU 3 1 av)))) (aC 2 (fU 3 2 av))))))
def vR:cU:=fm 4 Cs
def y7:cE:=
 (cx (ar 1))
def uE:cU:=fm 4 y7
def nB:List (Str×Str):= [("put","by_put"),("unless","by_unless"),("go","by_go"),("do","by_do"),("wait","by_wait"),("call","by_call"),("all","by_all"),("tell","by_tell"),("take","by_take"),("give","by_give"),("pass","by_pass"),("say","by_say")]
def v7:List (Str×cU):= [("by_put",uQ),("by_unless",lq),("by_go",yL),("by_do",zI),("by_wait",qw),("by_call",qG),("by_all",uG),("by_tell",qO),("by_take",wj),("by_give",vL),("by_pass",vR),("by_say",uE)]
def ya:cE:=
 (aD (aS 4 (OF nB (bG 3 0)))
 (cx (vn 4 v7 (aC 0 (aC 1 (aC 2 (aC 3 av)))))))
def kf:cU:=fm 5 ya
def sh:cE:=
 (aD (ko (bS (bG 1 3) (ar 2)) (lM (nG 2 (aJ (bJ 3) (aJ (bJ 4) dA)))))
 (aD (ko (bS (ar 4) (h_ (bp 1))) (lM (nG 5 (aJ (bJ 5) (aJ (bJ 6) (aJ (bJ 7) (aJ (bJ 8) (aJ (bJ 9) dA))))))))
 (aD (aS 10 (ax fR (aq (ax rN (aC 1 (aC 5 av))) (aC 2 (aC 3 (aq (uw (ar 4) uP (uo (h_ (bp 1)))) av))))))
 (aD (aS 11 (bS (ax fV (aC 0 (aC 2 (aq (bS (ar 4) (h_ (bp 2))) av)))) (aQ jE (bS (bS (ar 4) (h_ (bp 2))) (bp 2)) (bp 1))))
 (aD (c9 (aG (aQ (Be false) (bG 11 1) (cF .non))) (cx (ar 10)) fG)
 (cx (ax fP (aC 0 (aC 10 (aC 2 (fU 11 1 (aC 9 av))))))))))))
def jN:cU:=fm 12 sh
def mP:cE:=
 (aD (aS 3 (ax da (aC 1 (aC 2 av))))
 (aD (aS 4 (bG 3 0))
 (aD (c9 (ip (aG (aQ (du true) (ar 4) (cF (.int (-1))))) (aG (aQ (du true) (bS (bS (bG 1 0) (ar 4)) (bp 1)) (ar 2)))) (cx (bg (aq (ax nk (aC 1 (aC 4 (aC 2 av)))) (aq (cF .non) av)))) fG)
 (aD (aS 5 (ax fV (aC 0 (aC 2 (aC 3 av)))))
 (aD (c9 (aG (aQ (du false) (bG 3 2) (gZ (aR (ar 5))))) (cx (bg (aq (ax jN (aC 0 (aC 1 (aC 2 av)))) (aq (cF .non) av)))) fG)
 (aD (aS 6 (bS (ar 5) (bG 3 2)))
 (aD (aS 7 (cF .non))
 (aD (c9 (aG (aQ (du false) (bG 6 0) (cF (.str "say")))) (aS 7 (bg (aC 2 (aq (ax dU (aC 0 (aC 1 (aC 2 (fU 6 1 av))))) av)))) fG)
 (cx (bg (aq (ax kf (aC 0 (aq (ax kS (aC 1 (aC 2 (aq (aQ cz (bG 3 2) (bp 1)) av)))) (aC 2 (aC 6 av))))) (aC 7 av))))))))))))
def qF:cU:=fm 8 mP
def rF:cE:=
 (GA (bD [none,none] (fM (aR (ar 0))) (lM (nG 2 (aJ (bJ 0) (aJ (bJ 1) dA)))) bL (ar 1)))
def nT:cU:=fm 1 rF
def iZ:cE:=
 (aD (aS 1 (bP (bB av)))
 (aD (jh (fM (aR (bG 0 1))) (lM (nG 2 (aJ (bJ 2) (aJ (bJ 3) dA)))) (hZ (xY (ar 1) (aR (ar 3)))))
 (aD (jh (fM (aR (bG 0 0))) (lM (nG 5 (aJ (bJ 4) (aJ (bJ 5) (aJ (bJ 3) (aJ (bJ 6) (aJ (bJ 7) dA))))))) (aD (hZ (xY (ar 1) (aR (aQ cz (ar 3) (ar 6)))))
 (jh (fM (aR (ar 7))) (bJ 8) (hZ (y2 (ar 1) (ib (dX nT (aC 8 av))))))))
 (cx (ar 1)))))
def fo:cU:=fm 9 iZ
def jb:cE:=
 (aD (aS 3 (ax da (aC 1 (aC 2 av))))
 (cx (rO (aQ (du false) (bG 3 0) (cF (.int (-1)))) (aQ (du false) (bG 3 2) (gZ (aR (ax fV (aC 0 (aC 2 (aC 3 av))))))))))
def gc:cU:=fm 4 jb
def rJ:cE:=
 (aD (aS 2 (bP (dX fo (aC 1 av))))
 (GA (bD [none,some 0,some 1,some 2] (vP (gZ (aR (bG 1 3)))) (bJ 0) (ip (aG (BM true (ar 0) (aR (ar 3)))) (xg (ke (ax gc (aC 1 (aC 2 (aC 0 av))))))) (ar 0))))
def nE:cU:=fm 3 rJ
def vy:cE:=
 (aD (c9 (aG (BM true (ar 2) (ib (dX nE (aC 0 (aC 1 av)))))) never fG)
 (cx (ax qF (aC 0 (aC 1 (aC 2 av))))))
def qU:cU:=fm 3 vy
def gP(self:cU):cE:=
 (aD (c9 (ke (pN "tuple" (ar 1))) (aD (c9 (Lz (xg (ke (pN "tuple" (ar 0)))) (aG (aQ (du true) (gZ (aR (ar 0))) (gZ (aR (ar 1)))))) (cx (cF (.bl false))) fG)
 (cx (J4 (ib (bD [none,none] (GK (aR (ar 0)) (aR (ar 1))) (lM (nG 2 (aJ (bJ 0) (aJ (bJ 1) dA)))) bL (ax self (aC 0 (aC 1 av)))))))) fG)
 (aD (c9 (Lz (ke (pN "str" (ar 1))) (aG (aQ (Be false) (ar 1) (cF .non)))) (cx (rO (aQ (du false) (pN "str" (ar 0)) (pN "str" (ar 1))) (aQ (du false) (ar 0) (ar 1)))) fG)
 (cx (rO (pN "int" (ar 0)) (rO (Kk (pN "bool" (ar 0))) (aQ (du false) (ar 0) (ar 1)))))))
def gM:Nat->cU
 |0=>λ_ _=>none
 |n+1=>fm 2 (gP (gM n))
def kW:cE:=
 (aD (aS 1 (bP (bB av)))
 (aD (jh (fM (aR (bG 0 0))) (HG (nG 5 (aJ (bJ 2) (aJ (bJ 3) (aJ (bJ 4) (aJ (bJ 5) (aJ (bJ 6) dA))))))) (hZ (jg fw (ar 1) (aq (bg (aq (tupQ (cN (aR (ar 2)))) (aC 3 (aq (tupQ (cN (aR (ar 4)))) (aq (tupQ (cN (aR (ar 5)))) (aq (tupQ (ib (bD [none] (fM (aR (ar 6))) (bJ 0) bL (tupQ (cN (aR (ar 0))))))) av)))))) av))))
 (aD (aS 7 (bP (bB av)))
 (aD (jh (fM (aR (bG 0 3))) (HG (nG 2 (aJ (bJ 2) (aJ (bJ 8) dA)))) (hZ (jg fw (ar 7) (aq (bg (aq (tupQ (cN (aR (ar 2)))) (aq (tupQ (ib (bD [none] (fM (aR (ar 8))) (bJ 0) bL (tupQ (cN (aR (ar 0))))))) av))) av))))
 (cx (bg (aq (tupQ (cN (aR (ar 1)))) (aq (tupQ (ib (bD [none,none] (fM (aR (bG 0 1))) (HG (nG 2 (aJ (bJ 0) (aJ (bJ 1) dA)))) bL (bg (aC 0 (aq (tupQ (cN (aR (ar 1)))) av)))))) (aq (tupQ (cN (aR (bG 0 2)))) (aq (tupQ (cN (aR (ar 7)))) av))))))))))
def iH:cU:=fm 9 kW
def o_:cE:=
 (aD (aS 3 (bP (dX jw (aC 1 av))))
 (aD (aS 4 (ax zP (aC 1 av)))
 (aD (aS 5 (h_ (bp 1)))
 (aD (jh (vP (ar 2)) (bJ 6) (aD (aS 7 (bP (dX nL (aC 1 (aC 3 av)))))
 (c9 (aG (cX (aR (ar 7)))) (aD (aS 5 (ax kP (aC 0 (aC 7 (aC 5 av)))))
 (aD (aS 8 (ax k8 (aC 1 (aC 3 (aC 5 av)))))
 (aD (aS 9 (ax qU (aC 1 (aC 4 (aC 5 av)))))
 (aD (c9 (xg (ke (ax (gM 10) (aC 9 (aq (bg (aq (ax iH (aC 3 av)) (aC 8 av))) av))))) (cx (cF (.bl false))) fG)
 (aS 4 (bG 9 0)))))) fG)))
 (cx (cF (.bl true)))))))
def kM:cU:=fm 10 o_
def q_:cE:=
 (aD (aS 5 (bP (bB av)))
 (aD (jh (vP (aQ cz (bp 1) (ax aH (aC 0 (aC 4 av))))) (bJ 6) (aD (aS 7 (ax aH (aC 0 (eU 10 av))))
 (c9 (ip (aG (aQ CC (ar 7) (bp 5))) (aG (cX (aR (ar 1))))) (hZ (jg fw (ar 5) (aq (ax mD (aC 0 (aC 1 (aC 2 (aC 2 av))))) av))) (c9 (ip (aG (aQ (du false) (ar 7) (bp 5))) (aG (cX (aR (ar 3))))) (hZ (jg fw (ar 5) (aq (bg (aq (bS (bP (bB (i6 "take" (i6 "give" av)))) (ax aH (aC 0 (eU 2 av)))) (aq (ax bN (aC 0 (aC 3 av))) av))) av))) (c9 (ip (aG (aQ (du false) (ar 7) (bp 6))) (aG (cX (aR (ar 3))))) (hZ (jg fw (ar 5) (aq (bg (i6 "pass" (aq (ax bN (aC 0 (aC 3 av))) (aq (ax bN (aC 0 (aC 3 av))) av)))) av))) (c9 (ip (aG (aQ (du false) (ar 7) (bp 7))) (aG (cX (aR (ar 2))))) (hZ (jg fw (ar 5) (aq (bg (i6 "put" (aq (ax bN (aC 0 (aC 2 av))) (aq (ax (bC 4) (aC 0 (aC 2 (aq (bP (bB av)) (eU 2 av))))) av)))) av))) (c9 (aG (aQ (du false) (ar 7) (bp 8))) (aD (hZ (jg fw (ar 5) (aq (bg (i6 "unless" (aq (ax (bC 4) (aC 0 (aC 2 (aq (bP (bB av)) (eU 2 av))))) (aq (aQ cz (gZ (aR (ar 5))) (bp 2)) av)))) av)))
 (hZ (jg fw (ar 5) (aq (bg (i6 "say" (aq (ax (bC 4) (aC 0 (aC 2 (aq (bP (bB av)) (eU 1 av))))) av))) av)))) (hZ (jg fw (ar 5) (aq (bg (i6 "say" (aq (ax (bC 4) (aC 0 (aC 2 (aq (bP (bB av)) (eU 1 av))))) av))) av))))))))))
 (aD (c9 (aG (aQ (du false) (ax aH (aC 0 (eU 5 av))) (bp 0))) (hZ (jg fw (ar 5) (aq (bg (i6 "go" (aq (ax aH (aC 0 (aq (aQ cz (gZ (aR (ar 5))) (bp 2)) av))) av))) av))) fG)
 (cx (tupQ (cN (aR (ar 5))))))))
def nV:cU:=fm 8 q_
def mN:cE:=
 (aD (aS 4 (bP (bB av)))
 (aD (jh (fM (aR (ar 1))) (bJ 5) (hZ (y2 (ar 4) (ib (bD [none,some 5] (fM (aR (bG 5 4))) (bJ 0) bL (bg (fU 1 0 (fU 0 0 av))))))))
 (aD (aS 6 (bP (dX c8 (aC 0 (i6 "p" (aq (ax aH (aC 0 (aq (aQ cz (ar 3) (bp 1)) av))) av))))))
 (aD (aS 7 (bP (dX c8 (aC 0 (i6 "o" (aq (bS (bP (bB (eU 0 (eU 0 (eU 1 (eU 2 av)))))) (ax aH (aC 0 (eU 4 av)))) av))))))
 (aD (aS 8 (bP (bB av)))
 (aD (jh (vP (ar 2)) (bJ 9) (aD (aS 10 (bP (dX c8 (aC 0 (i6 "" (aq (bS (bP (bB (eU 0 (eU 1 (eU 1 (eU 2 av)))))) (ax aH (aC 0 (eU 4 av)))) av))))))
 (aD (aS 11 (ax nV (aC 0 (aC 4 (aq (bP (yK (aR (ar 10)) (aR (ar 7)))) (aC 6 (eU 4 av)))))))
 (hZ (jg fw (ar 8) (aq (bg (aq (tupQ (ib (bD [none,some 0] (fM (aR (ar 10))) (bJ 0) bL (bg (aC 0 (aq (ax aH (aC 1 (eU 3 av))) av)))))) (aC 11 av))) av))))))
 (aD (aS 12 (tupQ (ib (bD [none,some 0] (fM (aR (ar 6))) (bJ 0) bL (bg (aC 0 (aq (ax aH (aC 1 (eU 3 av))) av)))))))
 (cx (bg (aC 1 (aC 12 (aq (tupQ (ib (bD [none,some 0] (fM (aR (ar 7))) (bJ 0) bL (bg (aC 0 (aq (ax aH (aC 1 (eU 3 av))) av)))))) (aq (tupQ (cN (aR (ar 8)))) av)))))))))))))
def jj:cU:=fm 13 mN
def Mj:cE:=
 (aD (jh (vP (uD maxD (eU 1 (aq (uD minD (aq (gZ (aR (ar 0))) (eU 4 av))) av)))) (bJ 1) (aD (aS 2 (bP (dX nK (aC 0 (aC 1 av)))))
 (aD (aS 3 (ax jm (aC 2 (aq (aQ cz (bp 1) (ax aH (aC 2 (eU 2 av)))) (aq (bP (bB (i6 "at once" av))) (eU 3 av))))))
 (c9 (xg (ke (ax kM (aC 2 (aq (ax jj (aC 2 (aC 3 (aq (aQ cz (bp 2) (ax aH (aC 2 (eU 3 av)))) (eU 0 av))))) (eU 50 av)))))) (cx (cF (.bl false))) fG))))
 (cx (cF (.bl true))))
def JC:cU:=fm 4 Mj
def top(i:Nat):Stmt:=PySem.Challenge.pw_calledroom_k23_called_at_once.main.body.getD i (.Pass ⟨0,0,0,0⟩)
abbrev pO:Stmt:=top 56
abbrev mW:Stmt:=top 57
abbrev kZ:Stmt:=top 59
abbrev mq:Stmt:=top 58
abbrev pD:Stmt:=top 60
abbrev lE:Stmt:=top 61
abbrev sC:Stmt:=top 62
abbrev nu:Stmt:=top 63
abbrev mM:Stmt:=top 64
abbrev kH:Stmt:=top 65
abbrev kX:Stmt:=top 72
abbrev mQ:Stmt:=top 10
abbrev lj:Stmt:=top 12
abbrev yT:Stmt:=top 11
abbrev ig:Stmt:=top 75
abbrev pq:Stmt:=top 76
abbrev mh:Stmt:=top 68
abbrev ja:Stmt:=top 74
abbrev k0:Stmt:=top 79
abbrev k_:Stmt:=top 80
abbrev mV:Stmt:=top 71
abbrev pe:Stmt:=top 78
abbrev pX:Stmt:=top 81
abbrev kI:Stmt:=top 70
abbrev jH:Stmt:=top 77
abbrev mj:Stmt:=top 82
abbrev mw:Stmt:=top 83
abbrev oK:Stmt:=top 84
abbrev iT:Stmt:=top 85
abbrev pj:Stmt:=top 86
abbrev m5:Stmt:=top 87
abbrev kq:Stmt:=top 13
abbrev lB:Stmt:=top 14
abbrev pT:Stmt:=top 23
abbrev pM:Stmt:=top 25
abbrev mY:Stmt:=top 15
abbrev lU:Stmt:=top 18
abbrev mv:Stmt:=top 16
abbrev lV:Stmt:=top 27
abbrev iX:Stmt:=top 6
abbrev oJ:Stmt:=top 5
abbrev pA:Stmt:=top 26
abbrev vF:Stmt:=top 31
abbrev gq:Stmt:=top 19
abbrev wG:Stmt:=top 20
abbrev m6:Stmt:=top 32
abbrev zM:Stmt:=top 33
abbrev r8:Stmt:=top 28
abbrev yQ:Stmt:=top 34
abbrev sf:Stmt:=top 35
abbrev mK:Stmt:=top 36
abbrev Au:Stmt:=top 29
abbrev rR:Stmt:=top 37
abbrev sN:Stmt:=top 38
abbrev vW:Stmt:=top 39
abbrev qX:Stmt:=top 40
abbrev lY:Stmt:=top 17
abbrev zq:Stmt:=top 42
abbrev sx:Stmt:=top 41
abbrev lA:Stmt:=top 44
abbrev sA:Stmt:=top 43
abbrev sJ:Stmt:=top 45
abbrev wx:Stmt:=top 46
abbrev oX:Stmt:=top 48
abbrev pK:Stmt:=top 30
abbrev rS:Stmt:=top 54
abbrev pL:Stmt:=top 21
abbrev ik:Stmt:=top 51
abbrev iu:Stmt:=top 52
abbrev pk:Stmt:=top 50
abbrev rq:Stmt:=top 53
abbrev mT:Stmt:=top 69
abbrev jJ:Stmt:=top 73
abbrev nh:Stmt:=top 88
abbrev pI:Stmt:=top 66
abbrev kD:Stmt:=top 67
abbrev qN:Stmt:=top 89
end W28
namespace W28
open PySem PySem.Spec L2 DL PyProof.Rows
abbrev MC:List Str:= ["_law_bell"]
abbrev M6:List Str:= ["_law_deed_here","_law_room_here"]
abbrev CJ:List Str:= ["_law_found","_law_due"]
abbrev Ji:List Str:= ["_law_now","_law_own_here"]
abbrev EB:List Str:= ["_law_now"]
abbrev EF:List Str:= ["_law_pair"]
abbrev Ep:List Str:= ["_law_pot_here","_law_goals","_law_things","_law_words_here"]
abbrev El:List Str:= ["_law_pot_here","_law_goals","_law_words_here","_law_passes","_law_most"]
abbrev D_:List Str:= ["_law_pot_here","_law_many","_law_manners","_law_bells_most"]
abbrev EG:List Str:= ["_law_pot_here","_law_many"]
abbrev EC:List Str:= ["_law_pot_here","_law_name","_law_goals","_law_manners","_law_bells_most"]
abbrev Es:List Str:= ["_law_pot_here","_law_room_here","_law_goals","_law_most"]
abbrev Fb:List Str:= ["_law_pot_here","_law_rooms_here","_law_hands","_law_passes_most"]
abbrev Cm:List Str:= ["_law_pot_here","_law_some","_law_last"]
abbrev BJ:List Str:= ["_law_pot_here","_law_some"]
abbrev Ei:List Str:= ["_law_pot_here","_law_stem","_law_many"]
abbrev Ec:List Str:= ["_law_pot_here","_law_words_here","_law_bells","_law_at"]
abbrev xF:List Str:= ["_law_pot_here","_law_words_here","_law_bells","_law_deep"]
abbrev EK:List Str:= ["_law_pot_here","_law_world_here","_law_many"]
abbrev BC:List Str:= ["_law_room_here","_law_own_here"]
abbrev Cp:List Str:= ["_law_room_here"]
abbrev Cn:List Str:= ["_law_rows","_law_word"]
abbrev Eo:List Str:= ["_law_script","_law_k"]
abbrev Hg:List Str:= ["_law_script"]
abbrev Ce:List Str:= ["_law_told","_law_own_here"]
abbrev xC:List Str:= ["_law_told","_law_things","_law_waiting"]
abbrev AN:List Str:= ["_law_told"]
abbrev GW:List Str:= ["_law_word","_law_pot_here"]
abbrev ES:List Str:= ["_law_word","_law_value_here"]
abbrev kc:List Str:= ["_law_world_here","_law_now","_law_own_here","_law_row_here"]
abbrev E9:List Str:= ["_law_world_here","_law_now","_law_own_here","_law_told"]
abbrev Ey:List Str:= ["_law_world_here","_law_now","_law_own_here","_law_word","_law_value_here"]
abbrev ua:List Str:= ["_law_world_here","_law_now","_law_own_here"]
abbrev Eg:List Str:= ["_law_world_here","_law_now"]
abbrev AL:List Str:= ["_law_world_here","_law_own_here","_law_frame"]
abbrev EN:List Str:= ["_law_world_here"]
abbrev B0:List Str:= ["form","first","second"]
abbrev BG:List Str:= ["line"]
abbrev Bu:List Str:= ["parts","at","part"]
abbrev Bf:List Str:= ["roll","name"]
abbrev Ct:List Str:= ["roll"]
abbrev AM:List Str:= ["room"]
abbrev B4:List Str:= ["scene","at","room"]
abbrev Ax:List Str:= ["scene","at","turnstile"]
abbrev EU:List Str:= ["scene","hand","frame"]
abbrev EJ:List Str:= ["scene","hand","row"]
abbrev AR:List Str:= ["scene","hand","values","frames"]
abbrev AK:List Str:= ["scene","hand"]
abbrev Ed:List Str:= ["scene","room","bell","line"]
abbrev E7:List Str:= ["scene","room","hand"]
abbrev zw:List Str:= ["scene","room"]
abbrev zo:List Str:= ["scene"]
abbrev vS:List Str:= ["things"]
abbrev rM:List Str:= ["tree","things","waiting"]
abbrev yU:List Str:= ["world","hand","frame"]
abbrev zZ:List Str:= ["world","scene","hand","name"]
abbrev bo:List Str:= ["world","scene","hand","row"]
abbrev yZ:List Str:= ["world","scene","hand","tree"]
abbrev Ab:List Str:= ["world","scene","hand","word","value"]
abbrev zE:List Str:= ["world","scene","hand","word"]
abbrev fc:List Str:= ["world","scene","hand"]
abbrev zW:List Str:= ["world","scene","name"]
abbrev zY:List Str:= ["world","scene"]
abbrev An:List Str:= ["world"]
section
variable(P:Program)(w:World)(K:PySem.W.Frag)(mg:Str->Option Value)(base:Heap)
abbrev DW:Prop:=eA P w K mg base 1 "_law_pot" Eo nK
abbrev cO:Prop:=eA P w K mg base 1 "_law_take" EG aH
abbrev kE:Prop:=eA P w K mg base 2 "_law_words" Ei c8
abbrev e_:Prop:=eA P w K mg base 2 "_law_pick" BJ bN
abbrev kU:Prop:=eA P w K mg base 7 "_law_sum" xF (bC 4)
abbrev As:Prop:=eA P w K mg base 8 "_law_waits" Ec jt
abbrev x8:Prop:=eA P w K mg base 8 "_law_do" Ep mD
abbrev B5:Prop:=eA P w K mg base 9 "_law_deed" Es kB
abbrev Bq:Prop:=eA P w K mg base 10 "_law_room" EC ku
abbrev zg:Prop:=eA P w K mg base 11 "_law_rooms" D_ jm
abbrev yP:Prop:=eA P w K mg base 1 "_law_first" EN jw
abbrev sX:Prop:=eA P w K mg base 1 "values_of" vS gQ
abbrev yJ:Prop:=eA P w K mg base 2 "begun_room" AM jl
abbrev JO:Prop:=eA P w K mg base 3 "begun" An zP
abbrev ur:Prop:=eA P w K mg base 1 "_law_is_bound" Ji gk
abbrev C3:Prop:=eA P w K mg base 2 "_law_may" Eg nL
abbrev BP:Prop:=eA P w K mg base 3 "_law_next" Cm kP
abbrev mH:Prop:=eA P w K mg base 1 "_law_program" AL fI
abbrev qu:Prop:=eA P w K mg base 1 "_law_enter" BC hJ
abbrev qc:Prop:=eA P w K mg base 1 "_law_leave" Cp g_
abbrev jk:Prop:=eA P w K mg base 1 "_law_spot" Cn df
abbrev uZ:Prop:=eA P w K mg base 2 "_law_set" Ey jX
abbrev DG:Prop:=eA P w K mg base 3 "_law_end" ua nQ
abbrev yM:Prop:=eA P w K mg base 6 "_law_value" xC (eE 5)
abbrev oD:Prop:=eA P w K mg base 7 "_law_reckon" E9 cM
abbrev BV:Prop:=eA P w K mg base 8 "_law_ring" kc kT
abbrev Bm:Prop:=eA P w K mg base 1 "_law_give" AN oS
abbrev DN:Prop:=eA P w K mg base 1 "_law_get" Ce rB
abbrev vK:Prop:=eA P w K mg base 2 "_law_counted" kc jI
abbrev CM:Prop:=eA P w K mg base 9 "_law_row" kc j7
abbrev Az:Prop:=eA P w K mg base 10 "_law_step" ua k8
abbrev eN:Prop:=eA P w K mg base 1 "last_frame" AK da
abbrev kK:Prop:=eA P w K mg base 1 "program_of" yU fV
abbrev pH:Prop:=eA P w K mg base 1 "names_of" Ct eT
abbrev i3:Prop:=eA P w K mg base 2 "place_of" Bf dv
abbrev gY:Prop:=eA P w K mg base 1 "with_part" Bu dI
abbrev jx:Prop:=eA P w K mg base 2 "with_hand" AR fR
abbrev g9:Prop:=eA P w K mg base 2 "with_room" B4 dg
abbrev tN:Prop:=eA P w K mg base 3 "put_thing" Ab fP
abbrev u4:Prop:=eA P w K mg base 1 "value_of_two" B0 gX
abbrev CI:Prop:=eA P w K mg base 8 "value_of" rM (gG 6)
abbrev gI:Prop:=eA P w K mg base 9 "reckoned" yZ dU
abbrev jz:Prop:=eA P w K mg base 3 "with_last_frame" EU dZ
abbrev vt:Prop:=eA P w K mg base 4 "at_row" EJ kS
abbrev xN:Prop:=eA P w K mg base 3 "come_in" E7 nk
abbrev qZ:Prop:=eA P w K mg base 3 "bell_of" zE j3
abbrev mm:Prop:=eA P w K mg base 3 "with_line" Ed fQ
abbrev EL:Prop:=eA P w K mg base 3 "leave" zw rN
abbrev tJ:Prop:=eA P w K mg base 2 "with_pass" Ax gK
abbrev D5:Prop:=eA P w K mg base 3 "taken" zZ Ak
abbrev qV:Prop:=eA P w K mg base 3 "given_back" zW jr
abbrev CV:Prop:=eA P w K mg base 11 "row_done" bo kf
abbrev CW:Prop:=eA P w K mg base 4 "end_deed" fc jN
abbrev F6:Prop:=eA P w K mg base 12 "step_of" fc qF
abbrev C9:Prop:=eA P w K mg base 1 "hands_at" BG nT
abbrev uf:Prop:=eA P w K mg base 2 "hands_in_rows" zo fo
abbrev uv:Prop:=eA P w K mg base 2 "is_behind_all" fc gc
abbrev C4:Prop:=eA P w K mg base 3 "may_step" zY nE
abbrev Fm:Prop:=eA P w K mg base 13 "stepped" fc qU
abbrev Cf:Prop:=eA P w K mg base 11 "_law_same" CJ (gM 10)
abbrev xm:Prop:=eA P w K mg base 1 "_law_frozen" EB iH
abbrev B7:Prop:=eA P w K mg base 14 "_law_walk" EK kM
abbrev DF:Prop:=eA P w K mg base 9 "_law_own" El nV
abbrev Aj:Prop:=eA P w K mg base 10 "_law_world" Fb jj
end
def Pj{X:Cx}{a:Expr}{pos:Pos}{f:fu}{p:Pos}(d:Gl X "len")(b:X.mg "len"=none)(c:PE X a (tQ (md X) f))(hs:starEach [a] X.env= [(false,eval a X.env)]):PE X (.Call (.Name "len" p) [a] [] pos) (tD (md X) (gZ f)):=KF d b c hs
def bF{X:Cx}{pos:Pos}{N:List Str}{js:List (Option Nat)}{a:Scope}{c:List (Str×Addr)}{tg b d:Expr}{e:List Expr}{i:yh}{g:nR}{t:jL}{f:bH}(S:aL X N js a c)(j:X.calm=true)(hi:PI X tg b (tI (md X) i))(h:∀C s H fp,PG (aP X N a c C s H fp) tg (tG (md (aP X N a c C s H fp)) g))(ht:∀C s H fp,oT (aP X N a c C s H fp) e (tB (md (aP X N a c C s H fp)) t))(he:∀C s H fp,PE (aP X N a c C s H fp) d (tD (md (aP X N a c C s H fp)) f))(hs:∀x,foldedSetIterable b X.env x=pure x:=by intro _;rfl):PE X (.ListComp d [⟨tg,b,e,0⟩] a pos) (tL (md X) (bD js i g t f)):=GZ S j hi h ht he hs
def zc{X:Cx}{pos:Pos}{N:List Str}{js:List (Option Nat)}{a:Scope}{e:List (Str×Addr)}{tg b h c:Expr}{j:List Expr}{i:yh}{g:nR}{t:jL}{f:bH}{n:Nat}{d:Pos}(S:aL X N js a e)(p:X.calm=true)(hi:PI X tg b (tI (md X) i))(o:∀C s H fp,PG (aP X N a e C s H fp) tg (tG (md (aP X N a e C s H fp)) g))(ht:∀C s H fp,oT (aP X N a e C s H fp) j (tB (md (aP X N a e C s H fp)) t))(he:∀C s H fp,PE (aP X N a e C s H fp) h (tD (md (aP X N a e C s H fp)) f))(l:PG X c (qm n))(hs:∀x,foldedSetIterable b X.env x=pure x:=by intro _;rfl)(k:swapsWithSole [c] (.ListComp h [⟨tg,b,j,0⟩] a pos) d.line X.env=pure true:=by rfl)(m:(assignEach [c] X.env).map (·.2)= [assign c X.env]:=by rfl):PS X (.Assign [c] (.ListComp h [⟨tg,b,j,0⟩] a pos) d) (tS (md X) (aS n (bP (bD js i g t f)))):=Lh S p hi o ht he l hs k m
def Ii{X:Cx}{pos:Pos}{N:List Str}{js:List (Option Nat)}{a:Scope}{d:List (Str×Addr)}{tg b k h c:Expr}{f:List Expr}{i:yh}{g:nR}{t:jL}{o m:bH}{n:Nat}{e:Pos}(S:aL X N js a d)(v:X.calm=true)(hi:PI X tg b (tI (md X) i))(u:∀C s H fp,PG (aP X N a d C s H fp) tg (tG (md (aP X N a d C s H fp)) g))(ht:∀C s H fp,oT (aP X N a d C s H fp) f (tB (md (aP X N a d C s H fp)) t))(q:∀C s H fp,PE (aP X N a d C s H fp) k (tD (md (aP X N a d C s H fp)) o))(r:∀C s H fp,PE (aP X N a d C s H fp) h (tD (md (aP X N a d C s H fp)) m))(l:PG X c (qm n))(hs:∀x,foldedSetIterable b X.env x=pure x:=by intro _;rfl)(j:swapsWithSole [c] (.DictComp k h [⟨tg,b,f,0⟩] a pos) e.line X.env=pure true:=by rfl)(p:(assignEach [c] X.env).map (·.2)= [assign c X.env]:=by rfl):PS X (.Assign [c] (.DictComp k h [⟨tg,b,f,0⟩] a pos) e) (tS (md X) (Oa n (q0 js i g t o m))):=Jl S v hi u ht q r l hs j p
local macro_rules|`(tactic|ac_rfl)=>do
 let g (l:List (String×Nat)):Lean.MacroM (Array (Lean.TSyntax `Lean.Parser.Tactic.tacticSeq)):=l.toArray.mapM λ(s,k)=>do
  let ws:=((s.splitOn " ").map λn=>Lean.mkIdent n.toName).toArray
  let h←`(?_)
  let e:=Lean.Syntax.mkApp ⟨ws[0]!.raw⟩ ((ws.toList.tail!.map λw=>⟨w.raw⟩).toArray++Array.replicate k h)
  `(tacticSeq|refine $e)
 let a←g [("Pf",5),("v_",5),("cT",3),("mf",0),("qe",3),("i_",0),("lu",2),("N7",1),("OB",3),("EM",1),("PL",5),("PU",3),("Oe",1),("MO",0),("On",0),("I0",1),("QH",2),("KH",1),("Hj",2),("IB",1),("NP Nm MU",3),("Qw",1),("PX",0),("QO",5),("Os",0),("Qe",4),("Ip",6),("Pj",4),("QQ",1),("OQ",3),("PY",1),("Pb",0),("M4",6),("Qr",3),("Kj",2),("JQ",5),("QY",1),("QU Nm MU",3),("NP Qn QJ",3),("QS",2),("Qx",0),("NP Qk QA",3),("Qp",2),("PN",1),("P0",4),("Qq",2),("QB",2),("Qb",4),("Q_",0),("Qi",1),("QE",2),("Q8",3),("QP",3),("MI",10),("NP Qa Qs",3),("J8",6),("QF",7),("Q3",5),("OY",4),("Qo",2),("HS",6),("QU Qa Qs",3),("P4",2),("QU Qn QJ",3),("OU",6),("NP QT QD",3),("P6",0),("PZ",5),("NP Qc P_",3),("Qg",6),("NP PV Po",3),("ML",6),("OW",3),("QU QT QD",3),("Pp",4),("N_",4),("QV",2),("Qz",5),("Q7",3),("OZ",3),("NP OA OG",3),("NC",9),("Oz",3),("ND",6),("OI",0),("Qy",5),("Qv",1),("xD",1),("Qf",1),("Qu",1),("Pa",1),("QL",2),("QM",1)]
 let b←g [("IH",1),("PassesOwn.never",0),("KW",0),("J0",0),("Bl.abs",1),("Bl.all",1),("Bl.any",1),("Bl.bool",1),("Bl.dict",1),("Bl.int",1),("Bl.isi",1),("Bl.len",1),("Bl.max",1),("Bl.min",1),("Bl.range",1),("Bl.sorted",1),("Bl.str",1),("Bl.tuple",1),("Bl.zip",1),("lu",2),("xD",1)]
 let c←([("N3 F1 MM Bl.int",0),("P8 kb MJ Bl.min",1),("Pg kb MG Bl.max",1),("Pu kb NF Bl.abs",0),("str",2),("int",2),("tuple",2),("bool",2)]:List (String×Nat)).toArray.mapM λ(s,k)=>do
  let ws:=((s.splitOn " ").map λn=>Lean.mkIdent n.toName).toArray
  if k=2 then
   `(tacticSeq|refine J2 (v:=.ty $(Lean.quote s)) rfl ($(Lean.mkIdent (.str (.str .anonymous "Bl") s)) (by assumption)) $(Lean.mkIdent (.str `PyProof.Rows ("boot_" ++s))) rfl)
  else
   let e←if k=1 then `($(ws[2]!) rfl) else pure ⟨ws[2]!.raw⟩
   `(tacticSeq|((with_reducible refine PK $(ws[0]!) ?_);refine $(ws[1]!) $e rfl ($(ws[3]!) (by assumption)) (by rfl) ?_))
 `(tactic|repeat (first
 |exact rfl
 |exact Or.inl rfl
 |(with_reducible first $[| $a]*)
 |(with_reducible first|refine PW.pt (w_and ?_ ?_)|refine PW.pt (w_or ?_ ?_))
 |refine Mo (by assumption) (by assumption) ?_
 |refine Gg _ (by assumption) ?_
 |refine Nd (by assumption) (by assumption) ?_
 |refine kR (yD (v:=.int (-1)) rfl (by assumption) ⟨_,rfl⟩) λ_ _=>.int (-1)
 |refine kR (yD (v:=.int (9)) rfl (by assumption) ⟨_,rfl⟩) λ_ _=>.int (9)
 |assumption
 |exact Or.inr rfl
 |exact Or.inr (Or.inl rfl)
 |exact Or.inr (Or.inr rfl)
 |decide
 |omega
 |(intro _ _;rfl)
 |(intro _;rfl)
 |(intro _ _ _;rfl)
 |exact⟨rfl,rfl,rfl,rfl,rfl,rfl,rfl⟩
 |exact λ_ _=>.int _
 |(first $[| $c]*)
 |(first $[| $b]*)))
section
variable{P:Program}{w:World}{K:PySem.W.Frag}{mg:Str->Option Value}{base:Heap}{f:Addr}{fd:FuncData}
def tP:aF ["_law_script","_law_k","_law_cell","_law_digits"] Eo (aB pO):=eQ
def Bc(F:dQ K "_law_pot" "_law_pot" pO f fd)(B:Bl mg):bh P w K mg base dm 1 f fd Eo (dM ⟨K,mg⟩ 2 nK):=by
 have c:=tP.nd
 refine bj F tP λb A a s H E d=> ?_
 delta se
 ac_rfl
def qx:aF ["_law_pot_here","_law_many","_law_digit","_law_mixed"] EG (aB mW):=eQ
def z_(F:dQ K "_law_take" "_law_take" mW f fd)(B:Bl mg):bh P w K mg base dm 1 f fd EG (dM ⟨K,mg⟩ 2 aH):=by
 have c:=qx.nd
 refine bj F qx λb A a s H E d=> ?_
 delta pY
 ac_rfl
def om:aF ["_law_pot_here","_law_stem","_law_many","_law_left"] Ei (aB kZ):=eQ
def wV(F:dQ K "_law_words" "_law_words" kZ f fd)(B:Bl mg)(d:cO P w K mg base):bh P w K mg base dm 2 f fd Ei (dM ⟨K,mg⟩ 3 c8):=by
 have c:=om.nd
 refine bj F om λb A a s H E e=> ?_
 delta mr
 ac_rfl
 refine bF (N:= ["_law_one","_law_stem"]) (js:= [none,some 1]) (aL.gen rfl rfl rfl rfl rfl rfl) rfl ?_ (λ_ _ _ _=> ?_) (λ_ _ _ _=> ?_) (λ_ _ _ _=> ?_)
 ac_rfl
 refine bF (N:= ["_law_k","_law_pot_here","_law_left"]) (js:= [none,some 0,some 3]) (aL.gen rfl rfl rfl rfl rfl rfl) rfl ?_ (λ_ _ _ _=> ?_) (λ_ _ _ _=> ?_) (λ_ _ _ _=> ?_)
 ac_rfl
def zU:aF BJ BJ (aB mq):=eQ
def yO(F:dQ K "_law_pick" "_law_pick" mq f fd)(B:Bl mg)(c:cO P w K mg base):bh P w K mg base dm 2 f fd BJ (dM ⟨K,mg⟩ 2 bN):=by
 refine bj F zU λb A a s H E d=> ?_
 delta oN
 ac_rfl
def tY:aF ["_law_pot_here","_law_words_here","_law_bells","_law_deep","_law_way","_law_word"] xF (aB pD):=eQ
theorem sQ(F:dQ K "_law_sum" "_law_sum" pD f fd)(B:Bl mg)(e:cO P w K mg base)(d:e_ P w K mg base)(b:Binds K fd xF [])(c:PySem.W.keepIn K (.ref f)=true)(m:mg "_law_sum"=some (.ref f)):∀n,bh P w K mg base dm (3+n) f fd xF (dM ⟨K,mg⟩ 4 (bC n))
 |0=>uR
 | n+1=>by
   have i:eA P w K mg base (3+n) "_law_sum" xF (bC n):=⟨f,fd,sQ F B e d b c m n,b,c,m⟩
   have j:=tY.nd
   refine bj (k:=3+n) F tY λg A a s H E h=> ?_
   have l:=h.units0
   delta sM
   ac_rfl
def oI:aF ["_law_pot_here","_law_words_here","_law_bells","_law_at","_law_turn","_law_row_here","_law_way","_law_test"] Ec (aB lE):=eQ
def xa(F:dQ K "_law_waits" "_law_waits" lE f fd)(B:Bl mg)(c:kU P w K mg base)(g:cO P w K mg base)(e:e_ P w K mg base):bh P w K mg base dm 8 f fd Ec (dM ⟨K,mg⟩ 4 jt):=by
 have d:=oI.nd
 refine bj F oI λb A a s H E h=> ?_
 delta lZ
 ac_rfl
def u3:aF ["_law_pot_here","_law_goals","_law_things","_law_words_here","_law_room_here","_law_deed_here","_law_goal"] Ep (aB sC):=eQ
def DH(F:dQ K "_law_do" "_law_do" sC f fd)(B:Bl mg)(e:e_ P w K mg base)(c:kU P w K mg base):bh P w K mg base dm 8 f fd Ep (dM ⟨K,mg⟩ 4 mD):=by
 have d:=u3.nd
 refine bj F u3 λb A a s H E g=> ?_
 delta wM
 ac_rfl
def p7:aF ["_law_pot_here","_law_room_here","_law_goals","_law_most","_law_manner","_law_things","_law_bells","_law_words_here","_law_rows","_law_k","_law_way","_law_word"] Es (aB nu):=eQ
def yI(F:dQ K "_law_deed" "_law_deed" nu f fd)(B:Bl mg)(j:cO P w K mg base)(k:As P w K mg base)(h:e_ P w K mg base)(i:x8 P w K mg base)(d:kU P w K mg base):bh P w K mg base dm 9 f fd Es (dM ⟨K,mg⟩ 4 kB):=by
 have e:=p7.nd
 refine bj F p7 λb A a s H E c=> ?_
 have g:=c.units0
 delta oP
 ac_rfl
def qk:aF ["_law_pot_here","_law_name","_law_goals","_law_manners","_law_bells_most","_law_manner","_law_things","_law_bells","_law_deeds","_law_word","_law_here","_law_some","_law_sorts"] EC (aB mM):=eQ
def Ad(F:dQ K "_law_room" "_law_room" mM f fd)(B:Bl mg)(e:e_ P w K mg base)(c:kE P w K mg base)(h:cO P w K mg base)(g:B5 P w K mg base):bh P w K mg base dm 10 f fd EC (dM ⟨K,mg⟩ 5 ku):=by
 have d:=qk.nd
 refine bj F qk λb A a s H E i=> ?_
 delta pW
 ac_rfl
 refine zc (n:=10) (N:= ["_law_deed_here","_law_name"]) (js:= [none,some 1]) (aL.gen rfl rfl rfl rfl rfl rfl) rfl ?_ (λ_ _ _ _=> ?_) (λ_ _ _ _=> ?_) (λ_ _ _ _=> ?_) ?_
 ac_rfl
 refine bF (N:= ["_law_bell","_law_pot_here"]) (js:= [none,some 0]) (aL.gen rfl rfl rfl rfl rfl rfl) rfl ?_ (λ_ _ _ _=> ?_) (λ_ _ _ _=> ?_) (λ_ _ _ _=> ?_)
 ac_rfl
 refine bF (N:= ["_law_thing","_law_pot_here"]) (js:= [none,some 0]) (aL.gen rfl rfl rfl rfl rfl rfl) rfl ?_ (λ_ _ _ _=> ?_) (λ_ _ _ _=> ?_) (λ_ _ _ _=> ?_)
 ac_rfl
def oE:aF ["_law_pot_here","_law_many","_law_manners","_law_bells_most","_law_names","_law_rooms_here","_law_goals","_law_room_here","_law_name"] D_ (aB kH):=eQ
def wW(F:dQ K "_law_rooms" "_law_rooms" kH f fd)(B:Bl mg)(d:kE P w K mg base)(g:cO P w K mg base)(i:Bq P w K mg base):bh P w K mg base dm 11 f fd D_ (dM ⟨K,mg⟩ 4 jm):=by
 have a:=oE.nd
 refine bj F oE λh A c s H E b=> ?_
 have e:=b.units0
 exact(lu (Gg 4 a (I0 (Nd d b (cT (v_ 0) (cT MO (cT (v_ 1) i_))))))
  (lu (Gg 5 a (I0 (IB i_)))
  (lu (Ke 4 PassesOwn.never (Kj e (N7 (v_ 4))) (lu (Gg 6 a (I0 (IB i_)))
  (lu (M4 PassesOwn.never rfl (KH (N7 (v_ 5))) (PL 7 a) (xD (Hj (HS (v_ 6) (Qw (GZ (N:=M6) (js:= [none,some 7]) (aL.gen rfl rfl rfl rfl rfl rfl) rfl (KH (N7 (qe (v_ 7) mf))) (λ_ _ _ _=>(Pf 0)) (λ_ _ _ _=>Os) (λ_ _ _ _=>(Oe (cT (qe (v_ 1) mf) (cT (qe (v_ 0) mf) i_))))))))))
  (lu (Gg 8 a (J8 (v_ 4) (Mo g b (cT (v_ 0) (cT (KF rfl B.len (N7 (v_ 4))) i_)))))
  (xD (Hj (Ip (v_ 5) (Mo i b (cT (v_ 0) (cT (v_ 8) (cT (v_ 6) (cT (v_ 2) (cT (v_ 3) i_)))))))))))))
  (xD (EM (JQ rfl B.tuple (Qw (FX rfl B.sorted (N7 (v_ 5)))) (ht:=J0)))))))
end
section
variable{P:Program}{w:World}{K:PySem.W.Frag}{mg:Str->Option Value}{base:Heap}{f:Addr}{fd:FuncData}
def ow:aF ["_law_world_here","_law_rooms_here","_law_name","_law_manner","_law_things","_law_bells","_law_deeds","_law_hands","_law_program_here"] EN (aB kX):=eQ
def xA(F:dQ K "_law_first" "_law_first" kX f fd)(B:Bl mg):bh P w K mg base dm 1 f fd EN (dM ⟨K,mg⟩ 1 jw):=by
 have c:=ow.nd
 refine iV F ow λb A a s H E d=> ?_
 delta me
 ac_rfl
 refine bF (N:=ES) (js:= [none,none]) (aL.gen rfl rfl rfl rfl rfl rfl) rfl ?_ (λ_ _ _ _=> ?_) (λ_ _ _ _=> ?_) (λ_ _ _ _=> ?_)
 ac_rfl
 refine bF (N:=MC) (js:= [none]) (aL.gen rfl rfl rfl rfl rfl rfl) rfl ?_ (λ_ _ _ _=> ?_) (λ_ _ _ _=> ?_) (λ_ _ _ _=> ?_)
 ac_rfl
 refine bF (N:=ES) (js:= [none,none]) (aL.gen rfl rfl rfl rfl rfl rfl) rfl ?_ (λ_ _ _ _=> ?_) (λ_ _ _ _=> ?_) (λ_ _ _ _=> ?_)
 ac_rfl
 refine bF (N:=ES) (js:= [none,none]) (aL.gen rfl rfl rfl rfl rfl rfl) rfl ?_ (λ_ _ _ _=> ?_) (λ_ _ _ _=> ?_) (λ_ _ _ _=> ?_)
 ac_rfl
 refine bF (N:=ES) (js:= [none,none]) (aL.gen rfl rfl rfl rfl rfl rfl) rfl ?_ (λ_ _ _ _=> ?_) (λ_ _ _ _=> ?_) (λ_ _ _ _=> ?_)
 ac_rfl
def Ao:aF vS vS (aB mQ):=eQ
def yA(F:dQ K "values_of" "values_of" mQ f fd)(B:Bl mg):bh P w K mg base dm 1 f fd vS (dM ⟨K,mg⟩ 1 gQ):=by
 refine bj F Ao λb A a s H E c=> ?_
 delta pP
 ac_rfl
 refine bF (N:= ["word","value"]) (js:= [none,none]) (aL.gen rfl rfl rfl rfl rfl rfl) rfl ?_ (λ_ _ _ _=> ?_) (λ_ _ _ _=> ?_) (λ_ _ _ _=> ?_)
 ac_rfl
def oq:aF ["room","name","manner","things","bells","deeds"] AM (aB lj):=eQ
def w6(F:dQ K "begun_room" "begun_room" lj f fd)(B:Bl mg)(h:sX P w K mg base){c:Tok}(e:mg "NOBODY"=some (.int (-1) c)):bh P w K mg base dm 2 f fd AM (dM ⟨K,mg⟩ 1 jl):=by
 have d:=oq.nd
 refine bj F oq λb A a s H E g=> ?_
 delta mG
 ac_rfl
 refine bF (N:= ["bell"]) (js:= [none]) (aL.gen rfl rfl rfl rfl rfl rfl) rfl ?_ (λ_ _ _ _=> ?_) (λ_ _ _ _=> ?_) (λ_ _ _ _=> ?_)
 ac_rfl
def Br:aF ["world","rooms","passes","shared","hands","own"] An (aB yT):=eQ
def GJ(F:dQ K "begun" "begun" yT f fd)(B:Bl mg)(i:sX P w K mg base)(e:yJ P w K mg base){b:Tok}(g:mg "OWN"=some (.int (-1) b)):bh P w K mg base dm 3 f fd An (dM ⟨K,mg⟩ 1 zP):=by
 have d:=Br.nd
 refine bj F Br λc A a s H E h=> ?_
 delta Dm
 ac_rfl
 refine bF (N:=AM) (js:= [none]) (aL.gen rfl rfl rfl rfl rfl rfl) rfl ?_ (λ_ _ _ _=> ?_) (λ_ _ _ _=> ?_) (λ_ _ _ _=> ?_)
 ac_rfl
 refine bF (N:= ["name","value"]) (js:= [none,none]) (aL.gen rfl rfl rfl rfl rfl rfl) rfl ?_ (λ_ _ _ _=> ?_) (λ_ _ _ _=> ?_) (λ_ _ _ _=> ?_)
 ac_rfl
 refine bF (N:= ["things","program","own"]) (js:= [none,none,some 5]) (aL.gen rfl rfl rfl rfl rfl rfl) rfl ?_ (λ_ _ _ _=> ?_) (λ_ _ _ _=> ?_) (λ_ _ _ _=> ?_)
 ac_rfl
def kg:aF ["_law_now","_law_own_here","_law_values","_law_within","_law_row_here","_law_late","_law_bells","_law_bell"] Ji (aB ig):=eQ
def sI(F:dQ K "_law_is_bound" "_law_is_bound" ig f fd)(B:Bl mg):bh P w K mg base dm 1 f fd Ji (dM ⟨K,mg⟩ 2 gk):=by
 have c:=kg.nd
 refine bj F kg λb A a s H E d=> ?_
 delta i7
 ac_rfl
 refine bF (N:= ["_law_turn","_law_other"]) (js:= [none,none]) (aL.gen rfl rfl rfl rfl rfl rfl) rfl ?_ (λ_ _ _ _=> ?_) (λ_ _ _ _=> ?_) (λ_ _ _ _=> ?_)
 ac_rfl
 refine bF (N:= ["_law_value_here","_law_row_here","_law_own_here"]) (js:= [none,none,some 1]) (aL.gen rfl rfl rfl rfl rfl rfl) rfl ?_ (λ_ _ _ _=> ?_) (λ_ _ _ _=> ?_) (λ_ _ _ _=> ?_)
 ac_rfl
def tZ:aF ["_law_world_here","_law_now","_law_found","_law_own_here","_law_frame","_law_ended"] Eg (aB pq):=eQ
def Bh(F:dQ K "_law_may" "_law_may" pq f fd)(B:Bl mg)(e:ur P w K mg base):bh P w K mg base dm 2 f fd Eg (dM ⟨K,mg⟩ 2 nL):=by
 have c:=tZ.nd
 refine bj F tZ λb A a s H E d=> ?_
 delta r_
 ac_rfl
def zB:aF Cm Cm (aB mh):=eQ
def Aw(F:dQ K "_law_next" "_law_next" mh f fd)(B:Bl mg)(d:cO P w K mg base)(c:e_ P w K mg base):bh P w K mg base dm 3 f fd Cm (dM ⟨K,mg⟩ 3 kP):=by
 refine bj F zB λb A a s H E e=> ?_
 delta pS
 ac_rfl
def uk:aF AL AL (aB ja):=eQ
def uu(F:dQ K "_law_program" "_law_program" ja f fd)(B:Bl mg):bh P w K mg base dm 1 f fd AL (dM ⟨K,mg⟩ 3 fI):=by
 refine bj F uk λb A a s H E c=> ?_
 delta jK
 ac_rfl
def wZ:aF BC BC (aB k0):=eQ
def xf(F:dQ K "_law_enter" "_law_enter" k0 f fd)(B:Bl mg):bh P w K mg base dm 1 f fd BC (dM ⟨K,mg⟩ 2 hJ):=by
 refine iV F wZ λb A a s H E c=> ?_
 delta m_
 ac_rfl
def xB:aF Cp Cp (aB k_):=eQ
def xv(F:dQ K "_law_leave" "_law_leave" k_ f fd)(B:Bl mg):bh P w K mg base dm 1 f fd Cp (dM ⟨K,mg⟩ 1 g_):=by
 refine iV F xB λc A a s H E b=> ?_
 have d:=b.units0
 delta mX
 ac_rfl
def yC:aF Cn Cn (aB mV):=eQ
def Av(F:dQ K "_law_spot" "_law_spot" mV f fd)(B:Bl mg):bh P w K mg base dm 1 f fd Cn (dM ⟨K,mg⟩ 2 df):=by
 refine bj F yC λb A a s H E c=> ?_
 delta oU
 ac_rfl
 refine bF (N:= ["_law_row_here"]) (js:= [none]) (aL.gen rfl rfl rfl rfl rfl rfl) rfl ?_ (λ_ _ _ _=> ?_) (λ_ _ _ _=> ?_) (λ_ _ _ _=> ?_)
 ac_rfl
def sV:aF ["_law_world_here","_law_now","_law_own_here","_law_word","_law_value_here","_law_frame"] Ey (aB pe):=eQ
def BE(F:dQ K "_law_set" "_law_set" pe f fd)(B:Bl mg)(d:jk P w K mg base):bh P w K mg base dm 2 f fd Ey (dM ⟨K,mg⟩ 5 jX):=by
 have c:=sV.nd
 refine iV F sV λb A a s H E e=> ?_
 delta sk
 ac_rfl
 refine bF (N:=EF) (js:= [none]) (aL.gen rfl rfl rfl rfl rfl rfl) rfl ?_ (λ_ _ _ _=> ?_) (λ_ _ _ _=> ?_) (λ_ _ _ _=> ?_)
 ac_rfl
def sU:aF ["_law_world_here","_law_now","_law_own_here","_law_frames","_law_room_here","_law_deed_here","_law_row_here","_law_given","_law_told","_law_ahead"] ua (aB pX):=eQ
def Cj(F:dQ K "_law_end" "_law_end" pX f fd)(B:Bl mg)(h:qc P w K mg base)(c:mH P w K mg base)(e:uZ P w K mg base):bh P w K mg base dm 3 f fd ua (dM ⟨K,mg⟩ 3 nQ):=by
 have d:=sU.nd
 refine iV F sU λb A a s H E g=> ?_
 delta qY
 ac_rfl
def oA:aF ["_law_told","_law_things","_law_waiting","_law_parts","_law_one","_law_other"] xC (aB kI):=eQ
theorem oB(F:dQ K "_law_value" "_law_value" kI f fd)(B:Bl mg)(b:Binds K fd xC [])(c:PySem.W.keepIn K (.ref f)=true)(m:mg "_law_value"=some (.ref f)):∀n,bh P w K mg base dm (1+n) f fd xC (dM ⟨K,mg⟩ 3 (eE n))
 |0=>uR
 | n+1=>by
   have i:eA P w K mg base (1+n) "_law_value" xC (eE n):=⟨f,fd,oB F B b c m n,b,c,m⟩
   have h:=oA.nd
   refine bj (k:=1+n) F oA λe A a s H E g=> ?_
   have d:=D6 g
   delta ni
   ac_rfl
   refine zc (n:=3) (N:= ["_law_part","_law_things","_law_waiting"]) (js:= [none,some 1,some 2]) (aL.gen rfl rfl rfl rfl rfl rfl) rfl ?_ (λ_ _ _ _=> ?_) (λ_ _ _ _=> ?_) (λ_ _ _ _=> ?_) ?_
   ac_rfl
end
section
variable{P:Program}{w:World}{K:PySem.W.Frag}{mg:Str->Option Value}{base:Heap}{f:Addr}{fd:FuncData}
def mB:aF ["_law_world_here","_law_now","_law_own_here","_law_told","_law_frame","_law_words_here","_law_values","_law_room_here","_law_things","_law_many","_law_waiting"] E9 (aB jH):=eQ
def wF(F:dQ K "_law_reckon" "_law_reckon" jH f fd)(B:Bl mg)(g:yM P w K mg base):bh P w K mg base dm 7 f fd E9 (dM ⟨K,mg⟩ 4 cM):=by
 have e:=mB.nd
 refine bj F mB λd A a s H E c=> ?_
 have b:=D6 c
 delta kC
 ac_rfl
 refine bF (N:=EF) (js:= [none]) (aL.gen rfl rfl rfl rfl rfl rfl) rfl ?_ (λ_ _ _ _=> ?_) (λ_ _ _ _=> ?_) (λ_ _ _ _=> ?_)
 ac_rfl
 refine bF (N:=EF) (js:= [none]) (aL.gen rfl rfl rfl rfl rfl rfl) rfl ?_ (λ_ _ _ _=> ?_) (λ_ _ _ _=> ?_) (λ_ _ _ _=> ?_)
 ac_rfl
 refine zc (n:=9) (N:=MC) (js:= [none]) (aL.gen rfl rfl rfl rfl rfl rfl) rfl ?_ (λ_ _ _ _=> ?_) (λ_ _ _ _=> ?_) (λ_ _ _ _=> ?_) ?_
 ac_rfl
 refine bF (N:=EF) (js:= [none]) (aL.gen rfl rfl rfl rfl rfl rfl) rfl ?_ (λ_ _ _ _=> ?_) (λ_ _ _ _=> ?_) (λ_ _ _ _=> ?_)
 ac_rfl
def qi:aF ["_law_world_here","_law_now","_law_own_here","_law_row_here","_law_number","_law_room_here","_law_spot_here","_law_bell","_law_turn","_law_called"] kc (aB mj):=eQ
def zh(F:dQ K "_law_ring" "_law_ring" mj f fd)(B:Bl mg)(h:jk P w K mg base)(g:oD P w K mg base)(i:qc P w K mg base):bh P w K mg base dm 8 f fd kc (dM ⟨K,mg⟩ 4 kT):=by
 have d:=qi.nd
 refine iV F qi λb A a s H E c=> ?_
 have e:=c.units0
 delta oW
 ac_rfl
 refine bF (N:= ["_law_one","_law_turn"]) (js:= [none,some 8]) (aL.gen rfl rfl rfl rfl rfl rfl) rfl ?_ (λ_ _ _ _=> ?_) (λ_ _ _ _=> ?_) (λ_ _ _ _=> ?_)
 ac_rfl
def yX:aF AN AN (aB mw):=eQ
def zC(F:dQ K "_law_give" "_law_give" mw f fd)(B:Bl mg):bh P w K mg base dm 1 f fd AN (dM ⟨K,mg⟩ 1 oS):=by
 refine iV F yX λc A a s H E b=> ?_
 have d:=b.units0
 delta vY
 ac_rfl
def Cq:aF Ce Ce (aB oK):=eQ
def Bi(F:dQ K "_law_get" "_law_get" oK f fd)(B:Bl mg):bh P w K mg base dm 1 f fd Ce (dM ⟨K,mg⟩ 2 rB):=by
 refine iV F Cq λb A a s H E c=> ?_
 delta yk
 ac_rfl
def uA:aF kc kc (aB iT):=eQ
def uj(F:dQ K "_law_counted" "_law_counted" iT f fd)(B:Bl mg)(g:Bm P w K mg base)(d:jk P w K mg base)(c:DN P w K mg base):bh P w K mg base dm 2 f fd kc (dM ⟨K,mg⟩ 4 jI):=by
 refine iV F uA λb A a s H E e=> ?_
 delta oH
 ac_rfl
def t9:aF ["_law_world_here","_law_now","_law_own_here","_law_row_here","_law_frame","_law_given","_law_number"] kc (aB pj):=eQ
def AS(F:dQ K "_law_row" "_law_row" pj f fd)(B:Bl mg)(g:uZ P w K mg base)(h:oD P w K mg base)(i:jk P w K mg base)(c:qu P w K mg base)(j:BV P w K mg base)(e:vK P w K mg base):bh P w K mg base dm 9 f fd kc (dM ⟨K,mg⟩ 4 j7):=by
 have d:=t9.nd
 refine iV F t9 λb A a s H E k=> ?_
 delta sr
 ac_rfl
def qB:aF ["_law_world_here","_law_now","_law_own_here","_law_frame","_law_program_here"] ua (aB m5):=eQ
def zJ(F:dQ K "_law_step" "_law_step" m5 f fd)(B:Bl mg)(c:mH P w K mg base)(d:qu P w K mg base)(h:DG P w K mg base)(e:CM P w K mg base):bh P w K mg base dm 10 f fd ua (dM ⟨K,mg⟩ 3 k8):=by
 have g:=qB.nd
 refine iV F qB λb A a s H E i=> ?_
 delta pV
 ac_rfl
def w9:aF AK AK (aB kq):=eQ
def xj(F:dQ K "last_frame" "last_frame" kq f fd)(B:Bl mg):bh P w K mg base dm 1 f fd AK (dM ⟨K,mg⟩ 2 da):=by
 refine bj F w9 λb A a s H E c=> ?_
 delta m8
 ac_rfl
def oF:aF ["world","hand","frame","room","deed"] yU (aB lB):=eQ
def xx(F:dQ K "program_of" "program_of" lB f fd)(B:Bl mg){c:Tok}(e:mg "OWN"=some (.int (-1) c)):bh P w K mg base dm 1 f fd yU (dM ⟨K,mg⟩ 3 fV):=by
 have b:=oF.nd
 refine bj F oF λd A a s H E g=> ?_
 exact(lu (Nk (Lq (i:=3) (j:=4) rfl b rfl rfl (by decide) rfl rfl (cT (qe (v_ 2) mf) (cT (qe (v_ 2) mf) i_)) rfl))
  (lu (PU (NP Nm MU (v_ 3) (kR (yD (v:=.int (-1)) rfl e ⟨_,rfl⟩) λ_ _=>.int (-1)) (IH _)) (xD (EM (qe (qe (qe (v_ 0) mf) (v_ 1)) mf))) On)
  (xD (EM (qe (qe (qe (qe (qe (v_ 0) mf) (v_ 3)) mf) (v_ 4)) mf)))))
def Cu:aF Ct Ct (aB pT):=eQ
def BH(F:dQ K "names_of" "names_of" pT f fd)(B:Bl mg):bh P w K mg base dm 1 f fd Ct (dM ⟨K,mg⟩ 1 eT):=by
 refine bj F Cu λb A a s H E c=> ?_
 delta sL
 ac_rfl
 refine bF (N:= ["row"]) (js:= [none]) (aL.gen rfl rfl rfl rfl rfl rfl) rfl ?_ (λ_ _ _ _=> ?_) (λ_ _ _ _=> ?_) (λ_ _ _ _=> ?_)
 ac_rfl
def BX:aF Bf Bf (aB pM):=eQ
def AB(F:dQ K "place_of" "place_of" pM f fd)(B:Bl mg)(c:pH P w K mg base):bh P w K mg base dm 2 f fd Bf (dM ⟨K,mg⟩ 2 dv):=by
 refine bj F BX λb A a s H E d=> ?_
 delta sH
 ac_rfl
def y0:aF Bu Bu (aB mY):=eQ
def y_(F:dQ K "with_part" "with_part" mY f fd)(B:Bl mg):bh P w K mg base dm 1 f fd Bu (dM ⟨K,mg⟩ 3 dI):=by
 refine bj F y0 λb A a s H E c=> ?_
 delta oO
 ac_rfl
def yW:aF AR AR (aB lU):=eQ
def ze(F:dQ K "with_hand" "with_hand" lU f fd)(B:Bl mg)(c:gY P w K mg base):bh P w K mg base dm 2 f fd AR (dM ⟨K,mg⟩ 4 fR):=by
 refine bj F yW λb A a s H E d=> ?_
 delta pZ
 ac_rfl
def zK:aF B4 B4 (aB mv):=eQ
def yE(F:dQ K "with_room" "with_room" mv f fd)(B:Bl mg)(c:gY P w K mg base):bh P w K mg base dm 2 f fd B4 (dM ⟨K,mg⟩ 3 dg):=by
 refine bj F zK λb A a s H E d=> ?_
 delta pF
 ac_rfl
def qo:aF ["world","scene","hand","word","value","room","place","values","shared","frames"] Ab (aB lV):=eQ
def Am(F:dQ K "put_thing" "put_thing" lV f fd)(B:Bl mg)(k:eN P w K mg base)(g:i3 P w K mg base)(h:gY P w K mg base)(i:g9 P w K mg base)(e:pH P w K mg base)(l:jx P w K mg base){b:Tok}(j:mg "OWN"=some (.int (-1) b)):bh P w K mg base dm 3 f fd Ab (dM ⟨K,mg⟩ 5 fP):=by
 have d:=qo.nd
 refine bj F qo λc A a s H E m=> ?_
 delta kL
 ac_rfl
end
section
variable{P:Program}{w:World}{K:PySem.W.Frag}{mg:Str->Option Value}{base:Heap}{f:Addr}{fd:FuncData}
def ug:aF B0 B0 (aB iX):=eQ
def ud(F:dQ K "value_of_two" "value_of_two" iX f fd)(B:Bl mg){b:Tok}(d:mg "HIGHEST"=some (.int (9) b)):bh P w K mg base dm 1 f fd B0 (dM ⟨K,mg⟩ 3 gX):=by
 refine bj F ug λc A a s H E e=> ?_
 delta jA
 ac_rfl
def tj:aF ["tree","things","waiting","first"] rM (aB oJ):=eQ
theorem sS(F:dQ K "value_of" "value_of" oJ f fd)(B:Bl mg)(d:u4 P w K mg base)(b:Binds K fd rM [])(c:PySem.W.keepIn K (.ref f)=true)(m:mg "value_of"=some (.ref f)):∀n,bh P w K mg base dm (2+n) f fd rM (dM ⟨K,mg⟩ 3 (gG n))
 |0=>uR
 | n+1=>by
   have j:eA P w K mg base (2+n) "value_of" rM (gG n):=⟨f,fd,sS F B d b c m n,b,c,m⟩
   have i:=tj.nd
   refine bj (k:=2+n) F tj λg A a s H E h=> ?_
   have e:=D6 h
   delta rE
   ac_rfl
def tR:aF ["world","scene","hand","tree","frame","room","things","waiting"] yZ (aB pA):=eQ
def AG(F:dQ K "reckoned" "reckoned" pA f fd)(B:Bl mg)(i:eN P w K mg base)(k:pH P w K mg base)(j:CI P w K mg base){b:Tok}(h:mg "OWN"=some (.int (-1) b)):bh P w K mg base dm 9 f fd yZ (dM ⟨K,mg⟩ 4 dU):=by
 have g:=tR.nd
 refine bj F tR λd A a s H E e=> ?_
 have c:=D6 e
 delta nP
 ac_rfl
 refine Ii (n:=7) (N:= ["bell","line"]) (js:= [none,none]) (aL.gen rfl rfl rfl rfl rfl rfl) rfl ?_ (λ_ _ _ _=> ?_) (λ_ _ _ _=> ?_) (λ_ _ _ _=> ?_) (λ_ _ _ _=> ?_) ?_
 ac_rfl
def F3:aF bo bo (aB vF):=eQ
def FW(F:dQ K "by_put" "by_put" vF f fd)(B:Bl mg)(e:tN P w K mg base)(c:gI P w K mg base):bh P w K mg base dm 10 f fd bo (dM ⟨K,mg⟩ 4 uQ):=by
 refine bj F F3 λb A a s H E d=> ?_
 delta zv
 ac_rfl
def i0:aF ["scene","hand","frame","values","frames"] EU (aB gq):=eQ
def pd(F:dQ K "with_last_frame" "with_last_frame" gq f fd)(B:Bl mg)(d:jx P w K mg base):bh P w K mg base dm 3 f fd EU (dM ⟨K,mg⟩ 3 dZ):=by
 have c:=i0.nd
 refine bj F i0 λb A a s H E e=> ?_
 delta gN
 ac_rfl
def xV:aF ["scene","hand","row","frame"] EJ (aB wG):=eQ
def FG(F:dQ K "at_row" "at_row" wG f fd)(B:Bl mg)(e:eN P w K mg base)(d:jz P w K mg base):bh P w K mg base dm 4 f fd EJ (dM ⟨K,mg⟩ 3 kS):=by
 have c:=xV.nd
 refine bj F xV λb A a s H E g=> ?_
 delta zd
 ac_rfl
def Ap:aF bo bo (aB m6):=eQ
def zf(F:dQ K "by_unless" "by_unless" m6 f fd)(B:Bl mg)(c:gI P w K mg base)(d:vt P w K mg base):bh P w K mg base dm 10 f fd bo (dM ⟨K,mg⟩ 4 lq):=by
 refine bj F Ap λb A a s H E e=> ?_
 delta oM
 ac_rfl
def G_:aF bo bo (aB zM):=eQ
def GS(F:dQ K "by_go" "by_go" zM f fd)(B:Bl mg)(c:vt P w K mg base):bh P w K mg base dm 5 f fd bo (dM ⟨K,mg⟩ 4 yL):=by
 refine bj F G_ λb A a s H E d=> ?_
 delta DY
 ac_rfl
def vI:aF ["scene","room","hand","values","within","row","late","bells"] E7 (aB r8):=eQ
def Dw(F:dQ K "come_in" "come_in" r8 f fd)(B:Bl mg)(e:g9 P w K mg base){c:Tok}(g:mg "NOBODY"=some (.int (-1) c)):bh P w K mg base dm 3 f fd E7 (dM ⟨K,mg⟩ 3 nk):=by
 have d:=vI.nd
 refine bj F vI λb A a s H E h=> ?_
 delta vT
 ac_rfl
def A2:aF ["world","scene","hand","row","room","deed","frame","values","frames"] bo (aB yQ):=eQ
def Iw(F:dQ K "by_do" "by_do" yQ f fd)(B:Bl mg)(e:i3 P w K mg base)(c:gI P w K mg base)(i:xN P w K mg base)(g:jx P w K mg base):bh P w K mg base dm 10 f fd bo (dM ⟨K,mg⟩ 4 zI):=by
 have d:=A2.nd
 refine bj F A2 λb A a s H E h=> ?_
 delta Dg
 ac_rfl
def vj:aF ["world","scene","hand","word","room"] zE (aB sf):=eQ
def Dz(F:dQ K "bell_of" "bell_of" sf f fd)(B:Bl mg)(e:eN P w K mg base)(d:i3 P w K mg base):bh P w K mg base dm 3 f fd zE (dM ⟨K,mg⟩ 4 j3):=by
 have c:=vj.nd
 refine bj F vj λb A a s H E g=> ?_
 delta wc
 ac_rfl
def p_:aF ["scene","room","bell","line","state"] Ed (aB mK):=eQ
def Aq(F:dQ K "with_line" "with_line" mK f fd)(B:Bl mg)(e:g9 P w K mg base)(d:gY P w K mg base):bh P w K mg base dm 3 f fd Ed (dM ⟨K,mg⟩ 4 fQ):=by
 have c:=p_.nd
 refine bj F p_ λb A a s H E g=> ?_
 delta pw
 ac_rfl
def A6:aF ["scene","room","values","within","row","late","bells"] zw (aB Au):=eQ
def IW(F:dQ K "leave" "leave" Au f fd)(B:Bl mg)(e:g9 P w K mg base){c:Tok}(g:mg "NOBODY"=some (.int (-1) c)):bh P w K mg base dm 3 f fd zw (dM ⟨K,mg⟩ 2 rN):=by
 have d:=A6.nd
 refine bj F A6 λb A a s H E h=> ?_
 delta Dj
 ac_rfl
def u9:aF ["world","scene","hand","row","room","bell","turn","line","ahead","waiting"] bo (aB rR):=eQ
def CH(F:dQ K "by_wait" "by_wait" rR f fd)(B:Bl mg)(g:qZ P w K mg base)(c:gI P w K mg base)(h:mm P w K mg base)(e:EL P w K mg base):bh P w K mg base dm 10 f fd bo (dM ⟨K,mg⟩ 4 qw):=by
 have d:=u9.nd
 refine bj F u9 λb A a s H E i=> ?_
 delta wB
 ac_rfl
 refine bF (N:= ["other","waiter","turn"]) (js:= [none,none,some 6]) (aL.gen rfl rfl rfl rfl rfl rfl) rfl ?_ (λ_ _ _ _=> ?_) (λ_ _ _ _=> ?_) (λ_ _ _ _=> ?_)
 ac_rfl
def vg:aF ["world","scene","hand","row","room","bell","line","called","values","within","queue","late","bells"] bo (aB sN):=eQ
def D2(F:dQ K "by_call" "by_call" sN f fd)(B:Bl mg)(e:qZ P w K mg base)(g:mm P w K mg base)(d:g9 P w K mg base):bh P w K mg base dm 4 f fd bo (dM ⟨K,mg⟩ 4 qG):=by
 have c:=vg.nd
 refine bj F vg λb A a s H E h=> ?_
 delta vH
 ac_rfl
end
section
variable{P:Program}{w:World}{K:PySem.W.Frag}{mg:Str->Option Value}{base:Heap}{f:Addr}{fd:FuncData}
def yw:aF ["world","scene","hand","row","room","bell"] bo (aB vW):=eQ
def F_(F:dQ K "by_all" "by_all" vW f fd)(B:Bl mg)(d:qZ P w K mg base)(e:mm P w K mg base):bh P w K mg base dm 4 f fd bo (dM ⟨K,mg⟩ 4 uG):=by
 have c:=yw.nd
 refine bj F yw λb A a s H E g=> ?_
 delta yB
 ac_rfl
def wA:aF ["world","scene","hand","row","told"] bo (aB qX):=eQ
def De(F:dQ K "by_tell" "by_tell" qX f fd)(B:Bl mg)(c:gI P w K mg base)(e:jz P w K mg base)(g:eN P w K mg base):bh P w K mg base dm 10 f fd bo (dM ⟨K,mg⟩ 4 qO):=by
 have d:=wA.nd
 refine bj F wA λb A a s H E h=> ?_
 delta wJ
 ac_rfl
def z4:aF Ax Ax (aB lY):=eQ
def zD(F:dQ K "with_pass" "with_pass" lY f fd)(B:Bl mg)(c:gY P w K mg base):bh P w K mg base dm 2 f fd Ax (dM ⟨K,mg⟩ 3 gK):=by
 refine bj F z4 λb A a s H E d=> ?_
 delta vE
 ac_rfl
def Ba:aF ["world","scene","hand","name","place","value","row"] zZ (aB zq):=eQ
def Hl(F:dQ K "taken" "taken" zq f fd)(B:Bl mg)(d:i3 P w K mg base)(g:tJ P w K mg base):bh P w K mg base dm 3 f fd zZ (dM ⟨K,mg⟩ 4 Ak):=by
 have c:=Ba.nd
 refine bj F Ba λb A a s H E e=> ?_
 delta IU
 ac_rfl
def Dt:aF bo bo (aB sx):=eQ
def C6(F:dQ K "by_take" "by_take" sx f fd)(B:Bl mg)(c:D5 P w K mg base):bh P w K mg base dm 4 f fd bo (dM ⟨K,mg⟩ 4 wj):=by
 refine bj F Dt λb A a s H E d=> ?_
 delta B1
 ac_rfl
def oz:aF ["world","scene","name","place","value","row"] zW (aB lA):=eQ
def xl(F:dQ K "given_back" "given_back" lA f fd)(B:Bl mg)(e:i3 P w K mg base)(i:tJ P w K mg base){c:Tok}(g:mg "HIGHEST"=some (.int (9) c)):bh P w K mg base dm 3 f fd zW (dM ⟨K,mg⟩ 3 jr):=by
 have d:=oz.nd
 refine bj F oz λb A a s H E h=> ?_
 delta t5
 ac_rfl
def Di:aF bo bo (aB sA):=eQ
def Dy(F:dQ K "by_give" "by_give" sA f fd)(B:Bl mg)(c:qV P w K mg base):bh P w K mg base dm 4 f fd bo (dM ⟨K,mg⟩ 4 vL):=by
 refine bj F Di λb A a s H E d=> ?_
 delta Bk
 ac_rfl
def C5:aF bo bo (aB sJ):=eQ
def DP(F:dQ K "by_pass" "by_pass" sJ f fd)(B:Bl mg)(d:D5 P w K mg base)(c:qV P w K mg base):bh P w K mg base dm 4 f fd bo (dM ⟨K,mg⟩ 4 vR):=by
 refine bj F C5 λb A a s H E e=> ?_
 delta Cs
 ac_rfl
def FI:aF bo bo (aB wx):=eQ
def FE(F:dQ K "by_say" "by_say" wx f fd)(B:Bl mg):bh P w K mg base dm 1 f fd bo (dM ⟨K,mg⟩ 4 uE):=by
 refine bj F FI λb A a s H E c=> ?_
 delta y7
 ac_rfl
def tM:aF ["world","scene","hand","row","deed"] bo (aB oX):=eQ
def Bg(F:dQ K "row_done" "row_done" oX f fd)(B:Bl mg)(d:∀x F,v7.lookup x=some F->eA P w K mg base 10 x bo F)(g:E1 P w K mg "DONE_BY" nB):bh P w K mg base dm 11 f fd bo (dM ⟨K,mg⟩ 4 kf):=by
 have b:=tM.nd
 refine bj F tM λc A a s H E e=> ?_
 exact(lu (Gg 4 b (Jv g rfl (qe (v_ 3) mf) (λ_ _=>rfl)))
  (xD (EM (Kt d (e.mono (by decide)) rfl (by first|exact Or.inl rfl|exact Or.inr (Or.inl rfl)) (cT (v_ 0) (cT (v_ 1) (cT (v_ 2) (cT (v_ 3) i_)))) (nU (nU (nU (nU Dc))))))))
def tw:aF ["world","scene","hand","values","frames","room","deed","row","given","told","outside","came_by"] fc (aB pK):=eQ
def AW(F:dQ K "end_deed" "end_deed" pK f fd)(B:Bl mg)(g:jx P w K mg base)(d:EL P w K mg base)(e:kK P w K mg base)(i:tN P w K mg base):bh P w K mg base dm 4 f fd fc (dM ⟨K,mg⟩ 3 jN):=by
 have c:=tw.nd
 refine bj F tw λb A a s H E h=> ?_
 delta sh
 ac_rfl
def v9:aF ["world","scene","hand","frame","room","program","row","event"] fc (aB rS):=eQ
def DK(F:dQ K "step_of" "step_of" rS f fd)(B:Bl mg)(j:eN P w K mg base)(n:xN P w K mg base)(i:kK P w K mg base)(l:CW P w K mg base)(d:gI P w K mg base)(e:CV P w K mg base)(m:vt P w K mg base){b:Tok}(g:mg "OWN"=some (.int (-1) b)):bh P w K mg base dm 12 f fd fc (dM ⟨K,mg⟩ 3 qF):=by
 have h:=v9.nd
 refine bj F v9 λc A a s H E k=> ?_
 delta mP
 ac_rfl
def A3:aF BG BG (aB pL):=eQ
def B9(F:dQ K "hands_at" "hands_at" pL f fd)(B:Bl mg):bh P w K mg base dm 1 f fd BG (dM ⟨K,mg⟩ 1 nT):=by
 refine bj F A3 λb A a s H E c=> ?_
 delta rF
 ac_rfl
 refine bF (N:= ["turn","hand"]) (js:= [none,none]) (aL.gen rfl rfl rfl rfl rfl rfl) rfl ?_ (λ_ _ _ _=> ?_) (λ_ _ _ _=> ?_) (λ_ _ _ _=> ?_)
 ac_rfl
def j0:aF ["scene","hands","value","row","values","within","late","bells","line"] zo (aB ik):=eQ
def sG(F:dQ K "hands_in_rows" "hands_in_rows" ik f fd)(B:Bl mg)(d:C9 P w K mg base):bh P w K mg base dm 2 f fd zo (dM ⟨K,mg⟩ 1 fo):=by
 have c:=j0.nd
 refine bj F j0 λb A a s H E e=> ?_
 delta iZ
 ac_rfl
def jY:aF ["world","scene","hand","frame"] fc (aB iu):=eQ
def sm(F:dQ K "is_behind_all" "is_behind_all" iu f fd)(B:Bl mg)(h:eN P w K mg base)(e:kK P w K mg base){b:Tok}(g:mg "OWN"=some (.int (-1) b)):bh P w K mg base dm 2 f fd fc (dM ⟨K,mg⟩ 3 gc):=by
 have d:=jY.nd
 refine bj F jY λc A a s H E i=> ?_
 delta jb
 ac_rfl
def sZ:aF ["world","scene","held_up"] zY (aB pk):=eQ
def BL(F:dQ K "may_step" "may_step" pk f fd)(B:Bl mg)(g:uf P w K mg base)(d:uv P w K mg base):bh P w K mg base dm 3 f fd zY (dM ⟨K,mg⟩ 2 nE):=by
 have c:=sZ.nd
 refine bj F sZ λb A a s H E e=> ?_
 delta rJ
 ac_rfl
 refine bF (N:= ["hand","world","scene","held_up"]) (js:= [none,some 0,some 1,some 2]) (aL.gen rfl rfl rfl rfl rfl rfl) rfl ?_ (λ_ _ _ _=> ?_) (λ_ _ _ _=> ?_) (λ_ _ _ _=> ?_)
 ac_rfl
def C0:aF fc fc (aB rq):=eQ
def DB(F:dQ K "stepped" "stepped" rq f fd)(B:Bl mg)(c:C4 P w K mg base)(d:F6 P w K mg base):bh P w K mg base dm 13 f fd fc (dM ⟨K,mg⟩ 3 qU):=by
 refine bj F C0 λb A a s H E e=> ?_
 delta vy
 ac_rfl
def Ac:aF CJ CJ (aB mT):=eQ
theorem p6(F:dQ K "_law_same" "_law_same" mT f fd)(B:Bl mg)(b:Binds K fd CJ [])(c:PySem.W.keepIn K (.ref f)=true)(m:mg "_law_same"=some (.ref f)):∀n,bh P w K mg base dm (1+n) f fd CJ (dM ⟨K,mg⟩ 2 (gM n))
 |0=>uR
 | n+1=>by
   have e:eA P w K mg base (1+n) "_law_same" CJ (gM n):=⟨f,fd,p6 F B b c m n,b,c,m⟩
   refine bj (k:=1+n) F Ac λd A a s H E g=> ?_
   delta gP
   ac_rfl
   refine bF (N:= ["_law_one","_law_other"]) (js:= [none,none]) (aL.gen rfl rfl rfl rfl rfl rfl) rfl ?_ (λ_ _ _ _=> ?_) (λ_ _ _ _=> ?_) (λ_ _ _ _=> ?_)
   ac_rfl
end
section
variable{P:Program}{w:World}{K:PySem.W.Frag}{mg:Str->Option Value}{base:Heap}{f:Addr}{fd:FuncData}
def mE:aF ["_law_now","_law_rooms_here","_law_values","_law_within","_law_row_here","_law_late","_law_bells","_law_hands","_law_frames"] EB (aB jJ):=eQ
def wu(F:dQ K "_law_frozen" "_law_frozen" jJ f fd)(B:Bl mg):bh P w K mg base dm 1 f fd EB (dM ⟨K,mg⟩ 1 iH):=by
 have c:=mE.nd
 refine bj F mE λb A a s H E d=> ?_
 delta kW
 ac_rfl
 refine bF (N:=MC) (js:= [none]) (aL.gen rfl rfl rfl rfl rfl rfl) rfl ?_ (λ_ _ _ _=> ?_) (λ_ _ _ _=> ?_) (λ_ _ _ _=> ?_)
 ac_rfl
 refine bF (N:= ["_law_frame"]) (js:= [none]) (aL.gen rfl rfl rfl rfl rfl rfl) rfl ?_ (λ_ _ _ _=> ?_) (λ_ _ _ _=> ?_) (λ_ _ _ _=> ?_)
 ac_rfl
 refine bF (N:= ["_law_value_here","_law_row_here"]) (js:= [none,none]) (aL.gen rfl rfl rfl rfl rfl rfl) rfl ?_ (λ_ _ _ _=> ?_) (λ_ _ _ _=> ?_) (λ_ _ _ _=> ?_)
 ac_rfl
def qf:aF ["_law_pot_here","_law_world_here","_law_many","_law_now","_law_scene","_law_last","_law_turn","_law_some","_law_event","_law_found"] EK (aB nh):=eQ
def zy(F:dQ K "_law_walk" "_law_walk" nh f fd)(B:Bl mg)(h:yP P w K mg base)(n:JO P w K mg base)(i:C3 P w K mg base)(m:BP P w K mg base)(g:Az P w K mg base)(d:Fm P w K mg base)(l:Cf P w K mg base)(e:xm P w K mg base):bh P w K mg base dm 14 f fd EK (dM ⟨K,mg⟩ 3 kM):=by
 have j:=qf.nd
 refine bj F qf λb A a s H E c=> ?_
 have k:=c.units0
 delta o_
 ac_rfl
def tU:aF ["_law_pot_here","_law_goals","_law_words_here","_law_passes","_law_most","_law_rows","_law_k","_law_way"] El (aB pI):=eQ
def Cd(F:dQ K "_law_own" "_law_own" pI f fd)(B:Bl mg)(j:cO P w K mg base)(i:x8 P w K mg base)(h:e_ P w K mg base)(d:kU P w K mg base):bh P w K mg base dm 9 f fd El (dM ⟨K,mg⟩ 5 nV):=by
 have e:=tU.nd
 refine bj F tU λb A a s H E c=> ?_
 have g:=c.units0
 delta q_
 ac_rfl
def og:aF ["_law_pot_here","_law_rooms_here","_law_hands","_law_passes_most","_law_goals","_law_room_here","_law_passes","_law_shared","_law_made","_law_k","_law_own_here","_law_program_here","_law_counted_here"] Fb (aB kD):=eQ
def xi(F:dQ K "_law_world" "_law_world" kD f fd)(B:Bl mg)(c:kE P w K mg base)(g:cO P w K mg base)(d:DF P w K mg base):bh P w K mg base dm 10 f fd Fb (dM ⟨K,mg⟩ 4 jj):=by
 have e:=og.nd
 refine bj F og λb A a s H E h=> ?_
 delta mN
 ac_rfl
 refine bF (N:=M6) (js:= [none,some 5]) (aL.gen rfl rfl rfl rfl rfl rfl) rfl ?_ (λ_ _ _ _=> ?_) (λ_ _ _ _=> ?_) (λ_ _ _ _=> ?_)
 ac_rfl
 refine bF (N:=GW) (js:= [none,some 0]) (aL.gen rfl rfl rfl rfl rfl rfl) rfl ?_ (λ_ _ _ _=> ?_) (λ_ _ _ _=> ?_) (λ_ _ _ _=> ?_)
 ac_rfl
 refine bF (N:=GW) (js:= [none,some 0]) (aL.gen rfl rfl rfl rfl rfl rfl) rfl ?_ (λ_ _ _ _=> ?_) (λ_ _ _ _=> ?_) (λ_ _ _ _=> ?_)
 ac_rfl
 refine bF (N:=GW) (js:= [none,some 0]) (aL.gen rfl rfl rfl rfl rfl rfl) rfl ?_ (λ_ _ _ _=> ?_) (λ_ _ _ _=> ?_) (λ_ _ _ _=> ?_)
 ac_rfl
def HJ:aF ["_law_script","_law_k","_law_pot_here","_law_rooms_here"] Hg (aB qN):=eQ
def LX(F:dQ K "law" "law" qN f fd)(B:Bl mg)(d:DW P w K mg base)(e:zg P w K mg base)(h:cO P w K mg base)(i:B7 P w K mg base)(g:Aj P w K mg base):bh P w K mg base dm 15 f fd Hg (dM ⟨K,mg⟩ 1 JC):=by
 have c:=HJ.nd
 refine bj F HJ λb A a s H E j=> ?_
 delta Mj
 ac_rfl
end
def all_mk{l:PySem.W.OpenLaw}{w:World}{K:PySem.W.Frag}{h:Heap}{mg:Str->Option Value}{fa f1 f2 f3 f4 f5 f6 f7 f8 f9 v1 v2 w3 e6 H6 I9 w5 k3 n7 x1 y5 o9 m1 i5 r9 e4 x0 b7 n8 l6 g0 q8 l3 r2 m2 e2 w1 n1 l2 a5 s4 q1 r6 J b3 l0 q n i2 U h6 b0 I1 A C r Y b9 z3 N u2 Q a3 R k7 b1 x6 o2 e0 r7 n5 w2 z0 o0 v0 I7 e5 f:Addr}(X:K.In h)(G:h.Ns mainGlobals mg)(h7:mg "law"=some (.ref fa))
  (d1:aX K "_law_pot" pO f1)
  (d2:aX K "_law_take" mW f2)
  (d3:aX K "_law_words" kZ f3)
  (d4:aX K "_law_pick" mq f4)
  (d5:aX K "_law_sum" pD f5)
  (d6:aX K "_law_waits" lE f6)
  (d7:aX K "_law_do" sC f7)
  (d8:aX K "_law_deed" nu f8)
  (d9:aX K "_law_room" mM f9)
  (r1:aX K "_law_rooms" kH v1)
  (s8:aX K "_law_first" kX v2)
  (s5:aX K "values_of" mQ w3)
  (b8:aX K "begun_room" lj e6)
  (o1:aX K "begun" yT H6)
  (i1:aX K "_law_is_bound" ig I9)
  (e9:aX K "_law_may" pq w5)
  (r0:aX K "_law_next" mh k3)
  (m0:aX K "_law_program" ja n7)
  (h0:aX K "_law_enter" k0 x1)
  (g3:aX K "_law_leave" k_ y5)
  (h1:aX K "_law_spot" mV o9)
  (h2:aX K "_law_set" pe m1)
  (n2:aX K "_law_end" pX i5)
  (h8:aX K "_law_value" kI r9)
  (h9:aX K "_law_reckon" jH e4)
  (x3:aX K "_law_ring" mj x0)
  (q5:aX K "_law_give" mw b7)
  (u1:aX K "_law_get" oK n8)
  (I6:aX K "_law_counted" iT l6)
  (e7:aX K "_law_row" pj g0)
  (k2:aX K "_law_step" m5 q8)
  (x5:aX K "last_frame" kq l3)
  (a6:aX K "program_of" lB r2)
  (j1:aX K "names_of" pT m2)
  (v4:aX K "place_of" pM e2)
  (l1:aX K "with_part" mY w1)
  (q2:aX K "with_hand" lU n1)
  (H7:aX K "with_room" mv l2)
  (p4:aX K "put_thing" lV a5)
  (k5:aX K "value_of_two" iX s4)
  (g4:aX K "value_of" oJ q1)
  (M2:aX K "reckoned" pA r6)
  (z5:aX K "by_put" vF J)
  (I4:aX K "with_last_frame" gq b3)
  (m9:aX K "at_row" wG l0)
  (g1:aX K "by_unless" m6 q)
  (c0:aX K "by_go" zM n)
  (t1:aX K "come_in" r8 i2)
  (n4:aX K "by_do" yQ U)
  (c2:aX K "bell_of" sf h6)
  (t3:aX K "with_line" mK b0)
  (c5:aX K "leave" Au I1)
  (e1:aX K "by_wait" rR A)
  (c1:aX K "by_call" sN C)
  (s3:aX K "by_all" vW r)
  (l5:aX K "by_tell" qX Y)
  (c3:aX K "with_pass" lY b9)
  (q3:aX K "taken" zq z3)
  (I3:aX K "by_take" sx N)
  (q9:aX K "given_back" lA u2)
  (h3:aX K "by_give" sA Q)
  (t2:aX K "by_pass" sJ a3)
  (z7:aX K "by_say" wx R)
  (v6:aX K "row_done" oX k7)
  (s1:aX K "end_deed" pK b1)
  (k6:aX K "step_of" rS x6)
  (q6:aX K "hands_at" pL o2)
  (b5:aX K "hands_in_rows" ik e0)
  (g2:aX K "is_behind_all" iu r7)
  (z2:aX K "may_step" pk n5)
  (p1:aX K "stepped" rq w2)
  (I2:aX K "_law_same" mT z0)
  (c6:aX K "_law_frozen" jJ o0)
  (k9:aX K "_law_walk" nh v0)
  (o6:aX K "_law_own" pI I7)
  (s7:aX K "_law_world" kD e5)
  {oc kV dc pm cd ct:Value} {od an:Option Addr} {sl:Array (Option Value)} (w0:PySem.W.nsIn K mainGlobals "law"=some (some (.ref f))) (H8:K.lookup f=some ⟨oc,od,.func (PySem.W.fnOf "law" "law" (iG qN) (fL qN) (aB qN) .none kV dc pm an cd ct),sl⟩) (w4:PySem.W.codeIn K cd "law"=true) (v3:PySem.W.keepIn K (.ref f)=true)
  {iU:Tok} (G6:PySem.W.nsIn K mainGlobals "NOBODY"=some (some (.int (-1) iU)))
  {kd:Tok} (Ow:PySem.W.nsIn K mainGlobals "OWN"=some (some (.int (-1) kd)))
  {jZ:Tok} (Fu:PySem.W.nsIn K mainGlobals "HIGHEST"=some (some (.int (9) jZ)))
  {xT C_:Nat} {zV zA y6 Ae yz Ai zi Ar zX y4 xb wR:Tok} (Fi:PySem.W.nsIn K mainGlobals "DONE_BY"=some (some (.ref xT))) (D1:K.lookup xT=some ⟨.type "dict",none,.dict (List.toArray [⟨PyData.keyHash w.params "put",.str "put" zV,.ref J⟩,⟨PyData.keyHash w.params "unless",.str "unless" zA,.ref q⟩,⟨PyData.keyHash w.params "go",.str "go" y6,.ref n⟩,⟨PyData.keyHash w.params "do",.str "do" Ae,.ref U⟩,⟨PyData.keyHash w.params "wait",.str "wait" yz,.ref A⟩,⟨PyData.keyHash w.params "call",.str "call" Ai,.ref C⟩,⟨PyData.keyHash w.params "all",.str "all" zi,.ref r⟩,⟨PyData.keyHash w.params "tell",.str "tell" Ar,.ref Y⟩,⟨PyData.keyHash w.params "take",.str "take" zX,.ref N⟩,⟨PyData.keyHash w.params "give",.str "give" y4,.ref Q⟩,⟨PyData.keyHash w.params "pass",.str "pass" xb,.ref a3⟩,⟨PyData.keyHash w.params "say",.str "say" wR,.ref R⟩]) C_,#[]⟩)
  (MN:PySem.W.nsIn K mainGlobals "len"=some none) (J1:PySem.W.nsIn K mainGlobals "tuple"=some none) (MD:PySem.W.nsIn K mainGlobals "list"=some none) (K6:PySem.W.nsIn K mainGlobals "dict"=some none) (NJ:PySem.W.nsIn K mainGlobals "set"=some none) (Nq:PySem.W.nsIn K mainGlobals "int"=some none) (NZ:PySem.W.nsIn K mainGlobals "str"=some none) (Ma:PySem.W.nsIn K mainGlobals "bool"=some none) (MS:PySem.W.nsIn K mainGlobals "all"=some none) (M5:PySem.W.nsIn K mainGlobals "any"=some none) (JD:PySem.W.nsIn K mainGlobals "range"=some none) (M0:PySem.W.nsIn K mainGlobals "zip"=some none) (Hh:PySem.W.nsIn K mainGlobals "sorted"=some none) (yH:PySem.W.nsIn K mainGlobals "isinstance"=some none) (NK:PySem.W.nsIn K mainGlobals "min"=some none) (NR:PySem.W.nsIn K mainGlobals "max"=some none) (NI:PySem.W.nsIn K mainGlobals "abs"=some none) (Bv:PySem.W.nsIn K mainGlobals "enumerate"=some none)
  (T:∀ns:List Int,ns.length<=63->∃S',JC [.ref 0] [.frz (ns.map D.int)]=some (.d (.bl true),S')):
  ∃fd:FuncData,(∀(s:Shared) (v:Value),BindsTo s fd ⟨[v],[]⟩ [("_law_script",v)])/\∀base:Heap,K.In base->base.Ns mainGlobals mg->bh l.prog w K mg base dm 15 fa fd Hg BD:=by
 have e:=h7.symm.trans (PySem.W.mg_of X G w0)
 cases e
 have o3:=CG (st:=qN) H8 w4 v3
 have O1:=d1.ok1 (ps:=Eo) X G
 have O2:=d2.ok1 (ps:=EG) X G
 have O3:=d3.ok1 (ps:=Ei) X G
 have O4:=d4.ok1 (ps:=BJ) X G
 have O5:=d5.ok1 (ps:=xF) X G
 have O6:=d6.ok1 (ps:=Ec) X G
 have O7:=d7.ok1 (ps:=Ep) X G
 have O8:=d8.ok1 (ps:=Es) X G
 have O9:=d9.ok1 (ps:=EC) X G
 have l7:=r1.ok1 (ps:=D_) X G
 have e3:=s8.ok1 (ps:=EN) X G
 have b4:=s5.ok1 (ps:=vS) X G
 have s2:=b8.ok1 (ps:=AM) X G
 have n3:=o1.ok1 (ps:=An) X G
 have o8:=i1.ok1 (ps:=Ji) X G
 have c4:=e9.ok1 (ps:=Eg) X G
 have x2:=r0.ok1 (ps:=Cm) X G
 have w8:=m0.ok1 (ps:=AL) X G
 have w7:=h0.ok1 (ps:=BC) X G
 have s0:=g3.ok1 (ps:=Cp) X G
 have a4:=h1.ok1 (ps:=Cn) X G
 have z1:=h2.ok1 (ps:=Ey) X G
 have H0:=n2.ok1 (ps:=ua) X G
 have r3:=h8.ok1 (ps:=xC) X G
 have s9:=h9.ok1 (ps:=E9) X G
 have o4:=x3.ok1 (ps:=kc) X G
 have q4:=q5.ok1 (ps:=AN) X G
 have r5:=u1.ok1 (ps:=Ce) X G
 have k4:=I6.ok1 (ps:=kc) X G
 have n9:=e7.ok1 (ps:=kc) X G
 have l8:=k2.ok1 (ps:=ua) X G
 have x4:=x5.ok1 (ps:=AK) X G
 have h4:=a6.ok1 (ps:=yU) X G
 have z6:=j1.ok1 (ps:=Ct) X G
 have e8:=v4.ok1 (ps:=Bf) X G
 have I5:=l1.ok1 (ps:=Bu) X G
 have f0:=q2.ok1 (ps:=AR) X G
 have b6:=H7.ok1 (ps:=B4) X G
 have g5:=p4.ok1 (ps:=Ab) X G
 have j4:=k5.ok1 (ps:=B0) X G
 have u8:=g4.ok1 (ps:=rM) X G
 have n6:=M2.ok1 (ps:=yZ) X G
 have P:=z5.ok1 (ps:=bo) X G
 have p3:=I4.ok1 (ps:=EU) X G
 have j5:=m9.ok1 (ps:=EJ) X G
 have M:=g1.ok1 (ps:=bo) X G
 have L:=c0.ok1 (ps:=bo) X G
 have k1:=t1.ok1 (ps:=E7) X G
 have o:=n4.ok1 (ps:=bo) X G
 have I8:=c2.ok1 (ps:=zE) X G
 have b2:=t3.ok1 (ps:=Ed) X G
 have N0:=c5.ok1 (ps:=zw) X G
 have a2:=e1.ok1 (ps:=bo) X G
 have a1:=c1.ok1 (ps:=bo) X G
 have t:=s3.ok1 (ps:=bo) X G
 have u:=l5.ok1 (ps:=bo) X G
 have t0:=c3.ok1 (ps:=Ax) X G
 have h5:=q3.ok1 (ps:=zZ) X G
 have a0:=I3.ok1 (ps:=bo) X G
 have o7:=q9.ok1 (ps:=zW) X G
 have y:=h3.ok1 (ps:=bo) X G
 have H:=t2.ok1 (ps:=bo) X G
 have z:=z7.ok1 (ps:=bo) X G
 have o5:=v6.ok1 (ps:=bo) X G
 have x7:=s1.ok1 (ps:=fc) X G
 have s6:=k6.ok1 (ps:=fc) X G
 have l9:=q6.ok1 (ps:=BG) X G
 have z8:=b5.ok1 (ps:=zo) X G
 have t4:=g2.ok1 (ps:=fc) X G
 have l4:=z2.ok1 (ps:=zY) X G
 have p2:=p1.ok1 (ps:=fc) X G
 have r4:=I2.ok1 (ps:=CJ) X G
 have H9:=c6.ok1 (ps:=EB) X G
 have y1:=k9.ok1 (ps:=EK) X G
 have q7:=o6.ok1 (ps:=El) X G
 have L2:=s7.ok1 (ps:=Fb) X G
 have j6:=PySem.W.mg_of X G G6
 have j:=PySem.W.mg_of X G Ow
 have nO:=PySem.W.mg_of X G Fu
 have sE:E1 l.prog w K mg "DONE_BY" nB:=HI (PySem.W.mg_of X G Fi) D1 (.cons P.m (.cons M.m (.cons L.m (.cons o.m (.cons a2.m (.cons a1.m (.cons t.m (.cons u.m (.cons a0.m (.cons y.m (.cons H.m (.cons z.m .nil)))))))))))) (by decide +kernel)
 have B:Bl mg:=⟨QFq X G MN,QFq X G J1,QFq X G MD,QFq X G K6,QFq X G NJ,QFq X G Nq,QFq X G NZ,QFq X G Ma,QFq X G MS,QFq X G M5,QFq X G JD,QFq X G M0,QFq X G Hh,QFq X G yH,QFq X G NK,QFq X G NR,QFq X G NI,QFq X G Bv⟩
 refine⟨PySem.W.fnOf "law" "law" (iG qN) (fL qN) (aB qN) .none kV dc pm an cd ct,λs v=>.of_eq rfl,λbase _ _=> ?_⟩
 have Z:Pk l.prog w base:=⟨⟩
 have u7:=O1.cal Z λ_ F _ _ _=>Bc F B
 have a:=O2.cal Z λ_ F _ _ _=>z_ F B
 have eM:=O3.cal Z λ_ F _ _ _=>wV F B a
 have g:=O4.cal Z λ_ F _ _ _=>yO F B a
 have eG:=O5.cal Z λ_ F b k m=>sQ F B a g b k m 4
 have qM:=O6.cal Z λ_ F _ _ _=>xa F B eG a g
 have nW:=O7.cal Z λ_ F _ _ _=>DH F B g eG
 have sY:=O8.cal Z λ_ F _ _ _=>yI F B a qM g nW eG
 have nc:=O9.cal Z λ_ F _ _ _=>Ad F B g eM a sY
 have p5:=l7.cal Z λ_ F _ _ _=>wW F B eM a nc
 have qJ:=e3.cal Z λ_ F _ _ _=>xA F B
 have jo:=b4.cal Z λ_ F _ _ _=>yA F B
 have qS:=s2.cal Z λ_ F _ _ _=>w6 F B jo j6
 have Ef:=n3.cal Z λ_ F _ _ _=>GJ F B jo qS j
 have lK:=o8.cal Z λ_ F _ _ _=>sI F B
 have u_:=c4.cal Z λ_ F _ _ _=>Bh F B lK
 have t7:=x2.cal Z λ_ F _ _ _=>Aw F B a g
 have gu:=w8.cal Z λ_ F _ _ _=>uu F B
 have iE:=w7.cal Z λ_ F _ _ _=>xf F B
 have iD:=s0.cal Z λ_ F _ _ _=>xv F B
 have eB:=a4.cal Z λ_ F _ _ _=>Av F B
 have kA:=z1.cal Z λ_ F _ _ _=>BE F B eB
 have vq:=H0.cal Z λ_ F _ _ _=>Cj F B iD gu kA
 have lC:=r3.cal Z λ_ F b k m=>oB F B b k m 5
 have gW:=s9.cal Z λ_ F _ _ _=>wF F B lC
 have s_:=o4.cal Z λ_ F _ _ _=>zh F B eB gW iD
 have tf:=q4.cal Z λ_ F _ _ _=>zC F B
 have wb:=r5.cal Z λ_ F _ _ _=>Bi F B
 have l_:=k4.cal Z λ_ F _ _ _=>uj F B tf eB wb
 have vf:=n9.cal Z λ_ F _ _ _=>AS F B kA gW eB iE s_ l_
 have tE:=l8.cal Z λ_ F _ _ _=>zJ F B gu iE vq vf
 have c:=x4.cal Z λ_ F _ _ _=>xj F B
 have fq:=h4.cal Z λ_ F _ _ _=>xx F B j
 have gR:=z6.cal Z λ_ F _ _ _=>BH F B
 have S:=e8.cal Z λ_ F _ _ _=>AB F B gR
 have I:=I5.cal Z λ_ F _ _ _=>y_ F B
 have eC:=f0.cal Z λ_ F _ _ _=>ze F B I
 have c7:=b6.cal Z λ_ F _ _ _=>yE F B I
 have jn:=g5.cal Z λ_ F _ _ _=>Am F B c S I c7 gR eC j
 have i9:=j4.cal Z λ_ F _ _ _=>ud F B nO
 have pU:=u8.cal Z λ_ F b k m=>sS F B i9 b k m 6
 have i:=n6.cal Z λ_ F _ _ _=>AG F B c gR pU j
 have GQ:=P.cal Z λ_ F _ _ _=>FW F B jn i
 have eV:=p3.cal Z λ_ F _ _ _=>pd F B eC
 have jW:=j5.cal Z λ_ F _ _ _=>FG F B c eV
 have Bs:=M.cal Z λ_ F _ _ _=>zf F B i jW
 have Jz:=L.cal Z λ_ F _ _ _=>GS F B jW
 have nM:=k1.cal Z λ_ F _ _ _=>Dw F B c7 j6
 have JU:=o.cal Z λ_ F _ _ _=>Iw F B S i nM eC
 have iK:=I8.cal Z λ_ F _ _ _=>Dz F B c S
 have fX:=b2.cal Z λ_ F _ _ _=>Aq F B c7 I
 have uI:=N0.cal Z λ_ F _ _ _=>IW F B c7 j6
 have F4:=a2.cal Z λ_ F _ _ _=>CH F B iK i fX uI
 have Gw:=a1.cal Z λ_ F _ _ _=>D2 F B iK fX c7
 have Ig:=t.cal Z λ_ F _ _ _=>F_ F B iK fX
 have Fq:=u.cal Z λ_ F _ _ _=>De F B i eV c
 have jy:=t0.cal Z λ_ F _ _ _=>zD F B I
 have uT:=h5.cal Z λ_ F _ _ _=>Hl F B S jy
 have FB:=a0.cal Z λ_ F _ _ _=>C6 F B uT
 have iC:=o7.cal Z λ_ F _ _ _=>xl F B S jy nO
 have FJ:=y.cal Z λ_ F _ _ _=>Dy F B iC
 have FU:=H.cal Z λ_ F _ _ _=>DP F B uT iC
 have HW:=z.cal Z λ_ F _ _ _=>FE F B
 have vV:∀x F,v7.lookup x=some F->eA l.prog w K mg base 10 x bo F:=by
  refine IC λp hp=> ?_
  simp only[v7,Qsq,QXq,or_false] at hp
  rcases hp with rfl|rfl|rfl|rfl|rfl|rfl|rfl|rfl|rfl|rfl|rfl|rfl
  ·exact GQ.mono (by decide)
  ·exact Bs.mono (by decide)
  ·exact Jz.mono (by decide)
  ·exact JU.mono (by decide)
  ·exact F4.mono (by decide)
  ·exact Gw.mono (by decide)
  ·exact Ig.mono (by decide)
  ·exact Fq.mono (by decide)
  ·exact FB.mono (by decide)
  ·exact FJ.mono (by decide)
  ·exact FU.mono (by decide)
  ·exact HW.mono (by decide)
 have vc:=o5.cal Z λ_ F _ _ _=>Bg F B vV sE
 have wm:=x7.cal Z λ_ F _ _ _=>AW F B eC uI fq jn
 have x_:=s6.cal Z λ_ F _ _ _=>DK F B c nM fq wm i vc jW j
 have uV:=l9.cal Z λ_ F _ _ _=>B9 F B
 have lJ:=z8.cal Z λ_ F _ _ _=>sG F B uV
 have lI:=t4.cal Z λ_ F _ _ _=>sm F B c fq j
 have wy:=l4.cal Z λ_ F _ _ _=>BL F B lJ lI
 have xX:=p2.cal Z λ_ F _ _ _=>DB F B wy x_
 have mO:=r4.cal Z λ_ F b k m=>p6 F B b k m 10
 have oo:=H9.cal Z λ_ F _ _ _=>wu F B
 have tq:=y1.cal Z λ_ F _ _ _=>zy F B qJ Ef u_ t7 tE xX mO oo
 have we:=q7.cal Z λ_ F _ _ _=>Cd F B a nW g eG
 have qz:=L2.cal Z λ_ F _ _ _=>xi F B eM a we
 exact JS (LX o3 B u7 p5 a tq qz) T
end W28
namespace DL
open PySem PySem.Spec L2
def mR{a:cB}{S:aE}{Q:Bool->aE->Prop}(q:Q true S):E bL a S Q:=⟨_,_,rfl,q⟩
section
variable{S:aE}
def KI{i j:Int}{Q:D->Prop}(q:Q (.int (i+j))):Op (cz S (.int i) (.int j)) Q:=⟨_,rfl,q⟩
def Lc{i j:Str}{Q:D->Prop}(h:i.length+j.length<=sizeLine)(q:Q (.str (i++j))):Op (cz S (.str i) (.str j)) Q:=⟨_,by simp only[cz];rw[Qhq h],q⟩
def fe{i j:List D}{Q:D->Prop}(h:i.length+j.length<=sizeLine)(q:Q (.tup (i++j))):Op (cz S (.tup i) (.tup j)) Q:=⟨_,by simp only[cz];rw[Qhq h],q⟩
def gB{k:Int->Int->D}{i j:Int}{Q:D->Prop}(q:Q (k i j)):Op (intD (λ_ _=>True) k S (.int i) (.int j)) Q:=⟨_,by simp only[intD,if_true],q⟩
def vM{i j:Int}{Q:D->Prop}(h:0<j)(q:Q (.int (i%j))):Op (uh S (.int i) (.int j)) Q:=⟨_,by simp only[uh,intD];rw[Qhq h],q⟩
def GX{i j:Int}{Q:D->Prop}(h:G9 i j)(q:Q (.int (i/j))):Op (AY S (.int i) (.int j)) Q:=⟨_,by simp only[AY,intD];rw[Qhq h],q⟩
def u5{i j:Int}{Q:D->Prop}(h:Hi i j)(q:Q (.int (i*j))):Op (n0 S (.int i) (.int j)) Q:=⟨_,by simp only[n0,intD];rw[Qhq h.ok],q⟩
def ay{ds:List D}{i:Int}{d:D}{Q:D->Prop}(h:kj ds i=some d)(q:Q d):Op (fK S (.tup ds) (.int i)) Q:=⟨_,h,q⟩
def bK{k:Nat}{ds:List D}{i:Int}{d:D}{Q:D->Prop}(a:S[k]?=some (.lst ds))(h:kj ds i=some d)(q:Q d):Op (fK S (.ref k) (.int i)) Q:=⟨_,by simp only[fK,a];exact h,q⟩
def cy{ds:List D}{Q:List D×Tag->Prop}(q:Q (ds,.tu)):Op (wI S (.tup ds)) Q:=⟨_,rfl,q⟩
def a_{k:Nat}{ds:List D}{Q:List D×Tag->Prop}(a:S[k]?=some (.lst ds))(q:Q (ds,.st k)):Op (wI S (.ref k)) Q:=⟨_,by simp only[wI,a],q⟩
def Nu{α:Type}{o:Option α}{d:α}{Q:α->Prop}(h:o=some d)(q:Q d):Op o Q:=⟨d,h,q⟩
end
def aK{b:Bool}{p q:Prop}(a:b=true->p)(c:b=false->q):if b=true then p else q:=by
 cases b with
 |true=>exact a rfl
 |false=>exact c rfl
end DL
local macro_rules|`(tactic|symm)=>do
 let mut a:Array (Lean.TSyntax `Lean.Parser.Tactic.tacticSeq):= #[]
 for s in (["aI","Q0","wD","Pz","bO","eX","Ly","cK","uc","eg","bX","QN","aY","cC","az","aZ","sR","dE","dY","BN","bV","qA","x9","rH","rD","qy","cj","D7","cG","Ci","vo","pE","Fg","NO","mR","aV","Js","HZ","j_","KI","gB","cy"]:List String) do a:=a.push (←`(tacticSeq|refine $(Lean.mkIdent (.str (.str .anonymous "DL") s)) ?_))
 `(tactic|repeat(first|(with_reducible first $[| $a]*)|((with_reducible refine DL.Q2 ?_); intro _)|((with_reducible refine DL.aw (d := ?_) ?_ ?_); rotate_left; rfl)|dsimp only [DL.a7, DL.aM, DL.a9, DL.bR, DL.bU, DL.eZ]))
local macro_rules|`(tactic|apply $e)=>`(tactic|(refine $e;symm))
namespace W28
open PySem PySem.Spec L2 DL
def rZ(a b c:Int):O:=.lst [.int a,.int b,.int c]
def Fo{S:aE}{k:Nat}{a b p m:Int}{Q:Res->aE->Prop}(e:S[k]?=some (rZ a b p))(g:0<m)(s:m<1000000)
  (h:∀(d n q r:Int),0<=d->d<m->Q (.d (.int d)) (S.set k (rZ n q r))):Fn aH [.ref k,.int m] S Q:=by
 have l:k<S.length:=(gQs.mp e).1
 have j:∀(o:O),(S.set k o).take S.length=S.set k o:=λo=>by rw[List.take_of_length_le];simp
 refine bZ ?_
 unfold pY
 symm
 refine bK e rfl ?_
 symm
 refine aK (λc=> ?_) (λc=> ?_)
 ·symm
  refine bK e rfl ?_
  symm
  refine vM g ?_
  symm
  refine bK e rfl ?_
  symm
  refine GX ⟨g,by omega⟩ ?_
  symm
  refine⟨_,_,_,_,rfl,rfl,e,rfl,?_⟩
  symm
  refine iM (yl (by rfl)) (j _) (λ_ z=>by cases z) rfl ?_
  exact h _ _ _ _ (Int.emod_nonneg _ (by omega)) (Int.emod_lt_of_pos _ g)
 ·symm
  refine⟨_,_,_,_,rfl,rfl,e,by decide,rfl,?_⟩
  symm
  refine⟨_,_,_,rfl,e,rfl,?_⟩
  have f:∀o:O,(S.set k o)[k]?=some o:=λo=>by rw[Qyq l]
  symm
  refine bK (f _) rfl ?_
  symm
  refine u5 (.inr ⟨by decide,by decide⟩) ?_
  symm
  refine bK (f _) rfl ?_
  refine u5 (.inl ⟨by decide,by decide⟩) ?_
  symm
  refine vM (by decide) ?_
  generalize i:(b*69069+9973*_+5)%2305843009213693921=mx
  have u:0<=mx:=by rw[←i];exact Int.emod_nonneg _ (by decide)
  have t:mx<2305843009213693921:=by rw[←i];exact Int.emod_lt_of_pos _ (by decide)
  symm
  refine vM (by decide) ?_
  symm
  refine bK (f _) rfl ?_
  refine u5 (.inl ⟨by decide,by decide⟩) ?_
  symm
  refine u5 (.inl ⟨by omega,by omega⟩) ?_
  symm
  refine vM (by decide) ?_
  symm
  refine⟨_,_,_,_,rfl,rfl,f _,rfl,?_⟩
  symm
  refine bK (by rw[List.set_set];exact f _) rfl ?_
  symm
  refine GX ⟨by decide,by decide⟩ ?_
  symm
  refine vM g ?_
  symm
  rw[List.set_set]
  refine iM (yl (by rfl)) (j _) (λ_ z=>by cases z) rfl ?_
  exact h _ _ _ _ (Int.emod_nonneg _ (by omega)) (Int.emod_lt_of_pos _ g)
structure Ex(k:Nat)(S S':aE):Prop where
 len:S.length<=S'.length
 keep:∀(j:Nat) (o:O),j≠k->S[j]?=some o->S'[j]?=some o
 pot:∃a b c,S'[k]?=some (rZ a b c)
def Ex.refl{k:Nat}{S:aE}{a b c:Int}(h:S[k]?=some (rZ a b c)):Ex k S S:=⟨Qmq _,λ_ _ _ h=>h,_,_,_,h⟩
def Ex.trans{k:Nat}{S a S2:aE}(x:Ex k S a)(y:Ex k a S2):Ex k S S2:=⟨QAq x.len y.len,λj o n h=>y.keep j o n (x.keep j o n h),y.pot⟩
def Ex.set{k:Nat}{S d:aE}{a b c:Int}(x:Ex k S d):Ex k S (d.set k (rZ a b c)):=by
 obtain⟨_,_,_,h⟩:=x.pot
 refine⟨by simpa using x.len,λj o n h=> ?_,a,b,c,Qyq (gQs.mp h).1⟩
 rw[QKq (Ne.symm n)]
 exact x.keep j o n h
def Ex.app{k:Nat}{S d G:aE}(x:Ex k S d):Ex k S (d++G):=by
 obtain⟨a,b,c,h⟩:=x.pot
 refine⟨by rw[lQa];have:=x.len;omega,λj o n h=> ?_,a,b,c,?_⟩
 ·have:=x.keep j o n h
  rw[QHq (gQs.mp this).1]
  exact this
 ·rw[QHq (gQs.mp h).1]
  exact h
def Ex.put{k r:Nat}{S d:aE}{o:O}(x:Ex k S d)(i:S.length<=r)(f:k<S.length):Ex k S (d.set r o):=by
 obtain⟨a,b,c,h⟩:=x.pot
 refine⟨by simpa using x.len,λj e n h=> ?_,a,b,c,?_⟩
 ·have g:=(gQs.mp h).1
  rw[QKq (by omega)]
  exact x.keep j e n h
 ·rw[QKq (by omega)]
  exact h
def Ex.lt{k:Nat}{S d:aE}(x:Ex k S d):k<d.length:=by
 obtain⟨a,b,c,h⟩:=x.pot
 exact(gQs.mp h).1
def aO{S G:aE}{j:Nat}{o:O}(h:S[j]?=some o):(S++G)[j]?=some o:=by
 rw[QHq (gQs.mp h).1]
 exact h
def aN{S:aE}{o:O}:(S++ [o])[S.length]?=some o:=by simp
def fD{S:aE}{k j:Nat}{o a:O}(n:j≠k)(h:S[j]?=some o):(S.set k a)[j]?=some o:=by
 rw[QKq (Ne.symm n)]
 exact h
def cQ{S:aE}{j:Nat}{o a:O}(h:S[j]?=some o):(S.set j a)[j]?=some a:=Qyq (gQs.mp h).1
def Ex.clean{k:Nat}{S f:aE}(x:Ex k S f)(l:k<S.length):qj S f/\∃a b c,f.take S.length=S.set k (rZ a b c):=by
 obtain⟨a,b,c,h⟩:=x.pot
 have g:∀j,j<S.length->f[j]?=(S.set k (rZ a b c))[j]? :=λj d=>by
  by_cases e:j=k
  ·subst e
   rw[h,Qyq d]
  ·rw[QKq (Ne.symm e),x.keep j _ e (gQe d),gQe d]
 refine⟨⟨x.len,λj o d e=> ?_⟩,a,b,c,?_⟩
 ·by_cases i:j=k
  ·subst i
   rw[h] at e
   cases e
   exact .inr rfl
  ·rw[x.keep j _ i (gQe d)] at e
   rw[gQe d]
   exact .inl e
 ·apply List.ext_getElem?
  intro j
  by_cases d:j<S.length
  ·rw[List.getElem?_take_of_lt d]
   exact g j d
  ·rw[List.getElem?_eq_none (by rw[Qxq];omega),List.getElem?_eq_none (by simp;omega)]
def lT{k:Nat}{S e:aE}{d:D}{Q:Res->aE->Prop}(x:Ex k S e)(g:k<S.length)(hd:∀k,d≠.ref k)(f:cq S.length d=true)(q:∀a b c,Q (.d d) (S.set k (rZ a b c))):Op (settle S d e) λp=>Q p.1 p.2:=by
 obtain⟨i,a,b,c,h⟩:=x.clean g
 exact iM i h hd f (q a b c)
def KL{k:Nat}{S d:aE}{ds:List D}{Q:Res->aE->Prop}(x:Ex k S d)(f:k<S.length)(e:cg S.length ds=true)(q:∀a b c,Q (.l ds) (S.set k (rZ a b c))):Op (eJ S ds d) λp=>Q p.1 p.2:=by
 obtain⟨h,a,b,c,g⟩:=x.clean f
 exact pR h g e (q a b c)
def bQ{S S0:aE}{k:Nat}{m:Int}{Q:Res->aE->Prop}(x:Ex k S0 S)(j:0<m)(g:m<1000000)
  (h:∀(d:Nat) (e:aE),(d:Int)<m->Ex k S0 e->Ex k S e->e.length=S.length->Q (.d (.int d)) e):Fn aH [.ref k,.int m] S Q:=by
 obtain⟨a,b,c,f⟩:=x.pot
 refine Fo f j g λd o p q l i=> ?_
 obtain⟨n,rfl⟩:∃n:Nat,d=n:=⟨d.toNat,by omega⟩
 exact h n _ i x.set (Ex.refl f).set (by simp)
def aW{α:Type}{xs:List α}{j:Nat}{x:α}(h:xs[j]?=some x):kj xs (j:Int)=some x:=by
 have a:=(gQs.mp h).1
 unfold kj C7
 rw[Qhq (by omega),Qhq (by omega)]
 simpa using h
def ft{S S0:aE}{k i:Nat}{xs:List D}{Q:Res->aE->Prop}(x:Ex k S0 S)(hi:i≠k)(l:S[i]?=some (.lst xs))(s:0<xs.length)(t:xs.length<1000)(p:∀d∈xs,(∀k,d≠.ref k)/\cq 0 d=true)
  (g:∀d∈xs,cq S.length d=true)
  (h:∀(d:D) (e:aE),d∈xs->Ex k S0 e->Ex k S e->e.length=S.length->Q (.d d) e):Fn bN [.ref k,.ref i] S Q:=by
 have y:Ex k S S:=by obtain⟨a,b,c,n⟩:=x.pot;exact Ex.refl n
 refine bZ ?_
 unfold oN
 symm
 apply a_ l ?_
 refine bQ y (by show(0:Int)<xs.length;omega) (by show(xs.length:Int)<1000000;omega) λd e q m r o=> ?_
 dsimp only[a7,aM,a9,bR,bU,eZ]
 have f:d<xs.length:=by have:(d:Int)<(xs.length:Int):=q;omega
 refine bK (m.keep _ _ hi l) (aW (gQe f)) ?_
 have j:=List.getElem_mem f
 refine lT m x.lt (p _ j).1 (g _ j) λa b c=> ?_
 exact h _ _ j x.set y.set (by simp)
end W28
namespace DL
open PySem PySem.Spec L2
mutual
theorem dS{m:Nat}:∀{d:D},cq 0 d=true->cq m d=true
 |.non,_=>rfl
 |.bl _,_=>rfl
 |.int _,_=>rfl
 |.str _,_=>rfl
 |.tup ds,h=>by simp only[cq] at h⊢;exact j9 h
 |.ref k,h=>by simp[cq] at h
 |.fn _,_=>rfl
theorem j9{m:Nat}:∀{ds:List D},cg 0 ds=true->cg m ds=true
 | [],_=>rfl
 | d::ds,h=>by
   simp only[cg,QCq] at h⊢
   exact⟨dS h.1,j9 h.2⟩
end
theorem zL{m:Nat}:∀{ds:List D},(∀d∈ds,cq m d=true)->cg m ds=true
 | [],_=>rfl
 | d::ds,h=>by
   simp only[cg,QCq]
   exact⟨h d (QBq ..),zL λe a=>h e (Qpq _ a)⟩
def bf{α:Type}{m:Nat}{f:α->D}{l:List α}(h:∀a∈l,cq m (f a)=true):cg m (l.map f)=true:=zL λd c=>by
 obtain⟨a,b,rfl⟩:=Qkq.mp c
 exact h a b
theorem xJ:∀ss:List Str,yn (ss.map D.str)=some ss
 | []=>rfl
 |s::ss=>by simp only[QDq,yn];rw[xJ ss];rfl
def Mw{b:cB}{S:aE}{f:fu}{Q:List D->aE->Prop}(h:E f b S λp a=>p.2.isL=true/\∃ss:List Str,p.1=ss.map D.str/\ss.length<64/\Q ((rX ss).map D.str) a):E (E5 f) b S Q:=by
 obtain⟨p,a,d,l,ss,c,e,q⟩:=h
 exact⟨_,a,by unfold E5;rw[d];simp only[Qbq];rw[Qhq l,c,xJ];simp only[Qbq];rw[Qhq e],q⟩
end DL
namespace W28
open PySem PySem.Spec L2 DL
def six:List Str:= ["a","b","c","d","e","zz"]
theorem rV{α a:Type}(g:α->a):∀(l:List α) (k:Nat),(l.map g).eraseIdx k=(l.eraseIdx k).map g
 | [],_=>rfl
 |_::_,0=>rfl
 |x::l,k+1=>congrArg (g x::·) (rV g l k)
def Bt{α:Type}{b a c:List α}{j:Nat}(d:j<a.length)(h:(b++a).Perm c):((b++ [a[j]])++a.eraseIdx j).Perm c:=by
 refine List.Perm.trans ?_ h
 rw[Qvq]
 refine List.Perm.append_left b ?_
 show(a[j]::a.eraseIdx j).Perm a
 rw[List.eraseIdx_eq_take_drop_succ]
 have e:a=a.take j++a[j]::a.drop (j+1):=by rw[←QWq d,List.take_append_drop]
 refine List.Perm.trans ?_ (List.Perm.of_eq e.symm)
 exact List.perm_middle.symm
def Iu{n j:Nat}(h:j<n)(a:n<1000):seqIndex? (j:Int) n=some j:=(zx (by unfold C7;rw[Qhq (by omega),Qhq (by omega)];simp)).1
def iY{S S0:aE}{k:Nat}{e:Str}{g:Int}{Q:Res->aE->Prop}(x:Ex k S0 S)(hm:0<=g)(P:g<=6)(R:e.length<=1)
  (h:∀(ws:List Str) (s:aE),(∃l,(ws++l).Perm (six.map (e++·)))->(ws.length:Int)=g->Ex k S0 s->Ex k S s->s.length=S.length->Q (.l (ws.map D.str)) s):Fn c8 [.ref k,.str e,.int g] S Q:=by
 have y:Ex k S S:=by obtain⟨a,b,c,U⟩:=x.pot;exact Ex.refl U
 refine bZ ?_
 unfold mr
 symm
 apply jB ?_
 refine⟨by decide,⟨λn f s i=>f= [f.getD 0 none,some (.str e)]/\s=S/\i=((six.take n).map (e++·)).map D.str,⟨rfl,rfl,rfl⟩,λn f s i h=>trivial,λn d f s i F ⟨t,u,p⟩=> ?_,λf s i ⟨_,u,p⟩=> ?_⟩⟩
 ·have u:=u.symm
  subst u p
  obtain⟨o,rfl⟩:∃o,f= [o,some (.str e)]:=⟨_,t⟩
  have M:∃z,six[n]?=some z/\d=.str z:=by
   rcases n with _|_|_|_|_|_|n <;>first|(cases F;exact⟨_,rfl,rfl⟩)|(simp at F)
  obtain⟨z,L,rfl⟩:=M
  have Y:z.length<=2:=by
   have:=mQg L
   simp only[six,Qsq,QXq,or_false] at this
   rcases this with rfl|rfl|rfl|rfl|rfl|rfl <;>decide
  symm
  rw[Qhq rfl]
  symm
  refine Lc (QAq (show e.length+z.length<=3 by omega) (by decide)) ?_
  have A:n<6:=(gQs.mp L).1
  refine⟨?_,rfl,rfl,?_⟩
  ·simp only[lQm,Qxq]
   exact Nat.lt_of_le_of_lt (Nat.min_le_left _ _) (Nat.lt_trans A (by decide))
  ·rw[QYq,L]
   simp
 ·have u:=u.symm
  subst u p
  symm
  apply Mw ?_
  apply jB ?_
  refine⟨g,rfl,⟨by omega,by omega⟩,λn f B i=>∃(r m:List Str),f= [f.getD 0 none,some (.ref k),some (.ref S.length)]/\Ex k S B/\B.length=S.length+1/\B[S.length]?=some (.lst (m.map D.str))/\i=r.map D.str/\r.length=n/\(r++m).Perm (six.map (e++·)),?_,λ_ _ _ _ _=>trivial,?_,?_⟩
  ·refine⟨[],six.map (e++·),rfl,y.app,by simp,?_,rfl,rfl,List.Perm.refl _⟩
   exact aN
  ·rintro n d f B i F ⟨r,m,t,H,C,G,rfl,A,hp⟩
   obtain⟨o,rfl⟩:∃o,f= [o,some (.ref k),some (.ref S.length)]:=⟨_,t⟩
   have q:=hp.length_eq
   simp only[lQa,lQm] at q
   have W:six.length=6:=rfl
   have a0:n<6:=by
    have:=(gQs.mp F).1
    simp only[ki,lQm,QVq] at this
    omega
   have N:0<m.length:=by omega
   symm
   rw[Qhq rfl]
   apply fH ?_
   apply⟨_,_,rfl,G,?_⟩
   apply a_ G ?_
   refine bQ H (by simp only[lQm];omega) (by simp only[lQm];omega) λj S3 X Z I K=> ?_
   dsimp only[a7,aM,a9,bR,bU,eZ]
   symm
   have v:j<m.length:=by simpa using X
   have J:S.length≠k:=by have:=x.lt;omega
   have w:=I.keep _ _ J G
   refine⟨_,w,?_⟩
   refine Nu (d:=((m.map D.str).eraseIdx j,D.str m[j])) ?_ ?_
   ·simp only[gS]
    rw[Qhq ⟨by omega,by omega⟩,lQm,Iu v (by omega)]
    simp[gQe v]
   ·refine⟨?_,r++ [m[j]],m.eraseIdx j,rfl,Z.put (Qmq _) x.lt,by simp[K,C],?_,by simp,by simp[A],Bt v hp⟩
    ·simp only[lQm]
     exact Nat.lt_trans (show r.length<6 by omega) (by decide)
    ·rw[cQ w,rV]
  ·rintro f B i ⟨r,m,t,H,C,G,rfl,A,hp⟩
   have q:=hp.length_eq
   simp only[lQa,lQm] at q
   have W:six.length=6:=rfl
   refine⟨rfl,r,rfl,by omega,?_⟩
   refine KL H x.lt (bf λ_ _=>rfl) λa b c=> ?_
   refine h _ _ ⟨m,(QJq m (jv r)).trans hp⟩ ?_ x.set y.set (by simp)
   rw[(jv r).length_eq,A]
   simp only[ki,lQm,QVq]
   omega
end W28
namespace DL
open PySem PySem.Spec L2
def yb{a:cB}{S:aE}{f g:fu}{Q:List D->aE->Prop}(h:E f a S λp b=>E g a b λr S2=>(p.2.isM=true/\r.2.isM=true/\p.2.stays S2 p.1/\p.1.length+r.1.length<=sizeLine)/\Q (p.1++r.1) S2):E (yK f g) a S Q:=by
 obtain⟨p,b,c,r,S2,d,l,q⟩:=h
 exact⟨_,S2,by unfold yK;rw[c];simp only[Qbq];rw[d];simp only[Qbq];rw[Qhq l],q⟩
def dR{S:aE}{i j:Int}{Q:D->Prop}(q:Q (.bl (decide (i=j)))):Op (du false S (.int i) (.int j)) Q:=⟨_,by simp[du,xw,Du],q⟩
def gE{S:aE}{i j:Str}{Q:D->Prop}(q:Q (.bl (decide (i=j)))):Op (du false S (.str i) (.str j)) Q:=⟨_,by simp[du,xw,Du],q⟩
def f_{a:cB}{S:aE}{n:Nat}{g:ph}{ds:List D}{Q:cB->aE->Prop}(d:ds.length=n)(h:N1 g ds a S Q):Tg (lM (nG n g)) (.tup ds) a S Q:=by
 obtain⟨b,c,e,q⟩:=h
 exact⟨b,c,by show nG n g ds a S=_;unfold nG;rw[Qhq d];exact e,q⟩
def bA{a:cB}{S:aE}{Q:cB->aE->Prop}(q:Q a S):N1 dA [] a S Q:=⟨_,_,rfl,q⟩
def aA{b:cB}{S:aE}{f:nR}{g:ph}{d:D}{ds:List D}{Q:cB->aE->Prop}(h:Tg f d b S λa e=>N1 g ds a e Q):N1 (aJ f g) (d::ds) b S Q:=by
 obtain⟨a,e,j,c,i,k,q⟩:=h
 exact⟨c,i,by show(f d b S).bind _=_;rw[j];exact k,q⟩
end DL
namespace W28
open PySem PySem.Spec L2 DL
def ops:List Str:= ["plus","minus","less","same","both"]
inductive Tr where
 |num (n:Nat)|word (x:Str)|waits (b:Str)|no (t:Tr)|two (o:Str) (a b:Tr)
def Tr.d:Tr->D
 |.num n=>.int n
 |.word x=>.str x
 |.waits b=>.tup [.str "waits",.str b]
 |.no t=>.tup [.str "not",t.d]
 |.two o a b=>.tup [.str o,a.d,b.d]
def Tr.Ok(ws bs:List Str):Tr->Prop
 |.num n=>n<=9
 |.word x=>x∈ws
 |.waits b=>b∈bs
 |.no t=>t.Ok ws bs
 |.two o a b=>o∈ops/\a.Ok ws bs/\b.Ok ws bs
def Tr.dep:Tr->Nat
 |.num _=>1
 |.word _=>1
 |.waits _=>1
 |.no t=>t.dep+1
 |.two _ a b=>max a.dep b.dep+1
theorem Tr.low:∀t:Tr,cq 0 t.d=true
 |.num _=>rfl
 |.word _=>rfl
 |.waits _=>rfl
 |.no t=>by simp only[Tr.d,cq,cg];rw[t.low];rfl
 |.two _ a b=>by simp only[Tr.d,cq,cg];rw[a.low,b.low];rfl
def Tr.noref(t:Tr):∀k,t.d≠.ref k:=by
 intro k
 cases t <;>simp[Tr.d]
def eK{ws:List Str}:∀d∈ws.map D.str,(∀k,d≠.ref k)/\cq 0 d=true:=λd b=>by
 obtain⟨a,_,rfl⟩:=Qkq.mp b
 exact⟨λk z=>(nomatch z),rfl⟩
def gf{ws:List Str}{m:Nat}:∀d∈ws.map D.str,cq m d=true:=λd b=>by
 obtain⟨a,_,rfl⟩:=Qkq.mp b
 rfl
def K5{n:Nat}(h:(n:Int)<5):∃o,o∈ops/\kj ([.str "plus",.str "minus",.str "less",.str "same",.str "both"]:List D) (n:Int)=some (.str o):=by
 rcases n with _|_|_|_|_|n
 ·exact⟨"plus",by simp[ops],rfl⟩
 ·exact⟨"minus",by simp[ops],rfl⟩
 ·exact⟨"less",by simp[ops],rfl⟩
 ·exact⟨"same",by simp[ops],rfl⟩
 ·exact⟨"both",by simp[ops],rfl⟩
 ·omega
theorem jC:∀(n:Nat) {S S0:aE} {k i j:Nat} {ws bs:List Str} {deep:Nat} {Q:Res->aE->Prop} (x:Ex k S0 S) (hi:i≠k) (P:j≠k) (X:S[i]?=some (.lst (ws.map D.str))) (hb:S[j]?=some (.lst (bs.map D.str))) (lw:ws.length<1000) (lb:bs.length<1000) (hn:deep<n)
  (h:∀(t:Tr) (f:aE),t.Ok ws bs->t.dep<=deep+1->Ex k S0 f->Ex k S f->f.length=S.length->Q (.d t.d) f),Fn (bC n) [.ref k,.ref i,.ref j,.int deep] S Q
 |0,_,_,_,_,_,_,_,_,_,_,_,_,_,_,_,_,hn,_=>absurd hn (Nat.not_lt_zero _)
 | n+1,S,S0,k,i,j,ws,bs,deep,Q,x,hi,P,X,hb,lw,lb,hn,h=>by
   have y:Ex k S S:=by obtain⟨a,b,c,hh⟩:=x.pot;exact Ex.refl hh
   have u:∀(t:Tr) (f:aE),t.Ok ws bs->t.dep<=deep+1->Ex k S f->Op (settle S t.d f) λp=>Q p.1 p.2:=λt f I h2 e=>lT e x.lt t.noref (dS t.low) λa b c=>h _ _ I h2 x.set y.set (by simp)
   refine bZ ?_
   unfold sM
   symm
   apply bQ y (by decide) (by decide) λw S1 a1 Y _ l1=> ?_
   have a2:=Y.keep _ _ hi X
   have a3:=Y.keep _ _ P hb
   have F:∀l,Ex k S l->T (aD (c9 (ip (aG (cX (aR (ar 1)))) (aG (aQ Jc (ax aH (aq (ar 0) (aq (cF (.int 3)) av))) (cF (.int 0))))) (cx (ax bN (aq (ar 0) (aq (ar 1) av)))) fG)
     (cx (ax aH (aq (ar 0) (aq (aQ fK (bP (bB (aq (cF (.int 3)) (aq (cF (.int 10)) av)))) (uD intOfD (aq (aQ (du false) (ax aH (aq (ar 0) (aq (cF (.int 5)) av))) (cF (.int 0))) av))) av)))))
     [some (.ref k),some (.ref i),some (.ref j),some (.int deep),some (.int w),none] l λo=>match o with|.rt d f=>Op (settle S d f) λp=>Q p.1 p.2|_=>False:=by
     intro l q
     have a0:=q.keep _ _ hi X
     have s:∀U,Ex k S U->T (cx (ax aH (aq (ar 0) (aq (aQ fK (bP (bB (aq (cF (.int 3)) (aq (cF (.int 10)) av)))) (uD intOfD (aq (aQ (du false) (ax aH (aq (ar 0) (aq (cF (.int 5)) av))) (cF (.int 0))) av))) av))))
       [some (.ref k),some (.ref i),some (.ref j),some (.int deep),some (.int w),none] U λo=>match o with|.rt d f=>Op (settle S d f) λp=>Q p.1 p.2|_=>False:=by
       intro U N
       symm
       apply⟨by decide,?_⟩
       apply bQ (N.app (G:= [O.lst [D.int 3,D.int 10]])) (by decide) (by decide) λd S4 hd K J l4=> ?_
       apply dR ?_
       have Z:S4[U.length]?=some (.lst [.int 3,.int 10]):=J.keep _ _ (by have:=N.lt;omega) aN
       have hm:∃m:Int,(m=3\/m=10)/\Op (intOfD [D.bl (decide ((d:Int)=0))]) (λz=>∃r,z=.int r/\kj ([.int 3,.int 10]:List D) r=some (.int m)):=by
         by_cases c:(d:Int)=0
         · exact⟨10,.inr rfl,_,rfl,1,by rw[Qeq c];rfl,rfl⟩
         · exact⟨3,.inl rfl,_,rfl,0,by rw[Qdq c];rfl,rfl⟩
       obtain⟨m,hm,z,C,r,rfl,e6⟩:=hm
       refine⟨_,C,?_⟩
       apply bK Z e6 ?_
       refine bQ K (by omega) (by omega) λv S5 hv C _ l5=> ?_
       dsimp only[a7,aM,a9,bR,bU,eZ]
       exact u (.num v) _ (by show v<=9;omega) (by show 1<=deep+1;omega) C
     symm
     refine a_ a0 ?_
     refine⟨⟨rfl,a0⟩,?_⟩
     dsimp only[a7,aM,a9,bR,bU,eZ]
     refine aK (λc=> ?_) (λc=> ?_)
     · symm
       apply bQ q (by decide) (by decide) λd U hd N _ l3=> ?_
       refine aK (λc2=> ?_) (λc2=> ?_)
       · symm
         have H:0<(ws.map D.str).length:=by
           cases ws with
           |nil=>simp at c
           |cons a b=>simp
         refine ft N hi (N.keep _ _ hi X) H (by simpa using lw) eK gf λv S4 hv K _ l4=> ?_
         obtain⟨z,hz,rfl⟩:=Qkq.mp hv
         exact u (.word z) _ hz (by show 1<=deep+1;omega) K
       · exact bX (s U N)
     · rw[Quq (by decide)]
       exact bX (s l q)
   have go:∀{R:Res->aE->Prop} {l:aE},Ex k S l->1<=deep->(∀(t:Tr) (f:aE),t.Ok ws bs->t.dep<=deep->Ex k S f->R (.d t.d) f)->Fn (bC n) [.ref k,.ref i,.ref j,.int ((deep:Int)-1)] l R:=by
     intro R l q hd hR
     have e:((deep:Int)-1)=((deep-1:Nat):Int):=by omega
     rw[e]
     exact jC n q hi P (q.keep _ _ hi X) (q.keep _ _ P hb) lw lb (by omega) λt f I h2 h3 _ _=>hR t f I (by omega) h3
   have W:∀l,Ex k S l->1<=deep->T (aD (c9 (ip (aG (aQ (du false) (ar 4) (cF (.int 3)))) (aG (cX (aR (ar 2))))) (cx (bg (aq (cF (.str "waits")) (aq (ax bN (aq (ar 0) (aq (ar 2) av))) av)))) fG)
     (aD (c9 (aG (aQ (du false) (ar 4) (cF (.int 4)))) (cx (bg (aq (cF (.str "not")) (aq (ax (bC n) (aq (ar 0) (aq (ar 1) (aq (ar 2) (aq (aQ jE (ar 3) (cF (.int 1))) av))))) av)))) fG)
     (aD (aS 5 (aQ fK (bP (bB (aq (cF (.str "plus")) (aq (cF (.str "minus")) (aq (cF (.str "less")) (aq (cF (.str "same")) (aq (cF (.str "both")) av))))))) (ax aH (aq (ar 0) (aq (cF (.int 5)) av)))))
     (cx (bg (aq (ar 5) (aq (ax (bC n) (aq (ar 0) (aq (ar 1) (aq (ar 2) (aq (aQ jE (ar 3) (cF (.int 1))) av))))) (aq (ax (bC n) (aq (ar 0) (aq (ar 1) (aq (ar 2) (aq (aQ jE (ar 3) (cF (.int 1))) av))))) av))))))))
     [some (.ref k),some (.ref i),some (.ref j),some (.int deep),some (.int w),none] l λo=>match o with|.rt d f=>Op (settle S d f) λp=>Q p.1 p.2|_=>False:=by
     intro l q A
     have L:=q.keep _ _ P hb
     have M:T (aD (aS 5 (aQ fK (bP (bB (aq (cF (.str "plus")) (aq (cF (.str "minus")) (aq (cF (.str "less")) (aq (cF (.str "same")) (aq (cF (.str "both")) av))))))) (ax aH (aq (ar 0) (aq (cF (.int 5)) av)))))
       (cx (bg (aq (ar 5) (aq (ax (bC n) (aq (ar 0) (aq (ar 1) (aq (ar 2) (aq (aQ jE (ar 3) (cF (.int 1))) av))))) (aq (ax (bC n) (aq (ar 0) (aq (ar 1) (aq (ar 2) (aq (aQ jE (ar 3) (cF (.int 1))) av))))) av))))))
       [some (.ref k),some (.ref i),some (.ref j),some (.int deep),some (.int w),none] l λo=>match o with|.rt d f=>Op (settle S d f) λp=>Q p.1 p.2|_=>False:=by
       symm
       apply⟨by decide,?_⟩
       refine bQ (q.app (G:= [O.lst [.str "plus",.str "minus",.str "less",.str "same",.str "both"]])) (by decide) (by decide) λd S4 hd K J l4=> ?_
       dsimp only[a7,aM,a9,bR,bU,eZ]
       obtain⟨o,B,C⟩:=K5 hd
       refine bK (J.keep _ _ (by have:=q.lt;omega) aN) C ?_
       symm
       apply go K A λt1 S5 I h2 C=> ?_
       apply go C A λt2 S6 h3 h4 e6=> ?_
       refine⟨by show 3<=_;decide,?_⟩
       exact u (.two o t1 t2) _ ⟨B,I,h3⟩ (by simp only[Tr.dep];omega) e6
     have g:T (aD (c9 (aG (aQ (du false) (ar 4) (cF (.int 4)))) (cx (bg (aq (cF (.str "not")) (aq (ax (bC n) (aq (ar 0) (aq (ar 1) (aq (ar 2) (aq (aQ jE (ar 3) (cF (.int 1))) av))))) av)))) fG)
       (aD (aS 5 (aQ fK (bP (bB (aq (cF (.str "plus")) (aq (cF (.str "minus")) (aq (cF (.str "less")) (aq (cF (.str "same")) (aq (cF (.str "both")) av))))))) (ax aH (aq (ar 0) (aq (cF (.int 5)) av)))))
       (cx (bg (aq (ar 5) (aq (ax (bC n) (aq (ar 0) (aq (ar 1) (aq (ar 2) (aq (aQ jE (ar 3) (cF (.int 1))) av))))) (aq (ax (bC n) (aq (ar 0) (aq (ar 1) (aq (ar 2) (aq (aQ jE (ar 3) (cF (.int 1))) av))))) av)))))))
       [some (.ref k),some (.ref i),some (.ref j),some (.int deep),some (.int w),none] l λo=>match o with|.rt d f=>Op (settle S d f) λp=>Q p.1 p.2|_=>False:=by
       symm
       refine dR ?_
       dsimp only[a7,aM,a9,bR,bU,eZ]
       refine aK (λc=> ?_) (λc=> ?_)
       · symm
         apply go q A λt S5 I h2 C=> ?_
         refine⟨by show 2<=_;decide,?_⟩
         exact u (.no t) _ I (by simp only[Tr.dep];omega) C
       · exact bX M
     symm
     refine dR ?_
     dsimp only[a7,aM,a9,bR,bU,eZ]
     refine aK (λc=> ?_) (λc=> ?_)
     · symm
       refine a_ L ?_
       refine⟨⟨rfl,L⟩,?_⟩
       dsimp only[a7,aM,a9,bR,bU,eZ]
       refine aK (λc=> ?_) (λc=> ?_)
       · symm
         have H:0<(bs.map D.str).length:=by
           cases bs with
           |nil=>simp at c
           |cons a b=>simp
         refine ft q P L H (by simpa using lb) eK gf λv S4 hv K _ l4=> ?_
         obtain⟨z,hz,rfl⟩:=Qkq.mp hv
         symm
         refine⟨by show 2<=_;decide,?_⟩
         exact u (.waits z) _ hz (by show 1<=deep+1;omega) K
       · exact bX g
     · rw[Quq (by decide)]
       exact bX g
   refine aK (λc=> ?_) (λc=> ?_)
   · rw[Qhq rfl]
     exact(F S1 Y).mono λo B=>by
       cases o with
       |rt d f=>exact B
       |_=>exact B.elim
   · symm
     refine aK (λc2=> ?_) (λc2=> ?_)
     · exact(F S1 Y).mono λo B=>by
         cases o with
         |rt d f=>exact B
         |_=>exact B.elim
     · have A:1<=deep:=by
         have:=QaQ c
         omega
       refine bX ?_
       exact(W S1 Y A).mono λo B=>by
         cases o with
         |rt d f=>exact B
         |_=>exact B.elim
inductive Rw where
 |put (x:Str) (t:Tr)|unl (t:Tr) (n:Nat)|go (n:Nat)|do_ (g:Option Str) (r d:Str) (t:Tr)|wait (b:Str) (t:Tr)|call (b:Str)|all (b:Str)|tell (t:Tr)
 |take (p:Str)|give (p:Str)|pass (p q:Str)|say (t:Tr)
def HU:Option Str->D
 |none=>.non
 |some x=>.str x
def Rw.d:Rw->D
 |.put x t=>.tup [.str "put",.str x,t.d]
 |.unl t n=>.tup [.str "unless",t.d,.int n]
 |.go n=>.tup [.str "go",.int n]
 |.do_ g r d t=>.tup [.str "do",HU g,.str r,.str d,t.d]
 |.wait b t=>.tup [.str "wait",.str b,t.d]
 |.call b=>.tup [.str "call",.str b]
 |.all b=>.tup [.str "all",.str b]
 |.tell t=>.tup [.str "tell",t.d]
 |.take p=>.tup [.str "take",.str p]
 |.give p=>.tup [.str "give",.str p]
 |.pass p q=>.tup [.str "pass",.str p,.str q]
 |.say t=>.tup [.str "say",t.d]
structure Sc where
 own:Bool
 ws:List Str
 ps:List Str
 bs:List Str
 gs:List (Str×Str)
 ts:List Str
def EY(sc:Sc)(t:Tr):Prop:=t.Ok sc.ws sc.bs/\t.dep<=4
def Rw.Ok(sc:Sc)(n:Nat):Rw->Prop
 |.put x t=>x∈sc.ps/\EY sc t
 |.unl t m=>EY sc t/\m<=n
 |.go m=>m<=n
 |.do_ g r d t=>(∀x,g=some x->x∈sc.ps)/\(r,d)∈sc.gs/\EY sc t
 |.wait b t=>sc.own=false/\b∈sc.bs/\EY sc t
 |.call b=>sc.own=false/\b∈sc.bs
 |.all b=>sc.own=false/\b∈sc.bs
 |.tell t=>sc.own=false/\EY sc t
 |.take p=>sc.own=true/\p∈sc.ts
 |.give p=>sc.own=true/\p∈sc.ts
 |.pass p q=>sc.own=true/\p∈sc.ts/\q∈sc.ts
 |.say t=>sc.own=true/\EY sc t
def Rw.Ok.mono{sc:Sc}{n m:Nat}{r:Rw}(h:r.Ok sc n)(l:n<=m):r.Ok sc m:=by
 cases r with
 |unl t k=>exact⟨h.1,QAq h.2 l⟩
 |go k=>exact QAq h l
 |_=>exact h
theorem Rw.low(r:Rw):cq 0 r.d=true:=by
 cases r with
 |do_ g r d t=>cases g <;>simp only[Rw.d,cq,cg,HU,t.low,Bool.and_true,Bool.true_and]
 |_=>simp only[Rw.d,cq,cg,Tr.low,Bool.and_true,Bool.true_and]
def vN(sc:Sc)(rs:List Rw):Prop:=∀r∈rs,r.Ok sc rs.length
def II{S S0:aE}{k i j:Nat}{f:Nat}{sc:Sc}{Q:Res->aE->Prop}(x:Ex k S0 S)(hi:i≠k)(u:j≠k)(U:S[i]?=some (.lst (sc.ws.map D.str)))(L:S[j]?=some (.lst (sc.bs.map D.str)))(R:sc.ws.length<1000)(J:sc.bs.length<1000)(b0:0<sc.bs.length)(hg:(("given":Str))∈sc.ws)(M:sc.own=false)
  (h:∀(rs:List Rw) (m:aE),(∀r∈rs,r.Ok sc (f+rs.length))->1<=rs.length->rs.length<=3->Ex k S0 m->Ex k S m->m.length=S.length->Q (.l (rs.map Rw.d)) m):Fn jt [.ref k,.ref i,.ref j,.int f] S Q:=by
 have y:Ex k S S:=by obtain⟨a,b,c,hh⟩:=x.pot;exact Ex.refl hh
 have q:∀(rs:List Rw) (m:aE),(∀r∈rs,r.Ok sc (f+rs.length))->1<=rs.length->rs.length<=3->Ex k S m->Op (eJ S (rs.map Rw.d) m) λp=>Q p.1 p.2:=λrs m B X H e=>KL e x.lt (bf λr _=>dS r.low) λa b c=>h _ _ B X H x.set y.set (by simp)
 refine bZ ?_
 unfold lZ
 symm
 apply jC 4 (deep:=1) y hi u U L R J (by decide) λt S1 B X P _ l1=> ?_
 refine⟨by show 3<=_;decide,?_⟩
 symm
 refine bQ (P.app (G:= [O.lst [.int 0,.str "given",t.d]])) (by decide) (by decide) λd S2 hd N K l2=> ?_
 dsimp only[a7,aM,a9,bR,bU,eZ]
 have ht:∃o:Tr,EY sc o/\kj ([.int 0,.str "given",t.d]:List D) (d:Int)=some o.d:=by
  rcases d with _|_|_|d
  ·exact⟨.num 0,⟨by show 0<=9;omega,by show 1<=4;omega⟩,rfl⟩
  ·exact⟨.word "given",⟨hg,by show 1<=4;omega⟩,rfl⟩
  ·exact⟨t,⟨B,by omega⟩,rfl⟩
  ·omega
 obtain⟨o,s,Z⟩:=ht
 refine bK (K.keep _ _ (by have:=P.lt;omega) aN) Z ?_
 symm
 refine ft N u (N.keep _ _ u L) (by simpa using b0) (by simpa using J) eK gf λv S3 hv e3 _ l3=> ?_
 obtain⟨z,W,rfl⟩:=Qkq.mp hv
 symm
 refine⟨by show 3<=_;decide,?_⟩
 symm
 apply bQ e3 (by decide) (by decide) λn S4 Y w _ l4=> ?_
 refine dR ?_
 dsimp only[a7,aM,a9,bR,bU,eZ]
 refine aK (λc=> ?_) (λc=> ?_)
 ·symm
  refine⟨by show 1<=_;decide,?_⟩
  refine q [.wait z o] _ (λr A=> ?_) (by simp) (by simp) w
  rw[Qfq.mp A]
  exact⟨M,W,s⟩
 ·symm
  apply jC 4 (deep:=2) w hi u (w.keep _ _ hi U) (w.keep _ _ u L) R J (by decide) λF S5 h3 h4 e5 _ l5=> ?_
  refine⟨by show 2<=_;decide,?_⟩
  symm
  refine⟨by show 3<=_;decide,?_⟩
  symm
  refine⟨by show 2<=_;decide,?_⟩
  symm
  have I:∃g:Nat,(g=f\/g=f+3)/\kj ([.int f,.int ((f:Int)+3)]:List D) ((n:Int)-1)=some (.int (g:Nat)):=by
   have:=QaQ c
   rcases n with _|_|_|n
   ·exact absurd rfl this
   ·exact⟨f,.inl rfl,rfl⟩
   ·exact⟨f+3,.inr rfl,rfl⟩
   ·omega
  obtain⟨g,a0,C⟩:=I
  apply bK aN C ?_
  refine⟨by show 2<=_;decide,?_⟩
  symm
  refine⟨by show 3<=_;decide,?_⟩
  refine q [.unl (.no F) (f+3),.wait z o,.go g] _ (λr A=> ?_) (by simp) (by simp) e5.app
  simp only[Qsq,QXq,or_false] at A
  have hl:([.unl (.no F) (f+3),.wait z o,.go g]:List Rw).length=3:=rfl
  rcases A with rfl|rfl|rfl
  ·exact⟨⟨h3,by show F.dep+1<=4;omega⟩,by rw[hl];exact Qmq _⟩
  ·exact⟨M,W,s⟩
  ·show g<=f+3
   omega
def dC(g:Str×Str):D:=.tup [.str g.1,.str g.2]
def Bo{b:List (Str×Str)}:∀d∈b.map dC,(∀k,d≠.ref k)/\cq 0 d=true:=λd c=>by
 obtain⟨a,_,rfl⟩:=Qkq.mp c
 exact⟨λk z=>(nomatch z),rfl⟩
def Gh{b:List (Str×Str)}{m:Nat}:∀d∈b.map dC,cq m d=true:=λd c=>by
 obtain⟨a,_,rfl⟩:=Qkq.mp c
 rfl
def KM{S S0:aE}{k g t i:Nat}{sc:Sc}{Q:Res->aE->Prop}{n:Nat}(x:Ex k S0 S)(hg:g≠k)(ht:t≠k)(hi:i≠k)(gg:S[g]?=some (.lst (sc.gs.map dC)))(P:S[t]?=some (.lst (sc.ps.map D.str)))(M:S[i]?=some (.lst (sc.ws.map D.str)))
  (Y:0<sc.gs.length) (X:sc.gs.length<1000) (lt:sc.ps.length<900) (W:sc.ws.length<1000)
  (h:∀(r:Rw) (q:aE),r.Ok sc n->Ex k S0 q->Ex k S q->q.length=S.length->Q (.d r.d) q):Fn mD [.ref k,.ref g,.ref t,.ref i] S Q:=by
 have y:Ex k S S:=by obtain⟨a,b,c,R⟩:=x.pot;exact Ex.refl R
 refine bZ ?_
 unfold wM
 symm
 refine ft y hg gg (by simpa using Y) (by simpa using X) Bo Gh λv S1 hv w _ l1=> ?_
 obtain⟨⟨I,J⟩,K,rfl⟩:=Qkq.mp hv
 dsimp only[a7,aM,a9,bR,bU,eZ]
 apply f_ rfl (aA (aV (aA (aV (bA ?_)))))
 apply yb ?_
 apply⟨by decide,?_⟩
 refine a_ (w.keep _ _ ht P) ?_
 refine⟨⟨rfl,rfl,trivial,by simp only[lQm,Qnq,QGq];exact QAq (show 0+1+sc.ps.length<=1000 by omega) (by decide)⟩,?_⟩
 symm
 have p:∀d∈([.non]++sc.ps.map D.str:List D),(∃o:Option Str,d=HU o/\∀z,o=some z->z∈sc.ps):=λd e=>by
  rcases mQa.mp e with e|e
  ·rw[Qfq.mp e]
   exact⟨none,rfl,λz A=>by cases A⟩
  ·obtain⟨a,L,rfl⟩:=Qkq.mp e
   exact⟨some a,rfl,λz A=>by cases A;exact L⟩
 have f:∀(m:Nat),∀d∈([.non]++sc.ps.map D.str:List D),(∀k,d≠.ref k)/\cq m d=true:=λm d e=>by
  obtain⟨o,rfl,_⟩:=p d e
  cases o <;>exact⟨λk z=>(nomatch z),rfl⟩
 refine ft (i:=S1.length) (w.app (G:= [O.lst ([.non]++sc.ps.map D.str)])) (by have:=w.lt;omega) aN (by simp) (by simp;omega) (f 0) (λd e=>(f _ d e).2) λZ U F u _ l2=> ?_
 obtain⟨o,rfl,ho⟩:=p Z F
 symm
 apply⟨by decide,?_⟩
 refine jC 4 (deep:=1) (bs:= []) (u.app (G:= [O.lst []])) hi (j:=U.length) (by have:=u.lt;omega) (aO (u.keep _ _ hi M)) aN W (by decide) (by decide) λs S3 h3 h4 N _ l3=> ?_
 symm
 refine⟨by show 5<=_;decide,?_⟩
 have l:s.Ok sc.ws sc.bs:=by
  have H:∀t:Tr,t.Ok sc.ws []->t.Ok sc.ws sc.bs:=by
   intro t
   induction t with
   |num n=>exact id
   |word x=>exact id
   |waits b=>intro z;exact absurd z (by simp[Tr.Ok])
   |no t ih=>exact ih
   |two o a b B C=>exact λz=>⟨z.1,B z.2.1,C z.2.2⟩
  exact H s h3
 refine lT (d:=(Rw.do_ o I J s).d) N x.lt (λk z=>(nomatch z)) (dS (Rw.low _)) λa b c=> ?_
 exact h (.do_ o I J s) _ ⟨ho,K,l,by omega⟩ x.set y.set (by simp)
end W28
namespace DL
open PySem PySem.Spec L2
def Ic{c:cB}{S:aE}{f:bH}{g:fu}{Q:D->aE->Prop}(h:E f c S λx b=>∃k a,x=.ref k/\b[k]?=some (.lst a)/\E g c b λp S2=>∃ds,S2[k]?=some (.lst ds)/\(p.2.isM=true/\ds.length+p.1.length<=sizeLine)/\Q .non (S2.set k (.lst (ds++p.1)))):E (y2 f g) c S Q:=by
 obtain⟨x,b,d,k,a,rfl,h1,p,S2,e2,ds,h2,h3,q⟩:=h
 exact⟨_,_,by unfold y2;rw[d];simp only[Qbq,e2,h1,h2];rw[Qhq h3],q⟩
def lW{b:cB}{S:aE}{f g:bH}{Q:D->aE->Prop}(h:E f b S λd a=>∃k,d=.bl k/\if k=true then E g b a Q else Q (.bl false) a):E (rO f g) b S Q:=by
 obtain⟨d,a,c,k,rfl,q⟩:=h
 cases k with
 |true=>obtain⟨j,e,i,q⟩:=(q:E g b a Q);exact⟨j,e,by unfold rO;rw[c];exact i,q⟩
 |false=>exact⟨_,a,by unfold rO;rw[c];rfl,q⟩
def fF{ds:List D}{y:D}{Q:List D×D->Prop}(h:ds.length<sizeLine)(q:Q (ds++ [y],.non)):Op (fw ds [y]) Q:=⟨_,by simp only[fw];rw[Qhq h],q⟩
end DL
namespace W28
open PySem PySem.Spec L2 DL
def fE:List Str:= ["given"]
def uS{d:cB}{S:aE}{i j l:Nat}{w m:Int}{ds:List D}{Q:Bool->aE->Prop}(hi:d[i]?=some (some (.int w)))(f:d[j]?=some (some (.ref l)))(e:S[l]?=some (.lst ds))(q:∀c,(c=true->0<ds.length)->Q c S):
  E (ip (aG (aQ CC (ar i) (cF (.int m)))) (aG (cX (aR (ar j))))) d S Q:=by
 refine pE (cG (aY (aw hi (cC (gB ?_)))))
 refine aK (λc=> ?_) λc=>q false λz=>(nomatch z)
 refine cG (qy (bV (aw f (a_ e ⟨⟨rfl,e⟩,q _ λz=> ?_⟩))))
 cases ds with
 |nil=>cases z
 |cons a b=>simp
def uM{d:cB}{S:aE}{i j l:Nat}{w m:Int}{ds:List D}{Q:Bool->aE->Prop}(hi:d[i]?=some (some (.int w)))(f:d[j]?=some (some (.ref l)))(e:S[l]?=some (.lst ds))(q:∀c,(c=true->0<ds.length)->Q c S):
  E (ip (aG (aQ (du false) (ar i) (cF (.int m)))) (aG (cX (aR (ar j))))) d S Q:=by
 refine pE (cG (aY (aw hi (cC (dR ?_)))))
 refine aK (λc=> ?_) λc=>q false λz=>(nomatch z)
 refine cG (qy (bV (aw f (a_ e ⟨⟨rfl,e⟩,q _ λz=> ?_⟩))))
 cases ds with
 |nil=>cases z
 |cons a b=>simp
def KS{a:cB}{S:aE}{i:Nat}{w m:Int}{Q:Bool->aE->Prop}(hi:a[i]?=some (some (.int w)))(q:∀c,Q c S):E (aG (aQ (du false) (ar i) (cF (.int m)))) a S Q:=cG (aY (aw hi (cC (dR (q _)))))
def Kz{e:cB}{S:aE}{i j:Nat}{m s:Str}{w n:Int}{Q:D->aE->Prop}(hi:e[i]?=some (some (.str m)))(g:e[j]?=some (some (.int w)))(q:∀b:Nat,b<=1->Q (.int b) S):
  E (uD intOfD (aq (rO (aQ (du false) (ar i) (cF (.str s))) (aQ (du false) (ar j) (cF (.int n)))) av)) e S Q:=by
 refine BN (az (lW (aY (aw hi (cC (gE ⟨_,rfl,?_⟩))))))
 have a:∀b:Bool,E av e S λh f=>Op (intOfD (.bl b::h)) λd=>Q d f:=λb=>aZ (by
  cases b with
  |true=>exact⟨_,rfl,q 1 (by omega)⟩
  |false=>exact⟨_,rfl,q 0 (by omega)⟩)
 refine aK (λc=> ?_) (λc=> ?_)
 ·exact aY (aw g (cC (dR (a _))))
 ·exact a false
def Jx{S S0:aE}{k t b g:Nat}{ah:Str}{L aa:List Str}{goals:List (Str×Str)}{Q:Res->aE->Prop}(x:Ex k S0 S)(nt:t≠k)(nb:b≠k)(ng:g≠k)(gt:S[t]?=some (.lst (L.map D.str)))(gb:S[b]?=some (.lst (aa.map D.str)))(gg:S[g]?=some (.lst (goals.map dC)))
  (lt:L.length<500) (lb:aa.length<500) (lg:goals.length<500)
  (h:∀(rs:List Rw) (Z:aE),vN ⟨false,L++fE,L,aa,goals,[]⟩ rs->0<rs.length->rs.length<=12->Ex k S0 Z->Ex k S Z->Z.length=S.length->Q (.d (.tup (rs.map Rw.d))) Z):
  Fn kB [.ref k,.tup [.str ah,.ref t,.ref b],.ref g,.int 4] S Q:=by
 have y:Ex k S S:=by obtain⟨a,b,c,hh⟩:=x.pot;exact Ex.refl hh
 have kl:=x.lt
 have tl:=(gQs.mp gt).1
 have bl:=(gQs.mp gb).1
 have gl:=(gQs.mp gg).1
 generalize J:(⟨false,L++fE,L,aa,goals,[]⟩:Sc)=sc at h
 have so:sc.own=false:=by rw[←J]
 have sw:sc.ws=L++fE:=by rw[←J]
 have sp:sc.ps=L:=by rw[←J]
 have sb:sc.bs=aa:=by rw[←J]
 have sg:sc.gs=goals:=by rw[←J]
 refine bZ ?_
 unfold oP
 symm
 apply f_ rfl (aA (aV (aA (aV (aA (aV (bA ?_)))))))
 apply yb ?_
 apply a_ gt ?_
 refine⟨by decide,?_⟩
 refine⟨⟨rfl,rfl,gt,by simp only[lQm,Qnq,QGq];exact QAq (show L.length+(0+1)<=1000 by omega) (by decide)⟩,?_⟩
 symm
 refine⟨by decide,?_⟩
 have ew:L.map D.str++ [D.str "given"]=sc.ws.map D.str:=by rw[sw];simp[fE]
 rw[ew]
 have e0:Ex k S (S++ [O.lst (sc.ws.map D.str)]++ [O.lst []]):=y.app.app
 generalize hr:S.length+1=r
 have H:(S++ [O.lst (sc.ws.map D.str)]).length=r:=by simp[hr]
 rw[H]
 have iw:(S++ [O.lst (sc.ws.map D.str)]++ [O.lst []])[S.length]?=some (.lst (sc.ws.map D.str)):=aO aN
 have ir:(S++ [O.lst (sc.ws.map D.str)]++ [O.lst []])[r]?=some (.lst []):=by rw[←H];exact aN
 have il:(S++ [O.lst (sc.ws.map D.str)]++ [O.lst []]).length=r+1:=by simp[←hr]
 generalize (S++ [O.lst (sc.ws.map D.str)]++ [O.lst []])=S1 at e0 iw ir il⊢
 apply aI (hV ?_)
 apply bQ e0 (by decide) (by decide) λa0 S2 b2 e2 a6 l2=> ?_
 refine⟨_,rfl,⟨by omega,by omega⟩,?_⟩
 have M:r≠k:=by omega
 have B:S.length≠k:=by omega
 let Inv:Nat->cB->aE->Prop:=λn a4 Z=>∃(o9 a3 a2:Option D) (rs:List Rw),a4= [some (.ref k),some (.tup [.str ah,.ref t,.ref b]),some (.ref g),some (.int 4),some (.str ah),some (.ref t),some (.ref b),some (.ref S.length),some (.ref r),o9,a3,a2]∧
  Ex k S Z/\Z[S.length]?=some (.lst (sc.ws.map D.str))/\Z[r]?=some (.lst (rs.map Rw.d))/\rs.length<=3*n/\n<=rs.length/\n<=4/\∀q∈rs,q.Ok sc rs.length
 refine⟨Inv,⟨_,_,_,[],rfl,e2,a6.keep _ _ B iw,a6.keep _ _ M ir,by simp,by simp,by omega,by simp⟩,λ_ _ _ _=>trivial,?_,?_⟩
 ·rintro n d a4 S3 hd ⟨o9,a3,a2,rs,rfl,e3,hw3,hr3,hl1,hl2,hn4,hok⟩
  have b8:n<4:=by
   have:=(gQs.mp hd).1
   simp only[ki,lQm,QVq] at this
   omega
  apply aV ?_
  refine bQ e3 (by decide) (by decide) λb3 S4 b9 R a8 l4=> ?_
  dsimp only[a7,aM,a9,bR,bU,eZ]
  have o:=a8.keep _ _ B hw3
  have l:=a8.keep _ _ M hr3
  have U:=R.keep _ _ nt gt
  have u:=R.keep _ _ nb gb
  have a5:=R.keep _ _ ng gg
  rw[←sp] at U
  rw[←sb] at u
  rw[←sg] at a5
  have p:∀(P:List Rw) (Y:Option D) (N:aE),Ex k S N->N[S.length]?=some (.lst (sc.ws.map D.str))->N[r]?=some (.lst (rs.map Rw.d++P.map Rw.d))->1<=P.length->P.length<=3->(∀q∈P,q.Ok sc (rs.length+P.length))→
    Inv (n+1) [some (.ref k),some (.tup [.str ah,.ref t,.ref b]),some (.ref g),some (.int 4),some (.str ah),some (.ref t),some (.ref b),some (.ref S.length),some (.ref r),some d,some (.int b3),Y] N:=by
   intro P Y N I h1 h2 h3 h4 h5
   refine⟨_,_,_,rs++P,rfl,I,h1,by rw[h2,Qzq],by rw[lQa];omega,by rw[lQa];omega,by omega,λq hq=> ?_⟩
   rw[lQa]
   rcases mQa.mp hq with hq|hq
   ·exact(hok q hq).mono (by omega)
   ·exact h5 q hq
  have i:∀m:Nat,m<=100->m<sizeLine:=λm hm=>Nat.lt_of_le_of_lt hm (by decide)
  have l9:rs.length<=9:=by omega
  have lr:(rs.map Rw.d).length=rs.length:=by simp
  have a1:∀{t':Tr},t'.Ok sc.ws sc.bs->t'.dep<=3->EY sc t':=λh1 h2=>⟨h1,by omega⟩
  have K:sc.ws.length<1000:=by rw[sw];simp[fE];omega
  have W:sc.bs.length<1000:=by rw[sb];omega
  have b7:sc.ps.length<900:=by rw[sp];omega
  have b6:sc.gs.length<1000:=by rw[sg];omega
  refine bO (uS rfl rfl u λc hc=>aK (λF=> ?_) (λF=> ?_))
  ·
   apply eg (Ic ?_)
   apply⟨_,_,rfl,l,?_⟩
   apply a_ l ?_
   rw[lr]
   refine II (sc:=sc) R B nb o u K W (by simpa using hc F) (by rw[sw];simp[fE]) so λP N h1 b5 h2 I e l5=> ?_
   dsimp only[a7,aM,a9,bR,bU,eZ]
   have j:=e.keep _ _ M l
   have X:=P.length
   refine⟨_,j,⟨rfl,?_⟩,?_⟩
   ·simp only[lQm]
    exact nQl (i _ (by omega))
   ·exact p P _ _ (I.put (by omega) kl) (fD (by omega) (e.keep _ _ B o)) (cQ j) b5 h2 h1
  refine bO (uS rfl rfl u λc hc=>aK (λF=> ?_) (λF=> ?_))
  ·apply aI (cK ?_)
   refine⟨by decide,?_⟩
   refine Kz rfl rfl λv hv=> ?_
   have b1:∃(f:Str->Rw) (s:Str),(∀z,(f z).d=.tup [.str s,.str z])/\(∀z n,z∈sc.bs->(f z).Ok sc n)/\kj ([.str "call",.str "all"]:List D) (v:Int)=some (.str s):=by
    rcases v with _|_|v
    ·exact⟨.call,"call",λ_=>rfl,λz n hz=>⟨so,hz⟩,rfl⟩
    ·exact⟨.all,"all",λ_=>rfl,λz n hz=>⟨so,hz⟩,rfl⟩
    ·omega
   obtain⟨f,s,hf,b0,hs⟩:=b1
   refine bK aN hs ?_
   apply eg (fH ?_)
   apply⟨_,_,rfl,aO l,?_⟩
   refine ft (R.app (G:= [O.lst [.str "call",.str "all"]])) nb (aO u) (hc F) (by simp;omega) eK gf λv2 N b4 I e l5=> ?_
   obtain⟨z,hz,rfl⟩:=Qkq.mp b4
   symm
   refine⟨by show 2<=_;decide,?_⟩
   symm
   have j:=e.keep _ _ M (aO l)
   refine⟨_,j,fF (i _ (by rw[lr];omega)) ?_⟩
   refine p [f z] _ _ (I.put (by omega) kl) (fD (by omega) (e.keep _ _ B (aO o))) ?_ (by simp) (by simp) λq' C=>by rw[Qfq.mp C];exact b0 _ _ hz
   rw[cQ j]
   simp[hf]
  refine bO (uM rfl rfl a5 λc hc=>aK (λF=> ?_) (λF=> ?_))
  ·apply eg (fH ?_)
   apply⟨_,_,rfl,l,?_⟩
   apply KM (n:=rs.length+1) (sc:=sc) R ng nt B a5 U o (by simpa using hc F) b6 b7 K λq N h1 I e l5=> ?_
   have j:=e.keep _ _ M l
   refine⟨_,j,fF (i _ (by rw[lr];omega)) ?_⟩
   exact p [q] _ _ (I.put (by omega) kl) (fD (by omega) (e.keep _ _ B o)) (cQ j) (by simp) (by simp) λq' C=>by rw[Qfq.mp C];exact h1
  refine bO (KS rfl λc=>aK (λF=> ?_) (λF=> ?_))
  ·apply aI (eg (fH ?_))
   apply⟨_,_,rfl,l,?_⟩
   apply jC 4 (deep:=2) R B nb o u K W (by decide) λt3 N h3 h4 I e l5=> ?_
   have j:=e.keep _ _ M l
   apply a_ j ?_
   refine⟨by show 3<=_;decide,?_⟩
   symm
   refine⟨_,j,fF (i _ (by rw[lr];omega)) ?_⟩
   dsimp only[a7,aM,a9,bR,bU,eZ]
   apply eg (fH ?_)
   apply⟨_,_,rfl,cQ j,?_⟩
   apply bQ (I.put (r:=r) (by omega) kl) (by decide) (by decide) λv S6 hv e6 A l6=> ?_
   refine⟨by show 2<=_;decide,?_⟩
   symm
   have w:=A.keep _ _ M (cQ j)
   refine⟨_,w,fF (i _ (by simp;omega)) ?_⟩
   refine p [.unl t3 (rs.length+2),.tell (.num v)] _ _ (e6.put (by omega) kl) (fD (by omega) (A.keep _ _ B (fD (by omega) (e.keep _ _ B o)))) ?_ (by simp) (by simp) λq hq=> ?_
   ·rw[cQ w]
    simp[Rw.d,Tr.d]
   ·simp only[Qsq,QXq,or_false] at hq
    rcases hq with rfl|rfl
    ·exact⟨a1 h3 (by omega),by show rs.length+2<=rs.length+2;omega⟩
    ·exact⟨so,by show v<=9;omega,by show 1<=4;omega⟩
  refine bO (uS rfl rfl U λc hc=>aK (λF=> ?_) (λF=> ?_))
  ·apply eg (fH ?_)
   apply⟨_,_,rfl,l,?_⟩
   refine ft R nt U (hc F) (by simp;omega) eK gf λv N hv I e l5=> ?_
   obtain⟨z,hz,rfl⟩:=Qkq.mp hv
   symm
   apply jC 4 (deep:=2) I B nb (e.keep _ _ B o) (e.keep _ _ nb u) K W (by decide) λt3 S6 h3 h4 e6 A l6=> ?_
   refine⟨by show 3<=_;decide,?_⟩
   symm
   have w:=A.keep _ _ M (e.keep _ _ M l)
   refine⟨_,w,fF (i _ (by rw[lr];omega)) ?_⟩
   exact p [.put z t3] _ _ (e6.put (by omega) kl) (fD (by omega) (A.keep _ _ B (e.keep _ _ B o))) (cQ w) (by simp) (by simp) λq' C=>by rw[Qfq.mp C];exact⟨hz,a1 h3 (by omega)⟩
  ·apply eg (fH ?_)
   apply⟨_,_,rfl,l,?_⟩
   apply jC 4 (deep:=1) R B nb o u K W (by decide) λt3 S6 h3 h4 e6 A l6=> ?_
   refine⟨by show 2<=_;decide,?_⟩
   symm
   have w:=A.keep _ _ M l
   refine⟨_,w,fF (i _ (by rw[lr];omega)) ?_⟩
   exact p [.tell t3] _ _ (e6.put (by omega) kl) (fD (by omega) (A.keep _ _ B o)) (cQ w) (by simp) (by simp) λq' C=>by rw[Qfq.mp C];exact⟨so,a1 h3 (by omega)⟩
 ·rintro a4 S3 ⟨o9,a3,a2,rs,rfl,e3,hw3,hr3,hl1,hl2,hn4,hok⟩
  have X:(ki 0 (1+(a0:Int))).length=a0+1:=by simp only[ki,lQm,QVq];omega
  rw[X] at hl1 hl2 hn4
  symm
  refine a_ hr3 ?_
  refine⟨rfl,?_⟩
  dsimp only[a7,aM,a9,bR,bU,eZ]
  refine lT e3 x.lt (λk z=>(nomatch z)) (by simp only[cq];exact bf λq _=>dS q.low) λa b c=> ?_
  exact h rs _ hok (by omega) (by omega) x.set y.set (by simp)
end W28
namespace DL
open PySem PySem.Spec L2
def Pm{b a:cB}{d:D}(h:b.set 0 none=a.set 0 none):b.set 0 (some d)=a.set 0 (some d):=by
 have:=congrArg (λc:cB=>c.set 0 (some d)) h
 simpa using this
def CO{i:cB}{S:aE}{js:List (Option Nat)}{f:fu}{e:bH}{Q:List D->aE->Prop}(F:D->D)(h:E f i S λp c=>p.2.stays c p.1/\p.1.length<=1000/\(∀d∈p.1,E e ((pQ js i).set 0 (some d)) c λy S2=>y=F d/\S2=c)/\Q (p.1.map F) c):
  E (bD js (fM f) (bJ 0) bL e) i S Q:=by
 refine jB (j_ (h.mono λp c m=> ?_))
 obtain⟨k,u,l,q⟩:=m
 refine⟨λn a g b=>g=c/\b=(p.1.take n).map F/\a.set 0 none=(pQ js i).set 0 none,⟨rfl,rfl,rfl⟩,λn a g b h=>by rw[h.1];exact k,λn d a g b j h=> ?_,λa g b h=> ?_⟩
 ·obtain⟨rfl,rfl,h3⟩:=h
  refine aV (mR ?_)
  rw[Qhq rfl,Pm h3]
  refine(l d (mQg j)).mono λy S2 s=> ?_
  obtain⟨r,o⟩:=s
  subst r o
  have t:=(gQs.mp j).1
  refine⟨?_,rfl,?_,by simp⟩
  ·rw[lQm,Qxq]
   exact bt (by omega)
  ·rw[QYq,j]
   simp
 ·obtain⟨rfl,rfl,_⟩:=h
  rw[QEq]
  exact q
end DL
namespace W28
open PySem PySem.Spec L2 DL
def lQ(p:Str×Nat):D:=.tup [.str p.1,.int p.2]
def y3(p:Str×Str):D:=.tup [.str p.1,.str p.2]
def hX(p:Str×List Rw):D:=.tup [.str p.1,.tup (p.2.map Rw.d)]
def E3{r:cB}{S S0:aE}{k j l:Nat}{m:Nat}{ws:List Str}{Q:List D->aE->Prop}(x:Ex k S0 S)(C:r.getD 0 none=some (.ref k))(G:r[j]?=some (some (.ref l)))(w:S[l]?=some (.lst (ws.map D.str)))(H:l≠k)(P:0<m)(I:m<1000)(M:ws.length<=1000)
  (h:∀(ps:List (Str×Nat)) (f:aE),ps.map (·.1)=ws->(∀p∈ps,p.2<m)->Ex k S0 f->Ex k S f->f.length=S.length->Q (ps.map lQ) f):
  E (bD [none,some 0] (fM (aR (ar j))) (bJ 0) bL (bg (aq (ar 0) (aq (ax aH (aq (ar 1) (aq (cF (.int m)) av))) av)))) r S Q:=by
 have y:Ex k S S:=by obtain⟨a,b,c,F⟩:=x.pot;exact Ex.refl F
 refine jB (j_ (bV (aw G (a_ w ?_))))
 refine⟨λn g f i=>∃(o:Option D) (ps:List (Str×Nat)),g= [o,some (.ref k)]/\Ex k S0 f/\Ex k S f/\f.length=S.length/\ps.map (·.1)=ws.take n/\(∀p∈ps,p.2<m)/\i=ps.map lQ,⟨none,[],by show [none,r.getD 0 none]=_;rw[C],x,y,rfl,rfl,by simp,rfl⟩,?_,?_,?_⟩
 ·rintro n g f i ⟨o,ps,_,_,e,_⟩
  exact e.keep _ _ H w
 ·rintro n d g f i A ⟨o,ps,rfl,e0,e1,el,h1,h2,rfl⟩
  obtain⟨z,s,rfl⟩:∃z,ws[n]?=some z/\d=.str z:=by
   rw[gQm] at A
   obtain⟨z,s,e⟩:=oQm.mp A
   exact⟨z,s,e.symm⟩
  symm
  rw[Qhq rfl]
  symm
  apply bQ e0 (by omega) (by omega) λv K N B t L=> ?_
  refine⟨by show 2<=_;decide,?_⟩
  have J:=(gQs.mp s).1
  have u:ps.length=n:=by
   have:=congrArg List.length h1
   rw[lQm,Qxq] at this
   omega
  refine⟨?_,_,ps++ [(z,v)],rfl,B,e1.trans t,by omega,?_,λp q=> ?_,by simp[lQ]⟩
  ·rw[lQm]
   exact bt (by omega)
  ·rw[Qzq,h1,QYq,s]
   rfl
  ·rcases mQa.mp q with q|q
   ·exact h2 p q
   ·rw[Qfq.mp q]
    show v<m
    omega
 ·rintro g f i ⟨o,ps,rfl,e0,e1,el,h1,h2,rfl⟩
  exact h ps f (by rw[h1];simp) h2 e0 e1 el
def Mh{r:cB}{S S0:aE}{k j l:Nat}{ws:List Str}{Q:List D->aE->Prop}(x:Ex k S0 S)(H:r.getD 0 none=some (.ref k))(J:r[j]?=some (some (.ref l)))(A:S[l]?=some (.lst (ws.map D.str)))(K:l≠k)(P:ws.length<=1000)
  (h:∀(ps:List (Str×Str)) (f:aE),ps.map (·.1)=ws->(∀p∈ps,p.2="row" \/p.2="turns")->Ex k S0 f->Ex k S f->Q (ps.map y3) f):
  E (bD [none,some 0] (fM (aR (ar j))) (bJ 0) bL (bg (aq (ar 0) (aq (aQ fK (bP (bB (aq (cF (.str "row")) (aq (cF (.str "turns")) av)))) (ax aH (aq (ar 1) (aq (cF (.int 2)) av)))) av)))) r S Q:=by
 have y:Ex k S S:=by obtain⟨a,b,c,I⟩:=x.pot;exact Ex.refl I
 refine jB (j_ (bV (aw J (a_ A ?_))))
 refine⟨λn g f i=>∃(o:Option D) (ps:List (Str×Str)),g= [o,some (.ref k)]/\Ex k S0 f/\Ex k S f/\ps.map (·.1)=ws.take n/\(∀p∈ps,p.2="row" \/p.2="turns")/\i=ps.map y3,⟨none,[],by show [none,r.getD 0 none]=_;rw[H],x,y,rfl,by simp,rfl⟩,?_,?_,?_⟩
 ·rintro n g f i ⟨o,ps,_,_,e,_⟩
  exact e.keep _ _ K A
 ·rintro n d g f i B ⟨o,ps,rfl,e0,e1,h1,h2,rfl⟩
  obtain⟨z,t,rfl⟩:∃z,ws[n]?=some z/\d=.str z:=by
   rw[gQm] at B
   obtain⟨z,t,e⟩:=oQm.mp B
   exact⟨z,t,e.symm⟩
  symm
  rw[Qhq rfl]
  symm
  apply⟨by decide,?_⟩
  refine bQ (e0.app (G:= [O.lst [.str "row",.str "turns"]])) (by decide) (by decide) λv M R F q N=> ?_
  dsimp only[a7,aM,a9,bR,bU,eZ]
  have u:∃s:Str,(s="row" \/s="turns")/\kj ([.str "row",.str "turns"]:List D) (v:Int)=some (.str s):=by
   rcases v with _|_|v
   ·exact⟨"row",.inl rfl,rfl⟩
   ·exact⟨"turns",.inr rfl,rfl⟩
   ·omega
  obtain⟨s,u,C⟩:=u
  refine bK (q.keep _ _ (by have:=e0.lt;omega) aN) C ?_
  symm
  refine⟨by show 2<=_;decide,?_⟩
  have L:=(gQs.mp t).1
  have w:ps.length=n:=by
   have:=congrArg List.length h1
   rw[lQm,Qxq] at this
   omega
  refine⟨?_,_,ps++ [(z,s)],rfl,F,(e1.app).trans q,?_,λp m=> ?_,by simp[y3]⟩
  ·rw[lQm]
   exact bt (by omega)
  ·rw[Qzq,h1,QYq,t]
   rfl
  ·rcases mQa.mp m with m|m
   ·exact h2 p m
   ·rw[Qfq.mp m]
    exact u
 ·rintro g f i ⟨o,ps,rfl,e0,e1,h1,h2,rfl⟩
  exact h ps f (by rw[h1];simp) h2 e0 e1
def Rw.Ok.sub{a:Bool}{ws ps bs ts:List Str}{c b:List (Str×Str)}{n:Nat}{r:Rw}(h:r.Ok ⟨a,ws,ps,bs,c,ts⟩ n)(hs:∀g∈c,g∈b):r.Ok ⟨a,ws,ps,bs,b,ts⟩ n:=by
 cases r with
 |do_ g r d t=>exact⟨h.1,hs _ h.2.1,h.2.2⟩
 |_=>exact h
def vN.sub{a:Bool}{ws ps bs ts:List Str}{c b:List (Str×Str)}{rs:List Rw}(h:vN ⟨a,ws,ps,bs,c,ts⟩ rs)(hs:∀g∈c,g∈b):vN ⟨a,ws,ps,bs,b,ts⟩ rs:=λr d=>(h r d).sub hs
structure Rm where
 name:Str
 ah:Str
 ao:List (Str×Nat)
 aa:List (Str×Str)
 ae:List (Str×List Rw)
def Rm.d(r:Rm):D:=.tup [.str r.name,.str r.ah,.tup (r.ao.map lQ),.tup (r.aa.map y3),.tup (r.ae.map hX)]
def Jr:Nat:=3
def Jp:Nat:=0
structure xq(gs:List (Str×Str))(r:Rm):Prop where
 mn:r.ah="at once" \/r.ah="when free"
 tv:∀p∈r.ao,p.2<=9
 l1:r.ao.length<=6
 l2:r.aa.length<=6
 l3:r.ae.length<=6
 bv:∀p∈r.aa,p.2="row" \/p.2="turns"
 pr:∀p∈r.ae,vN ⟨false,r.ao.map (·.1)++fE,r.ao.map (·.1),r.aa.map (·.1),gs,[]⟩ p.2/\p.2.length<=12
 bz:r.aa.length<=Jr
def HQ(p:Str×List Rw):cq 0 (hX p)=true:=by
 simp only[hX,cq,cg,Bool.and_true,Bool.true_and]
 exact bf λr _=>r.low
def Rm.low(r:Rm):cq 0 r.d=true:=by
 simp only[Rm.d,cq,cg,Bool.and_true,Bool.true_and,QCq]
 exact⟨bf λ_ _=>rfl,bf λ_ _=>rfl,bf λp _=>HQ p⟩
end W28
namespace DL
open PySem PySem.Spec L2
def MP{a:cB}{S:aE}{f:fu}{g:bH}{Q:List D->aE->Prop}(h:E f a S λp b=>E g a b λr S2=>∃n:Nat,r=.int n/\(p.2.isM=true/\p.2.stays S2 p.1/\p.1.length*n<=1000/\n<=1)/\Q ((List.replicate n p.1).flatten) S2):E (JP f g) a S Q:=by
 obtain⟨p,b,c,r,S2,d,n,rfl,⟨h1,h2,h3,h4⟩,q⟩:=h
 refine⟨_,S2,?_,q⟩
 unfold JP
 rw[c]
 simp only[Qbq]
 rw[d]
 simp only[Qbq]
 rw[Qhq ⟨h1,h2,by omega,by omega,by simpa using QAq h3 (by decide)⟩]
 simp
end DL
namespace W28
open PySem PySem.Spec L2 DL
def Ky{S S0:aE}{k g m bm:Nat}{ms:List Str}{name:Str}{goals:List (Str×Str)}{Q:Res->aE->Prop}(x:Ex k S0 S)(ng:g≠k)(nm:m≠k)(gg:S[g]?=some (.lst (goals.map dC)))(gm:S[m]?=some (.lst (ms.map D.str)))(c0:∀s∈ms,s="at once" \/s="when free")(m0:0<ms.length)(m9:ms.length<9)(b7:bm<=Jr)(lg:goals.length<=100)
  (h:∀(r:Rm) (H:aE),r.name=name->xq (goals++r.ae.map λp=>(name,p.1)) r->Ex k S0 H->Ex k S H->H.length=S.length->Q (.d r.d) H):
  Fn ku [.ref k,.str name,.ref g,.ref m,.int bm] S Q:=by
 have f2:bm<=3:=QAq b7 (by decide)
 have y:Ex k S S:=by obtain⟨a,b,c,hh⟩:=x.pot;exact Ex.refl hh
 have kl:=x.lt
 refine bZ ?_
 unfold pW
 symm
 refine ft y nm gm (by simpa using m0) (by rw[lQm];omega) (λd I=> ?_) (λd I=> ?_) λmn S1 b2 e1 _ l1=> ?_
 ·obtain⟨s,_,rfl⟩:=Qkq.mp I
  exact⟨λk z=>(nomatch z),rfl⟩
 ·obtain⟨s,_,rfl⟩:=Qkq.mp I
  rfl
 obtain⟨ah,a5,rfl⟩:∃s:Str,(s="at once" \/s="when free")/\mn=.str s:=by
  obtain⟨s,hs,rfl⟩:=Qkq.mp b2
  exact⟨s,c0 s hs,rfl⟩
 symm
 apply⟨by decide,?_⟩
 refine bQ (e1.app (G:= [O.lst [.int 1,.int 1,.int 2,.int 0]])) (by decide) (by decide) λv S2 hv e2 b5 l2=> ?_
 dsimp only[a7,aM,a9,bR,bU,eZ]
 obtain⟨nt,c6,ha⟩:∃n:Nat,n<=2/\kj ([.int 1,.int 1,.int 2,.int 0]:List D) (v:Int)=some (.int n):=by
  rcases v with _|_|_|_|v
  ·exact⟨1,by omega,rfl⟩
  ·exact⟨1,by omega,rfl⟩
  ·exact⟨2,by omega,rfl⟩
  ·exact⟨0,by omega,rfl⟩
  ·omega
 refine bK (b5.keep _ _ (by have:=e1.lt;omega) aN) ha ?_
 symm
 apply iY e2 (by omega) (by omega) (by decide) λL S3 _ d4 e3 d5 l3=> ?_
 apply bQ (e3.app (G:= [O.lst (L.map D.str)])) (by omega) (by omega) λnb S4 c5 e4 a3 l4=> ?_
 apply iY e4 (by omega) (by omega) (by decide) λB t _ e0 e5 a6 l5=> ?_
 refine⟨by decide,?_⟩
 have C:S3.length≠k:=by have:=e3.lt;omega
 have R:t.length≠k:=by have:=e5.lt;omega
 have gt:(t++ [O.lst (B.map D.str)]++ [O.lst []])[S3.length]?=some (.lst (L.map D.str)):=aO (aO (a6.keep _ _ C (a3.keep _ _ C aN)))
 have gb:(t++ [O.lst (B.map D.str)]++ [O.lst []])[t.length]?=some (.lst (B.map D.str)):=aO aN
 have d6:S.length<=S3.length:=e3.len
 have f0:S.length<=t.length:=e5.len
 have d3:S3.length<t.length:=by
  have:=a6.len
  have:=a3.len
  simp only[lQa,Qnq,QGq] at *
  omega
 have e6:Ex k S (t++ [O.lst (B.map D.str)]++ [O.lst []]):=e5.app.app
 generalize hr:t.length+1=r
 have u:(t++ [O.lst (B.map D.str)]).length=r:=by simp[hr]
 rw[u]
 have gr:(t++ [O.lst (B.map D.str)]++ [O.lst []])[r]?=some (.lst []):=by rw[←u];exact aN
 generalize (t++ [O.lst (B.map D.str)]++ [O.lst []])=S6 at e6 gt gb gr⊢
 have c2:L.length=nt:=by omega
 have c3:B.length=nb:=by omega
 apply aI (hV ?_)
 apply bQ e6 (by decide) (by decide) λnd S7 c4 e7 P l7=> ?_
 apply iY e7 (by omega) (by omega) (by decide) λc1 S8 _ d1 e8 N l8=> ?_
 have Z:r≠k:=by omega
 let Inv:Nat->cB->aE->Prop:=λn Y H=>∃(o9 X M:Option D) (o:List (Str×List Rw)),Y= [some (.ref k),some (.str name),some (.ref g),some (.ref m),some (.int bm),some (.str ah),some (.ref S3.length),some (.ref t.length),some (.ref r),o9,X,M,none]∧
  Ex k S H/\H[S3.length]?=some (.lst (L.map D.str))/\H[t.length]?=some (.lst (B.map D.str))/\H[r]?=some (.lst (o.map hX))/\o.length=n/\(∀p∈o,vN ⟨false,L++fE,L,B,goals++o.map λp=>(name,p.1),[]⟩ p.2/\p.2.length<=12)
 refine⟨Inv,⟨none,none,none,[],rfl,e8,N.keep _ _ C (P.keep _ _ C gt),N.keep _ _ R (P.keep _ _ R gb),N.keep _ _ Z (P.keep _ _ Z gr),rfl,by simp⟩,λ_ _ _ _=>trivial,?_,?_⟩
 ·rintro n d Y S9 I ⟨o9,X,M,o,rfl,e9,gt9,gb9,gr9,hn,hpr⟩
  obtain⟨w,hw,rfl⟩:∃z,c1[n]?=some z/\d=.str z:=by
   rw[gQm] at I
   obtain⟨z,hz,e⟩:=oQm.mp I
   exact⟨z,hz,e.symm⟩
  have d2:n<3:=by
   have:=(gQs.mp hw).1
   omega
  apply aV ?_
  apply CO (λd=>match d with|.tup (a::_)=>.tup [.str name,a]|d=>d) ?_
  refine a_ gr9 ?_
  refine⟨gr9,by simp;omega,λd I=> ?_,?_⟩
  ·obtain⟨p,_,rfl⟩:=Qkq.mp I
   symm
   apply ay rfl ?_
   exact⟨by show 2<=_;decide,rfl,rfl⟩
  have eh:(o.map hX).map (λd=>match d with|.tup (a::_)=>.tup [.str name,a]|d=>d)=(o.map λp=>(name,p.1)).map dC:=by
   rw[QPq,QPq]
   rfl
  rw[eh]
  generalize hh:(o.map λp=>(name,p.1))=here
  have lh:here.length=n:=by rw[←hh];simpa using hn
  symm
  apply yb ?_
  have b0:=e9.keep _ _ ng gg
  apply a_ (aO b0) ?_
  apply MP ?_
  apply a_ aN ?_
  apply bQ (e9.app (G:= [O.lst (here.map dC)])) (by decide) (by decide) λv2 a2 f1 A f d9=> ?_
  apply dR ?_
  have k9:S9.length≠k:=by have:=e9.lt;omega
  have b9:=f.keep _ _ k9 aN
  obtain⟨q,hq,b4⟩:∃q:Nat,q<=1/\intOfD [D.bl (decide ((v2:Int)=0))]=some (.int q):=by
   by_cases c:(v2:Int)=0
   ·exact⟨1,by omega,by rw[Qeq c];rfl⟩
   ·exact⟨0,by omega,by rw[Qdq c];rfl⟩
  refine⟨_,b4,?_⟩
  refine⟨q,rfl,⟨rfl,b9,?_,hq⟩,?_⟩
  ·simp only[lQm]
   have:here.length*q<=here.length*1:=Nat.mul_le_mul_left _ hq
   omega
  obtain⟨j,a0,a1,d7⟩:∃l:List (Str×Str),goals.map dC++(List.replicate q (here.map dC)).flatten=l.map dC/\(∀g∈l,g∈goals++here)/\l.length<=goals.length+10:=by
   rcases q with _|_|q
   ·exact⟨goals,by simp,λg U=>List.mem_append_left _ U,by omega⟩
   ·exact⟨goals++here,by simp,λg U=>U,by rw[lQa];omega⟩
   ·omega
  refine⟨⟨rfl,rfl,A.keep _ _ ng gg,?_⟩,?_⟩
  ·have:=congrArg List.length a0
   rw[lQa] at this
   rw[this,lQm]
   exact nQl (bt (by omega))
  rw[a0]
  symm
  apply fH ?_
  have K:(a2++ [O.lst (j.map dC)])[r]?=some (.lst (o.map hX)):=aO (f.keep _ _ Z (aO gr9))
  apply⟨_,_,rfl,K,?_⟩
  refine⟨by show 3<=_;decide,?_⟩
  symm
  refine Jx (goals:=j) (A.app (G:= [O.lst (j.map dC)])) C R (by have:=A.lt;omega) (aO (f.keep _ _ C (aO gt9))) (aO (f.keep _ _ R (aO gb9))) aN (by omega) (by omega) (by omega) λrs b1 h1 h2 h3 W i b6=> ?_
  symm
  refine⟨by show 2<=_;decide,?_⟩
  symm
  have J:=i.keep _ _ Z K
  refine⟨_,J,fF (bt (by simp;omega)) ?_⟩
  refine⟨_,_,_,o++ [(w,rs)],rfl,W.put (by omega) kl,fD (by omega) (i.keep _ _ C (aO (f.keep _ _ C (aO gt9)))),fD (by omega) (i.keep _ _ R (aO (f.keep _ _ R (aO gb9)))),?_,by simp[hn],λp F=> ?_⟩
  ·rw[cQ J]
   simp[hX]
  ·rcases mQa.mp F with F|F
   ·refine⟨(hpr p F).1.sub λg U=> ?_,(hpr p F).2⟩
    rw[Qzq,←Qvq]
    exact List.mem_append_left _ U
   ·rw[Qfq.mp F]
    refine⟨h1.sub λg U=> ?_,h3⟩
    rw[Qzq,←Qvq]
    refine List.mem_append_left _ ?_
    rw[hh]
    exact a1 g U
 ·rintro Y S9 ⟨o9,X,M,o,rfl,e9,gt9,gb9,gr9,hn,hpr⟩
  have d8:o.length<=3:=by
   rw[hn]
   simp only[lQm]
   omega
  symm
  apply Mh e9 rfl rfl gb9 R (by omega) λbs a2 a8 b8 A f=> ?_
  apply E3 (m:=3) A rfl rfl (f.keep _ _ C gt9) C (by decide) (by decide) (by omega) λts b1 a4 b3 W i b6=> ?_
  refine a_ (i.keep _ _ Z (f.keep _ _ Z gr9)) ?_
  apply⟨rfl,?_⟩
  refine⟨by show 5<=_;decide,?_⟩
  have f3:ts.length=L.length:=by rw[←a4];simp
  have c7:bs.length=B.length:=by rw[←a8];simp
  refine lT (d:=(Rm.mk name ah ts bs o).d) W x.lt (λk z=>(nomatch z)) (dS (Rm.low _)) λa b c=> ?_
  refine h ⟨name,ah,ts,bs,o⟩ _ rfl ⟨a5,λp F=>by have:=b3 p F;omega,by show ts.length<=6;omega,by show bs.length<=6;omega,by show o.length<=6;omega,b8,?_,by show bs.length<=Jr;omega⟩ x.set y.set (by simp)
  intro p F
  show vN ⟨false,ts.map (·.1)++fE,ts.map (·.1),bs.map (·.1),_,[]⟩ p.2/\_
  rw[a4,a8]
  exact hpr p F
end W28
namespace DL
open PySem PySem.Spec L2
theorem Np{c:jL}{b:cE}{Q:Out->Prop}(I:Nat->cB->aE->Prop)(i:∀m a S,I m a S->E c a S λk f=>if k=true then∃e,m=e+1/\T b a f λo=>match o with|.nx d S2=>I e d S2|_=>False else Q (.nx a f)):
  ∀(n m:Nat) (a:cB) (S:aE),m<n->I m a S->T (Ja c b n) a S Q
 |0,_,_,_,h,_=>absurd h (Nat.not_lt_zero _)
 | n+1,m,a,S,h,hi=>by
   obtain⟨k,f,g,q⟩:=i m a S hi
   cases k with
   |false=>exact⟨_,by simp only[Ja];rw[g];rfl,q⟩
   | true=>
     obtain⟨e,rfl,o,e2,q⟩:=(q:∃e,m=e+1/\T b a f _)
     cases o with
     | nx d S2=>
       obtain⟨o,j,q⟩:=Np I i n e d S2 (by omega) q
       exact⟨o,by simp only[Ja];rw[g];simp only[Qbq,if_true];rw[e2];exact j,q⟩
     |_=>exact q.elim
def Jn{b:cB}{S:aE}{f:fu}{Q:List D->aE->Prop}(h:E f b S λp a=>p.2.isL=true/\∃ss,tX p.1=some ss/\(p.1.length<=3/\ss.Nodup)/\Q (vB ss p.1) a):E (yx f) b S Q:=by
 obtain⟨p,a,d,l,ss,c,e,q⟩:=h
 exact⟨_,a,by unfold yx;rw[d];simp only[Qbq];rw[Qhq l,c];simp only[Qbq];rw[Qhq e],q⟩
def Gk{α:Type}{f:α->D}{ss:List Str}{xs:List α}(c:α)(b:xs.length<=3):∃ys:List α,ys.Perm xs/\vB ss (xs.map f)=ys.map f:=by
 refine⟨Zp.sortBy ss c xs,Zp.fg ss xs b,?_⟩
 have j:(vB ss (xs.map f)).length=((Zp.sortBy ss c xs).map f).length:=by
  unfold vB
  rw[(Zp.fg ss (xs.map f) (by simpa using b)).length_eq,lQm,lQm,(Zp.fg ss xs b).length_eq]
 apply List.ext_getElem?
 intro i
 cases e:(vB ss (xs.map f))[i]? with
 | none=>
   rw[List.getElem?_eq_none_iff] at e
   rw[eq_comm,List.getElem?_eq_none_iff]
   omega
 | some d=>
   obtain⟨y,g,r⟩:=wz (R:=λ(d:D) (a:α)=>d=f a) (ss:=ss) (xs:=xs.map f) (ys:=xs) (d:=.non) (d':=c) (by simp) (by simpa using b) (λi d h=>by
     rw[gQm] at h
     obtain⟨y,g,e⟩:=oQm.mp h
     exact⟨y,g,e.symm⟩) i d e
   rw[gQm,g,r]
   rfl
end DL
namespace W28
open PySem PySem.Spec L2 DL
def aU(rs:List Rm):List (Str×Str):=rs.flatMap λr=>r.ae.map λp=>(r.name,p.1)
def xq.sub{b a:List (Str×Str)}{r:Rm}(h:xq b r)(hs:∀g∈b,g∈a):xq a r:={h with pr:=λp c=>⟨(h.pr p c).1.sub hs,(h.pr p c).2⟩}
theorem Et:∀rs:List Rm,tX (rs.map Rm.d)=some (rs.map (·.name))
 | []=>rfl
 | r::rs=>by
   show tX (Rm.d r::rs.map Rm.d)=_
   simp only[Rm.d,tX]
   rw[Et rs]
   rfl
def AA{S:aE}{b:cB}{i j v:Nat}{rs:List Rm}{f:fu}{Q:Out->Prop}{tg:Tag}(H:v<b.length)(J:b[j]?=some (some (.ref i)))(y:S[i]?=some (.lst []))
  (I:∀(R:List D×Tag->aE->Prop),R (rs.map Rm.d,tg) S->E f b S R) (hs:∀o,tg.stays (S.set i o) (rs.map Rm.d)) (A:v≠j) (hd:∀r∈rs,r.ae.length<=6) (U:rs.length<=3)
  (q:∀o,Q (.nx (b.set v o) (S.set i (.lst ((aU rs).map dC))))):
  T (jh (fM f) (bJ v) (hZ (y2 (ar j) (ib (bD [none,some v] (fM (aR (aQ fK (ar v) (cF (.int 4))))) (bJ 0) bL (bg (aq (aQ fK (ar 1) (cF (.int 0))) (aq (aQ fK (ar 0) (cF (.int 0))) av)))))))) b S Q:=by
 refine hV (j_ (I _ ?_))
 have P:i<S.length:=(gQs.mp y).1
 have g:∀o:Option D,(b.set v o)[v]?=some o:=λo=>Qyq H
 have t:∀o:Option D,(b.set v o)[j]?=some (some (.ref i)):=λo=>by rw[QKq A];exact J
 refine⟨λn c w=>(n=0->c=b)/\(∃o,c=b.set v o)/\w=S.set i (.lst ((aU (rs.take n)).map dC)),⟨λ_=>rfl,?_,?_⟩,λn c w h=> ?_,λn d c w u ⟨_,⟨o,k⟩,m⟩=> ?_,λc w ⟨N,⟨o,k⟩,m⟩=> ?_⟩
 ·exact⟨b[v],by rw[List.set_getElem_self]⟩
 ·apply List.ext_getElem?
  intro x
  rw[List.getElem?_set]
  split
  ·rename_i e
   subst e
   rw[y]
   rfl
  ·rfl
 ·rw[h.2.2];exact hs _
 ·obtain⟨r,s,rfl⟩:∃r,rs[n]?=some r/\d=r.d:=by
   rw[gQm] at u
   obtain⟨z,G,e⟩:=oQm.mp u
   exact⟨z,G,e.symm⟩
  subst k m
  have M:=(gQs.mp s).1
  refine aV (eg (Ic ?_))
  rw[List.set_set]
  refine aw (t _) ?_
  refine⟨_,_,rfl,cQ y,qA (CO (λd=>match d with|.tup (a::_)=>.tup [.str r.name,a]|d=>d) ?_)⟩
  refine bV (aY (aw (g _) (cC (ay rfl (cy ?_)))))
  have B:=hd r (mQg s)
  refine⟨trivial,by simp;omega,λd hd=> ?_,?_⟩
  ·obtain⟨p,_,rfl⟩:=Qkq.mp hd
   have C:(pQ [none,some v] (b.set v (some r.d))).set 0 (some (hX p))= [some (hX p),some r.d]:=by
    show [some (hX p),(b.set v (some r.d)).getD v none]=_
    rw[Qlq,g]
    rfl
   rw[C]
   symm
   apply ay rfl ?_
   apply ay rfl ?_
   exact⟨by show 2<=_;decide,rfl,rfl⟩
  ·have F:∀l:List Rm,(∀r∈l,r.ae.length<=6)->(aU l).length<=6*l.length:=by
    intro l
    induction l with
    |nil=>intro _;simp[aU]
    | cons a l L=>
      intro h
      have:=L λr s=>h r (Qpq _ s)
      have:=h a (QBq ..)
      simp only[aU,QSq,lQa,lQm,Qnq] at *
      omega
   have K:=F (rs.take n) λr s=>hd r (List.mem_of_mem_take s)
   rw[Qxq] at K
   refine⟨_,cQ y,⟨rfl,?_⟩,λz=>absurd z (by omega),⟨_,rfl⟩,?_⟩
   ·simp only[lQm]
    exact nQl (bt (by omega))
   ·rw[List.set_set,QYq,s]
    congr 2
    simp only[aU,List.flatMap_append,Qzq,Option.toList_some,QSq,List.flatMap_nil,List.append_nil,QPq]
    rfl
 ·subst k m
  rw[lQm,QEq]
  exact q o
def Jg(d:Str):∀a b:Str,d++a=d++b->a=b:=by
 intro a b h
 have f:(d++a).cps.toList=(d++b).cps.toList:=by rw[h]
 have e:∀c:Str,(d++c).cps.toList=d.cps.toList++c.cps.toList:=λc=>by
  show(d.cps++c.cps).toList=_
  simp
 rw[e,e] at f
 exact Str.ext' (Array.toList_inj.mp (List.append_cancel_left f))
def F2(c:Str):(six.map (c++·)).Nodup:=by
 have d:six.Nodup:=by decide +kernel
 exact List.Pairwise.map (R:=(·≠·)) (S:=(·≠·)) _ (λa b n e=>n (Jg c a b e)) d
def IK{S S0:aE}{k m bm w:Nat}{ms:List Str}{Q:Res->aE->Prop}(x:Ex k S0 S)(nm:m≠k)(gm:S[m]?=some (.lst (ms.map D.str)))(b2:∀s∈ms,s="at once" \/s="when free")(m0:0<ms.length)(m9:ms.length<9)(b1:bm<=Jr)(hm:w<=3)
  (h:∀(rs:List Rm) (F:aE),(rs.map (·.name)).Nodup->rs.length<=3->(∀r∈rs,xq (aU rs) r)->Ex k S0 F->Ex k S F->F.length=S.length->Q (.d (.tup (rs.map Rm.d))) F):
  Fn jm [.ref k,.int w,.ref m,.int bm] S Q:=by
 have y:Ex k S S:=by obtain⟨a,b,c,hh⟩:=x.pot;exact Ex.refl hh
 have kl:=x.lt
 have ml:=(gQs.mp gm).1
 refine bZ ?_
 unfold tT
 symm
 apply iY y (by omega) (by omega) (by decide) λe L hp b3 e1 b5 l1=> ?_
 refine⟨by decide,?_⟩
 have nn:e.Nodup:=by
  obtain⟨l,hp⟩:=hp
  exact(List.nodup_append.mp (hp.nodup_iff.mpr (F2 _))).1
 generalize ha:L.length=a
 generalize H:a+1=r
 have u:(L++ [O.lst (e.map D.str)]).length=r:=by simp[ha,H]
 rw[u]
 have e2:Ex k S (L++ [O.lst (e.map D.str)]++ [O.lst []]):=e1.app.app
 have ga:(L++ [O.lst (e.map D.str)]++ [O.lst []])[a]?=some (.lst (e.map D.str)):=by rw[←ha];exact aO aN
 have gr:(L++ [O.lst (e.map D.str)]++ [O.lst []])[r]?=some (.lst []):=by rw[←u];exact aN
 have b4:=e1.lt
 generalize (L++ [O.lst (e.map D.str)]++ [O.lst []])=S2 at e2 ga gr⊢
 have sa:S.length<=a:=by rw[←ha];exact e1.len
 have ka:a≠k:=by omega
 have kr:r≠k:=by omega
 refine aI (Np (λq a1 F=>∃(o6 o7 o8:Option D) (n:List Str) (rs:List Rm),a1= [some (.ref k),some (.int w),some (.ref m),some (.int bm),some (.ref a),some (.ref r),o6,o7,o8]/\Ex k S F/\F[a]?=some (.lst (n.map D.str))/\F[r]?=some (.lst (rs.map Rm.d))/\n.length=q/\(rs.map (·.name)++n).Perm e/\∀x∈rs,xq (aU rs) x) ?_ 4 e.length _ _ (by omega) ?_)
 ·rintro q a1 t ⟨o6,o7,o8,n,rs,rfl,e3,ga3,gr3,G,hpm,hok⟩
  have C:=hpm.length_eq
  rw[lQa,lQm] at C
  symm
  refine a_ ga3 ?_
  refine⟨⟨rfl,ga3⟩,?_⟩
  dsimp only[a7,aM,a9,bR,bU,eZ]
  refine aK (λc=> ?_) (λc=> ?_)
  ·have a2:0<n.length:=by
    cases n with
    |nil=>simp at c
    |cons a b=>simp
   apply⟨n.length-1,by omega,?_⟩
   refine⟨by decide,?_⟩
   refine aI ?_
   have k3:t.length≠k:=by have:=e3.lt;omega
   have r3:=(gQs.mp gr3).1
   have a3:=(gQs.mp ga3).1
   have P:∀o,Tag.stays ((t++ [O.lst []]).set t.length o) (rs.map Rm.d) (.st r):=λo=>fD (by omega) (aO gr3)
   refine AA (i:=t.length) (j:=6) (v:=7) (rs:=rs) (tg:=.st r) (by simp) rfl aN (λR hR=>bV (aw rfl (a_ (aO gr3) hR))) P (by decide) (λr H=>(hok r H).l3) (by omega) (λo=> ?_)
   have e4:Ex k S ((t++ [O.lst []]).set t.length (.lst ((aU rs).map dC))):=e3.app.put e3.len kl
   have B:((t++ [O.lst []]).set t.length (.lst ((aU rs).map dC)))[a]?=some (.lst (n.map D.str)):=fD (by omega) (aO ga3)
   have N:((t++ [O.lst []]).set t.length (.lst ((aU rs).map dC)))[r]?=some (.lst (rs.map Rm.d)):=fD (by omega) (aO gr3)
   have a4:((t++ [O.lst []]).set t.length (.lst ((aU rs).map dC)))[t.length]?=some (.lst ((aU rs).map dC)):=cQ aN
   have lg:(aU rs).length<=100:=by
    have b0:∀l:List Rm,(∀r∈l,r.ae.length<=6)->(aU l).length<=6*l.length:=by
     intro l
     induction l with
     |nil=>intro _;simp[aU]
     | cons a l ih=>
       intro h
       have:=ih λr H=>h r (Qpq _ H)
       have:=h a (QBq ..)
       simp only[aU,QSq,lQa,lQm,Qnq] at *
       omega
    have:=b0 rs λr H=>(hok r H).l3
    omega
   generalize ((t++ [O.lst []]).set t.length (.lst ((aU rs).map dC)))=S4 at e4 B N a4⊢
   dsimp only[a7,aM,a9,bR,bU,eZ]
   apply aI (cK (fH ?_))
   apply⟨_,_,rfl,B,?_⟩
   apply a_ B ?_
   refine bQ e4 (by simp only[lQm];omega) (by simp only[lQm];omega) λj Y hj e5 J l5=> ?_
   dsimp only[a7,aM,a9,bR,bU,eZ]
   symm
   have A:j<n.length:=by simpa using hj
   have a0:=J.keep _ _ ka B
   refine⟨_,a0,?_⟩
   refine Nu (d:=((n.map D.str).eraseIdx j,D.str n[j])) ?_ ?_
   ·simp only[gS]
    rw[Qhq ⟨by omega,by omega⟩,lQm,Iu A (by omega)]
    simp[gQe A]
   dsimp only[a7,aM,a9,bR,bU,eZ]
   refine eg (fH ?_)
   have e6:Ex k S (Y.set a (.lst ((n.map D.str).eraseIdx j))):=e5.put sa kl
   have W:(Y.set a (.lst ((n.map D.str).eraseIdx j)))[a]?=some (.lst ((n.eraseIdx j).map D.str)):=by rw[cQ a0,rV]
   have I:(Y.set a (.lst ((n.map D.str).eraseIdx j)))[r]?=some (.lst (rs.map Rm.d)):=fD (by omega) (J.keep _ _ kr N)
   have a5:(Y.set a (.lst ((n.map D.str).eraseIdx j)))[t.length]?=some (.lst ((aU rs).map dC)):=fD (by omega) (J.keep _ _ k3 a4)
   generalize (Y.set a (.lst ((n.map D.str).eraseIdx j)))=S6 at e6 W I a5⊢
   symm
   apply⟨_,_,rfl,I,?_⟩
   apply Ky (goals:=aU rs) e6 k3 nm a5 (e6.keep _ _ nm gm) b2 m0 m9 b1 lg λX S7 Z a6 e7 U l7=> ?_
   have M:=U.keep _ _ kr I
   refine⟨_,M,fF (bt (by simp only[lQm];omega)) ?_⟩
   have a8:aU (rs++ [X])=aU rs++X.ae.map λp=>(X.name,p.1):=by simp[aU]
   refine⟨_,_,_,n.eraseIdx j,rs++ [X],rfl,e7.put (by omega) kl,fD (by omega) (U.keep _ _ ka W),?_,?_,?_,λq G=> ?_⟩
   ·rw[cQ M]
    simp
   ·rw[List.length_eraseIdx_of_lt A]
   ·rw[Qzq]
    show((rs.map (·.name)++ [X.name])++n.eraseIdx j).Perm e
    rw[Z]
    exact Bt A hpm
   ·rw[a8]
    rcases mQa.mp G with G|G
    ·exact(hok q G).sub λg K=>List.mem_append_left _ K
    ·rw[Qfq.mp G,Z]
     exact a6
  ·have a2:n= []:=by
    cases n with
    |nil=>rfl
    |cons a b=>simp at c
   subst a2
   rw[List.append_nil] at hpm
   apply eX (rH (qA (Jn ?_)))
   refine a_ gr3 ?_
   have l3:rs.length<=3:=by simp at C;omega
   refine⟨rfl,_,Et rs,⟨by simpa using l3,hpm.nodup_iff.mpr nn⟩,?_⟩
   obtain⟨ys,hy,he⟩:=Gk (f:=Rm.d) (ss:=rs.map (·.name)) (xs:=rs) ⟨"","",[],[],[]⟩ l3
   rw[he]
   refine lT e3 x.lt (λk z=>(nomatch z)) (by simp only[cq];exact bf λq _=>dS q.low) λa b c=> ?_
   refine h ys _ ((hy.map _).nodup_iff.mpr (hpm.nodup_iff.mpr nn)) (by rw[hy.length_eq];exact l3) (λq G=>(hok q (hy.mem_iff.mp G)).sub λg K=> ?_) x.set y.set (by simp)
   simp only[aU,QOq] at K⊢
   obtain⟨z,hz,K⟩:=K
   exact⟨z,hy.mem_iff.mpr hz,K⟩
 ·exact⟨none,none,none,e,[],rfl,e2,ga,gr,rfl,by simp,by simp⟩
def Ls{S S0:aE}{k g w p:Nat}{words ai:List Str}{goals:List (Str×Str)}{Q:Res->aE->Prop}(x:Ex k S0 S)(ng:g≠k)(nw:w≠k)(np:p≠k)(gg:S[g]?=some (.lst (goals.map dC)))(gw:S[w]?=some (.lst (words.map D.str)))(gp:S[p]?=some (.lst (ai.map D.str)))
  (lg:goals.length<500) (lw:words.length<500) (lp:ai.length<500)
  (h:∀(rs:List Rw) (W:aE),vN ⟨true,words,words,[],goals,ai⟩ rs->0<rs.length->rs.length<=9->Ex k S0 W->Ex k S W->W.length=S.length->Q (.d (.tup (rs.map Rw.d))) W):
  Fn nV [.ref k,.ref g,.ref w,.ref p,.int 4] S Q:=by
 have y:Ex k S S:=by obtain⟨a,b,c,hh⟩:=x.pot;exact Ex.refl hh
 have kl:=x.lt
 have gl:=(gQs.mp gg).1
 have wl:=(gQs.mp gw).1
 have pl:=(gQs.mp gp).1
 generalize Y:(⟨true,words,words,[],goals,ai⟩:Sc)=sc at h
 have so:sc.own=true:=by rw[←Y]
 have sw:sc.ws=words:=by rw[←Y]
 have sp:sc.ps=words:=by rw[←Y]
 have sb:sc.bs= []:=by rw[←Y]
 have sg:sc.gs=goals:=by rw[←Y]
 have st:sc.ts=ai:=by rw[←Y]
 refine bZ ?_
 unfold q_
 symm
 refine⟨by decide,?_⟩
 generalize hr:S.length=r
 have ir:(S++ [O.lst []])[r]?=some (.lst []):=by rw[←hr];exact aN
 have e0:Ex k S (S++ [O.lst []]):=y.app
 generalize (S++ [O.lst []])=S1 at e0 ir⊢
 have X:r≠k:=by omega
 apply aI (hV ?_)
 apply bQ e0 (by decide) (by decide) λa3 S2 b5 e2 b6 l2=> ?_
 refine⟨_,rfl,⟨by omega,by omega⟩,?_⟩
 let Inv:Nat->cB->aE->Prop:=λn a8 W=>∃(o6 o7:Option D) (rs:List Rw),a8= [some (.ref k),some (.ref g),some (.ref w),some (.ref p),some (.int 4),some (.ref r),o6,o7]∧
  Ex k S W/\W[r]?=some (.lst (rs.map Rw.d))/\rs.length<=2*n/\n<=rs.length/\n<=4/\∀q∈rs,q.Ok sc rs.length
 have u:∀m:Nat,m<=100->m<sizeLine:=λm hm=>Nat.lt_of_le_of_lt hm (by decide)
 have a0:sc.ws.length<1000:=by rw[sw];omega
 have b9:sc.ps.length<900:=by rw[sp];omega
 have b7:sc.gs.length<1000:=by rw[sg];omega
 have up:∀{t':Tr} {d:Nat},t'.Ok sc.ws []->t'.dep<=d+1->d<=3->EY sc t':=λh1 h2 h3=>⟨by rw[sb];exact h1,by omega⟩
 refine⟨Inv,⟨_,_,[],rfl,e2,b6.keep _ _ X ir,by simp,by simp,by omega,by simp⟩,λ_ _ _ _=>trivial,?_,?_⟩
 ·rintro n d a8 S3 hd ⟨o6,o7,rs,rfl,e3,hr3,hl1,hl2,hn4,U⟩
  have c2:n<4:=by
   have:=(gQs.mp hd).1
   simp only[ki,lQm,QVq] at this
   omega
  apply aV ?_
  refine bQ e3 (by decide) (by decide) λa5 S4 c3 J a6 l4=> ?_
  dsimp only[a7,aM,a9,bR,bU,eZ]
  have e:=a6.keep _ _ X hr3
  have K:=J.keep _ _ nw gw
  have b0:=J.keep _ _ ng gg
  have Z:=J.keep _ _ np gp
  rw[←sw] at K
  rw[←sg] at b0
  rw[←st] at Z
  have a2:=K
  rw[sw,←sp] at a2
  have C:∀(ms:List Rw) (H:aE),Ex k S H->H[r]?=some (.lst (rs.map Rw.d++ms.map Rw.d))->1<=ms.length->ms.length<=2->(∀q∈ms,q.Ok sc (rs.length+ms.length))→
    Inv (n+1) [some (.ref k),some (.ref g),some (.ref w),some (.ref p),some (.int 4),some (.ref r),some d,some (.int a5)] H:=by
   intro ms H I h2 h3 h4 h5
   refine⟨_,_,rs++ms,rfl,I,by rw[h2,Qzq],by rw[lQa];omega,by rw[lQa];omega,by omega,λq N=> ?_⟩
   rw[lQa]
   rcases mQa.mp N with N|N
   ·exact(U q N).mono (by omega)
   ·exact h5 q N
  have lr:(rs.map Rw.d).length=rs.length:=by simp
  have a1:∀H (q5:List Rw),Ex k S H->H[r]?=some (.lst (q5.map Rw.d))->q5.length<=50->∀(R:Out->Prop),(∀(t:Tr) (S6:aE),EY sc t->Ex k S S6->S6[r]?=some (.lst ((q5++ [Rw.say t]).map Rw.d))->R (.nx [some (.ref k),some (.ref g),some (.ref w),some (.ref p),some (.int 4),some (.ref r),some d,some (.int a5)] S6))→
    T (hZ (jg fw (ar 5) (aq (bg (aq (cF (.str "say")) (aq (ax (bC 4) (aq (ar 0) (aq (ar 2) (aq (bP (bB av)) (aq (cF (.int 1)) av))))) av))) av))) [some (.ref k),some (.ref g),some (.ref w),some (.ref p),some (.int 4),some (.ref r),some d,some (.int a5)] H R:=by
   intro H q5 I B c4 R hR
   apply eg (fH ?_)
   apply⟨_,_,rfl,B,?_⟩
   apply⟨by decide,?_⟩
   have w5:=I.keep _ _ nw gw
   rw[←sw] at w5
   refine jC 4 (deep:=1) (bs:= []) (I.app (G:= [O.lst []])) nw (j:=H.length) (by have:=I.lt;omega) (aO w5) aN a0 (by decide) (by decide) λt3 S6 h3 h4 e6 M l6=> ?_
   symm
   refine⟨by show 2<=_;decide,?_⟩
   symm
   have A:=M.keep _ _ X (aO B)
   refine⟨_,A,fF (u _ (by simp;omega)) ?_⟩
   refine hR t3 _ (up h3 h4 (by omega)) (e6.put (by omega) kl) ?_
   rw[cQ A]
   simp[Rw.d]
  refine bO (uS rfl rfl b0 λc hc=>aK (λP=> ?_) (λP=> ?_))
  ·apply eg (fH ?_)
   apply⟨_,_,rfl,e,?_⟩
   apply KM (n:=rs.length+1) (sc:=sc) J ng nw nw b0 a2 K (by simpa using hc P) b7 b9 a0 λq H h1 I i l5=> ?_
   have B:=i.keep _ _ X e
   refine⟨_,B,fF (u _ (by rw[lr];omega)) ?_⟩
   exact C [q] _ (I.put (by omega) kl) (cQ B) (by simp) (by simp) λq' F=>by rw[Qfq.mp F];exact h1
  refine bO (uM rfl rfl Z λc hc=>aK (λP=> ?_) (λP=> ?_))
  ·apply eg (fH ?_)
   apply⟨_,_,rfl,e,?_⟩
   apply⟨by decide,?_⟩
   refine bQ (J.app (G:= [O.lst [.str "take",.str "give"]])) (by decide) (by decide) λv H hv I i l5=> ?_
   dsimp only[a7,aM,a9,bR,bU,eZ]
   have b4:∃(f:Str->Rw) (s:Str),(∀z,(f z).d=.tup [.str s,.str z])/\(∀z n,z∈sc.ts->(f z).Ok sc n)/\kj ([.str "take",.str "give"]:List D) (v:Int)=some (.str s):=by
    rcases v with _|_|v
    ·exact⟨.take,"take",λ_=>rfl,λz n hz=>⟨so,hz⟩,rfl⟩
    ·exact⟨.give,"give",λ_=>rfl,λz n hz=>⟨so,hz⟩,rfl⟩
    ·omega
   obtain⟨f,s,hf,b3,hs⟩:=b4
   refine bK (i.keep _ _ (by have:=J.lt;omega) aN) hs ?_
   symm
   refine ft I np (i.keep _ _ np (aO Z)) (hc P) (by rw[st];simp;omega) eK gf λv2 S6 L e6 M l6=> ?_
   obtain⟨z,hz,rfl⟩:=Qkq.mp L
   symm
   refine⟨by show 2<=_;decide,?_⟩
   symm
   have A:=M.keep _ _ X (i.keep _ _ X (aO e))
   refine⟨_,A,fF (u _ (by rw[lr];omega)) ?_⟩
   refine C [f z] _ (e6.put (by omega) kl) ?_ (by simp) (by simp) λq' F=>by rw[Qfq.mp F];exact b3 _ _ hz
   rw[cQ A]
   simp[hf]
  refine bO (uM rfl rfl Z λc hc=>aK (λP=> ?_) (λP=> ?_))
  ·apply eg (fH ?_)
   apply⟨_,_,rfl,e,?_⟩
   refine ft J np Z (hc P) (by rw[st];simp;omega) eK gf λv2 H L I i l5=> ?_
   obtain⟨z,hz,rfl⟩:=Qkq.mp L
   symm
   refine ft I np (i.keep _ _ np Z) (hc P) (by rw[st];simp;omega) eK gf λv3 S6 b8 e6 M l6=> ?_
   obtain⟨z2,c0,rfl⟩:=Qkq.mp b8
   symm
   refine⟨by show 3<=_;decide,?_⟩
   symm
   have A:=M.keep _ _ X (i.keep _ _ X e)
   refine⟨_,A,fF (u _ (by rw[lr];omega)) ?_⟩
   exact C [.pass z z2] _ (e6.put (by omega) kl) (cQ A) (by simp) (by simp) λq' F=>by rw[Qfq.mp F];exact⟨so,hz,c0⟩
  refine bO (uM rfl rfl K λc hc=>aK (λP=> ?_) (λP=> ?_))
  ·apply eg (fH ?_)
   apply⟨_,_,rfl,e,?_⟩
   refine ft J nw K (hc P) (by simp;omega) eK gf λv2 H L I i l5=> ?_
   obtain⟨z,hz,rfl⟩:=Qkq.mp L
   symm
   apply⟨by decide,?_⟩
   refine jC 4 (deep:=2) (bs:= []) (I.app (G:= [O.lst []])) nw (j:=H.length) (by have:=I.lt;omega) (aO (i.keep _ _ nw K)) aN a0 (by decide) (by decide) λt3 S6 h3 h4 e6 M l6=> ?_
   symm
   refine⟨by show 3<=_;decide,?_⟩
   symm
   have A:=M.keep _ _ X (aO (i.keep _ _ X e))
   refine⟨_,A,fF (u _ (by rw[lr];omega)) ?_⟩
   exact C [.put z t3] _ (e6.put (by omega) kl) (cQ A) (by simp) (by simp) λq' F=>by rw[Qfq.mp F];exact⟨by rw[sp,←sw];exact hz,up h3 h4 (by omega)⟩
  refine bO (KS rfl λc=>aK (λP=> ?_) (λP=> ?_))
  ·apply aI (eg (fH ?_))
   apply⟨_,_,rfl,e,?_⟩
   apply⟨by decide,?_⟩
   refine jC 4 (deep:=2) (bs:= []) (J.app (G:= [O.lst []])) nw (j:=S4.length) (by have:=J.lt;omega) (aO K) aN a0 (by decide) (by decide) λt3 H h3 h4 I i l5=> ?_
   symm
   have B:=i.keep _ _ X (aO e)
   apply a_ B ?_
   refine⟨by show 3<=_;decide,?_⟩
   symm
   refine⟨_,B,fF (u _ (by rw[lr];omega)) ?_⟩
   dsimp only[a7,aM,a9,bR,bU,eZ]
   have A:(H.set r (.lst (rs.map Rw.d++ [.tup [.str "unless",t3.d,.int (((rs.map Rw.d).length:Int)+2)]])))[r]?=some (.lst ((rs++ [Rw.unl t3 (rs.length+2)]).map Rw.d)):=by
    rw[cQ B]
    simp[Rw.d]
   refine a1 _ (rs++ [Rw.unl t3 (rs.length+2)]) (I.put (by omega) kl) A (by simp;omega) _ λt4 S6 h5 e6 a4=> ?_
   refine C [.unl t3 (rs.length+2),.say t4] _ e6 (by rw[a4];simp) (by simp) (by simp) λq N=> ?_
   simp only[Qsq,QXq,or_false] at N
   rcases N with rfl|rfl
   ·exact⟨up h3 h4 (by omega),Qmq _⟩
   ·exact⟨so,h5⟩
  ·refine a1 _ rs J e (by omega) _ λt4 S6 h5 e6 a4=> ?_
   exact C [.say t4] _ e6 (by rw[a4];simp) (by simp) (by simp) λq' F=>by rw[Qfq.mp F];exact⟨so,h5⟩
 ·rintro a8 S3 ⟨o6,o7,rs,rfl,e3,hr3,hl1,hl2,hn4,U⟩
  have b1:(ki 0 (1+(a3:Int))).length=a3+1:=by simp only[ki,lQm,QVq];omega
  rw[b1] at hl1 hl2 hn4
  have b2:∀(rs:List Rw) (S4:aE),Ex k S S4->S4[r]?=some (.lst (rs.map Rw.d))->(∀q∈rs,q.Ok sc rs.length)->0<rs.length->rs.length<=9->T (cx (tupQ (cN (aR (ar 5))))) [some (.ref k),some (.ref g),some (.ref w),some (.ref p),some (.int 4),some (.ref r),o6,o7] S4 λo=>match o with
    |.nx _ W=>Op (settle S .non W) λp=>Q p.1 p.2|.rt d W=>Op (settle S d W) λp=>Q p.1 p.2|.rl l W=>Op (eJ S l W) λp=>Q p.1 p.2|_=>False:=by
   intro rs S4 J e U h1 h2
   symm
   refine a_ e ?_
   refine⟨rfl,?_⟩
   dsimp only[a7,aM,a9,bR,bU,eZ]
   refine lT J x.lt (λk z=>(nomatch z)) (by simp only[cq];exact bf λq _=>dS q.low) λa b c=> ?_
   exact h rs _ U h1 h2 x.set y.set (by simp)
  apply aI (bO ?_)
  apply bQ e3 (by decide) (by decide) λv S4 hv J a6 l4=> ?_
  refine dR ?_
  dsimp only[a7,aM,a9,bR,bU,eZ]
  have e:=a6.keep _ _ X hr3
  refine aK (λc=> ?_) (λc=> ?_)
  ·apply eg (fH ?_)
   apply⟨_,_,rfl,e,?_⟩
   apply a_ e ?_
   refine bQ J (by simp only[lQm];omega) (by simp only[lQm];omega) λv2 H L I i l5=> ?_
   symm
   refine⟨by show 2<=_;decide,?_⟩
   symm
   have B:=i.keep _ _ X e
   refine⟨_,B,fF (u _ (by simp;omega)) ?_⟩
   dsimp only[a7,aM,a9,bR,bU,eZ]
   simp only[lQm] at L
   refine b2 (rs++ [Rw.go v2]) _ (I.put (by omega) kl) (by rw[cQ B];simp[Rw.d]) (λq N=> ?_) (by simp) (by simp;omega)
   rw[lQa]
   rcases mQa.mp N with N|N
   ·exact(U q N).mono (by simp)
   ·rw[Qfq.mp N]
    show v2<=rs.length+1
    omega
  ·exact bX (b2 rs S4 J e U (by omega) (by omega))
def eW(p:List (Str×Nat)×List Rw):D:=.tup [.tup (p.1.map lQ),.tup (p.2.map Rw.d)]
structure dz where
 aj:List Rm
 ai:List (Str×Nat)
 ak:List (Str×Nat)
 af:List (List (Str×Nat)×List Rw)
def dz.d(w:dz):D:=.tup [.tup (w.aj.map Rm.d),.tup (w.ai.map lQ),.tup (w.ak.map lQ),.tup (w.af.map eW)]
structure Dv(gs:List (Str×Str))(ak ai:List Str)(h:List (Str×Nat)×List Rw):Prop where
 tv:∀p∈h.1,p.2<=9
 l1:h.1.length<=6
 l2:h.2.length<=9
 l0:0<h.2.length
 dj:∀x∈h.1.map (·.1),x∉ak
 pr:vN ⟨true,h.1.map (·.1)++ak,h.1.map (·.1)++ak,[],gs,ai⟩ h.2
structure eY(w:dz):Prop where
 nd:(w.aj.map (·.name)).Nodup
 l1:w.aj.length<=3
 l2:w.ai.length<=6
 l3:w.ak.length<=6
 l4:w.af.length<=4
 l0:0<w.af.length
 pv:∀p∈w.ai,p.2<=9
 sv:∀p∈w.ak,p.2<=9
 rm:∀r∈w.aj,xq (aU w.aj) r
 hd:∀h∈w.af,Dv (aU w.aj) (w.ak.map (·.1)) (w.ai.map (·.1)) h
 pz:w.ai.length<=Jp
def GO(p:List (Str×Nat)×List Rw):cq 0 (eW p)=true:=by
 simp only[eW,cq,cg,Bool.and_true,Bool.true_and,QCq]
 exact⟨bf λ_ _=>rfl,bf λr _=>r.low⟩
def dz.low(w:dz):cq 0 w.d=true:=by
 simp only[dz.d,cq,cg,Bool.and_true,Bool.true_and,QCq]
 exact⟨bf λr _=>r.low,bf λ_ _=>rfl,bf λ_ _=>rfl,bf λp _=>GO p⟩
def Gx{rs:List Rm}(hd:∀r∈rs,r.ae.length<=6):(aU rs).length<=6*rs.length:=by
 induction rs with
 |nil=>simp[aU]
 | cons a l c=>
   have:=c λr b=>hd r (Qpq _ b)
   have:=hd a (QBq ..)
   simp only[aU,QSq,lQa,lQm,Qnq] at *
   omega
def CZ{a ak:List Str}(b:∃l,(a++l).Perm (six.map (("":Str)++·)))(c:∃l,(ak++l).Perm (six.map (("o":Str)++·))):∀x∈a,x∉ak:=λx d g=>by
 obtain⟨l,b⟩:=b
 obtain⟨m,c⟩:=c
 have h:=b.mem_iff.mp (mQa.mpr (.inl d))
 have e:=c.mem_iff.mp (mQa.mpr (.inl g))
 have f:∀x∈six.map (("":Str)++·),x∉six.map (("o":Str)++·):=by decide +kernel
 exact f x h e
def He{S S0:aE}{k af pm:Nat}{rs:List Rm}{Q:Res->aE->Prop}(x:Ex k S0 S)(h0:0<af)(h4:af<=4)(c2:pm<=Jp)(nd:(rs.map (·.name)).Nodup)(hl:rs.length<=3)(W:∀r∈rs,xq (aU rs) r)
  (h:∀(w:dz) (F:aE),eY w->Ex k S0 F->Ex k S F->F.length=S.length->Q (.d w.d) F):
  Fn jj [.ref k,.tup (rs.map Rm.d),.int af,.int pm] S Q:=by
 have y:Ex k S S:=by obtain⟨a,b,c,hh⟩:=x.pot;exact Ex.refl hh
 have kl:=x.lt
 have f0:pm<=2:=QAq c2 (by decide)
 have d9:=Gx λr hr=>(W r hr).l3
 refine bZ ?_
 unfold mN
 symm
 refine⟨by decide,?_⟩
 refine aI ?_
 refine AA (i:=S.length) (j:=4) (v:=5) (rs:=rs) (tg:=.tu) (by simp +zetaDelta) rfl aN (λR hR=>bV (aw rfl (cy hR))) (λ_=>trivial) (by decide) (λr hr=>(W r hr).l3) hl (λo=> ?_)
 have e1:Ex k S ((S++ [O.lst []]).set S.length (.lst ((aU rs).map dC))):=y.app.put (Qmq _) kl
 have Z:((S++ [O.lst []]).set S.length (.lst ((aU rs).map dC)))[S.length]?=some (.lst ((aU rs).map dC)):=cQ aN
 generalize ((S++ [O.lst []]).set S.length (.lst ((aU rs).map dC)))=S1 at e1 Z⊢
 generalize hg:S.length=g at Z⊢
 have ng:g≠k:=by omega
 symm
 apply bQ e1 (by omega) (by omega) λnp S2 f4 e2 c4 l2=> ?_
 apply iY e2 (by omega) (by omega) (by decide) λai t _ d4 e3 c1 l3=> ?_
 apply⟨by decide,?_⟩
 have k3:t.length≠k:=by have:=e3.lt;omega
 have a8:(t++ [O.lst (ai.map D.str)])[g]?=some (.lst ((aU rs).map dC)):=aO (c1.keep _ _ ng (c4.keep _ _ ng Z))
 have b0:(t++ [O.lst (ai.map D.str)])[t.length]?=some (.lst (ai.map D.str)):=aN
 have Y:Ex k S (t++ [O.lst (ai.map D.str)]):=e3.app
 have f5:S.length<=t.length:=e3.len
 have c3:(t++ [O.lst (ai.map D.str)]).length=t.length+1:=by simp
 generalize (t++ [O.lst (ai.map D.str)])=T3 at a8 b0 Y c3⊢
 refine bQ (Y.app (G:= [O.lst [.int 0,.int 0,.int 1,.int 2]])) (by decide) (by decide) λv S4 hv e4 H l4=> ?_
 dsimp only[a7,aM,a9,bR,bU,eZ]
 obtain⟨ns,f1,ha⟩:∃n:Nat,n<=2/\kj ([.int 0,.int 0,.int 1,.int 2]:List D) (v:Int)=some (.int n):=by
  rcases v with _|_|_|_|v
  ·exact⟨0,by omega,rfl⟩
  ·exact⟨0,by omega,rfl⟩
  ·exact⟨1,by omega,rfl⟩
  ·exact⟨2,by omega,rfl⟩
  ·omega
 refine bK (H.keep _ _ (by have:=Y.lt;omega) aN) ha ?_
 symm
 apply iY e4 (by omega) (by omega) (by decide) λl s b1 d5 e5 a3 l5=> ?_
 refine⟨by decide,?_⟩
 have k5:s.length≠k:=by have:=e5.lt;omega
 have b3:(s++ [O.lst (l.map D.str)]++ [O.lst []])[g]?=some (.lst ((aU rs).map dC)):=aO (aO (a3.keep _ _ ng (H.keep _ _ ng (aO a8))))
 have a6:(s++ [O.lst (l.map D.str)]++ [O.lst []])[t.length]?=some (.lst (ai.map D.str)):=aO (aO (a3.keep _ _ k3 (H.keep _ _ k3 (aO b0))))
 have b7:(s++ [O.lst (l.map D.str)]++ [O.lst []])[s.length]?=some (.lst (l.map D.str)):=aO aN
 have d2:t.length<s.length:=by
  have:=a3.len
  have:=H.len
  simp only[lQa,Qnq,QGq] at *
  omega
 have e6:Ex k S (s++ [O.lst (l.map D.str)]++ [O.lst []]):=e5.app.app
 generalize hr:s.length+1=r
 have B:(s++ [O.lst (l.map D.str)]).length=r:=by simp[hr]
 rw[B]
 have gr:(s++ [O.lst (l.map D.str)]++ [O.lst []])[r]?=some (.lst []):=by rw[←B];exact aN
 generalize (s++ [O.lst (l.map D.str)]++ [O.lst []])=S6 at e6 b3 a6 b7 gr⊢
 have kr:r≠k:=by have:=e5.lt;omega
 apply aI (hV ?_)
 refine⟨_,rfl,⟨by omega,by omega⟩,?_⟩
 let Inv:Nat->cB->aE->Prop:=λn a5 F=>∃(o9 a4 U:Option D) (u:List (List (Str×Nat)×List Rw)),a5= [some (.ref k),some (.tup (rs.map Rm.d)),some (.int af),some (.int pm),some (.ref g),o,some (.ref t.length),some (.ref s.length),some (.ref r),o9,a4,U,none]∧
  Ex k S F/\F[g]?=some (.lst ((aU rs).map dC))/\F[t.length]?=some (.lst (ai.map D.str))/\F[s.length]?=some (.lst (l.map D.str))/\F[r]?=some (.lst (u.map eW))/\u.length=n/\(∀p∈u,Dv (aU rs) l ai p)
 refine⟨Inv,⟨none,none,none,[],rfl,e6,b3,a6,b7,gr,rfl,by simp⟩,λ_ _ _ _=>trivial,?_,?_⟩
 ·rintro n d a5 S7 hd ⟨o9,a4,U,u,rfl,e7,gg7,gp7,gs7,gr7,hn,hpr⟩
  have c7:n<4:=by
   have:=(gQs.mp hd).1
   simp only[ki,lQm,QVq] at this
   omega
  apply aV ?_
  apply⟨by decide,?_⟩
  refine bQ (e7.app (G:= [O.lst [.int 0,.int 1,.int 1,.int 2]])) (by decide) (by decide) λv S8 hv e8 q l8=> ?_
  dsimp only[a7,aM,a9,bR,bU,eZ]
  obtain⟨nw,f3,ha⟩:∃n:Nat,n<=2/\kj ([.int 0,.int 1,.int 1,.int 2]:List D) (v:Int)=some (.int n):=by
   rcases v with _|_|_|_|v
   ·exact⟨0,by omega,rfl⟩
   ·exact⟨1,by omega,rfl⟩
   ·exact⟨1,by omega,rfl⟩
   ·exact⟨2,by omega,rfl⟩
   ·omega
  refine bK (q.keep _ _ (by have:=e7.lt;omega) aN) ha ?_
  symm
  apply iY e8 (by omega) (by omega) (by decide) λf K b6 d3 e9 I l9=> ?_
  have k9:K.length≠k:=by have:=e9.lt;omega
  have e:∀{i:Nat} {o:O},i≠k->S7[i]?=some o->(K++ [O.lst (f.map D.str)])[i]?=some o:=λn h=>aO (I.keep _ _ n (q.keep _ _ n (aO h)))
  have J:(K++ [O.lst (f.map D.str)])[K.length]?=some (.lst (f.map D.str)):=aN
  have X:Ex k S (K++ [O.lst (f.map D.str)]):=e9.app
  have P:=e ng gg7
  have a0:=e k3 gp7
  have a2:=e k5 gs7
  have b2:=e kr gr7
  have r9:r<K.length:=by
   have:=(gQs.mp gr7).1
   have:=q.len
   have:=I.len
   simp only[lQa,Qnq,QGq] at *
   omega
  generalize (K++ [O.lst (f.map D.str)])=T9 at J X P a0 a2 b2⊢
  apply yb ?_
  apply a_ J ?_
  refine a_ a2 ?_
  refine⟨⟨rfl,rfl,J,by simp only[lQm];exact nQl (bt (by omega))⟩,?_⟩
  rw[←Qzq]
  symm
  refine Ls (words:=f++l) (ai:=ai) (goals:=aU rs) (X.app (G:= [O.lst ((f++l).map D.str)])) ng (by have:=X.lt;omega) k3 (aO P) aN (aO a0) (by omega) (by rw[lQa];omega) (by omega) λpr d6 h1 h2 h3 c5 A e0=> ?_
  symm
  apply fH ?_
  have L:=A.keep _ _ kr (aO b2)
  apply⟨_,_,rfl,L,?_⟩
  apply E3 (m:=3) c5 rfl rfl (A.keep _ _ k9 (aO J)) k9 (by decide) (by decide) (by omega) λts b9 a1 c0 d1 M d8=> ?_
  refine⟨by show 2<=_;decide,?_⟩
  symm
  have N:=M.keep _ _ kr L
  refine⟨_,N,fF (bt (by simp only[lQm];omega)) ?_⟩
  have kp:∀{i:Nat} {o:O},i≠k->i≠r->T9[i]?=some o->∀o',(b9.set r o')[i]?=some o:=λn n2 h o'=>fD n2 (M.keep _ _ n (A.keep _ _ n (aO h)))
  have f6:ts.length=f.length:=by rw[←a1];simp
  refine⟨_,_,_,u++ [(ts,pr)],rfl,d1.put (by omega) kl,kp ng (by omega) P _,kp k3 (by omega) a0 _,kp k5 (by omega) a2 _,?_,by simp[hn],λp C=> ?_⟩
  ·rw[cQ N]
   simp[eW]
  ·rcases mQa.mp C with C|C
   ·exact hpr p C
   ·rw[Qfq.mp C]
    refine⟨λp C=>by have:=c0 p C;omega,by show ts.length<=6;omega,h3,h2,by rw[a1];exact CZ b6 b1,?_⟩
    show vN ⟨true,ts.map (·.1)++l,ts.map (·.1)++l,[],_,_⟩ pr
    rw[a1]
    exact h1
 ·rintro a5 S7 ⟨o9,a4,U,u,rfl,e7,gg7,gp7,gs7,gr7,hn,hpr⟩
  have c7:u.length=af:=by
   rw[hn]
   simp only[ki,lQm,QVq]
   omega
  symm
  apply E3 (m:=3) e7 rfl rfl gp7 k3 (by decide) (by decide) (by omega) λps S8 b4 b8 e8 q l8=> ?_
  apply E3 (m:=3) e8 rfl rfl (q.keep _ _ k5 gs7) k5 (by decide) (by decide) (by omega) λss K b5 c6 e9 I l9=> ?_
  refine a_ (I.keep _ _ kr (q.keep _ _ kr gr7)) ?_
  apply⟨rfl,?_⟩
  refine⟨by show 4<=_;decide,?_⟩
  have f2:ps.length=ai.length:=by rw[←b4];simp
  have d7:ss.length=l.length:=by rw[←b5];simp
  refine lT (d:=(dz.mk rs ps ss u).d) e9 x.lt (λk z=>(nomatch z)) (dS (dz.low _)) λa b c=> ?_
  refine h ⟨rs,ps,ss,u⟩ _ ⟨nd,hl,by show ps.length<=6;omega,by show ss.length<=6;omega,by show u.length<=4;omega,by show 0<u.length;omega,λp C=>by have:=b8 p C;omega,λp C=>by have:=c6 p C;omega,W,?_,by show ps.length<=Jp;omega⟩ x.set y.set (by simp)
  show∀h∈u,Dv (aU rs) (ss.map (·.1)) (ps.map (·.1)) h
  rw[b5,b4]
  exact hpr
end W28
namespace DL
open PySem PySem.Spec L2
def K4{k:cB}{S:aE}{js:List (Option Nat)}{f:fu}{g:nR}{i:bH}{Q:List D->aE->Prop}(P:cB->Prop)(F:D->D)(v:P (pQ js k)) (h:E f k S λp e=>p.2.stays e p.1/\p.1.length<=1000∧
   (∀d∈p.1,∀a,P a->Tg g d a e λc S2=>S2=e/\P c/\E i c e λy m=>y=F d/\m=e)/\Q (p.1.map F) e):E (bD js (fM f) g bL i) k S Q:=by
 refine jB (j_ (h.mono λp e s=> ?_))
 obtain⟨o,A,r,q⟩:=s
 refine⟨λn a j b=>j=e/\b=(p.1.take n).map F/\P a,⟨rfl,rfl,v⟩,λn a j b h=>by rw[h.1];exact o,λn d a j b l h=> ?_,λa j b h=> ?_⟩
 ·obtain⟨rfl,rfl,h3⟩:=h
  obtain⟨c,S2,w,rfl,h4,h5⟩:=r d (mQg l) a h3
  refine⟨c,S2,w,mR ?_⟩
  rw[Qhq rfl]
  refine h5.mono λy m x=> ?_
  obtain⟨u,t⟩:=x
  subst u t
  have z:=(gQs.mp l).1
  refine⟨?_,rfl,?_,h4⟩
  ·rw[lQm,Qxq]
   exact bt (by omega)
  ·rw[QYq,l]
   simp
 ·obtain⟨rfl,rfl,_⟩:=h
  rw[QEq]
  exact q
def iW{α:Type}{o:cB}{S:aE}{js:List (Option Nat)}{f:fu}{g:nR}{k:bH}{Q:List D->aE->Prop}(P:cB->Prop)(enc G:α->D)(A:P (pQ js o)) (h:E f o S λp i=>∃xs:List α,p.1=xs.map enc/\p.2.stays i p.1/\xs.length<=1000∧
   (∀x∈xs,∀a,P a->Tg g (enc x) a i λc S2=>S2=i/\P c/\E k c i λy s=>y=G x/\s=i)/\Q (xs.map G) i):E (bD js (fM f) g bL k) o S Q:=by
 refine jB (j_ (h.mono λp i v=> ?_))
 obtain⟨xs,r,t,H,u,q⟩:=v
 refine⟨λn a l b=>l=i/\b=(xs.take n).map G/\P a,⟨rfl,rfl,A⟩,λn a l b h=>by rw[h.1];exact t,λn d a l b m h=> ?_,λa l b h=> ?_⟩
 ·obtain⟨rfl,rfl,h3⟩:=h
  have m:p.1[n]?=some d:=m
  rw[r,gQm] at m
  obtain⟨x,j,rfl⟩:=oQm.mp m
  obtain⟨c,S2,B,rfl,h4,h5⟩:=u x (mQg j) a h3
  refine⟨c,S2,B,mR ?_⟩
  rw[Qhq rfl]
  refine h5.mono λy s C=> ?_
  obtain⟨z,w⟩:=C
  subst z w
  have F:=(gQs.mp j).1
  refine⟨?_,rfl,?_,h4⟩
  ·rw[lQm,Qxq]
   exact bt (by omega)
  ·rw[QYq,j]
   simp
 ·obtain⟨rfl,rfl,_⟩:=h
  have e:p.1.length=xs.length:=by rw[r,lQm]
  show Q ((xs.take p.1.length).map G) _
  rw[e,QEq]
  exact q
def cV{S:aE}{d:D}{Q:Res->aE->Prop}(hd:∀k,d≠.ref k)(a:cq 0 d=true)(q:Q (.d d) S):Op (settle S d S) λp=>Q p.1 p.2:=iM wo (QEq) hd (dS a) q
def G8{S:aE}{ds:List D}{Q:Res->aE->Prop}(a:cg 0 ds=true)(q:Q (.l ds) S):Op (eJ S ds S) λp=>Q p.1 p.2:=pR wo (QEq) (j9 a) q
end DL
namespace W28
open PySem PySem.Spec L2 DL
structure cA where
 room:Int
 deed:Int
 row:Int
 given:Int
 told:Int
structure de where
 vals:List Int
 within:Int
 row:List Int
 ag:List Int
 aa:List (List (Int×Int))
structure bE where
 aj:List de
 ai:List (Int×List Int)
 ak:List Int
 af:List (List Int×List cA)
def dr(l:List Int):D:=.tup (l.map D.int)
def cA.d(f:cA):D:=.tup [.int f.room,.int f.deed,.int f.row,.int f.given,.int f.told]
def pairD(p:Int×Int):D:=.tup [.int p.1,.int p.2]
def fj(l:List (Int×Int)):D:=.tup (l.map pairD)
def de.d(r:de):D:=.tup [dr r.vals,.int r.within,dr r.row,dr r.ag,.tup (r.aa.map fj)]
def GL(p:Int×List Int):D:=.tup [.int p.1,dr p.2]
def t_(h:List Int×List cA):D:=.tup [dr h.1,.tup (h.2.map cA.d)]
def bE.d(s:bE):D:=.tup [.tup (s.aj.map de.d),.tup (s.ai.map GL),dr s.ak,.tup (s.af.map t_)]
def m3(l:List Int):cq 0 (dr l)=true:=by simp only[dr,cq];exact bf λ_ _=>rfl
def vw(l:List (Int×Int)):cq 0 (fj l)=true:=by simp only[fj,cq];exact bf λ_ _=>rfl
def de.low(r:de):cq 0 r.d=true:=by
 simp only[de.d,cq,cg,m3,Bool.and_true,Bool.true_and]
 exact bf λl _=>vw l
def LI(p:Int×List Int):cq 0 (GL p)=true:=by simp only[GL,cq,cg,m3,Bool.and_true]
def CK(h:List Int×List cA):cq 0 (t_ h)=true:=by
 simp only[t_,cq,cg,m3,Bool.and_true,Bool.true_and]
 exact bf λ_ _=>rfl
def bE.low(s:bE):cq 0 s.d=true:=by
 simp only[bE.d,cq,cg,m3,Bool.and_true,Bool.true_and,QCq]
 exact⟨bf λr _=>r.low,bf λp _=>LI p,bf λh _=>CK h⟩
def bM(ts:List (Str×Nat)):List Int:=ts.map λp=>(p.2:Int)
def cu(r:Rm):de:=⟨bM r.ao,-1,[],[],r.aa.map λ_=> []⟩
def wX:cA:=⟨-1,-1,0,0,0⟩
def dk(w:dz):bE:=⟨w.aj.map cu,w.ai.map λp=>((p.2:Int),[]),bM w.ak,w.af.map λh=>(bM h.1,[wX])⟩
section
variable{S:aE}{Q:Res->aE->Prop}
def kN{ts:List (Str×Nat)}(l:ts.length<=1000)(h:Q (.d (dr (bM ts))) S):Fn gQ [.tup (ts.map lQ)] S Q:=by
 refine bZ ?_
 unfold pP
 symm
 apply K4 (λc=>∃a b,c= [a,b]) (λd=>match d with|.tup [_,v]=>v|d=>d) ⟨none,none,rfl⟩ ?_
 refine⟨trivial,by simpa using l,λd g c f=> ?_,?_⟩
 ·obtain⟨p,_,rfl⟩:=Qkq.mp g
  obtain⟨a,b,rfl⟩:=f
  refine f_ rfl (aA (aV (aA (aV (bA ?_)))))
  apply⟨rfl,⟨_,_,rfl⟩,?_⟩
  exact⟨rfl,rfl⟩
 ·have e:(ts.map lQ).map (λd=>match d with|.tup [_,v]=>v|d=>d)=(bM ts).map D.int:=by
   simp only[bM,QPq]
   rfl
  rw[e]
  exact cV (d:=dr (bM ts)) (λk z=>(nomatch z)) (m3 _) h
def xh{r:Rm}(c:r.ao.length<=6)(a:r.aa.length<=6)(h:Q (.d (cu r).d) S):Fn jl [r.d] S Q:=by
 refine bZ ?_
 unfold mG
 symm
 apply f_ rfl (aA (aV (aA (aV (aA (aV (aA (aV (aA (aV (bA ?_)))))))))))
 apply kN (by omega) ?_
 apply⟨by decide,?_⟩
 apply⟨by decide,?_⟩
 apply CO (λ_=>.tup []) ?_
 refine⟨trivial,by simp;omega,λd b=> ?_,?_⟩
 ·symm
  exact⟨by decide,rfl,rfl⟩
 ·symm
  refine⟨by show 5<=_;decide,?_⟩
  have e:D.tup ((r.aa.map y3).map λ_=>D.tup [])=D.tup ((cu r).aa.map fj):=by
   simp only[cu,QPq]
   rfl
  rw[e]
  exact cV (d:=(cu r).d) (λk z=>(nomatch z)) (de.low _) h
def Ih{w:dz}(o:eY w)(h:Q (.d (dk w).d) S):Fn zP [w.d] S Q:=by
 refine bZ ?_
 unfold Dm
 symm
 apply f_ rfl (aA (aV (aA (aV (aA (aV (aA (aV (bA ?_)))))))))
 apply⟨by decide,?_⟩
 have l:=o.l1
 have m:=o.l2
 have n:=o.l3
 have q:=o.l4
 apply iW (α:=Rm) (λc=>∃a,c= [a]) Rm.d (λr=>(cu r).d) ⟨none,rfl⟩ ?_
 refine⟨w.aj,rfl,trivial,by omega,λr f c e=> ?_,?_⟩
 ·obtain⟨a,rfl⟩:=e
  apply aV ⟨rfl,⟨_,rfl⟩,?_⟩
  exact xh (o.rm r f).l1 (o.rm r f).l2 ⟨rfl,rfl⟩
 symm
 apply iW (α:=Str×Nat) (λc=>∃a b,c= [a,b]) lQ (λp=>GL ((p.2:Int),[])) ⟨none,none,rfl⟩ ?_
 refine⟨w.ai,rfl,trivial,by omega,λr f c e=> ?_,?_⟩
 ·obtain⟨a,b,rfl⟩:=e
  refine f_ rfl (aA (aV (aA (aV (bA ?_)))))
  apply⟨rfl,⟨_,_,rfl⟩,?_⟩
  apply⟨by decide,?_⟩
  exact⟨by show 2<=_;decide,rfl,rfl⟩
 symm
 apply kN (by omega) ?_
 apply iW (α:=List (Str×Nat)×List Rw) (λc=>∃a b,c= [a,b,some wX.d]) eW (λh=>t_ (bM h.1,[wX])) ⟨none,none,rfl⟩ ?_
 refine⟨w.af,rfl,trivial,by omega,λr f c e=> ?_,?_⟩
 ·obtain⟨a,b,rfl⟩:=e
  refine f_ rfl (aA (aV (aA (aV (bA ?_)))))
  apply⟨rfl,⟨_,_,rfl⟩,?_⟩
  refine kN (by have:=(o.hd r f).l1;omega) ?_
  symm
  refine⟨by show 1<=_;decide,?_⟩
  symm
  exact⟨by show 2<=_;decide,rfl,rfl⟩
 symm
 refine⟨by show 4<=_;decide,?_⟩
 have j:w.aj.map (λr=>(cu r).d)=(dk w).aj.map de.d:=by simp only[dk,QPq];rfl
 have i:w.ai.map (λp=>GL ((p.2:Int),[]))=(dk w).ai.map GL:=by simp only[dk,QPq];rfl
 have g:w.af.map (λh=>t_ (bM h.1,[wX]))=(dk w).af.map t_:=by simp only[dk,QPq];rfl
 rw[j,i,g]
 exact cV (d:=(dk w).d) (λk z=>(nomatch z)) (bE.low _) h
end
end W28
namespace DL
open PySem PySem.Spec L2
section
variable{Γ:cB}{S:aE}
def j8{f:bH}{Q:D->aE->Prop}(h:E f Γ S λd a=>∃i,d=.int i/\Q (.int (-i)) a):E (h_ f) Γ S Q:=by
 obtain⟨d,a,b,i,rfl,q⟩:=h
 exact⟨_,a,by unfold h_;rw[b];rfl,q⟩
def dD{Q:Option Int->aE->Prop}(q:Q none S):E uP Γ S Q:=⟨_,_,rfl,q⟩
def dF{f:bH}{Q:Option Int->aE->Prop}(h:E f Γ S λd a=>∃i,d=.int i/\Q (some i) a):E (uo f) Γ S Q:=by
 obtain⟨d,a,b,i,rfl,q⟩:=h
 exact⟨_,a,by unfold uo;rw[b];rfl,q⟩
def m7{f:bH}{lo hi:MK}{Q:D->aE->Prop}(h:E f Γ S λd b=>E lo Γ b λl S2=>E hi Γ S2 λu a=>∃ds,d=.tup ds/\Q (.tup (lH ds l u)) a):E (uw f lo hi) Γ S Q:=by
 obtain⟨d,b,c,l,S2,g,u,a,e,ds,rfl,q⟩:=h
 exact⟨_,a,by unfold uw;rw[c];simp only[Qbq];rw[g];simp only[Qbq];rw[e];rfl,q⟩
def Nt{i j:Nat}{f:ic}{Q:Out->Prop}(h:E f Γ S λds c=>∃a b,ds= [a,b]/\Q (.nx ((Γ.set i (some a)).set j (some b)) c)):T (Jm i j f) Γ S Q:=by
 obtain⟨ds,c,d,a,b,rfl,q⟩:=h
 exact⟨_,by unfold Jm;rw[d];rfl,q⟩
end
def IJ{α:Type}{xs:List α}{i:Nat}(h:i<=xs.length):lH xs none (some (i:Int))=xs.take i:=by
 unfold lH
 rw[HT.vU,HT.E4,Nat.min_eq_left h]
 simp
def j2{α:Type}{xs:List α}{i:Nat}(h:i<=xs.length):lH xs (some (i:Int)) none=xs.drop i:=by
 unfold lH
 rw[HT.vU,HT.E4,Nat.min_eq_left h]
 rw[List.take_of_length_le]
 simp
def BW{α:Type}{xs:List α}(h:0<xs.length):lH xs none (some (-1))=xs.dropLast:=by
 unfold lH
 rw[HT.vU]
 show(xs.drop 0).take (HT.fT xs.length xs.length (some (-1))-0)=_
 rw[show HT.fT xs.length xs.length (some (-1))=xs.length-1 by simp only[HT.fT];rw[Qhq (by omega)];omega]
 simp[List.dropLast_eq_take]
def wq{α:Type}{xs:List α}{x:α}(h:xs.getLast? =some x):kj xs (-1)=some x:=by
 have c:0<xs.length:=by
  cases xs with
  |nil=>cases h
  |cons a b=>simp
 unfold kj C7
 rw[Quq (by omega),Qhq (by omega)]
 rw[List.getLast?_eq_getElem?] at h
 simp only[Qbq]
 rw[show((-1:Int)+(xs.length:Int)).toNat=xs.length-1 by omega]
 exact h
end DL
namespace W28
open PySem PySem.Spec L2 DL
section
variable{S:aE}{Q:Res->aE->Prop}
def cm{s:bE}{h:Nat}{vs:List Int}{fs:List cA}{f:cA}(a:s.af[h]?=some (vs,fs))(b:fs.getLast? =some f)(q:Q (.d f.d) S):Fn da [s.d,.int h] S Q:=by
 refine bZ ?_
 unfold m8
 symm
 apply ay rfl ?_
 refine ay (d:=t_ (vs,fs)) (aW (by rw[gQm,a];rfl)) ?_
 symm
 refine ay rfl ?_
 apply j8 ?_
 refine⟨1,rfl,?_⟩
 refine ay (d:=f.d) (wq (by rw[QfQ,b];rfl)) ?_
 exact cV (λk z=>(nomatch z)) rfl q
def progOf(w:dz)(h:Nat)(f:cA):Option (List Rw):=
 if f.room= -1 then(w.af[h]?).map (·.2) else if 0<=f.room/\0<=f.deed then(w.aj[f.room.toNat]?).bind λr=>(r.ae[f.deed.toNat]?).map (·.2) else none
def iL{α:Type}{xs:List α}{i:Int}{x:α}(a:0<=i)(h:xs[i.toNat]?=some x):kj xs i=some x:=by
 obtain⟨n,rfl⟩:∃n:Nat,i=n:=⟨i.toNat,by omega⟩
 exact aW (by simpa using h)
def vz(rs:List Rw):cq 0 (.tup (rs.map Rw.d))=true:=by simp only[cq];exact bf λr _=>r.low
def gV{w:dz}{h:Nat}{f:cA}{pr:List Rw}(a:progOf w h f=some pr)(q:Q (.d (.tup (pr.map Rw.d))) S):Fn fV [w.d,.int h,f.d] S Q:=by
 refine bZ ?_
 unfold tV
 apply aI (Nt ?_)
 apply ay rfl ?_
 apply ay rfl ?_
 apply⟨_,_,rfl,?_⟩
 refine dR ?_
 dsimp only[a7,aM,a9,bR,bU,eZ]
 unfold progOf at a
 by_cases c:f.room= -1
 ·rw[Qhq c] at a
  obtain⟨g,b,rfl⟩:=oQm.mp a
  rw[Qeq c,Qhq rfl]
  symm
  apply ay rfl ?_
  refine ay (d:=eW g) (aW (by rw[gQm,b];rfl)) ?_
  symm
  refine ay rfl ?_
  exact cV (λk z=>(nomatch z)) (vz _) q
 ·rw[Quq c] at a
  split at a
  ·rename_i e
   obtain⟨r,b,a⟩:=au a
   obtain⟨i,j,rfl⟩:=oQm.mp a
   rw[Qdq c,Quq (by decide)]
   symm
   apply ay rfl ?_
   refine ay (d:=r.d) (iL e.1 (by rw[gQm,b];rfl)) ?_
   symm
   apply ay rfl ?_
   refine ay (d:=hX i) (iL e.2 (by rw[gQm,j];rfl)) ?_
   symm
   refine ay rfl ?_
   exact cV (λk z=>(nomatch z)) (vz _) q
  ·cases a
def fA{xs:List D}{i:Nat}{d:D}(hi:i<xs.length)(m:xs.length<=900)(f:cg 0 xs=true)(j:cq 0 d=true)(q:Q (.d (.tup (xs.set i d))) S):Fn dI [.tup xs,.int i,d] S Q:=by
 refine bZ ?_
 unfold oO
 symm
 apply m7 ?_
 apply dD (dF ?_)
 apply⟨_,rfl,_,rfl,?_⟩
 refine⟨by show 1<=_;decide,?_⟩
 rw[IJ (by omega)]
 refine fe (by simp only[Qxq,Qnq,QGq];exact nQl (bt (by omega))) ?_
 apply m7 ?_
 apply dF ?_
 refine⟨_,rfl,dD ⟨_,rfl,?_⟩⟩
 rw[show((i:Int)+1)=((i+1:Nat):Int) by omega,j2 (by omega)]
 refine fe (by simp only[lQa,Qxq,List.length_drop,Qnq,QGq];exact nQl (bt (by omega))) ?_
 have e:xs.take i++ [d]++xs.drop (i+1)=xs.set i d:=by
  rw[List.set_eq_take_append_cons_drop,Qhq hi]
  simp
 rw[e]
 refine cV (λk z=>(nomatch z)) ?_ q
 simp only[cq]
 refine zL λz b=> ?_
 rcases QTq b with b|rfl
 ·have c:∀l:List D,cg 0 l=true->∀z∈l,cq 0 z=true:=by
   intro l
   induction l with
   |nil=>intro _ z b;cases b
   | cons a l g=>
     intro h z b
     simp only[cg,QCq] at h
     rcases Qsq.mp b with rfl|b
     · exact h.1
     · exact g h.2 z b
  exact c xs f z b
 ·exact j
end
section
variable{S:aE}{Q:Res->aE->Prop}
def map_set{α b:Type}(f:α->b)(l:List α)(i:Nat)(a:α):(l.set i a).map f=(l.map f).set i (f a):=by
 rw[List.map_set]
def bq(s:bE):∀k,s.d≠.ref k:=λk z=>(nomatch z)
def dB{s:bE}{i:Nat}{r:de}(hi:i<s.aj.length)(a:s.aj.length<=900)(q:Q (.d ({s with aj:=s.aj.set i r}:bE).d) S):Fn dg [s.d,.int i,r.d] S Q:=by
 refine bZ ?_
 unfold pF
 symm
 apply ay rfl ?_
 apply fA (by simpa using hi) (by simpa using a) (bf λr _=>r.low) r.low ?_
 refine⟨by show 1<=_;decide,?_⟩
 apply m7 ?_
 apply dF ?_
 refine⟨_,rfl,dD ⟨_,rfl,?_⟩⟩
 refine fe (by show 4<=_;decide) ?_
 refine cV (d:=({s with aj:=s.aj.set i r}:bE).d) (bq _) (bE.low _) q|>λz=> ?_
 rw[←map_set]
 exact z
def iI{s:bE}{i:Nat}{vs:List Int}{fs:List cA}(hi:i<s.af.length)(a:s.af.length<=900)(q:Q (.d ({s with af:=s.af.set i (vs,fs)}:bE).d) S):Fn fR [s.d,.int i,dr vs,.tup (fs.map cA.d)] S Q:=by
 refine bZ ?_
 unfold pZ
 apply eX (aY (m7 ?_))
 apply dD (dF ?_)
 apply⟨_,rfl,_,rfl,?_⟩
 apply ay rfl ?_
 refine⟨by show 2<=_;decide,?_⟩
 symm
 apply fA (d:=t_ (vs,fs)) (by simpa using hi) (by simpa using a) (bf λr _=>CK r) (CK (vs,fs)) ?_
 refine⟨by show 1<=_;decide,?_⟩
 refine fe (by show 4<=_;decide) ?_
 refine cV (d:=({s with af:=s.af.set i (vs,fs)}:bE).d) (bq _) (bE.low _) q|>λz=> ?_
 rw[←map_set]
 exact z
def jc{s:bE}{h:Nat}{vs:List Int}{fs:List cA}{f:cA}(a:s.af[h]?=some (vs,fs))(c:0<fs.length)(g:fs.length<=900)(b:s.af.length<=900)(q:Q (.d ({s with af:=s.af.set h (vs,fs.dropLast++ [f])}:bE).d) S):Fn dZ [s.d,.int h,f.d] S Q:=by
 refine bZ ?_
 unfold gN
 symm
 apply ay rfl ?_
 refine ay (d:=t_ (vs,fs)) (aW (by rw[gQm,a];rfl)) ?_
 apply f_ rfl (aA (aV (aA (aV (bA ?_)))))
 apply m7 ?_
 apply dD (dF (j8 ?_))
 apply⟨1,rfl,_,rfl,_,rfl,?_⟩
 refine⟨by show 1<=_;decide,?_⟩
 rw[BW (by simpa using c)]
 refine fe (by simp only[List.length_dropLast,lQm,Qnq,QGq];exact nQl (bt (by omega))) ?_
 symm
 have e:(fs.map cA.d).dropLast++ [f.d]=(fs.dropLast++ [f]).map cA.d:=by rw[Qzq,List.map_dropLast];rfl
 rw[e]
 refine iI (gQs.mp a).1 b ?_
 exact cV (bq _) (bE.low _) q
def sD{s:bE}{h:Nat}{vs:List Int}{fs:List cA}{f:cA}{n:Int}(c:s.af[h]?=some (vs,fs))(e:fs.getLast? =some f)(i:fs.length<=900)(g:s.af.length<=900)(q:Q (.d ({s with af:=s.af.set h (vs,fs.dropLast++ [{f with row:=n}])}:bE).d) S):Fn kS [s.d,.int h,.int n] S Q:=by
 refine bZ ?_
 unfold zd
 symm
 apply cm c e ?_
 apply m7 ?_
 apply dD (dF ?_)
 apply⟨_,rfl,_,rfl,?_⟩
 refine⟨by show 1<=_;decide,?_⟩
 refine fe (by show 3<=_;decide) ?_
 apply m7 ?_
 apply dF ?_
 refine⟨_,rfl,dD ⟨_,rfl,?_⟩⟩
 refine fe (by show 5<=_;decide) ?_
 symm
 have j:0<fs.length:=by
  cases fs with
  |nil=>cases e
  |cons a b=>simp
 refine jc (f:={f with row:=n}) c j i g ?_
 exact cV (bq _) (bE.low _) q
def gD(r:de)(h:Int):de:=if r.within= -1 then{r with within:=h} else{r with row:=r.row++ [h]}
def dt(r:de):de:=match r.ag,r.row with
 |a::l,_=>{r with within:=a,ag:=l}
 | [],a::l=>{r with within:=a,row:=l}
 | [],[]=>{r with within:= -1}
def vX{s:bE}{i:Nat}{h:Int}{r:de}(b:s.aj[i]?=some r)(a:s.aj.length<=900)(lr:r.row.length<=900)(q:Q (.d ({s with aj:=s.aj.set i (gD r h)}:bE).d) S):Fn nk [s.d,.int i,.int h] S Q:=by
 have f:=(gQs.mp b).1
 refine bZ ?_
 unfold vT
 symm
 apply ay rfl ?_
 refine ay (d:=r.d) (aW (by rw[gQm,b];rfl)) ?_
 apply f_ rfl (aA (aV (aA (aV (aA (aV (aA (aV (aA (aV (bA ?_)))))))))))
 refine dR ?_
 dsimp only[a7,aM,a9,bR,bU,eZ]
 unfold gD at q
 by_cases c:r.within= -1
 ·rw[Qhq c] at q
  rw[Qeq c,Qhq rfl]
  symm
  refine⟨by show 5<=_;decide,?_⟩
  symm
  refine dB (r:={r with within:=h}) f a ?_
  exact cV (bq _) (bE.low _) q
 ·rw[Quq c] at q
  rw[Qdq c,Quq (by decide)]
  symm
  refine⟨by show 1<=_;decide,?_⟩
  refine fe (by simp only[lQm,Qnq,QGq];exact nQl (bt (by omega))) ?_
  symm
  refine⟨by show 5<=_;decide,?_⟩
  symm
  have e:D.tup (r.row.map D.int++ [D.int h])=dr (r.row++ [h]):=by simp[dr]
  rw[e]
  refine dB (r:={r with row:=r.row++ [h]}) f a ?_
  exact cV (bq _) (bE.low _) q
end
section
variable{S:aE}{Q:Res->aE->Prop}
def Bw{α:Type}{a:α}{l:List α}:kj (a::l) 0=some a:=aW (j:=0) rfl
def DM{S:aE}{ds:List D}{Q:Bool->Prop}(q:Q (!ds.isEmpty)):Op (DE S (.tup ds)) Q:=⟨_,rfl,q⟩
def BA{s:bE}{i:Nat}{r:de}(m:s.aj[i]?=some r)(h:s.aj.length<=900)(q:Q (.d ({s with aj:=s.aj.set i (dt r)}:bE).d) S):Fn rN [s.d,.int i] S Q:=by
 have j:=(gQs.mp m).1
 refine bZ ?_
 unfold Dj
 symm
 apply ay rfl ?_
 refine ay (d:=r.d) (aW (by rw[gQm,m];rfl)) ?_
 refine f_ rfl (aA (aV (aA (aV (aA (aV (aA (aV (aA (aV (bA ?_)))))))))))
 obtain⟨b,g,f,n,k⟩:=r
 symm
 refine DM ?_
 cases n with
 | cons a l=>
   apply aK (λ_=> ?_) (λc=>by cases c)
   apply ay (d:=.int a) Bw ?_
   apply m7 ?_
   apply dF ?_
   apply⟨_,rfl,dD ⟨_,rfl,?_⟩⟩
   refine⟨by show 5<=_;decide,?_⟩
   symm
   have e:D.tup (lH ((a::l).map D.int) (some 1) none)=dr l:=by
     rw[show(some (1:Int))=some ((1:Nat):Int) from rfl,j2 (by simp)]
     rfl
   rw[e]
   refine dB (r:=⟨b,a,f,l,k⟩) j h ?_
   exact cV (bq _) (bE.low _) q
 | nil=>
   refine aK (λc=>by cases c) (λ_=> ?_)
   apply bX ?_
   refine DM ?_
   cases f with
   | cons a l=>
     apply aK (λ_=> ?_) (λc=>by cases c)
     apply ay (d:=.int a) Bw ?_
     apply m7 ?_
     apply dF ?_
     apply⟨_,rfl,dD ⟨_,rfl,?_⟩⟩
     refine⟨by show 5<=_;decide,?_⟩
     symm
     have e:D.tup (lH ((a::l).map D.int) (some 1) none)=dr l:=by
       rw[show(some (1:Int))=some ((1:Nat):Int) from rfl,j2 (by simp)]
       rfl
     rw[e]
     refine dB (r:=⟨b,a,l,[],k⟩) j h ?_
     exact cV (bq _) (bE.low _) q
   | nil=>
     refine aK (λc=>by cases c) (λ_=> ?_)
     apply bX ?_
     refine⟨by show 5<=_;decide,?_⟩
     symm
     refine dB (r:=⟨b,-1,[],[],k⟩) j h ?_
     exact cV (bq _) (bE.low _) q
def fW{α:Type}{enc:α->D}{nm:α->Str}{xs:List α}(he:∀a,∃r,enc a=.tup (.str (nm a)::r))(d:xs.length<=1000)(q:Q (.l ((xs.map nm).map D.str)) S):Fn eT [.tup (xs.map enc)] S Q:=by
 refine bZ ?_
 unfold sL
 symm
 apply iW (α:=α) (λb=>∃a,b= [a]) enc (λa=>.str (nm a)) ⟨none,rfl⟩ ?_
 refine⟨xs,rfl,trivial,d,λr f b c=> ?_,?_⟩
 ·obtain⟨a,rfl⟩:=c
  refine aV ⟨rfl,⟨_,rfl⟩,?_⟩
  obtain⟨g,e⟩:=he r
  rw[e]
  symm
  exact ay Bw ⟨rfl,rfl⟩
 ·have e:xs.map (λa=>D.str (nm a))=(xs.map nm).map D.str:=by rw[QPq];rfl
  rw[e]
  exact G8 (bf λ_ _=>rfl) q
theorem gL:∀ss:List Str,qT (ss.map D.str)=some (ss.map V.str)
 | []=>rfl
 |s::ss=>by simp only[QDq,qT,xw,Qbq];rw[gL ss];rfl
theorem uF{x:Str}:∀{ns:List Str},x∈ns->∃j,qD (.str x) (ns.map V.str)=some j/\ns[j]?=some x
 | [],h=>by cases h
 | n::ns,h=>by
   by_cases c:n=x
   · subst c
     exact⟨0,by simp[qD,uU],rfl⟩
   · obtain⟨j,a,b⟩:=uF (ns:=ns) ((Qsq.mp h).resolve_left (Ne.symm c))
     exact⟨j+1,by simp only[QDq,qD];rw[a];simp[uU,c],by simpa using b⟩
end
end W28
namespace DL
open PySem PySem.Spec L2
section
variable{Γ:cB}{S:aE}
def v5{T:String}{f:bH}{Q:D->aE->Prop}(h:E f Γ S λd a=>Op (Ju a T d) λk=>Q (.bl k) a):E (pN T f) Γ S Q:=by
 obtain⟨d,a,b,k,c,q⟩:=h
 exact⟨_,a,by unfold pN;rw[b];simp only[Qbq];rw[c];rfl,q⟩
def rC{b:Bool}{Q:Bool->Prop}(q:Q b):Op (DE S (.bl b)) Q:=⟨_,rfl,q⟩
def JN{f g:bH}{Q:D->aE->Prop}(h:E f Γ S λx b=>E g Γ b λy S2=>∃k a z v,x=.ref k/\y=.str z/\S2[k]?=some (.dct a)/\iB a (.inr z)=some v/\Q v S2):E (Mb f g) Γ S Q:=by
 obtain⟨x,b,c,y,S2,d,k,a,z,v,rfl,rfl,h1,h2,q⟩:=h
 exact⟨v,S2,by unfold Mb;rw[c];simp only[Qbq];rw[d];simp only[Qbq,h1,xn,h2],q⟩
def mL{i j:Int}{Q:D->Prop}(q:Q (.bl (!decide (i=j)))):Op (du true S (.int i) (.int j)) Q:=⟨_,by simp[du,xw,Du],q⟩
def Hc{i j:Int}{Q:D->Prop}(q:Q (.int (if j<i then j else i))):Op (minD [.int i,.int j]) Q:=⟨_,rfl,q⟩
def GT{i j:Int}{Q:D->Prop}(q:Q (.int (if j>i then j else i))):Op (maxD [.int i,.int j]) Q:=⟨_,rfl,q⟩
end
end DL
namespace W28
open PySem PySem.Spec L2 DL
def K0(o:Str)(a b:Int):Int:=
 if o="plus" then(if 9<a+b then 9 else a+b) else if o="minus" then(if 0>a-b then 0 else a-b) else if o="less" then(if a<b then 1 else 0)
 else if o="same" then(if a=b then 1 else 0) else(if a≠0/\b≠0 then 1 else 0)
def oa(th wt:Str->Int):Tr->Int
 |.num n=>n
 |.word x=>th x
 |.waits b=>if 0<wt b then 1 else 0
 |.no t=>if oa th wt t=0 then 1 else 0
 |.two o a b=>K0 o (oa th wt a) (oa th wt b)
def Gs{o:Str}{a b:Int}(c:0<=a/\a<=9)(d:0<=b/\b<=9):0<=K0 o a b/\K0 o a b<=9:=by
 unfold K0
 repeat' split
 all_goals omega
theorem iJ{th wt:Str->Int}{ws bs:List Str}(h:∀x∈ws,0<=th x/\th x<=9):∀{t:Tr},t.Ok ws bs->0<=oa th wt t/\oa th wt t<=9
 |.num n,ho=>by have:n<=9:=ho;simp only[oa];omega
 |.word x,ho=>h x ho
 |.waits b,_=>by simp only[oa];split <;>omega
 |.no t,_=>by simp only[oa];split <;>omega
 |.two o a b,ho=>Gs (iJ h ho.2.1) (iJ h ho.2.2)
section
variable{S:aE}{Q:Res->aE->Prop}
def cY{S:aE}{i:Int}{Q:Res->aE->Prop}(q:Q (.d (.int i)) S):Op (settle S (.int i) S) λp=>Q p.1 p.2:=cV (λk z=>(nomatch z)) rfl q
def ub{o:Str}{a b:Int}(q:Q (.d (.int (K0 o a b))) S):Fn gX [.str o,.int a,.int b] S Q:=by
 refine bZ ?_
 unfold jA
 unfold K0 at q
 symm
 refine gE ?_
 dsimp only[a7,aM,a9,bR,bU,eZ]
 by_cases h:o="plus"
 ·rw[Qhq h] at q
  rw[Qeq h,Qhq rfl]
  symm
  refine Hc ?_
  exact cY q
 rw[Quq h] at q
 rw[Qdq h,Quq (by decide)]
 apply bX ?_
 refine gE ?_
 dsimp only[a7,aM,a9,bR,bU,eZ]
 by_cases g:o="minus"
 ·rw[Qhq g] at q
  rw[Qeq g,Qhq rfl]
  symm
  refine GT ?_
  exact cY q
 rw[Quq g] at q
 rw[Qdq g,Quq (by decide)]
 apply bX ?_
 refine gE ?_
 dsimp only[a7,aM,a9,bR,bU,eZ]
 by_cases j:o="less"
 ·rw[Qhq j] at q
  rw[Qeq j,Qhq rfl]
  symm
  by_cases c:a<b
  ·rw[Qhq c] at q
   rw[Qeq c,Qhq rfl]
   symm
   exact cY q
  ·rw[Quq c] at q
   rw[Qdq c,Quq (by decide)]
   symm
   exact cY q
 rw[Quq j] at q
 rw[Qdq j,Quq (by decide)]
 apply bX ?_
 refine gE ?_
 dsimp only[a7,aM,a9,bR,bU,eZ]
 by_cases e:o="same"
 ·rw[Qhq e] at q
  rw[Qeq e,Qhq rfl]
  symm
  refine dR ?_
  dsimp only[a7,aM,a9,bR,bU,eZ]
  by_cases c:a=b
  ·rw[Qhq c] at q
   rw[Qeq c,Qhq rfl]
   symm
   exact cY q
  ·rw[Quq c] at q
   rw[Qdq c,Quq (by decide)]
   symm
   exact cY q
 rw[Quq e] at q
 rw[Qdq e,Quq (by decide)]
 apply bX ?_
 refine mL ?_
 dsimp only[a7,aM,a9,bR,bU,eZ]
 by_cases i:a=0
 ·rw[Quq (λz=>z.1 i)] at q
  rw[Qeq i]
  show if (false=true) then _ else _
  rw[Quq (by decide)]
  show if (false=true) then _ else _
  rw[Quq (by decide)]
  symm
  exact cY q
 ·rw[Qdq i]
  show if (true=true) then _ else _
  rw[Qhq rfl]
  symm
  refine mL ?_
  dsimp only[a7,aM,a9,bR,bU,eZ]
  by_cases f:b=0
  ·rw[Quq (λz=>z.2 f)] at q
   rw[Qeq f]
   show if (false=true) then _ else _
   rw[Quq (by decide)]
   symm
   exact cY q
  ·rw[Qhq ⟨i,f⟩] at q
   rw[Qdq f]
   show if (true=true) then _ else _
   rw[Qhq rfl]
   symm
   exact cY q
end
def b_{c:cB}{S:aE}{T:String}{f:bH}{d:D}{b:Bool}{Q:Bool->aE->Prop}(h:E f c S λx a=>x=d/\a=S)(hd:Ju S T d=some b)(q:Q b S):E (ke (pN T f)) c S Q:=by
 refine Ci (v5 (h.mono λx a e=> ?_))
 obtain⟨g,i⟩:=e
 subst g i
 exact⟨b,hd,rC q⟩
def Ff{o:Str}(h:o∈ops):o≠"waits" /\o≠"not":=by
 simp only[ops,Qsq,QXq,or_false] at h
 rcases h with rfl|rfl|rfl|rfl|rfl <;>exact⟨by decide +kernel,by decide +kernel⟩
theorem g8{th wt:Str->Int}{ws bs:List Str}{i j:Nat}{e kws:List (Key×D)}{S:aE}(hi:S[i]?=some (.dct e))(h:S[j]?=some (.dct kws))(f:∀x∈ws,iB e (.inr x)=some (.int (th x)))(g:∀b∈bs,iB kws (.inr b)=some (.int (wt b))):
  ∀(n:Nat) (t:Tr) {Q:Res->aE->Prop},t.Ok ws bs->t.dep<=n->Q (.d (.int (oa th wt t))) S->Fn (gG n) [t.d,.ref i,.ref j] S Q
 |0,t,Q,_,hd,_=>by cases t <;>simp[Tr.dep] at hd
 | n+1,t,Q,ho,hd,q=>by
   refine bZ ?_
   unfold rE
   cases t with
   | num v=>
     refine aI (bO (b_ (d:=.int v) (aw rfl ⟨rfl,rfl⟩) rfl ?_))
     apply aK (λ_=> ?_) (λc=>by cases c)
     exact cY q
   | word x=>
     refine aI (bO (b_ (d:=.str x) (aw rfl ⟨rfl,rfl⟩) rfl ?_))
     refine aK (λc=>by cases c) (λ_=>bX ?_)
     refine aI (bO (b_ (d:=.str x) (aw rfl ⟨rfl,rfl⟩) rfl ?_))
     refine aK (λ_=> ?_) (λc=>by cases c)
     apply eX (JN ?_)
     refine⟨_,_,_,_,rfl,rfl,hi,f x ho,?_⟩
     exact cY q
   | waits b=>
     refine aI (bO (b_ (d:=.tup [.str "waits",.str b]) (aw rfl ⟨rfl,rfl⟩) rfl ?_))
     refine aK (λc=>by cases c) (λ_=>bX ?_)
     refine aI (bO (b_ (d:=.tup [.str "waits",.str b]) (aw rfl ⟨rfl,rfl⟩) rfl ?_))
     apply aK (λc=>by cases c) (λ_=>bX ?_)
     apply ay rfl ?_
     refine gE ?_
     dsimp only[a7,aM,a9,bR,bU,eZ]
     rw[Qeq rfl,Qhq rfl]
     symm
     apply JN ?_
     refine ay rfl ?_
     apply⟨_,_,_,_,rfl,rfl,h,g b ho,?_⟩
     simp only[oa] at q
     by_cases c:0<wt b
     · rw[Qhq c] at q
       rw[Qeq c,Qhq rfl]
       symm
       exact cY q
     · rw[Quq c] at q
       rw[Qdq c,Quq (by decide)]
       symm
       exact cY q
   | no t=>
     have l:t.dep<=n:=by simp only[Tr.dep] at hd;omega
     refine aI (bO (b_ (d:=.tup [.str "not",t.d]) (aw rfl ⟨rfl,rfl⟩) rfl ?_))
     refine aK (λc=>by cases c) (λ_=>bX ?_)
     refine aI (bO (b_ (d:=.tup [.str "not",t.d]) (aw rfl ⟨rfl,rfl⟩) rfl ?_))
     apply aK (λc=>by cases c) (λ_=>bX ?_)
     apply ay rfl ?_
     refine gE ?_
     dsimp only[a7,aM,a9,bR,bU,eZ]
     rw[Qdq (show¬(("not":Str)="waits") by decide +kernel),Quq (by decide)]
     apply bX ?_
     apply ay rfl ?_
     apply g8 hi h f g n t ho l ?_
     apply ay rfl ?_
     refine gE ?_
     dsimp only[a7,aM,a9,bR,bU,eZ]
     rw[Qeq rfl,Qhq rfl]
     symm
     refine dR ?_
     dsimp only[a7,aM,a9,bR,bU,eZ]
     simp only[oa] at q
     by_cases c:oa th wt t=0
     · rw[Qhq c] at q
       rw[Qeq c,Qhq rfl]
       symm
       exact cY q
     · rw[Quq c] at q
       rw[Qdq c,Quq (by decide)]
       symm
       exact cY q
   | two o a b=>
     have m:a.dep<=n:=by simp only[Tr.dep] at hd;omega
     have k:b.dep<=n:=by simp only[Tr.dep] at hd;omega
     obtain⟨r,p⟩:=Ff ho.1
     refine aI (bO (b_ (d:=.tup [.str o,a.d,b.d]) (aw rfl ⟨rfl,rfl⟩) rfl ?_))
     refine aK (λc=>by cases c) (λ_=>bX ?_)
     refine aI (bO (b_ (d:=.tup [.str o,a.d,b.d]) (aw rfl ⟨rfl,rfl⟩) rfl ?_))
     apply aK (λc=>by cases c) (λ_=>bX ?_)
     apply ay rfl ?_
     refine gE ?_
     dsimp only[a7,aM,a9,bR,bU,eZ]
     rw[Qdq r,Quq (by decide)]
     apply bX ?_
     apply ay rfl ?_
     apply g8 hi h f g n a ho.2.1 m ?_
     apply ay rfl ?_
     refine gE ?_
     dsimp only[a7,aM,a9,bR,bU,eZ]
     rw[Qdq p,Quq (by decide)]
     apply bX ?_
     apply ay rfl ?_
     apply ay rfl ?_
     apply g8 hi h f g n b ho.2.2 k ?_
     refine ub ?_
     exact cY q
end W28
namespace DL
open PySem PySem.Spec L2
def yq{l:List (Key×D)}{k:Key}(h:k∈l.map (·.1)):∃d,iB l k=some d/\(k,d)∈l:=by
 unfold iB
 cases e:l.find? λg=>decide (g.1=k) with
 | none=>
   obtain⟨p,f,rfl⟩:=Qkq.mp h
   have:=List.find?_eq_none.mp e p f
   simp at this
 | some p=>
   have a:=List.find?_some e
   have b:=List.mem_of_find?_eq_some e
   have c:p.1=k:=by simpa using a
   exact⟨p.2,rfl,by rw[←c];exact b⟩
def AX{l:List (Key×D)}{k:Key}{v:D}{p:Key×D}(h:p∈putD l k v):p∈l\/p=(k,v):=by
 unfold putD at h
 split at h
 ·obtain⟨q,a,e⟩:=Qkq.mp h
  split at e
  ·rename_i c
   rw[←e,c]
   exact .inr rfl
  ·rw[←e]
   exact .inl a
 ·rcases mQa.mp h with h|h
  ·exact .inl h
  ·exact .inr (Qfq.mp h)
def jO{l:List (Key×D)}{k x:Key}{v:D}(h:x=k\/x∈l.map (·.1)):x∈(putD l k v).map (·.1):=by
 unfold putD
 split
 ·rename_i c
  have a:∀p∈l,(if p.1=k then(p.1,v) else p).1=p.1:=λp _=>by split <;>rfl
  have e:(l.map λp=>if p.1=k then(p.1,v) else p).map (·.1)=l.map (·.1):=by
   rw[QPq]
   exact List.map_congr_left a
  rw[e]
  rcases h with rfl|h
  ·obtain⟨p,b,d⟩:=List.any_eq_true.mp c
   exact Qkq.mpr ⟨p,b,by simpa using d⟩
  ·exact h
 ·rw[Qzq]
  rcases h with rfl|h
  ·exact Qoq _ (by simp)
  ·exact List.mem_append_left _ h
theorem kY:∀{more l:List (Key×D)} {p:Key×D},p∈bu l more->p∈l\/p∈more
 | [],l,p,h=>.inl h
 | q::more,l,p,h=>by
   rcases kY (more:=more) (l:=putD l q.1 q.2) h with h|h
   · rcases AX h with h|rfl
     · exact .inl h
     · exact .inr (QBq ..)
   · exact .inr (Qpq _ h)
theorem ff:∀{more l:List (Key×D)} {x:Key},x∈l.map (·.1)\/x∈more.map (·.1)->x∈(bu l more).map (·.1)
 | [],l,x,h=>h.elim id λz=>by cases z
 | q::more,l,x,h=>by
   refine ff (more:=more) (l:=putD l q.1 q.2) ?_
   rcases h with h|h
   · exact .inl (jO (.inr h))
   · rcases Qsq.mp h with rfl|h
     · exact .inl (jO (.inl rfl))
     · exact .inr h
theorem vG:∀ss:List Str,BB (ss.map D.str)=some (ss.map Sum.inr)
 | []=>rfl
 |s::ss=>by simp only[QDq,BB,xn,Qbq];rw[vG ss];rfl
section
variable{Γ:cB}{S:aE}
def Ov{Q:D->aE->Prop}(q:Q (.ref S.length) (S++ [.dct []])):E OT Γ S Q:=⟨_,_,rfl,q⟩
def F7{f g:fu}{Q:D->aE->Prop}(h:E f Γ S λp a=>E g Γ a λr S2=>∃ss:List Str,p.1=ss.map D.str/\(p.2.stays S2 p.1/\p.1.length=r.1.length)/\Q (.ref S2.length) (S2++ [.dct (bu [] ((ss.map Sum.inr).zip r.1))])):E (Jk f g) Γ S Q:=by
 obtain⟨p,a,c,r,S2,d,ss,b,e,q⟩:=h
 refine⟨_,_,?_,q⟩
 unfold Jk
 rw[c]
 simp only[Qbq]
 rw[d]
 simp only[Qbq]
 rw[Qhq e,b,vG]
 rfl
def Ol{f g:bH}{Q:D->aE->Prop}(h:E f Γ S λx a=>E g Γ a λy S2=>∃k j b l m,x=.ref k/\y=.ref j/\k≠j/\a[k]?=some (.dct b)/\S2[k]?=some (.dct l)/\S2[j]?=some (.dct m)/\l.length+m.length<=sizeLine/\Q .non (S2.set k (.dct (bu l m)))):E (Ko f g) Γ S Q:=by
 obtain⟨x,a,c,y,S2,d,k,j,b,l,m,rfl,rfl,hn,h0,h1,h2,h3,q⟩:=h
 exact⟨_,_,by unfold Ko;rw[c];simp only[Qbq];rw[d];simp only[Qbq];rw[Qhq hn];simp only[h0,h1,h2];rw[Qhq h3],q⟩
def Od{f g h:bH}{Q:Out->Prop}(w:E h Γ S λd b=>E f Γ b λx S2=>E g Γ S2 λy a=>∃k l z,x=.ref k/\y=.str z/\a[k]?=some (.dct l)/\l.length<sizeLine/\Q (.nx Γ (a.set k (.dct (putD l (.inr z) d))))):T (NQ f g h) Γ S Q:=by
 obtain⟨d,b,c,x,S2,i,y,a,e,k,l,z,rfl,rfl,h1,h2,q⟩:=w
 exact⟨_,by unfold NQ;rw[c];simp only[Qbq];rw[i];simp only[Qbq];rw[e];simp only[Qbq,h1,xn];rw[Qhq h2],q⟩
def Pv{α:Type}{n:Nat}{js:List (Option Nat)}{i:yh}{g:nR}{w u:bH}{Q:Out->Prop}(P:cB->Prop)(enc:α->D)(e:α->Str)(j:α->D)(H:P (pQ js Γ)) (h:E i Γ S λp d=>∃xs:List α,p.1=xs.map enc/\p.2 d/\xs.length<=1000∧
   (∀x∈xs,∀b,P b->Tg g (enc x) b d λf S2=>S2=d/\P f/\E w f d λy C=>y=.str (e x)/\C=d/\E u f d λz B=>z=j x/\B=d)∧
   Q (.nx (Γ.set n (some (.ref d.length))) (d++ [.dct (bu [] (xs.map λx=>(Sum.inr (e x),j x)))]))):T (Oa n (q0 js i g bL w u)) Γ S Q:=by
 obtain⟨⟨R,W⟩,d,I,xs,rfl,hW,hl,hs,q⟩:=h
 have J:∀(l:List (Key×D)) (k:Key) (v:D),(putD l k v).length<=l.length+1:=λl k v=>by
  unfold putD
  split <;>simp
 have F:∀(m:List α) (b:cB) (c:List (Key×D)),(∀y∈m,y∈xs)->P b->c.length+m.length<=1000->∃r,jG g bL w u W (m.map enc) b d c=some (r,d)/\r=bu c (m.map λx=>(Sum.inr (e x),j x)):=by
  intro m
  induction m with
  |nil=>intro b c _ _ _;exact⟨c,by simp only[List.map_nil,jG];rw[Qhq hW],rfl⟩
  | cons a m M=>
    intro b c A G o
    obtain⟨f,S2,t,rfl,hp1,y,C,e3,rfl,rfl,z,B,e4,rfl,rfl⟩:=hs a (A a (QBq ..)) b G
    have s:=J c (Sum.inr (e a)) (j a)
    simp only[Qnq] at o
    obtain⟨r,K,L⟩:=M f (putD c (Sum.inr (e a)) (j a)) (λy N=>A y (Qpq _ N)) hp1 (by omega)
    refine⟨r,?_,L⟩
    simp only[QDq,jG]
    rw[Qhq hW,t]
    simp only[Qbq,bL,if_true]
    rw[e3]
    simp only[Qbq]
    rw[e4]
    simp only[Qbq,xn]
    rw[Qhq (bt (by omega))]
    exact K
 obtain⟨r,t,rfl⟩:=F xs _ [] (λ_ h=>h) H (by simpa using hl)
 exact⟨_,by unfold Oa q0;rw[I];simp only[Qbq];rw[t];rfl,q⟩
end
def IS{a:cB}{S:aE}{f g:fu}{Q:(List D×(aE->Prop))->aE->Prop}(h:E f a S λp b=>E g a b λr S2=>(p.2.stays S2 p.1/\p.1.length<=r.1.length)/\Q (BI p.1 r.1,λS=>p.2.stays S p.1/\r.2.stays S r.1) S2):E (GK f g) a S Q:=by
 obtain⟨p,b,c,r,S2,e,d,q⟩:=h
 exact⟨_,S2,by unfold GK;rw[c];simp only[Qbq];rw[e];simp only[Qbq];rw[Qhq d],q⟩
def jf(l:List (Key×D)):Prop:=∀p∈l,∃v:Int,p.2=.int v/\0<=v/\v<=9
def jf.merge{l m:List (Key×D)}(a:jf l)(c:jf m):jf (bu l m):=λp b=>(kY b).elim (a p) (c p)
def jf.put{l:List (Key×D)}{k:Key}{v:Int}(h:jf l)(c:0<=v)(b:v<=9):jf (putD l k (.int v)):=λp a=>by
 rcases AX a with a|rfl
 ·exact h p a
 ·exact⟨v,rfl,c,b⟩
def numAt(l:List (Key×D))(x:Str):Int:=match iB l (.inr x) with|some (.int v)=>v|_=>0
def g7{l:List (Key×D)}(h:jf l){x:Str}(c:(Sum.inr x:Key)∈l.map (·.1)):iB l (.inr x)=some (.int (numAt l x))/\0<=numAt l x/\numAt l x<=9:=by
 obtain⟨d,b,i⟩:=yq c
 obtain⟨v,a,f,g⟩:=h _ i
 have a:d=.int v:=a
 subst a
 have e:numAt l x=v:=by unfold numAt;rw[b]
 rw[e]
 exact⟨b,f,g⟩
def H_{ss:List Str}{vs:List Int}(h:∀v∈vs,0<=v/\v<=9):jf ((ss.map (Sum.inr:Str->Key)).zip (vs.map D.int)):=λp b=>by
 have c:p.2∈vs.map D.int:=(QeQ (show(p.1,p.2)∈_ from b)).2
 obtain⟨v,a,e⟩:=Qkq.mp c
 exact⟨v,e.symm,h v a⟩
def G5{ss:List Str}{ds:List D}(h:ss.length=ds.length):((ss.map (Sum.inr:Str->Key)).zip ds).map (·.1)=ss.map Sum.inr:=by
 rw[List.map_fst_zip]
 simpa using Nat.le_of_eq h
end DL
namespace W28
open PySem PySem.Spec L2 DL
def d0(ts:List (Str×Nat))(vs:List Int):List (Key×D):=bu [] (((ts.map (·.1)).map Sum.inr).zip (vs.map D.int))
def qQ(w:dz)(s:bE)(ts:List (Str×Nat))(vs:List Int):List (Key×D):=bu (d0 w.ak s.ak) (d0 ts vs)
def iz(r:Rm)(rs:de)(a:Int):List (Key×D):=putD (d0 r.ao rs.vals) (.inr "given") (.int a)
def xO(r:Rm)(rs:de):List (Key×D):=bu [] ((r.aa.zip rs.aa).map λp=>(Sum.inr p.1.1,D.int (p.2.length:Nat)))
def dW{ts:List (Str×Nat)}{vs:List Int}(h:∀v∈vs,0<=v/\v<=9):jf (d0 ts vs):=jf.merge (λp a=>by cases a) (H_ h)
def dw{ts:List (Str×Nat)}{vs:List Int}(a:ts.length=vs.length){x:Str}(h:x∈ts.map (·.1)):(Sum.inr x:Key)∈(d0 ts vs).map (·.1):=by
 refine ff (.inr ?_)
 rw[G5 (by simpa using a)]
 exact Qkq.mpr ⟨x,h,rfl⟩
structure rY(S S':aE):Prop where
 len:S.length<=S'.length
 eq:∀j,j<S.length->S'[j]?=S[j]?
def rY.refl{S:aE}:rY S S:=⟨Qmq _,λ_ _=>rfl⟩
def rY.app{S a G:aE}(x:rY S a):rY S (a++G):=⟨by rw[lQa];have:=x.len;omega,λj b=>by rw[QHq (by have:=x.len;omega)];exact x.eq j b⟩
def rY.put{S a:aE}{r:Nat}{o:O}(x:rY S a)(c:S.length<=r):rY S (a.set r o):=⟨by simpa using x.len,λj b=>by rw[QKq (by omega)];exact x.eq j b⟩
def vZ{S a:aE}{d:D}{Q:Res->aE->Prop}(x:rY S a)(hd:∀k,d≠.ref k)(c:cq 0 d=true)(q:Q (.d d) S):Op (settle S d a) λp=>Q p.1 p.2:=by
 refine iM ⟨x.len,λk o f e=>.inl (by rw[←x.eq k f];exact e)⟩ ?_ hd (dS c) q
 apply List.ext_getElem?
 intro j
 by_cases b:j<S.length
 ·rw[List.getElem?_take_of_lt b]
  exact x.eq j b
 ·rw[List.getElem?_eq_none (by rw[Qxq];omega),List.getElem?_eq_none (by omega)]
def kO:∀a:Str×Nat,∃r,lQ a=.tup (.str a.1::r):=λa=>⟨_,rfl⟩
def D9:∀a:Str×Str,∃r,y3 a=.tup (.str a.1::r):=λa=>⟨_,rfl⟩
section
variable{S:aE}{Q:Res->aE->Prop}
theorem pB:∀{m l:List (Key×D)},(bu l m).length<=l.length+m.length
 | [],l=>Qmq _
 | q::m,l=>by
   have a:(bu (putD l q.1 q.2) m).length<=(putD l q.1 q.2).length+m.length:=pB
   have b:(putD l q.1 q.2).length<=l.length+1:=by unfold putD;split <;>simp
   show(bu (putD l q.1 q.2) m).length<=_
   simp only[Qnq]
   omega
def v8{ts:List (Str×Nat)}{vs:List Int}:(d0 ts vs).length<=ts.length:=by
 refine QAq pB ?_
 simp only[QGq,List.length_zip,lQm]
 omega
def zu{w:dz}{s:bE}{h:Nat}{ts:List (Str×Nat)}{pr:List Rw}{vs:List Int}{fs:List cA}{f:cA}{t:Tr}(u:w.af[h]?=some (ts,pr))(hs:s.af[h]?=some (vs,fs))(A:fs.getLast? =some f)(B:f.room= -1)
  (g:w.ak.length=s.ak.length) (o:ts.length=vs.length) (L:w.ak.length<=100) (J:ts.length<=100) (C:∀v∈s.ak,0<=v/\v<=9) (y:∀v∈vs,0<=v/\v<=9)
  (r:t.Ok (ts.map (·.1)++w.ak.map (·.1)) []) (hd:t.dep<=6) (q:Q (.d (.int (oa (numAt (qQ w s ts vs)) (λ_=>0) t))) S):Fn dU [w.d,s.d,.int h,t.d] S Q:=by
 have c:jf (qQ w s ts vs):=jf.merge (dW C) (dW y)
 refine bZ ?_
 unfold nP
 symm
 apply cm hs A ?_
 apply ay (d:=.int f.room) rfl ?_
 refine dR ?_
 dsimp only[a7,aM,a9,bR,bU,eZ]
 rw[Qeq B,Qhq rfl]
 symm
 apply F7 ?_
 apply ay rfl ?_
 apply fW (enc:=lQ) (nm:=(·.1)) kO (by omega) ?_
 refine ay rfl ?_
 refine cy (ds:=s.ak.map D.int) ?_
 refine⟨_,rfl,⟨trivial,by simp only[lQm];exact g⟩,?_⟩
 dsimp only[a7,aM,a9,bR,bU,eZ]
 rw[show bu [] (((w.ak.map (·.1)).map (Sum.inr:Str->Key)).zip (s.ak.map D.int))=d0 w.ak s.ak from rfl]
 apply aI (eg (Ol ?_))
 apply F7 ?_
 apply ay rfl ?_
 refine ay (d:=eW (ts,pr)) (aW (by rw[gQm,u];rfl)) ?_
 symm
 apply ay rfl ?_
 apply fW (enc:=lQ) (nm:=(·.1)) kO (by omega) ?_
 apply ay rfl ?_
 refine ay (d:=t_ (vs,fs)) (aW (by rw[gQm,hs];rfl)) ?_
 symm
 refine ay rfl ?_
 refine cy (ds:=vs.map D.int) ?_
 refine⟨_,rfl,⟨trivial,by simp only[lQm];exact o⟩,?_⟩
 dsimp only[a7,aM,a9,bR,bU,eZ]
 rw[show bu [] (((ts.map (·.1)).map (Sum.inr:Str->Key)).zip (vs.map D.int))=d0 ts vs from rfl]
 have e:(S++ [O.dct (d0 w.ak s.ak)])[S.length]?=some (.dct (d0 w.ak s.ak)):=aN
 have i:(S++ [O.dct (d0 w.ak s.ak)]).length=S.length+1:=by simp
 have G:rY S (S++ [O.dct (d0 w.ak s.ak)]):=rY.refl.app
 show∃k j F l m,D.ref S.length=.ref k/\D.ref (S++ [O.dct (d0 w.ak s.ak)]).length=.ref j/\k≠j/\(S++ [O.dct (d0 w.ak s.ak)])[k]?=some (.dct F)/\(S++ [O.dct (d0 w.ak s.ak)]++ [O.dct (d0 ts vs)])[k]?=some (.dct l)/\(S++ [O.dct (d0 w.ak s.ak)]++ [O.dct (d0 ts vs)])[j]?=some (.dct m)/\_
 refine⟨_,_,_,_,_,rfl,rfl,by omega,e,aO e,aN,?_,?_⟩
 ·have I:=v8 (ts:=w.ak) (vs:=s.ak)
  have K:=v8 (ts:=ts) (vs:=vs)
  exact nQl (bt (by omega))
 have n:((S++ [O.dct (d0 w.ak s.ak)]++ [O.dct (d0 ts vs)]).set S.length (.dct (bu (d0 w.ak s.ak) (d0 ts vs))))[S.length]?=some (.dct (qQ w s ts vs)):=cQ (aO e)
 have p:rY S ((S++ [O.dct (d0 w.ak s.ak)]++ [O.dct (d0 ts vs)]).set S.length (.dct (bu (d0 w.ak s.ak) (d0 ts vs)))):=G.app.put (Qmq _)
 generalize ((S++ [O.dct (d0 w.ak s.ak)]++ [O.dct (d0 ts vs)]).set S.length (.dct (bu (d0 w.ak s.ak) (d0 ts vs))))=S2 at n p⊢
 symm
 apply Ov ?_
 refine g8 (th:=numAt (qQ w s ts vs)) (wt:=λ_=>0) (ws:=ts.map (·.1)++w.ak.map (·.1)) (bs:= []) (aO n) aN (λx a=> ?_) (λb H=>by cases H) 6 t r hd ?_
 ·refine(g7 c ?_).1
  refine ff ?_
  rcases mQa.mp a with a|a
  ·exact .inr (dw o a)
  ·exact .inl (dw g a)
 ·exact vZ p.app (λk z=>(nomatch z)) rfl q
end
section
variable{S:aE}{Q:Res->aE->Prop}
theorem A4:∀(bs:List (Str×Str)) (ls:List (List (Int×Int))),BI ((bs.map (·.1)).map D.str) (ls.map fj)=(bs.zip ls).map λp=>D.tup [.str p.1.1,fj p.2]
 | [],_=>rfl
 |_::_,[]=>rfl
 | b::bs,l::ls=>by
   have:=A4 bs ls
   simp only[BI,QDq,List.zipWith_cons_cons,List.zip_cons_cons] at this⊢
   rw[this]
def sW(r:Rm)(rs:de)(x:Str):Int:=numAt (xO r rs) x
def AD{r:Rm}{rs:de}(k:r.aa.length=rs.aa.length){x:Str}(h:x∈r.aa.map (·.1)):iB (xO r rs) (.inr x)=some (.int (sW r rs x)):=by
 have g:(Sum.inr x:Key)∈(xO r rs).map (·.1):=by
  refine ff (.inr ?_)
  rw[QPq]
  obtain⟨b,j,rfl⟩:=Qkq.mp h
  obtain⟨i,c,e⟩:=QbQ j
  refine Qkq.mpr ⟨(b,rs.aa[i]'(by omega)),?_,rfl⟩
  rw[←e]
  have:(r.aa.zip rs.aa)[i]?=some (r.aa[i],rs.aa[i]'(by omega)):=by
   rw[List.getElem?_zip_eq_some]
   exact⟨gQe c,gQe (by omega)⟩
  exact mQg this
 obtain⟨d,f,a⟩:=yq g
 have c:∃v:Int,d=.int v:=by
  rcases kY a with a|a
  ·cases a
  ·obtain⟨p,_,e⟩:=Qkq.mp a
   exact⟨_,(congrArg (·.2) e).symm⟩
 obtain⟨v,rfl⟩:=c
 unfold sW DL.numAt
 rw[f]
def xk{w:dz}{s:bE}{h i:Nat}{vs:List Int}{fs:List cA}{f:cA}{r:Rm}{rs:de}{t:Tr}(hs:s.af[h]?=some (vs,fs))(C:fs.getLast? =some f)(F:f.room=i)(o:w.aj[i]?=some r)(c:s.aj[i]?=some rs)
  (m:r.ao.length=rs.vals.length) (B:r.aa.length=rs.aa.length) (L:r.ao.length<=100) (K:r.aa.length<=100) (G:∀v∈rs.vals,0<=v/\v<=9) (u:0<=f.given/\f.given<=9)
  (A:t.Ok (r.ao.map (·.1)++fE) (r.aa.map (·.1))) (hd:t.dep<=6) (q:Q (.d (.int (oa (numAt (iz r rs f.given)) (sW r rs) t))) S):Fn dU [w.d,s.d,.int h,t.d] S Q:=by
 have j:jf (iz r rs f.given):=(dW G).put u.1 u.2
 refine bZ ?_
 unfold nP
 symm
 apply cm hs C ?_
 apply ay (d:=.int f.room) rfl ?_
 refine dR ?_
 dsimp only[a7,aM,a9,bR,bU,eZ]
 rw[Qdq (show¬f.room= -1 by omega),Quq (by decide),F]
 apply bX ?_
 apply F7 ?_
 apply ay rfl ?_
 refine ay (d:=r.d) (aW (by rw[gQm,o];rfl)) ?_
 symm
 apply ay rfl ?_
 apply fW (enc:=lQ) (nm:=(·.1)) kO (by omega) ?_
 apply ay rfl ?_
 refine ay (d:=rs.d) (aW (by rw[gQm,c];rfl)) ?_
 symm
 refine ay rfl ?_
 refine cy (ds:=rs.vals.map D.int) ?_
 refine⟨_,rfl,⟨trivial,by simp only[lQm];exact m⟩,?_⟩
 dsimp only[a7,aM,a9,bR,bU,eZ]
 rw[show bu [] (((r.ao.map (·.1)).map (Sum.inr:Str->Key)).zip (rs.vals.map D.int))=d0 r.ao rs.vals from rfl]
 have H:rY S (S++ [O.dct (d0 r.ao rs.vals)]):=rY.refl.app
 apply aI (Od ?_)
 apply ay (d:=.int f.given) rfl ?_
 refine⟨_,_,_,rfl,rfl,aN,bt (by have:=v8 (ts:=r.ao) (vs:=rs.vals);omega),?_⟩
 have n:((S++ [O.dct (d0 r.ao rs.vals)]).set S.length (.dct (putD (d0 r.ao rs.vals) (.inr "given") (.int f.given))))[S.length]?=some (.dct (iz r rs f.given)):=cQ aN
 have y:rY S ((S++ [O.dct (d0 r.ao rs.vals)]).set S.length (.dct (putD (d0 r.ao rs.vals) (.inr "given") (.int f.given)))):=H.put (Qmq _)
 generalize ((S++ [O.dct (d0 r.ao rs.vals)]).set S.length (.dct (putD (d0 r.ao rs.vals) (.inr "given") (.int f.given))))=S2 at n y⊢
 apply aI (Pv (α:=(Str×Str)×List (Int×Int)) (λe=>∃a b,e= [a,b]) (λp=>D.tup [.str p.1.1,fj p.2]) (λp=>p.1.1) (λp=>.int (p.2.length:Nat)) ⟨none,none,rfl⟩ (IS ?_))
 apply ay rfl ?_
 refine ay (d:=r.d) (aW (by rw[gQm,o];rfl)) ?_
 symm
 apply ay rfl ?_
 apply fW (enc:=y3) (nm:=(·.1)) D9 (by omega) ?_
 apply ay rfl ?_
 refine ay (d:=rs.d) (aW (by rw[gQm,c];rfl)) ?_
 symm
 refine ay rfl ?_
 refine cy (ds:=rs.aa.map fj) ?_
 refine⟨⟨trivial,by simp only[lQm];omega⟩,r.aa.zip rs.aa,A4 _ _,⟨trivial,trivial⟩,by rw[List.length_zip];omega,λp J e l=> ?_,?_⟩
 ·obtain⟨a,b,rfl⟩:=l
  refine f_ rfl (aA (aV (aA (aV (bA ?_)))))
  apply⟨rfl,⟨_,_,rfl⟩,?_⟩
  apply⟨rfl,rfl,?_⟩
  refine cy (ds:=p.2.map pairD) ?_
  exact⟨by simp,rfl⟩
 symm
 refine g8 (th:=numAt (iz r rs f.given)) (wt:=sW r rs) (ws:=r.ao.map (·.1)++fE) (bs:=r.aa.map (·.1)) (kws:=xO r rs) (aO n) aN (λx g=> ?_) (λb I=>AD B I) 6 t A hd ?_
 ·refine(g7 j ?_).1
  refine jO ?_
  rcases mQa.mp g with g|g
  ·exact .inr (dw m g)
  ·left
   rw[Qfq.mp g]
 ·exact vZ y.app (λk z=>(nomatch z)) rfl q
end
end W28
namespace DL
open PySem PySem.Spec L2
def zp{b:cB}{S:aE}{a:Bool}{f:bH}{g:fu}{Q:D->aE->Prop}(h:E f b S λx c=>E g b c λp S2=>∃v vs,xw x=some v/\qT p.1=some vs/\Q (.bl (if a then !G0 v vs else G0 v vs)) S2):E (BM a f g) b S Q:=by
 obtain⟨x,c,e,p,S2,i,v,vs,d,j,q⟩:=h
 exact⟨_,S2,by unfold BM;rw[e];simp only[Qbq];rw[i];simp only[Qbq];rw[d,j];rfl,q⟩
def Af{x:Str}{ss:List Str}:G0 (.str x) (ss.map V.str)=decide (x∈ss):=by
 induction ss with
 |nil=>rfl
 | cons a ss d=>
   show(uU (.str a) (.str x)||G0 (.str x) (ss.map V.str))=_
   rw[d]
   simp only[uU,Qsq]
   by_cases c:a=x
   · subst c;simp
   · have b:¬x=a:=λz=>c z.symm
     simp[c,b]
end DL
namespace W28
open PySem PySem.Spec L2 DL
section
variable{S:aE}{Q:Res->aE->Prop}
def eF(ns:List Str)(vs:List Int)(x:Str)(v:Int):List Int:=vs.set ((qD (.str x) (ns.map V.str)).getD 0) v
def qR{α:Type}{enc:α->D}{nm:α->Str}{xs:List α}{x:Str}(he:∀a,∃r,enc a=.tup (.str (nm a)::r))(i:xs.length<=1000)(f:x∈xs.map nm)(q:((qD (.str x) ((xs.map nm).map V.str)).getD 0)<xs.length->Q (.d (.int ((qD (.str x) ((xs.map nm).map V.str)).getD 0:Nat))) S):Fn dv [.tup (xs.map enc),.str x] S Q:=by
 refine bZ ?_
 unfold sH
 obtain⟨j,e,h⟩:=uF f
 have l:j<xs.length:=by have:=(gQs.mp h).1;simpa using this
 rw[e] at q
 refine eX ?_
 have c:E (ib (dX eT (aq (ar 0) av))) ([D.tup (xs.map enc),D.str x].map some++List.replicate (2- [D.tup (xs.map enc),D.str x].length) none) S λp b=>p=((xs.map nm).map D.str,.fr)/\b=S:=by
  symm
  exact fW he i ⟨rfl,rfl⟩
 obtain⟨p,b,g,rfl,rfl⟩:=c
 refine⟨.int j,b,?_,cV (λk z=>(nomatch z)) rfl (q l)⟩
 unfold HP
 rw[g]
 simp only[Qbq]
 rw[Qhq (show Tag.fr.isL=true from rfl)]
 show((ar 1 _ b).bind _)=_
 rw[show ar 1 ([D.tup (xs.map enc),D.str x].map some++List.replicate (2- [D.tup (xs.map enc),D.str x].length) none) b=some (.str x,b) from rfl]
 simp only[Qbq]
 rw[Qhq (show Tag.stays b _ .fr from trivial)]
 show(xw (.str x)).bind _=_
 simp only[xw,Qbq]
 rw[gL]
 simp only[Qbq]
 rw[e]
 rfl
def HK{w:dz}{s:bE}{h i:Nat}{vs:List Int}{fs:List cA}{f:cA}{r:Rm}{rs:de}{x:Str}{v:Int}(hs:s.af[h]?=some (vs,fs))(g:fs.getLast? =some f)(j:f.room=i)(c:w.aj[i]?=some r)(a:s.aj[i]?=some rs)
  (k:r.ao.length=rs.vals.length) (n:r.ao.length<=100) (l:s.aj.length<=100) (b:x∈r.ao.map (·.1))
  (q:Q (.d ({s with aj:=s.aj.set i {rs with vals:=eF (r.ao.map (·.1)) rs.vals x v}}:bE).d) S):Fn fP [w.d,s.d,.int h,.str x,.int v] S Q:=by
 refine bZ ?_
 unfold kL
 symm
 apply cm hs g ?_
 apply ay (d:=.int f.room) rfl ?_
 refine mL ?_
 dsimp only[a7,aM,a9,bR,bU,eZ]
 rw[Qdq (show¬f.room= -1 by omega),j]
 show if (true=true) then _ else _
 rw[Qhq rfl]
 symm
 apply ay rfl ?_
 refine ay (d:=r.d) (aW (by rw[gQm,c];rfl)) ?_
 symm
 apply ay rfl ?_
 apply qR (enc:=lQ) (nm:=(·.1)) kO (by omega) b λm=> ?_
 apply ay rfl ?_
 refine ay (d:=rs.d) (aW (by rw[gQm,a];rfl)) ?_
 symm
 apply ay rfl ?_
 refine fA (xs:=rs.vals.map D.int) (by rw[lQm];omega) (by rw[lQm];omega) (bf λ_ _=>rfl) rfl ?_
 symm
 refine⟨by show 1<=_;decide,?_⟩
 apply m7 ?_
 apply ay rfl ?_
 refine ay (d:=rs.d) (aW (by rw[gQm,a];rfl)) ?_
 apply dF ?_
 refine⟨_,rfl,dD ⟨_,rfl,?_⟩⟩
 refine fe (by show 5<=_;decide) ?_
 symm
 have e:({rs with vals:=eF (r.ao.map (·.1)) rs.vals x v}:de).d=.tup ([.tup ((rs.vals.map D.int).set ((qD (.str x) ((r.ao.map (·.1)).map V.str)).getD 0) (.int v))]++lH [dr rs.vals,.int rs.within,dr rs.row,dr rs.ag,.tup (rs.aa.map fj)] (some 1) none):=by
  show D.tup [dr (eF _ _ _ _),_,_,_,_]=_
  unfold eF dr
  rw[map_set]
  rfl
 rw[←e]
 refine dB (gQs.mp a).1 (by omega) ?_
 exact cV (bq _) (bE.low _) q
end
section
variable{S:aE}{Q:Res->aE->Prop}
def mI(w:dz)(s:bE)(h:Nat)(ts:List (Str×Nat))(vs:List Int)(fs:List cA)(x:Str)(v:Int):bE:=
 if x∈w.ak.map (·.1) then{s with ak:=eF (w.ak.map (·.1)) s.ak x v} else{s with af:=s.af.set h (eF (ts.map (·.1)) vs x v,fs)}
def JZ{w:dz}{s:bE}{h:Nat}{ts:List (Str×Nat)}{pr:List Rw}{vs:List Int}{fs:List cA}{f:cA}{x:Str}{v:Int}(g:w.af[h]?=some (ts,pr))(hs:s.af[h]?=some (vs,fs))(i:fs.getLast? =some f)(k:f.room= -1)
  (o:w.ak.length=s.ak.length) (r:ts.length=vs.length) (u:w.ak.length<=100) (t:ts.length<=100) (n:s.af.length<=100) (e:x∈ts.map (·.1)++w.ak.map (·.1))
  (q:Q (.d (mI w s h ts vs fs x v).d) S):Fn fP [w.d,s.d,.int h,.str x,.int v] S Q:=by
 refine bZ ?_
 unfold kL
 symm
 apply cm hs i ?_
 apply ay (d:=.int f.room) rfl ?_
 refine mL ?_
 dsimp only[a7,aM,a9,bR,bU,eZ]
 rw[Qeq k]
 refine aK (λc=>by cases c) (λ_=>bX ?_)
 apply aI (bO (cG (zp ?_)))
 apply ay rfl ?_
 apply fW (enc:=lQ) (nm:=(·.1)) kO (by omega) ?_
 refine⟨_,_,rfl,gL _,?_⟩
 unfold mI at q
 show if G0 (.str x) ((w.ak.map (·.1)).map V.str)=true then _ else _
 rw[Af]
 by_cases c:x∈w.ak.map (·.1)
 ·rw[Qhq c] at q
  rw[Qeq c,Qhq rfl]
  symm
  apply ay rfl ?_
  apply ay rfl ?_
  apply qR (enc:=lQ) (nm:=(·.1)) kO (by omega) c λj=> ?_
  refine fA (xs:=s.ak.map D.int) (by rw[lQm];omega) (by rw[lQm];omega) (bf λ_ _=>rfl) rfl ?_
  symm
  apply ay rfl ?_
  apply ay rfl ?_
  apply ay rfl ?_
  refine⟨by show 4<=_;decide,?_⟩
  rw[←map_set]
  exact cV (d:=({s with ak:=eF (w.ak.map (·.1)) s.ak x v}:bE).d) (bq _) (bE.low _) q
 ·rw[Quq c] at q
  rw[Qdq c,Quq (by decide)]
  refine bX ?_
  have a:x∈ts.map (·.1):=(mQa.mp e).resolve_right c
  symm
  apply ay rfl ?_
  refine ay (d:=t_ (vs,fs)) (aW (by rw[gQm,hs];rfl)) ?_
  apply f_ rfl (aA (aV (aA (aV (bA ?_)))))
  apply ay rfl ?_
  refine ay (d:=eW (ts,pr)) (aW (by rw[gQm,g];rfl)) ?_
  symm
  apply ay rfl ?_
  apply qR (enc:=lQ) (nm:=(·.1)) kO (by omega) a λj=> ?_
  refine fA (xs:=vs.map D.int) (by rw[lQm];omega) (by rw[lQm];omega) (bf λ_ _=>rfl) rfl ?_
  symm
  rw[←map_set]
  rw[show D.tup ((vs.set ((qD (.str x) ((ts.map (·.1)).map V.str)).getD 0) v).map D.int)=dr (eF (ts.map (·.1)) vs x v) from rfl]
  generalize eF (ts.map (·.1)) vs x v=nv at q⊢
  have b:h<s.af.length:=(gQs.mp hs).1
  have m:s.af.length<=900:=by omega
  have l:Op (settle S ({s with af:=s.af.set h (nv,fs)}:bE).d S) λp=>Q p.1 p.2:=cV (bq _) (bE.low _) q
  exact iI b m l
end
section
variable{S:aE}{Q:Res->aE->Prop}
def fB(ns:List Str)(x:Str):Nat:=(qD (.str x) (ns.map V.str)).getD 0
def jd{ns:List Str}{x:Str}(h:x∈ns):fB ns x<ns.length/\ns[fB ns x]?=some x:=by
 obtain⟨j,b,a⟩:=uF h
 unfold fB
 rw[b]
 exact⟨(gQs.mp a).1,a⟩
def rQ{α:Type}{enc:α->D}{nm:α->Str}{xs:List α}{x:Str}(he:∀a,∃r,enc a=.tup (.str (nm a)::r))(b:xs.length<=1000)(c:x∈xs.map nm)(q:Q (.d (.int (fB (xs.map nm) x:Nat))) S):Fn dv [.tup (xs.map enc),.str x] S Q:=qR he b c λ_=>q
def pJ{w:dz}{s:bE}{h i:Nat}{vs:List Int}{fs:List cA}{f:cA}{r:Rm}{x:Str}(hs:s.af[h]?=some (vs,fs))(b:fs.getLast? =some f)(e:f.room=i)(c:w.aj[i]?=some r)(g:r.aa.length<=100)(a:x∈r.aa.map (·.1))
  (q:Q (.d (.tup [.int i,.int (fB (r.aa.map (·.1)) x:Nat)])) S):Fn j3 [w.d,s.d,.int h,.str x] S Q:=by
 refine bZ ?_
 unfold wc
 symm
 apply cm hs b ?_
 refine ay (d:=.int f.room) rfl ?_
 rw[e]
 symm
 apply ay rfl ?_
 refine ay (d:=r.d) (aW (by rw[gQm,c];rfl)) ?_
 symm
 apply ay rfl ?_
 apply rQ (enc:=y3) (nm:=(·.1)) D9 (by omega) a ?_
 refine⟨by show 2<=_;decide,?_⟩
 exact cV (λk z=>(nomatch z)) rfl q
def kQ{s:bE}{i b:Nat}{rs:de}{l:List (Int×Int)}(a:s.aj[i]?=some rs)(m:b<rs.aa.length)(k:rs.aa.length<=100)(j:s.aj.length<=100)
  (q:Q (.d ({s with aj:=s.aj.set i {rs with aa:=rs.aa.set b l}}:bE).d) S):Fn fQ [s.d,.int i,.int b,fj l] S Q:=by
 refine bZ ?_
 unfold pw
 symm
 apply ay rfl ?_
 refine ay (d:=rs.d) (aW (by rw[gQm,a];rfl)) ?_
 symm
 apply m7 ?_
 apply dD (dF ?_)
 apply⟨_,rfl,_,rfl,?_⟩
 apply ay rfl ?_
 refine fA (xs:=rs.aa.map fj) (by rw[lQm];omega) (by rw[lQm];omega) (bf λl _=>vw l) (vw l) ?_
 symm
 refine⟨by show 1<=_;decide,?_⟩
 refine fe (by show 5<=_;decide) ?_
 symm
 rw[←map_set]
 generalize f:rs.aa.set b l=nb at q⊢
 have e:({rs with aa:=nb}:de).d=.tup (lH [dr rs.vals,.int rs.within,dr rs.row,dr rs.ag,.tup (rs.aa.map fj)] none (some 4)++ [.tup (nb.map fj)]):=rfl
 rw[←e]
 have c:i<s.aj.length:=(gQs.mp a).1
 have g:s.aj.length<=900:=by omega
 have h:Op (settle S ({s with aj:=s.aj.set i {rs with aa:=nb}}:bE).d S) λp=>Q p.1 p.2:=cV (bq _) (bE.low _) q
 exact dB c g h
def EV(p:Int×List Int)(h:Int):Int×List Int:=if 0<p.1 then(p.1-1,p.2) else(p.1,p.2++ [h])
def A8(p:Int×List Int):Int×List Int:=match p.2 with
 |_::l=>(p.1,l)
 | []=>(if 9<p.1+1 then 9 else p.1+1,[])
end
section
variable{S:aE}{Q:Res->aE->Prop}
def FV{b sd hd a:D}{s:bE}(q:Q (.d s.d) S):Fn uE [b,s.d,hd,a] S Q:=by
 refine bZ ?_
 unfold y7
 symm
 exact cV (bq _) (bE.low _) q
def GN{g:D}{s:bE}{h n:Nat}{vs:List Int}{fs:List cA}{f:cA}(a:s.af[h]?=some (vs,fs))(i:fs.getLast? =some f)(c:fs.length<=900)(b:s.af.length<=900)(q:Q (.d ({s with af:=s.af.set h (vs,fs.dropLast++ [{f with row:=n}])}:bE).d) S):Fn yL [g,s.d,.int h,(Rw.go n).d] S Q:=by
 refine bZ ?_
 unfold DY
 symm
 apply ay (d:=.int n) rfl ?_
 have e:Op (settle S ({s with af:=s.af.set h (vs,fs.dropLast++ [{f with row:=n}])}:bE).d S) λp=>Q p.1 p.2:=cV (bq _) (bE.low _) q
 exact sD a i c b e
end
section
variable{S:aE}{Q:Res->aE->Prop}
def Dl(w:dz)(s:bE)(h:Nat)(t:Tr)(v:Int):Prop:=∀(S:aE) (Q:Res->aE->Prop),Q (.d (.int v)) S->Fn dU [w.d,s.d,.int h,t.d] S Q
def Puts(w:dz)(s:bE)(h:Nat)(x:Str)(v:Int)(a:bE):Prop:=∀(S:aE) (Q:Res->aE->Prop),Q (.d a.d) S->Fn fP [w.d,s.d,.int h,.str x,.int v] S Q
def Fs{w:dz}{s a:bE}{h:Nat}{x:Str}{t:Tr}{v:Int}(c:Dl w s h t v)(b:Puts w s h x v a)(q:Q (.d a.d) S):Fn uQ [w.d,s.d,.int h,(Rw.put x t).d] S Q:=by
 refine bZ ?_
 unfold zv
 symm
 apply ay (d:=.str x) rfl ?_
 apply ay (d:=t.d) rfl ?_
 apply c _ _ ?_
 refine b _ _ ?_
 exact cV (bq _) (bE.low _) q
def zr{w:dz}{s:bE}{h n:Nat}{t:Tr}{v:Int}{vs:List Int}{fs:List cA}{f:cA}(g:Dl w s h t v)(a:s.af[h]?=some (vs,fs))(b:fs.getLast? =some f)(i:fs.length<=900)(e:s.af.length<=900)
  (q:Q (.d (if v=0 then({s with af:=s.af.set h (vs,fs.dropLast++ [{f with row:=n}])}:bE) else s).d) S):Fn lq [w.d,s.d,.int h,(Rw.unl t n).d] S Q:=by
 refine bZ ?_
 unfold oM
 symm
 apply ay (d:=t.d) rfl ?_
 apply g _ _ ?_
 refine dR ?_
 dsimp only[a7,aM,a9,bR,bU,eZ]
 by_cases c:v=0
 ·rw[Qhq c] at q
  rw[Qeq c,Qhq rfl]
  symm
  apply ay (d:=.int n) rfl ?_
  have j:Op (settle S ({s with af:=s.af.set h (vs,fs.dropLast++ [{f with row:=n}])}:bE).d S) λp=>Q p.1 p.2:=cV (bq _) (bE.low _) q
  exact sD a b i e j
 ·rw[Quq c] at q
  rw[Qdq c,Quq (by decide)]
  apply bX ?_
  exact cV (bq _) (bE.low _) q
end
section
variable{S:aE}{Q:Res->aE->Prop}
def DV{w:dz}{s:bE}{h:Nat}{t:Tr}{v:Int}{vs:List Int}{fs:List cA}{f:cA}(j:Dl w s h t v)(c:s.af[h]?=some (vs,fs))(e:fs.getLast? =some f)(k:fs.length<=900)(i:s.af.length<=900)
  (q:Q (.d ({s with af:=s.af.set h (vs,fs.dropLast++ [{f with told:=v}])}:bE).d) S):Fn qO [w.d,s.d,.int h,(Rw.tell t).d] S Q:=by
 refine bZ ?_
 unfold wJ
 symm
 apply ay (d:=t.d) rfl ?_
 apply j _ _ ?_
 apply m7 ?_
 refine cm c e ?_
 apply dD (dF ?_)
 apply⟨_,rfl,_,rfl,?_⟩
 refine⟨by show 1<=_;decide,?_⟩
 refine fe (by show 5<=_;decide) ?_
 symm
 have g:0<fs.length:=by
  cases fs with
  |nil=>cases e
  |cons a b=>simp
 have l:Op (settle S ({s with af:=s.af.set h (vs,fs.dropLast++ [{f with told:=v}])}:bE).d S) λp=>Q p.1 p.2:=cV (bq _) (bE.low _) q
 exact jc (f:={f with told:=v}) c g k i l
def F5{w:dz}{s:bE}{h i:Nat}{vs:List Int}{fs:List cA}{f:cA}{r:Rm}{rs:de}{x:Str}(hs:s.af[h]?=some (vs,fs))(m:fs.getLast? =some f)(n:f.room=i)(k:w.aj[i]?=some r)(a:s.aj[i]?=some rs)(j:r.aa.length<=100)(t:r.aa.length=rs.aa.length)(g:s.aj.length<=100)(e:x∈r.aa.map (·.1))
  (q:Q (.d ({s with aj:=s.aj.set i {rs with aa:=rs.aa.set (fB (r.aa.map (·.1)) x) []}}:bE).d) S):Fn uG [w.d,s.d,.int h,(Rw.all x).d] S Q:=by
 have c:=(jd e).1
 rw[lQm] at c
 refine bZ ?_
 unfold yB
 symm
 apply ay (d:=.str x) rfl ?_
 refine pJ hs m n k j e ?_
 refine f_ rfl (aA (aV (aA (aV (bA ?_)))))
 generalize fB (r.aa.map (·.1)) x=b at c q⊢
 symm
 apply⟨by decide,?_⟩
 have o:Op (settle S ({s with aj:=s.aj.set i {rs with aa:=rs.aa.set b []}}:bE).d S) λp=>Q p.1 p.2:=cV (bq _) (bE.low _) q
 exact kQ (l:= []) a (by omega) (by omega) g o
end
section
variable{S:aE}{Q:Res->aE->Prop}
def LV:∀a:Rm,∃r,a.d=.tup (.str a.name::r):=λa=>⟨_,rfl⟩
def GP:∀a:Str×List Rw,∃r,hX a=.tup (.str a.1::r):=λa=>⟨_,rfl⟩
def IE{w:dz}{s:bE}{h:Nat}{g:Option Str}{a c:Str}{t:Tr}{v:Int}{vs:List Int}{fs:List cA}{r:Rm}{rs:de}(n:Dl w s h t v)(hs:s.af[h]?=some (vs,fs))(j:a∈w.aj.map (·.name))(k:w.aj[fB (w.aj.map (·.name)) a]?=some r)(b:s.aj[fB (w.aj.map (·.name)) a]?=some rs)(f:c∈r.ae.map (·.1))
  (B:w.aj.length<=100) (y:r.ae.length<=100) (x:s.aj.length<=100) (o:rs.row.length<=900) (A:fs.length<=900) (z:s.af.length<=100)
  (q:Q (.d ({s with af:=s.af.set h (vs,fs++ [⟨(fB (w.aj.map (·.name)) a:Nat),(fB (r.ae.map (·.1)) c:Nat),0,v,0⟩]),aj:=s.aj.set (fB (w.aj.map (·.name)) a) (gD rs h)}:bE).d) S):Fn zI [w.d,s.d,.int h,(Rw.do_ g a c t).d] S Q:=by
 refine bZ ?_
 unfold Dg
 symm
 apply ay rfl ?_
 apply ay (d:=.str a) rfl ?_
 refine rQ (enc:=Rm.d) (nm:=(·.name)) LV (by omega) j ?_
 generalize fB (w.aj.map (·.name)) a=i at k b q⊢
 symm
 apply ay rfl ?_
 refine ay (d:=r.d) (aW (by rw[gQm,k];rfl)) ?_
 symm
 apply ay rfl ?_
 apply ay (d:=.str c) rfl ?_
 refine rQ (enc:=hX) (nm:=(·.1)) GP (by omega) f ?_
 generalize fB (r.ae.map (·.1)) c=dd at q⊢
 symm
 apply ay (d:=t.d) rfl ?_
 apply n _ _ ?_
 refine⟨by show 5<=_;decide,?_⟩
 symm
 apply ay rfl ?_
 refine ay (d:=t_ (vs,fs)) (aW (by rw[gQm,hs];rfl)) ?_
 apply f_ rfl (aA (aV (aA (aV (bA ?_)))))
 refine⟨by show 1<=_;decide,?_⟩
 refine fe (by simp only[lQm,Qnq,QGq];exact nQl (bt (by omega))) ?_
 symm
 have e:fs.map cA.d++ [D.tup [.int i,.int dd,.int 0,.int v,.int 0]]=(fs++ [(⟨i,dd,0,v,0⟩:cA)]).map cA.d:=by rw[Qzq];rfl
 rw[e]
 generalize m:fs++ [(⟨i,dd,0,v,0⟩:cA)]=nf at q⊢
 have l:h<s.af.length:=(gQs.mp hs).1
 apply iI (vs:=vs) (fs:=nf) l (by omega) ?_
 have u:Op (settle S ({s with af:=s.af.set h (vs,nf),aj:=s.aj.set i (gD rs h)}:bE).d S) λp=>Q p.1 p.2:=cV (bq _) (bE.low _) q
 exact vX (s:={s with af:=s.af.set h (vs,nf)}) b (by show s.aj.length<=900;omega) o u
end
section
variable{S:aE}{Q:Res->aE->Prop}
def mS(free:Bool)(rs:de)(b:Nat)(h:Int):de:=match rs.aa[b]? with
 |some (p::l)=>if free then{rs with aa:=rs.aa.set b l} else{rs with aa:=rs.aa.set b l,within:=p.2,ag:=rs.ag++ [h]}
 |_=>rs
def CL{w:dz}{s:bE}{h i:Nat}{vs:List Int}{fs:List cA}{f:cA}{r:Rm}{rs:de}{x:Str}(hs:s.af[h]?=some (vs,fs))(H:fs.getLast? =some f)(I:f.room=i)(v:w.aj[i]?=some r)(k:s.aj[i]?=some rs)(F:r.aa.length<=100)(J:r.aa.length=rs.aa.length)(z:s.aj.length<=100)(K:rs.ag.length<=900)(u:x∈r.aa.map (·.1))
  (q:Q (.d ({s with aj:=s.aj.set i (mS (decide (r.ah="when free")) rs (fB (r.aa.map (·.1)) x) h)}:bE).d) S):Fn qG [w.d,s.d,.int h,(Rw.call x).d] S Q:=by
 have t:=(jd u).1
 rw[lQm] at t
 have o:i<s.aj.length:=(gQs.mp k).1
 refine bZ ?_
 unfold vH
 symm
 apply ay (d:=.str x) rfl ?_
 refine pJ hs H I v F u ?_
 refine f_ rfl (aA (aV (aA (aV (bA ?_)))))
 generalize fB (r.aa.map (·.1)) x=b at t q⊢
 have y:b<rs.aa.length:=by omega
 obtain⟨m,a⟩:∃l,rs.aa[b]?=some l:=⟨_,gQe y⟩
 have g:Op (settle S ({s with aj:=s.aj.set i (mS (decide (r.ah="when free")) rs b h)}:bE).d S) λp=>Q p.1 p.2:=cV (bq _) (bE.low _) q
 unfold mS at g
 rw[a] at g
 symm
 apply ay rfl ?_
 refine ay (d:=rs.d) (aW (by rw[gQm,k];rfl)) ?_
 symm
 apply ay rfl ?_
 refine ay (d:=fj m) (aW (by rw[gQm,a];rfl)) ?_
 symm
 refine DM ?_
 cases m with
 | nil=>
   apply aK (λ_=> ?_) (λc=>by cases c)
   have e:s.aj.set i rs=s.aj:=by
     apply List.ext_getElem?
     intro j
     rw[List.getElem?_set]
     split
     · rename_i c
       subst c
       rw[k]
       first|done|simp[o]
     · rfl
   have C:({s with aj:=s.aj.set i rs}:bE)=s:=by rw[e]
   have n:Op (settle S ({s with aj:=s.aj.set i rs}:bE).d S) λp=>Q p.1 p.2:=g
   rw[C] at n
   exact n
 | cons p l=>
   apply aK (λc=>by cases c) (λ_=>bX ?_)
   apply m7 ?_
   apply dF ?_
   apply⟨_,rfl,dD ⟨_,rfl,?_⟩⟩
   have e:D.tup (lH ((p::l).map pairD) (some 1) none)=fj l:=by
     rw[show(some (1:Int))=some ((1:Nat):Int) from rfl,j2 (by simp)]
     rfl
   rw[e]
   refine kQ k y (by omega) z ?_
   dsimp only at g
   generalize G:rs.aa.set b l=nb at g⊢
   symm
   apply ay rfl ?_
   refine ay (d:=r.d) (aW (by rw[gQm,v];rfl)) ?_
   symm
   apply ay (d:=.str r.ah) rfl ?_
   refine gE ?_
   dsimp only[a7,aM,a9,bR,bU,eZ]
   by_cases c:r.ah="when free"
   · rw[Qeq c] at g⊢
     rw[Qhq rfl] at g
     rw[Qhq rfl]
     symm
     exact g
   · rw[Qdq c] at g⊢
     rw[Quq (by decide)] at g
     rw[Quq (by decide)]
     apply bX ?_
     refine ay rfl ?_
     have A:((s.aj.set i {rs with aa:=nb}).map de.d)[i]?=some ({rs with aa:=nb}:de).d:=by rw[gQm,Qyq o];rfl
     symm
     refine ay (d:=({rs with aa:=nb}:de).d) (aW A) ?_
     apply f_ rfl (aA (aV (aA (aV (aA (aV (aA (aV (aA (aV (bA ?_)))))))))))
     apply ay (d:=pairD p) Bw ?_
     apply ay (d:=.int p.2) rfl ?_
     refine⟨by show 1<=_;decide,?_⟩
     refine fe (by simp only[lQm,Qnq,QGq];exact nQl (bt (by omega))) ?_
     symm
     refine⟨by show 5<=_;decide,?_⟩
     symm
     have B:D.tup [dr rs.vals,.int p.2,dr rs.row,.tup (rs.ag.map D.int++ [.int h]),.tup (nb.map fj)]=({rs with aa:=nb,within:=p.2,ag:=rs.ag++ [(h:Int)]}:de).d:=by simp[de.d,dr]
     rw[B]
     have n:Op (settle S ({s with aj:=(s.aj.set i {rs with aa:=nb}).set i {rs with aa:=nb,within:=p.2,ag:=rs.ag++ [(h:Int)]}}:bE).d S) λp=>Q p.1 p.2:=by rw[List.set_set];exact g
     exact dB (s:={s with aj:=s.aj.set i {rs with aa:=nb}}) (by simpa using o) (by simp;omega) n
end
end W28
namespace DL
open PySem PySem.Spec L2
def nI{α:Type}{u:cB}{S:aE}{js:List (Option Nat)}{i:yh}{g:nR}{t:jL}{o:bH}{Q:List D->aE->Prop}(P:cB->Prop)(enc G:α->D)(c:α->Bool)(K:P (pQ js u)) (h:E i u S λp f=>∃xs:List α,p.1=xs.map enc/\p.2 f/\xs.length<=1000∧
   (∀x∈xs,∀a,P a->Tg g (enc x) a f λb S2=>S2=f/\P b/\E t b f λk B=>B=f/\k=c x/\(c x=true->E o b f λy w=>y=G x/\w=f))/\Q ((xs.filter c).map G) f):E (bD js i g t o) u S Q:=by
 refine jB (h.mono λp f H=> ?_)
 obtain⟨xs,z,C,W,F,q⟩:=H
 refine⟨λn a r j=>r=f/\j=((xs.take n).filter c).map G/\P a,⟨rfl,rfl,K⟩,λn a r j h=>by rw[h.1];exact C,λn d a r j s h=> ?_,λa r j h=> ?_⟩
 ·obtain⟨rfl,rfl,h3⟩:=h
  have s:p.1[n]?=some d:=s
  rw[z,gQm] at s
  obtain⟨x,l,rfl⟩:=oQm.mp s
  obtain⟨b,S2,L,rfl,h4,h5⟩:=F x (mQg l) a h3
  refine⟨b,S2,L,?_⟩
  refine h5.mono λk B v=> ?_
  obtain⟨J,I,M⟩:=v
  subst J I
  have U:=(gQs.mp l).1
  have A:((xs.take (n+1)).filter c).map G=((xs.take n).filter c).map G++if c x=true then [G x] else []:=by
   rw[QYq,l]
   cases m:c x <;>simp[m]
  by_cases m:c x=true
  ·rw[Qhq m]
   refine(M m).mono λy w v=> ?_
   obtain⟨R,N⟩:=v
   subst R N
   refine⟨?_,rfl,?_,h4⟩
   ·rw[lQm]
    have:=List.length_filter_le c (xs.take n)
    rw[Qxq] at this
    exact bt (by omega)
   ·rw[A,Qhq m]
  ·rw[Quq m]
   refine⟨rfl,?_,h4⟩
   rw[A,Quq m,List.append_nil]
 ·obtain⟨rfl,rfl,_⟩:=h
  have e:p.1.length=xs.length:=by rw[z,lQm]
  show Q (((xs.take p.1.length).filter c).map G) _
  rw[e,QEq]
  exact q
end DL
namespace W28
open PySem PySem.Spec L2 DL
section
variable{S:aE}{Q:Res->aE->Prop}
def ue(l:List (Int×Int))(t h:Int):List (Int×Int):=l.take (l.filter λp=>decide (p.1<=t)).length++ [(t,h)]++l.drop (l.filter λp=>decide (p.1<=t)).length
def DR{w:dz}{s:bE}{h i:Nat}{vs:List Int}{fs:List cA}{f:cA}{r:Rm}{rs:de}{x u:Str}{t:Tr}{v:Int}{g:List (Int×Int)}(hs:s.af[h]?=some (vs,fs))(U:fs.getLast? =some f)(X:f.room=i)(K:w.aj[i]?=some r)(m:s.aj[i]?=some rs)(N:r.aa.length<=100)(l2:r.aa.length=rs.aa.length)(M:s.aj.length<=100)(J:x∈r.aa.map (·.1))
  (A:r.aa[fB (r.aa.map (·.1)) x]?=some (x,u)) (k:rs.aa[fB (r.aa.map (·.1)) x]?=some g) (b4:g.length<=900) (H:Dl w s h t v)
  (q:Q (.d ({s with aj:=s.aj.set i (dt {rs with aa:=rs.aa.set (fB (r.aa.map (·.1)) x) (ue g (if u="turns" then v else 0) h)})}:bE).d) S):Fn qw [w.d,s.d,.int h,(Rw.wait x t).d] S Q:=by
 have C:=(jd J).1
 rw[lQm] at C
 have P:i<s.aj.length:=(gQs.mp m).1
 refine bZ ?_
 unfold wB
 symm
 apply ay (d:=.str x) rfl ?_
 refine pJ hs U X K N J ?_
 refine f_ rfl (aA (aV (aA (aV (bA ?_)))))
 generalize fB (r.aa.map (·.1)) x=b at C q A k⊢
 have Z:b<rs.aa.length:=by omega
 symm
 apply ay rfl ?_
 refine ay (d:=r.d) (aW (by rw[gQm,K];rfl)) ?_
 symm
 apply ay rfl ?_
 refine ay (d:=y3 (x,u)) (aW (by rw[gQm,A];rfl)) ?_
 symm
 apply ay (d:=.str u) rfl ?_
 refine gE ?_
 dsimp only[a7,aM,a9,bR,bU,eZ]
 have z:∀j:Int,j=(if u="turns" then v else 0)->T (aD (aS 7 (aQ fK (aQ fK (aQ fK (aQ fK (ar 1) (cF (.int 0))) (ar 4)) (cF (.int 4))) (ar 5)))
   (aD (aS 8 (gZ (ib (bD [none,none,some 6] (fM (aR (ar 7))) (lM (nG 2 (aJ (bJ 0) (aJ (bJ 1) dA)))) (aG (aQ OJ (ar 0) (ar 2))) (ar 0)))))
   (aD (aS 9 (ax fQ (aq (ar 1) (aq (ar 4) (aq (ar 5) (aq (aQ cz (aQ cz (uw (ar 7) uP (uo (ar 8))) (bg (aq (bg (aq (ar 6) (aq (ar 2) av))) av))) (uw (ar 7) (uo (ar 8)) uP)) av))))))
   (cx (ax rN (aq (ar 9) (aq (ar 4) av)))))))
   [some w.d,some s.d,some (.int h),some (Rw.wait x t).d,some (.int i),some (.int b),some (.int j),none,none,none] S (λo=>match o with
   |.nx _ y=>Op (settle S .non y) λp=>Q p.1 p.2|.rt d y=>Op (settle S d y) λp=>Q p.1 p.2|.rl l y=>Op (eJ S l y) λp=>Q p.1 p.2|_=>False):=by
  intro j I
  rw[←I] at q
  symm
  apply ay rfl ?_
  refine ay (d:=rs.d) (aW (by rw[gQm,m];rfl)) ?_
  symm
  apply ay rfl ?_
  refine ay (d:=fj g) (aW (by rw[gQm,k];rfl)) ?_
  symm
  apply nI (α:=Int×Int) (λB=>∃a b,B= [a,b,some (.int j)]) pairD (λp=>.int p.1) (λp=>decide (p.1<=j)) ⟨none,none,rfl⟩ ?_
  refine cy (ds:=g.map pairD) ?_
  refine⟨g,rfl,trivial,by omega,λp C B F=> ?_,?_⟩
  ·obtain⟨a,b,rfl⟩:=F
   refine f_ rfl (aA (aV (aA (aV (bA ?_)))))
   apply⟨rfl,⟨_,_,rfl⟩,?_⟩
   apply⟨rfl,rfl,λ_=> ?_⟩
   exact⟨rfl,rfl⟩
  have W:((g.filter λp=>decide (p.1<=j)).map λp=>D.int p.1).length=(g.filter λp=>decide (p.1<=j)).length:=lQm ..
  have G:=List.length_filter_le (λp=>decide (p.1<=j)) g
  unfold ue at q
  symm
  rw[W]
  generalize (g.filter λp=>decide (p.1<=j)).length=n at q G⊢
  apply m7 ?_
  apply dD (dF ?_)
  refine⟨_,rfl,g.map pairD,rfl,?_⟩
  rw[IJ (by rw[lQm];exact G)]
  symm
  refine⟨by show 2<=_;decide,?_⟩
  symm
  refine⟨by show 1<=_;decide,?_⟩
  refine fe (by simp only[lQm,Qxq,Qnq,QGq];exact nQl (bt (by omega))) ?_
  apply m7 ?_
  apply dF ?_
  refine⟨_,rfl,dD ⟨g.map pairD,rfl,?_⟩⟩
  rw[j2 (by rw[lQm];exact G)]
  refine fe (by simp only[lQa,lQm,Qxq,List.length_drop,Qnq,QGq];exact nQl (bt (by omega))) ?_
  symm
  have e:D.tup ((g.map pairD).take n++ [D.tup [.int j,.int h]]++(g.map pairD).drop n)=fj (g.take n++ [(j,(h:Int))]++g.drop n):=by
   simp only[fj,Qzq,List.map_take,List.map_drop]
   rfl
  rw[e]
  generalize g.take n++ [(j,(h:Int))]++g.drop n=nl at q⊢
  apply kQ m Z (by omega) M ?_
  have L:Op (settle S ({s with aj:=s.aj.set i (dt {rs with aa:=rs.aa.set b nl})}:bE).d S) λp=>Q p.1 p.2:=cV (bq _) (bE.low _) q
  generalize Y:({rs with aa:=rs.aa.set b nl}:de)=nr at L⊢
  have R:Op (settle S ({s with aj:=(s.aj.set i nr).set i (dt nr)}:bE).d S) λp=>Q p.1 p.2:=by rw[List.set_set];exact L
  exact BA (s:={s with aj:=s.aj.set i nr}) (Qyq P) (by simp;omega) R
 by_cases c:u="turns"
 ·rw[Qeq c,Qhq rfl]
  symm
  apply ay (d:=t.d) rfl ?_
  refine H _ _ ?_
  exact z v (by rw[Qhq c])
 ·rw[Qdq c,Quq (by decide)]
  refine bX ?_
  exact z 0 (by rw[Quq c])
end
end W28
namespace DL
open PySem PySem.Spec L2
section
variable{Γ:cB}{S:aE}
def PF{a:List (Str×Str)}{g:bH}{Q:D->aE->Prop}(h:E g Γ S λy b=>∃x nm,y=.str x/\a.lookup x=some nm/\Q (.fn nm) b):E (OF a g) Γ S Q:=by
 obtain⟨y,b,c,x,nm,rfl,e2,q⟩:=h
 exact⟨_,b,by unfold OF;rw[c];simp only[Qbq];rw[e2];rfl,q⟩
def KD{i:Nat}{T:List (Str×cU)}{g:ic}{x:Str}{F:cU}{Q:D->aE->Prop}(a:Γ[i]?=some (some (.fn x)))(d:T.lookup x=some F)(h:E (ax F g) Γ S Q):E (vn i T g) Γ S Q:=by
 obtain⟨y,b,c,q⟩:=h
 exact⟨_,b,by unfold vn;rw[a];show(T.lookup x).bind _=_;rw[d];exact c,q⟩
def LD{f:bH}{Q:D->aE->Prop}(h:E f Γ S λd a=>∃k,d=.bl k/\Q (.bl (!k)) a):E (Kk f) Γ S Q:=by
 obtain⟨d,a,b,k,rfl,q⟩:=h
 exact⟨_,a,by unfold Kk;rw[b];rfl,q⟩
def E2{a:Bool}{x:D}{Q:D->Prop}(q:Q (.bl (if a then !isNone x else isNone x))):Op (Be a S x .non) Q:=⟨_,rfl,q⟩
end
def xR{α:Type}{xs:List α}{a b:α}:kj (xs++ [a,b]) (-2)=some a:=by
 unfold kj C7
 rw[Quq (by omega),Qhq (by simp;omega)]
 simp only[Qbq]
 rw[show((-2:Int)+((xs++ [a,b]).length:Int)).toNat=xs.length by simp;omega]
 simp
end DL
namespace W28
open PySem PySem.Spec L2 DL
section
variable{S:aE}{Q:Res->aE->Prop}
def QK:Rw->cU
 |.put _ _=>uQ
 |.unl _ _=>lq
 |.go _=>yL
 |.do_ _ _ _ _=>zI
 |.wait _ _=>qw
 |.call _=>qG
 |.all _=>uG
 |.tell _=>qO
 |.take _=>wj
 |.give _=>vL
 |.pass _ _=>vR
 |.say _=>uE
def Rw.kind:Rw->Str
 |.put _ _=>"put"
 |.unl _ _=>"unless"
 |.go _=>"go"
 |.do_ _ _ _ _=>"do"
 |.wait _ _=>"wait"
 |.call _=>"call"
 |.all _=>"all"
 |.tell _=>"tell"
 |.take _=>"take"
 |.give _=>"give"
 |.pass _ _=>"pass"
 |.say _=>"say"
def Rw.d_kind(r:Rw):∃l,r.d=.tup (.str r.kind::l):=by cases r <;>exact⟨_,rfl⟩
def Kg(r:Rw):∃nm,nB.lookup r.kind=some nm/\v7.lookup nm=some (QK r):=by
 cases r
 ·exact⟨"by_put",rfl,rfl⟩
 ·exact⟨"by_unless",rfl,rfl⟩
 ·exact⟨"by_go",rfl,rfl⟩
 ·exact⟨"by_do",rfl,rfl⟩
 ·exact⟨"by_wait",rfl,rfl⟩
 ·exact⟨"by_call",rfl,rfl⟩
 ·exact⟨"by_all",rfl,rfl⟩
 ·exact⟨"by_tell",rfl,rfl⟩
 ·exact⟨"by_take",rfl,rfl⟩
 ·exact⟨"by_give",rfl,rfl⟩
 ·exact⟨"by_pass",rfl,rfl⟩
 ·exact⟨"by_say",rfl,rfl⟩
def Mr(w:dz)(s:bE)(h:Nat)(r:Rw)(a:bE):Prop:=∀(S:aE) (Q:Res->aE->Prop),Q (.d a.d) S->Fn (QK r) [w.d,s.d,.int h,r.d] S Q
def Cb{w:dz}{s c:bE}{h:Nat}{r:Rw}(hd:Mr w s h r c)(q:Q (.d c.d) S):Fn kf [w.d,s.d,.int h,r.d] S Q:=by
 obtain⟨b,f,e⟩:=Kg r
 obtain⟨l,a⟩:=r.d_kind
 refine bZ ?_
 unfold ya
 apply aI (cK (PF ?_))
 rw[a]
 refine ay (d:=.str r.kind) Bw ?_
 rw[←a]
 refine⟨_,b,rfl,f,?_⟩
 apply eX (KD (x:=b) rfl e ?_)
 refine hd _ _ ?_
 exact cV (bq _) (bE.low _) q
def tF{w:dz}{s n:bE}{h i:Nat}{vs:List Int}{e:List cA}{b f:cA}{rs:de}{pr:List Rw}{g:Option Str}{r p:Str}{t:Tr}(hs:s.af[h]?=some (vs,e++ [b,f]))(z:f.room=i)(m:s.aj[i]?=some rs)(u:s.aj.length<=900)(A:s.af.length<=900)
  (v:progOf w h b=some pr) (B:1<=b.row) (k:pr[(b.row-1).toNat]?=some (.do_ g r p t))
  (j:∀a:bE,a={s with aj:=s.aj.set i (dt rs),af:=s.af.set h (vs,e++ [b])}->match g with|none=>n=a|some x=>Puts w a h x f.told n)
  (q:Q (.d n.d) S):Fn jN [w.d,s.d,.int h] S Q:=by
 have y:h<s.af.length:=(gQs.mp hs).1
 refine bZ ?_
 unfold sh
 symm
 apply ay rfl ?_
 refine ay (d:=t_ (vs,e++ [b,f])) (aW (by rw[gQm,hs];rfl)) ?_
 refine f_ rfl (aA (aV (aA (aV (bA ?_)))))
 have o:(e++ [b,f]).map cA.d=e.map cA.d++ [b.d,f.d]:=by simp
 dsimp only[a7,aM,a9,bR,bU,eZ]
 rw[o]
 symm
 apply j8 ?_
 refine⟨1,rfl,?_⟩
 refine ay (d:=f.d) (wq (by simp)) ?_
 refine f_ rfl (aA (aV (aA (aV (aA (aV (aA (aV (aA (aV (bA ?_)))))))))))
 rw[z]
 symm
 apply BA m u ?_
 apply m7 ?_
 apply dD (dF (j8 ?_))
 refine⟨1,rfl,_,rfl,_,rfl,?_⟩
 rw[BW (by simp)]
 have l:D.tup ((e.map cA.d++ [b.d,f.d]).dropLast)=.tup ((e++ [b]).map cA.d):=by
  rw[show e.map cA.d++ [b.d,f.d]=(e.map cA.d++ [b.d])++ [f.d] by simp,List.dropLast_concat]
  simp
 rw[l]
 symm
 refine iI (s:={s with aj:=s.aj.set i (dt rs)}) y A ?_
 have j:=j _ rfl
 dsimp only at j⊢
 generalize ({s with aj:=s.aj.set i (dt rs),af:=s.af.set h (vs,e++ [b])}:bE)=a at j⊢
 symm
 apply j8 ?_
 refine⟨2,rfl,?_⟩
 apply ay (d:=b.d) xR ?_
 apply gV v ?_
 apply j8 ?_
 refine⟨2,rfl,?_⟩
 apply ay (d:=b.d) xR ?_
 apply ay (d:=.int b.row) rfl ?_
 refine ay (d:=(Rw.do_ g r p t).d) (iL (by omega) (by rw[gQm,k];rfl)) ?_
 symm
 apply ay (d:=HU g) rfl ?_
 refine E2 ?_
 cases g with
 | none=>
   dsimp only at j
   subst j
   apply aK (λ_=> ?_) (λc=>by cases c)
   exact cV (bq _) (bE.low _) q
 | some x=>
   apply aK (λc=>by cases c) (λ_=>bX ?_)
   apply ay (d:=.str x) rfl ?_
   refine j _ _ ?_
   exact cV (bq _) (bE.low _) q
end
section
variable{S:aE}{Q:Res->aE->Prop}
def MT(h:Nat):Option Int->D
 |none=>.non
 |some v=>.tup [.int h,.int v]
def Kr(h:Nat)(e:Option Int):cq 0 (MT h e)=true:=by cases e <;>rfl
def Kn(s:bE)(h:Nat)(e:Option Int):D:=.tup [s.d,MT h e]
def uJ(s:bE)(h:Nat)(e:Option Int):cq 0 (Kn s h e)=true:=by
 simp only[Kn,cq,cg,Kr,bE.low,Bool.and_true]
def BS(w:dz)(s:bE)(h:Nat)(a:bE)(e:Option Int):Prop:=∀(S:aE) (Q:Res->aE->Prop),Q (.d (Kn a h e)) S->Fn qF [w.d,s.d,.int h] S Q
def FF{w:dz}{s:bE}{h i:Nat}{vs:List Int}{fs:List cA}{f:cA}{rs:de}(hs:s.af[h]?=some (vs,fs))(e:fs.getLast? =some f)(g:f.room=i)(a:s.aj[i]?=some rs)(c:rs.within≠h)(b:s.aj.length<=900)(j:rs.row.length<=900):
  BS w s h {s with aj:=s.aj.set i (gD rs h)} none:=by
 intro S Q q
 refine bZ ?_
 unfold mP
 symm
 apply cm hs e ?_
 apply ay (d:=.int f.room) rfl ?_
 refine mL ?_
 dsimp only[a7,aM,a9,bR,bU,eZ]
 rw[Qdq (show¬f.room= -1 by omega),g]
 show if (true=true) then _ else _
 rw[Qhq rfl]
 symm
 apply ay rfl ?_
 refine ay (d:=rs.d) (aW (by rw[gQm,a];rfl)) ?_
 symm
 apply ay (d:=.int rs.within) rfl ?_
 refine mL ?_
 dsimp only[a7,aM,a9,bR,bU,eZ]
 rw[Qdq c]
 show if (true=true) then _ else _
 rw[Qhq rfl]
 symm
 apply vX a b j ?_
 refine⟨by show 2<=_;decide,?_⟩
 exact cV (d:=Kn _ h none) (λk z=>(nomatch z)) (uJ _ _ _) q
def Here(s:bE)(h:Nat)(f:cA):Prop:=f.room= -1\/∃(i:Nat) (a:de),f.room=i/\s.aj[i]?=some a/\a.within=h
def yc{w:dz}{s:bE}{h:Nat}{f:cA}{a b c d:Option D}{Q:Bool->aE->Prop}(k:Here s h f)(q:Q false S):E (ip (aG (aQ (du true) (ar 4) (cF (.int (-1))))) (aG (aQ (du true) (aQ fK (aQ fK (aQ fK (ar 1) (cF (.int 0))) (ar 4)) (cF (.int 1))) (ar 2)))) [some w.d,some s.d,some (.int h),some f.d,some (.int f.room),a,b,c] S Q:=by
 rcases k with e|⟨i,j,e,g,l⟩
 ·symm
  refine mL ?_
  dsimp only[a7,aM,a9,bR,bU,eZ]
  rw[Qeq e]
  show if (false=true) then _ else _
  rw[Quq (by decide)]
  exact q
 ·symm
  refine mL ?_
  dsimp only[a7,aM,a9,bR,bU,eZ]
  rw[Qdq (show¬f.room= -1 by omega),e]
  show if (true=true) then _ else _
  rw[Qhq rfl]
  symm
  apply ay rfl ?_
  refine ay (d:=j.d) (aW (by rw[gQm,g];rfl)) ?_
  symm
  apply ay (d:=.int j.within) rfl ?_
  refine mL ?_
  dsimp only[a7,aM,a9,bR,bU,eZ]
  rw[Qeq l]
  exact q
def Ck{w:dz}{s b:bE}{h:Nat}{vs:List Int}{fs:List cA}{f:cA}{pr:List Rw}(hs:s.af[h]?=some (vs,fs))(i:fs.getLast? =some f)(g:Here s h f)(e:progOf w h f=some pr)(a:f.row=pr.length)
  (he:∀(S:aE) (Q:Res->aE->Prop),Q (.d b.d) S->Fn jN [w.d,s.d,.int h] S Q):BS w s h b none:=by
 intro S Q q
 refine bZ ?_
 unfold mP
 symm
 apply cm hs i ?_
 refine ay (d:=.int f.room) rfl ?_
 refine aI (bO (yc (d:=none) g ?_))
 apply aK (λc=>by cases c) (λ_=>bX ?_)
 apply gV e ?_
 apply ay (d:=.int f.row) rfl ?_
 refine dR ?_
 dsimp only[a7,aM,a9,bR,bU,eZ]
 rw[lQm,Qeq a,Qhq rfl]
 symm
 apply he _ _ ?_
 refine⟨by show 2<=_;decide,?_⟩
 exact cV (d:=Kn _ h none) (λk z=>(nomatch z)) (uJ _ _ _) q
def Lv(w:dz)(s:bE)(h:Nat)(r:Rw)(e:Option Int):Prop:=match r with
 |.say t=>∃v,e=some v/\Dl w s h t v
 |_=>e=none
def B8{w:dz}{s j:bE}{h:Nat}{vs:List Int}{fs:List cA}{f:cA}{pr:List Rw}{r:Rw}{e:Option Int}(hs:s.af[h]?=some (vs,fs))(m:fs.getLast? =some f)(x:Here s h f)(n:progOf w h f=some pr)(u:0<=f.row)(b:pr[f.row.toNat]?=some r)(B:fs.length<=900)(A:s.af.length<=900)
  (a:Lv w s h r e) (hd:Mr w {s with af:=s.af.set h (vs,fs.dropLast++ [{f with row:=f.row+1}])} h r j):BS w s h j e:=by
 intro S Q q
 have y:=(gQs.mp b).1
 refine bZ ?_
 unfold mP
 symm
 apply cm hs m ?_
 refine ay (d:=.int f.room) rfl ?_
 refine aI (bO (yc (d:=none) x ?_))
 apply aK (λc=>by cases c) (λ_=>bX ?_)
 apply gV n ?_
 apply ay (d:=.int f.row) rfl ?_
 refine dR ?_
 dsimp only[a7,aM,a9,bR,bU,eZ]
 rw[lQm,Qdq (show¬f.row=(pr.length:Int) by omega),Quq (by decide)]
 apply bX ?_
 refine ay (d:=.int f.row) rfl ?_
 refine ay (d:=r.d) (iL u (by rw[gQm,b];rfl)) ?_
 symm
 obtain⟨l,C⟩:=r.d_kind
 have i:T (cx (bg (aq (ax kf (aq (ar 0) (aq (ax kS (aq (ar 1) (aq (ar 2) (aq (aQ cz (aQ fK (ar 3) (cF (.int 2))) (cF (.int 1))) av)))) (aq (ar 2) (aq (ar 6) av))))) (aq (ar 7) av))))
   [some w.d,some s.d,some (.int h),some f.d,some (.int f.room),some (.tup (pr.map Rw.d)),some r.d,some (MT h e)] S (λo=>match o with
   |.nx _ g=>Op (settle S .non g) λp=>Q p.1 p.2|.rt d g=>Op (settle S d g) λp=>Q p.1 p.2|.rl l g=>Op (eJ S l g) λp=>Q p.1 p.2|_=>False):=by
  symm
  apply ay (d:=.int f.row) rfl ?_
  apply sD hs m B A ?_
  apply Cb hd ?_
  refine⟨by show 2<=_;decide,?_⟩
  exact cV (d:=Kn _ h e) (λk z=>(nomatch z)) (uJ _ _ _) q
 cases r with
 | say t=>
   obtain⟨v,rfl,hv⟩:=a
   apply ay (d:=.str "say") rfl ?_
   refine gE ?_
   dsimp only[a7,aM,a9,bR,bU,eZ]
   rw[Qeq rfl,Qhq rfl]
   symm
   apply ay (d:=t.d) rfl ?_
   apply hv _ _ ?_
   refine⟨by show 2<=_;decide,?_⟩
   exact i
 | _=>
   have a:e=none:=a
   subst a
   apply ay rfl ?_
   refine gE ?_
   dsimp only[a7,aM,a9,bR,bU,eZ]
   refine aK (λc=>absurd (QZq c) (by decide +kernel)) (λ_=>bX ?_)
   exact i
end
end W28
namespace DL
open PySem PySem.Spec L2
section
variable{Γ:cB}{S:aE}
def Ir{f:bH}{g:fu}{Q:D->aE->Prop}(h:E f Γ S λx b=>∃k a,x=.ref k/\b[k]?=some (.lst a)/\E g Γ b λp S2=>∃ds,S2[k]?=some (.lst ds)/\(p.2.isL=false/\ds.length+p.1.length<=sizeLine)/\Q .non (S2.set k (.lst (ds++p.1)))):E (xY f g) Γ S Q:=by
 obtain⟨x,b,c,k,a,rfl,h1,p,S2,e2,ds,h2,h3,q⟩:=h
 exact⟨_,_,by unfold xY;rw[c];simp only[Qbq,e2,h1,h2];rw[Qhq h3],q⟩
end
def DZ{S a:aE}{k:Nat}{ds:List D}{Q:Res×aE->Prop}(c:qj S a)(e:S.length<=k)(d:a[k]?=some (.lst ds))(b:cg S.length ds=true)(q:Q (.l ds,a.take S.length)):Op (settle S (.ref k) a) Q:=by
 refine⟨_,?_,q⟩
 unfold settle
 rw[Qhq c]
 show(if k<S.length then _ else _)=_
 rw[Quq (by omega),d]
 show(if cg S.length ds=true then _ else _)=_
 rw[Qhq b]
def zG{n:Nat}(h:n<=100000):n<=sizeLine:=QAq h (by decide)
theorem fO:∀ss:List Int,qT (ss.map D.int)=some (ss.map V.int)
 | []=>rfl
 |s::ss=>by simp only[QDq,qT,xw,Qbq];rw[fO ss];rfl
def nX{x:Int}{ss:List Int}:G0 (.int x) (ss.map V.int)=decide (x∈ss):=by
 induction ss with
 |nil=>rfl
 | cons a ss d=>
   show(uU (.int a) (.int x)||G0 (.int x) (ss.map V.int))=_
   rw[d]
   simp only[uU,Qsq]
   by_cases c:a=x
   · subst c;simp
   · have b:¬x=a:=λz=>c z.symm
     simp[c,b]
end DL
namespace W28
open PySem PySem.Spec L2 DL
section
variable{S:aE}{Q:Res->aE->Prop}
def AF{S a:aE}(x:rY S a):a.take S.length=S:=by
 apply List.ext_getElem?
 intro j
 by_cases b:j<S.length
 ·rw[List.getElem?_take_of_lt b]
  exact x.eq j b
 ·rw[List.getElem?_eq_none (by rw[Qxq];omega),List.getElem?_eq_none (by omega)]
def LH{S a:aE}{ds:List D}{Q:Res->aE->Prop}(x:rY S a)(b:cg 0 ds=true)(q:Q (.l ds) S):Op (eJ S ds a) λp=>Q p.1 p.2:=
 pR ⟨x.len,λk o c e=>.inl (by rw[←x.eq k c];exact e)⟩ (AF x) (j9 b) q
def IY{S a:aE}{k:Nat}{ds:List D}{Q:Res->aE->Prop}(x:rY S a)(b:S.length<=k)(d:a[k]?=some (.lst ds))(c:cg 0 ds=true)(q:Q (.l ds) S):Op (settle S (.ref k) a) λp=>Q p.1 p.2:=
 DZ ⟨x.len,λk o b e=>.inl (by rw[←x.eq k b];exact e)⟩ b d (j9 c) (by rw[AF x];exact q)
def AE{l:List (Int×Int)}(f:l.length<=1000)(q:Q (.l ((l.map (·.2)).map D.int)) S):Fn nT [fj l] S Q:=by
 refine bZ ?_
 unfold rF
 symm
 apply iW (α:=Int×Int) (λc=>∃a b,c= [a,b]) pairD (λp=>.int p.2) ⟨none,none,rfl⟩ ?_
 refine cy (ds:=l.map pairD) ?_
 refine⟨l,rfl,trivial,f,λp g c d=> ?_,?_⟩
 ·obtain⟨a,b,rfl⟩:=d
  refine f_ rfl (aA (aV (aA (aV (bA ?_)))))
  apply⟨rfl,⟨_,_,rfl⟩,?_⟩
  exact⟨rfl,rfl⟩
 ·have e:l.map (λp=>D.int p.2)=(l.map (·.2)).map D.int:=by rw[QPq];rfl
  rw[e]
  exact G8 (bf λ_ _=>rfl) q
def ie(r:de):List Int:=r.row++r.ag++r.aa.flatMap λl=>l.map (·.2)
def held(s:bE):List Int:=s.ai.flatMap (·.2)++s.aj.flatMap ie
theorem ql{α d:Type}{f:α->List d}{n:Nat}:∀{l:List α},(∀a∈l,(f a).length<=n)->(l.flatMap f).length<=n*l.length
 | [],_=>by simp
 | a::l,h=>by
   have e:=h a (QBq ..)
   have g:=ql (f:=f) (l:=l) λb c=>h b (Qpq _ c)
   rw[QSq,lQa,Qnq,Nat.mul_add]
   omega
def rj{α b:Type}{f:α->List b}{l:List α}{n:Nat}{a:α}(h:l[n]?=some a):(l.take (n+1)).flatMap f=(l.take n).flatMap f++f a:=by
 rw[QYq,h]
 simp
def rG{s:bE}{n:Nat}(M:n<=100)(b1:s.ai.length<=100)(b2:s.aj.length<=20)(P:∀p∈s.ai,p.2.length<=n)(r1:∀r∈s.aj,r.row.length<=n/\r.ag.length<=n/\r.aa.length<=10/\∀l∈r.aa,l.length<=n)
  (q:Q (.l ((held s).map D.int)) S):Fn fo [s.d] S Q:=by
 have Z:∀o:List D,rY S (S++ [.lst o]):=λo=>rY.refl.app
 have H:∀r∈s.aj,∀j:Nat,((r.aa.take j).flatMap λl=>l.map (·.2)).length<=1000:=λr H j=>by
  obtain⟨_,_,N,R⟩:=r1 r H
  have C:=ql (f:=λl:List (Int×Int)=>l.map (·.2)) (n:=n) (l:=r.aa.take j) λl v=>by rw[lQm];exact R l (List.mem_of_mem_take v)
  have F:(r.aa.take j).length<=10:=by rw[Qxq];omega
  have X:n*(r.aa.take j).length<=100*10:=Nat.mul_le_mul M F
  omega
 have J:∀r∈s.aj,(ie r).length<=1200:=λr h=>by
  have I:=H r h r.aa.length
  obtain⟨W,N,_⟩:=r1 r h
  rw[QEq] at I
  simp only[ie,lQa]
  omega
 have B:∀j:Nat,((s.ai.take j).flatMap (·.2)).length<=10000:=λj=>by
  have C:=ql (f:=λp:Int×List Int=>p.2) (n:=n) (l:=s.ai.take j) λl v=>P l (List.mem_of_mem_take v)
  have F:(s.ai.take j).length<=100:=by rw[Qxq];omega
  have X:n*(s.ai.take j).length<=100*100:=Nat.mul_le_mul M F
  omega
 have K:∀j:Nat,((s.aj.take j).flatMap ie).length<=24000:=λj=>by
  have C:=ql (f:=ie) (n:=1200) (l:=s.aj.take j) λl v=>J l (List.mem_of_mem_take v)
  have F:(s.aj.take j).length<=20:=by rw[Qxq];omega
  omega
 refine bZ ?_
 unfold iZ
 symm
 refine⟨by decide,?_⟩
 apply aI (hV (j_ ?_))
 refine ay rfl ?_
 refine cy (ds:=s.ai.map GL) ?_
 refine⟨λj k u=>(∃a b c d e f g,k= [some s.d,some (.ref S.length),a,b,c,d,e,f,g])/\u=S++ [.lst (((s.ai.take j).flatMap (·.2)).map D.int)],⟨⟨_,_,_,_,_,_,_,rfl⟩,rfl⟩,λ_ _ _ _=>trivial,?_,?_⟩
 ·rintro j d k u t ⟨⟨a,b,c,G,e,f,g,rfl⟩,rfl⟩
  have t:(s.ai.map GL)[j]?=some d:=t
  rw[gQm] at t
  obtain⟨p,L,rfl⟩:=oQm.mp t
  refine f_ rfl (aA (aV (aA (aV (bA ?_)))))
  apply eg (Ir ?_)
  apply⟨_,_,rfl,aN,?_⟩
  refine cy (ds:=p.2.map D.int) ?_
  refine⟨_,aN,⟨rfl,?_⟩,⟨_,_,_,_,_,_,_,rfl⟩,?_⟩
  ·have:=B j
   have:=P p (mQg L)
   simp only[lQm]
   exact zG (by omega)
  ·rw[rj L,Qzq]
   simp
 rintro k u ⟨⟨a,b,c,G,e,f,g,rfl⟩,rfl⟩
 have v:(s.ai.map GL).length=s.ai.length:=lQm ..
 rw[v,QEq]
 apply aI (hV (j_ ?_))
 refine ay rfl ?_
 refine cy (ds:=s.aj.map de.d) ?_
 refine⟨λj k u=>(∃a b c d e f g,k= [some s.d,some (.ref S.length),a,b,c,d,e,f,g])/\u=S++ [.lst ((s.ai.flatMap (·.2)++(s.aj.take j).flatMap ie).map D.int)],⟨⟨_,_,_,_,_,_,_,rfl⟩,by simp⟩,λ_ _ _ _=>trivial,?_,?_⟩
 ·rintro j d k u t ⟨⟨a,b,c,G,e,f,g,rfl⟩,rfl⟩
  have t:(s.aj.map de.d)[j]?=some d:=t
  rw[gQm] at t
  obtain⟨r,A,rfl⟩:=oQm.mp t
  have w:=mQg A
  obtain⟨W,N,R,C⟩:=r1 r w
  have z:(s.ai.flatMap (·.2)++(s.aj.take j).flatMap ie).length<=34000:=by
   have:=B s.ai.length
   rw[QEq] at this
   have:=K j
   rw[lQa]
   omega
  generalize x:s.ai.flatMap (·.2)++(s.aj.take j).flatMap ie=o at z⊢
  refine f_ rfl (aA (aV (aA (aV (aA (aV (aA (aV (aA (aV (bA ?_)))))))))))
  apply aI (eg (Ir ?_))
  apply⟨_,_,rfl,aN,?_⟩
  refine fe (i:=r.row.map D.int) (j:=r.ag.map D.int) (by simp only[lQm];exact zG (by omega)) ?_
  refine cy ?_
  refine⟨_,aN,⟨rfl,?_⟩,?_⟩
  ·simp only[lQa,lQm]
   exact zG (by omega)
  dsimp only[a7,aM,a9,bR,bU,eZ]
  have U:(S++ [O.lst (o.map D.int)]).set S.length (.lst (o.map D.int++(r.row.map D.int++r.ag.map D.int)))=S++ [.lst ((o++(r.row++r.ag)).map D.int)]:=by simp
  rw[U]
  apply hV (j_ ?_)
  refine⟨λj k u=>(∃a b c d e f g,k= [some s.d,some (.ref S.length),a,b,c,d,e,f,g])/\u=S++ [.lst ((o++(r.row++r.ag)++(r.aa.take j).flatMap λl=>l.map (·.2)).map D.int)],⟨⟨_,_,_,_,_,_,_,rfl⟩,by simp⟩,λ_ _ _ _=>trivial,?_,?_⟩
  ·rintro m d k u t ⟨⟨a,b,c,G,e,f,g,rfl⟩,rfl⟩
   have t:(r.aa.map fj)[m]?=some d:=t
   rw[gQm] at t
   obtain⟨l,y,rfl⟩:=oQm.mp t
   have Y:=C l (mQg y)
   refine aV ?_
   apply eg (Ic ?_)
   apply⟨_,_,rfl,aN,?_⟩
   apply AE (by omega) ?_
   refine⟨_,aN,⟨rfl,?_⟩,⟨_,_,_,_,_,_,_,rfl⟩,?_⟩
   ·have:=H r w m
    simp only[lQa,lQm]
    exact zG (by omega)
   ·rw[rj y,←Qvq,Qzq]
    simp
  ·rintro k u ⟨I,rfl⟩
   refine⟨I,?_⟩
   have v:(r.aa.map fj).length=r.aa.length:=lQm ..
   rw[v,QEq,rj A]
   subst x
   simp only[ie,Qvq]
 ·rintro k u ⟨⟨a,b,c,G,e,f,g,rfl⟩,rfl⟩
  have v:(s.aj.map de.d).length=s.aj.length:=lQm ..
  rw[v,QEq]
  symm
  exact IY (Z _) (Qmq _) aN (bf λ_ _=>rfl) q
end
section
variable{S:aE}{Q:Res->aE->Prop}
def Bd(s:bE)(h:Nat):Option cA:=(s.af[h]?).bind λp=>p.2.getLast?
def iP(w:dz)(s:bE)(h:Nat):Bool:=match Bd s h with
 |some f=>decide (f.room= -1)&&decide (f.row=(((progOf w h f).getD []).length:Int))
 |none=>false
def sj{w:dz}{s:bE}{h:Nat}{vs:List Int}{fs:List cA}{f:cA}{pr:List Rw}(hs:s.af[h]?=some (vs,fs))(a:fs.getLast? =some f)(b:progOf w h f=some pr)(q:Q (.d (.bl (iP w s h))) S):Fn gc [w.d,s.d,.int h] S Q:=by
 have e:iP w s h=(decide (f.room= -1)&&decide (f.row=(pr.length:Int))):=by
  unfold iP Bd
  rw[hs]
  show(match fs.getLast? with|some f=>_|none=>_)=_
  rw[a]
  simp only[b,Option.getD_some]
 rw[e] at q
 refine bZ ?_
 unfold jb
 symm
 apply cm hs a ?_
 apply lW ?_
 apply ay (d:=.int f.room) rfl ?_
 refine dR ?_
 refine⟨_,rfl,?_⟩
 by_cases c:f.room= -1
 ·rw[Qeq c] at q⊢
  rw[Qhq rfl]
  symm
  apply ay (d:=.int f.row) rfl ?_
  apply gV b ?_
  refine dR ?_
  rw[lQm]
  exact cV (λk z=>(nomatch z)) rfl q
 ·rw[Qdq c] at q⊢
  rw[Quq (by decide)]
  exact cV (λk z=>(nomatch z)) rfl q
def qp(w:dz)(s:bE):List Nat:=(List.range s.af.length).filter λh=> !decide ((h:Int)∈held s)&& !iP w s h
def lX(h:Nat):D:=.int h
def Mn(w:dz)(s:bE):Prop:=∀(S:aE) (Q:Res->aE->Prop),Q (.l ((qp w s).map lX)) S->Fn nE [w.d,s.d] S Q
def B2{w:dz}{s:bE}(k:∀(S:aE) (Q:Res->aE->Prop),Q (.l ((held s).map D.int)) S->Fn fo [s.d] S Q)(j:∀h<s.af.length,∃vs fs f pr,s.af[h]?=some (vs,fs)/\fs.getLast? =some f/\progOf w h f=some pr)(p:s.af.length<=100):Mn w s:=by
 intro S Q q
 refine bZ ?_
 unfold rJ
 symm
 apply k _ _ ?_
 apply nI (α:=Nat) (λb=>∃a,b= [a,some w.d,some s.d,some (.ref S.length)]) (λ(i:Nat)=>D.int (0+(i:Int))) lX (λh=> !decide ((h:Int)∈held s)&& !iP w s h) ⟨none,rfl⟩ ?_
 apply ay rfl ?_
 refine⟨_,rfl,?_,?_⟩
 ·simp only[lQm]
  omega
 refine⟨List.range s.af.length,?_,trivial,by simp;omega,λh g b e=> ?_,?_⟩
 ·simp only[ki,lQm]
  rfl
 ·obtain⟨a,rfl⟩:=e
  obtain⟨vs,fs,f,pr,m,n,o⟩:=j h (List.mem_range.mp g)
  refine aV ⟨rfl,⟨_,rfl⟩,?_⟩
  rw[Int.zero_add]
  apply pE (cG (zp ?_))
  refine a_ (ds:=(held s).map D.int) aN ?_
  refine⟨_,_,rfl,fO _,?_⟩
  rw[nX]
  by_cases c:(h:Int)∈held s
  ·rw[Qeq c]
   refine aK (λc=>by cases c) (λ_=> ?_)
   exact⟨rfl,rfl,λc=>by cases c⟩
  ·rw[Qdq c]
   apply aK (λ_=> ?_) (λc=>by cases c)
   refine sj m n o ?_
   dsimp only[a7,aM,a9,bR,bU,eZ]
   refine rC ?_
   apply⟨rfl,rfl,λ_=> ?_⟩
   exact⟨rfl,rfl⟩
 ·refine LH (rY.refl.app) (bf λ_ _=>rfl) q
def Da{w:dz}{s b:bE}{h:Nat}{e:Option Int}(g:Mn w s)(f:h∈qp w s)(a:BS w s h b e)(q:Q (.d (Kn b h e)) S):Fn qU [w.d,s.d,.int h] S Q:=by
 refine bZ ?_
 unfold vy
 apply aI (bO (cG (zp ?_)))
 refine g _ _ ?_
 dsimp only[a7,aM,a9,bR,bU,eZ]
 have i:(qp w s).map lX=((qp w s).map λh:Nat=>(h:Int)).map D.int:=by rw[QPq];rfl
 refine⟨_,_,rfl,by rw[i];exact fO _,?_⟩
 rw[nX,Qeq (Qkq.mpr ⟨h,f,rfl⟩)]
 apply aK (λc=>by cases c) (λ_=>bX ?_)
 refine a _ _ ?_
 exact cV (λk z=>(nomatch z)) (uJ _ _ _) q
end
structure lF(n:Nat)(r:Rm)(rs:de):Prop where
 lv:r.ao.length=rs.vals.length
 lb:r.aa.length=rs.aa.length
 vv:∀v∈rs.vals,0<=v/\v<=9
 br:rs.row.length<=n
 bl:rs.ag.length<=n
 bb:∀l∈rs.aa,l.length<=n
structure Hr(w:dz)(h:Nat)(f:cA):Prop where
 pr:∃pr,progOf w h f=some pr/\0<=f.row/\f.row<=pr.length
 gv:0<=f.given/\f.given<=9
 tv:0<=f.told/\f.told<=9
def PR(w:dz)(h:Nat)(f:cA):Prop:=∃a g b c t,progOf w h f=some a/\1<=f.row/\a[(f.row-1).toNat]?=some (.do_ g b c t)
def jU:List cA->Prop
 | []=>False
 |f0::tl=>f0.room= -1/\∀f∈tl,f.room≠-1
structure jR(w:dz)(n h:Nat)(ts:List (Str×Nat))(vs:List Int)(fs:List cA):Prop where
 lv:ts.length=vs.length
 vv:∀v∈vs,0<=v/\v<=9
 lf:fs.length<=n
 fr:∀f∈fs,Hr w h f
 hd:jU fs
 ch:∀f∈fs.dropLast,PR w h f
structure dh(w:dz)(n:Nat)(s:bE):Prop where
 lr:w.aj.length=s.aj.length
 rm:∀(i:Nat) (r:Rm) (rs:de),w.aj[i]?=some r->s.aj[i]?=some rs->lF n r rs
 lp:w.ai.length=s.ai.length
 ps:∀p∈s.ai,p.2.length<=n
 ls:w.ak.length=s.ak.length
 sv:∀v∈s.ak,0<=v/\v<=9
 lh:w.af.length=s.af.length
 hd:∀(h:Nat) (ts:List (Str×Nat)) (pr:List Rw) (vs:List Int) (fs:List cA),w.af[h]?=some (ts,pr)->s.af[h]?=some (vs,fs)->jR w n h ts vs fs
def lF.mono{n m:Nat}{r:Rm}{rs:de}(h:lF n r rs)(l:n<=m):lF m r rs:=⟨h.lv,h.lb,h.vv,QAq h.br l,QAq h.bl l,λx a=>QAq (h.bb x a) l⟩
def jR.mono{w:dz}{n m h:Nat}{ts:List (Str×Nat)}{vs:List Int}{fs:List cA}(x:jR w n h ts vs fs)(l:n<=m):jR w m h ts vs fs:=⟨x.lv,x.vv,QAq x.lf l,x.fr,x.hd,x.ch⟩
def dh.mono{w:dz}{n m:Nat}{s:bE}(x:dh w n s)(l:n<=m):dh w m s:=⟨x.lr,λi r j a b=>(x.rm i r j a b).mono l,x.lp,λp g=>QAq (x.ps p g) l,x.ls,x.sv,x.lh,λh f d c e a b=>(x.hd h f d c e a b).mono l⟩
def get_set{α:Type}{l:List α}{i j:Nat}{a b:α}(h:(l.set i a)[j]?=some b):(j=i/\b=a)\/(j≠i/\l[j]?=some b):=by
 rw[List.getElem?_set] at h
 split at h
 ·rename_i c
  split at h
  ·cases h;exact .inl ⟨c.symm,rfl⟩
  ·cases h
 ·rename_i c
  exact .inr ⟨λz=>c z.symm,h⟩
def dh.room{w:dz}{n i:Nat}{s:bE}{r:Rm}{d:de}(x:dh w n s)(f:w.aj[i]?=some r)(g:lF n r d):dh w n {s with aj:=s.aj.set i d} where
 lr:=by simpa using x.lr
 rm:=λj e b a c=>by
  rcases get_set c with⟨rfl,rfl⟩|⟨_,c⟩
  ·rw[f] at a;cases a;exact g
  ·exact x.rm j e b a c
 lp:=x.lp
 ps:=x.ps
 ls:=x.ls
 sv:=x.sv
 lh:=x.lh
 hd:=x.hd
def dh.share{w:dz}{n:Nat}{s:bE}{vs:List Int}(x:dh w n s)(a:vs.length=s.ak.length)(b:∀v∈vs,0<=v/\v<=9):dh w n {s with ak:=vs}:=⟨x.lr,x.rm,x.lp,x.ps,by rw[x.ls,←a],b,x.lh,x.hd⟩
def dh.hand{w:dz}{n h:Nat}{s:bE}{ts:List (Str×Nat)}{pr:List Rw}{vs:List Int}{fs:List cA}(x:dh w n s)(i:w.af[h]?=some (ts,pr))(k:jR w n h ts vs fs):dh w n {s with af:=s.af.set h (vs,fs)} where
 lr:=x.lr
 rm:=x.rm
 lp:=x.lp
 ps:=x.ps
 ls:=x.ls
 sv:=x.sv
 lh:=by simpa using x.lh
 hd:=λj d a g f b c=>by
  rcases get_set c with⟨rfl,e⟩|⟨_,c⟩
  ·rw[i] at b;cases b;cases e;exact k
  ·exact x.hd j d a g f b c
def fN{α:Type}{l:List α}{a:α}(h:l.getLast? =some a):l=l.dropLast++ [a]:=by
 cases l with
 |nil=>cases h
 | cons x y=>
   have b:x::y≠[]:=by simp
   rw[List.getLast?_eq_some_getLast b] at h
   cases h
   exact(List.dropLast_concat_getLast b).symm
def jU.last{fs:List cA}{f f':cA}:∀{c:List cA},jU (c++ [f])->f'.room=f.room->jU (c++ [f'])
 | [],h,e=>⟨by rw[e];exact h.1,λ_ z=>by cases z⟩
 | a::l,h,e=>⟨h.1,λx b=>by
   rcases mQa.mp b with b|b
   · exact h.2 x (mQa.mpr (.inl b))
   · rw[Qfq.mp b,e];exact h.2 f (mQa.mpr (.inr (Qfq.mpr rfl)))⟩
def jU.push{f':cA}:∀{fs:List cA},jU fs->f'.room≠-1->jU (fs++ [f'])
 | [],h,_=>h.elim
 | a::l,h,e=>⟨h.1,λx b=>by
   rcases mQa.mp b with b|b
   · exact h.2 x b
   · rw[Qfq.mp b];exact e⟩
def jU.pop{c f:cA}:∀{d:List cA},jU (d++ [c,f])->jU (d++ [c])
 | [],h=>⟨h.1,λ_ z=>by cases z⟩
 | a::l,h=>⟨h.1,λx b=>h.2 x (by
   rcases mQa.mp b with b|b
   · exact mQa.mpr (.inl b)
   · exact mQa.mpr (.inr (by rw[Qfq.mp b];simp)))⟩
def jU.two{f:cA}:∀{b:List cA},jU (b++ [f])->f.room≠-1->∃d c,b=d++ [c]
 | [],h,e=>absurd h.1 e
 |a::l,h,e=>⟨(a::l).dropLast,(a::l).getLast (by simp),(List.dropLast_concat_getLast (by simp)).symm⟩
section
variable{w:dz}{n h:Nat}{ts:List (Str×Nat)}{vs:List Int}{fs:List cA}{f f' f2:cA}
def jR.setLast(x:jR w n h ts vs fs)(d:fs.getLast? =some f)(e:f'.room=f.room)(i:Hr w h f'):jR w n h ts vs (fs.dropLast++ [f']):=by
 have b:=fN d
 have c:=x.hd
 rw[b] at c
 refine⟨x.lv,x.vv,?_,λg a=> ?_,jU.last (fs:=fs) c e,λg a=> ?_⟩
 ·have:=congrArg List.length b
  have:=x.lf
  simp only[lQa,Qnq,QGq] at *
  omega
 ·rcases mQa.mp a with a|a
  ·exact x.fr g (List.dropLast_subset _ a)
  ·rw[Qfq.mp a];exact i
 ·rw[List.dropLast_concat] at a
  exact x.ch g a
def jR.push(x:jR w n h ts vs fs)(b:fs.getLast? =some f)(d:PR w h f)(e:f'.room≠-1)(i:Hr w h f'):jR w (n+1) h ts vs (fs++ [f']):=by
 refine⟨x.lv,x.vv,?_,λg a=> ?_,x.hd.push e,λg a=> ?_⟩
 ·have:=x.lf
  simp only[lQa,Qnq,QGq]
  omega
 ·rcases mQa.mp a with a|a
  ·exact x.fr g a
  ·rw[Qfq.mp a];exact i
 ·rw[List.dropLast_concat,fN b] at a
  rcases mQa.mp a with a|a
  ·exact x.ch g a
  ·rw[Qfq.mp a];exact d
def jR.pop{b:List cA}(x:jR w n h ts vs (b++ [f2,f])):jR w n h ts vs (b++ [f2])/\PR w h f2:=by
 have e:(b++ [f2,f]).dropLast=b++ [f2]:=by rw[show b++ [f2,f]=(b++ [f2])++ [f] by simp,List.dropLast_concat]
 have c:=x.ch
 rw[e] at c
 refine⟨⟨x.lv,x.vv,?_,λg a=>x.fr g ?_,x.hd.pop,λg a=>c g ?_⟩,c f2 (by simp)⟩
 ·have:=x.lf
  simp only[lQa,Qnq,QGq] at *
  omega
 ·rcases mQa.mp a with a|a
  ·exact mQa.mpr (.inl a)
  ·exact mQa.mpr (.inr (by rw[Qfq.mp a];simp))
 ·rw[List.dropLast_concat] at a
  exact mQa.mpr (.inl a)
def jR.vals{a:List Int}(x:jR w n h ts vs fs)(b:a.length=vs.length)(c:∀v∈a,0<=v/\v<=9):jR w n h ts a fs:=⟨by rw[x.lv,b],c,x.lf,x.fr,x.hd,x.ch⟩
def jR.last(x:jR w n h ts vs fs):∃f,fs.getLast? =some f/\Hr w h f:=by
 have:=x.hd
 cases fs with
 |nil=>exact this.elim
 | cons a l=>
   refine⟨_,List.getLast?_eq_some_getLast (by simp),x.fr _ (List.getLast_mem (by simp))⟩
end
def i8{w:dz}{h:Nat}{f:cA}{pr:List Rw}(a:progOf w h f=some pr):(f.room= -1/\∃ts,w.af[h]?=some (ts,pr))\/∃(i j:Nat) (r:Rm) (g:Str),f.room=i/\f.deed=j/\w.aj[i]?=some r/\r.ae[j]?=some (g,pr):=by
 unfold progOf at a
 split at a
 ·rename_i c
  obtain⟨⟨ts,b⟩,d,e⟩:=oQm.mp a
  cases e
  exact .inl ⟨c,ts,d⟩
 ·split at a
  ·rename_i c
   obtain⟨r,d,e⟩:=au a
   obtain⟨⟨g,b⟩,k,l⟩:=oQm.mp e
   cases l
   exact .inr ⟨f.room.toNat,f.deed.toNat,r,g,by omega,by omega,d,k⟩
  ·cases a
def Ga{w:dz}{h i j:Nat}{f:cA}{r:Rm}{e:Str}{pr:List Rw}(a:f.room=i)(d:f.deed=j)(b:w.aj[i]?=some r)(c:r.ae[j]?=some (e,pr)):progOf w h f=some pr:=by
 unfold progOf
 rw[Quq (by omega),Qhq ⟨by omega,by omega⟩,a,d]
 show(w.aj[i]?).bind _=_
 rw[b]
 show(r.ae[j]?).map _=_
 rw[c]
 rfl
def zF(w:dz)(h:Nat)(f:cA):Option Sc:=if f.room= -1 then(w.af[h]?).map λp=>⟨true,p.1.map (·.1)++w.ak.map (·.1),p.1.map (·.1)++w.ak.map (·.1),[],aU w.aj,w.ai.map (·.1)⟩
 else(w.aj[f.room.toNat]?).map λr=>⟨false,r.ao.map (·.1)++fE,r.ao.map (·.1),r.aa.map (·.1),aU w.aj,[]⟩
def Cc{w:dz}{h:Nat}{f:cA}{pr:List Rw}(o:eY w)(e:progOf w h f=some pr):∃sc,zF w h f=some sc/\vN sc pr:=by
 unfold zF
 rcases i8 e with⟨c,g,a⟩|⟨i,j,r,l,a,k,b,d⟩
 ·rw[Qhq c,a]
  exact⟨_,rfl,(o.hd _ (mQg a)).pr⟩
 ·rw[Quq (by omega),a]
  refine⟨_,by rw[show((i:Int)).toNat=i by omega,b];rfl,((o.rm _ (mQg b)).pr _ (mQg d)).1⟩
def Fk{w:dz}(o:eY w):dh w 1 (dk w) where
 lr:=by simp[dk]
 rm:=λi r s c d=>by
  simp only[dk,gQm,c,Option.map_some,Option.some.injEq] at d
  subst d
  have g:=o.rm r (mQg c)
  refine⟨by simp[cu,bM],by simp[cu],λv b=> ?_,by simp[cu],by simp[cu],λl j=> ?_⟩
  ·simp only[cu,bM,Qkq] at b
   obtain⟨p,a,rfl⟩:=b
   have:=g.tv p a
   omega
  ·simp only[cu,Qkq] at j
   obtain⟨p,a,rfl⟩:=j
   simp
 lp:=by simp[dk]
 ps:=λp a=>by
  simp only[dk,Qkq] at a
  obtain⟨p,a,rfl⟩:=a
  simp
 ls:=by simp[dk,bM]
 sv:=λv b=>by
  simp only[dk,bM,Qkq] at b
  obtain⟨p,a,rfl⟩:=b
  have:=o.sv p a
  omega
 lh:=by simp[dk]
 hd:=λh m k q n c d=>by
  simp only[dk,gQm,c,Option.map_some,Option.some.injEq] at d
  cases d
  have g:=o.hd _ (mQg c)
  refine⟨by simp[bM],λv b=> ?_,by simp,λf e=> ?_,⟨rfl,λ_ z=>by cases z⟩,λf e=>by cases e⟩
  ·simp only[bM,Qkq] at b
   obtain⟨p,a,rfl⟩:=b
   have:=g.tv p a
   omega
  ·rw[Qfq.mp e]
   refine⟨⟨k,?_,by decide,?_⟩,by decide,by decide⟩
   ·unfold progOf
    rw[Qhq (show wX.room= -1 from rfl),c]
    rfl
   ·show(0:Int)<=_
    omega
def Eh(s:bE)(h:Nat):List Int×List cA:=(s.af[h]?).getD ([],[])
def OO(w:dz)(h:Nat):List (Str×Nat)×List Rw:=(w.af[h]?).getD ([],[])
def jM(s:bE)(h:Nat):cA:=((Eh s h).2.getLast?).getD wX
def Jb(w:dz)(i:Nat):Rm:=(w.aj[i]?).getD ⟨"","",[],[],[]⟩
def CB(s:bE)(i:Nat):de:=(s.aj[i]?).getD ⟨[],0,[],[],[]⟩
def NL(s:bE)(k:Nat):Int×List Int:=(s.ai[k]?).getD (0,[])
def Dh(s:bE)(h:Nat)(f:cA):bE:={s with af:=s.af.set h ((Eh s h).1,(Eh s h).2.dropLast++ [f])}
def d_(s:bE)(i:Nat)(r:de):bE:={s with aj:=s.aj.set i r}
def Hs(s:bE)(k:Nat)(p:Int×List Int):bE:={s with ai:=s.ai.set k p}
def cW(w:dz)(s:bE)(h:Nat)(t:Tr):Int:=
 if (jM s h).room= -1 then oa (numAt (qQ w s (OO w h).1 (Eh s h).1)) (λ_=>0) t
 else oa (numAt (iz (Jb w (jM s h).room.toNat) (CB s (jM s h).room.toNat) (jM s h).given)) (sW (Jb w (jM s h).room.toNat) (CB s (jM s h).room.toNat)) t
def mU(w:dz)(s:bE)(h:Nat)(x:Str)(v:Int):bE:=
 if (jM s h).room= -1 then mI w s h (OO w h).1 (Eh s h).1 (Eh s h).2 x v
 else d_ s (jM s h).room.toNat {CB s (jM s h).room.toNat with vals:=eF ((Jb w (jM s h).room.toNat).ao.map (·.1)) (CB s (jM s h).room.toNat).vals x v}
def A_(r:Rm)(rs:de)(b:Str)(v:Int)(h:Nat):de:=
 dt {rs with aa:=rs.aa.set (fB (r.aa.map (·.1)) b) (ue ((rs.aa[fB (r.aa.map (·.1)) b]?).getD []) (if ((r.aa[fB (r.aa.map (·.1)) b]?).getD ("","")).2="turns" then v else 0) h)}
def lO(w:dz)(s:bE)(h:Nat):Rw->bE
 |.put x t=>mU w s h x (cW w s h t)
 |.unl t n=>if cW w s h t=0 then Dh s h {jM s h with row:=n} else s
 |.go n=>Dh s h {jM s h with row:=n}
 |.do_ _ a c t=>d_ {s with af:=s.af.set h ((Eh s h).1,(Eh s h).2++ [⟨(fB (w.aj.map (·.name)) a:Nat),(fB ((Jb w (fB (w.aj.map (·.name)) a)).ae.map (·.1)) c:Nat),0,cW w s h t,0⟩])} (fB (w.aj.map (·.name)) a) (gD (CB s (fB (w.aj.map (·.name)) a)) h)
 |.wait b t=>d_ s (jM s h).room.toNat (A_ (Jb w (jM s h).room.toNat) (CB s (jM s h).room.toNat) b (cW w s h t) h)
 |.call b=>d_ s (jM s h).room.toNat (mS (decide ((Jb w (jM s h).room.toNat).ah="when free")) (CB s (jM s h).room.toNat) (fB ((Jb w (jM s h).room.toNat).aa.map (·.1)) b) h)
 |.all b=>d_ s (jM s h).room.toNat {CB s (jM s h).room.toNat with aa:=(CB s (jM s h).room.toNat).aa.set (fB ((Jb w (jM s h).room.toNat).aa.map (·.1)) b) []}
 |.tell t=>Dh s h {jM s h with told:=cW w s h t}
 |.take p=>Hs s (fB (w.ai.map (·.1)) p) (EV (NL s (fB (w.ai.map (·.1)) p)) h)
 |.give p=>Hs s (fB (w.ai.map (·.1)) p) (A8 (NL s (fB (w.ai.map (·.1)) p)))
 |.pass p q=>Hs (Hs s (fB (w.ai.map (·.1)) p) (A8 (NL s (fB (w.ai.map (·.1)) p)))) (fB (w.ai.map (·.1)) q) (EV (NL (Hs s (fB (w.ai.map (·.1)) p) (A8 (NL s (fB (w.ai.map (·.1)) p)))) (fB (w.ai.map (·.1)) q)) h)
 |.say _=>s
def lP(s:bE)(h:Nat):bE:=d_ {s with af:=s.af.set h ((Eh s h).1,(Eh s h).2.dropLast)} (jM s h).room.toNat (dt (CB s (jM s h).room.toNat))
def Iy(w:dz)(s:bE)(h:Nat):Option Rw:=(progOf w h (jM s h)).bind λa=>a[((jM s h).row-1).toNat]?
def p9(w:dz)(s:bE)(h:Nat):bE:=match Iy w (lP s h) h with
 |some (.do_ (some x) _ _ _)=>mU w (lP s h) h x (jM s h).told
 |_=>lP s h
def iy(s:bE)(h:Nat):bE:=Dh s h {jM s h with row:=(jM s h).row+1}
def CY(w:dz)(s:bE)(h:Nat):Rw->Option Int
 |.say t=>some (cW w s h t)
 |_=>none
def eP(w:dz)(s:bE)(h:Nat):bE×Option Int:=
 if (jM s h).room≠-1/\(CB s (jM s h).room.toNat).within≠h then(d_ s (jM s h).room.toNat (gD (CB s (jM s h).room.toNat) h),none)
 else match progOf w h (jM s h) with
  |none=>(s,none)
  | some a=>if (jM s h).row=a.length then(p9 w s h,none) else match a[(jM s h).row.toNat]? with
    |none=>(s,none)
    |some r=>(lO w (iy s h) h r,CY w s h r)
section
variable{w:dz}{h:Nat}{s:bE}{vs:List Int}{fs:List cA}{f:cA}
def gJ(hs:s.af[h]?=some (vs,fs)):Eh s h=(vs,fs):=by unfold Eh;rw[hs];rfl
def eI(hs:s.af[h]?=some (vs,fs))(a:fs.getLast? =some f):jM s h=f:=by unfold jM;rw[gJ hs];show(fs.getLast?).getD _=f;rw[a];rfl
def Ag{p:List (Str×Nat)×List Rw}(a:w.af[h]?=some p):OO w h=p:=by unfold OO;rw[a];rfl
def ia{i:Nat}{r:Rm}(a:w.aj[i]?=some r):Jb w i=r:=by unfold Jb;rw[a];rfl
def dP{i:Nat}{r:de}(a:s.aj[i]?=some r):CB s i=r:=by unfold CB;rw[a];rfl
def gU{g:cA}(hs:s.af[h]?=some (vs,fs)):Dh s h g={s with af:=s.af.set h (vs,fs.dropLast++ [g])}:=by unfold Dh;rw[gJ hs]
end
section
variable{w:dz}{n h:Nat}{s:bE}{vs:List Int}{fs:List cA}{f:cA}{sc:Sc}
def dh.whand(x:dh w n s)(hs:s.af[h]?=some (vs,fs)):∃ts pr,w.af[h]?=some (ts,pr)/\jR w n h ts vs fs:=by
 have a:h<w.af.length:=by rw[x.lh];exact(gQs.mp hs).1
 exact⟨_,_,gQe a,x.hd h _ _ vs fs (gQe a) hs⟩
def dh.wroom{i:Nat}{r:Rm}(x:dh w n s)(b:w.aj[i]?=some r):∃rs,s.aj[i]?=some rs/\lF n r rs:=by
 have a:i<s.aj.length:=by rw[←x.lr];exact(gQs.mp b).1
 exact⟨_,gQe a,x.rm i r _ b (gQe a)⟩
def fJ{t:Sc}(a:zF w h f=some t):(f.room= -1/\∃ts pr,w.af[h]?=some (ts,pr)/\t=⟨true,ts.map (·.1)++w.ak.map (·.1),ts.map (·.1)++w.ak.map (·.1),[],aU w.aj,w.ai.map (·.1)⟩)∨
  (f.room≠-1/\∃r,w.aj[f.room.toNat]?=some r/\t=⟨false,r.ao.map (·.1)++fE,r.ao.map (·.1),r.aa.map (·.1),aU w.aj,[]⟩):=by
 unfold zF at a
 split at a
 ·rename_i c
  obtain⟨⟨ts,pr⟩,b,d⟩:=oQm.mp a
  exact .inl ⟨c,ts,pr,b,d.symm⟩
 ·rename_i c
  obtain⟨r,b,d⟩:=oQm.mp a
  exact .inr ⟨c,r,b,d.symm⟩
def gF(x:Hr w h f)(c:f.room≠-1):f.room=(f.room.toNat:Int):=by
 obtain⟨e,a,_⟩:=x.pr
 rcases i8 a with⟨b,_⟩|⟨i,_,_,_,d,_⟩
 ·exact absurd b c
 ·omega
def kF{t:Tr}(o:eY w)(x:dh w n s)(hs:s.af[h]?=some (vs,fs))(i:fs.getLast? =some f)(v:zF w h f=some sc)(ht:EY sc t):(0<=cW w s h t/\cW w s h t<=9)/\Dl w s h t (cW w s h t):=by
 obtain⟨u,I,l,g⟩:=x.whand hs
 have G:=o.hd _ (mQg l)
 have m:=g.fr f (QcQ i)
 have H:=o.l3
 have F:=G.l1
 have A:=x.ls
 rcases fJ v with⟨c,C,B,k,rfl⟩|⟨c,r,hr,rfl⟩
 ·rw[l] at k
  cases k
  have a:jf (qQ w s u vs):=jf.merge (dW x.sv) (dW g.vv)
  have p:cW w s h t=oa (numAt (qQ w s u vs)) (λ_=>0) t:=by unfold cW;rw[eI hs i,Qhq c,Ag l,gJ hs]
  rw[p]
  refine⟨?_,λS Q q=>zu l hs i c A g.lv (by omega) (by dsimp only at F;omega) x.sv g.vv ht.1 (by have:=ht.2;omega) q⟩
  refine iJ (ws:=u.map (·.1)++w.ak.map (·.1)) (bs:= []) (λy b=> ?_) ht.1
  refine(g7 a (ff ?_)).2
  rcases mQa.mp b with b|b
  ·exact .inr (dw g.lv b)
  ·exact .inl (dw A b)
 ·obtain⟨z,e,d⟩:=x.wroom hr
  have j:=o.rm r (mQg hr)
  have K:=j.l1
  have J:=j.l2
  have a:jf (iz r z f.given):=(dW d.vv).put m.gv.1 m.gv.2
  have p:cW w s h t=oa (numAt (iz r z f.given)) (sW r z) t:=by unfold cW;rw[eI hs i,Quq c,ia hr,dP e]
  rw[p]
  refine⟨?_,λS Q q=>xk hs i (gF m c) hr e d.lv d.lb (by omega) (by omega) d.vv m.gv ht.1 (by have:=ht.2;omega) q⟩
  refine iJ (ws:=r.ao.map (·.1)++fE) (bs:=r.aa.map (·.1)) (λy b=> ?_) ht.1
  refine(g7 a (jO ?_)).2
  rcases mQa.mp b with b|b
  ·exact .inr (dw d.lv b)
  ·left
   rw[Qfq.mp b]
def oQ{ns:List Str}{y:Str}{v:Int}{a:List Int}(c:∀v∈a,0<=v/\v<=9)(d:0<=v/\v<=9):(eF ns a y v).length=a.length/\∀u∈eF ns a y v,0<=u/\u<=9:=by
 unfold eF
 refine⟨by simp,λz b=> ?_⟩
 rcases QTq b with b|rfl
 ·exact c z b
 ·exact d
def ED{y:Str}{v:Int}(o:eY w)(x:dh w n s)(hs:s.af[h]?=some (vs,fs))(e:fs.getLast? =some f)(t:zF w h f=some sc)(z:y∈sc.ps)(m:0<=v/\v<=9):Puts w s h y v (mU w s h y v)/\dh w n (mU w s h y v):=by
 obtain⟨u,K,d,k⟩:=x.whand hs
 have H:=o.hd _ (mQg d)
 have G:=k.fr f (QcQ e)
 have P:=o.l1
 have I:=o.l3
 have F:=H.l1
 have J:=o.l4
 have M:=x.lr
 have L:=x.lh
 rcases fJ t with⟨c,C,B,j,rfl⟩|⟨c,r,hr,rfl⟩
 ·rw[d] at j
  cases j
  have l:mU w s h y v=mI w s h u vs fs y v:=by unfold mU;rw[eI hs e,Qhq c,Ag d,gJ hs]
  rw[l]
  refine⟨λS Q q=>JZ d hs e c x.ls k.lv (by omega) (by dsimp only at F;omega) (by omega) z q,?_⟩
  unfold mI
  split
  ·obtain⟨i,g⟩:=oQ (ns:=w.ak.map (·.1)) (y:=y) x.sv m
   exact x.share i g
  ·obtain⟨i,g⟩:=oQ (ns:=u.map (·.1)) (y:=y) k.vv m
   exact x.hand d (k.vals i g)
 ·obtain⟨A,b,a⟩:=x.wroom hr
  have p:=o.rm r (mQg hr)
  have N:=p.l1
  have l:mU w s h y v={s with aj:=s.aj.set f.room.toNat {A with vals:=eF (r.ao.map (·.1)) A.vals y v}}:=by unfold mU;rw[eI hs e,Quq c,ia hr,dP b];rfl
  rw[l]
  refine⟨λS Q q=>HK hs e (gF G c) hr b a.lv (by omega) (by omega) z q,?_⟩
  obtain⟨i,g⟩:=oQ (ns:=r.ao.map (·.1)) (y:=y) a.vv m
  exact x.room hr ⟨by rw[a.lv,←i],a.lb,g,a.br,a.bl,a.bb⟩
def dh.goes{m:Int}{pr:List Rw}(x:dh w n s)(hs:s.af[h]?=some (vs,fs))(b:fs.getLast? =some f)(i:progOf w h f=some pr)(j:0<=m)(e:m<=pr.length):dh w n {s with af:=s.af.set h (vs,fs.dropLast++ [{f with row:=m}])}:=by
 obtain⟨k,d,g,c⟩:=x.whand hs
 have a:=c.fr f (QcQ b)
 exact x.hand g (c.setLast b rfl ⟨⟨pr,i,j,e⟩,a.gv,a.tv⟩)
def dh.tells{v:Int}(x:dh w n s)(hs:s.af[h]?=some (vs,fs))(b:fs.getLast? =some f)(e:0<=v/\v<=9):dh w n {s with af:=s.af.set h (vs,fs.dropLast++ [{f with told:=v}])}:=by
 obtain⟨i,d,g,c⟩:=x.whand hs
 have a:=c.fr f (QcQ b)
 exact x.hand g (c.setLast b rfl ⟨a.pr,a.gv,e⟩)
def lF.come{r:Rm}{rs:de}{k:Int}(x:lF n r rs):lF (n+1) r (gD rs k):=by
 unfold gD
 have:=x.br
 split
 ·exact⟨x.lv,x.lb,x.vv,by show rs.row.length<=_;omega,Nat.le_succ_of_le x.bl,λl a=>Nat.le_succ_of_le (x.bb l a)⟩
 ·exact⟨x.lv,x.lb,x.vv,by simp;omega,Nat.le_succ_of_le x.bl,λl a=>Nat.le_succ_of_le (x.bb l a)⟩
def lF.leave{r:Rm}{rs:de}(x:lF n r rs):lF n r (dt rs):=by
 obtain⟨e,b,c,i,j⟩:=rs
 have d:=x.br
 have g:=x.bl
 unfold dt
 dsimp only at d g⊢
 cases i with
 |cons a l=>exact⟨x.lv,x.lb,x.vv,x.br,by simp at g;show l.length<=n;omega,x.bb⟩
 | nil=>
   cases c with
   |cons a l=>exact⟨x.lv,x.lb,x.vv,by simp at d;show l.length<=n;omega,x.bl,x.bb⟩
   |nil=>exact⟨x.lv,x.lb,x.vv,x.br,x.bl,x.bb⟩
def lF.line{r:Rm}{rs:de}{b:Nat}{l:List (Int×Int)}(x:lF n r rs)(c:l.length<=n):lF n r {rs with aa:=rs.aa.set b l}:=⟨x.lv,by simp;exact x.lb,x.vv,x.br,x.bl,λk a=>by
 rcases QTq a with a|rfl
 ·exact x.bb k a
 ·exact c⟩
def lF.call{r:Rm}{rs:de}{b:Nat}{k:Int}{c:Bool}(x:lF n r rs):lF (n+1) r (mS c rs b k):=by
 unfold mS
 split
 ·rename_i p l e
  have a:=x.bb _ (mQg e)
  have y:=(x.mono (Nat.le_succ n)).line (b:=b) (l:=l) (by simp at a;omega)
  have z:=x.bl
  split
  ·exact y
  ·exact⟨y.lv,y.lb,y.vv,y.br,by simp;omega,y.bb⟩
 ·exact x.mono (Nat.le_succ n)
def ID{l:List (Int×Int)}{a b:Int}:(ue l a b).length=l.length+1:=by
 unfold ue
 have:=List.length_filter_le (λp:Int×Int=>decide (p.1<=a)) l
 simp only[lQa,Qxq,List.length_drop,Qnq,QGq]
 omega
def Eu{a j:Str}(o:eY w)(d:(a,j)∈aU w.aj):a∈w.aj.map (·.name)/\∃r,w.aj[fB (w.aj.map (·.name)) a]?=some r/\j∈r.ae.map (·.1):=by
 unfold aU at d
 obtain⟨r,g,m⟩:=QOq.mp d
 obtain⟨p,l,e⟩:=Qkq.mp m
 cases e
 have b:r.name∈w.aj.map (·.name):=Qkq.mpr ⟨r,g,rfl⟩
 refine⟨b,r,?_,Qkq.mpr ⟨p,l,rfl⟩⟩
 obtain⟨t,k⟩:=jd b
 obtain⟨i,c,e⟩:=QbQ g
 have q:(w.aj.map (·.name))[i]?=some r.name:=by rw[gQm,gQe c,e];rfl
 rw[nj o.nd k q,gQe c,e]
def rp{w:dz}(o:eY w){y:Str}(b:y∈w.ai.map (·.1)):False:=by
 have a:=List.length_pos_of_mem b
 rw[lQm] at a
 have d:=o.pz
 have c:Jp=0:=rfl
 omega
def E6{r:Rw}{pr:List Rw}(o:eY w)(x:dh w n s)(hn:n<=100)(hs:s.af[h]?=some (vs,fs))(A:fs.getLast? =some f)(X:progOf w h f=some pr)(h1:1<=f.row)(N:pr[(f.row-1).toNat]?=some r):Mr w s h r (lO w s h r)/\dh w (n+1) (lO w s h r):=by
 have e1:=gJ hs
 have Y:=eI hs A
 obtain⟨sc,u,a8⟩:=Cc o X
 have b:=a8 r (mQg N)
 obtain⟨ts,W,hw,hi⟩:=x.whand hs
 have fi:=hi.fr f (QcQ A)
 have b1:=o.l1
 have b2:=o.l2
 have b3:=o.l3
 have b4:=o.l4
 have lr:=x.lr
 have lp:=x.lp
 have lh:=x.lh
 have lf:=hi.lf
 have M:=x.mono (Nat.le_succ n)
 have k:sc.own=false->∃(i:Nat) (r:Rm) (F:de),f.room=i/\w.aj[i]?=some r/\s.aj[i]?=some F/\lF n r F/\xq (aU w.aj) r/\sc.bs=r.aa.map (·.1):=λho=>by
  rcases fJ u with⟨c,a3,W,a4,rfl⟩|⟨c,r,B,rfl⟩
  ·cases ho
  ·obtain⟨F,e,H⟩:=x.wroom B
   exact⟨_,r,F,gF fi c,B,e,H,o.rm r (mQg B),rfl⟩
 have G:sc.own=true->sc.ts=w.ai.map (·.1):=λho=>by
  rcases fJ u with⟨c,a3,W,a4,rfl⟩|⟨c,r,B,rfl⟩
  ·rfl
  ·cases ho
 have a5:∀y,y∈w.ai.map (·.1)->∀ps:List (Int×List Int),w.ai.length=ps.length->∃p,ps[fB (w.ai.map (·.1)) y]?=some p:=λy j ps hl=>by
  have:=(jd j).1
  rw[lQm] at this
  exact⟨_,gQe (by omega)⟩
 have b0:∀p:Int×List Int,p.2.length<=n->(EV p h).2.length<=n+1:=λp X=>by
  unfold EV
  split
  ·show p.2.length<=_;omega
  ·simp;omega
 have a6:∀p:Int×List Int,p.2.length<=n->(A8 p).2.length<=n:=λp X=>by
  obtain⟨v,l⟩:=p
  unfold A8
  cases l with
  |nil=>simp
  |cons a l=>simp at X;show l.length<=n;omega
 cases r with
 | put y t=>
   obtain⟨P,B⟩:=kF o x hs A u b.2
   obtain⟨c1,c4⟩:=ED o x hs A u b.1 P
   exact⟨λS Q q=>Fs B c1 q,c4.mono (Nat.le_succ n)⟩
 | unl t m=>
   obtain⟨P,B⟩:=kF o x hs A u b.1
   have I:lO w s h (.unl t m)=if cW w s h t=0 then{s with af:=s.af.set h (vs,fs.dropLast++ [{f with row:=m}])} else s:=by simp only[lO,Y,gU hs]
   rw[I]
   refine⟨λS Q q=>zr B hs A (by omega) (by omega) q,?_⟩
   split
   · exact M.goes hs A X (by omega) (by have:=b.2;omega)
   · exact M
 | go m=>
   have I:lO w s h (.go m)={s with af:=s.af.set h (vs,fs.dropLast++ [{f with row:=m}])}:=by simp only[lO,Y,gU hs]
   rw[I]
   exact⟨λS Q q=>GN hs A (by omega) (by omega) q,M.goes hs A X (by omega) (by have:m<=pr.length:=b;omega)⟩
 | do_ g L U t=>
   obtain⟨P,B⟩:=kF o x hs A u b.2.2
   have ev:lO w s h (.do_ g L U t)=lO w s h (.do_ g L U t):=rfl
   generalize c3:cW w s h t=v at P B
   have c2:sc.gs=aU w.aj:=by
     rcases fJ u with⟨c,a3,W,a4,rfl⟩|⟨c,r,B,rfl⟩ <;>rfl
   have a1:=b.2.1
   rw[c2] at a1
   obtain⟨c0,r,d,a2⟩:=Eu o a1
   obtain⟨F,e,H⟩:=x.wroom d
   have C:=o.rm r (mQg d)
   have b5:=C.l3
   have b6:=H.br
   have I:lO w s h (.do_ g L U t)={s with af:=s.af.set h (vs,fs++ [⟨(fB (w.aj.map (·.name)) L:Nat),(fB (r.ae.map (·.1)) U:Nat),0,v,0⟩]),aj:=s.aj.set (fB (w.aj.map (·.name)) L) (gD F h)}:=by simp only[lO,e1,ia d,dP e,c3,d_]
   rw[I]
   refine⟨λS Q q=>IE B hs c0 d e a2 (by omega) (by omega) (by omega) (by omega) (by omega) (by omega) q,?_⟩
   have b8:=jd a2
   have a0:=b8.1
   rw[lQm] at a0
   obtain⟨⟨c5,Z⟩,b9⟩:∃p,r.ae[fB (r.ae.map (·.1)) U]?=some p:=⟨_,gQe a0⟩
   have pf:progOf w h ⟨(fB (w.aj.map (·.name)) L:Nat),(fB (r.ae.map (·.1)) U:Nat),0,v,0⟩=some Z:=Ga rfl rfl d b9
   have hh:=hi.push (f':=⟨(fB (w.aj.map (·.name)) L:Nat),(fB (r.ae.map (·.1)) U:Nat),0,v,0⟩) A ⟨pr,g,L,U,t,X,h1,N⟩ (by show((fB (w.aj.map (·.name)) L:Nat):Int)≠-1;omega) ⟨⟨Z,pf,by show(0:Int)<=0;omega,by show(0:Int)<=_;omega⟩,P,by show(0:Int)<=0/\(0:Int)<=9;omega⟩
   exact(M.hand hw hh).room d H.come
 | wait y t=>
   obtain⟨i,r,F,K,d,e,H,C,J⟩:=k b.1
   obtain⟨P,B⟩:=kF o x hs A u b.2.2
   have j:=b.2.1
   rw[J] at j
   have b6:=C.l2
   have lb:=H.lb
   obtain⟨k1,k2⟩:=jd j
   rw[lQm] at k1
   rw[gQm] at k2
   obtain⟨⟨y',so⟩,k3,k4⟩:=oQm.mp k2
   have k4:y'=y:=k4
   subst k4
   obtain⟨R,hl⟩:∃l,F.aa[fB (r.aa.map (·.1)) y']?=some l:=⟨_,gQe (by omega)⟩
   have ll:=H.bb R (mQg hl)
   have ti:f.room.toNat=i:=by omega
   have I:lO w s h (.wait y' t)={s with aj:=s.aj.set i (dt {F with aa:=F.aa.set (fB (r.aa.map (·.1)) y') (ue R (if so="turns" then cW w s h t else 0) h)})}:=by simp only[lO,A_,d_,Y,ti,ia d,dP e,hl,k3,Option.getD_some]
   rw[I]
   refine⟨λS Q q=>DR hs A K d e (by omega) lb (by omega) j k3 hl (by omega) B q,?_⟩
   exact M.room d (((H.mono (Nat.le_succ n)).line (by rw[ID];omega)).leave)
 | call y=>
   obtain⟨i,r,F,K,d,e,H,C,J⟩:=k b.1
   have j:=b.2
   rw[J] at j
   have b6:=C.l2
   have b7:=H.bl
   have ti:f.room.toNat=i:=by omega
   have I:lO w s h (.call y)={s with aj:=s.aj.set i (mS (decide (r.ah="when free")) F (fB (r.aa.map (·.1)) y) h)}:=by simp only[lO,d_,Y,ti,ia d,dP e]
   rw[I]
   refine⟨λS Q q=>CL hs A K d e (by omega) H.lb (by omega) (by omega) j q,?_⟩
   exact M.room d H.call
 | all y=>
   obtain⟨i,r,F,K,d,e,H,C,J⟩:=k b.1
   have j:=b.2
   rw[J] at j
   have b6:=C.l2
   have ti:f.room.toNat=i:=by omega
   have I:lO w s h (.all y)={s with aj:=s.aj.set i {F with aa:=F.aa.set (fB (r.aa.map (·.1)) y) []}}:=by simp only[lO,d_,Y,ti,ia d,dP e]
   rw[I]
   refine⟨λS Q q=>F5 hs A K d e (by omega) H.lb (by omega) j q,?_⟩
   exact M.room d ((H.mono (Nat.le_succ n)).line (by simp))
 | tell t=>
   obtain⟨P,B⟩:=kF o x hs A u b.2
   have I:lO w s h (.tell t)={s with af:=s.af.set h (vs,fs.dropLast++ [{f with told:=cW w s h t}])}:=by simp only[lO,Y,gU hs]
   rw[I]
   exact⟨λS Q q=>DV B hs A (by omega) (by omega) q,M.tells hs A P⟩
 | take y=>
   have j:=b.2
   rw[G b.1] at j
   exact(rp o j).elim
 | give y=>
   have j:=b.2
   rw[G b.1] at j
   exact(rp o j).elim
 | pass y z=>
   have j:=b.2.1
   rw[G b.1] at j
   exact(rp o j).elim
 |say t=>exact⟨λS Q q=>FV (sd:=.non) q,M⟩
end
section
variable{w:dz}{n h:Nat}{s:bE}{vs:List Int}{fs:List cA}{f:cA}{sc:Sc}
def dh.mays(o:eY w)(x:dh w n s)(m:n<=100):Mn w s:=by
 have G:=o.l1
 have y:=o.l2
 have B:=o.l4
 have F:=x.lr
 have A:=x.lp
 have C:=x.lh
 refine B2 (λS Q q=>rG m (by omega) (by omega) x.ps (λk j=> ?_) q) (λh r=> ?_) (by omega)
 ·obtain⟨i,d,e⟩:=QbQ j
  have a:s.aj[i]?=some k:=by rw[gQe d,e]
  have g:w.aj[i]?=some (w.aj[i]'(by omega)):=gQe (by omega)
  have b:=x.rm i _ k g a
  have:=(o.rm _ (mQg g)).l2
  have:=b.lb
  exact⟨b.br,b.bl,by omega,b.bb⟩
 ·obtain⟨⟨vs,fs⟩,a⟩:∃p,s.af[h]?=some p:=⟨_,gQe r⟩
  obtain⟨v,z,g,d⟩:=x.whand a
  obtain⟨f,t,u⟩:=d.last
  obtain⟨c,l,_⟩:=u.pr
  exact⟨vs,fs,f,c,a,t,l⟩
def Kv(o:eY w)(x:dh w n s)(hn:n<=100)(hm:h∈qp w s)(hs:s.af[h]?=some (vs,fs))(l:fs.getLast? =some f):BS w s h (eP w s h).1 (eP w s h).2/\dh w (n+1) (eP w s h).1:=by
 have e1:=gJ hs
 have M:=eI hs l
 obtain⟨ts,a2,hw,hi⟩:=x.whand hs
 have fi:=hi.fr f (QcQ l)
 obtain⟨pr,d,R,a6⟩:=fi.pr
 have b1:=o.l1
 have b4:=o.l4
 have lr:=x.lr
 have lh:=x.lh
 have lf:=hi.lf
 have nb:¬(f.room= -1/\f.row=pr.length):=by
  rintro⟨c1,c2⟩
  have:=(List.mem_filter.mp hm).2
  rw[QCq] at this
  have hb:iP w s h=true:=by
   unfold iP Bd
   rw[hs]
   show(match fs.getLast? with|some f=>_|none=>_)=_
   rw[l]
   simp only[d,Option.getD_some,c1,c2,decide_true,Bool.and_true]
  rw[hb] at this
  exact absurd this.2 (by decide)
 by_cases c:f.room= -1
 ·
  have J:pr=a2:=by
   unfold progOf at d
   rw[Qhq c,hw] at d
   cases d;rfl
  subst J
  have H:f.row.toNat<pr.length:=by
   have:f.row≠pr.length:=λz=>nb ⟨c,z⟩
   omega
  have a:pr[f.row.toNat]?=some (pr[f.row.toNat]):=gQe H
  generalize pr[f.row.toNat]=r at a
  obtain⟨sc,I,F⟩:=Cc o d
  have k:=F r (mQg a)
  have P:Lv w s h r (CY w s h r):=by
   cases r with
   |say t=>exact⟨_,rfl,(kF o x hs l I k.2).2⟩
   |_=>rfl
  have C:eP w s h=(lO w {s with af:=s.af.set h (vs,fs.dropLast++ [{f with row:=f.row+1}])} h r,CY w s h r):=by
   unfold eP iy
   rw[M,Quq (λz=>z.1 c),d]
   simp only
   rw[Quq (λz=>nb ⟨c,z⟩),a,gU hs]
  rw[C]
  have L:=x.goes hs l d (m:=f.row+1) (by omega) (by omega)
  have N:h<s.af.length:=(gQs.mp hs).1
  obtain⟨K,u⟩:=E6 (f:={f with row:=f.row+1}) (r:=r) (pr:=pr) o L hn (Qyq N) (by simp) d (by show 1<=f.row+1;omega) (by show pr[(f.row+1-1).toNat]?=_;rw[show f.row+1-1=f.row by omega];exact a)
  exact⟨B8 hs l (.inl c) d R a (by omega) (by omega) P K,u⟩
 ·
  rcases i8 d with⟨c',_⟩|⟨i,j,r,dn,h1,h2,Y,h4⟩
  ·exact absurd c' c
  obtain⟨G,b,ri⟩:=x.wroom Y
  have br:=ri.br
  have ti:f.room.toNat=i:=by omega
  by_cases U:G.within=h
  ·have p:Here s h f:=.inr ⟨i,G,h1,b,U⟩
   by_cases Z:f.row=pr.length
   ·
    have W:=fN l
    have K:=hi.hd
    rw[W] at K
    obtain⟨B,A,hg⟩:=K.two c
    have a4:fs=B++ [A,f]:=by rw[W,hg];simp
    subst a4
    obtain⟨a3,a0⟩:=hi.pop
    obtain⟨a5,g,rn,a1,t,p1,p2,X⟩:=a0
    have eo:lP s h={s with aj:=s.aj.set i (dt G),af:=s.af.set h (vs,B++ [A])}:=by
     unfold lP
     rw[M,e1,ti,dP b]
     simp only[d_]
     rw[show B++ [A,f]=(B++ [A])++ [f] by simp,List.dropLast_concat]
    have ho:(lP s h).af[h]?=some (vs,B++ [A]):=by rw[eo];exact Qyq (gQs.mp hs).1
    have eb:Iy w (lP s h) h=some (.do_ g rn a1 t):=by
     unfold Iy
     rw[eI ho (f:=A) (by simp),p1]
     exact X
    have C:eP w s h=(p9 w s h,none):=by
     unfold eP
     rw[M,ti,dP b,Quq (λz=>z.2 U),d]
     simp only
     rw[Qhq Z]
    have L:dh w n {s with aj:=s.aj.set i (dt G),af:=s.af.set h (vs,B++ [A])}:=(x.hand hw a3).room Y ri.leave
    obtain⟨sc,I,F⟩:=Cc o p1
    have k:=F _ (mQg X)
    have N:h<s.af.length:=(gQs.mp hs).1
    cases g with
    | none=>
      have ee:p9 w s h={s with aj:=s.aj.set i (dt G),af:=s.af.set h (vs,B++ [A])}:=by unfold p9;rw[eb];exact eo
      rw[C,ee]
      exact⟨Ck hs l p d Z λS Q q=>tF hs h1 b (by omega) (by omega) p1 p2 X (λ_ e=>e.symm) q,L.mono (Nat.le_succ n)⟩
    | some y=>
      obtain⟨J,u⟩:=ED (y:=y) (v:=f.told) o L (Qyq N) (by simp) I (k.1 y rfl) fi.tv
      have ee:p9 w s h=mU w {s with aj:=s.aj.set i (dt G),af:=s.af.set h (vs,B++ [A])} h y f.told:=by unfold p9;rw[eb,eo,M]
      rw[C,ee]
      exact⟨Ck hs l p d Z λS Q q=>tF hs h1 b (by omega) (by omega) p1 p2 X (λ_ e=>by rw[e];exact J) q,u.mono (Nat.le_succ n)⟩
   ·
    have H:f.row.toNat<pr.length:=by omega
    have a:pr[f.row.toNat]?=some (pr[f.row.toNat]):=gQe H
    generalize pr[f.row.toNat]=r' at a
    have k:=((o.rm _ (mQg Y)).pr _ (mQg h4)).1 r' (mQg a)
    have he:Lv w s h r' none:=by
     cases r' with
     |say t=>exact absurd k.1 (show¬(false=true) by decide)
     |_=>rfl
    have L:=x.goes hs l d (m:=f.row+1) (by omega) (by omega)
    have N:h<s.af.length:=(gQs.mp hs).1
    have C:eP w s h=(lO w {s with af:=s.af.set h (vs,fs.dropLast++ [{f with row:=f.row+1}])} h r',none):=by
     unfold eP iy
     rw[M,ti,dP b,Quq (λz=>z.2 U),d]
     simp only
     rw[Quq Z,a,gU hs]
     refine congrArg (Prod.mk _) ?_
     cases r' with
     |say t=>exact absurd k.1 (show¬(false=true) by decide)
     |_=>rfl
    rw[C]
    obtain⟨K,u⟩:=E6 (f:={f with row:=f.row+1}) (r:=r') (pr:=pr) o L hn (Qyq N) (by simp) d (by show 1<=f.row+1;omega) (by show pr[(f.row+1-1).toNat]?=_;rw[show f.row+1-1=f.row by omega];exact a)
    exact⟨B8 hs l p d R a (by omega) (by omega) he K,u⟩
  ·
   have C:eP w s h=({s with aj:=s.aj.set i (gD G h)},none):=by
    unfold eP
    rw[M,ti,dP b,Qhq ⟨c,U⟩]
    rfl
   rw[C]
   exact⟨FF hs l h1 b U (by omega) (by omega),(x.mono (Nat.le_succ n)).room Y ri.come⟩
end
abbrev Cell:=Nat×O
def xt(S:aE)(L:List Cell):Prop:=∀p∈L,S[p.1]?=some p.2
def yu{L:List Cell}(nd:(L.map (·.1)).Nodup):∀{p q:Cell},p∈L->q∈L->p.1=q.1->p=q:=by
 induction L with
 |nil=>intro p q h;cases h
 | cons a L g=>
   rw[QDq,List.nodup_cons] at nd
   intro p q d f e
   rcases Qsq.mp d with b|b <;>rcases Qsq.mp f with c|c
   · rw[b,c]
   · exact absurd (Qkq.mpr ⟨q,c,by rw[←e,b]⟩) nd.1
   · exact absurd (Qkq.mpr ⟨p,b,by rw[e,c]⟩) nd.1
   · exact g nd.2 b c e
def xt.set{S:aE}{L a:List Cell}{b:Nat}{o:O}(H:xt S L)(nd:(a.map (·.1)).Nodup)(g:(b,o)∈a)(hs:∀p∈a,p.1≠b->p∈L)(f:b<S.length):xt (S.set b o) a:=λp d=>by
 by_cases c:p.1=b
 ·have e:=yu nd d g c
  rw[e]
  exact Qyq f
 ·rw[QKq (Ne.symm c)]
  exact H p (hs p d c)
def cP(l:List Int):O:=.lst (l.map D.int)
structure FO where
 a:Nat
 v:Nat
 r:Nat
 l:Nat
 b:Nat
 bs:List Nat
structure Cz where
 a:Nat
 v:Nat
 f:Nat
 fs:List Nat
structure GB where
 a:Nat
 r:Nat
structure yY where
 k:Nat
 r:Nat
 p:Nat
 s:Nat
 h:Nat
 rs:List FO
 ps:List GB
 hs:List Cz
def qW(f:cA):O:=.lst [.int f.room,.int f.deed,.int f.row,.int f.given,.int f.told]
def BU(l:List (Int×Int)):O:=.lst (l.map pairD)
def BQ(t:FO)(r:de):List Cell:= [(t.a,.lst [.ref t.v,.int r.within,.ref t.r,.ref t.l,.ref t.b]),(t.v,cP r.vals),(t.r,cP r.row),(t.l,cP r.ag),(t.b,.lst (t.bs.map D.ref))]++(t.bs.zip r.aa).map λp=>(p.1,BU p.2)
def wQ(t:Cz)(h:List Int×List cA):List Cell:= [(t.a,.lst [.ref t.v,.ref t.f]),(t.v,cP h.1),(t.f,.lst (t.fs.map D.ref))]++(t.fs.zip h.2).map λp=>(p.1,qW p.2)
def KG(t:GB)(p:Int×List Int):List Cell:= [(t.a,.lst [.int p.1,.ref t.r]),(t.r,cP p.2)]
def EO(t:yY)(s:bE):List Cell:= [(t.k,.lst [.ref t.r,.ref t.p,.ref t.s,.ref t.h]),(t.r,.lst (t.rs.map λx=>.ref x.a)),(t.p,.lst (t.ps.map λx=>.ref x.a)),(t.s,cP s.ak),(t.h,.lst (t.hs.map λx=>.ref x.a))]++
 ((t.rs.zip s.aj).flatMap (λp=>BQ p.1 p.2)++((t.ps.zip s.ai).flatMap (λp=>KG p.1 p.2)++(t.hs.zip s.af).flatMap λp=>wQ p.1 p.2))
def Cy(t:FO):List Nat:= [t.a,t.v,t.r,t.l,t.b]++t.bs
def Bb(t:Cz):List Nat:= [t.a,t.v,t.f]++t.fs
def Je(t:GB):List Nat:= [t.a,t.r]
def zk(t:yY):List Nat:= [t.k,t.r,t.p,t.s,t.h]++(t.rs.flatMap Cy++(t.ps.flatMap Je++t.hs.flatMap Bb))
theorem zN{α a:Type}:∀(xs:List α) (ys:List a),((xs.zip ys).map (·.1)).Sublist xs
 | [],_=>by simp
 |_::_,[]=>by simp
 |x::xs,y::ys=>by simpa using (zN xs ys)
theorem lS{α a:Type}{f:α×a->List Cell}{g:α->List Nat}(h:∀p,((f p).map (·.1)).Sublist (g p.1)):∀(xs:List α) (ys:List a),(((xs.zip ys).flatMap f).map (·.1)).Sublist (xs.flatMap g)
 | [],_=>by simp
 |_::_,[]=>by simp
 | x::xs,y::ys=>by
   rw[List.zip_cons_cons,QSq,QSq,Qzq]
   exact(h (x,y)).append (lS h xs ys)
def CS(p:FO×de):((BQ p.1 p.2).map (·.1)).Sublist (Cy p.1):=by
 unfold BQ Cy
 rw[Qzq,QPq]
 exact(QjQ _).append (zN _ _)
def DX(p:Cz×(List Int×List cA)):((wQ p.1 p.2).map (·.1)).Sublist (Bb p.1):=by
 unfold wQ Bb
 rw[Qzq,QPq]
 exact(QjQ _).append (zN _ _)
def LK(p:GB×(Int×List Int)):((KG p.1 p.2).map (·.1)).Sublist (Je p.1):=QjQ _
def z9(t:yY)(s:bE):((EO t s).map (·.1)).Sublist (zk t):=by
 unfold EO zk
 rw[Qzq,Qzq,Qzq]
 exact(QjQ _).append ((lS CS _ _).append ((lS LK _ _).append (lS DX _ _)))
structure Nw(lo:Nat)(S:aE)(t:yY)(s:bE):Prop where
 ho:xt S (EO t s)
 nd:(zk t).Nodup
 lo:∀a∈zk t,lo<=a
 lr:t.rs.length=s.aj.length
 lp:t.ps.length=s.ai.length
 lh:t.hs.length=s.af.length
 lb:∀p∈t.rs.zip s.aj,p.1.bs.length=p.2.aa.length
 lf:∀p∈t.hs.zip s.af,p.1.fs.length=p.2.2.length
theorem cJ{α a:Type}:∀{xs:List α} {ys:List a} {i:Nat} {x:α} {y:a},xs[i]?=some x->ys[i]?=some y->(x,y)∈xs.zip ys
 | [],_,_,_,_,h,_=>by simp at h
 |_::_,[],_,_,_,_,h=>by simp at h
 |_::_,_::_,0,_,_,h1,h2=>by simp at h1 h2;subst h1 h2;simp
 | _::xs,_::ys,i+1,x,y,h1,h2=>by
   have:=cJ (xs:=xs) (ys:=ys) (i:=i) (x:=x) (y:=y) (by simpa using h1) (by simpa using h2)
   simp[this]
theorem jD{α a:Type}:∀{xs:List α} {ys:List a} {p:α×a},p∈xs.zip ys->∃i:Nat,xs[i]?=some p.1/\ys[i]?=some p.2
 | [],_,_,h=>by cases h
 |_::_,[],_,h=>by cases h
 | x::xs,y::ys,p,h=>by
   rcases Qsq.mp h with rfl|h
   · exact⟨0,rfl,rfl⟩
   · obtain⟨i,b,c⟩:=jD h
     exact⟨i+1,by simpa using b,by simpa using c⟩
def yy{α c:Type}{xs:List α}{ys:List c}{i:Nat}{x x':α}{y d:c}(k:xs[i]?=some x)(l:ys[i]?=some y){p:α×c}(f:p∈(xs.set i x').zip (ys.set i d)):p=(x',d)\/p∈xs.zip ys:=by
 obtain⟨j,b,a⟩:=jD f
 rcases get_set b with⟨rfl,e1⟩|⟨n1,b⟩
 ·rcases get_set a with⟨_,g⟩|⟨h,_⟩
  ·exact .inl (Prod.ext e1 g)
  ·exact absurd rfl h
 ·rcases get_set a with⟨e,_⟩|⟨_,a⟩
  ·exact absurd e n1
  ·exact .inr (cJ b a)
def rh{α:Type}{xs:List α}{i:Nat}{x:α}(h:xs[i]?=some x):xs.set i x=xs:=by
 apply List.ext_getElem?
 intro j
 by_cases c:i=j
 ·subst c;rw[Qyq (gQs.mp h).1,h]
 ·rw[QKq c]
section
variable{lo:Nat}{S:aE}{t:yY}{s:bE}{i b:Nat}{o:O}
def Nw.lt(N:Nw lo S t s){p:Cell}(h:p∈EO t s):p.1<S.length:=(gQs.mp (N.ho p h)).1
def Nw.top(N:Nw lo S t s):S[t.k]?=some (.lst [.ref t.r,.ref t.p,.ref t.s,.ref t.h]):=N.ho (t.k,_) (by simp[EO])
def Nw.tr(N:Nw lo S t s):S[t.r]?=some (.lst (t.rs.map λx=>.ref x.a)):=N.ho (t.r,_) (by simp[EO])
def Nw.tp(N:Nw lo S t s):S[t.p]?=some (.lst (t.ps.map λx=>.ref x.a)):=N.ho (t.p,_) (by simp[EO])
def Nw.ts(N:Nw lo S t s):S[t.s]?=some (cP s.ak):=N.ho (t.s,cP s.ak) (mQa.mpr (.inl (by simp)))
def Nw.th(N:Nw lo S t s):S[t.h]?=some (.lst (t.hs.map λx=>.ref x.a)):=N.ho (t.h,_) (by simp[EO])
def lL{x:FO}{r:de}{p:Cell}(h:(x,r)∈t.rs.zip s.aj)(a:p∈BQ x r):p∈EO t s:=mQa.mpr (.inr (mQa.mpr (.inl (QOq.mpr ⟨_,h,a⟩))))
def vJ{x:GB}{r:Int×List Int}{p:Cell}(h:(x,r)∈t.ps.zip s.ai)(a:p∈KG x r):p∈EO t s:=mQa.mpr (.inr (mQa.mpr (.inr (mQa.mpr (.inl (QOq.mpr ⟨_,h,a⟩))))))
def qH{x:Cz}{r:List Int×List cA}{p:Cell}(h:(x,r)∈t.hs.zip s.af)(a:p∈wQ x r):p∈EO t s:=mQa.mpr (.inr (mQa.mpr (.inr (mQa.mpr (.inr (QOq.mpr ⟨_,h,a⟩))))))
def qL{p:Cell}(h:p∈EO t s):(p∈[(t.k,.lst [.ref t.r,.ref t.p,.ref t.s,.ref t.h]),(t.r,.lst (t.rs.map λx=>.ref x.a)),(t.p,.lst (t.ps.map λx=>.ref x.a)),(t.s,cP s.ak),(t.h,.lst (t.hs.map λx=>.ref x.a))])∨
  (∃q∈t.rs.zip s.aj,p∈BQ q.1 q.2)\/(∃q∈t.ps.zip s.ai,p∈KG q.1 q.2)\/∃q∈t.hs.zip s.af,p∈wQ q.1 q.2:=by
 rcases mQa.mp h with h|h
 ·exact .inl h
 ·rcases mQa.mp h with h|h
  ·exact .inr (.inl (QOq.mp h))
  ·rcases mQa.mp h with h|h
   ·exact .inr (.inr (.inl (QOq.mp h)))
   ·exact .inr (.inr (.inr (QOq.mp h)))
def Nw.app(N:Nw lo S t s){G:aE}:Nw lo (S++G) t s:=⟨λp a=>aO (N.ho p a),N.nd,N.lo,N.lr,N.lp,N.lh,N.lb,N.lf⟩
def Nw.room(N:Nw lo S t s){x:FO}{r r':de}(d:t.rs[i]?=some x)(k:s.aj[i]?=some r)(w:(b,o)∈BQ x r')(hs:∀p∈BQ x r',p.1≠b->p∈BQ x r)(g:r'.aa.length=r.aa.length):Nw lo (S.set b o) t (d_ s i r'):=by
 have f:=cJ d k
 have A:=(gQs.mp k).1
 have m:(x,r')∈t.rs.zip (d_ s i r').aj:=cJ d (Qyq A)
 have u:∀q∈t.rs.zip (d_ s i r').aj,q=(x,r')\/q∈t.rs.zip s.aj:=λq a=>yy (x':=x) d k (by rw[rh d];exact a)
 have y:=lL m w
 refine⟨xt.set N.ho ((z9 _ _).nodup N.nd) y (λp j z=> ?_) ?_,N.nd,N.lo,by simpa [d_] using N.lr,N.lp,N.lh,λq a=> ?_,N.lf⟩
 ·rcases qL j with h|⟨q,a,h⟩|⟨q,a,h⟩|⟨q,a,h⟩
  ·exact mQa.mpr (.inl h)
  ·rcases u q a with rfl|a
   ·exact lL f (hs p h z)
   ·exact lL a h
  ·exact vJ a h
  ·exact qH a h
 ·have:b∈(BQ x r).map (·.1):=by
   have n:b∈(BQ x r').map (·.1):=Qkq.mpr ⟨_,w,rfl⟩
   have e:(BQ x r').map (·.1)=(BQ x r).map (·.1):=by
    have v:=N.lb _ f
    have c:∀l:List (List (Int×Int)),x.bs.length=l.length->((x.bs.zip l).map λp=>((p.1,BU p.2):Cell)).map (·.1)=x.bs:=λl g=>by
     rw[QPq]
     exact List.map_fst_zip (Nat.le_of_eq g)
    unfold BQ
    rw[Qzq,Qzq,c _ v,c _ (by rw[g];exact v)]
    rfl
   rw[←e]
   exact n
  obtain⟨p,j,e⟩:=Qkq.mp this
  rw[←e]
  exact N.lt (lL f j)
 ·rcases u q a with rfl|a
  ·show x.bs.length=r'.aa.length
   rw[g]
   exact N.lb _ f
  ·exact N.lb q a
def Nw.share(N:Nw lo S t s){c:List Int}:Nw lo (S.set t.s (cP c)) t {s with ak:=c}:=by
 refine⟨xt.set N.ho ((z9 _ _).nodup N.nd) (by simp[EO]) (λp e d=> ?_) (gQs.mp N.ts).1,N.nd,N.lo,N.lr,N.lp,N.lh,N.lb,N.lf⟩
 rcases qL e with h|⟨q,a,h⟩|⟨q,a,h⟩|⟨q,a,h⟩
 ·refine mQa.mpr (.inl ?_)
  simp only[Qsq,QXq,or_false] at h⊢
  rcases h with h|h|h|h|h
  ·exact .inl h
  ·exact .inr (.inl h)
  ·exact .inr (.inr (.inl h))
  ·rw[h] at d;exact absurd rfl d
  ·exact .inr (.inr (.inr (.inr h)))
 ·exact lL a h
 ·exact vJ a h
 ·exact qH a h
def Nw.hand(N:Nw lo S t s){x x':Cz}{r r':List Int×List cA}(e:t.hs[i]?=some x)(f:s.af[i]?=some r)(u:x'.a=x.a)(C:(b,o)∈wQ x' r')(hs:∀p∈wQ x' r',p.1≠b->p∈wQ x r\/S[p.1]?=some p.2)(z:b<S.length)(A:x'.fs.length=r'.2.length)
  (nd:(zk {t with hs:=t.hs.set i x'}).Nodup) (j:∀a∈zk {t with hs:=t.hs.set i x'},lo<=a):Nw lo (S.set b o) {t with hs:=t.hs.set i x'} {s with af:=s.af.set i r'}:=by
 have y:=cJ e f
 have w:=(gQs.mp f).1
 have B:=(gQs.mp e).1
 have g:(x',r')∈(t.hs.set i x').zip (s.af.set i r'):=cJ (Qyq B) (Qyq w)
 have m:∀q∈(t.hs.set i x').zip (s.af.set i r'),q=(x',r')\/q∈t.hs.zip s.af:=λq d=>yy e f d
 have n:(b,o)∈EO {t with hs:=t.hs.set i x'} {s with af:=s.af.set i r'}:=qH g C
 have v:(t.hs.set i x').map (λx=>D.ref x.a)=t.hs.map λx=>.ref x.a:=by
  rw[List.map_set,u]
  exact rh (by rw[gQm,e];rfl)
 refine⟨λp l=> ?_,nd,j,N.lr,N.lp,by simpa using N.lh,N.lb,λq d=> ?_⟩
 ·by_cases c:p.1=b
  ·rw[yu ((z9 _ _).nodup nd) l n c]
   exact Qyq z
  ·rw[QKq (Ne.symm c)]
   rcases qL l with h|⟨q,d,h⟩|⟨q,d,h⟩|⟨q,d,h⟩
   ·refine N.ho p (mQa.mpr (.inl ?_))
    have h:p∈[(t.k,O.lst [.ref t.r,.ref t.p,.ref t.s,.ref t.h]),(t.r,.lst (t.rs.map λx=>.ref x.a)),(t.p,.lst (t.ps.map λx=>.ref x.a)),(t.s,cP s.ak),(t.h,.lst ((t.hs.set i x').map λx=>.ref x.a))]:=h
    rw[v] at h
    exact h
   ·exact N.ho p (lL d h)
   ·exact N.ho p (vJ d h)
   ·rcases m q d with rfl|d
    ·rcases hs p h c with h|h
     ·exact N.ho p (qH y h)
     ·exact h
    ·exact N.ho p (qH d h)
 ·rcases m q d with rfl|d
  ·exact A
  ·exact N.lf q d
end
end W28
namespace DL
open PySem PySem.Spec L2
section
variable{Γ:cB}{S:aE}
def M3{f:fu}{Q:D->aE->Prop}(h:E f Γ S λp a=>p.2.isL=true/\∃bs,HA p.1=some bs/\Q (.bl (bs.all id)) a):E (J4 f) Γ S Q:=by
 obtain⟨p,a,b,l,bs,c,q⟩:=h
 exact⟨_,a,by unfold J4;rw[b];simp only[Qbq];rw[Qhq l,c];rfl,q⟩
def Hv{i j:Int}{Q:D->Prop}(h:GI i j)(q:Q (.int (i^j.toNat))):Op (zt S (.int i) (.int j)) Q:=⟨_,by simp only[zt,intD];rw[Qhq h],q⟩
def My{i j:Int}{Q:D->Prop}(h:IntMulOk i j)(q:Q (.int (i*j))):Op (n0 S (.int i) (.int j)) Q:=⟨_,by simp only[n0,intD];rw[Qhq h],q⟩
end
theorem A7:∀n:Nat,HA (List.replicate n (.bl true))=some (List.replicate n true)
 |0=>rfl
 |n+1=>by simp only[QNq,HA];rw[A7 n];rfl
end DL
namespace W28
open PySem PySem.Spec L2 DL
section
variable{S S0:aE}{Q:Res->aE->Prop}
def Fw(l:List Nat):l.map lX=(l.map λh:Nat=>(h:Int)).map D.int:=by rw[QPq];rfl
def kJ{l:List Nat}:∀d∈l.map lX,(∀k,d≠.ref k)/\cq 0 d=true:=λd b=>by
 obtain⟨a,_,rfl⟩:=Qkq.mp b
 exact⟨λk z=>(nomatch z),rfl⟩
def J_{k i:Nat}{l:List Nat}{e:Int}(x:Ex k S0 S)(hi:i≠k)(t:S[i]?=some (.lst (l.map lX)))(A:0<l.length)(C:l.length<1000)
  (h:∀(m:Nat) (f:aE),m∈l->Ex k S0 f->Ex k S f->f.length=S.length->Q (.d (.int m)) f):Fn kP [.ref k,.ref i,.int e] S Q:=by
 have y:Ex k S S:=by obtain⟨a,b,c,B⟩:=x.pot;exact Ex.refl B
 have g:∀r,Ex k S r->r.length=S.length->T (cx (ax bN (aq (ar 0) (aq (ar 1) av)))) [some (.ref k),some (.ref i),some (.int e)] r (λo=>match o with
   |.nx _ f=>Op (settle S .non f) λp=>Q p.1 p.2|.rt d f=>Op (settle S d f) λp=>Q p.1 p.2|.rl l f=>Op (eJ S l f) λp=>Q p.1 p.2|_=>False):=λr u F=>by
  symm
  refine ft (xs:=l.map lX) u hi (u.keep _ _ hi t) (by simpa using A) (by simpa using C) kJ (λd j=>dS (kJ d j).2) λd f j q w n=> ?_
  obtain⟨m,s,rfl⟩:=Qkq.mp j
  dsimp only[a7,aM,a9,bR,bU,eZ]
  refine lT q x.lt (kJ _ j).1 (dS (kJ _ j).2) λa b c=> ?_
  exact h m _ s x.set y.set (by simp)
 refine bZ ?_
 unfold pS
 apply aI (bO (pE (cG (zp ?_))))
 refine a_ t ?_
 refine⟨_,_,rfl,by rw[Fw];exact fO _,?_⟩
 rw[nX]
 show if decide (e∈l.map λh:Nat=>(h:Int))=true then _ else _
 by_cases c:e∈l.map λh:Nat=>(h:Int)
 ·rw[Qeq c,Qhq rfl]
  obtain⟨m,s,rfl⟩:=Qkq.mp c
  symm
  apply bQ y (by decide) (by decide) λd f j q w n=> ?_
  refine dR ?_
  dsimp only[a7,aM,a9,bR,bU,eZ]
  by_cases v:(d:Int)=0
  ·rw[Qeq v,Qhq rfl]
   symm
   refine lT q x.lt (λk z=>(nomatch z)) rfl λa b c=> ?_
   exact h m _ s x.set y.set (by simp)
  ·rw[Qdq v,Quq (by decide)]
   refine bX ?_
   exact g f q n
 ·rw[Qdq c,Quq (by decide)]
  rw[Quq (by decide)]
  refine bX ?_
  exact g S y rfl
end
end W28
namespace DL
open PySem PySem.Spec L2
def Cr{n:Nat}{b:cE}{ds:List D}{S:aE}{Q:Res->aE->Prop} (h:T b (ds.map some++List.replicate (n-ds.length) none) S λo=>match o with
   |.nx _ a=>Q (.d .non) a|.rt d a=>Q (.d d) a|.rl l a=>Q (.l l) a|_=>False):Fn (Cw n b) ds S Q:=by
 obtain⟨o,c,q⟩:=h
 cases o with
 |nx e a=>exact⟨_,_,by unfold Cw;rw[c];rfl,q⟩
 |rt d a=>exact⟨_,_,by unfold Cw;rw[c];rfl,q⟩
 |rl d a=>exact⟨_,_,by unfold Cw;rw[c];rfl,q⟩
 |bk=>exact q.elim
 |ct=>exact q.elim
def DA{b:cB}{S:aE}{n k:Nat}{g:ph}{ds:List D}{Q:cB->aE->Prop}(f:S[k]?=some (.lst ds))(d:ds.length=n)(h:N1 g ds b S Q):Tg (HG (nG n g)) (.ref k) b S Q:=by
 obtain⟨a,c,e,q⟩:=h
 exact⟨a,c,by unfold HG;simp only[f];unfold nG;rw[Qhq d];exact e,q⟩
def zO{a:D}{l:List D}{Q:List D×D->Prop}(q:Q (l,a))(b:l.length<999):Op (gS (a::l) [.int 0]) Q:=by
 refine⟨_,?_,q⟩
 unfold gS
 have h:seqIndex? (0:Int) (a::l).length=some 0:=W28.Iu (n:=(a::l).length) (j:=0) (by simp) (by simp;omega)
 simp only
 rw[Qhq (by decide),h]
 rfl
def JM{a:D}{l:List D}{Q:List D×D->Prop}(q:Q (l,a)):Op (Gc (l++ [a]) []) Q:=⟨_,by unfold Gc;simp,q⟩
def ju{ds:List D}{y:D}{Q:List D×D->Prop}(a:ds.length<999)(q:Q (ds++ [y],.non)):Op (fw ds [y]) Q:=⟨_,by unfold fw;exact Qhq (bt (by omega)),q⟩
end DL
namespace W28
open PySem PySem.Spec L2 DL
structure Bp(lo:Nat)(S S':aE):Prop where
 len:S.length<=S'.length
 eq:∀j,j<lo->S'[j]?=S[j]?
def Bp.refl{lo:Nat}{S:aE}:Bp lo S S:=⟨Qmq _,λ_ _=>rfl⟩
def Bp.put{lo b:Nat}{S a:aE}{o:O}(k:Bp lo S a)(h:lo<=b):Bp lo S (a.set b o):=⟨by simpa using k.len,λj c=>by rw[QKq (by omega)];exact k.eq j c⟩
structure Go(lo:Nat)(S0 S:aE)(t:yY)(s:bE):Prop where
 n:Nw lo S t s
 k:Bp lo S0 S
 l:lo<=S0.length
section
variable{lo:Nat}{S0 S:aE}{t:yY}{s:bE}{i:Nat}
def Go.app(g:Go lo S0 S t s){G:aE}:Go lo S0 (S++G) t s:=⟨g.n.app,⟨by rw[lQa];have:=g.k.len;omega,λj a=>by rw[QHq (by have:=g.k.len;have:=g.l;omega)];exact g.k.eq j a⟩,g.l⟩
def AH{x:FO}(b:t.rs[i]?=some x){a:Nat}(h:a∈Cy x):a∈zk t:=mQa.mpr (.inr (mQa.mpr (.inl (QOq.mpr ⟨x,mQg b,h⟩))))
def Em{x:Cz}(b:t.hs[i]?=some x){a:Nat}(h:a∈Bb x):a∈zk t:=mQa.mpr (.inr (mQa.mpr (.inr (mQa.mpr (.inr (QOq.mpr ⟨x,mQg b,h⟩))))))
section
variable{x:FO}{r:de}(g:Go lo S0 S t s)(hx:t.rs[i]?=some x)(hr:s.aj[i]?=some r)
include g hx hr
def Go.ca:S[x.a]?=some (.lst [.ref x.v,.int r.within,.ref x.r,.ref x.l,.ref x.b]):=g.n.ho (x.a,_) (lL (cJ hx hr) (mQa.mpr (.inl (by simp))))
def Go.cv:S[x.v]?=some (cP r.vals):=g.n.ho (x.v,cP r.vals) (lL (cJ hx hr) (mQa.mpr (.inl (by simp))))
def Go.cr:S[x.r]?=some (cP r.row):=g.n.ho (x.r,cP r.row) (lL (cJ hx hr) (mQa.mpr (.inl (by simp))))
def Go.cl:S[x.l]?=some (cP r.ag):=g.n.ho (x.l,cP r.ag) (lL (cJ hx hr) (mQa.mpr (.inl (by simp))))
def Go.cb:S[x.b]?=some (.lst (x.bs.map D.ref)):=g.n.ho (x.b,_) (lL (cJ hx hr) (mQa.mpr (.inl (by simp))))
def Go.cbs{j a:Nat}{l:List (Int×Int)}(b:x.bs[j]?=some a)(c:r.aa[j]?=some l):S[a]?=some (BU l):=g.n.ho (a,_) (lL (cJ hx hr) (mQa.mpr (.inr (Qkq.mpr ⟨_,cJ b c,rfl⟩))))
def Go.lb:x.bs.length=r.aa.length:=g.n.lb _ (cJ hx hr)
def Go.within(v:Int):Go lo S0 (S.set x.a (.lst [.ref x.v,.int v,.ref x.r,.ref x.l,.ref x.b])) t (d_ s i {r with within:=v}):=
 ⟨g.n.room hx hr (mQa.mpr (.inl (QBq ..))) (λp d c=>by
  rcases Qsq.mp d with h|h
  ·rw[h] at c;exact absurd rfl c
  ·exact Qpq _ h) rfl,g.k.put (g.n.lo _ (AH hx (by simp[Cy]))),g.l⟩
def Go.vals(b:List Int):Go lo S0 (S.set x.v (cP b)) t (d_ s i {r with vals:=b}):=
 ⟨g.n.room hx hr (mQa.mpr (.inl (Qpq _ (QBq ..)))) (λp a c=>by
  rcases Qsq.mp a with h|a
  ·exact Qsq.mpr (.inl h)
  ·rcases Qsq.mp a with h|h
   ·rw[h] at c;exact absurd rfl c
   ·exact Qpq _ (Qpq _ h)) rfl,g.k.put (g.n.lo _ (AH hx (by simp[Cy]))),g.l⟩
def Go.row(b:List Int):Go lo S0 (S.set x.r (cP b)) t (d_ s i {r with row:=b}):=
 ⟨g.n.room hx hr (mQa.mpr (.inl (by simp))) (λp a c=>by
  rcases Qsq.mp a with h|a
  ·exact Qsq.mpr (.inl h)
  ·rcases Qsq.mp a with h|a
   ·exact Qpq _ (Qsq.mpr (.inl h))
   ·rcases Qsq.mp a with h|h
    ·rw[h] at c;exact absurd rfl c
    ·exact Qpq _ (Qpq _ (Qpq _ h))) rfl,g.k.put (g.n.lo _ (AH hx (by simp[Cy]))),g.l⟩
def Go.ag(b:List Int):Go lo S0 (S.set x.l (cP b)) t (d_ s i {r with ag:=b}):=
 ⟨g.n.room hx hr (mQa.mpr (.inl (by simp))) (λp a c=>by
  rcases Qsq.mp a with h|a
  ·exact Qsq.mpr (.inl h)
  ·rcases Qsq.mp a with h|a
   ·exact Qpq _ (Qsq.mpr (.inl h))
   ·rcases Qsq.mp a with h|a
    ·exact Qpq _ (Qpq _ (Qsq.mpr (.inl h)))
    ·rcases Qsq.mp a with h|h
     ·rw[h] at c;exact absurd rfl c
     ·exact Qpq _ (Qpq _ (Qpq _ (Qpq _ h)))) rfl,g.k.put (g.n.lo _ (AH hx (by simp[Cy]))),g.l⟩
def Go.bell{j a:Nat}{l:List (Int×Int)}(b:x.bs[j]?=some a)(f:r.aa[j]?=some l)(c:List (Int×Int)):Go lo S0 (S.set a (BU c)) t (d_ s i {r with aa:=r.aa.set j c}):=
 ⟨g.n.room hx hr (mQa.mpr (.inr (Qkq.mpr ⟨(a,c),cJ b (Qyq (gQs.mp f).1),rfl⟩))) (λp m d=>by
  rcases mQa.mp m with h|h
  ·exact mQa.mpr (.inl h)
  ·obtain⟨q,o,rfl⟩:=Qkq.mp h
   rcases yy (x':=a) b f (by rw[rh b];exact o) with e|e
   ·rw[e] at d;exact absurd rfl d
   ·exact mQa.mpr (.inr (Qkq.mpr ⟨q,e,rfl⟩))) (by simp),g.k.put (g.n.lo _ (AH hx (by unfold Cy;exact mQa.mpr (.inr (mQg b))))),g.l⟩
end
def iO{r1 a:de}:d_ (d_ s i r1) i a=d_ s i a:=by unfold d_;simp
def nz{r1:de}{r:de}(a:s.aj[i]?=some r):(d_ s i r1).aj[i]?=some r1:=Qyq (gQs.mp a).1
section
variable{x:FO}{r:de}{Q:Res->aE->Prop}(g:Go lo S0 S t s)(hx:t.rs[i]?=some x)(hr:s.aj[i]?=some r)
include g hx hr
def AZ{h:Int}(j: -1<=r.within)(f:r.row.length<900)(q:∀b,Go lo S0 b t (d_ s i (gD r h))->Q (.d .non) b):Fn hJ [.ref x.a,.int h] S Q:=by
 refine Cr ?_
 unfold m_
 symm
 apply bK (g.ca hx hr) (d:=.int r.within) rfl ?_
 refine aK (λc=> ?_) (λc=> ?_)
 ·have c:r.within<0:=QZq c
  have e:gD r h={r with within:=h}:=Qhq (by omega)
  rw[e] at q
  symm
  exact⟨_,_,_,_,rfl,rfl,g.ca hx hr,rfl,q _ (g.within hx hr h)⟩
 ·have c:¬r.within<0:=QaQ c
  have e:gD r h={r with row:=r.row++ [h]}:=Quq (by omega)
  rw[e] at q
  apply eg (fH ?_)
  refine bK (g.ca hx hr) (d:=.ref x.r) rfl ?_
  apply⟨_,_,rfl,g.cr hx hr,?_⟩
  refine⟨_,g.cr hx hr,ju (by rw[lQm];omega) ?_⟩
  have:=q _ (g.row hx hr (r.row++ [h]))
  unfold cP at this
  rw[Qzq] at this
  exact this
def t6(o:r.row.length<900)(m:r.ag.length<900)(q:∀n,Go lo S0 n t (d_ s i (dt r))->Q (.d .non) n):Fn g_ [.ref x.a] S Q:=by
 refine Cr ?_
 unfold mX
 symm
 apply j8 ?_
 refine⟨1,rfl,?_⟩
 refine Js (aw rfl (cC ⟨_,_,_,_,rfl,rfl,g.ca hx hr,rfl,?_⟩))
 have f:=g.within hx hr (-1)
 have e:=nz (r1:={r with within:= -1}) hr
 show T _ _ (S.set x.a (.lst [.ref x.v,.int (-1),.ref x.r,.ref x.l,.ref x.b])) _
 generalize S.set x.a (.lst [.ref x.v,.int (-1),.ref x.r,.ref x.l,.ref x.b])=S1 at f⊢
 obtain⟨vals,within,row,ag,aa⟩:=r
 apply bO (cG (qy ?_))
 refine bK (f.ca hx e) (d:=.ref x.l) rfl ?_
 refine a_ (f.cl hx e) ?_
 refine⟨⟨rfl,f.cl hx e⟩,?_⟩
 dsimp only[a7,aM,a9,bR,bU,eZ]
 cases ag with
 | cons a l=>
   refine aK (λ_=> ?_) (λc=>by cases c)
   apply uc (fH ?_)
   refine bK (f.ca hx e) (d:=.ref x.l) rfl ?_
   apply⟨_,_,rfl,f.cl hx e,?_⟩
   refine⟨_,f.cl hx e,zO ?_ (by rw[lQm];simp at m;omega)⟩
   have j:=f.ag hx e l
   have h:=nz (r1:={vals:=vals,within:= -1,row:=row,ag:=l,aa:=aa}) e
   refine Js (aw rfl (cC ⟨_,_,_,_,rfl,rfl,j.ca hx h,rfl,?_⟩))
   have k:=j.within hx h a
   rw[iO,iO] at k
   exact q _ k
 | nil=>
   refine aK (λc=>by cases c) (λ_=> ?_)
   apply bO (cG (qy ?_))
   refine bK (f.ca hx e) (d:=.ref x.r) rfl ?_
   refine a_ (f.cr hx e) ?_
   refine⟨⟨rfl,f.cr hx e⟩,?_⟩
   dsimp only[a7,aM,a9,bR,bU,eZ]
   cases row with
   | cons a l=>
     refine aK (λ_=> ?_) (λc=>by cases c)
     apply uc (fH ?_)
     refine bK (f.ca hx e) (d:=.ref x.r) rfl ?_
     apply⟨_,_,rfl,f.cr hx e,?_⟩
     refine⟨_,f.cr hx e,zO ?_ (by rw[lQm];simp at o;omega)⟩
     have j:=f.row hx e l
     have h:=nz (r1:={vals:=vals,within:= -1,row:=l,ag:= [],aa:=aa}) e
     refine Js (aw rfl (cC ⟨_,_,_,_,rfl,rfl,j.ca hx h,rfl,?_⟩))
     have k:=j.within hx h a
     rw[iO,iO] at k
     exact q _ k
   | nil=>
     refine aK (λc=>by cases c) (λ_=>bX ?_)
     exact q _ f
end
end
end W28
namespace DL
open PySem PySem.Spec L2
def HE{S:aE}{k:Nat}{ds:List D}{Q:List D×Tag->Prop}(a:S[k]?=some (.frz ds))(q:Q (ds,.fz k)):Op (wI S (.ref k)) Q:=⟨_,by simp only[wI,a],q⟩
def Ng{S:aE}{k:Nat}{ds:List D}{i:Int}{d:D}{Q:D->Prop}(a:S[k]?=some (.frz ds))(h:kj ds i=some d)(q:Q d):Op (fK S (.ref k) (.int i)) Q:=⟨_,by simp only[fK,a];exact h,q⟩
def Nc{i:Int}{Q:D->Prop}(q:Q (.int (if i<0 then -i else i))):Op (J5 [.int i]) Q:=⟨_,rfl,q⟩
def hU{b:Bool}{Q:D->Prop}(q:Q (.int (if b then 1 else 0))):Op (intOfD [.bl b]) Q:=⟨_,rfl,q⟩
def vO{j:Nat}{n:Nat}{d:D}(h:(ki 0 (j:Int))[n]?=some d):d=.int n/\n<j:=by
 have a:n<j:=by
  have:=(gQs.mp h).1
  unfold ki at this
  simpa using this
 unfold ki at h
 rw[gQm,List.getElem?_range (by simpa using a)] at h
 cases h
 exact⟨by simp,a⟩
def IM{j:Nat}:(ki 0 (j:Int)).length=j:=by
 unfold ki
 simp
end DL
namespace W28
open PySem PySem.Spec L2 DL
section
variable{S:aE}{Q:Res->aE->Prop}
def LS{ns:List Int}{k:Nat}(i:S[0]?=some (.frz (ns.map D.int)))(q:∀a b:Int,Q (.l [.int a,.int b,.int 0]) S):Fn nK [.ref 0,.int k] S Q:=by
 refine bZ ?_
 unfold se
 have g:∀f:Int,T (aD (aS 3 (aQ n0 (aQ uh (ar 2) (aQ n0 (aQ zt (cF (.int 10)) (cF (.int 60))) (aQ zt (cF (.int 10)) (cF (.int 60))))) (uD intOfD (aq (aQ MX (ar 2) (aQ zt (cF (.int 10)) (cF (.int 18)))) av))))
   (GA (bB (aq (ar 3) (aq (aQ uh (aQ cz (aQ cz (ar 2) (aQ n0 (cF (.int 104729)) (ar 1))) (cF (.int 7))) (cF (.int 2305843009213693951))) (aq (cF (.int 0)) av))))))
   [some (.ref 0),some (.int k),some (.int f),none] S (λo=>match o with
   |.nx _ e=>Op (settle S .non e) λp=>Q p.1 p.2|.rt d e=>Op (settle S d e) λp=>Q p.1 p.2|.rl l e=>Op (eJ S l e) λp=>Q p.1 p.2|_=>False):=by
  intro f
  symm
  apply Hv ⟨by decide,by decide,by decide⟩ ?_
  apply Hv ⟨by decide,by decide,by decide⟩ ?_
  refine My (IntMulOk.of_bits (by decide +kernel) (by decide +kernel)) ?_
  refine vM (show(0:Int)<10^(60:Int).toNat*10^(60:Int).toNat by decide +kernel) ?_
  generalize f%(10^(60:Int).toNat*10^(60:Int).toNat)=c1
  symm
  refine Hv ⟨by decide,by decide,by decide⟩ ?_
  generalize (10:Int)^(18:Int).toNat=c2
  symm
  refine hU ?_
  have h:Hi c1 (if decide (c2<=f)=true then 1 else 0):=by
   right
   split <;>decide
  generalize (if decide (c2<=f)=true then(1:Int) else 0)=c3 at h⊢
  apply u5 h ?_
  apply u5 (.inl ⟨by decide,by decide⟩) ?_
  apply vM (by decide) ?_
  refine⟨by show 3<=_;decide,?_⟩
  exact G8 rfl (q _ _)
 symm
 apply HE i ?_
 rw[lQm]
 by_cases c:(k:Int)<ns.length
 ·rw[Qeq c,Qhq rfl]
  have j:k<ns.length:=by omega
  symm
  refine Ng i (aW (x:=.int ns[k]) (by rw[gQm,gQe j];rfl)) ?_
  symm
  refine Nc ?_
  exact g _
 ·rw[Qdq c,Quq (by decide)]
  refine bX ?_
  exact g 0
end
section
variable{S:aE}{Q:Res->aE->Prop}
def jS{α:Type}{enc:α->D}{nm:α->Str}{xs:List α}{d:cB}{f:fu}{tg:Tag}{Q:List D->aE->Prop}(he:∀a,∃r,enc a=.tup (.str (nm a)::r))(i:xs.length<=1000)(j:E f d S λp g=>p=(xs.map enc,tg)/\g=S)(ht:tg.stays S (xs.map enc))(q:Q ((xs.map nm).map D.str) S):
  E (bD [none] (fM f) (bJ 0) bL (aQ fK (ar 0) (cF (.int 0)))) d S Q:=by
 refine iW (α:=α) (λb=>∃a,b= [a]) enc (λa=>.str (nm a)) ⟨none,rfl⟩ (j.mono λp g h=> ?_)
 obtain⟨rfl,rfl⟩:=h
 refine⟨xs,rfl,ht,i,λr k b c=> ?_,?_⟩
 ·obtain⟨a,rfl⟩:=c
  refine aV ⟨rfl,⟨_,rfl⟩,?_⟩
  obtain⟨l,e⟩:=he r
  rw[e]
  symm
  exact ay Bw ⟨rfl,rfl⟩
 ·have e:xs.map (λa=>D.str (nm a))=(xs.map nm).map D.str:=by rw[QPq];rfl
  rw[e]
  exact q
def nH{α:Type}{enc:α->D}{nm:α->Str}{xs:List α}{x:Str}(he:∀a,∃r,enc a=.tup (.str (nm a)::r))(h:xs.length<=1000)(f:x∈xs.map nm)(q:Q (.d (.int (fB (xs.map nm) x:Nat))) S):Fn df [.tup (xs.map enc),.str x] S Q:=by
 refine bZ ?_
 unfold oU
 obtain⟨j,e,i⟩:=uF f
 unfold fB at q
 rw[e] at q
 refine eX ?_
 have c:E (ib (bD [none] (fM (aR (ar 0))) (bJ 0) bL (aQ fK (ar 0) (cF (.int 0))))) ([D.tup (xs.map enc),D.str x].map some++List.replicate (2- [D.tup (xs.map enc),D.str x].length) none) S λp b=>p=((xs.map nm).map D.str,.fr)/\b=S:=
  qA (jS (tg:=.tu) he h (bV (aw rfl (cy ⟨rfl,rfl⟩))) trivial ⟨rfl,rfl⟩)
 obtain⟨p,b,g,rfl,rfl⟩:=c
 refine⟨.int j,b,?_,cV (λk z=>(nomatch z)) rfl q⟩
 unfold HP
 rw[g]
 simp only[Qbq]
 rw[Qhq (show Tag.fr.isL=true from rfl)]
 show((ar 1 _ b).bind _)=_
 rw[show ar 1 ([D.tup (xs.map enc),D.str x].map some++List.replicate (2- [D.tup (xs.map enc),D.str x].length) none) b=some (.str x,b) from rfl]
 simp only[Qbq]
 rw[Qhq (show Tag.stays b _ .fr from trivial)]
 show(xw (.str x)).bind _=_
 simp only[xw,Qbq]
 rw[gL]
 simp only[Qbq]
 rw[e]
 rfl
end
def iA{c:cB}{S:aE}{i:Nat}{a b:Str}{l:List D}{Q:Bool->aE->Prop}(h:c[i]?=some (some (.tup (.str a::l))))(q:Q (decide (a=b)) S):E (aG (aQ (du false) (aQ fK (ar i) (cF (.int 0))) (cF (.str b)))) c S Q:=
 cG (aY (aY (aw h (cC (ay (d:=.str a) Bw (cC (gE q)))))))
theorem sF{th wt:Str->Int}{ws bs:List Str}{i j:Nat}{A kws:List (Key×D)}{S:aE}(hi:S[i]?=some (.dct A))(M:S[j]?=some (.dct kws))(K:∀x∈ws,iB A (.inr x)=some (.int (th x)))(L:∀b∈bs,iB kws (.inr b)=some (.int (wt b)))(I:∀x∈ws,0<=th x/\th x<=9):
  ∀(n:Nat) (t:Tr) {Q:Res->aE->Prop},t.Ok ws bs->t.dep<=n->Q (.d (.int (oa th wt t))) S->Fn (eE n) [t.d,.ref i,.ref j] S Q
 |0,t,Q,_,hd,_=>by cases t <;>simp[Tr.dep] at hd
 | n+1,t,Q,ho,hd,q=>by
   refine bZ ?_
   unfold ni
   have g:∀(o:Str) (h:List Tr) (k:Nat) {R:List D->aE->Prop},h.length<=2->(∀u∈h,u.Ok ws bs/\u.dep<=n)->R (h.map λu=>.int (oa th wt u)) S→
       E (bD [none,some 1,some 2] (fM (aR (uw (ar 0) (uo (cF (.int 1))) uP))) (bJ 0) bL (ax (eE n) (aq (ar 0) (aq (ar 1) (aq (ar 2) av))))) [some (.tup (.str o::h.map Tr.d)),some (.ref i),some (.ref j),none,none,none] S R:=λo h k R Y s q=>by
     refine iW (α:=Tr) (λr=>∃a,r= [a,some (.ref i),some (.ref j)]) Tr.d (λu=>.int (oa th wt u)) ⟨none,rfl⟩ ?_
     refine bV (m7 (aw rfl (dF (cC ⟨1,rfl,dD ⟨_,rfl,?_⟩⟩))))
     rw[show lH (D.str o::h.map Tr.d) (some 1) none=h.map Tr.d from j2 (i:=1) (by simp)]
     refine cy ⟨h,rfl,trivial,by omega,λu l r H=> ?_,q⟩
     obtain⟨a,rfl⟩:=H
     apply aV ⟨rfl,⟨_,rfl⟩,?_⟩
     exact sF hi M K L I n u (s u l).1 (s u l).2 ⟨rfl,rfl⟩
   cases t with
   | num v=>
     refine aI (bO (b_ (d:=.int v) (aw rfl ⟨rfl,rfl⟩) rfl ?_))
     apply aK (λ_=> ?_) (λc=>by cases c)
     exact cY q
   | word x=>
     refine aI (bO (b_ (d:=.str x) (aw rfl ⟨rfl,rfl⟩) rfl ?_))
     refine aK (λc=>by cases c) (λ_=>bX ?_)
     refine aI (bO (b_ (d:=.str x) (aw rfl ⟨rfl,rfl⟩) rfl ?_))
     refine aK (λ_=> ?_) (λc=>by cases c)
     apply eX (JN ?_)
     refine⟨_,_,_,_,rfl,rfl,hi,K x ho,?_⟩
     exact cY q
   | waits b=>
     refine aI (bO (b_ (d:=.tup [.str "waits",.str b]) (aw rfl ⟨rfl,rfl⟩) rfl ?_))
     refine aK (λc=>by cases c) (λ_=>bX ?_)
     refine aI (bO (b_ (d:=.tup [.str "waits",.str b]) (aw rfl ⟨rfl,rfl⟩) rfl ?_))
     refine aK (λc=>by cases c) (λ_=>bX ?_)
     refine aI (bO (iA (a:="waits") rfl ?_))
     refine aK (λ_=> ?_) (λc=>absurd (QaQ c) (by simp))
     apply eX (BN (az (aY (JN ?_))))
     refine ay (d:=.str b) rfl ?_
     apply⟨_,_,_,_,rfl,rfl,M,L b ho,?_⟩
     refine hU ?_
     simp only[oa] at q
     have e:(if decide (0<wt b)=true then(1:Int) else 0)=if 0<wt b then 1 else 0:=by by_cases c:0<wt b <;>simp[c]
     rw[e]
     exact cY q
   | no u=>
     refine aI (bO (b_ (d:=.tup [.str "not",u.d]) (aw rfl ⟨rfl,rfl⟩) rfl ?_))
     refine aK (λc=>by cases c) (λ_=>bX ?_)
     refine aI (bO (b_ (d:=.tup [.str "not",u.d]) (aw rfl ⟨rfl,rfl⟩) rfl ?_))
     refine aK (λc=>by cases c) (λ_=>bX ?_)
     refine aI (bO (iA (a:="not") rfl ?_))
     refine aK (λc=>absurd (QZq c) (by decide +kernel)) (λ_=>bX ?_)
     refine aI (cK (dY (g "not" [u] 0 (by simp) (λZ l=>by
       rw[Qfq.mp l]
       simp only[Tr.dep] at hd
       exact⟨ho,by omega⟩) ?_)))
     refine aI (bO (iA (a:="not") rfl ?_))
     refine aK (λ_=> ?_) (λc=>absurd (QaQ c) (by simp))
     refine eX (BN (az (aY (aY (aw rfl (cC (bK aN (d:=.int (oa th wt u)) rfl (cC (dR (aZ (hU ?_)))))))))))
     simp only[oa] at q
     have e:(if decide (oa th wt u=0)=true then(1:Int) else 0)=if oa th wt u=0 then 1 else 0:=by by_cases c:oa th wt u=0 <;>simp[c]
     rw[e]
     exact vZ rY.refl.app (λk z=>(nomatch z)) rfl q
   | two o a b=>
     obtain⟨G,m,B⟩:=ho
     obtain⟨U,P⟩:=Ff G
     simp only[Tr.dep] at hd
     have X:=iJ (wt:=wt) (ws:=ws) (bs:=bs) I m
     have W:=iJ (wt:=wt) (ws:=ws) (bs:=bs) I B
     refine aI (bO (b_ (d:=.tup [.str o,a.d,b.d]) (aw rfl ⟨rfl,rfl⟩) rfl ?_))
     refine aK (λc=>by cases c) (λ_=>bX ?_)
     refine aI (bO (b_ (d:=.tup [.str o,a.d,b.d]) (aw rfl ⟨rfl,rfl⟩) rfl ?_))
     refine aK (λc=>by cases c) (λ_=>bX ?_)
     refine aI (bO (iA (a:=o) rfl ?_))
     refine aK (λc=>absurd (QZq c) U) (λ_=>bX ?_)
     refine aI (cK (dY (g o [a,b] 0 (by simp) (λu l=>by
       simp only[Qsq,QXq,or_false] at l
       rcases l with rfl|rfl
       · exact⟨m,by omega⟩
       · exact⟨B,by omega⟩) ?_)))
     simp only[QDq,List.map_nil]
     refine aI (bO (iA (a:=o) rfl ?_))
     refine aK (λc=>absurd (QZq c) P) (λ_=>bX ?_)
     refine aI (uc (aw rfl (DA aN rfl (aA (aV (aA (aV (bA ?_))))))))
     simp only[oa] at q
     generalize oa th wt a=va at q X⊢
     generalize oa th wt b=vb at q W⊢
     have f:∀{v:Int},v=K0 o va vb->Op (settle S (.int v) (S++ [.lst [.int va,.int vb]])) λp=>Q p.1 p.2:=λe=>by
       rw[e]
       exact vZ rY.refl.app (λk z=>(nomatch z)) rfl q
     unfold K0 at f
     refine aI (bO (iA (a:=o) rfl ?_))
     refine aK (λc=> ?_) (λc=>bX ?_)
     · have c:=QZq c
       refine eX (BN (az (cC (az (aY (aw rfl (aw rfl (KI (aZ (Hc (f ?_)))))))))))
       rw[Qhq c]
       repeat' split
       all_goals omega
     have C:=QaQ c
     refine aI (bO (iA (a:=o) rfl ?_))
     refine aK (λc=> ?_) (λc=>bX ?_)
     · have c:=QZq c
       refine eX (BN (az (cC (az (aY (aw rfl (aw rfl (gB (aZ (GT (f ?_)))))))))))
       rw[Quq C,Qhq c]
       repeat' split
       all_goals omega
     have F:=QaQ c
     refine aI (bO (iA (a:=o) rfl ?_))
     refine aK (λc=> ?_) (λc=>bX ?_)
     · have c:=QZq c
       refine eX (BN (az (aY (aw rfl (aw rfl (gB (aZ (hU (f ?_)))))))))
       rw[Quq C,Quq F,Qhq c]
       by_cases z:va<vb <;>simp[z]
     have J:=QaQ c
     refine eX (BN (az (NO (iA (a:=o) rfl ?_))))
     refine aK (λc=> ?_) (λc=> ?_)
     · have c:=QZq c
       refine aY (aw rfl (aw rfl (dR (aZ (hU (f ?_))))))
       rw[Quq C,Quq F,Quq J,Qhq c]
       by_cases z:va=vb <;>simp[z]
     · have N:=QaQ c
       refine lW (aY (aw rfl (cC (gB ⟨_,rfl,?_⟩))))
       refine aK (λz=> ?_) (λz=> ?_)
       · have z:=QZq z
         refine aY (aw rfl (cC (gB (aZ (hU (f ?_))))))
         rw[Quq C,Quq F,Quq J,Quq N]
         by_cases y:0<vb
         · rw[Qeq y,Qhq rfl,Qhq ⟨by omega,by omega⟩]
         · rw[Qdq y,Quq (by decide),Quq (λw=>by omega)]
       · have z:=QaQ z
         refine aZ (hU (f ?_))
         rw[Quq C,Quq F,Quq J,Quq N,Quq (by decide),Quq (λw=>by omega)]
end W28
namespace DL
open PySem PySem.Spec L2
def uY{l:List (Key×D)}{a k:Key}{v:D}:iB (putD l a v) k=if a=k then some v else iB l k:=by
 unfold putD
 split
 ·rename_i h
  induction l with
  |nil=>simp at h
  | cons p l j=>
    unfold iB at j⊢
    rw[QDq,List.find?_cons,List.find?_cons]
    by_cases c:p.1=a
    · rw[Qhq c]
      by_cases d:a=k
      · rw[Qhq d]
        simp[c,d]
      · rw[Quq d]
        have n:¬p.1=k:=by rw[c];exact d
        simp only[n,decide_false]
        by_cases e:(l.any λb=>decide (b.1=a))=true
        · have:=j e
          rw[Quq d] at this
          exact this
        · have f:l.map (λb=>if b.1=a then(b.1,v) else b)=l:=by
            rw[List.map_congr_left (g:=id) (λq i=> ?_),List.map_id]
            have:¬q.1=a:=λz=>e (List.any_eq_true.mpr ⟨q,i,Qeq z⟩)
            rw[Quq this]
            rfl
          rw[f]
    · rw[Quq c]
      have r:(l.any λb=>decide (b.1=a))=true:=by simpa [c] using h
      by_cases d:p.1=k
      · simp only[d,decide_true]
        rw[Quq (λz=>c (d.trans z.symm))]
      · simp only[d,decide_false]
        exact j r
 ·rename_i h
  unfold iB
  rw[List.find?_append]
  cases m:l.find? λb=>decide (b.1=k) with
  | some q=>
    have i:=List.find?_some m
    have o:=List.mem_of_find?_eq_some m
    have n:¬a=k:=λz=>h (List.any_eq_true.mpr ⟨q,o,by rw[z];exact i⟩)
    rw[Quq n]
    rfl
  | none=>
    by_cases d:a=k
    · rw[Qhq d];simp[d]
    · rw[Quq d];simp[d]
theorem mF{k:Key}:∀{m l:List (Key×D)},k∉m.map Prod.fst->iB (bu l m) k=iB l k
 | [],l,_=>rfl
 | p::m,l,h=>by
   have a:bu l (p::m)=bu (putD l p.1 p.2) m:=rfl
   rw[a,mF (λz=>h (Qpq _ z)),uY,Quq (λz=>h (by rw[QDq,z];exact QBq ..))]
theorem yR{k:Key}:∀{m l l':List (Key×D)},k∈m.map Prod.fst->iB (bu l m) k=iB (bu l' m) k
 | [],_,_,h=>by cases h
 | p::m,l,l',h=>by
   have a:∀l,bu l (p::m)=bu (putD l p.1 p.2) m:=λ_=>rfl
   rw[a,a]
   by_cases c:k∈m.map Prod.fst
   · exact yR c
   · have e:p.1=k:=by
       rcases Qsq.mp h with z|z
       · exact z.symm
       · exact absurd z c
     rw[mF c,mF c,uY,uY,Qhq e,Qhq e]
def Df{l m:List (Key×D)}{k:Key}(h:k∈(bu l m).map Prod.fst):k∈l.map Prod.fst\/k∈m.map Prod.fst:=by
 obtain⟨p,a,e⟩:=Qkq.mp h
 rcases kY a with z|z
 ·exact .inl (Qkq.mpr ⟨p,z,e⟩)
 ·exact .inr (Qkq.mpr ⟨p,z,e⟩)
def Gy{l:List (Key×D)}{a:Key}{v:D}(h:(l.map Prod.fst).Nodup):((putD l a v).map Prod.fst).Nodup:=by
 unfold putD
 split
 ·have e:(l.map λd=>if d.1=a then(d.1,v) else d).map Prod.fst=l.map Prod.fst:=by
   rw[QPq]
   refine List.map_congr_left λp _=> ?_
   show(if p.1=a then(p.1,v) else p).1=p.1
   split <;>rfl
  rw[e]
  exact h
 ·rename_i c
  rw[Qzq,List.nodup_append]
  refine⟨h,by simp,λx f y b e=> ?_⟩
  obtain⟨p,i,g⟩:=Qkq.mp f
  have b:y=a:=by simpa using b
  exact c (List.any_eq_true.mpr ⟨p,i,Qeq (by rw[g,e,b])⟩)
theorem tm:∀{m l:List (Key×D)},(l.map Prod.fst).Nodup->((bu l m).map Prod.fst).Nodup
 | [],_,h=>h
 |p::m,l,h=>tm (m:=m) (Gy h)
theorem yo:∀{m l:List (Key×D)},((l++m).map Prod.fst).Nodup->bu l m=l++m
 | [],l,_=>by simp[bu]
 | p::m,l,h=>by
   have b:bu l (p::m)=bu (putD l p.1 p.2) m:=rfl
   have e:putD l p.1 p.2=l++ [p]:=by
     unfold putD
     rw[Quq]
     intro z
     obtain⟨q,a,e⟩:=List.any_eq_true.mp z
     rw[Qzq,List.nodup_append] at h
     exact h.2.2 q.1 (Qkq.mpr ⟨q,a,rfl⟩) p.1 (by simp) (QZq e)
   rw[b,e,yo (by simpa using h)]
   simp
def FT{l:List (Key×D)}{k:Key}:iB (bu [] (bu [] l)) k=iB (bu [] l) k:=by
 rw[yo (m:=bu [] l) (l:= []) (by simpa using tm (m:=l) (l:= []) .nil)]
 rfl
def F9{l m n:List (Key×D)}:bu l (m++n)=bu (bu l m) n:=List.foldl_append
end DL
namespace W28
open PySem PySem.Spec L2 DL
def Ho{w:dz}{s:bE}{ts:List (Str×Nat)}{vs:List Int}{x:Str}(ls:w.ak.length=s.ak.length)(f:ts.length=vs.length)(q:∀v∈s.ak,0<=v/\v<=9)(o:∀v∈vs,0<=v/\v<=9)(r:∀y∈ts.map (·.1),y∉w.ak.map (·.1))(j:x∈ts.map (·.1)++w.ak.map (·.1)):
  iB (bu [] ((((ts++w.ak).map (·.1)).map Sum.inr).zip ((vs++s.ak).map D.int))) (.inr x)=some (.int (numAt (qQ w s ts vs) x)):=by
 have d:jf (qQ w s ts vs):=jf.merge (dW q) (dW o)
 have l:(Sum.inr x:Key)∈(qQ w s ts vs).map (·.1):=ff (by
  rcases mQa.mp j with h|h
  ·exact .inr (dw f h)
  ·exact .inl (dw ls h))
 rw[←(g7 d l).1]
 rw[Qzq,Qzq,Qzq,List.zip_append (by simpa using f),F9]
 unfold qQ
 have g:∀{a:List (Str×Nat)} {b:List Int},a.length=b.length->((((a.map (·.1)).map Sum.inr:List Key).zip (b.map D.int)).map (·.1))=(a.map (·.1)).map Sum.inr:=λh=>List.map_fst_zip (by simp[h])
 have i:∀{a:List (Str×Nat)} {y:Str},(Sum.inr y:Key)∈(a.map (·.1)).map Sum.inr↔y∈a.map (·.1):=λ{a y}=>by
  constructor
  ·intro h
   obtain⟨z,n,e⟩:=Qkq.mp h
   cases e
   exact n
  ·exact λh=>Qkq.mpr ⟨y,h,rfl⟩
 have k:∀{a:List (Str×Nat)} {b:List Int} {y:Str},a.length=b.length->((Sum.inr y:Key)∈(d0 a b).map (·.1)↔y∈a.map (·.1)):=λ{a b y} hl=>by
  constructor
  ·intro h
   have:=Df h
   rcases this with h|h
   ·cases h
   ·rw[g hl] at h
    exact i.mp h
  ·exact dw hl
 by_cases c:x∈ts.map (·.1)
 ·rw[mF (by rw[g ls];exact λz=>r x c (i.mp z)),yR (l':= []) ((k f).mpr c)]
  exact FT.symm
 ·have p:x∈w.ak.map (·.1):=(mQa.mp j).resolve_left c
  rw[mF (m:=d0 ts vs) (λz=>c ((k f).mp z))]
  exact yR (by rw[g ls];exact i.mpr p)
section
variable{lo:Nat}{S0 S:aE}{t:yY}{s:bE}{h i:Nat}{vs:List Int}{fs:List cA}{f:cA}{w:dz}{n:Nat}{sc:Sc}
def Go.hx(g:Go lo S0 S t s)(hs:s.af[h]?=some (vs,fs)):∃x,t.hs[h]?=some x:=⟨_,gQe (by rw[g.n.lh];exact(gQs.mp hs).1)⟩
def Go.rx{r:de}(g:Go lo S0 S t s)(a:s.aj[i]?=some r):∃x,t.rs[i]?=some x:=⟨_,gQe (by rw[g.n.lr];exact(gQs.mp a).1)⟩
section
variable{x:Cz}(g:Go lo S0 S t s)(hx:t.hs[h]?=some x)(hs:s.af[h]?=some (vs,fs))
include g hx hs
def Go.ha:S[x.a]?=some (.lst [.ref x.v,.ref x.f]):=g.n.ho (x.a,_) (qH (cJ hx hs) (mQa.mpr (.inl (by simp))))
def Go.hv:S[x.v]?=some (cP vs):=g.n.ho (x.v,cP vs) (qH (cJ hx hs) (mQa.mpr (.inl (by simp))))
def Go.hf:S[x.f]?=some (.lst (x.fs.map D.ref)):=g.n.ho (x.f,_) (qH (cJ hx hs) (mQa.mpr (.inl (by simp))))
def Go.hfs{j a:Nat}{f:cA}(b:x.fs[j]?=some a)(c:fs[j]?=some f):S[a]?=some (qW f):=g.n.ho (a,qW f) (qH (cJ hx hs) (mQa.mpr (.inr (Qkq.mpr ⟨_,cJ b c,rfl⟩))))
def Go.lf:x.fs.length=fs.length:=g.n.lf _ (cJ hx hs)
def Go.last(b:fs.getLast? =some f):∃a,x.fs.getLast? =some a/\S[a]?=some (qW f):=by
 have l:=g.lf hx hs
 rw[List.getLast?_eq_getElem?] at b
 have c:=(gQs.mp b).1
 have e:x.fs.getLast? =x.fs[fs.length-1]? :=by rw[List.getLast?_eq_getElem?,l]
 rw[e]
 exact⟨_,gQe (by omega),g.hfs hx hs (gQe (by omega)) b⟩
end
def ym{xs:List Nat}{a:Nat}(h:xs.getLast? =some a):kj (xs.map D.ref) (-1)=some (.ref a):=wq (by rw[QfQ,h];rfl)
def vD{b:cB}{v:Nat}{x:Cz}{Q:D->aE->Prop}(g:Go lo S0 S t s)(c:t.hs[h]?=some x)(hs:s.af[h]?=some (vs,fs))(e:b[1]?=some (some (.ref t.k)))(j:b[v]?=some (some (.int h)))(q:Q (.ref x.f) S):
  E (aQ fK (aQ fK (aQ fK (ar 1) (cF (.int 3))) (ar v)) (cF (.int 1))) b S Q:=
 aY (aY (aY (aw e (cC (bK g.n.top (d:=.ref t.h) rfl (aw j (bK g.n.th (d:=.ref x.a) (aW (by rw[gQm,c];rfl)) (cC (bK (g.ha c hs) (d:=.ref x.f) rfl q)))))))))
def nJ{b:cB}{v:Nat}{x:Cz}{a:Nat}{Q:D->aE->Prop}(g:Go lo S0 S t s)(c:t.hs[h]?=some x)(hs:s.af[h]?=some (vs,fs))(e:x.fs.getLast? =some a)(d:b[1]?=some (some (.ref t.k)))(j:b[v]?=some (some (.int h)))(q:Q (.ref a) S):
  E (aQ fK (aQ fK (aQ fK (aQ fK (ar 1) (cF (.int 3))) (ar v)) (cF (.int 1))) (h_ (cF (.int 1)))) b S Q:=
 aY (vD g c hs d j (j8 (cC ⟨1,rfl,bK (g.hf c hs) (ym e) q⟩)))
def EW{b:cB}{v:Nat}{x:Cz}{Q:D->aE->Prop}(g:Go lo S0 S t s)(c:t.hs[h]?=some x)(hs:s.af[h]?=some (vs,fs))(e:b[1]?=some (some (.ref t.k)))(j:b[v]?=some (some (.int h)))(q:Q (.ref x.v) S):
  E (aQ fK (aQ fK (aQ fK (ar 1) (cF (.int 3))) (ar v)) (cF (.int 0))) b S Q:=
 aY (aY (aY (aw e (cC (bK g.n.top (d:=.ref t.h) rfl (aw j (bK g.n.th (d:=.ref x.a) (aW (by rw[gQm,c];rfl)) (cC (bK (g.ha c hs) (d:=.ref x.v) rfl q)))))))))
def mi{b:cB}{x:FO}{e:bH}{Q:D->aE->Prop}(g:Go lo S0 S t s)(j:t.rs[i]?=some x)(l:b[1]?=some (some (.ref t.k)))(he:E e b S λd c=>d=.int i/\c=S)(q:Q (.ref x.a) S):
  E (aQ fK (aQ fK (ar 1) (cF (.int 0))) e) b S Q:=by
 refine aY (aY (aw l (cC (bK g.n.top (d:=.ref t.r) rfl (he.mono λd c m=> ?_)))))
 obtain⟨rfl,rfl⟩:=m
 exact bK g.n.tr (d:=.ref x.a) (aW (by rw[gQm,j];rfl)) q
def g6{b:cB}{a j:Nat}{k v:Int}{f:cA}{Q:D->aE->Prop}(d:S[a]?=some (qW f))(c:b[j]?=some (some (.ref a)))(e:kj ([.int f.room,.int f.deed,.int f.row,.int f.given,.int f.told]:List D) k=some (.int v))(q:Q (.int v) S):E (aQ fK (ar j) (cF (.int k))) b S Q:=
 aY (aw c (cC (bK d e q)))
def yf:∀a:Str×Nat,∃r,lQ a=.tup (.str a.1::r):=λ_=>⟨_,rfl⟩
def KJ:∀a:Str×Str,∃r,y3 a=.tup (.str a.1::r):=λ_=>⟨_,rfl⟩
def Gp{r:Rm}{rs:de}(c:r.aa.length=rs.aa.length):bu [] (((r.aa.map (·.1)).map Sum.inr).zip (rs.aa.map λl=>D.int (l.length:Nat)))=xO r rs:=by
 unfold xO
 congr 1
 rw[QPq]
 generalize rs.aa=d at c⊢
 generalize r.aa=e at c⊢
 induction e generalizing d with
 |nil=>rfl
 | cons a e g=>
   cases d with
   |nil=>simp at c
   | cons b d=>
     have:=g d (by simpa using c)
     simp only[QDq,List.zip_cons_cons]
     rw[this]
     rfl
def xG{tr:Tr}{Q:Res->aE->Prop}(g:Go lo S0 S t s)(o:eY w)(x:dh w n s)(hs:s.af[h]?=some (vs,fs))(Z:fs.getLast? =some f)(a2:zF w h f=some sc)(ht:EY sc tr)(q:Q (.d (.int (cW w s h tr))) S):Fn cM [w.d,.ref t.k,.int h,tr.d] S Q:=by
 obtain⟨hd,F⟩:=g.hx hs
 obtain⟨a,ha,C⟩:=g.last F hs Z
 obtain⟨H,pr,Y,X⟩:=x.whand hs
 have o2:=o.hd _ (mQg Y)
 have fi:=X.fr f (QcQ Z)
 have b3:=o.l3
 have b4:H.length<=6:=o2.l1
 have ls:=x.ls
 have lv:=X.lv
 refine bZ ?_
 unfold kC
 refine aI (cK (nJ g F hs ha rfl rfl ?_))
 refine aI (bO (cG (aY (g6 C rfl (v:=f.room) rfl (cC (gB ?_))))))
 rcases fJ a2 with⟨c,a4,a3,R,rfl⟩|⟨c,r,hr,rfl⟩
 ·rw[Y] at R
  cases R
  rw[c]
  refine wD ?_
  refine aK (λ_=> ?_) (λz=>by cases z)
  have er:cW w s h tr=oa (numAt (qQ w s H vs)) (λ_=>0) tr:=by unfold cW;rw[eI hs Z,Qhq c,Ag Y,gJ hs]
  rw[er] at q
  symm
  apply ay (d:=.tup (w.af.map eW)) rfl ?_
  refine ay (d:=eW (H,pr)) (aW (by rw[gQm,Y];rfl)) ?_
  symm
  apply ay (d:=.tup (H.map lQ)) rfl ?_
  refine ay (d:=.tup (w.ak.map lQ)) rfl ?_
  refine fe (by rw[lQm,lQm];exact QAq (show _<=12 by omega) (by decide)) ?_
  rw[←Qzq]
  refine aI (cK (dY (yb ?_)))
  refine bV (EW g F hs rfl rfl (a_ (g.hv F hs) ?_))
  refine bV (aY (aw rfl (cC (bK g.n.top (d:=.ref t.s) rfl (a_ g.n.ts ?_)))))
  refine⟨⟨rfl,rfl,g.hv F hs,by rw[lQm,lQm];exact QAq (show _<=12 by omega) (by decide)⟩,?_⟩
  rw[←Qzq]
  refine eX (cj (az (aw rfl (az (F7 (qA ?_))))))
  refine jS (enc:=lQ) (nm:=(·.1)) (xs:=H++w.ak) (tg:=.tu) yf (by rw[lQa];omega) (bV (aw rfl (cy ⟨rfl,rfl⟩))) trivial ?_
  refine bV (aw rfl (a_ aN ⟨(H++w.ak).map (·.1),rfl,⟨trivial,by simp only[lQm,lQa];omega⟩,?_⟩))
  refine az (Ov (aZ ?_))
  have b5:=ht.2
  refine sF (th:=numAt (qQ w s H vs)) (wt:=λ_=>0) (ws:=H.map (·.1)++w.ak.map (·.1)) (bs:= []) (aO aN) aN (λy A=>Ho ls lv x.sv X.vv o2.dj A) (λb hb=>by cases hb) (λy A=> ?_) 5 tr ht.1 (by omega) ?_
  ·have B:jf (qQ w s H vs):=jf.merge (dW x.sv) (dW X.vv)
   refine(g7 B (ff ?_)).2
   rcases mQa.mp A with A|A
   ·exact .inr (dw lv A)
   ·exact .inl (dw ls A)
  ·exact vZ rY.refl.app.app.app (λk z=>(nomatch z)) rfl q
 ·obtain⟨u,e,W⟩:=x.wroom hr
  have P:=o.rm r (mQg hr)
  have M:=gF fi c
  obtain⟨I,m⟩:=g.rx e
  have b5:=P.l1
  have b6:=P.l2
  have b7:=ht.2
  have a5:=W.lv
  have N:=W.lb
  refine aK (λz=>by have:=QZq z;omega) (λ_=>bX ?_)
  have er:cW w s h tr=oa (numAt (iz r u f.given)) (sW r u) tr:=by unfold cW;rw[eI hs Z,Quq c,ia hr,dP e]
  rw[er] at q
  generalize f.room.toNat=i at hr e m M
  have he:∀{Γ:cB} {S:aE},Γ[4]?=some (some (.ref a))->S[a]?=some (qW f)->E (aQ fK (ar 4) (cF (.int 0))) Γ S λd J=>d=.int i/\J=S:=λh1 h2=>g6 h2 h1 (v:=f.room) rfl ⟨by rw[M],rfl⟩
  refine aI (cK (aY (aY (aw rfl (cC (ay (d:=.tup (w.aj.map Rm.d)) rfl ((he rfl C).mono λd J hd=> ?_)))))))
  obtain⟨rfl,rfl⟩:=hd
  refine ay (d:=r.d) (aW (by rw[gQm,hr];rfl)) ?_
  refine aI (cK (F7 (qA ?_)))
  refine jS (enc:=lQ) (nm:=(·.1)) (xs:=r.ao) (tg:=.tu) yf (by omega) (bV (aY (aw rfl (cC (ay (d:=.tup (r.ao.map lQ)) rfl (cy ⟨rfl,rfl⟩)))))) trivial ?_
  refine bV (aY (mi g m rfl (he rfl C) (cC (bK (g.ca m e) (d:=.ref I.v) rfl (a_ (g.cv m e) ⟨r.ao.map (·.1),rfl,⟨trivial,by simp only[lQm];omega⟩,?_⟩)))))
  refine aI (Od ?_)
  refine g6 (aO C) rfl (v:=f.given) rfl ?_
  refine aw rfl (cC ⟨_,_,_,rfl,rfl,aN,?_,?_⟩)
  ·refine Nat.lt_of_le_of_lt (pB (l:= [])) ?_
   rw[List.length_zip,lQm,lQm,lQm]
   exact Nat.lt_of_le_of_lt (show _<=6 by simp;omega) (by decide)
  have gd:(J++ [O.dct (bu [] (((r.ao.map (·.1)).map Sum.inr).zip (u.vals.map D.int)))]).set J.length (.dct (iz r u f.given))=J++ [O.dct (iz r u f.given)]:=by simp
  have a1:putD (bu [] (((r.ao.map (·.1)).map Sum.inr).zip (u.vals.map D.int))) (.inr "given") (.int f.given)=iz r u f.given:=rfl
  rw[a1,gd]
  have K:=g.app (G:= [O.dct (iz r u f.given)])
  have U:(J++ [O.dct (iz r u f.given)])[a]?=some (qW f):=aO C
  refine aI (cK (dY ?_))
  refine iW (α:=Nat×List (Int×Int)) (λL=>∃a,L= [a]) (λp=>.ref p.1) (λp=>.int (p.2.length:Nat)) ⟨none,rfl⟩ ?_
  refine bV (aY (mi K m rfl (he rfl U) (cC (bK (K.ca m e) (d:=.ref I.b) rfl (a_ (K.cb m e) ?_)))))
  have lz:=g.lb m e
  refine⟨I.bs.zip u.aa,?_,K.cb m e,by rw[List.length_zip];omega,λp hp L a0=> ?_,?_⟩
  ·show I.bs.map D.ref=(I.bs.zip u.aa).map ((λk=>D.ref k)∘Prod.fst)
   rw[←QPq,List.map_fst_zip (by omega)]
  ·obtain⟨a',rfl⟩:=a0
   obtain⟨j,k1,k2⟩:=jD hp
   refine aV ⟨rfl,⟨_,rfl⟩,?_⟩
   refine x9 (bV (aw rfl (a_ (K.cbs m e k1 k2) ⟨?_,rfl⟩)))
   rw[lQm]
  have eb:(I.bs.zip u.aa).map (λp=>D.int (p.2.length:Nat))=u.aa.map λl=>D.int (l.length:Nat):=by
   show(I.bs.zip u.aa).map ((λl:List (Int×Int)=>D.int (l.length:Nat))∘Prod.snd)=_
   rw[←QPq,List.map_snd_zip (by omega)]
  rw[eb]
  refine aI (cK (F7 (qA ?_)))
  refine jS (enc:=y3) (nm:=(·.1)) (xs:=r.aa) (tg:=.tu) KJ (by omega) (bV (aY (aw rfl (cC (ay (d:=.tup (r.aa.map y3)) rfl (cy ⟨rfl,rfl⟩)))))) trivial ?_
  refine bV (aw rfl (a_ aN ⟨r.aa.map (·.1),rfl,⟨trivial,by simp only[lQm];omega⟩,?_⟩))
  rw[Gp N]
  refine eX (cj (az (aw rfl (az (aw rfl (az (aw rfl (aZ ?_))))))))
  have B:jf (iz r u f.given):=(dW W.vv).put fi.gv.1 fi.gv.2
  have kk:∀y∈r.ao.map (·.1)++fE,(Sum.inr y:Key)∈(iz r u f.given).map (·.1):=λy A=>jO (by
   rcases mQa.mp A with A|A
   ·exact .inr (dw W.lv A)
   ·left
    rw[Qfq.mp A])
  refine sF (th:=numAt (iz r u f.given)) (wt:=sW r u) (ws:=r.ao.map (·.1)++fE) (bs:=r.aa.map (·.1)) (aO (aO aN)) aN (λy A=>(g7 B (kk y A)).1) (λb hb=>AD N hb) (λy A=>(g7 B (kk y A)).2) 5 tr ht.1 (by omega) ?_
  exact vZ rY.refl.app.app.app (λk z=>(nomatch z)) rfl q
end
end W28
namespace DL
open PySem PySem.Spec L2
def Kc{n j:Nat}(h:j<n):C7 n (j:Int)=some j:=by unfold C7;rw[Qhq (by omega),Qhq (by omega)];simp
def tH{a:cB}{S:aE}{f e:bH}{d:D}{k j:Nat}{ds:List D}{Q:cB->aE->Prop}(h:E f a S λx b=>x=.ref k/\b=S)(he:E e a S λy b=>y=.int j/\b=S)(c:S[k]?=some (.lst ds))(i:j<ds.length)(q:Q a (S.set k (.lst (ds.set j d)))):Tg (wO f e) d a S Q:=by
 refine Js (h.mono λx b g=> ?_)
 obtain⟨rfl,rfl⟩:=g
 refine he.mono λy m l=> ?_
 obtain⟨rfl,rfl⟩:=l
 exact⟨_,_,_,_,rfl,rfl,c,Kc i,q⟩
end DL
namespace W28
open PySem PySem.Spec L2 DL
theorem qt{α c:Type}{f:α->List c}:∀{l:List α} {i:Nat} {a b:α},l[i]?=some a->(f b).Sublist (f a)->((l.set i b).flatMap f).Sublist (l.flatMap f)
 | [],_,_,_,h,_=>by simp at h
 | x::l,0,a,b,h,s=>by
   simp at h
   subst h
   rw[List.set_cons_zero,QSq,QSq]
   exact s.append (QjQ _)
 | x::l,i+1,a,b,h,s=>by
   rw[List.set_cons_succ,QSq,QSq]
   exact(QjQ _).append (qt (by simpa using h) s)
theorem n_{α c:Type}{f:α->List c}:∀{l:List α} {i:Nat} {a b:α} {n:c},l[i]?=some a->(f b).Perm (n::f a)->((l.set i b).flatMap f).Perm (n::l.flatMap f)
 | [],_,_,_,_,h,_=>by simp at h
 | x::l,0,a,b,n,h,s=>by
   simp at h
   subst h
   rw[List.set_cons_zero,QSq,QSq]
   exact s.append_right _
 | x::l,i+1,a,b,n,h,s=>by
   rw[List.set_cons_succ,QSq,QSq]
   exact((n_ (by simpa using h) s).append_left (f x)).trans List.perm_middle
section
variable{lo:Nat}{S0 S:aE}{t:yY}{s:bE}{h i:Nat}{vs:List Int}{fs:List cA}{f:cA}{w:dz}{n:Nat}{sc:Sc}{Q:Res->aE->Prop}
def Go.all_lt(g:Go lo S0 S t s):∀a∈zk t,a<S.length:=λa o=>by
 rcases mQa.mp o with z|z
 ·simp only[Qsq,QXq,or_false] at z
  rcases z with rfl|rfl|rfl|rfl|rfl
  ·exact(gQs.mp g.n.top).1
  ·exact(gQs.mp g.n.tr).1
  ·exact(gQs.mp g.n.tp).1
  ·exact(gQs.mp g.n.ts).1
  ·exact(gQs.mp g.n.th).1
 ·rcases mQa.mp z with z|z
  ·obtain⟨x,b,z⟩:=QOq.mp z
   obtain⟨i,c,e⟩:=QbQ b
   have b:t.rs[i]?=some x:=by rw[gQe c,e]
   obtain⟨r,d⟩:∃r,s.aj[i]?=some r:=⟨_,gQe (by rw[←g.n.lr];exact c)⟩
   rcases mQa.mp z with z|z
   ·simp only[Qsq,QXq,or_false] at z
    rcases z with rfl|rfl|rfl|rfl|rfl
    ·exact(gQs.mp (g.ca b d)).1
    ·exact(gQs.mp (g.cv b d)).1
    ·exact(gQs.mp (g.cr b d)).1
    ·exact(gQs.mp (g.cl b d)).1
    ·exact(gQs.mp (g.cb b d)).1
   ·obtain⟨j,l,e⟩:=QbQ z
    exact(gQs.mp (g.cbs b d (j:=j) (by rw[gQe l,e]) (gQe (by rw[←g.lb b d];exact l)))).1
  ·rcases mQa.mp z with z|z
   ·obtain⟨x,b,z⟩:=QOq.mp z
    obtain⟨i,c,e⟩:=QbQ b
    have b:t.ps[i]?=some x:=by rw[gQe c,e]
    obtain⟨p,m⟩:∃p,s.ai[i]?=some p:=⟨_,gQe (by rw[←g.n.lp];exact c)⟩
    simp only[Je,Qsq,QXq,or_false] at z
    rcases z with rfl|rfl
    ·exact g.n.lt (vJ (cJ b m) (QBq ..))
    ·exact g.n.lt (p:=(x.r,cP p.2)) (vJ (cJ b m) (Qpq _ (QBq ..)))
   ·obtain⟨x,b,z⟩:=QOq.mp z
    obtain⟨i,c,e⟩:=QbQ b
    have b:t.hs[i]?=some x:=by rw[gQe c,e]
    obtain⟨⟨vs,fs⟩,k⟩:∃p,s.af[i]?=some p:=⟨_,gQe (by rw[←g.n.lh];exact c)⟩
    rcases mQa.mp z with z|z
    ·simp only[Qsq,QXq,or_false] at z
     rcases z with rfl|rfl|rfl
     ·exact(gQs.mp (g.ha b k)).1
     ·exact(gQs.mp (g.hv b k)).1
     ·exact(gQs.mp (g.hf b k)).1
    ·obtain⟨j,l,e⟩:=QbQ z
     exact(gQs.mp (g.hfs b k (j:=j) (by rw[gQe l,e]) (gQe (by rw[←g.lf b k];exact l)))).1
section
variable{x:Cz}(g:Go lo S0 S t s)(hx:t.hs[h]?=some x)(hs:s.af[h]?=some (vs,fs))
include g hx hs
def Go.hvals(a:List Int):Go lo S0 (S.set x.v (cP a)) t {s with af:=s.af.set h (a,fs)}:=by
 have e:{t with hs:=t.hs.set h x}=t:=by rw[rh hx]
 have j:=(gQs.mp (g.hv hx hs)).1
 have:=g.n.hand (x':=x) (r':=(a,fs)) (b:=x.v) (o:=cP a) hx hs rfl (mQa.mpr (.inl (by simp))) (λp c d=>.inl (by
  rcases Qsq.mp c with z|c
  ·exact Qsq.mpr (.inl z)
  ·rcases Qsq.mp c with z|z
   ·rw[z] at d;exact absurd rfl d
   ·exact Qpq _ (Qpq _ z))) j (g.lf hx hs) (by rw[e];exact g.n.nd) (by rw[e];exact g.n.lo)
 rw[e] at this
 exact⟨this,g.k.put (g.n.lo _ (Em hx (by simp[Bb]))),g.l⟩
def Go.frame{a:Nat}(d:x.fs.getLast? =some a)(y:fs.getLast? =some f)(f':cA):Go lo S0 (S.set a (qW f')) t {s with af:=s.af.set h (vs,fs.dropLast++ [f'])}:=by
 have e:{t with hs:=t.hs.set h x}=t:=by rw[rh hx]
 have l:=g.lf hx hs
 have v:x.fs=x.fs.dropLast++ [a]:=fN d
 have B:=fN y
 have C:x.fs.dropLast.length=fs.dropLast.length:=by rw[List.length_dropLast,List.length_dropLast,l]
 obtain⟨b,A,j⟩:=g.last hx hs y
 rw[d] at A
 cases A
 have F:=(gQs.mp j).1
 have c:x.fs.length=(fs.dropLast++ [f']).length:=by
  have G:0<x.fs.length:=by rw[v];simp
  rw[lQa,List.length_dropLast,←l]
  simp
  omega
 have r:∀q,(x.fs.zip (fs.dropLast++ [q])).map (λp=>((p.1,qW p.2):Cell))=(x.fs.dropLast.zip fs.dropLast).map (λp=>(p.1,qW p.2))++ [(a,qW q)]:=λq=>by
  conv=>lhs;rw[v]
  rw[List.zip_append C,Qzq]
  rfl
 have:=g.n.hand (x':=x) (r':=(vs,fs.dropLast++ [f'])) (b:=a) (o:=qW f') hx hs rfl (by
   unfold wQ
   rw[r]
   simp) (λp m u=>.inl (by
  unfold wQ at m⊢
  rw[r] at m
  rw[B,r]
  rcases mQa.mp m with z|z
  ·exact mQa.mpr (.inl z)
  ·rcases mQa.mp z with z|z
   ·exact mQa.mpr (.inr (mQa.mpr (.inl z)))
   ·rw[Qfq.mp z] at u;exact absurd rfl u)) F c (by rw[e];exact g.n.nd) (by rw[e];exact g.n.lo)
 rw[e] at this
 exact⟨this,g.k.put (g.n.lo _ (Em hx (mQa.mpr (.inr (QcQ d))))),g.l⟩
def Go.pop(d:0<fs.length):Go lo S0 (S.set x.f (.lst (x.fs.dropLast.map D.ref))) {t with hs:=t.hs.set h {x with fs:=x.fs.dropLast}} {s with af:=s.af.set h (vs,fs.dropLast)}:=by
 have o:=(gQs.mp (g.hf hx hs)).1
 have l:=g.lf hx hs
 have b:(zk {t with hs:=t.hs.set h {x with fs:=x.fs.dropLast}}).Sublist (zk t):=(QjQ _).append ((QjQ _).append ((QjQ _).append (qt hx ((QjQ _).append (List.dropLast_sublist _)))))
 have v:∀p∈(x.fs.dropLast.zip fs.dropLast).map (λp=>((p.1,qW p.2):Cell)),p∈(x.fs.zip fs).map λp=>(p.1,qW p.2):=λp d=>by
  obtain⟨q,u,rfl⟩:=Qkq.mp d
  obtain⟨j,e,c⟩:=jD u
  refine Qkq.mpr ⟨q,cJ (i:=j) ?_ ?_,rfl⟩
  ·rw[List.getElem?_dropLast] at e
   split at e
   ·exact e
   ·cases e
  ·rw[List.getElem?_dropLast] at c
   split at c
   ·exact c
   ·cases c
 refine⟨g.n.hand (x':={x with fs:=x.fs.dropLast}) (r':=(vs,fs.dropLast)) hx hs rfl (mQa.mpr (.inl (by simp))) (λp d m=>.inl ?_) o (by show x.fs.dropLast.length=fs.dropLast.length;rw[List.length_dropLast,List.length_dropLast,l]) (b.nodup g.n.nd) (λa r=>g.n.lo a (b.mem r)),g.k.put (g.n.lo _ (Em hx (by simp[Bb]))),g.l⟩
 rcases mQa.mp d with z|z
 ·refine mQa.mpr (.inl ?_)
  simp only[Qsq,QXq,or_false] at z⊢
  rcases z with z|z|z
  ·exact .inl z
  ·exact .inr (.inl z)
  ·rw[z] at m;exact absurd rfl m
 ·exact mQa.mpr (.inr (v p z))
def Go.push(f':cA):Go lo S0 ((S++ [qW f']).set x.f (.lst ((x.fs++ [S.length]).map D.ref))) {t with hs:=t.hs.set h {x with fs:=x.fs++ [S.length]}} {s with af:=s.af.set h (vs,fs++ [f'])}:=by
 have c:=g.app (G:= [qW f'])
 have m:=(gQs.mp (c.hf hx hs)).1
 have l:=g.lf hx hs
 have e:(zk {t with hs:=t.hs.set h {x with fs:=x.fs++ [S.length]}}).Perm (S.length::zk t):=by
  unfold zk
  refine((List.Perm.append_left _ (List.Perm.append_left _ (List.Perm.append_left _ (n_ (n:=S.length) hx ?_)))).trans ?_)
  ·show([x.a,x.v,x.f]++(x.fs++ [S.length])).Perm (S.length::([x.a,x.v,x.f]++x.fs))
   rw[←Qvq]
   simpa using List.perm_middle (l₁:= [x.a,x.v,x.f]++x.fs) (a:=S.length) (l₂:= [])
  ·refine(List.Perm.append_left _ ((List.Perm.append_left _ List.perm_middle).trans List.perm_middle)).trans List.perm_middle
 have q:S.length∉zk t:=λz=>by
  have:∀a∈zk t,a<S.length:=λa b=>g.all_lt a b
  exact absurd (this _ z) (Nat.lt_irrefl _)
 have o:(({x with fs:=x.fs++ [S.length]}:Cz).fs.zip (fs++ [f'])).map (λp=>((p.1,qW p.2):Cell))=(x.fs.zip fs).map (λp=>(p.1,qW p.2))++ [(S.length,qW f')]:=by
  show((x.fs++ [S.length]).zip (fs++ [f'])).map _=_
  rw[List.zip_append l,Qzq]
  rfl
 refine⟨c.n.hand (x':={x with fs:=x.fs++ [S.length]}) (r':=(vs,fs++ [f'])) hx hs rfl (mQa.mpr (.inl (by simp))) (λp d j=> ?_) m (by simp[l]) (e.nodup_iff.mpr (List.nodup_cons.mpr ⟨q,g.n.nd⟩)) (λa b=> ?_),c.k.put (g.n.lo _ (Em hx (by simp[Bb]))),g.l⟩
 ·unfold wQ at d
  rw[o] at d
  rcases mQa.mp d with z|z
  ·refine .inl (mQa.mpr (.inl ?_))
   simp only[Qsq,QXq,or_false] at z⊢
   rcases z with z|z|z
   ·exact .inl z
   ·exact .inr (.inl z)
   ·rw[z] at j;exact absurd rfl j
  ·rcases mQa.mp z with z|z
   ·exact .inl (mQa.mpr (.inr z))
   ·rw[Qfq.mp z]
    exact .inr aN
 ·rcases Qsq.mp (e.mem_iff.mp b) with rfl|b
  ·have:=g.k.len
   have:=g.l
   omega
  ·exact g.n.lo a b
end
end
section
variable{lo:Nat}{S0 S:aE}{t:yY}{s:bE}{h i:Nat}{vs:List Int}{fs:List cA}{f:cA}{w:dz}{n:Nat}{sc:Sc}{Q:Res->aE->Prop}
def wC{a:List Int}{j:Nat}{v:Int}:(a.map D.int).set j (.int v)=(a.set j v).map D.int:=by rw[List.map_set]
def IT{y:Str}{v:Int}(g:Go lo S0 S t s)(o:eY w)(x:dh w n s)(hs:s.af[h]?=some (vs,fs))(I:fs.getLast? =some f)(N:zF w h f=some sc)(G:y∈sc.ps)(q:∀P,Go lo S0 P t (mU w s h y v)->Q (.d .non) P):Fn jX [w.d,.ref t.k,.int h,.str y,.int v] S Q:=by
 obtain⟨Y,m⟩:=g.hx hs
 obtain⟨a,ha,A⟩:=g.last m hs I
 obtain⟨p,pr,H,U⟩:=x.whand hs
 have Z:=o.hd _ (mQg H)
 have fi:=U.fr f (QcQ I)
 have b3:=o.l3
 have b4:p.length<=6:=Z.l1
 have ls:=x.ls
 have lv:=U.lv
 refine Cr ?_
 unfold sk
 refine aI (cK (nJ g m hs ha rfl rfl ?_))
 refine bO (cG (aY (g6 A rfl (v:=f.room) rfl (cC (gB ?_)))))
 rcases fJ N with⟨c,a1,a0,F,rfl⟩|⟨c,r,hr,rfl⟩
 ·rw[H] at F
  cases F
  refine aK (λz=>by have:=QZq z;omega) (λ_=> ?_)
  have J:mU w s h y v=mI w s h p vs fs y v:=by unfold mU;rw[eI hs I,Qhq c,Ag H,gJ hs]
  rw[J] at q
  unfold mI at q
  have W:∀{u:cB} {Q:D->aE->Prop},u[0]?=some (some w.d)->u[2]?=some (some (.int h))->Q (.tup (p.map lQ)) S->E (aQ fK (aQ fK (aQ fK (ar 0) (cF (.int 3))) (ar 2)) (cF (.int 0))) u S Q:=λL h2 q=>by
   refine aY (aY (aY (aw L (cC (ay (d:=.tup (w.af.map eW)) rfl (aw h2 (ay (d:=eW (p,pr)) (aW (by rw[gQm,H];rfl)) (cC (ay (d:=.tup (p.map lQ)) rfl q)))))))))
  refine bO (cG (zp (aw rfl (qA (jS (enc:=lQ) (nm:=(·.1)) (xs:=p) (tg:=.tu) yf (by omega) (bV (W rfl rfl (cy ⟨rfl,rfl⟩))) trivial ?_)))))
  refine⟨_,_,rfl,gL _,?_⟩
  rw[Af]
  refine aK (λz=> ?_) (λz=> ?_)
  ·have z:y∈p.map (·.1):=QZq z
   have C:=(jd z).1
   rw[lQm] at C
   rw[Quq (Z.dj y z)] at q
   refine uc (aw rfl (tH (j:=fB (p.map (·.1)) y) (EW g m hs rfl rfl ⟨rfl,rfl⟩) ?_ (g.hv m hs) (by rw[lQm];omega) ?_))
   ·refine cj (az (W rfl rfl (az (aw rfl (aZ ?_)))))
    exact nH yf (by omega) z ⟨rfl,rfl⟩
   ·rw[wC]
    exact q _ (g.hvals m hs _)
  ·have z:y∉p.map (·.1):=QaQ z
   have K:y∈w.ak.map (·.1):=(mQa.mp G).resolve_left z
   have C:=(jd K).1
   rw[lQm] at C
   rw[Qhq K] at q
   refine uc (aw rfl (tH (j:=fB (w.ak.map (·.1)) y) (aY (aw rfl (cC (bK g.n.top (d:=.ref t.s) rfl ⟨rfl,rfl⟩)))) ?_ g.n.ts (by rw[lQm];omega) ?_))
   ·refine cj (az (aY (aw rfl (cC (ay (d:=.tup (w.ak.map lQ)) rfl (az (aw rfl (aZ ?_))))))))
    exact nH yf (by omega) K ⟨rfl,rfl⟩
   ·rw[wC]
    exact q _ ⟨g.n.share,g.k.put (g.n.lo _ (by simp[zk])),g.l⟩
 ·obtain⟨rs,b,ri⟩:=x.wroom hr
  have M:=o.rm r (mQg hr)
  have B:=gF fi c
  obtain⟨rx,e⟩:=g.rx b
  have b5:=M.l1
  have a2:=ri.lv
  refine aK (λ_=> ?_) (λz=>by have:=QaQ z;omega)
  have J:mU w s h y v=d_ s f.room.toNat {rs with vals:=eF (r.ao.map (·.1)) rs.vals y v}:=by unfold mU;rw[eI hs I,Quq c,ia hr,dP b]
  rw[J] at q
  generalize f.room.toNat=i at hr b e B q
  have R:∀{u:cB},u[5]?=some (some (.ref a))->E (aQ fK (ar 5) (cF (.int 0))) u S λd X=>d=.int i/\X=S:=λL=>g6 A L (v:=f.room) rfl ⟨by rw[B],rfl⟩
  have G:y∈r.ao.map (·.1):=G
  have C:=(jd G).1
  rw[lQm] at C
  refine uc (aw rfl (tH (j:=fB (r.ao.map (·.1)) y) (aY (mi g e rfl (R rfl) (cC (bK (g.ca e b) (d:=.ref rx.v) rfl ⟨rfl,rfl⟩)))) ?_ (g.cv e b) (by rw[lQm];omega) ?_))
  ·refine cj (az (aY (aY (aY (aw rfl (cC (ay (d:=.tup (w.aj.map Rm.d)) rfl ((R rfl).mono λd X Y=> ?_))))))))
   obtain⟨rfl,rfl⟩:=Y
   refine ay (d:=r.d) (aW (by rw[gQm,hr];rfl)) (cC (ay (d:=.tup (r.ao.map lQ)) rfl (az (aw rfl (aZ ?_)))))
   exact nH yf (by omega) G ⟨rfl,rfl⟩
  ·rw[wC]
   exact q _ (g.vals e b _)
def t8{a:Nat}{pr:List Rw}(e:S[a]?=some (qW f))(l:progOf w h f=some pr)(q:Q (.d (.tup (pr.map Rw.d))) S):Fn fI [w.d,.int h,.ref a] S Q:=by
 refine bZ ?_
 unfold jK
 refine aI (bO (cG (aY (g6 e rfl (v:=f.room) rfl (cC (gB ?_))))))
 have b:Op (settle S (.tup (pr.map Rw.d)) S) λp=>Q p.1 p.2:=cV (λk z=>(nomatch z)) (vz pr) q
 rcases i8 l with⟨c,m,g⟩|⟨i,j,r,o,g,u,x,y⟩
 ·rw[c]
  apply wD (aK (λ_=> ?_) (λz=>by cases z))
  apply ay (d:=.tup (w.af.map eW)) rfl ?_
  refine ay (d:=eW (m,pr)) (aW (by rw[gQm,g];rfl)) ?_
  symm
  refine ay (d:=.tup (pr.map Rw.d)) rfl ?_
  exact b
 ·refine aK (λz=>by have:=QZq z;omega) (λ_=>bX ?_)
  refine eX (aY (aY (aY (aY (aY (aw rfl (cC (ay (d:=.tup (w.aj.map Rm.d)) rfl (g6 e rfl (v:=f.room) rfl ?_)))))))))
  rw[g]
  refine ay (d:=r.d) (aW (by rw[gQm,x];rfl)) (cC (ay (d:=.tup (r.ae.map hX)) rfl (g6 e rfl (v:=f.deed) rfl ?_)))
  rw[u]
  refine ay (d:=hX (o,pr)) (aW (by rw[gQm,y];rfl)) (cC (ay (d:=.tup (pr.map Rw.d)) rfl ?_))
  exact b
section
variable{x:GB}{p:Int×List Int}(g:Go lo S0 S t s)(hx:t.ps[i]?=some x)(hp:s.ai[i]?=some p)
include g hx hp
def Go.pa:S[x.a]?=some (.lst [.int p.1,.ref x.r]):=g.n.ho (x.a,_) (vJ (cJ hx hp) (QBq ..))
def Go.pr:S[x.r]?=some (cP p.2):=g.n.ho (x.r,cP p.2) (vJ (cJ hx hp) (Qpq _ (QBq ..)))
end
end
structure Rn(rs:de):Prop where
 w: -1<=rs.within
 r:∀x∈rs.row,0<=x
 l:∀x∈rs.ag,0<=x
 b:∀l∈rs.aa,∀p∈l,0<=p.2
def Nn(s:bE):Prop:=∀r∈s.aj,Rn r
section
variable{s:bE}{h i:Nat}{r:de}{w:dz}
def Nn.at(x:Nn s):Rn (CB s i):=by
 unfold CB
 cases e:s.aj[i]? with
 |some r=>exact x r (mQg e)
 |none=>exact⟨by decide,λx a=>(nomatch a),λx a=>(nomatch a),λx a=>(nomatch a)⟩
def Nn.set(x:Nn s)(y:Rn r):Nn (d_ s i r):=λq a=>by
 rcases QTq a with a|rfl
 ·exact x q a
 ·exact y
def Rn.come(x:Rn r):Rn (gD r h):=by
 unfold gD
 split
 ·exact⟨by show(-1:Int)<=h;omega,x.r,x.l,x.b⟩
 ·exact⟨x.w,λy a=>by
   rcases mQa.mp a with a|a
   ·exact x.r y a
   ·rw[Qfq.mp a];omega,x.l,x.b⟩
def Rn.leave(x:Rn r):Rn (dt r):=by
 obtain⟨f,c,d,g,j⟩:=r
 cases g with
 | cons a l=>
   have:=x.l a (QBq ..)
   exact⟨by show(-1:Int)<=a;omega,x.r,λy e=>x.l y (Qpq _ e),x.b⟩
 | nil=>
   cases d with
   | cons a l=>
     have:=x.r a (QBq ..)
     exact⟨by show(-1:Int)<=a;omega,λy e=>x.r y (Qpq _ e),x.l,x.b⟩
   |nil=>exact⟨by show(-1:Int)<= -1;omega,x.r,x.l,x.b⟩
def Rn.line{b:Nat}{l:List (Int×Int)}(x:Rn r)(c:∀p∈l,0<=p.2):Rn {r with aa:=r.aa.set b l}:=⟨x.w,x.r,x.l,λk a=>by
 rcases QTq a with a|rfl
 ·exact x.b k a
 ·exact c⟩
def Rn.wait{rm:Rm}{b:Str}{v:Int}(x:Rn r):Rn (A_ rm r b v h):=by
 unfold A_
 refine(x.line λp a=> ?_).leave
 have c:∀p∈(r.aa[fB (rm.aa.map (·.1)) b]?).getD [],0<=p.2:=λp a=>by
  cases e:r.aa[fB (rm.aa.map (·.1)) b]? with
  |none=>rw[e] at a;cases a
  |some l=>rw[e] at a;exact x.b l (mQg e) p a
 unfold ue at a
 rcases mQa.mp a with a|a
 ·rcases mQa.mp a with a|a
  ·exact c p (List.mem_of_mem_take a)
  ·rw[Qfq.mp a];show(0:Int)<=h;omega
 ·exact c p (List.mem_of_mem_drop a)
def Rn.call{f:Bool}{b:Nat}(x:Rn r):Rn (mS f r b h):=by
 unfold mS
 split
 ·rename_i p l e
  have c:=x.b _ (mQg e)
  have y:=x.line (b:=b) (l:=l) λq d=>c q (Qpq _ d)
  split
  ·exact y
  ·have:=c p (QBq ..)
   exact⟨by show(-1:Int)<=p.2;omega,y.r,λz a=>by
    rcases mQa.mp a with a|a
    ·exact x.l z a
    ·rw[Qfq.mp a];omega,y.b⟩
 ·exact x
def Nn.put{y:Str}{v:Int}(x:Nn s):Nn (mU w s h y v):=by
 unfold mU
 split
 ·unfold mI
  split <;>exact x
 ·have:=x.at (i:=(jM s h).room.toNat)
  exact x.set ⟨this.w,this.r,this.l,this.b⟩
def Nn.does(x:Nn s)(r:Rw):Nn (lO w s h r):=by
 cases r with
 |put y t=>exact x.put
 | unl t n=>
   simp only[lO]
   split <;>exact x
 |do_ g c d t=>exact Nn.set (s:={s with af:=s.af.set h _}) x x.at.come
 |wait b t=>exact x.set x.at.wait
 |call b=>exact x.set x.at.call
 |all b=>exact x.set (x.at.line λp a=>by cases a)
 |_=>exact x
def Nn.step(x:Nn s):Nn (eP w s h).1:=by
 have a:Nn (lP s h):=Nn.set (s:={s with af:=s.af.set h _}) x x.at.leave
 unfold eP
 split
 ·exact x.set x.at.come
 ·split
  ·exact x
  ·split
   ·show Nn (p9 w s h)
    unfold p9
    split
    ·exact a.put
    ·exact a
   ·split
    ·exact x
    ·exact Nn.does (s:=iy s h) x _
end
end W28
namespace DL
open PySem PySem.Spec L2
def LF{ds:List D}{y:D}{k:Nat}{Q:List D×D->Prop}(b:k<=ds.length)(a:ds.length<999)(q:Q (ds.take k++y::ds.drop k,.non)):Op (Ft ds [.int (k:Nat),y]) Q:=⟨_,by unfold Ft;exact Qhq ⟨by omega,by omega,by omega,bt (by omega)⟩,q⟩
end DL
namespace W28
open PySem PySem.Spec L2 DL
section
variable{lo:Nat}{S0 S:aE}{t:yY}{s:bE}{h i:Nat}{vs:List Int}{fs:List cA}{f:cA}{w:dz}{n:Nat}{sc:Sc}{Q:Res->aE->Prop}
def Im{l:List (Int×Int)}{u k:Int}:(l.map pairD).take (l.filter λp=>decide (p.1<=u)).length++pairD (u,k)::(l.map pairD).drop (l.filter λp=>decide (p.1<=u)).length=(ue l u k).map pairD:=by
 unfold ue
 rw[Qzq,Qzq,List.map_take,List.map_drop]
 simp
def uL{a:cB}{r:Rm}{k:Nat}{e:bH}{R:D->aE->Prop}(c:w.aj[i]?=some r)(j:a[0]?=some (some w.d))(he:E e a S λd b=>d=.int i/\b=S)(q:R r.d S):E (aQ fK (aQ fK (ar 0) (cF (.int 0))) e) a S R:=by
 refine aY (aY (aw j (cC (ay (d:=.tup (w.aj.map Rm.d)) rfl (he.mono λd b g=> ?_)))))
 obtain⟨rfl,rfl⟩:=g
 exact ay (d:=r.d) (aW (by rw[gQm,c];rfl)) q
def y8{r:Rw}{y:Str}{rm:Rm}{rs:de}(g:Go lo S0 S t s)(o:eY w)(x:dh w n s)(hn:n<=100)(hs:s.af[h]?=some (vs,fs))(hf:fs.getLast? =some f)(U:zF w h f=some sc)(a2:f.room=i)(B:w.aj[i]?=some rm)(v:s.aj[i]?=some rs)(hy:y∈rm.aa.map (·.1))
  (C:match r with|.wait z tr=>z=y/\EY sc tr|.call z=>z=y|.all z=>z=y|_=>False) (q:∀S',Go lo S0 S' t (lO w s h r)->Q (.d .non) S'):Fn kT [w.d,.ref t.k,.int h,r.d] S Q:=by
 obtain⟨hd,W⟩:=g.hx hs
 obtain⟨a,ha,a0⟩:=g.last W hs hf
 obtain⟨rx,A⟩:=g.rx v
 have ri:=x.rm i rm rs B v
 have N:=o.rm rm (mQg B)
 have ti:f.room.toNat=i:=by omega
 have e2:=eI hs hf
 have b6:=N.l2
 have lb:=ri.lb
 have lz:=g.lb A v
 have br:=ri.br
 have bl:=ri.bl
 obtain⟨k1,k2⟩:=jd hy
 rw[lQm] at k1
 rw[gQm] at k2
 obtain⟨⟨Y,M⟩,k3,k4⟩:=oQm.mp k2
 have k4:Y=y:=k4
 subst k4
 generalize hb:fB (rm.aa.map (·.1)) Y=b at k1 k3
 obtain⟨m,J⟩:∃l,rs.aa[b]?=some l:=⟨_,gQe (by omega)⟩
 obtain⟨ba,G⟩:∃a,rx.bs[b]?=some a:=⟨_,gQe (by omega)⟩
 have ll:=ri.bb m (mQg J)
 have H:=g.cbs A v G J
 obtain⟨rk,K⟩:=r.d_kind
 have R:kj (.str r.kind::rk) (1:Int)=some (.str Y):=by
  cases r <;>first|exact C.elim|skip
  all_goals (cases K)
  ·rw[C.1];rfl
  ·rw[C];rfl
  ·rw[C];rfl
 refine Cr ?_
 unfold oW
 refine aI (cK (aY (nJ g W hs ha rfl rfl (cC (bK a0 (d:=.int f.room) rfl ?_)))))
 rw[a2]
 refine aI (cK (mi g A rfl (aw rfl ⟨rfl,rfl⟩) ?_))
 refine aI (cK (cj (az (aY (uL (k:=0) B rfl (aw rfl ⟨rfl,rfl⟩) (cC (ay (d:=.tup (rm.aa.map y3)) rfl (az (aY (aw rfl (cC ?_)))))))))))
 rw[K]
 refine ay R (aZ ?_)
 rw[←K]
 refine nH KJ (by omega) hy ?_
 rw[hb]
 refine aI (cK (aY (aY (aw rfl (cC (bK (g.ca A v) (d:=.ref rx.b) rfl (aw rfl (bK (g.cb A v) (d:=.ref ba) (aW (by rw[gQm,G];rfl)) ?_))))))))
 cases r with
 | wait z tr=>
   obtain⟨rfl,ht⟩:=C
   obtain⟨hv,_⟩:=kF o x hs hf U ht
   refine bO (iA (a:="wait") rfl ?_)
   refine aK (λ_=> ?_) (λc=>absurd (QaQ c) (by simp))
   refine aI (cK (aY (cj (az (aw rfl (az (aw rfl (az (aw rfl (az (aY (aw rfl (cC (ay (d:=tr.d) rfl (aZ ?_)))))))))))))))
   refine xG g o x hs hf U ht ?_
   refine BN (az (aY (aY (aY (aY (uL (k:=0) B rfl (aw rfl ⟨rfl,rfl⟩) (cC (ay (d:=.tup (rm.aa.map y3)) rfl (aw rfl (ay (d:=y3 (z,M)) (aW (by rw[gQm,k3];rfl)) (cC (ay (d:=.str M) rfl (cC (gE (aZ (hU ?_))))))))))))))))
   have em:∀k:Int,0<=k/\k<=1->Hi (cW w s h tr) k:=λk hk=>.inr ⟨by omega,by omega⟩
   refine u5 (em _ (by split <;>omega)) ?_
   have et:cW w s h tr*(if decide (M="turns")=true then(1:Int) else 0)=if M="turns" then cW w s h tr else 0:=by by_cases c:M="turns" <;>simp[c]
   rw[et]
   generalize hu:(if M="turns" then cW w s h tr else 0)=u
   refine aI (eg (fH (aw rfl ⟨_,_,rfl,H,az (x9 (qA ?_))⟩)))
   refine nI (α:=Int×Int) (λX=>∃a,X= [a,some (.int u)]) pairD pairD (λp=>decide (p.1<=u)) ⟨none,rfl⟩ ?_
   refine j_ (bV (aw rfl (a_ H ⟨m,rfl,H,by omega,λp hp X a1=> ?_,?_⟩)))
   · obtain⟨a',rfl⟩:=a1
     refine aV ⟨rfl,⟨_,rfl⟩,?_⟩
     refine cG (aY (aY (aw rfl (cC (ay (d:=.int p.1) rfl (aw rfl (gB ⟨rfl,rfl,λ_=>aw rfl ⟨rfl,rfl⟩⟩)))))))
   have lf:=List.length_filter_le (λp:Int×Int=>decide (p.1<=u)) m
   refine az (sR (az (aw rfl (az (aw rfl (aZ ⟨by show 2<=_;decide,aZ ⟨_,H,?_⟩⟩))))))
   dsimp only[a7,aM,a9,bR,bU,eZ]
   rw[lQm]
   refine LF (by rw[lQm];omega) (by rw[lQm];omega) ?_
   · show T _ _ (S.set ba (.lst ((m.map pairD).take (m.filter λp=>decide (p.1<=u)).length++pairD (u,h)::(m.map pairD).drop (m.filter λp=>decide (p.1<=u)).length))) _
     rw[Im]
     have P:=g.bell A v G J (ue m u h)
     have F:=nz (r1:={rs with aa:=rs.aa.set b (ue m u h)}) v
     refine eg (cj (az (aw rfl (aZ ?_))))
     refine t6 P A F (by show rs.row.length<900;omega) (by show rs.ag.length<900;omega) λS' L=>q _ ?_
     have e:lO w s h (.wait z tr)=d_ s i (dt {rs with aa:=rs.aa.set b (ue m u h)}):=by simp only[lO,A_,e2,ti,ia B,dP v,hb,J,k3,Option.getD_some,hu]
     rw[e]
     rw[iO] at L
     exact L
 | all z=>
   have C:z=Y:=C
   subst C
   refine bO (iA (a:="all") rfl ?_)
   refine aK (λc=>absurd (QZq c) (by decide +kernel)) (λ_=> ?_)
   refine bO (iA (a:="all") rfl ?_)
   refine aK (λ_=> ?_) (λc=>absurd (QaQ c) (by simp))
   refine eg (fH (aw rfl ⟨_,_,rfl,H,aZ ⟨_,H,⟨([],.non),rfl,?_⟩⟩⟩))
   have e:lO w s h (.all z)=d_ s i {rs with aa:=rs.aa.set b []}:=by simp only[lO,e2,ti,ia B,dP v,hb]
   rw[e] at q
   exact q _ (g.bell A v G J [])
 | call z=>
   have C:z=Y:=C
   subst C
   have e:lO w s h (.call z)=d_ s i (mS (decide (rm.ah="when free")) rs b h):=by simp only[lO,e2,ti,ia B,dP v,hb]
   rw[e] at q
   unfold mS at q
   rw[J] at q
   refine bO (iA (a:="call") rfl ?_)
   refine aK (λc=>absurd (QZq c) (by decide +kernel)) (λ_=> ?_)
   refine bO (iA (a:="call") rfl ?_)
   refine aK (λc=>absurd (QZq c) (by decide +kernel)) (λ_=> ?_)
   refine bO (cG (qy (bV (aw rfl (a_ H ⟨⟨rfl,H⟩,?_⟩)))))
   have gb:=g.bell A v G J
   cases m with
   | nil=>
     refine wD (aK (λc=>by cases c) (λ_=>bX ?_))
     have e0:d_ s i rs=s:=by unfold d_;rw[rh v]
     simp only[e0] at q
     exact q _ g
   | cons p l=>
     refine wD (aK (λ_=> ?_) (λc=>by cases c))
     refine aI (cK (fH (aw rfl ⟨_,_,rfl,H,az (cC (aZ ⟨_,H,zO ?_ ?_⟩))⟩)))
     · have P:=gb l
       have F:=nz (r1:={rs with aa:=rs.aa.set b l}) v
       refine bO (cG (aY (aY (uL (k:=0) B rfl (aw rfl ⟨rfl,rfl⟩) (cC (ay (d:=.str rm.ah) rfl (cC (gE ?_))))))))
       simp only at q
       refine aK (λc=> ?_) (λc=> ?_)
       · have c:rm.ah="at once":=QZq c
         rw[Quq (by rw[c];decide +kernel)] at q
         refine aI (uc (aY (aw rfl (cC (ay (d:=.int p.2) rfl ?_)))))
         refine tH (j:=1) (aw rfl ⟨rfl,rfl⟩) (cC ⟨rfl,rfl⟩) (P.ca A F) (by simp) ?_
         have L:=P.within A F p.2
         have I:=nz (r1:={rs with aa:=rs.aa.set b l,within:=p.2}) F
         refine eg (fH (aY (aw rfl (cC (bK (L.ca A I) (d:=.ref rx.l) rfl ⟨_,_,rfl,L.cl A I,az (aw rfl (aZ ⟨_,L.cl A I,ju (by rw[lQm];show rs.ag.length<999;omega) ?_⟩))⟩)))))
         have Z:=L.ag A I (rs.ag++ [(h:Int)])
         rw[iO,iO] at Z
         unfold cP at Z
         rw[Qzq] at Z
         exact q _ Z
       · have c:rm.ah≠"at once":=QaQ c
         have c2:=N.mn.resolve_left c
         rw[Qhq (Qeq c2)] at q
         exact bX (q _ P)
     · rw[lQm];simp at ll;omega
 |_=>exact C.elim
end
section
variable{lo:Nat}{S0 S:aE}{t:yY}{s:bE}{h i:Nat}{vs:List Int}{fs:List cA}{f:cA}{w:dz}{n:Nat}{sc:Sc}{Q:Res->aE->Prop}
theorem qg{α b:Type}{f:α->List b}:∀{l:List α} {a:α},a∈l->(f a).Sublist (l.flatMap f)
 | x::l,a,h=>by
   rw[QSq]
   rcases Qsq.mp h with rfl|h
   · exact List.sublist_append_left ..
   · exact(qg h).trans (List.sublist_append_right ..)
def Go.nf{x:Cz}(g:Go lo S0 S t s)(c:t.hs[h]?=some x):x.f∉x.fs:=λz=>by
 have a:(Bb x).Sublist (zk t):=((qg (f:=Bb) (mQg c)).trans (List.sublist_append_right ..)).trans ((List.sublist_append_right ..).trans (List.sublist_append_right ..))
 have b:=a.nodup g.n.nd
 unfold Bb at b
 exact(List.nodup_append.mp b).2.2 x.f (by simp) x.f z rfl
def L9{rs:de}{j:List cA}{b:cA}{pr:List Rw}{F:Option Str}{W P:Str}{tr:Tr}(g:Go lo S0 S t s)(o:eY w)(hn:n<=100)(hs:s.af[h]?=some (vs,j++ [b,f]))(X:f.room=i)(p:s.aj[i]?=some rs)(b1:rs.row.length<900)(b2:rs.ag.length<900)
  (x2:dh w n (lP s h)) (K:progOf w h b=some pr) (h1:1<=b.row) (e:pr[(b.row-1).toNat]?=some (.do_ F W P tr)) (q:∀I t',t'.k=t.k->Go lo S0 I t' (p9 w s h)->Q (.d .non) I):Fn nQ [w.d,.ref t.k,.int h] S Q:=by
 obtain⟨x,u⟩:=g.hx hs
 have hf:(j++ [b,f]).getLast? =some f:=by simp
 obtain⟨a,Y,M⟩:=g.last u hs hf
 obtain⟨rx,C⟩:=g.rx p
 have ef:x.fs=x.fs.dropLast++ [a]:=fN Y
 have cf:=g.hf u hs
 have ti:f.room.toNat=i:=by omega
 have e1:=gJ hs
 have e2:=eI hs hf
 have H:=g.pop u hs (by simp)
 have ed:(j++ [b,f]).dropLast=j++ [b]:=by rw[show j++ [b,f]=(j++ [b])++ [f] by simp,List.dropLast_concat]
 rw[ed] at H
 have na:a≠x.f:=λz=>g.nf u (by rw[←z];exact QcQ Y)
 refine Cr ?_
 unfold qY
 refine aI (cK (vD g u hs rfl rfl ?_))
 refine aI (uc (fH (aw rfl ⟨_,_,rfl,cf,aZ ⟨_,cf,?_⟩⟩)))
 rw[ef,Qzq]
 refine JM ?_
 refine DA (ds:= [.int f.room,.int f.deed,.int f.row,.int f.given,.int f.told]) (by rw[QKq (Ne.symm na)];exact M) rfl (aA (aV (aA (aV (aA (aV (aA (aV (aA (aV (bA ?_)))))))))))
 rw[X]
 have v:(t.hs.set h {x with fs:=x.fs.dropLast})[h]?=some {x with fs:=x.fs.dropLast}:=Qyq (gQs.mp u).1
 show T _ _ (S.set x.f (.lst (x.fs.dropLast.map D.ref))) _
 generalize S.set x.f (.lst (x.fs.dropLast.map D.ref))=S1 at H⊢
 refine aI (eg (cj (az (mi H C rfl (aw rfl ⟨rfl,rfl⟩) (aZ ?_)))))
 refine t6 H C p b1 b2 λS2 B=> ?_
 have eo:lP s h=d_ {s with af:=s.af.set h (vs,j++ [b])} i (dt rs):=by
  unfold lP
  rw[e2,e1,ti,dP p]
  show d_ {s with af:=s.af.set h (vs,(j++ [b,f]).dropLast)} i (dt rs)=_
  rw[ed]
 rw[←eo] at B
 have l:(lP s h).af[h]?=some (vs,j++ [b]):=by rw[eo];exact Qyq (gQs.mp hs).1
 have r:(j++ [b]).getLast? =some b:=by simp
 obtain⟨a2,U,m⟩:=B.last v l r
 have J:=B.hf v l
 have le:∀{Z:cB} {R:D->aE->Prop},Z[3]?=some (some (.ref x.f))->R (.ref a2) S2->E (aQ fK (ar 3) (h_ (cF (.int 1)))) Z S2 R:=λh3 q=>aY (aw h3 (j8 (cC ⟨1,rfl,bK J (ym U) q⟩)))
 refine aI (cK (aY (cj (az (aw rfl (az (aw rfl (az (le rfl (aZ ?_))))))))))
 refine t8 m K ?_
 refine aY (aY (le rfl (cC (bK m (d:=.int b.row) rfl (cC (gB ?_))))))
 refine ay (d:=(Rw.do_ F W P tr).d) (iL (by omega) (by rw[gQm,e];rfl)) ?_
 refine bO (cG (aY (aY (aw rfl (cC (ay (d:=HU F) rfl (cC (E2 ?_))))))))
 have eb:Iy w (lP s h) h=some (.do_ F W P tr):=by
  unfold Iy
  rw[eI l r,K]
  exact e
 cases F with
 | none=>
   refine wD (aK (λc=>by cases c) (λ_=>bX (q _ {t with hs:=t.hs.set h {x with fs:=x.fs.dropLast}} rfl ?_)))
   have L:p9 w s h=lP s h:=by unfold p9;rw[eb]
   rw[L]
   exact B
 | some y=>
   refine wD (aK (λ_=> ?_) (λc=>by cases c))
   have L:p9 w s h=mU w (lP s h) h y f.told:=by unfold p9;rw[eb,e2]
   rw[L] at q
   obtain⟨a0,A,G⟩:=Cc o K
   have N:=G _ (mQg e)
   refine eg (cj (az (aw rfl (az (aw rfl (az (aw rfl (az (aY (aw rfl (cC (ay (d:=.str y) rfl (az (aw rfl (aZ ?_)))))))))))))))
   exact IT (t:={t with hs:=t.hs.set h {x with fs:=x.fs.dropLast}}) B o x2 l r A (N.1 y rfl) λI g'=>q _ {t with hs:=t.hs.set h {x with fs:=x.fs.dropLast}} rfl g'
def Gq{tr:Tr}(hs:s.af[h]?=some (vs,fs))(a:fs.getLast? =some f):cW w (iy s h) h tr=cW w s h tr:=by
 have c:=(gQs.mp hs).1
 have b:(iy s h).af[h]?=some (vs,fs.dropLast++ [{f with row:=f.row+1}]):=by unfold iy;rw[eI hs a,gU hs];exact Qyq c
 unfold cW
 rw[eI hs a,eI b (f:={f with row:=f.row+1}) (by simp),gJ b,gJ hs]
 rfl
end
section
variable{lo:Nat}{S0 S:aE}{t:yY}{s:bE}{h i:Nat}{vs:List Int}{fs:List cA}{f:cA}{w:dz}{n:Nat}{sc:Sc}{Q:Res->aE->Prop}
def NX:∀a:Rm,∃r,Rm.d a=.tup (.str a.name::r):=λ_=>⟨_,rfl⟩
def Ni:∀a:Str×List Rw,∃r,hX a=.tup (.str a.1::r):=λ_=>⟨_,rfl⟩
def fY{c:cB}{a b:Str}{l:List D}{A B:cE}{R:Out->Prop}(h:c[3]?=some (some (.tup (.str a::l))))(n:a≠b)(q:T B c S R):T (c9 (aG (aQ (du false) (aQ fK (ar 3) (cF (.int 0))) (cF (.str b)))) A B) c S R:=bO (iA h (by rw[Qdq n];exact q))
def xQ{b:cB}{a:Str}{l:List D}{A B:cE}{R:Out->Prop}(h:b[3]?=some (some (.tup (.str a::l))))(q:T A b S R):T (c9 (aG (aQ (du false) (aQ fK (ar 3) (cF (.int 0))) (cF (.str a)))) A B) b S R:=bO (iA h (by rw[Qeq rfl];exact q))
def KB{c:cB}{a:Str}{l:List D}{A B:cE}{R:Out->Prop}{b:Bool}(h:c[3]?=some (some (.tup (.str a::l))))(e:decide (a∈(["wait","call","all"]:List Str))=b)(q:if b=true then T A c S R else T B c S R):T (c9 (aG (BM false (aQ fK (ar 3) (cF (.int 0))) (aR (bg (aq (cF (.str "wait")) (aq (cF (.str "call")) (aq (cF (.str "all")) av))))))) A B) c S R:=by
 refine bO (cG (zp (aY (aw h (cC (ay (d:=.str a) Bw (bV (sR (az (cC (az (cC (az (cC (aZ ⟨by show 3<=_;decide,cy ⟨_,_,rfl,gL ["wait","call","all"],?_⟩⟩)))))))))))))))
 rw[Af]
 show if decide _=true then _ else _
 rw[e]
 exact q
def KE{r:Rw}{pr:List Rw}(g:Go lo S0 S t s)(nn:Nn s)(o:eY w)(x:dh w n s)(hn:n<=100)(hs:s.af[h]?=some (vs,fs))(N:fs.getLast? =some f)(hp:progOf w h f=some pr)(h1:1<=f.row)(a0:pr[(f.row-1).toNat]?=some r)
  (q:∀W t',t'.k=t.k->Go lo S0 W t' (lO w s h r)->Q (.d (MT h (CY w s h r))) W):Fn j7 [w.d,.ref t.k,.int h,r.d] S Q:=by
 obtain⟨sc,C,a4⟩:=Cc o hp
 have e:=a4 r (mQg a0)
 obtain⟨hd,H⟩:=g.hx hs
 obtain⟨a,ha,P⟩:=g.last H hs N
 obtain⟨ts,Z,hw,hi⟩:=x.whand hs
 have fi:=hi.fr f (QcQ N)
 have e1:=gJ hs
 have e2:=eI hs N
 have b1:=o.l1
 have lr:=x.lr
 have lf:=hi.lf
 obtain⟨rk,b0⟩:=r.d_kind
 have A:sc.own=false->∃(i:Nat) (r:Rm) (M:de),f.room=i/\w.aj[i]?=some r/\s.aj[i]?=some M/\xq (aU w.aj) r/\sc.bs=r.aa.map (·.1):=λho=>by
  rcases fJ C with⟨c,a2,Z,a3,rfl⟩|⟨c,r,hr,rfl⟩
  ·cases ho
  ·obtain⟨M,p,ri⟩:=x.wroom hr
   exact⟨_,r,M,gF fi c,hr,p,o.rm r (mQg hr),rfl⟩
 have G:sc.own=true->sc.ts=w.ai.map (·.1):=λho=>by
  rcases fJ C with⟨c,a2,Z,a3,rfl⟩|⟨c,r,hr,rfl⟩
  ·rfl
  ·cases ho
 have B:∀{Γ:cB} {k:Int} {tr:Tr} {R:D->aE->Prop},Γ[0]?=some (some w.d)->Γ[1]?=some (some (.ref t.k))->Γ[2]?=some (some (.int h))->Γ[3]?=some (some r.d)->(∃l,r.d=.tup l/\kj l k=some tr.d)->EY sc tr->R (.int (cW w s h tr)) S→
   E (ax cM (aq (ar 0) (aq (ar 1) (aq (ar 2) (aq (aQ fK (ar 3) (cF (.int k))) av))))) Γ S R:=λz0 z1 z2 z3 hk ht q=>by
  obtain⟨l,hl,hk⟩:=hk
  rw[hl] at z3
  exact cj (az (aw z0 (az (aw z1 (az (aw z2 (az (aY (aw z3 (cC (ay hk (aZ (xG g o x hs N C ht q)))))))))))))
 have I:∀f':cA,Go lo S0 (S.set a (qW f')) t (Dh s h f'):=λf'=>by rw[gU hs];exact g.frame H hs ha N f'
 refine Cr ?_
 unfold sr
 refine aI (cK (nJ g H hs ha rfl rfl ?_))
 cases r with
 | put y tr=>
   refine aI (xQ (a:="put") rfl ?_)
   refine eg (cj (az (aw rfl (az (aw rfl (az (aw rfl (az (aY (aw rfl (cC (ay (d:=.str y) rfl (az (B (tr:=tr) rfl rfl rfl rfl ⟨_,rfl,rfl⟩ e.2 (aZ ?_)))))))))))))))
   apply IT g o x hs N C e.1 λW U=> ?_
   exact q _ t rfl U
 | unl tr m=>
   refine aI (fY (a:="unless") rfl (by decide +kernel) ?_)
   refine xQ (a:="unless") rfl ?_
   refine bO (cG (aY (B (tr:=tr) rfl rfl rfl rfl ⟨_,rfl,rfl⟩ e.1 (cC (dR ?_)))))
   have q:=q
   simp only[lO] at q
   refine aK (λc=> ?_) (λc=>bX ?_)
   · rw[Qhq (QZq c),e2] at q
     refine uc (aY (aw rfl (cC (ay (d:=.int m) rfl ?_))))
     apply tH (j:=2) (aw rfl ⟨rfl,rfl⟩) (cC ⟨rfl,rfl⟩) P (by simp) ?_
     exact q _ t rfl (I {f with row:=m})
   · rw[Quq (QaQ c)] at q
     symm
     exact q _ t rfl g
 | go m=>
   refine aI (fY (a:="go") rfl (by decide +kernel) ?_)
   refine fY (a:="go") rfl (by decide +kernel) ?_
   refine xQ (a:="go") rfl ?_
   have q:=q
   simp only[lO,e2] at q
   refine uc (aY (aw rfl (cC (ay (d:=.int m) rfl ?_))))
   apply tH (j:=2) (aw rfl ⟨rfl,rfl⟩) (cC ⟨rfl,rfl⟩) P (by simp) ?_
   exact q _ t rfl (I {f with row:=m})
 | do_ gg rn dn tr=>
   have a8:sc.gs=aU w.aj:=by
     rcases fJ C with⟨c,a2,Z,a3,rfl⟩|⟨c,r,hr,rfl⟩ <;>rfl
   have a1:=e.2.1
   rw[a8] at a1
   obtain⟨a6,Y,u,a5⟩:=Eu o a1
   obtain⟨M,p,ri⟩:=x.wroom u
   have L:=o.rm Y (mQg u)
   have b5:=L.l3
   have br:=ri.br
   obtain⟨rx,X⟩:=g.rx p
   refine aI (fY (a:="do") rfl (by decide +kernel) ?_)
   refine fY (a:="do") rfl (by decide +kernel) ?_
   refine fY (a:="do") rfl (by decide +kernel) ?_
   refine xQ (a:="do") rfl ?_
   refine aI (cK (B (tr:=tr) rfl rfl rfl rfl ⟨_,rfl,rfl⟩ e.2.2 ?_))
   refine aI (cK (cj (az (aY (aw rfl (cC (ay (d:=.tup (w.aj.map Rm.d)) rfl (az (aY (aw rfl (cC (ay (d:=.str rn) rfl (aZ ?_)))))))))))))
   refine nH NX (by omega) a6 ?_
   have q:=q
   have er:lO w s h (.do_ gg rn dn tr)=d_ {s with af:=s.af.set h (vs,fs++ [⟨(fB (w.aj.map (·.name)) rn:Nat),(fB (Y.ae.map (·.1)) dn:Nat),0,cW w s h tr,0⟩])} (fB (w.aj.map (·.name)) rn) (gD M h):=by simp only[lO,e1,ia u,dP p]
   rw[er] at q
   generalize fB (w.aj.map (·.name)) rn=i at u p X q⊢
   generalize cW w s h tr=v at q⊢
   have cf:=g.hf H hs
   refine aI (eg (fH (vD g H hs rfl rfl ⟨_,_,rfl,cf,?_⟩)))
   refine az (dY (dE (az (aw rfl (az (cj (az (aY (uL (k:=0) u rfl (aw rfl ⟨rfl,rfl⟩) (cC (ay (d:=.tup (Y.ae.map hX)) rfl (az (aY (aw rfl (cC (ay (d:=.str dn) rfl (aZ ?_)))))))))))))))))
   refine nH Ni (by omega) a5 ?_
   generalize fB (Y.ae.map (·.1)) dn=dd at q⊢
   refine az (cC (az (aw rfl (az (cC (aZ ⟨by show 5<=_;decide,aZ ⟨_,aO cf,?_⟩⟩))))))
   have lx:=g.lf H hs
   refine ju (by rw[lQm];omega) ?_
   have g1:=g.push H hs ⟨i,dd,0,v,0⟩
   rw[Qzq] at g1
   refine eg (cj (az (mi g1 X rfl (aw rfl ⟨rfl,rfl⟩) (az (aw rfl (aZ ?_))))))
   apply AZ g1 X p (nn M (mQg p)).w (by omega) λW g2=> ?_
   exact q _ {t with hs:=t.hs.set h {hd with fs:=hd.fs++ [S.length]}} rfl g2
 | tell tr=>
   refine aI (fY (a:="tell") rfl (by decide +kernel) ?_)
   refine fY (a:="tell") rfl (by decide +kernel) ?_
   refine fY (a:="tell") rfl (by decide +kernel) ?_
   refine fY (a:="tell") rfl (by decide +kernel) ?_
   refine xQ (a:="tell") rfl ?_
   have q:=q
   simp only[lO,e2] at q
   refine uc (B (tr:=tr) rfl rfl rfl rfl ⟨_,rfl,rfl⟩ e.2 ?_)
   apply tH (j:=4) (aw rfl ⟨rfl,rfl⟩) (cC ⟨rfl,rfl⟩) P (by simp) ?_
   exact q _ t rfl (I {f with told:=cW w s h tr})
 | wait y tr=>
   obtain⟨i,Y,M,K,u,p,L,J⟩:=A e.1
   have F:y∈sc.bs:=e.2.1
   rw[J] at F
   refine aI (fY (a:="wait") rfl (by decide +kernel) ?_)
   refine fY (a:="wait") rfl (by decide +kernel) ?_
   refine fY (a:="wait") rfl (by decide +kernel) ?_
   refine fY (a:="wait") rfl (by decide +kernel) ?_
   refine fY (a:="wait") rfl (by decide +kernel) ?_
   refine KB (a:="wait") (b:=true) rfl (by decide +kernel) ?_
   rw[Qhq rfl]
   refine eg (cj (az (aw rfl (az (aw rfl (az (aw rfl (az (aw rfl (aZ ?_))))))))))
   apply y8 (y:=y) g o x hn hs N C K u p F ⟨rfl,e.2.2⟩ λW U=> ?_
   exact q _ t rfl U
 | call y=>
   obtain⟨i,Y,M,K,u,p,L,J⟩:=A e.1
   have F:y∈sc.bs:=e.2
   rw[J] at F
   refine aI (fY (a:="call") rfl (by decide +kernel) ?_)
   refine fY (a:="call") rfl (by decide +kernel) ?_
   refine fY (a:="call") rfl (by decide +kernel) ?_
   refine fY (a:="call") rfl (by decide +kernel) ?_
   refine fY (a:="call") rfl (by decide +kernel) ?_
   refine KB (a:="call") (b:=true) rfl (by decide +kernel) ?_
   rw[Qhq rfl]
   refine eg (cj (az (aw rfl (az (aw rfl (az (aw rfl (az (aw rfl (aZ ?_))))))))))
   apply y8 (y:=y) g o x hn hs N C K u p F rfl λW U=> ?_
   exact q _ t rfl U
 | all y=>
   obtain⟨i,Y,M,K,u,p,L,J⟩:=A e.1
   have F:y∈sc.bs:=e.2
   rw[J] at F
   refine aI (fY (a:="all") rfl (by decide +kernel) ?_)
   refine fY (a:="all") rfl (by decide +kernel) ?_
   refine fY (a:="all") rfl (by decide +kernel) ?_
   refine fY (a:="all") rfl (by decide +kernel) ?_
   refine fY (a:="all") rfl (by decide +kernel) ?_
   refine KB (a:="all") (b:=true) rfl (by decide +kernel) ?_
   rw[Qhq rfl]
   refine eg (cj (az (aw rfl (az (aw rfl (az (aw rfl (az (aw rfl (aZ ?_))))))))))
   apply y8 (y:=y) g o x hn hs N C K u p F rfl λW U=> ?_
   exact q _ t rfl U
 | say tr=>
   refine aI (fY (a:="say") rfl (by decide +kernel) ?_)
   refine fY (a:="say") rfl (by decide +kernel) ?_
   refine fY (a:="say") rfl (by decide +kernel) ?_
   refine fY (a:="say") rfl (by decide +kernel) ?_
   refine fY (a:="say") rfl (by decide +kernel) ?_
   refine KB (a:="say") (b:=false) rfl (by decide +kernel) ?_
   rw[Quq (by decide)]
   refine xQ (a:="say") rfl ?_
   refine eX (sR (az (aw rfl (az (B (tr:=tr) rfl rfl rfl rfl ⟨_,rfl,rfl⟩ e.2 (aZ ⟨by show 2<=_;decide,?_⟩))))))
   exact q _ t rfl g
 | take y=>
   have F:=e.2
   rw[G e.1] at F
   exact(rp o F).elim
 | give y=>
   have F:=e.2
   rw[G e.1] at F
   exact(rp o F).elim
 | pass y z=>
   have F:=e.2.1
   rw[G e.1] at F
   exact(rp o F).elim
end
section
variable{lo:Nat}{S0 S:aE}{t:yY}{s:bE}{h i:Nat}{vs:List Int}{fs:List cA}{f:cA}{w:dz}{n:Nat}{sc:Sc}{Q:Res->aE->Prop}
def HH(g:Go lo S0 S t s)(nn:Nn s)(o:eY w)(x:dh w n s)(hn:n<=100)(hm:h∈qp w s)(q:∀u t',t'.k=t.k->Go lo S0 u t' (eP w s h).1->Q (.d (MT h (eP w s h).2)) u):Fn k8 [w.d,.ref t.k,.int h] S Q:=by
 have N:h<s.af.length:=List.mem_range.mp (List.mem_filter.mp hm).1
 obtain⟨⟨vs,fs⟩,y⟩:∃p,s.af[h]?=some p:=⟨_,gQe N⟩
 obtain⟨ts,a8,hw,hi⟩:=x.whand y
 obtain⟨f,G,fi⟩:=hi.last
 obtain⟨pr,C,a6,a4⟩:=fi.pr
 obtain⟨hd,I⟩:=g.hx y
 obtain⟨a,ha,e⟩:=g.last I y G
 have e1:=gJ y
 have B:=eI y G
 have nb:¬(f.room= -1/\f.row=pr.length):=by
  rintro⟨c1,c2⟩
  have:=(List.mem_filter.mp hm).2
  rw[QCq] at this
  have hb:iP w s h=true:=by
   unfold iP Bd
   rw[y]
   show(match fs.getLast? with|some f=>_|none=>_)=_
   rw[G]
   simp only[C,Option.getD_some,c1,c2,decide_true,Bool.and_true]
  rw[hb] at this
  exact absurd this.2 (by decide)
 have x2:f.row<pr.length->dh w n (iy s h):=λc=>by
  unfold iy
  rw[B,gU y]
  exact x.goes y G C (by omega) (by omega)
 have gn:Go lo S0 (S.set a (qW {f with row:=f.row+1})) t (iy s h):=by
  unfold iy
  rw[B,gU y]
  exact g.frame I y ha G _
 have Eh:(iy s h).af[h]?=some (vs,fs.dropLast++ [{f with row:=f.row+1}]):=by unfold iy;rw[B,gU y];exact Qyq N
 refine Cr ?_
 unfold pV
 refine aI (cK (nJ g I y ha rfl rfl ?_))
 refine aI (cK (cj (az (aw rfl (az (aw rfl (az (aw rfl (aZ ?_)))))))))
 refine t8 e C ?_
 have row:∀r,f.row<pr.length->pr[f.row.toNat]?=some r->eP w s h=(lO w (iy s h) h r,CY w s h r)->T (aD (ko (aQ cz (aQ fK (ar 3) (cF (.int 2))) (cF (.int 1))) (wO (ar 3) (cF (.int 2)))) (cx (ax j7 (aq (ar 0) (aq (ar 1) (aq (ar 2) (aq (aQ fK (ar 4) (aQ jE (aQ fK (ar 3) (cF (.int 2))) (cF (.int 1)))) av))))))) [some w.d,some (.ref t.k),some (.int h),some (.ref a),some (.tup (pr.map Rw.d))] S (λo=>match o with
   |.nx a0 S1=>T (cx (cF .non)) a0 S1 (λo=>match o with|.nx _ u=>Q (.d .non) u|.rt d u=>Q (.d d) u|.rl l u=>Q (.l l) u|_=>False)|o=>match o with|.nx _ u=>Q (.d .non) u|.rt d u=>Q (.d d) u|.rl l u=>Q (.l l) u|_=>False):=λr H b M=>by
  refine aI (uc (aY (g6 e rfl (v:=f.row) rfl (cC (KI ?_)))))
  refine tH (j:=2) (aw rfl ⟨rfl,rfl⟩) (cC ⟨rfl,rfl⟩) e (by simp) ?_
  have F:(S.set a (qW {f with row:=f.row+1}))[a]?=some (qW {f with row:=f.row+1}):=Qyq (gQs.mp e).1
  show T _ _ (S.set a (qW {f with row:=f.row+1})) _
  generalize S.set a (qW {f with row:=f.row+1})=S1 at gn F⊢
  refine eX (cj (az (aw rfl (az (aw rfl (az (aw rfl (az (aY (aw rfl (aY (g6 F rfl (v:=f.row+1) rfl (cC (gB ?_))))))))))))))
  refine ay (d:=r.d) (iL (by omega) (by rw[show f.row+1-1=f.row by omega,gQm,b];rfl)) (aZ ?_)
  refine KE (r:=r) (pr:=pr) (f:={f with row:=f.row+1}) gn (show Nn (iy s h) from nn) o (x2 H) hn Eh (by simp) C (by show 1<=f.row+1;omega) (by show pr[(f.row+1-1).toNat]?=_;rw[show f.row+1-1=f.row by omega];exact b) λu t' ht L=> ?_
  have es:CY w (iy s h) h r=CY w s h r:=by
   cases r with
   |say tr=>exact congrArg some (Gq y G)
   |_=>rfl
  rw[es]
  rw[M] at q
  exact q u t' ht L
 by_cases c:f.room= -1
 ·
  have H:f.row<pr.length:=by
   have:f.row≠pr.length:=λz=>nb ⟨c,z⟩
   omega
  have b:pr[f.row.toNat]?=some (pr[f.row.toNat]'(by omega)):=gQe (by omega)
  generalize pr[f.row.toNat]'(by omega)=r at b
  refine aI (bO (pE (cG (aY (g6 e rfl (v:=f.room) rfl (cC (gB ?_)))))))
  rw[c]
  refine wD (aK (λz=>by cases z) (λ_=> ?_))
  refine aK (λz=>by cases z) (λ_=> ?_)
  refine bO (cG (aY (g6 e rfl (v:=f.row) rfl (x9 (bV (aw rfl (cy (dR ?_))))))))
  rw[lQm]
  refine aK (λz=>by have:=QZq z;omega) (λ_=> ?_)
  refine row r H b ?_
  unfold eP
  rw[B,Quq (λz=>z.1 c),C]
  simp only
  rw[Quq (by omega),b]
 ·rcases i8 C with⟨c',_⟩|⟨i,j,rm,dn,h1,h2,h3,h4⟩
  ·exact absurd c' c
  obtain⟨K,m,ri⟩:=x.wroom h3
  have br:=ri.br
  have bl:=ri.bl
  have ti:f.room.toNat=i:=by omega
  obtain⟨rx,A⟩:=g.rx m
  have he:∀{Γ:cB},Γ[3]?=some (some (.ref a))->E (aQ fK (ar 3) (cF (.int 0))) Γ S λd S1=>d=.int i/\S1=S:=λz=>g6 e z (v:=f.room) rfl ⟨by rw[h1],rfl⟩
  refine aI (bO (pE (cG (aY (g6 e rfl (v:=f.room) rfl (cC (gB ?_)))))))
  refine aK (λ_=> ?_) (λz=>by have:=QaQ z;omega)
  refine cG (aY (aY (mi g A rfl (he rfl) (cC (bK (g.ca A m) (d:=.int K.within) rfl (aw rfl (mL ?_)))))))
  by_cases R:K.within=h
  ·rw[Qeq R]
   refine wD (aK (λz=>by cases z) (λ_=> ?_))
   refine bO (cG (aY (g6 e rfl (v:=f.row) rfl (x9 (bV (aw rfl (cy (dR ?_))))))))
   rw[lQm]
   by_cases Z:f.row=pr.length
   ·rw[Qeq Z]
    refine wD (aK (λ_=> ?_) (λz=>by cases z))
    have W:=fN G
    have P:=hi.hd
    rw[W] at P
    obtain⟨X,Y,hg⟩:=P.two c
    have J:fs=X++ [Y,f]:=by rw[W,hg];simp
    have U:=hi
    rw[J] at U
    obtain⟨a2,a1⟩:=U.pop
    obtain⟨a3,gg,rn,a5,tr,p1,p2,p3⟩:=a1
    have eo:lP s h={s with aj:=s.aj.set i (dt K),af:=s.af.set h (vs,X++ [Y])}:=by
     unfold lP
     rw[B,e1,ti,dP m]
     simp only[d_]
     rw[J,show X++ [Y,f]=(X++ [Y])++ [f] by simp,List.dropLast_concat]
    have xo:dh w n (lP s h):=by rw[eo];exact(x.hand hw a2).room h3 ri.leave
    have M:eP w s h=(p9 w s h,none):=by
     unfold eP
     rw[B,ti,dP m,Quq (λz=>z.2 R),C]
     simp only
     rw[Qhq Z]
    rw[M] at q
    refine eg (cj (az (aw rfl (az (aw rfl (az (aw rfl (aZ ?_))))))))
    apply L9 g o hn (by rw[y,J]) h1 m (by omega) (by omega) xo p1 p2 p3 λu t' ht L=> ?_
    exact q _ t' ht L
   ·rw[Qdq Z]
    refine wD (aK (λz=>by cases z) (λ_=> ?_))
    have b:pr[f.row.toNat]?=some (pr[f.row.toNat]'(by omega)):=gQe (by omega)
    generalize pr[f.row.toNat]'(by omega)=r' at b
    refine row r' (by omega) b ?_
    unfold eP
    rw[B,ti,dP m,Quq (λz=>z.2 R),C]
    simp only
    rw[Quq Z,b]
  ·rw[Qdq R]
   refine wD (aK (λ_=> ?_) (λz=>by cases z))
   have M:eP w s h=(d_ s i (gD K h),none):=by
    unfold eP
    rw[B,ti,dP m,Qhq ⟨c,R⟩]
   rw[M] at q
   refine eg (cj (az (mi g A rfl (he rfl) (az (aw rfl (aZ ?_))))))
   apply AZ g A m (nn K (mQg m)).w (by omega) λu L=> ?_
   exact q _ t rfl L
end
end W28
namespace DL
open PySem PySem.Spec L2
def K_{b:cB}{S:aE}{f:fu}{Q:D->aE->Prop}(h:E f b S λp a=>p.2.isL=true/\∃bs,HA p.1=some bs/\Q (.bl (bs.any id)) a):E (KA f) b S Q:=by
 obtain⟨p,a,c,l,bs,d,q⟩:=h
 exact⟨_,a,by unfold KA;rw[c];simp only[Qbq];rw[Qhq l,d];rfl,q⟩
theorem Fe{α:Type}{f:α->Bool}:∀xs:List α,HA (xs.map λa=>D.bl (f a))=some (xs.map f)
 | []=>rfl
 |a::xs=>by simp only[QDq,HA];rw[Fe xs];rfl
end DL
namespace W28
open PySem PySem.Spec L2 DL
section
variable{lo:Nat}{S0 S:aE}{t:yY}{s:bE}{h i:Nat}{w:dz}{n:Nat}{Q:Res->aE->Prop}
def Go.ref_at{j:Nat}{d:D}(g:Go lo S0 S t s)(hd:(t.rs.map λx=>D.ref x.a)[j]?=some d):∃x r,t.rs[j]?=some x/\s.aj[j]?=some r/\d=.ref x.a:=by
 rw[gQm] at hd
 obtain⟨x,b,rfl⟩:=oQm.mp hd
 exact⟨x,_,b,gQe (by rw[←g.n.lr];exact(gQs.mp b).1),rfl⟩
def AI(g:Go lo S0 S t s)(o:eY w)(x:dh w n s)(hn:n<=100)(q:Q (.d (.bl (decide ((h:Int)∈held s)))) S):Fn gk [.ref t.k,.int h] S Q:=by
 have b2:=o.l2
 have lp:=x.lp
 have lr:=x.lr
 refine bZ ?_
 unfold i7
 have C:(h:Int)∈held s->Op (settle S (.bl true) S) λp=>Q p.1 p.2:=λz=>by
  rw[Qeq z] at q
  exact cV (λk z=>(nomatch z)) rfl q
 have G:∀{j:Nat} {r:de},s.aj[j]?=some r->(h:Int)∈ie r->(h:Int)∈held s:=λA z=>mQa.mpr (.inr (QOq.mpr ⟨_,mQg A,z⟩))
 refine aI (hV (j_ (bV (aY (aw rfl (cC (bK g.n.top (d:=.ref t.r) rfl (a_ g.n.tr ?_))))))))
 refine⟨λj u B=>(∃a b c d e f,u= [some (.ref t.k),some (.int h),a,b,c,d,e,f])/\B=S/\∀k r,k<j->s.aj[k]?=some r->(h:Int)∉ie r,⟨⟨_,_,_,_,_,_,rfl⟩,rfl,λk r M=>by omega⟩,λ_ _ _ z=>by rw[z.2.1];exact g.n.tr,?_,?_⟩
 ·rintro j d u B P ⟨⟨a,b,c,d',e,f,rfl⟩,hSS,F⟩
  subst B
  obtain⟨y,r,R,A,rfl⟩:=g.ref_at P
  have U:w.aj[j]?=some (w.aj[j]'(by have:=(gQs.mp A).1;omega)):=gQe _
  have Z:=x.rm j _ r U A
  have b6:=(o.rm _ (mQg U)).l2
  have k1:=Z.br
  have Y:=Z.bl
  have k3:=Z.lb
  have lz:=g.lb R A
  refine DA (g.ca R A) rfl (aA (aV (aA (aV (aA (aV (aA (aV (aA (aV (bA ?_)))))))))))
  have cr:=g.cr R A
  have cl:=g.cl R A
  have cb:=g.cb R A
  refine aI (bO (cG (zp (aw rfl (qA (yb (bV (aw rfl (a_ cr (bV (aw rfl (a_ cl ?_))))))))))))
  refine⟨⟨rfl,rfl,cr,by rw[lQm,lQm];exact QAq (show _<=200 by omega) (by decide)⟩,_,_,rfl,by rw[←Qzq];exact fO _,?_⟩
  rw[nX]
  refine aK (λz=> ?_) (λz=>bX ?_)
  ·symm
   exact C (G A (mQa.mpr (.inl (QZq z))))
  have z:(h:Int)∉r.row++r.ag:=QaQ z
  refine hV (j_ (bV (aw rfl (a_ cb ?_))))
  refine⟨λm u B=>(∃f,u= [some (.ref t.k),some (.int h),some (.ref y.v),some (.int r.within),some (.ref y.r),some (.ref y.l),some (.ref y.b),f])/\B=S/\∀k l,k<m->r.aa[k]?=some l->(h:Int)∉l.map (·.2),⟨⟨_,rfl⟩,rfl,λk r M=>by omega⟩,λ_ _ _ z=>by rw[z.2.1];exact cb,?_,?_⟩
  ·rintro m d u B P ⟨⟨f,rfl⟩,hSS,hno2⟩
   subst B
   have P:(y.bs.map D.ref)[m]?=some d:=P
   rw[gQm] at P
   obtain⟨ba,X,rfl⟩:=oQm.mp P
   obtain⟨l,N⟩:∃l,r.aa[m]?=some l:=⟨_,gQe (by have:=(gQs.mp X).1;omega)⟩
   have W:=g.cbs R A X N
   have ll:=Z.bb l (mQg N)
   refine aV (bO (cG (zp (aw rfl (qA ?_)))))
   refine nI (α:=Int×Int) (λu=>∃a b,u= [a,b]) pairD (λp=>.int p.2) (λ_=>true) ⟨none,none,rfl⟩ ?_
   refine j_ (bV (aw rfl (a_ W ⟨l,rfl,W,by omega,λp L u H=> ?_,?_⟩)))
   ·obtain⟨a,b,rfl⟩:=H
    refine f_ rfl (aA (aV (aA (aV (bA ⟨rfl,⟨_,_,rfl⟩,mR ⟨rfl,rfl,λ_=>aw rfl ⟨rfl,rfl⟩⟩⟩)))))
   have el:(l.filter λ_=>true).map (λp=>D.int p.2)=(l.map (·.2)).map D.int:=by rw[List.filter_eq_self.mpr (λ_ _=>rfl),QPq];rfl
   refine⟨_,_,rfl,by rw[el];exact fO _,?_⟩
   rw[nX]
   refine aK (λz=> ?_) (λz=>bX ?_)
   ·symm
    exact C (G A (mQa.mpr (.inr (QOq.mpr ⟨l,mQg N,QZq z⟩))))
   ·refine⟨⟨_,rfl⟩,rfl,λk l' M I=> ?_⟩
    by_cases e:k=m
    ·subst e
     rw[N] at I
     cases I
     exact QaQ z
    ·exact hno2 k l' (by omega) I
  ·rintro u B ⟨⟨f,rfl⟩,hSS,hno2⟩
   subst B
   refine⟨⟨_,_,_,_,_,_,rfl⟩,rfl,λk r' M K=> ?_⟩
   by_cases e:k=j
   ·subst e
    rw[A] at K
    cases K
    intro J
    rcases mQa.mp J with J|J
    ·exact z J
    ·obtain⟨l,N,J⟩:=QOq.mp J
     obtain⟨m,hm,e⟩:=QbQ N
     exact hno2 m l (by show m<(y.bs.map D.ref).length;rw[lQm];omega) (by rw[gQe hm,e]) J
   ·exact F k r' (by omega) K
 ·rintro u B ⟨⟨a,b,c,d',e,f,rfl⟩,hSS,F⟩
  subst B
  have F:∀r∈s.aj,(h:Int)∉ie r:=λr A=>by
   obtain⟨k,M,e⟩:=QbQ A
   exact F k r (by show k<(t.rs.map _).length;rw[lQm,g.n.lr];exact M) (by rw[gQe M,e])
  refine eX (K_ (qA ?_))
  have a1:=g.n.lp
  refine nI (α:=GB×(Int×List Int)) (λu=>∃a b,u= [a,b,some (.int h)]) (λp=>.ref p.1.a) (λp=>.bl (decide ((h:Int)∈p.2.2))) (λ_=>true) ⟨none,none,rfl⟩ ?_
  refine j_ (bV (aY (aw rfl (cC (bK g.n.top (d:=.ref t.p) rfl (a_ g.n.tp ⟨t.ps.zip s.ai,?_,g.n.tp,by rw[List.length_zip];omega,λp L u H=> ?_,?_⟩))))))
  ·show t.ps.map (λx=>D.ref x.a)=(t.ps.zip s.ai).map ((λx:GB=>D.ref x.a)∘Prod.fst)
   rw[←QPq,List.map_fst_zip (by omega)]
  ·obtain⟨a,b,rfl⟩:=H
   obtain⟨m,k1,Y⟩:=jD L
   refine DA (g.pa k1 Y) rfl (aA (aV (aA (aV (bA ⟨rfl,⟨_,_,rfl⟩,mR ⟨rfl,rfl,λ_=> ?_⟩⟩)))))
   refine zp (aw rfl (bV (aw rfl (a_ (g.pr k1 Y) ⟨_,_,rfl,fO _,?_⟩))))
   rw[nX]
   exact⟨rfl,rfl⟩
  ·refine⟨rfl,_,by rw[List.filter_eq_self.mpr (λ_ _=>rfl)];exact Fe _,?_⟩
   have e:((t.ps.zip s.ai).map λp=>decide ((h:Int)∈p.2.2)).any id=decide ((h:Int)∈held s):=by
    rw[Bool.eq_iff_iff,List.any_eq_true,decide_eq_true_iff]
    constructor
    ·rintro⟨b,hb,a0⟩
     obtain⟨p,L,rfl⟩:=Qkq.mp hb
     obtain⟨m,_,Y⟩:=jD L
     exact mQa.mpr (.inl (QOq.mpr ⟨p.2,mQg Y,QZq a0⟩))
    ·intro z
     rcases mQa.mp z with z|z
     ·obtain⟨p,L,z⟩:=QOq.mp z
      obtain⟨m,hm,e⟩:=QbQ L
      refine⟨true,Qkq.mpr ⟨(t.ps[m]'(by omega),p),cJ (i:=m) (gQe _) (by rw[gQe hm,e]),Qeq z⟩,rfl⟩
     ·obtain⟨r,A,z⟩:=QOq.mp z
      exact absurd z (F r A)
   rw[e]
   exact cV (λk z=>(nomatch z)) rfl q
end
section
variable{lo:Nat}{S0 S:aE}{t:yY}{s:bE}{h i:Nat}{w:dz}{n:Nat}{Q:Res->aE->Prop}
def Kl(g:Go lo S0 S t s)(o:eY w)(x:dh w n s)(W:n<=100)(q:Q (.l ((qp w s).map lX)) S):Fn nL [w.d,.ref t.k] S Q:=by
 have b4:=o.l4
 have lh:=x.lh
 refine bZ ?_
 unfold r_
 refine aI (cK (dY (dE (aZ ⟨by decide,?_⟩))))
 refine aI (hV (HZ (x9 (bV (aY (aw rfl (cC (ay (d:=.tup (w.af.map eW)) rfl (cy ?_)))))))))
 refine⟨(w.af.length:Nat),by rw[lQm],by omega,?_⟩
 refine⟨λj e F=>(∃a b c,e= [some w.d,some (.ref t.k),some (.ref S.length),a,b,c])/\F=S++ [.lst (((List.range j).filter λh:Nat=> !decide ((h:Int)∈held s)&& !iP w s h).map lX)],⟨⟨_,_,_,rfl⟩,rfl⟩,λ_ _ _ _=>trivial,?_,?_⟩
 ·rintro j d e F hd ⟨⟨a,b,c,rfl⟩,rfl⟩
  obtain⟨rfl,hj⟩:=vO hd
  obtain⟨⟨vs,fs⟩,u⟩:∃p,s.af[j]?=some p:=⟨_,gQe (by omega)⟩
  obtain⟨X,C,K,Y⟩:=x.whand u
  obtain⟨f,N,fi⟩:=Y.last
  have B:=g.app (G:= [.lst (((List.range j).filter λh:Nat=> !decide ((h:Int)∈held s)&& !iP w s h).map lX)])
  obtain⟨a0,A⟩:=g.hx u
  obtain⟨Z,P,m⟩:=B.last A u N
  have r:((List.range (j+1)).filter λh:Nat=> !decide ((h:Int)∈held s)&& !iP w s h)=((List.range j).filter λh:Nat=> !decide ((h:Int)∈held s)&& !iP w s h)++if (!decide ((j:Int)∈held s)&& !iP w s j)=true then [j] else []:=by
   rw[List.range_succ,List.filter_append]
   cases hc:(!decide ((j:Int)∈held s)&& !iP w s j) <;>simp[hc]
  have M:=List.length_filter_le (λh:Nat=> !decide ((h:Int)∈held s)&& !iP w s h) (List.range j)
  rw[QVq] at M
  have H:iP w s j=(decide (f.room<0)&&decide (f.row=(C.length:Int))):=by
   unfold iP Bd
   rw[u]
   show(match fs.getLast? with|some f=>_|none=>_)=_
   rw[N]
   show(decide (f.room= -1)&&decide (f.row=(((progOf w j f).getD []).length:Int)))=_
   by_cases c:f.room= -1
   ·have U:progOf w j f=some C:=by unfold progOf;rw[Qhq c,K];rfl
    rw[Qeq c,Qeq (by omega:f.room<0),U]
    rfl
   ·have:=gF fi c
    rw[Qdq c,Qdq (by omega:¬f.room<0)]
    rfl
  generalize hL:((List.range j).filter λh:Nat=> !decide ((h:Int)∈held s)&& !iP w s h)=L at B m M r⊢
  refine aV ?_
  refine aI (cK (nJ B A u P rfl rfl ?_))
  refine aI (cK ?_)
  have I:∀{R:D->aE->Prop},R (.bl (iP w s j)) (S++ [.lst (L.map lX)])->E (rO (aQ CC (aQ fK (ar 4) (cF (.int 0))) (cF (.int 0))) (aQ (du false) (aQ fK (ar 4) (cF (.int 2))) (gZ (aR (aQ fK (aQ fK (aQ fK (ar 0) (cF (.int 3))) (ar 3)) (cF (.int 1))))))) [some w.d,some (.ref t.k),some (.ref S.length),some (.int j),some (.ref Z),c] (S++ [.lst (L.map lX)]) R:=λq=>by
   rw[H] at q
   refine lW (aY (g6 m rfl (v:=f.room) rfl (cC (gB ⟨_,rfl,?_⟩))))
   refine aK (λz=> ?_) (λz=> ?_)
   ·rw[z,Bool.true_and] at q
    refine aY (g6 m rfl (v:=f.row) rfl (x9 (bV (aY (aY (aY (aw rfl (cC (ay (d:=.tup (w.af.map eW)) rfl (aw rfl (ay (d:=eW (X,C)) (aW (by rw[gQm,K];rfl)) (cC (ay (d:=.tup (C.map Rw.d)) rfl (cy (dR ?_)))))))))))))))
    rw[lQm]
    exact q
   ·rw[z,Bool.false_and] at q
    exact q
  refine I ?_
  refine bO (pE (vo (Ci (aw rfl (rC ?_)))))
  have J:(S++ [O.lst (L.map lX)])[S.length]?=some (.lst (L.map lX)):=aN
  refine aK (λz=> ?_) (λz=> ?_)
  ·refine vo (Ci (cj (az (aw rfl (az (aw rfl (aZ ?_)))))))
   refine AI B o x W (rC ?_)
   have z:iP w s j=false:=by simpa using z
   rw[z] at r
   refine aK (λy=> ?_) (λy=>bX ?_)
   ·refine eg (fH (aw rfl ⟨_,_,rfl,J,az (aw rfl (aZ ⟨_,J,ju (by rw[lQm];omega) ?_⟩))⟩))
    refine⟨⟨_,_,_,rfl⟩,?_⟩
    rw[r,y]
    simp[lX]
   ·refine⟨⟨_,_,_,rfl⟩,?_⟩
    rw[r,y]
    simp
  ·refine aK (λz=>by cases z) (λ_=>bX ?_)
   have z:iP w s j=true:=by simpa using z
   rw[z] at r
   refine⟨⟨_,_,_,rfl⟩,?_⟩
   rw[r]
   simp
 ·rintro e F ⟨⟨a,b,c,rfl⟩,rfl⟩
  rw[IM,lh]
  symm
  exact IY rY.refl.app (Qmq _) aN (bf λ_ _=>rfl) q
def A5{α a:Type}{f:α->Nat}{xs:List α}{ys:List a}(h:xs.length=ys.length):xs.map (λx=>D.ref (f x))=(xs.zip ys).map λp=>.ref (f p.1):=by
 show _=(xs.zip ys).map ((λx=>D.ref (f x))∘Prod.fst)
 rw[←QPq,List.map_fst_zip (by omega)]
def Ee{α a b:Type}{f:a->b}{xs:List α}{ys:List a}(h:xs.length=ys.length):(xs.zip ys).map (λp=>f p.2)=ys.map f:=by
 show(xs.zip ys).map (f∘Prod.snd)=_
 rw[←QPq,List.map_snd_zip (by omega)]
def Hz{α e:Type}{g:cB}{k v:Nat}{xs:List α}{ys:List e}{f:α->Nat}{c:e->List D}{R:D->aE->Prop}(o:g[v]?=some (some (.ref k)))(j:S[k]?=some (.lst (xs.map λx=>.ref (f x))))(l:xs.length=ys.length)(u:xs.length<=900)(r:∀p∈xs.zip ys,S[f p.1]?=some (.lst (c p.2)))(q:R (.tup (ys.map λy=>.tup (c y))) S):
  E (tupQ (ib (bD [none] (fM (aR (ar v))) (bJ 0) bL (tupQ (cN (aR (ar 0))))))) g S R:=by
 refine rH (qA ?_)
 refine iW (α:=α×e) (λb=>∃a,b= [a]) (λp=>.ref (f p.1)) (λp=>.tup (c p.2)) ⟨none,rfl⟩ ?_
 refine bV (aw o (a_ j ⟨xs.zip ys,A5 l,j,by rw[List.length_zip];omega,λp m b d=> ?_,?_⟩))
 ·obtain⟨a,rfl⟩:=d
  exact aV ⟨rfl,⟨_,rfl⟩,rH (rD (bV (aw rfl (a_ (r p m) ⟨rfl,rfl,rfl⟩))))⟩
 ·show R (.tup ((xs.zip ys).map λp=>.tup (c p.2))) S
  rw[Ee (f:=λy=>D.tup (c y)) l]
  exact q
def oY{a:cB}{k v:Nat}{ds:List D}{R:D->aE->Prop}(c:a[v]?=some (some (.ref k)))(b:S[k]?=some (.lst ds))(q:R (.tup ds) S):E (tupQ (cN (aR (ar v)))) a S R:=rH (rD (bV (aw c (a_ b ⟨rfl,q⟩))))
def FL(g:Go lo S0 S t s)(o:eY w)(x:dh w n s)(hn:n<=100)(q:Q (.d s.d) S):Fn iH [.ref t.k] S Q:=by
 have b1:=o.l1
 have b2:=o.l2
 have b4:=o.l4
 have lr:=x.lr
 have lp:=x.lp
 have lh:=x.lh
 have Y:=g.n.lr
 have R:=g.n.lp
 have X:=g.n.lh
 refine bZ ?_
 unfold kW
 refine aI (cK (dY (dE (aZ ⟨by decide,?_⟩))))
 have g1:=g.app (G:= [O.lst []])
 refine aI (hV (j_ (bV (aY (aw rfl (cC (bK g1.n.top (d:=.ref t.r) rfl (a_ g1.n.tr ?_))))))))
 refine⟨λj u C=>(∃a b c d e,u= [some (.ref t.k),some (.ref S.length),a,b,c,d,e,none,none])/\C=S++ [.lst ((s.aj.take j).map de.d)],⟨⟨_,_,_,_,_,rfl⟩,rfl⟩,λ_ _ _ z=>by rw[z.2];exact(g.app).n.tr,?_,?_⟩
 ·rintro j d u C K ⟨⟨a,b,c,Z,e,rfl⟩,rfl⟩
  have I:=g.app (G:= [O.lst ((s.aj.take j).map de.d)])
  obtain⟨y,r,A,B,rfl⟩:=I.ref_at K
  have hj:=(gQs.mp B).1
  have M:w.aj[j]?=some (w.aj[j]'(by omega)):=gQe _
  have ri:=x.rm j _ r M B
  have b6:=(o.rm _ (mQg M)).l2
  have k3:=ri.lb
  have lz:=g.lb A B
  have P:(S++ [O.lst ((s.aj.take j).map de.d)])[S.length]?=some (.lst ((s.aj.take j).map de.d)):=aN
  refine DA (I.ca A B) rfl (aA (aV (aA (aV (aA (aV (aA (aV (aA (aV (bA ?_)))))))))))
  refine eg (fH (aw rfl ⟨_,_,rfl,P,?_⟩))
  refine az (sR (az (oY rfl (I.cv A B) (az (aw rfl (az (oY rfl (I.cr A B) (az (oY rfl (I.cl A B) (az ?_))))))))))
  refine Hz (f:=λk:Nat=>k) (c:=λl:List (Int×Int)=>l.map pairD) (xs:=y.bs) (ys:=r.aa) rfl (I.cb A B) lz (by omega) (λp N=> ?_) ?_
  ·obtain⟨m,L,J⟩:=jD N
   exact I.cbs A B L J
  refine aZ ⟨by show 5<=_;decide,aZ ⟨_,P,ju (by rw[lQm,Qxq];omega) ?_⟩⟩
  refine⟨⟨_,_,_,_,_,rfl⟩,?_⟩
  rw[QYq,B]
  simp[de.d,dr,fj]
 rintro u C ⟨⟨a,b,c,Z,e,rfl⟩,v⟩
 have er:s.aj.take (t.rs.map λx=>D.ref x.a).length=s.aj:=by rw[lQm,Y,QEq]
 have v:C=S++ [.lst (s.aj.map de.d)]:=by rw[v];show S++ [O.lst ((s.aj.take (t.rs.map λx=>D.ref x.a).length).map de.d)]=_;rw[er]
 subst v
 refine aI (cK (dY (dE (aZ ⟨by decide,?_⟩))))
 have g3:=(g.app (G:= [O.lst (s.aj.map de.d)])).app (G:= [O.lst []])
 have e7:(S++ [O.lst (s.aj.map de.d)]).length=S.length+1:=by simp
 rw[e7]
 refine aI (hV (j_ (bV (aY (aw rfl (cC (bK g3.n.top (d:=.ref t.h) rfl (a_ g3.n.th ?_))))))))
 refine⟨λj u C=>(∃a b c d e f,u= [some (.ref t.k),some (.ref S.length),a,b,c,d,e,some (.ref (S.length+1)),f])/\C=S++ [.lst (s.aj.map de.d)]++ [.lst ((s.af.take j).map t_)],⟨⟨_,_,_,_,_,_,rfl⟩,rfl⟩,λ_ _ _ z=>by rw[z.2];exact((g.app).app).n.th,?_,?_⟩
 ·rintro j d u C K ⟨⟨a,b,c,Z,e,f,rfl⟩,rfl⟩
  have U:=(g.app (G:= [O.lst (s.aj.map de.d)])).app (G:= [O.lst ((s.af.take j).map t_)])
  have K:(t.hs.map λx=>D.ref x.a)[j]?=some d:=K
  rw[gQm] at K
  obtain⟨y,A,rfl⟩:=oQm.mp K
  have hj:=(gQs.mp A).1
  obtain⟨⟨vs,fs⟩,F⟩:∃p,s.af[j]?=some p:=⟨_,gQe (by omega)⟩
  obtain⟨ts,pr,hw,hi⟩:=x.whand F
  have lf:=hi.lf
  have lx:=U.lf A F
  have P:(S++ [O.lst (s.aj.map de.d)]++ [O.lst ((s.af.take j).map t_)])[S.length+1]?=some (.lst ((s.af.take j).map t_)):=by
   have:=aN (S:=S++ [O.lst (s.aj.map de.d)]) (o:=O.lst ((s.af.take j).map t_))
   simpa using this
  refine DA (U.ha A F) rfl (aA (aV (aA (aV (bA ?_)))))
  refine eg (fH (aw rfl ⟨_,_,rfl,P,?_⟩))
  refine az (sR (az (oY rfl (U.hv A F) (az ?_))))
  refine Hz (f:=λk:Nat=>k) (c:=λf:cA=> [.int f.room,.int f.deed,.int f.row,.int f.given,.int f.told]) (xs:=y.fs) (ys:=fs) rfl (U.hf A F) lx (by omega) (λp N=> ?_) ?_
  ·obtain⟨m,L,J⟩:=jD N
   exact U.hfs A F L J
  refine aZ ⟨by show 2<=_;decide,aZ ⟨_,P,ju (by rw[lQm,Qxq];omega) ?_⟩⟩
  refine⟨⟨_,_,_,_,_,_,rfl⟩,?_⟩
  rw[QYq,F]
  simp[t_,dr]
  exact λ_ _=>rfl
 rintro u C ⟨⟨a,b,c,Z,e,f,rfl⟩,v⟩
 have eh:s.af.take (t.hs.map λx=>D.ref x.a).length=s.af:=by rw[lQm,X,QEq]
 have v:C=S++ [.lst (s.aj.map de.d)]++ [.lst (s.af.map t_)]:=by rw[v];show S++ [O.lst (s.aj.map de.d)]++ [O.lst ((s.af.take (t.hs.map λx=>D.ref x.a).length).map t_)]=_;rw[eh]
 subst v
 have H:=(g.app (G:= [O.lst (s.aj.map de.d)])).app (G:= [O.lst (s.af.map t_)])
 have gr:(S++ [O.lst (s.aj.map de.d)]++ [O.lst (s.af.map t_)])[S.length]?=some (.lst (s.aj.map de.d)):=aO aN
 have gh:(S++ [O.lst (s.aj.map de.d)]++ [O.lst (s.af.map t_)])[S.length+1]?=some (.lst (s.af.map t_)):=by
  have:=aN (S:=S++ [O.lst (s.aj.map de.d)]) (o:=O.lst (s.af.map t_))
  simpa using this
 refine eX (sR (az (oY rfl gr (az (rH (qA ?_))))))
 refine iW (α:=GB×(Int×List Int)) (λu=>∃a b,u= [a,b]) (λp=>.ref p.1.a) (λp=>GL p.2) ⟨none,none,rfl⟩ ?_
 refine bV (aY (aw rfl (cC (bK H.n.top (d:=.ref t.p) rfl (a_ H.n.tp ⟨t.ps.zip s.ai,A5 R,H.n.tp,by rw[List.length_zip];omega,λp N u W=> ?_,?_⟩)))))
 ·obtain⟨a,b,rfl⟩:=W
  obtain⟨m,L,J⟩:=jD N
  refine DA (H.pa L J) rfl (aA (aV (aA (aV (bA ⟨rfl,⟨_,_,rfl⟩,?_⟩)))))
  exact sR (az (aw rfl (az (oY rfl (H.pr L J) (aZ ⟨by show 2<=_;decide,rfl,rfl⟩)))))
 show E _ _ _ _
 rw[Ee (f:=λp:Int×List Int=>GL p) R]
 refine az (rH (rD (bV (aY (aw rfl (cC (bK H.n.top (d:=.ref t.s) rfl (a_ H.n.ts ⟨rfl,?_⟩))))))))
 refine az (oY rfl gh (aZ ⟨by show 4<=_;decide,?_⟩))
 exact vZ (d:=s.d) rY.refl.app.app (bq _) (bE.low _) q
end
structure Bl(lo:Nat)(S:aE)(N:List Nat)(L:List Cell):Prop where
 ho:xt S L
 nd:N.Nodup
 bd:∀a∈N,lo<=a/\a<S.length
def Fv{l m:List Nat}{b:Nat}(d:l.Nodup)(g:m.Nodup)(u:∀a∈l,a<b)(v:∀a∈m,b<=a):(l++m).Nodup:=List.nodup_append.mpr ⟨d,g,λx c y f e=>by have:=u x c;have:=v y f;omega⟩
def Bl.nil{lo:Nat}{S:aE}:Bl lo S [] []:=⟨λp c=>(nomatch c),.nil,λa b=>(nomatch b)⟩
def Bl.add{lo:Nat}{S G:aE}{N M:List Nat}{L K:List Cell}(x:Bl lo S N L)(f:lo<=S.length)(d:xt (S++G) K)(nd:M.Nodup)(c:∀a∈M,S.length<=a/\a<(S++G).length):Bl lo (S++G) (N++M) (L++K):=by
 refine⟨λp e=> ?_,Fv x.nd nd (λa b=>(x.bd a b).2) λa b=>(c a b).1,λa b=> ?_⟩
 ·rcases mQa.mp e with h|h
  ·exact aO (x.ho p h)
  ·exact d p h
 ·rcases mQa.mp b with h|h
  ·have:=x.bd a h
   rw[lQa]
   omega
  ·have:=c a h
   omega
def Bl.put{lo a:Nat}{S:aE}{N:List Nat}{L:List Cell}{o:O}(x:Bl lo S N L)(f:a<lo)(d:∀p∈L,p.1∈N):Bl lo (S.set a o) N L:=⟨λp c=>by
 have:=x.bd p.1 (d p c)
 rw[QKq (by omega)]
 exact x.ho p c,x.nd,λb e=>by simpa using x.bd b e⟩
def Me{p:FO×de}{c:Cell}(h:c∈BQ p.1 p.2):c.1∈Cy p.1:=(CS p).mem (Qkq.mpr ⟨c,h,rfl⟩)
def EE{α a:Type}{f:α×a->List Cell}{g:α->List Nat}(h:∀p,((f p).map (·.1)).Sublist (g p.1)){xs:List α}{ys:List a}:∀c∈(xs.zip ys).flatMap f,c.1∈xs.flatMap g:=λc b=>(lS h xs ys).mem (Qkq.mpr ⟨c,b,rfl⟩)
def m4{α a:Type}{xs:List α}{ys:List a}{x:α}{y:a}(h:xs.length=ys.length):(xs++ [x]).zip (ys++ [y])=xs.zip ys++ [(x,y)]:=by rw[List.zip_append h];rfl
section
variable{S:aE}
def CD{g:cB}{v:Nat}{ts:List (Str×Nat)}{R:List D->aE->Prop}{f:fu}(j:E f g S λp h=>p=(ts.map lQ,.tu)/\h=S)(k:ts.length<=900)(q:R ((bM ts).map D.int) S):E (bD [none,none] (fM f) (lM (nG 2 (aJ (bJ 0) (aJ (bJ 1) dA)))) bL (ar 1)) g S R:=by
 refine iW (α:=Str×Nat) (λc=>∃a b,c= [a,b]) lQ (λp=>.int (p.2:Int)) ⟨none,none,rfl⟩ (j.mono λp h i=> ?_)
 obtain⟨rfl,rfl⟩:=i
 refine⟨ts,rfl,trivial,by omega,λp i c d=> ?_,?_⟩
 ·obtain⟨a,b,rfl⟩:=d
  exact f_ rfl (aA (aV (aA (aV (bA ⟨rfl,⟨_,_,rfl⟩,aw rfl ⟨rfl,rfl⟩⟩)))))
 ·have e:ts.map (λp=>D.int (p.2:Int))=(bM ts).map D.int:=by unfold bM;rw[QPq];rfl
  rw[e]
  exact q
def Lx{g:cB}{v:Nat}{bs:List (Str×Str)}{R:List D->aE->Prop}(j:g[v]?=some (some (.tup (bs.map y3))))(l:bs.length<=900)(q:R ((List.range bs.length).map λi=>.ref (S.length+i)) (S++List.replicate bs.length (.lst []))):E (bD [none] (fM (aR (ar v))) (bJ 0) bL (bP (bB av))) g S R:=by
 refine jB (j_ (bV (aw j (cy ?_))))
 refine⟨λn b f c=>(∃a,b= [a])/\f=S++List.replicate n (.lst [])/\c=(List.range n).map λi=>.ref (S.length+i),⟨⟨_,rfl⟩,by simp,rfl⟩,λ_ _ _ _ _=>trivial,?_,?_⟩
 ·rintro n d b f c k ⟨⟨a,rfl⟩,rfl,rfl⟩
  have h:=(gQs.mp k).1
  have h:n<bs.length:=by simpa using h
  refine aV (mR ?_)
  rw[Qhq rfl]
  refine dY (dE (aZ ⟨by decide,?_⟩))
  refine⟨bt (by rw[lQm,QVq];omega),⟨_,rfl⟩,?_,?_⟩
  ·rw[Qvq,List.replicate_succ']
  ·rw[List.range_succ,Qzq]
   simp
 ·rintro b f c ⟨⟨a,rfl⟩,rfl,rfl⟩
  have e:(bs.map y3).length=bs.length:=by simp
  show R ((List.range (bs.map y3).length).map _) (S++List.replicate (bs.map y3).length _)
  rw[e]
  exact q
end
section
variable{S:aE}{w:dz}{Q:Res->aE->Prop}
def iS(m:Nat)(r:Rm):FO:=⟨m+3+r.aa.length+1,m,m+1,m+2,m+3+r.aa.length,(List.range r.aa.length).map (m+3+·)⟩
def mC(m:Nat)(r:Rm):aE:= [cP (bM r.ao),.lst [],.lst []]++List.replicate r.aa.length (.lst [])++ [.lst ((List.range r.aa.length).map λi=>.ref (m+3+i))]++ [.lst [.ref m,.int (-1),.ref (m+1),.ref (m+2),.ref (m+3+r.aa.length)]]
def GG{m:Nat}{r:Rm}:(mC m r).length=3+r.aa.length+2:=by simp[mC];omega
def nN{r:Rm}{i:Nat}{o:O}(h:(mC S.length r)[i]?=some o):(S++mC S.length r)[S.length+i]?=some o:=by
 rw[QQq (by omega),show S.length+i-S.length=i by omega]
 exact h
def Hu(r:Rm):xt (S++mC S.length r) (BQ (iS S.length r) (cu r)):=λp e=>by
 have n:∀j,j<r.aa.length->(mC S.length r)[3+j]?=some (.lst []):=λj d=>by
  unfold mC
  rw[Qvq,Qvq,QQq (by simp),QHq (by simp;omega)]
  simp[d]
 have m:(mC S.length r)[3+r.aa.length]?=some (.lst ((List.range r.aa.length).map λi=>.ref (S.length+3+i))):=by
  unfold mC
  rw[Qvq,QQq (by simp;omega),show 3+r.aa.length-([cP (bM r.ao),O.lst [],O.lst []]++List.replicate r.aa.length (O.lst [])).length=0 by simp;omega]
  rfl
 have k:(mC S.length r)[3+r.aa.length+1]?=some (.lst [.ref S.length,.int (-1),.ref (S.length+1),.ref (S.length+2),.ref (S.length+3+r.aa.length)]):=by
  unfold mC
  rw[QQq (by simp;omega),show 3+r.aa.length+1-([cP (bM r.ao),O.lst [],O.lst []]++List.replicate r.aa.length (O.lst [])++ [O.lst ((List.range r.aa.length).map λi=>D.ref (S.length+3+i))]).length=0 by simp;omega]
  rfl
 rcases mQa.mp e with h|h
 ·simp only[Qsq,QXq,or_false] at h
  rcases h with rfl|rfl|rfl|rfl|rfl
  ·have:=nN (S:=S) k
   rw[show S.length+(3+r.aa.length+1)=S.length+3+r.aa.length+1 by omega] at this
   exact this
  ·exact nN (S:=S) (i:=0) rfl
  ·exact nN (S:=S) (i:=1) rfl
  ·exact nN (S:=S) (i:=2) rfl
  ·have:=nN (S:=S) m
   rw[show S.length+(3+r.aa.length)=S.length+3+r.aa.length by omega] at this
   show _=some (O.lst (((List.range r.aa.length).map (S.length+3+·)).map D.ref))
   rw[QPq]
   exact this
 ·obtain⟨q,f,rfl⟩:=Qkq.mp h
  obtain⟨j,a,c⟩:=jD f
  have a:((List.range r.aa.length).map (S.length+3+·))[j]?=some q.1:=a
  have c:(r.aa.map λ_=>([]:List (Int×Int)))[j]?=some q.2:=c
  rw[gQm] at a c
  obtain⟨o,a,l⟩:=oQm.mp a
  obtain⟨b,c,g⟩:=oQm.mp c
  have d:=(gQs.mp c).1
  rw[List.getElem?_range d] at a
  cases a
  have:=nN (S:=S) (n j d)
  rw[show S.length+(3+j)=S.length+3+j by omega] at this
  show(S++mC S.length r)[q.1]?=some (BU q.2)
  rw[←l,←g]
  exact this
def I_(m:Nat)(r:Rm):(Cy (iS m r)).Nodup/\∀a∈Cy (iS m r),m<=a/\a<m+(3+r.aa.length+2):=by
 have k:((List.range r.aa.length).map (m+3+·)).Nodup:=List.Pairwise.map (R:=(·≠·)) (S:=(·≠·)) _ (λa b n e=>n (by omega)) List.nodup_range
 have d:∀a∈(List.range r.aa.length).map (m+3+·),m+3<=a/\a<m+3+r.aa.length:=λa c=>by
  obtain⟨j,g,rfl⟩:=Qkq.mp c
  have:=List.mem_range.mp g
  omega
 constructor
 ·unfold Cy
  rw[List.nodup_append]
  refine⟨?_,k,λx f y i e=> ?_⟩
  ·simp only[iS,List.nodup_cons,Qsq,QXq,or_false,not_or,not_false_eq_true,List.nodup_nil,and_true]
   omega
  ·have:=d y i
   simp only[iS,Qsq,QXq,or_false] at f
   omega
 ·intro a c
  rcases mQa.mp c with h|h
  ·simp only[iS,Qsq,QXq,or_false] at h
   omega
  ·have:=d a h
   omega
def iQ(m:Nat):Cz:=⟨m+3,m,m+2,[m+1]⟩
def AC(m:Nat)(h:List (Str×Nat)×List Rw):aE:= [cP (bM h.1),qW wX,.lst [.ref (m+1)],.lst [.ref m,.ref (m+2)]]
def Fy(h:List (Str×Nat)×List Rw):xt (S++AC S.length h) (wQ (iQ S.length) (bM h.1,[wX])):=λp b=>by
 have a:∀{i:Nat} {o:O},(AC S.length h)[i]?=some o->(S++AC S.length h)[S.length+i]?=some o:=λ{i o} z=>by
  rw[QQq (by omega),show S.length+i-S.length=i by omega]
  exact z
 simp only[wQ,iQ,List.zip_cons_cons,List.zip_nil_right,QDq,List.map_nil,List.cons_append,List.nil_append,Qsq,QXq,or_false] at b
 rcases b with rfl|rfl|rfl|rfl
 ·exact a (i:=3) rfl
 ·exact a (i:=0) rfl
 ·exact a (i:=2) rfl
 ·exact a (i:=1) rfl
def E8(m:Nat):(Bb (iQ m)).Nodup/\∀a∈Bb (iQ m),m<=a/\a<m+4:=by
 constructor
 ·simp only[Bb,iQ,List.cons_append,List.nil_append,List.nodup_cons,Qsq,QXq,or_false,not_or,not_false_eq_true,List.nodup_nil,and_true]
  omega
 ·intro a b
  simp only[Bb,iQ,List.cons_append,List.nil_append,Qsq,QXq,or_false] at b
  omega
def Ez{T X:aE}{o a:O}:(T++o::X).set T.length a=T++a::X:=by
 rw[List.set_append_right _ _ (Qmq _)]
 simp
end
section
variable{S:aE}{w:dz}{Q:Res->aE->Prop}
def my(h:List (Str×Nat)×List Rw):List Int×List cA:=(bM h.1,[wX])
def mZ(p:Str×Nat):Int×List Int:=((p.2:Int),[])
def yS{T X:aE}{o:O}:(T++o::X)[T.length]?=some o:=by rw[QQq (Qmq _)];simp
def HR(o:eY w)(q:∀(L:aE) (t:yY),t.k=L.length->Go S.length S (L++ [.lst [.ref t.r,.ref t.p,.ref t.s,.ref t.h]]) t (dk w)->Q (.l [.ref t.r,.ref t.p,.ref t.s,.ref t.h]) L):Fn jw [w.d] S Q:=by
 have b1:=o.l1
 have b2:=o.l2
 have b3:=o.l3
 have b4:=o.l4
 refine Cr ?_
 unfold me
 refine aI (cK (dY (dE (aZ ⟨by decide,?_⟩))))
 refine aI (hV (j_ (bV (aY (aw rfl (cC (ay (d:=.tup (w.aj.map Rm.d)) rfl (cy ?_))))))))
 refine⟨λj A L=>(∃a b c d e,A= [some w.d,some (.ref S.length),a,b,c,d,e,none,none])/\∃(n:List FO) (X:aE),L=S++.lst (n.map λx=>.ref x.a)::X/\n.length=j/\Bl (S.length+1) L (n.flatMap Cy) ((n.zip ((w.aj.take j).map cu)).flatMap λp=>BQ p.1 p.2)/\∀p∈n.zip ((w.aj.take j).map cu),p.1.bs.length=p.2.aa.length,⟨⟨_,_,_,_,_,rfl⟩,[],[],rfl,rfl,by simpa using Bl.nil,λp J=>by simp at J⟩,λ_ _ _ _=>trivial,?_,?_⟩
 ·rintro j d A L P ⟨⟨a,b,c,d',e,rfl⟩,n,X,rfl,Z,bl,lb⟩
  have P:(w.aj.map Rm.d)[j]?=some d:=P
  rw[gQm] at P
  obtain⟨r,hr,rfl⟩:=oQm.mp P
  have hj:=(gQs.mp hr).1
  have a2:=o.rm r (mQg hr)
  have k1:=a2.l1
  have k2:=a2.l2
  have gA:(S++O.lst (n.map λx=>D.ref x.a)::X)[S.length]?=some (.lst (n.map λx=>.ref x.a)):=yS
  have a0:(S++O.lst (n.map λx=>D.ref x.a)::X).length=S.length+1+X.length:=by simp;omega
  have hG:=GG (m:=(S++O.lst (n.map λx=>D.ref x.a)::X).length) (r:=r)
  have N:=bl.add (G:=mC (S++O.lst (n.map λx=>D.ref x.a)::X).length r) (by omega) (Hu r) (I_ _ r).1 (λa ha=>by
   have:=(I_ (S++O.lst (n.map λx=>D.ref x.a)::X).length r).2 a ha
   rw[lQa (bs:=mC _ r),hG]
   omega)
  refine f_ rfl (aA (aV (aA (aV (aA (aV (aA (aV (aA (aV (bA ?_)))))))))))
  refine eg (fH (aw rfl ⟨_,_,rfl,gA,?_⟩))
  generalize hT:S++O.lst (n.map λx=>D.ref x.a)::X=T at gA a0 hG bl N⊢
  refine az (dY (dE (az (dY (CD (v:=0) (ts:=r.ao) (bV (aw rfl (cy ⟨rfl,rfl⟩))) (by omega) ?_)))))
  refine az (j8 (cC ⟨1,rfl,az (dY (dE (aZ ⟨by decide,az (dY (dE (aZ ⟨by decide,az (dY (Lx (bs:=r.aa) rfl (by omega) ?_))⟩)))⟩)))⟩))
  refine aZ ⟨by show 5<=_;decide,aZ ?_⟩
  have eS:T++ [O.lst ((bM r.ao).map D.int)]++ [O.lst []]++ [O.lst []]++List.replicate r.aa.length (O.lst [])++ [O.lst ((List.range r.aa.length).map λi=>D.ref ((T++ [O.lst ((bM r.ao).map D.int)]++ [O.lst []]++ [O.lst []]).length+i))]++ [O.lst [.ref T.length,.int (-1),.ref (T++ [O.lst ((bM r.ao).map D.int)]).length,.ref (T++ [O.lst ((bM r.ao).map D.int)]++ [O.lst []]).length,.ref (T++ [O.lst ((bM r.ao).map D.int)]++ [O.lst []]++ [O.lst []]++List.replicate r.aa.length (O.lst [])).length]]=T++mC T.length r:=by
   unfold mC
   simp[cP]
   omega
  have eL:(T++ [O.lst ((bM r.ao).map D.int)]++ [O.lst []]++ [O.lst []]++List.replicate r.aa.length (O.lst [])++ [O.lst ((List.range r.aa.length).map λi=>D.ref ((T++ [O.lst ((bM r.ao).map D.int)]++ [O.lst []]++ [O.lst []]).length+i))]).length=(iS T.length r).a:=by
   simp[iS]
   omega
  rw[eS,eL]
  refine⟨_,aO gA,ju (by rw[lQm];omega) ?_⟩
  refine⟨⟨_,_,_,_,_,rfl⟩,n++ [iS T.length r],X++mC T.length r,?_,by simp[Z],?_,?_⟩
  ·rw[←hT,Qzq,Qvq,List.cons_append,Ez]
   rfl
  ·have:=N.put (a:=S.length) (o:=.lst (n.map (λx=>D.ref x.a)++ [.ref (iS T.length r).a])) (by omega) (λp J=>by
    rcases mQa.mp J with h|h
    ·exact mQa.mpr (.inl (EE CS p h))
    ·exact mQa.mpr (.inr (Me (p:=(iS T.length r,cu r)) h)))
   rw[QYq,hr,Qzq]
   show Bl _ _ ((n++ [iS T.length r]).flatMap Cy) (((n++ [iS T.length r]).zip ((w.aj.take j).map cu++ [cu r])).flatMap _)
   rw[m4 (by rw[lQm,Qxq];omega),List.flatMap_append,List.flatMap_append]
   simpa using this
  ·rw[QYq,hr,Qzq]
   show∀p∈(n++ [iS T.length r]).zip ((w.aj.take j).map cu++ [cu r]),_
   rw[m4 (by rw[lQm,Qxq];omega)]
   intro p J
   rcases mQa.mp J with h|h
   ·exact lb p h
   ·rw[Qfq.mp h]
    simp[iS,cu]
 rintro A B ⟨⟨a,b,c,d',e,rfl⟩,n,X,hS2,Z,H,lb⟩
 have Z:n.length=(w.aj.map Rm.d).length:=Z
 rw[lQm] at Z
 have a6:w.aj.take (w.aj.map Rm.d).length=w.aj:=by rw[lQm,QEq]
 have H:Bl (S.length+1) B (n.flatMap Cy) ((n.zip ((w.aj.take (w.aj.map Rm.d).length).map cu)).flatMap λp=>BQ p.1 p.2):=H
 have lb:∀p∈n.zip ((w.aj.take (w.aj.map Rm.d).length).map cu),p.1.bs.length=p.2.aa.length:=lb
 rw[a6] at H lb
 have gA:B[S.length]?=some (.lst (n.map λx=>.ref x.a)):=by rw[hS2];exact yS
 have b5:S.length+1<=B.length:=by rw[hS2];simp
 refine aI (cK (dY (dE (aZ ⟨by decide,?_⟩))))
 refine aI (hV (j_ (bV (aY (aw rfl (cC (ay (d:=.tup (w.af.map eW)) rfl (cy ?_))))))))
 refine⟨λj A L=>(∃a b c d e f,A= [some w.d,some (.ref S.length),a,b,c,d,e,some (.ref B.length),f])/\∃(g:List Cz) (X:aE),L=B++.lst (g.map λx=>.ref x.a)::X/\g.length=j/\Bl (B.length+1) L (g.flatMap Bb) ((g.zip ((w.af.take j).map my)).flatMap λp=>wQ p.1 p.2)/\∀p∈g.zip ((w.af.take j).map my),p.1.fs.length=p.2.2.length,⟨⟨_,_,_,_,_,_,rfl⟩,[],[],rfl,rfl,by simpa using Bl.nil,λp J=>by simp at J⟩,λ_ _ _ _=>trivial,?_,?_⟩
 ·rintro j d A L P ⟨⟨a,b,c,d',e,f,rfl⟩,g,Y,rfl,R,bl,lf⟩
  have P:(w.af.map eW)[j]?=some d:=P
  rw[gQm] at P
  obtain⟨r,hr,rfl⟩:=oQm.mp P
  have hj:=(gQs.mp hr).1
  have k1:=(o.hd r (mQg hr)).l1
  have gH:(B++O.lst (g.map λx=>D.ref x.a)::Y)[B.length]?=some (.lst (g.map λx=>.ref x.a)):=yS
  have a0:(B++O.lst (g.map λx=>D.ref x.a)::Y).length=B.length+1+Y.length:=by simp;omega
  have N:=bl.add (G:=AC (B++O.lst (g.map λx=>D.ref x.a)::Y).length r) (by omega) (K:=wQ (iQ (B++O.lst (g.map λx=>D.ref x.a)::Y).length) (my r)) (Fy r) (E8 _).1 (λa ha=>by
   have:=(E8 (B++O.lst (g.map λx=>D.ref x.a)::Y).length).2 a ha
   rw[lQa (bs:=AC _ r)]
   show _/\_<_+4
   omega)
  refine f_ rfl (aA (aV (aA (aV (bA ?_)))))
  refine eg (fH (aw rfl ⟨_,_,rfl,gH,?_⟩))
  generalize hT:B++O.lst (g.map λx=>D.ref x.a)::Y=T at gH a0 bl N⊢
  refine az (dY (dE (az (dY (CD (v:=0) (ts:=r.1) (bV (aw rfl (cy ⟨rfl,rfl⟩))) (by omega) ?_)))))
  refine az (dY (dE (az (dY (dE (az (j8 (cC ⟨1,rfl,az (j8 (cC ⟨1,rfl,az (cC (az (cC (az (cC (aZ ⟨by show 5<=_;decide,aZ ⟨by show 1<=_;decide,aZ ⟨by show 2<=_;decide,aZ ?_⟩⟩⟩))))))⟩))⟩))))))))
  have eS:T++ [O.lst ((bM r.1).map D.int)]++ [O.lst [.int (-1),.int (-1),.int 0,.int 0,.int 0]]++ [O.lst [.ref (T++ [O.lst ((bM r.1).map D.int)]).length]]++ [O.lst [.ref T.length,.ref (T++ [O.lst ((bM r.1).map D.int)]++ [O.lst [.int (-1),.int (-1),.int 0,.int 0,.int 0]]).length]]=T++AC T.length r:=by
   simp[AC,cP,qW,wX]
  have eL:(T++ [O.lst ((bM r.1).map D.int)]++ [O.lst [.int (-1),.int (-1),.int 0,.int 0,.int 0]]++ [O.lst [.ref (T++ [O.lst ((bM r.1).map D.int)]).length]]).length=(iQ T.length).a:=by
   simp[iQ]
  rw[eS,eL]
  refine⟨_,aO gH,ju (by rw[lQm];omega) ?_⟩
  refine⟨⟨_,_,_,_,_,_,rfl⟩,g++ [iQ T.length],Y++AC T.length r,?_,by simp[R],?_,?_⟩
  ·rw[←hT,Qzq,Qvq,List.cons_append,Ez]
   rfl
  ·have:=N.put (a:=B.length) (o:=.lst (g.map (λx=>D.ref x.a)++ [.ref (iQ T.length).a])) (by omega) (λp J=>by
    rcases mQa.mp J with h|h
    ·exact mQa.mpr (.inl (EE DX p h))
    ·exact mQa.mpr (.inr ((DX (iQ T.length,my r)).mem (Qkq.mpr ⟨p,h,rfl⟩))))
   rw[QYq,hr,Qzq]
   show Bl _ _ ((g++ [iQ T.length]).flatMap Bb) (((g++ [iQ T.length]).zip ((w.af.take j).map my++ [my r])).flatMap _)
   rw[m4 (by rw[lQm,Qxq];omega),List.flatMap_append,List.flatMap_append]
   simpa using this
  ·rw[QYq,hr,Qzq]
   show∀p∈(g++ [iQ T.length]).zip ((w.af.take j).map my++ [my r]),_
   rw[m4 (by rw[lQm,Qxq];omega)]
   intro p J
   rcases mQa.mp J with h|h
   ·exact lf p h
   ·rw[Qfq.mp h]
    rfl
 rintro A S4 ⟨⟨a,b,c,d',e,f,rfl⟩,g,Y,hS4,R,F,lf⟩
 have R:g.length=(w.af.map eW).length:=R
 rw[lQm] at R
 have a3:w.af.take (w.af.map eW).length=w.af:=by rw[lQm,QEq]
 have F:Bl (B.length+1) S4 (g.flatMap Bb) ((g.zip ((w.af.take (w.af.map eW).length).map my)).flatMap λp=>wQ p.1 p.2):=F
 have lf:∀p∈g.zip ((w.af.take (w.af.map eW).length).map my),p.1.fs.length=p.2.2.length:=lf
 rw[a3] at F lf
 have gH:S4[B.length]?=some (.lst (g.map λx=>.ref x.a)):=by rw[hS4];exact yS
 have a8:B.length+1<=S4.length:=by rw[hS4];simp
 refine Ly (dE (az (aw rfl (az (dY (jB (j_ (bV (aY (aw rfl (cC (ay (d:=.tup (w.ai.map lQ)) rfl (cy ?_)))))))))))))
 refine⟨λj A L a1=>(∃a b,A= [a,b])/\∃(u:List GB) (G:aE),L=S4++G/\u.length=j/\a1=u.map (λx=>.ref x.a)/\Bl S4.length L (u.flatMap Je) ((u.zip ((w.ai.take j).map mZ)).flatMap λp=>KG p.1 p.2),⟨⟨_,_,rfl⟩,[],[],by simp,rfl,rfl,by simpa using Bl.nil⟩,λ_ _ _ _ _=>trivial,?_,?_⟩
 ·rintro j d A L a1 P ⟨⟨a,b,rfl⟩,u,G,rfl,U,rfl,bl⟩
  have P:(w.ai.map lQ)[j]?=some d:=P
  rw[gQm] at P
  obtain⟨p,J,rfl⟩:=oQm.mp P
  have hj:=(gQs.mp J).1
  generalize hT:S4++G=T at bl⊢
  have a5:S4.length<=T.length:=by rw[←hT];simp
  have N:=bl.add (G:= [O.lst [],O.lst [.int (p.2:Int),.ref T.length]]) (M:=Je ⟨T.length+1,T.length⟩) (K:=KG ⟨T.length+1,T.length⟩ (mZ p)) a5 (λc hc=>by
   simp only[KG,mZ,Qsq,QXq,or_false] at hc
   rcases hc with rfl|rfl
   ·show(T++ [O.lst [],O.lst [.int (p.2:Int),.ref T.length]])[T.length+1]?=_
    rw[QQq (by omega),show T.length+1-T.length=1 by omega]
    rfl
   ·show(T++ [O.lst [],O.lst [.int (p.2:Int),.ref T.length]])[T.length]?=_
    rw[QQq (by omega),show T.length-T.length=0 by omega]
    rfl) (by simp[Je]) (λa ha=>by
   simp only[Je,Qsq,QXq,or_false] at ha
   rw[lQa]
   show _/\_<_+2
   omega)
  refine f_ rfl (aA (aV (aA (aV (bA (mR ?_))))))
  rw[Qhq rfl]
  refine dY (dE (az (aw rfl (az (dY (dE (aZ ⟨by decide,aZ ⟨by show 2<=_;decide,?_⟩⟩)))))))
  refine⟨bt (by rw[lQm];omega),⟨_,_,rfl⟩,u++ [⟨T.length+1,T.length⟩],G++ [O.lst [],O.lst [.int (p.2:Int),.ref T.length]],?_,by simp[U],?_,?_⟩
  ·rw[←Qvq,hT]
   simp
  ·simp
  ·rw[QYq,J,Qzq]
   show Bl _ _ ((u++ [(⟨T.length+1,T.length⟩:GB)]).flatMap Je) (((u++ [(⟨T.length+1,T.length⟩:GB)]).zip ((w.ai.take j).map mZ++ [mZ p])).flatMap _)
   rw[m4 (by rw[lQm,Qxq];omega),List.flatMap_append,List.flatMap_append]
   simpa using N
 rintro A I a1 ⟨⟨a',b',rfl⟩,u,G,hS5,U,rfl,C⟩
 have U:u.length=(w.ai.map lQ).length:=U
 rw[lQm] at U
 have a4:w.ai.take (w.ai.map lQ).length=w.ai:=by rw[lQm,QEq]
 have C:Bl S4.length I (u.flatMap Je) ((u.zip ((w.ai.take (w.ai.map lQ).length).map mZ)).flatMap λp=>KG p.1 p.2):=C
 rw[a4] at C
 have b0:S4.length<=I.length:=by rw[hS5];simp
 refine az (dY (CD (v:=0) (ts:=w.ak) (bV (aY (aw rfl (cC (ay (d:=.tup (w.ak.map lQ)) rfl (cy ⟨rfl,rfl⟩)))))) (by omega) ?_))
 refine az (aw rfl (aZ ⟨by show 4<=_;decide,?_⟩))
 have e6:(I++ [O.lst (u.map λx=>D.ref x.a)]).length=I.length+1:=by simp
 rw[e6]
 refine q _ ⟨I.length+2,S.length,I.length,I.length+1,B.length,n,u,g⟩ (by simp) ?_
 generalize hW:I++ [O.lst (u.map λx=>D.ref x.a)]++ [O.lst ((bM w.ak).map D.int)]++ [O.lst [.ref S.length,.ref I.length,.ref (I.length+1),.ref B.length]]=W
 have w5:∀{j:Nat} {o:O},I[j]?=some o->W[j]?=some o:=λz=>by rw[←hW];exact aO (aO (aO z))
 have w4:∀{j:Nat} {o:O},S4[j]?=some o->W[j]?=some o:=λz=>w5 (by rw[hS5];exact aO z)
 have w2:∀{j:Nat} {o:O},B[j]?=some o->W[j]?=some o:=λz=>w4 (by rw[hS4];exact aO z)
 have w0:∀{j:Nat} {o:O},S[j]?=some o->W[j]?=some o:=λz=>w2 (by rw[hS2];exact aO z)
 have wl:W.length=I.length+3:=by rw[←hW];simp
 have er:(dk w).aj=w.aj.map cu:=rfl
 have ep:(dk w).ai=w.ai.map mZ:=rfl
 have eh:(dk w).af=w.af.map my:=rfl
 refine⟨⟨λp J=> ?_,?_,?_,by rw[er,lQm];exact Z,by rw[ep,lQm];exact U,by rw[eh,lQm];exact R,lb,lf⟩,⟨by omega,λj hj=> ?_⟩,Qmq _⟩
 ·rcases qL J with h|⟨c,hc,h⟩|⟨c,hc,h⟩|⟨c,hc,h⟩
  ·simp only[Qsq,QXq,or_false] at h
   rcases h with rfl|rfl|rfl|rfl|rfl
   ·rw[←hW]
    have:=aN (S:=I++ [O.lst (u.map λx=>D.ref x.a)]++ [O.lst ((bM w.ak).map D.int)]) (o:=O.lst [.ref S.length,.ref I.length,.ref (I.length+1),.ref B.length])
    simpa using this
   ·exact w2 gA
   ·rw[←hW]
    exact aO (aO aN)
   ·rw[←hW]
    have:=aN (S:=I++ [O.lst (u.map λx=>D.ref x.a)]) (o:=O.lst ((bM w.ak).map D.int))
    rw[e6] at this
    exact aO this
   ·exact w4 gH
  ·exact w2 (H.ho p (QOq.mpr ⟨c,hc,h⟩))
  ·exact w5 (C.ho p (QOq.mpr ⟨c,hc,h⟩))
  ·exact w4 (F.ho p (QOq.mpr ⟨c,hc,h⟩))
 ·unfold zk
  rw[List.nodup_append,List.nodup_append,List.nodup_append]
  refine⟨?_,⟨H.nd,⟨C.nd,F.nd,λx hx y hy e=> ?_⟩,λx hx y hy e=> ?_⟩,λx hx y hy e=> ?_⟩
  ·simp only[List.nodup_cons,Qsq,QXq,or_false,not_or,not_false_eq_true,List.nodup_nil,and_true]
   omega
  ·have:=C.bd x hx
   have:=F.bd y hy
   omega
  ·have:=H.bd x hx
   rcases mQa.mp hy with h|h
   ·have:=C.bd y h
    omega
   ·have:=F.bd y h
    omega
  ·simp only[Qsq,QXq,or_false] at hx
   rcases mQa.mp hy with h|h
   ·have:=H.bd y h
    omega
   ·rcases mQa.mp h with h|h
    ·have:=C.bd y h
     omega
    ·have:=F.bd y h
     omega
 ·intro a ha
  rcases mQa.mp ha with h|h
  ·simp only[Qsq,QXq,or_false] at h
   omega
  ·rcases mQa.mp h with h|h
   ·have:=H.bd a h
    omega
   ·rcases mQa.mp h with h|h
    ·have:=C.bd a h
     omega
    ·have:=F.bd a h
     omega
 ·exact(w0 (gQe hj)).trans (gQe hj).symm
end
section
variable{S S0:aE}{Q:Res->aE->Prop}
def Pl:Nat->D->Prop
 |0,_=>False
 |_+1,.int _=>True
 |_+1,.str _=>True
 |_+1,.non=>True
 |n+1,.tup ds=>ds.length<=1000/\∀d∈ds,Pl n d
 |_+1,_=>False
theorem AU:∀ds:List D,BI ds ds=ds.map λd=>D.tup [d,d]
 | []=>rfl
 | d::ds=>by
   have:=AU ds
   simp only[BI,List.zipWith_cons_cons,QDq] at this⊢
   rw[this]
theorem Ek:∀(n:Nat) (d:D) {S:aE} {Q:Res->aE->Prop},Pl n d->Q (.d (.bl true)) S->Fn (gM n) [d,d] S Q
 |0,_,_,_,h,_=>h.elim
 | n+1,.int i,S,Q,_,q=>by
   refine bZ ?_
   unfold gP
   refine aI (bO (b_ (d:=.int i) (aw rfl ⟨rfl,rfl⟩) rfl ?_))
   refine aK (λc=>by cases c) (λ_=>bX ?_)
   refine aI (bO (Fg (b_ (d:=.int i) (aw rfl ⟨rfl,rfl⟩) rfl ?_)))
   apply aK (λc=>by cases c) (λ_=> ?_)
   refine E2 ?_
   refine aK (λc=>by cases c) (λ_=>bX ?_)
   refine eX (lW (v5 (aw rfl ⟨_,rfl,true,rfl,?_⟩)))
   rw[Qhq rfl]
   refine lW (LD (v5 (aw rfl ⟨_,rfl,false,rfl,true,rfl,?_⟩)))
   rw[Qhq rfl]
   symm
   refine dR ?_
   rw[Qeq rfl]
   exact cV (λk z=>(nomatch z)) rfl q
 | n+1,.str i,S,Q,_,q=>by
   refine bZ ?_
   unfold gP
   refine aI (bO (b_ (d:=.str i) (aw rfl ⟨rfl,rfl⟩) rfl ?_))
   refine aK (λc=>by cases c) (λ_=>bX ?_)
   refine aI (bO (Fg (b_ (d:=.str i) (aw rfl ⟨rfl,rfl⟩) rfl ?_)))
   refine aK (λ_=> ?_) (λc=>by cases c)
   refine aK (λ_=> ?_) (λc=>by cases c)
   refine eX (lW (aY (v5 (aw rfl ⟨_,rfl,v5 (aw rfl ⟨_,rfl,.bl true,rfl,true,rfl,?_⟩)⟩))))
   rw[Qhq rfl]
   symm
   refine gE ?_
   rw[Qeq rfl]
   exact cV (λk z=>(nomatch z)) rfl q
 | n+1,.non,S,Q,_,q=>by
   refine bZ ?_
   unfold gP
   refine aI (bO (b_ (d:=.non) (aw rfl ⟨rfl,rfl⟩) rfl ?_))
   refine aK (λc=>by cases c) (λ_=>bX ?_)
   refine aI (bO (Fg (b_ (d:=.non) (aw rfl ⟨rfl,rfl⟩) rfl ?_)))
   apply aK (λc=>by cases c) (λ_=> ?_)
   refine E2 ?_
   refine aK (λ_=> ?_) (λc=>by cases c)
   refine eX (lW (aY (v5 (aw rfl ⟨_,rfl,v5 (aw rfl ⟨_,rfl,.bl true,rfl,true,rfl,?_⟩)⟩))))
   rw[Qhq rfl]
   symm
   refine⟨.bl true,rfl,?_⟩
   exact cV (λk z=>(nomatch z)) rfl q
 | n+1,.tup ds,S,Q,h,q=>by
   refine bZ ?_
   unfold gP
   refine aI (bO (b_ (d:=.tup ds) (aw rfl ⟨rfl,rfl⟩) rfl ?_))
   refine aK (λ_=> ?_) (λc=>by cases c)
   refine aI (bO (Fg (vo (b_ (d:=.tup ds) (aw rfl ⟨rfl,rfl⟩) rfl ?_))))
   apply aK (λc=>by cases c) (λ_=> ?_)
   refine mL ?_
   rw[Qeq rfl]
   refine aK (λc=>by cases c) (λ_=>bX ?_)
   refine eX (M3 (qA ?_))
   apply nI (α:=D) (λe=>∃a b,e= [a,b]) (λd=>D.tup [d,d]) (λ_=>.bl true) (λ_=>true) ⟨none,none,rfl⟩ (IS ?_)
   refine⟨⟨trivial,Qmq _⟩,ds,AU ds,⟨trivial,trivial⟩,h.1,λd g e f=> ?_,?_⟩
   · obtain⟨a,b,rfl⟩:=f
     refine f_ rfl (aA (aV (aA (aV (bA ?_)))))
     apply⟨rfl,⟨_,_,rfl⟩,mR ⟨rfl,rfl,λ_=> ?_⟩⟩
     exact Ek n d (h.2 d g) ⟨rfl,rfl⟩
   · refine⟨rfl,List.replicate ds.length true,?_,?_⟩
     · rw[←A7]
       congr 1
       rw[List.filter_eq_self.mpr (λ_ _=>rfl),List.map_const']
     · have:(List.replicate ds.length true).all id=true:=by simp
       rw[this]
       exact cV (λk z=>(nomatch z)) rfl q
end
section
variable{S S0:aE}{Q:Res->aE->Prop}
def nF{n:Nat}{l:List Int}(h:l.length<=1000):Pl (n+2) (dr l):=⟨by simpa using h,λd b=>by
 obtain⟨a,_,rfl⟩:=Qkq.mp b
 exact trivial⟩
def rg{α:Type}{n:Nat}{f:α->D}{l:List α}(h:l.length<=1000)(e:∀a∈l,Pl n (f a)):Pl (n+1) (.tup (l.map f)):=⟨by simpa using h,λd c=>by
 obtain⟨a,b,rfl⟩:=Qkq.mp c
 exact e a b⟩
def Hb{w:dz}{n:Nat}{s:bE}(o:eY w)(x:dh w n s)(A:n<=100):Pl 9 s.d:=by
 have R:=o.l1
 have C:=o.l2
 have z:=o.l3
 have J:=o.l4
 have N:=x.lr
 have G:=x.lp
 have H:=x.ls
 have L:=x.lh
 refine⟨by show 4<=1000;decide,λd a=> ?_⟩
 simp only[Qsq,QXq,or_false] at a
 rcases a with rfl|rfl|rfl|rfl
 ·refine rg (n:=7) (by omega) λt m=> ?_
  obtain⟨i,k,e⟩:=QbQ m
  have j:s.aj[i]?=some t:=by rw[gQe k,e]
  have h:w.aj[i]?=some (w.aj[i]'(by omega)):=gQe (by omega)
  have b:=x.rm i _ t h j
  have c:=o.rm _ (mQg h)
  have r:=c.l1
  have v:=c.l2
  have y:=b.lv
  have M:=b.lb
  have K:=b.br
  have P:=b.bl
  refine⟨by show 5<=1000;decide,λd a=> ?_⟩
  simp only[Qsq,QXq,or_false] at a
  rcases a with rfl|rfl|rfl|rfl|rfl
  ·exact nF (by omega)
  ·exact trivial
  ·exact nF (by omega)
  ·exact nF (by omega)
  ·refine rg (n:=5) (by omega) λl u=> ?_
   have:=b.bb l u
   refine rg (n:=4) (by omega) λp g=> ?_
   refine⟨by show 2<=1000;decide,λd a=> ?_⟩
   simp only[Qsq,QXq,or_false] at a
   rcases a with rfl|rfl <;>exact trivial
 ·refine rg (n:=7) (by omega) λp g=> ?_
  have:=x.ps p g
  refine⟨by show 2<=1000;decide,λd a=> ?_⟩
  simp only[Qsq,QXq,or_false] at a
  rcases a with rfl|rfl
  ·exact trivial
  ·exact nF (by omega)
 ·exact nF (by omega)
 ·refine rg (n:=7) (by omega) λp g=> ?_
  obtain⟨i,k,e⟩:=QbQ g
  have j:s.af[i]?=some (p.1,p.2):=by rw[gQe k,e]
  obtain⟨B,F,h,q⟩:=x.whand j
  have r:=(o.hd _ (mQg h)).l1
  have v:=q.lv
  have y:=q.lf
  refine⟨by show 2<=1000;decide,λd a=> ?_⟩
  simp only[Qsq,QXq,or_false] at a
  rcases a with rfl|rfl
  ·exact nF (by dsimp only at r;omega)
  ·refine rg (n:=5) (by omega) λf I=> ?_
   refine⟨by show 5<=1000;decide,λd a=> ?_⟩
   simp only[Qsq,QXq,or_false] at a
   rcases a with rfl|rfl|rfl|rfl|rfl <;>exact trivial
def MQ{w:dz}{n h:Nat}{s:bE}{e:Option Int}(o:eY w)(x:dh w n s)(b:n<=100):Pl 10 (Kn s h e):=by
 refine⟨by show 2<=1000;decide,λd a=> ?_⟩
 simp only[Qsq,QXq,or_false] at a
 rcases a with rfl|rfl
 ·exact Hb o x b
 ·cases e with
  |none=>exact trivial
  | some v=>
    refine⟨by show 2<=1000;decide,λd a=> ?_⟩
    simp only[Qsq,QXq,or_false] at a
    rcases a with rfl|rfl <;>exact trivial
def HD{w:dz}:Nn (dk w):=λr d=>by
 obtain⟨q,_,rfl⟩:=Qkq.mp d
 exact⟨by show -1<=(-1:Int);decide,λ_ h=>(nomatch h),λ_ h=>(nomatch h),λl a p c=>by
  obtain⟨b,_,rfl⟩:=Qkq.mp a
  exact(nomatch c)⟩
def Go.re{lo k:Nat}{S0 S a:aE}{t:yY}{s:bE}(g:Go lo S0 S t s)(c:k<lo)(x:Ex k S a):Go lo a a t s:=
 ⟨⟨λp b=>x.keep p.1 p.2 (by have:=g.n.lo p.1 ((z9 t s).mem (Qkq.mpr ⟨p,b,rfl⟩));omega) (g.n.ho p b),g.n.nd,g.n.lo,g.n.lr,g.n.lp,g.n.lh,g.n.lb,g.n.lf⟩,Bp.refl,by have:=g.k.len;have:=g.l;have:=x.len;omega⟩
def Ex.kept{k:Nat}{S d S2:aE}(x:Ex k S d)(e:k<S.length)(y:Bp S.length d S2):Ex k S S2:=by
 obtain⟨a,b,c,h⟩:=x.pot
 exact⟨QAq x.len y.len,λj o n h=>by rw[y.eq j (gQs.mp h).1];exact x.keep j o n h,a,b,c,by rw[y.eq k e];exact h⟩
def Hf{w:dz}{k m:Nat}(o:eY w)(x:Ex k S0 S)(hm:m<=60)(q:∀i,Ex k S0 i->Q (.d (.bl true)) i):Fn kM [.ref k,w.d,.int m] S Q:=by
 have y:Ex k S S:=by obtain⟨a,b,c,B⟩:=x.pot;exact Ex.refl B
 have I:=x.lt
 refine bZ ?_
 unfold o_
 refine aI (cK (dY (D7 (az (aw rfl (aZ (HR o λS1 t Y g=> ?_)))))))
 refine Pz ?_
 rw[←Y]
 have r:=y.kept I g.k
 symm
 apply Ih o ?_
 apply j8 ?_
 refine⟨1,rfl,?_⟩
 refine aI (hV (HZ (aw rfl ⟨m,rfl,by omega,?_⟩)))
 refine⟨λj n i=>∃(s:bE) (e:Int) (P L W J:Option D) (F:yY) (S0:aE),n= [some (.ref k),some w.d,some (.int m),some (.ref t.k),some s.d,some (.int e),P,L,W,J]/\F.k=t.k/\Go S.length S0 i F s/\Nn s/\dh w (1+j) s/\Ex k S i,⟨dk w,-1,_,_,_,_,t,S,rfl,rfl,g,HD,Fk o,r⟩,λ_ _ _ _=>trivial,?_,?_⟩
 ·rintro j d n i hd ⟨s,e,P,L,W,J,F,H,rfl,htk,g,nn,hinv,r⟩
  obtain⟨rfl,hj⟩:=vO (j:=m) hd
  refine aV ?_
  have R:=hinv.mays o (by omega)
  have a0:k<i.length:=r.lt
  refine aI (cK (dY (D7 (az (aw rfl (az (aw rfl (aZ ?_))))))))
  rw[←htk]
  apply Kl g o hinv (by omega) ?_
  apply a_ aN ?_
  apply⟨⟨rfl,aN⟩,?_⟩
  by_cases v:qp w s= []
  ·rw[v]
   refine aK (λc=>by cases c) (λ_=>bX ?_)
   exact⟨s,e,_,_,_,_,F,H,rfl,rfl,g.app,nn,hinv.mono (by omega),r.app⟩
  ·have C:0<(qp w s).length:=List.length_pos_iff.mpr v
   have M:(!((qp w s).map lX).isEmpty)=true:=by
    cases hc:qp w s with
    |nil=>exact absurd hc v
    |cons a l=>rfl
   rw[M,Qhq rfl]
   have a1:(qp w s).length<=4:=by
    have h1:=List.length_filter_le (λh:Nat=> !decide ((h:Int)∈held s)&& !iP w s h) (List.range s.af.length)
    have h2:=hinv.lh
    have h3:=o.l4
    rw[QVq] at h1
    unfold qp
    omega
   symm
   refine J_ (S0:=S) r.app (by omega) aN C (by omega) λh S3 B e1 Z _=> ?_
   have g3:=(g.app (G:= [O.lst ((qp w s).map lX)])).re I Z
   have N:h<s.af.length:=List.mem_range.mp (List.mem_filter.mp B).1
   obtain⟨⟨vs,fs⟩,X⟩:∃p,s.af[h]?=some p:=⟨_,gQe N⟩
   obtain⟨ts,pr,hw,hi⟩:=hinv.whand X
   obtain⟨f,hf,fi⟩:=hi.last
   obtain⟨K,A⟩:=Kv o hinv (by omega) B X hf
   refine aI (cK (cj (az (aw rfl (az (aw rfl (az (aw rfl (aZ ?_)))))))))
   apply HH g3 nn o hinv (by omega) B λS4 t4 u U=> ?_
   refine Da R B K ?_
   refine aI (bO (vo (Ci (cj (az (aw rfl (az (sR (az (cj (az (aw rfl (aZ ?_)))))))))))))
   rw[←u]
   apply FL U o A (by omega) ?_
   refine⟨by show 2<=_;decide,?_⟩
   symm
   refine Ek 10 (Kn (eP w s h).1 h (eP w s h).2) (MQ o A (by omega)) ?_
   refine rC ?_
   apply aK (λc=>by cases c) (λ_=>bX ?_)
   refine ay (d:=(eP w s h).1.d) rfl ?_
   rw[u]
   exact⟨_,_,_,_,_,_,t4,S3,rfl,u,U,nn.step,A.mono (by omega),e1.kept I U.k⟩
 ·rintro n i ⟨s,e,P,L,W,J,F,H,rfl,htk,g,nn,hinv,r⟩
  symm
  refine lT r I (λk z=>(nomatch z)) rfl λa b c=>q _ x.set
end
def G3:∀ns:List Int,ns.length<=63->∃b,JC [.ref 0] [.frz (ns.map D.int)]=some (.d (.bl true),b):=by
 intro ns M
 suffices h:Fn JC [.ref 0] [.frz (ns.map D.int)] λr _=>r=.d (.bl true) by
  obtain⟨r,b,e,rfl⟩:=h
  exact⟨b,e⟩
 refine bZ ?_
 unfold Mj
 refine aI (hV ?_)
 apply HZ ?_
 apply HE rfl ?_
 apply Hc ?_
 refine GT ?_
 obtain⟨m,F,G⟩:∃m:Nat,(if (if (4:Int)<((ns.map D.int).length:Nat) then(4:Int) else((ns.map D.int).length:Nat))>(1:Int) then(if (4:Int)<((ns.map D.int).length:Nat) then(4:Int) else((ns.map D.int).length:Nat)) else 1)=(m:Int)/\m<=4:=by
  refine⟨(if (if (4:Int)<((ns.map D.int).length:Nat) then(4:Int) else((ns.map D.int).length:Nat))>(1:Int) then(if (4:Int)<((ns.map D.int).length:Nat) then(4:Int) else((ns.map D.int).length:Nat)) else 1).toNat,?_,?_⟩ <;>(repeat' split) <;>omega
 refine⟨m,congrArg D.int F,by omega,?_⟩
 refine⟨λn f b=>(∃t p u,f= [some (.ref 0),t,p,u])/\b[0]?=some (.frz (ns.map D.int)),⟨⟨_,_,_,rfl⟩,rfl⟩,λ_ _ _ _=>trivial,?_,?_⟩
 ·rintro n d f S P ⟨⟨t,p,u,rfl⟩,hS⟩
  obtain⟨rfl,_⟩:=vO P
  apply aV ?_
  refine LS hS λj i=> ?_
  have g:Ex S.length (S++ [rZ j i 0]) (S++ [rZ j i 0]):=Ex.refl aN
  have x:(S++ [rZ j i 0])[0]?=some (.frz (ns.map D.int)):=aO hS
  have I:0≠S.length:=by
   have:=(gQs.mp hS).1
   omega
  refine aI (cK (cj (az (aw rfl (az (aY (cC (cj (az (aw rfl (az (cC (aZ (bQ g (by decide) (by decide) λC S2 U B _ _=> ?_))))))))))))))
  refine⟨_,rfl,?_⟩
  refine az (dY (dE (az (cC (aZ ⟨by show 1<=_;decide,az (cC (aZ ?_))⟩)))))
  have Q:Ex S.length (S++ [rZ j i 0]) (S2++ [O.lst ((["at once"]:List Str).map D.str)]):=B.app
  have K:=B.lt
  rw[show(1:Int)+(C:Int)=((1+C:Nat):Int) by omega]
  refine IK (ms:= ["at once"]) (bm:=3) Q (by omega) aN (λs H=>.inl (by simpa using H)) (by decide) (by decide) (by decide) (by omega) λrs Z L q v W _ _=> ?_
  refine bO (vo (Ci (cj (az (aw rfl (az (cj (az (aw rfl (az (aw rfl (az (aY (cC (cj (az (aw rfl (az (cC (aZ (bQ W (by decide) (by decide) λy X N J _ _=> ?_)))))))))))))))))))))
  refine⟨_,rfl,?_⟩
  refine az (cC (aZ ?_))
  rw[show(2:Int)+(y:Int)=((2+y:Nat):Int) by omega]
  refine He (pm:=0) J (by omega) (by omega) (by decide) L q v λw Y ok x6 _ _=> ?_
  refine az (cC (aZ ?_))
  refine Hf (m:=50) ok x6 (by decide) λS6 R=> ?_
  refine rC ?_
  refine aK (λc=>by cases c) (λ_=>bX ?_)
  exact⟨⟨_,_,_,rfl⟩,R.keep 0 _ I x⟩
 ·rintro f b ⟨⟨t,p,u,rfl⟩,hS⟩
  symm
  have q:=(gQs.mp hS).1
  refine iM (S2:= [.frz (ns.map D.int)]) ⟨by show 1<=b.length;omega,λk o A e=> ?_⟩ ?_ (λk z=>(nomatch z)) rfl rfl
  ·have A:k<1:=A
   have:k=0:=by omega
   subst this
   rw[hS] at e
   exact .inl e
  ·cases b with
   |nil=>simp at q
   | cons a l=>
     simp at hS
     subst hS
     rfl
end W28
open PySem PySem.W PyProof.Rows L2 DL
theorem PySem.Challenge.cw_calledroom_k23_called_at_once_holds : PySem.Challenge.rw_calledroom_k23_called_at_once.Holds := by
  w_on; o_law; k_head; (case hw => w_witness2)
  k_fill
  refine DL.M7 (l := PySem.Challenge.rw_calledroom_k23_called_at_once) (k := 15) rfl rfl ⟨rfl, by decide, by decide⟩ (λw h Y => PySem.W.kIn_of Y) (λw => ?nl) ?F
  case nl => rfl
  case F =>
    intro w mg fa h KX G hmg
    refine' W28.all_mk KX G hmg ?_ ?_ ?_ ?_ ?_ ?_ ?_ ?_ ?_ ?_ ?_ ?_ ?_ ?_ ?_ ?_ ?_ ?_ ?_ ?_ ?_ ?_ ?_ ?_ ?_ ?_ ?_ ?_ ?_ ?_ ?_ ?_ ?_ ?_ ?_ ?_ ?_ ?_ ?_ ?_ ?_ ?_ ?_ ?_ ?_ ?_ ?_ ?_ ?_ ?_ ?_ ?_ ?_ ?_ ?_ ?_ ?_ ?_ ?_ ?_ ?_ ?_ ?_ ?_ ?_ ?_ ?_ ?_ ?_ ?_ ?_ ?_ ?_ ?_ ?_ ?_ ?_ ?_ ?_ ?_ ?_ ?_ ?_ ?_ ?_ ?_ ?_ ?_ ?_ ?_ ?_ ?_ ?_ ?_ ?_ ?_ ?_ ?_ ?_ ?_ ?_ ?_ ?_ W28.G3
    any_goals first | exact DL.aX.of (by k_is) (by k_is) (by k_is) (by k_is) | k_is
